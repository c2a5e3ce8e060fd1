import PyProof.Rows.All
import Wide.All
import OpenK.AllK
import Wide.FinOn
import Lean
import PyProof.EqAt
import PyProof.EqKinds
import PyProof.TupleCall
import PyProof.NeData
import PyProof.FactsAll.tuple_2
import PySem.Challenge.RW_pulsebook_k21_spoilt_texts
set_option Elab.async false
set_option linter.all false
set_option maxRecDepth 100000
namespace L2
open PySem PySem.Spec PyProof.Rows
abbrev Key := Sum Int Str
def keyIs : Key → Value → Bool
  | .inl k, v => Value.isInt k v
  | .inr x, v => Value.isStrOf x v
def keyH (w : World) : Key → Int
  | .inl k => hashInt k
  | .inr x => hashStr w x
theorem keyIs_shape : ∀ {k : Key} {v : Value}, keyIs k v = true → (∃ i t, k = Sum.inl i ∧ v = Value.int i t) ∨ (∃ x t, k = Sum.inr x ∧ v = Value.str x t)
  | .inl i, v, h => by
    obtain ⟨t, e⟩ := Value.isInt_shape (k := i) (v := v) h
    exact .inl ⟨i, t, rfl, e⟩
  | .inr x, v, h => by
    obtain ⟨t, e⟩ := Value.isStrOf_shape (x := x) (v := v) h
    exact .inr ⟨x, t, rfl, e⟩
theorem keyIs_int (i : Int) (t : Tok) : keyIs (.inl i) (.int i t) = true := by simp [keyIs, Value.isInt]
theorem keyIs_str (x : Str) (t : Tok) : keyIs (.inr x) (.str x t) = true := by simp [keyIs, Value.isStrOf]
theorem key_ll (a b : Int) : decide ((Sum.inl a : Key) = Sum.inl b) = (a == b) := by
  by_cases e : a = b
  · subst e; simp
  · have h : ¬ (Sum.inl a : Key) = Sum.inl b := fun q => e (Sum.inl.inj q)
    rw [decide_eq_false h]
    exact (beq_eq_false_iff_ne.mpr e).symm
theorem key_rr (a b : Str) : decide ((Sum.inr a : Key) = Sum.inr b) = decide (a = b) := by
  by_cases e : a = b
  · subst e; simp
  · have h : ¬ (Sum.inr a : Key) = Sum.inr b := fun q => e (Sum.inr.inj q)
    rw [decide_eq_false h, decide_eq_false e]
theorem key_lr (a : Int) (b : Str) : decide ((Sum.inl a : Key) = Sum.inr b) = false := decide_eq_false (fun q => nomatch q)
theorem key_rl (a : Str) (b : Int) : decide ((Sum.inr a : Key) = Sum.inl b) = false := decide_eq_false (fun q => nomatch q)
def mixKind (prog : Program) (w : World) : PySem.KeyKind prog w Key where
  is := keyIs
  hash := keyH w
  inj := fun v a b ha hb => by
    rcases keyIs_shape ha with ⟨i, t, rfl, rfl⟩ | ⟨x, t, rfl, rfl⟩
    · rcases keyIs_shape hb with ⟨j, u, rfl, e⟩ | ⟨y, u, rfl, e⟩
      · injection e with e1 _; rw [e1]
      · exact nomatch e
    · rcases keyIs_shape hb with ⟨j, u, rfl, e⟩ | ⟨y, u, rfl, e⟩
      · exact nomatch e
      · injection e with e1 _; rw [e1]
  byValue := fun k v h => by
    rcases keyIs_shape h with ⟨i, t, rfl, rfl⟩ | ⟨x, t, rfl, rfl⟩ <;> rfl
  pyHash := fun hv h => by
    rcases keyIs_shape hv with ⟨i, t, rfl, rfl⟩ | ⟨x, t, rfl, rfl⟩
    · exact wpAny_pyHash_int h
    · exact wpAny_pyHash_str h
  eqBool := fun hu hv h => by
    rcases keyIs_shape hu with ⟨i, t, rfl, rfl⟩ | ⟨x, t, rfl, rfl⟩
    · rcases keyIs_shape hv with ⟨j, u, rfl, rfl⟩ | ⟨y, u, rfl, rfl⟩
      · rw [key_ll] at h; exact wpAny_eqBool_int h
      · rw [key_lr] at h; exact SeqAt.EqAt.int_str i t y u _ _ _ _ h
    · rcases keyIs_shape hv with ⟨j, u, rfl, rfl⟩ | ⟨y, u, rfl, rfl⟩
      · rw [key_rl] at h; exact SeqAt.EqAt.str_int x t j u _ _ _ _ h
      · rw [key_rr] at h; exact wpAny_eqBool_str h
  «strs» := fun k x t v h => by
    rcases keyIs_shape h with ⟨i, u, rfl, e⟩ | ⟨y, u, rfl, e⟩
    · exact nomatch e
    · injection e with e1 _
      subst e1
      cases v <;> rfl
theorem mixKind_int (prog : Program) (w : World) (i : Int) (t : Tok) : (mixKind prog w).is (.inl i) (.int i t) = true := keyIs_int i t
theorem mixKind_str (prog : Program) (w : World) (x : Str) (t : Tok) : (mixKind prog w).is (.inr x) (.str x t) = true := keyIs_str x t
end L2
namespace L2
open PySem PySem.Spec PyProof.Rows
inductive V where
  | non | bl (b : Bool) | int (i : Int) | str (x : Str) | byt (b : Array UInt8) | flt (b : UInt64) | ref (a : Addr) | ty (n : String)
  deriving DecidableEq
def RelV : V → Value → Prop
  | .non, u => u = Value.none
  | .bl b, u => u = Value.bool b
  | .int i, u => ∃ t, u = Value.int i t
  | .str x, u => ∃ t, u = Value.str x t
  | .byt b, u => ∃ t, u = Value.bytes b t
  | .flt b, u => ∃ t, u = Value.float b t
  | .ref a, u => u = Value.ref a
  | .ty n, u => u = Value.type n
abbrev Vals : List V → List Value → Prop := Paired RelV
theorem Vals.length {xs : List V} {us : List Value} (r : Vals xs us) : xs.length = us.length := Paired.length r
theorem Vals.get : ∀ {xs : List V} {us : List Value} {i : Nat} {x : V}, Vals xs us → xs[i]? = some x → ∃ u, us[i]? = some u ∧ RelV x u
  | _, _, _, _, .nil, e => by simp at e
  | _, _, 0, _, .cons r _, e => by simp at e; subst e; exact ⟨_, rfl, r⟩
  | _, _, i + 1, x, .cons _ t, e => by
    obtain ⟨u, h1, h2⟩ := Vals.get (i := i) (x := x) t (by simpa using e)
    exact ⟨u, by simpa using h1, h2⟩
theorem Vals.set {x : V} {u : Value} (r : RelV x u) : ∀ {xs : List V} {us : List Value} (i : Nat), Vals xs us → Vals (xs.set i x) (us.set i u)
  | _, _, _, .nil => .nil
  | _, _, 0, .cons _ t => .cons r t
  | _, _, i + 1, .cons q t => .cons q (Vals.set r i t)
theorem Vals.append : ∀ {xs ys : List V} {us ws : List Value}, Vals xs us → Vals ys ws → Vals (xs ++ ys) (us ++ ws)
  | _, _, _, _, .nil, s => s
  | _, _, _, _, .cons r t, s => .cons r (Vals.append t s)
theorem Vals.take : ∀ {xs : List V} {us : List Value} (n : Nat), Vals xs us → Vals (xs.take n) (us.take n)
  | _, _, 0, _ => .nil
  | _, _, _ + 1, .nil => .nil
  | _, _, n + 1, .cons r t => .cons r (Vals.take n t)
theorem Vals.drop : ∀ {xs : List V} {us : List Value} (n : Nat), Vals xs us → Vals (xs.drop n) (us.drop n)
  | _, _, 0, r => r
  | _, _, _ + 1, .nil => .nil
  | _, _, n + 1, .cons _ t => Vals.drop n t
theorem Vals.none_of : ∀ {xs : List V} {us : List Value} {i : Nat}, Vals xs us → xs[i]? = none → us[i]? = none := fun {xs us i} r e => by
  have h1 := r.length
  have h2 : xs.length ≤ i := List.getElem?_eq_none_iff.mp e
  exact List.getElem?_eq_none_iff.mpr (by omega)
def RelO : Option V → Option Value → Prop
  | some v, some u => RelV v u
  | none, none => True
  | _, _ => False
def KV {κ : Type} : List (κ × V) → List (κ × Value) → Prop := Paired fun (p : κ × V) (q : κ × Value) => p.1 = q.1 ∧ RelV p.2 q.2
def kV : Key → V
  | .inl i => .int i
  | .inr x => .str x
inductive HO where
  | lst (xs : List V)
  | tup (xs : List V)
  | dK (kvs : List (Key × V)) | dT (kvs : List (List Key × V))
  | set (S : Int → Bool) (n : Nat)
  | ins (C dx : Addr) (fs : List (Str × V))
  | own (x : Addr)
  | xd (fs : List (Str × V))
  | met (f x : Addr)
  | rng (lo hi : Int)
  | frz (o : Obj) (u : HO)
  | tbl (ps : Array Value)
  | ext (φ : Heap → Prop)
abbrev Hp := Addr → Option HO
def upd (H : Hp) (a : Addr) (o : HO) : Hp := fun b => if b = a then some o else H b
theorem upd_same {H : Hp} {a : Addr} {o : HO} : upd H a o a = some o := by unfold upd; rw [if_pos rfl]
theorem upd_ne {H : Hp} {a b : Addr} {o : HO} (h : b ≠ a) : upd H a o b = H b := by unfold upd; rw [if_neg h]
theorem ne_of_none {H : Hp} {a b : Addr} {o : HO} (h : H a = some o) (h' : H b = none) : a ≠ b := by
  intro e; subst e; rw [h] at h'; cases h'
section
variable (P : Program) (w : World)
def ObjOk (H : Hp) (h : Heap) (a : Addr) : HO → Prop
  | .lst xs => xs.length ≤ sizeLine ∧ ∃ (its : List Value) (n : Nat), Vals xs its ∧ h.get? a = some { cls := .type "list", data := .seq its.toArray n }
  | .tup xs => xs.length ≤ sizeLine ∧ ∃ its : List Value, Vals xs its ∧ IsTup h a its.toArray
  | .dK kvs => kvs.length ≤ sizeLine ∧ (a == sysModules) = false ∧ ∃ vs, KV kvs vs ∧ h.DictOf (mixKind P w) a vs
  | .dT kvs => kvs.length ≤ sizeLine ∧ (a == sysModules) = false ∧ ∃ xs : List (List Key × Addr × Value),
      Paired (fun (p : List Key × V) (q : List Key × Addr × Value) => p.1 = q.1 ∧ H q.2.1 = some (.tup (p.1.map kV)) ∧ RelV p.2 q.2.2) kvs xs ∧
      ∃ o es ep, h.get? a = some o ∧ o.ExactDict ∧ o.data = .dict es ep ∧ es.toList = xs.map (entryOfKey (tupleKind (mixKind P w))) ∧ (xs.map (·.1)).Nodup
  | .set S n => h.SetOf (intKind P w) a S n
  | .ins C dx fs => H dx = some (.own a) ∧ fs.length ≤ 1000 ∧ dx ≠ a ∧ h.get? a = some (PySem.W.instObj C dx) ∧
      ∃ mA, h.Ns1 dx mA ∧ (∀ f, RelO (fs.lookup f) (mA f)) ∧ PySem.Within mA (fs.map (·.1))
  | .own _ => ∃ o, h.get? a = some o
  | .xd fs => ∃ mA, h.Ns1 a mA ∧ ∀ f, RelO (fs.lookup f) (mA f)
  | .rng lo hi => ∃ t u v, h.get? a = some { cls := .type "range", data := .fields #[.int lo t, .int hi u, .int 1 v] }
  | .frz o u => h.get? a = some o ∧ ObjOk H h a u
  | .tbl ps => h.get? a = some { cls := .none, data := .fields ps }
  | .met f x => h.get? a = some (PySem.W.methodObj (.ref f) (.ref x))
  | .ext φ => φ h ∧ (∃ o, h.get? a = some o) ∧ ∀ h1 h2 : Heap, φ h1 → (∀ o, h1.get? a = some o → h2.get? a = some o) → φ h2
def HOk (H : Hp) (h : Heap) : Prop := ∀ a o, H a = some o → ObjOk P w H h a o
end
section
variable {P : Program} {w : World} {H H' : Hp} {h h' : Heap} {a : Addr} {o : HO}
theorem ObjOk.lt (x : ObjOk P w H h a o) : a < h.objs.size := by
  cases o with
  | lst xs => obtain ⟨_, _, _, _, e⟩ := x; exact Heap.lt_size e
  | tup xs => obtain ⟨_, _, _, p⟩ := x; exact p.lt
  | dK kvs => obtain ⟨_, _, _, _, o, _, _, e, _⟩ := x; exact Heap.lt_size e
  | dT kvs => obtain ⟨_, _, _, _, o, _, _, e, _⟩ := x; exact Heap.lt_size e
  | set S n => obtain ⟨o, _, _, _, e, _⟩ := x; exact Heap.lt_size e
  | ins C dx fs => obtain ⟨_, _, _, e, _⟩ := x; exact Heap.lt_size e
  | own y => obtain ⟨_, e⟩ := x; exact Heap.lt_size e
  | xd fs => obtain ⟨_, ⟨_, _, _, e, _⟩, _⟩ := x; exact Heap.lt_size e
  | rng lo hi => obtain ⟨_, _, _, e⟩ := x; exact Heap.lt_size e
  | frz ob u => obtain ⟨e, _⟩ := x; exact Heap.lt_size e
  | tbl ps => exact Heap.lt_size (show h.get? a = some _ from x)
  | met f y => exact Heap.lt_size (show h.get? a = some _ from x)
  | ext φ => obtain ⟨_, ⟨_, e⟩, _⟩ := x; exact Heap.lt_size e
theorem Paired.mapP {α β : Type} {F G : α → β → Prop} : ∀ {l₁ : List α} {l₂ : List β}, Paired F l₁ l₂ → (∀ a b, F a b → G a b) → Paired G l₁ l₂
  | _, _, .nil, _ => .nil
  | _, _, .cons r t, f => .cons (f _ _ r) (Paired.mapP t f)
theorem ObjOk.stay (x : ObjOk P w H h a o) (k : ∀ b u, (b = a ∨ H b = some (.own a)) → h.get? b = some u → h'.get? b = some u)
    (ho : ∀ b, H b = some (.own a) → H' b = some (.own a)) (ht : ∀ b xs, H b = some (.tup xs) → H' b = some (.tup xs)) : ObjOk P w H' h' a o := by
  induction o with
  | lst xs => obtain ⟨z, its, n, r, e⟩ := x; exact ⟨z, its, n, r, k _ _ (.inl rfl) e⟩
  | tup xs => obtain ⟨z, its, r, ob, e, c⟩ := x; exact ⟨z, its, r, ob, k _ _ (.inl rfl) e, c⟩
  | dK kvs => obtain ⟨z, y, vs, r, ob, es, ep, e, c⟩ := x; exact ⟨z, y, vs, r, ob, es, ep, k _ _ (.inl rfl) e, c⟩
  | dT kvs =>
    obtain ⟨z, y, xs, r, ob, es, ep, e, c⟩ := x
    exact ⟨z, y, xs, Paired.mapP r fun p q z => ⟨z.1, ht _ _ z.2.1, z.2.2⟩, ob, es, ep, k _ _ (.inl rfl) e, c⟩
  | set S n => obtain ⟨ob, es, ep, t, e, c⟩ := x; exact ⟨ob, es, ep, t, k _ _ (.inl rfl) e, c⟩
  | ins C dx fs =>
    obtain ⟨d, z, ne, e, mA, ⟨od, es, ep, e2, c⟩, r⟩ := x
    exact ⟨ho _ d, z, ne, k _ _ (.inl rfl) e, mA, ⟨od, es, ep, k _ _ (.inr d) e2, c⟩, r⟩
  | own y => obtain ⟨ob, e⟩ := x; exact ⟨ob, k _ _ (.inl rfl) e⟩
  | xd fs => obtain ⟨mA, ⟨od, es, ep, e, c⟩, r⟩ := x; exact ⟨mA, ⟨od, es, ep, k _ _ (.inl rfl) e, c⟩, r⟩
  | rng lo hi => obtain ⟨t, u, v, e⟩ := x; exact ⟨t, u, v, k _ _ (.inl rfl) e⟩
  | frz ob u ih => obtain ⟨e, q⟩ := x; exact ⟨k _ _ (.inl rfl) e, ih q⟩
  | tbl ps =>
    have e : h.get? a = some { cls := .none, data := .fields ps } := x
    show h'.get? a = some { cls := .none, data := .fields ps }
    exact k a _ (.inl rfl) e
  | met f y =>
    have e : h.get? a = some (PySem.W.methodObj (.ref f) (.ref y)) := x
    show h'.get? a = some (PySem.W.methodObj (.ref f) (.ref y))
    exact k a _ (.inl rfl) e
  | ext φ => obtain ⟨p, ⟨o, e⟩, st⟩ := x; exact ⟨st _ _ p fun o q => k _ _ (.inl rfl) q, ⟨o, k _ _ (.inl rfl) e⟩, st⟩
theorem HOk.lt (x : HOk P w H h) (e : H a = some o) : a < h.objs.size := (x a o e).lt
theorem HOk.fresh (x : HOk P w H h) (e : h.objs.size ≤ a) : H a = none := by
  cases q : H a with
  | none => rfl
  | some u => exact absurd (Nat.lt_of_lt_of_le (x.lt q) e) (Nat.lt_irrefl _)
theorem HOk.kept (x : HOk P w H h) (k : ∀ b u, h.get? b = some u → h'.get? b = some u) : HOk P w H h' := fun a o e =>
  (x a o e).stay (fun b u _ q => k b u q) (fun _ q => q) fun _ _ q => q
theorem HOk.laid (x : HOk P w H h) (k : ∀ b u, h.get? b = some u → h'.get? b = some u) (hp : h.objs.size ≤ a) (new : ObjOk P w (upd H a o) h' a o) : HOk P w (upd H a o) h' := fun b u e => by
  have hn := x.fresh hp
  by_cases hb : b = a
  · subst hb; rw [upd_same] at e; cases e; exact new
  · rw [upd_ne hb] at e
    exact (x b u e).stay (fun c v _ q => k c v q) (fun c q => by rw [upd_ne (ne_of_none q hn)]; exact q) fun c xs q => by rw [upd_ne (ne_of_none q hn)]; exact q
end
def Rd (H : Hp) (a : Addr) (u : HO) : Prop := H a = some u ∨ ∃ o, H a = some (.frz o u)
theorem Rd.of {H : Hp} {a : Addr} {u : HO} (h : H a = some u) : Rd H a u := .inl h
theorem Rd.ok {P : Program} {w : World} {H : Hp} {h : Heap} {a : Addr} {u : HO} (r : Rd H a u) (x : HOk P w H h) : ObjOk P w H h a u := by
  rcases r with r | ⟨o, r⟩
  · exact x a u r
  · obtain ⟨_, q⟩ := x a _ r
    exact q
def Mut : Option HO → Prop
  | some (.lst _) => True
  | some (.dK _) => True
  | some (.dT _) => True
  | some (.set _ _) => True
  | some (.ins _ _ _) => True
  | some (.ext _) => True
  | _ => False
section
variable {P : Program} {w : World} {H : Hp} {h h' : Heap} {x e : Addr} {o' : HO}
theorem HOk.write (ok : HOk P w H h) (mu : Mut (H x)) (he : e = x ∨ H e = some (.own x)) (k : ∀ b u, b ≠ e → h.get? b = some u → h'.get? b = some u) (heo : ∃ u, h'.get? e = some u)
    (new : ObjOk P w (upd H x o') h' x o') : HOk P w (upd H x o') h' := fun b u q => by
  have nown : ∀ c y, H c = some (.own y) → c ≠ x := fun c y r z => by subst z; rw [r] at mu; exact mu
  have ntup : ∀ c xs, H c = some (.tup xs) → c ≠ x := fun c xs r z => by subst z; rw [r] at mu; exact mu
  by_cases hb : b = x
  · subst hb; rw [upd_same] at q; cases q; exact new
  · rw [upd_ne hb] at q
    by_cases hbe : b = e
    · have q' : H b = some (.own x) := by
        rcases he with z | z
        · exact absurd (hbe.trans z) hb
        · rw [hbe]; exact z
      rw [q] at q'; cases q'
      obtain ⟨v, hv⟩ := heo
      exact ⟨v, by rw [hbe]; exact hv⟩
    · refine (ok b u q).stay (fun c v hc r => k c v ?_ r) (fun c r => by rw [upd_ne (nown c b r)]; exact r) fun c xs r => by rw [upd_ne (ntup c xs r)]; exact r
      rcases hc with rfl | hc
      · exact hbe
      · rintro rfl
        rcases he with z | z
        · exact nown c b hc z
        · rw [hc] at z; cases z; exact hb rfl
end
structure Un (fs ex : List Addr) (H H' : Hp) (h h' : Heap) : Prop where
  keep : ∀ b o, h.get? b = some o → H b = none → b ∉ fs → b ∉ ex → h'.get? b = some o
  slot : ∀ b o, h.get? b = some o → H b = none → b ∈ fs → b ∉ ex → ∃ sl, h'.get? b = some { o with slots := sl }
  free : ∀ b o, h.get? b = some o → H b = none → b ∉ ex → H' b = none
  there : ∀ b o, h.get? b = some o → b ∉ ex → ∃ o', h'.get? b = some o'
  tups : ∀ b xs, H b = some (.tup xs) → H' b = some (.tup xs)
  frzs : ∀ b o u, H b = some (.frz o u) → H' b = some (.frz o u)
  tbls : ∀ b ps, H b = some (.tbl ps) → ∃ more, H' b = some (.tbl (ps ++ more))
section
variable {fs fs' ex ex' : List Addr} {H H1 H2 : Hp} {h h1 h2 h' : Heap} {a x e : Addr} {o : HO}
theorem Un.any (u : Un fs ex H H1 h h1) {b : Addr} {ob : Obj} (q : h.get? b = some ob) (n : H b = none) (hx : b ∉ ex) : ∃ sl, h1.get? b = some { ob with slots := sl } := by
  by_cases hb : b ∈ fs
  · exact u.slot b ob q n hb hx
  · exact ⟨ob.slots, u.keep b ob q n hb hx⟩
theorem Un.trans (a : Un fs ex H H1 h h1) (b : Un fs ex H1 H2 h1 h2) : Un fs ex H H2 h h2 where
  keep := fun c ob q n hc hx => b.keep c ob (a.keep c ob q n hc hx) (a.free c ob q n hx) hc hx
  slot := fun c ob q n hc hx => by
    obtain ⟨sl, e1⟩ := a.slot c ob q n hc hx
    obtain ⟨sl', e2⟩ := b.slot c _ e1 (a.free c ob q n hx) hc hx
    exact ⟨sl', e2⟩
  free := fun c ob q n hx => by
    obtain ⟨o', e1⟩ := a.there c ob q hx
    exact b.free c o' e1 (a.free c ob q n hx) hx
  there := fun c ob q hx => by
    obtain ⟨o', e1⟩ := a.there c ob q hx
    exact b.there c o' e1 hx
  tups := fun c xs q => b.tups c xs (a.tups c xs q)
  frzs := fun c ob xs q => b.frzs c ob xs (a.frzs c ob xs q)
  tbls := fun c ps q => by
    obtain ⟨m1, e1⟩ := a.tbls c ps q
    obtain ⟨m2, e2⟩ := b.tbls c _ e1
    exact ⟨m1 ++ m2, by rw [e2, Array.append_assoc]⟩
theorem Un.kept (k : ∀ b u, h.get? b = some u → h'.get? b = some u) : Un fs ex H H h h' :=
  ⟨fun b ob q _ _ _ => k b ob q, fun b ob q _ _ _ => ⟨ob.slots, k b ob q⟩, fun _ _ _ n _ => n, fun b ob q _ => ⟨ob, k b ob q⟩, fun _ _ q => q, fun _ _ _ q => q, fun _ ps q => ⟨#[], by rw [q]; simp⟩⟩
theorem Un.refl : Un fs ex H H h h := Un.kept fun _ _ q => q
theorem Un.laid (k : ∀ b u, h.get? b = some u → h'.get? b = some u) (hp : h.objs.size ≤ a) (hn : H a = none) : Un fs ex H (upd H a o) h h' where
  keep := fun b u q _ _ _ => k b u q
  slot := fun b u q _ _ _ => ⟨u.slots, k b u q⟩
  free := fun b u q n _ => by rw [upd_ne (Nat.ne_of_lt (Nat.lt_of_lt_of_le (Heap.lt_size q) hp))]; exact n
  there := fun b u q _ => ⟨u, k b u q⟩
  tups := fun b xs q => by rw [upd_ne (ne_of_none q hn)]; exact q
  frzs := fun b u xs q => by rw [upd_ne (ne_of_none q hn)]; exact q
  tbls := fun b ps q => ⟨#[], by rw [upd_ne (ne_of_none q hn), q]; simp⟩
theorem Un.write (mu : Mut (H x)) (he : e = x ∨ H e = some (.own x)) (k : ∀ b u, b ≠ e → h.get? b = some u → h'.get? b = some u) (heo : ∃ u, h'.get? e = some u) : Un fs ex H (upd H x o) h h' := by
  have hx : ∀ b, H b = none → b ≠ x := fun b n z => by subst z; rw [n] at mu; exact mu
  have hb : ∀ b, H b = none → b ≠ e := fun b n z => by
    subst z
    rcases he with r | r
    · exact hx b n r
    · rw [n] at r; cases r
  have hm : ∀ b u, H b = some u → ¬ Mut (some u) → b ≠ x := fun b u q nm z => by subst z; rw [q] at mu; exact nm mu
  refine ⟨fun b u q n _ _ => k b u (hb b n) q, fun b u q n _ _ => ⟨u.slots, k b u (hb b n) q⟩, fun b u q n _ => by rw [upd_ne (hx b n)]; exact n, fun b u q _ => ?_,
    fun b xs q => by rw [upd_ne (hm b _ q fun z => z)]; exact q, fun b u xs q => by rw [upd_ne (hm b _ q fun z => z)]; exact q, fun b ps q => ⟨#[], by rw [upd_ne (hm b _ q fun z => z), q]; simp⟩⟩
  by_cases hbe : b = e
  · subst hbe; exact heo
  · exact ⟨u, k b u hbe q⟩
theorem Un.mono (u : Un fs ex H H1 h h1) (hs : ∀ b ∈ fs, b ∈ fs') (hx : ∀ b ∈ ex, b ∈ ex') : Un fs' ex' H H1 h h1 :=
  ⟨fun b ob q n hb he => u.keep b ob q n (fun z => hb (hs b z)) fun z => he (hx b z), fun _ _ q n _ he => u.any q n fun z => he (hx _ z), fun b ob q n he => u.free b ob q n fun z => he (hx b z), fun b ob q he => u.there b ob q fun z => he (hx b z), u.tups, u.frzs, u.tbls⟩
end
def trk (h : Heap) (H : Hp) : List Addr := (List.range h.objs.size).filter fun a => (H a).isSome
def hidT (h : Heap) (H : Hp) : Heap := PySem.W.hideAll h (trk h H)
theorem hidT_size (h : Heap) (H : Hp) : (hidT h H).objs.size = h.objs.size := PySem.W.hideAll_size _ _
theorem hidT_get {h : Heap} {H : Hp} {b : Addr} {o : Obj} (e : h.get? b = some o) (n : H b = none) : (hidT h H).get? b = some o :=
  PySem.W.hideAll_get _ e fun hm => by
    have q : (H b).isSome = true := (List.mem_filter.mp hm).2
    rw [n] at q; simp at q
theorem of_hidT {h : Heap} {H : Hp} {b : Addr} {o : Obj} (e : (hidT h H).get? b = some o) : h.get? b = some o ∧ H b = none := by
  have e' : h.get? b = some o := PySem.W.of_hideAll (trk h H) e
  refine ⟨e', ?_⟩
  cases q : H b with
  | none => rfl
  | some x =>
    have hm : b ∈ trk h H := List.mem_filter.mpr ⟨List.mem_range.mpr (Heap.lt_size e'), by simp [q]⟩
    have z : (hidT h H).get? b = none := PySem.W.hideAll_none (trk h H) hm
    rw [z] at e; cases e
def allNews (g h : Heap) (L : Addr) : List (Addr × Obj) := (List.range h.objs.size).filterMap fun a => if a = L ∨ (g.get? a).isSome = true then none else (h.get? a).map fun o => (a, o)
def rest (g h : Heap) (L d : Addr) : List (Addr × Obj) := (allNews g h L).filter fun p => decide (p.1 ≠ d)
end L2
namespace L2
open PySem PySem.Spec PyProof.Rows
structure Mod (K : PySem.W.Frag) (mg : Str → Option Value) (base : Heap) : Prop where
  kin : K.In base
  glob : base.Ns mainGlobals mg
  blt : ∃ mb, base.Ns builtinsNs mb ∧ ∀ x : Str, x ≠ "__name__" → mb x = bootBuiltins x
  nolimit : base.NoLimit
structure Cx where
  prog : Program
  w : World
  K : PySem.W.Frag
  mg : Str → Option Value
  base : Heap
  A : Around
  N : List Str
  s₀ : Shared
  H₀ : Hp
  env : Env
  outer : List Env
  stack : List Env
  ex : List Addr
  fn : Str → Bool
  calm : Bool
  pn : List (Addr × Obj)
  xe : Value → Shared → Prop
def frs (l : List Env) : List Addr := l.filterMap (·.frame)
abbrev Cx.fs (X : Cx) : List Addr := frs X.outer
def Vis (sc : Scope) (x : Str) : Prop := sc.names.lookup x = some .local ∨ sc.names.lookup x = some .cell ∨ sc.names.lookup x = some .free
def Loc (sc : Scope) (x : Str) : Prop := sc.names.lookup x = some .local ∨ sc.names.lookup x = some .cell
def Look (env : Env) (h : Heap) (m : Str → Option Value) (x : Str) (u : Value) : Prop :=
  (env.kindOf x = some .local ∧ m x = some u) ∨ ((env.kindOf x = some .cell ∨ env.kindOf x = some .free) ∧ ∃ c, env.cells.lookup x = some c ∧ h.IsCell c (some u))
structure Cx.Ok (X : Cx) : Prop where
  mod : Mod X.K X.mg X.base
  kind : X.env.scope.kind = .function
  glob : X.env.globals = mainGlobals
  blt : X.env.builtins = builtinsNs
  above : X.s₀.heap.objs.size ≤ X.env.locals
  inj : ∀ x y c, X.env.cells.lookup x = some c → X.env.cells.lookup y = some c → x = y
  has : ∀ x, (X.env.kindOf x = some .cell ∨ X.env.kindOf x = some .free) → ∃ c, X.env.cells.lookup x = some c
  cab : ∀ x c, X.fn x = true → X.env.cells.lookup x = some c → X.s₀.heap.objs.size ≤ c
  hd : X.calm = true → X.A.handled = none
  frames : X.A.frames = some X.stack
  stk : X.stack = X.outer ∨ (X.stack = X.env :: X.outer ∧ X.env.frame = some X.env.locals)
  exf : ∀ b ∈ X.ex, b ≠ X.env.locals ∧ ∀ x c, X.env.cells.lookup x = some c → c ≠ b
  bs : ∀ b o, X.base.get? b = some o → X.s₀.heap.get? b = some o ∧ X.H₀ b = none
  bsz : X.base.objs.size ≤ X.s₀.heap.objs.size
  noex : ∀ b o, X.base.get? b = some o → b ∉ X.ex
  exfs : ∀ b ∈ X.ex, b ∉ X.fs
  funs : X.s₀.heap.FunFrames X.base X.outer
  frf : ∀ b ∈ X.fs, X.H₀ b = none
structure Inv (X : Cx) (pins : List (Addr × Obj)) (σ : List (Option V)) (H : Hp) (s : Shared) : Prop where
  ok : X.Ok
  os : s.os = X.s₀.os
  bare : AllBare s.gens
  base : Un X.fs X.ex X.H₀ H X.s₀.heap s.heap
  loc : ∃ m, s.heap.Ns X.env.locals m ∧ ∀ (i : Nat) (x : Str) (v : V), X.N[i]? = some x → σ[i]? = some (some v) → Vis X.env.scope x → ∃ u, RelV v u ∧ Look X.env s.heap m x u
  cell : ∀ x c, X.env.cells.lookup x = some c → ∃ v, s.heap.IsCell c v
  free : H X.env.locals = none
  freeC : ∀ x c, X.env.cells.lookup x = some c → H c = none
  pin : ∀ p ∈ X.pn ++ pins, s.heap.get? p.1 = some p.2 ∧ H p.1 = none ∧ p.1 ≠ X.env.locals ∧ p.1 ∉ X.fs ∧ ∀ v, p.2.data ≠ .cell v
  hok : HOk X.prog X.w H s.heap
  len : σ.length = X.N.length
section
variable {X : Cx} {pins : List (Addr × Obj)} {σ : List (Option V)} {H H' : Hp} {s : Shared} {h' : Heap}
theorem Cx.Ok.nofr (ok : X.Ok) {b : Addr} {o : Obj} (e : X.base.get? b = some o) : b ∉ X.fs := fun hb => by
  have := (ok.funs.mem hb).1
  rw [e] at this; cases this
theorem Inv.bs (I : Inv X pins σ H s) : ∀ b o, X.base.get? b = some o → s.heap.get? b = some o ∧ H b = none := fun b o e =>
  ⟨I.base.keep b o (I.ok.bs b o e).1 (I.ok.bs b o e).2 (I.ok.nofr e) (I.ok.noex b o e), I.base.free b o (I.ok.bs b o e).1 (I.ok.bs b o e).2 (I.ok.noex b o e)⟩
theorem Inv.bk (I : Inv X pins σ H s) : ∀ b o, X.base.get? b = some o → s.heap.get? b = some o := fun b o e => (I.bs b o e).1
theorem Inv.mod (I : Inv X pins σ H s) : Mod X.K X.mg X.base := I.ok.mod
theorem Inv.kIn (I : Inv X pins σ H s) : X.K.In s.heap := I.ok.mod.kin.keeps I.bk
theorem Inv.nolimit (I : Inv X pins σ H s) : s.heap.NoLimit := I.ok.mod.nolimit.keeps I.bk
theorem Inv.fr (I : Inv X pins σ H s) : ∃ m, Fr X.base X.env.locals s.heap m :=
  let ⟨m, hn, _⟩ := I.loc
  ⟨m, hn, I.bk, Nat.le_trans I.ok.bsz I.ok.above⟩
theorem Inv.lt (I : Inv X pins σ H s) : X.env.locals < s.heap.objs.size := let ⟨_, hn, _⟩ := I.loc; hn.lt
theorem Inv.sz (I : Inv X pins σ H s) : X.s₀.heap.objs.size ≤ s.heap.objs.size := Nat.le_trans I.ok.above (Nat.le_of_lt I.lt)
theorem Inv.nofs (I : Inv X pins σ H s) {a : Addr} (h : s.heap.objs.size ≤ a) : a ∉ X.fs := fun hb => by
  obtain ⟨_, o, ho, _⟩ := I.ok.funs.mem hb
  exact absurd (Nat.lt_of_lt_of_le (Heap.lt_size ho) (Nat.le_trans I.sz h)) (Nat.lt_irrefl _)
theorem Inv.cne (I : Inv X pins σ H s) : ∀ x c, X.env.cells.lookup x = some c → c ≠ X.env.locals := fun x c e z => by
  obtain ⟨v, o, ho, hd⟩ := I.cell x c e
  obtain ⟨m, ⟨o', es, ep, ho', hd', _⟩, _⟩ := I.loc
  rw [z, ho'] at ho; cases ho; rw [hd'] at hd; cases hd
theorem Inv.funs (I : Inv X pins σ H s) : s.heap.FunFrames X.base X.outer := by
  have all : ∀ (l : List Env), (∀ b ∈ frs l, b ∈ X.fs) → X.s₀.heap.FunFrames X.base l → s.heap.FunFrames X.base l := by
    intro l
    induction l with
    | nil => intro _ _; trivial
    | cons env r ih =>
      intro hs hl
      obtain ⟨hk, ⟨L, o, hf, hn, ho, hd⟩, hr⟩ := hl
      have hL : L ∈ X.fs := hs L (by unfold frs; rw [List.filterMap_cons, hf]; exact List.mem_cons_self)
      obtain ⟨sl, e⟩ := I.base.slot L o ho (I.ok.frf L hL) hL fun z => I.ok.exfs L z hL
      exact ⟨hk, ⟨L, _, hf, hn, e, hd⟩, ih (fun b hb => hs b (by unfold frs; rw [List.filterMap_cons, hf]; exact List.mem_cons_of_mem _ hb)) hr⟩
  exact all X.outer (fun _ hb => hb) I.ok.funs
theorem Inv.stack (I : Inv X pins σ H s) : s.heap.FunFrames X.base X.stack := by
  rcases I.ok.stk with e | ⟨e, hf⟩
  · rw [e]; exact I.funs
  · rw [e]
    obtain ⟨m, hn, _⟩ := I.loc
    refine .cons (by rw [I.ok.kind]; decide) hf hn ?_ I.funs
    exact Heap.get?_none_of_le (Nat.le_trans I.ok.bsz I.ok.above)
theorem Inv.stkSub (I : Inv X pins σ H s) : ∀ b ∈ frs X.stack, b ∈ X.env.locals :: X.fs := fun b hb => by
  rcases I.ok.stk with e | ⟨e, hf⟩
  · rw [e] at hb; exact List.mem_cons_of_mem _ hb
  · rw [e] at hb
    unfold frs at hb
    rw [List.filterMap_cons, hf] at hb
    exact hb
theorem Inv.stkFree (I : Inv X pins σ H s) : ∀ b ∈ frs X.stack, H b = none := fun b hb => by
  rcases List.mem_cons.mp (I.stkSub b hb) with e | hb
  · rw [e]; exact I.free
  · obtain ⟨_, o, ho, _⟩ := I.ok.funs.mem hb
    exact I.base.free b o ho (I.ok.frf b hb) fun z => I.ok.exfs b z hb
theorem Inv.step {g' : Array GenState} {t' : Nat} {d' : Drawn} {ch : List Addr} (I : Inv X pins σ H s)
    (hch : ∀ b ∈ ch, (b ∈ X.ex ∨ X.s₀.heap.objs.size ≤ b) ∧ b ≠ X.env.locals ∧ (∀ x c, X.env.cells.lookup x = some c → c ≠ b) ∧ ∀ p ∈ X.pn ++ pins, p.1 ≠ b)
    (keep : ∀ b o, b ≠ X.env.locals → b ∉ X.fs → b ∉ ch → s.heap.get? b = some o → H b = none → h'.get? b = some o)
    (slot : ∀ b o, b ≠ X.env.locals → b ∈ X.fs → b ∉ ch → s.heap.get? b = some o → H b = none → ∃ sl, h'.get? b = some { o with slots := sl }) (free : ∀ b o, b ∉ ch → s.heap.get? b = some o → H b = none → H' b = none)
    (there : ∀ b o, b ∉ ch → s.heap.get? b = some o → ∃ o', h'.get? b = some o')
    (tups : ∀ b xs, H b = some (.tup xs) → H' b = some (.tup xs)) (frzs : ∀ b o u, H b = some (.frz o u) → H' b = some (.frz o u)) (tbls : ∀ b ps, H b = some (.tbl ps) → ∃ more, H' b = some (.tbl (ps ++ more)))
    (ns : ∀ m, s.heap.Ns X.env.locals m → h'.Ns X.env.locals m) (hok : HOk X.prog X.w H' h') (hg : AllBare g') :
    Inv X pins σ H' { s with heap := h', gens := g', drawn := d', toks := t' } := by
  have neL : ∀ b o, X.s₀.heap.get? b = some o → b ≠ X.env.locals := fun b o e => Nat.ne_of_lt (Nat.lt_of_lt_of_le (Heap.lt_size e) I.ok.above)
  have neC : ∀ b o, X.s₀.heap.get? b = some o → b ∉ X.ex → b ∉ ch := fun b o e hx hb => by
    rcases (hch b hb).1 with z | z
    · exact hx z
    · exact absurd (Nat.lt_of_lt_of_le (Heap.lt_size e) z) (Nat.lt_irrefl _)
  have cellK : ∀ x c, X.env.cells.lookup x = some c → ∀ v, s.heap.IsCell c v → h'.IsCell c v := fun x c e v ⟨o, ho, hd⟩ => by
    have nch : c ∉ ch := fun z => (hch c z).2.2.1 x c e rfl
    by_cases hc : c ∈ X.fs
    · obtain ⟨sl, q⟩ := slot c o (I.cne x c e) hc nch ho (I.freeC x c e)
      exact ⟨_, q, hd⟩
    · exact ⟨o, keep c o (I.cne x c e) hc nch ho (I.freeC x c e), hd⟩
  refine ⟨I.ok, I.os, hg, ⟨fun b o e n hb hx => ?_, fun b o e n hb hx => ?_, fun b o e n hx => ?_, fun b o e hx => ?_, fun b xs e => tups b xs (I.base.tups b xs e), fun b o xs e => frzs b o xs (I.base.frzs b o xs e), fun b ps e => ?_⟩, ?_, fun x c e => ?_, ?_, fun x c e => ?_, fun p hp => ?_, hok, I.len⟩
  · exact keep b o (neL b o e) hb (neC b o e hx) (I.base.keep b o e n hb hx) (I.base.free b o e n hx)
  · obtain ⟨sl, e1⟩ := I.base.slot b o e n hb hx
    obtain ⟨sl', e2⟩ := slot b _ (neL b o e) hb (neC b o e hx) e1 (I.base.free b o e n hx)
    exact ⟨sl', e2⟩
  · obtain ⟨o', e1⟩ := I.base.there b o e hx
    exact free b o' (neC b o e hx) e1 (I.base.free b o e n hx)
  · obtain ⟨o', e1⟩ := I.base.there b o e hx
    exact there b o' (neC b o e hx) e1
  · obtain ⟨m1, e1⟩ := I.base.tbls b ps e
    obtain ⟨m2, e2⟩ := tbls b _ e1
    exact ⟨m1 ++ m2, by rw [e2, Array.append_assoc]⟩
  · obtain ⟨m, hn, hl⟩ := I.loc
    refine ⟨m, ns m hn, fun i x v e1 e2 e3 => ?_⟩
    obtain ⟨u, r, l⟩ := hl i x v e1 e2 e3
    refine ⟨u, r, ?_⟩
    rcases l with l | ⟨k, c, e, z⟩
    · exact .inl l
    · exact .inr ⟨k, c, e, cellK x c e _ z⟩
  · obtain ⟨v, z⟩ := I.cell x c e
    exact ⟨v, cellK x c e v z⟩
  · obtain ⟨m, ⟨o, _, _, ho, _⟩, _⟩ := I.loc
    exact free _ o (fun z => (hch _ z).2.1 rfl) ho I.free
  · obtain ⟨v, o, ho, hd⟩ := I.cell x c e
    exact free c o (fun z => (hch c z).2.2.1 x c e rfl) ho (I.freeC x c e)
  · obtain ⟨e, n, ne, nf, d⟩ := I.pin p hp
    have nch : p.1 ∉ ch := fun z => (hch p.1 z).2.2.2 p hp rfl
    exact ⟨keep p.1 p.2 ne nf nch e n, free p.1 p.2 nch e n, ne, nf, d⟩
theorem Inv.un {t' : Nat} (I : Inv X pins σ H s) (u : Un X.fs [] H H' s.heap h') (hok : HOk X.prog X.w H' h') : Inv X pins σ H' { s with heap := h', toks := t' } := by
  obtain ⟨m, ⟨o, es, ep, ho, r⟩, _⟩ := id I.loc
  obtain ⟨sl, hL⟩ := u.any ho I.free (by simp)
  exact I.step (g' := s.gens) (d' := s.drawn) (ch := []) (fun _ z => nomatch z) (fun b o _ hb _ e n => u.keep b o e n hb (by simp)) (fun b o _ hb _ e n => u.slot b o e n hb (by simp)) (fun b o _ e n => u.free b o e n (by simp)) (fun b o _ e => u.there b o e (by simp)) u.tups u.frzs u.tbls (fun m' hm => by
    obtain ⟨o', es', ep', ho', r'⟩ := hm
    rw [ho] at ho'; cases ho'
    exact ⟨_, es', ep', hL, r'⟩) hok I.bare
theorem Inv.call {g' : Array GenState} {t' : Nat} {d' : Drawn} {ch : List Addr} (I : Inv X pins σ H s) (u : Un (frs X.stack) ch H H' s.heap h') (hok : HOk X.prog X.w H' h') (hg : AllBare g')
    (hch : ∀ b ∈ ch, (b ∈ X.ex ∨ X.s₀.heap.objs.size ≤ b) ∧ b ≠ X.env.locals ∧ (∀ x c, X.env.cells.lookup x = some c → c ≠ b) ∧ ∀ p ∈ X.pn ++ pins, p.1 ≠ b) :
    Inv X pins σ H' { s with heap := h', gens := g', drawn := d', toks := t' } := by
  obtain ⟨m, ⟨o, es, ep, ho, r⟩, _⟩ := id I.loc
  obtain ⟨sl, hL⟩ := u.any ho I.free fun z => (hch _ z).2.1 rfl
  exact I.step (ch := ch) hch (fun b o hL hb hc e n => u.keep b o e n (fun z => (List.mem_cons.mp (I.stkSub b z)).elim hL hb) hc) (fun b o _ _ hc e n => u.any e n hc) (fun b o hc e n => u.free b o e n hc) (fun b o hc e => u.there b o e hc) u.tups u.frzs u.tbls (fun m' hm => by
    obtain ⟨o', es', ep', ho', r'⟩ := hm
    rw [ho] at ho'; cases ho'
    exact ⟨_, es', ep', hL, r'⟩) hok hg
theorem Inv.turned {t' : Nat} {it : Addr} (I : Inv X pins σ H s) (k : ∀ b o, b ≠ it → s.heap.get? b = some o → h'.get? b = some o) (hn : H it = none) (hL : it ≠ X.env.locals)
    (h1 : it ∈ X.ex ∨ X.s₀.heap.objs.size ≤ it) (h2 : ∀ x c, X.env.cells.lookup x = some c → c ≠ it) (h3 : ∀ p ∈ X.pn ++ pins, p.1 ≠ it) : Inv X pins σ H { s with heap := h', toks := t' } := by
  have nit : ∀ b u, H b = some u → b ≠ it := fun b u e z => by rw [z, hn] at e; cases e
  refine I.step (g' := s.gens) (d' := s.drawn) (ch := [it]) (fun b hb => ?_) (fun b o _ _ hc e _ => k b o (fun z => hc (by simp [z])) e) (fun b o _ _ hc e _ => ⟨o.slots, k b o (fun z => hc (by simp [z])) e⟩) (fun _ _ _ _ n => n)
    (fun b o hc e => ⟨o, k b o (fun z => hc (by simp [z])) e⟩) (fun _ _ e => e) (fun _ _ _ e => e) (fun b ps e => ⟨#[], by rw [e]; simp⟩) (fun m hm => ?_) (fun b u e => ?_) I.bare
  · have e : b = it := by simpa using hb
    subst e
    exact ⟨h1, hL, h2, h3⟩
  · obtain ⟨o, es, ep, ho, r⟩ := hm
    exact ⟨o, es, ep, k _ o (Ne.symm hL) ho, r⟩
  · refine (I.hok b u e).stay (fun c v hc q => k c v ?_ q) (fun _ q => q) fun _ _ q => q
    rcases hc with z | z
    · rw [z]; exact nit b u e
    · exact nit c _ z
theorem Inv.tok (I : Inv X pins σ H s) (t : Nat) : Inv X pins σ H { s with toks := t } := I.un (h' := s.heap) (t' := t) Un.refl I.hok
theorem Inv.kept {t' : Nat} (I : Inv X pins σ H s) (k : ∀ b u, s.heap.get? b = some u → h'.get? b = some u) : Inv X pins σ H { s with heap := h', toks := t' } := I.un (Un.kept k) (I.hok.kept k)
theorem Inv.laid {a : Addr} {o : HO} {t' : Nat} (I : Inv X pins σ H s) (k : ∀ b u, s.heap.get? b = some u → h'.get? b = some u) (hp : s.heap.objs.size ≤ a) (new : ObjOk X.prog X.w (upd H a o) h' a o) :
    Inv X pins σ (upd H a o) { s with heap := h', toks := t' } := I.un (Un.laid k hp (I.hok.fresh hp)) (I.hok.laid k hp new)
theorem Inv.write {x e : Addr} {o : HO} {t' : Nat} (I : Inv X pins σ H s) (mu : Mut (H x)) (he : e = x ∨ H e = some (.own x)) (k : ∀ b u, b ≠ e → s.heap.get? b = some u → h'.get? b = some u) (heo : ∃ u, h'.get? e = some u)
    (new : ObjOk X.prog X.w (upd H x o) h' x o) : Inv X pins σ (upd H x o) { s with heap := h', toks := t' } := I.un (Un.write mu he k heo) (I.hok.write mu he k heo new)
theorem Inv.pins_of {pins' : List (Addr × Obj)} (I : Inv X pins σ H s) (h : ∀ p ∈ pins', s.heap.get? p.1 = some p.2 ∧ H p.1 = none ∧ p.1 ≠ X.env.locals ∧ p.1 ∉ X.fs ∧ ∀ v, p.2.data ≠ .cell v) : Inv X pins' σ H s :=
  ⟨I.ok, I.os, I.bare, I.base, I.loc, I.cell, I.free, I.freeC, fun p hp => (List.mem_append.mp hp).elim (fun z => I.pin p (List.mem_append_left _ z)) (h p), I.hok, I.len⟩
theorem nodup_ix {N : List Str} (hN : N.Nodup) {i j : Nat} {x : Str} (a : N[i]? = some x) (b : N[j]? = some x) : i = j := by
  obtain ⟨h1, e1⟩ := List.getElem?_eq_some_iff.mp a
  obtain ⟨h2, e2⟩ := List.getElem?_eq_some_iff.mp b
  exact (List.getElem_inj hN).mp (e1.trans e2.symm)
theorem store_ok2 {M : Model} {A : Around} {E : Value → Shared → Prop} {i : Nat} {x : Str} {v : V} {u : Value} {Q : Unit → Shared → Prop} (I : Inv X pins σ H s) (hN : X.N.Nodup) (hi : X.N[i]? = some x) (hx : Loc X.env.scope x) (r : RelV v u)
    (h : ∀ s', Inv X pins (σ.set i (some v)) H s' → (∃ a, Heap.SameBut a s.heap s'.heap ∧ (a = X.env.locals ∨ X.env.cells.lookup x = some a)) → Q () s') (hf : X.fn x = true ∨ X.env.scope.names.lookup x = some .local := by first | exact .inl rfl | exact .inr rfl | assumption) : wpAny M A (storeName X.env x u) Q E s := by
  obtain ⟨m, hn, hl⟩ := id I.loc
  have hcls : (X.env.scope.kind == .class || (X.env.scope.kind == .module && X.env.locals != X.env.globals)) = false := by rw [I.ok.kind]; rfl
  have hiσ : i < σ.length := by rw [I.len]; exact (List.getElem?_eq_some_iff.mp hi).1
  have cne := I.cne
  have tracked : ∀ {a : Addr} {h' : Heap}, (∃ o, s.heap.get? a = some o ∧ H a = none) → Heap.SameBut a s.heap h' → HOk X.prog X.w H h' := fun {a h'} ha hs b ob e => by
    obtain ⟨_, _, hfree⟩ := ha
    refine (I.hok b ob e).stay (fun c w' hc q => (hs.2 c ?_).trans q) (fun _ q => q) fun _ _ q => q
    rintro rfl
    rcases hc with rfl | hc
    · rw [hfree] at e; cases e
    · rw [hfree] at hc; cases hc
  rcases hx with hk | hk
  · refine wpAny_storeName_local hk hn (fun h' hn' hs => ?_) hcls
    obtain ⟨oL, _, _, hoL, _⟩ := id hn
    refine h _ ⟨I.ok, I.os, I.bare, ⟨fun b o e n hb hx => ?_, fun b o e n hb hx => ?_, I.base.free, fun b o e hx => ?_, I.base.tups, I.base.frzs, I.base.tbls⟩, ⟨_, hn', fun j y v' e1 e2 e3 => ?_⟩, fun y c e => ?_, I.free, I.freeC, fun p hp => ?_, tracked ⟨oL, hoL, I.free⟩ hs, by simpa using I.len⟩ ⟨_, hs, .inl rfl⟩
    · exact (hs.2 b (Nat.ne_of_lt (Nat.lt_of_lt_of_le (Heap.lt_size e) I.ok.above))).trans (I.base.keep b o e n hb hx)
    · obtain ⟨sl, e1⟩ := I.base.slot b o e n hb hx
      exact ⟨sl, (hs.2 b (Nat.ne_of_lt (Nat.lt_of_lt_of_le (Heap.lt_size e) I.ok.above))).trans e1⟩
    · obtain ⟨o', e1⟩ := I.base.there b o e hx
      exact ⟨o', (hs.2 b (Nat.ne_of_lt (Nat.lt_of_lt_of_le (Heap.lt_size e) I.ok.above))).trans e1⟩
    · by_cases hj : j = i
      · subst hj
        rw [hi] at e1; cases e1
        rw [List.getElem?_set_self hiσ] at e2
        cases e2
        exact ⟨u, r, .inl ⟨hk, by simp⟩⟩
      · rw [List.getElem?_set_ne (Ne.symm hj)] at e2
        obtain ⟨u', r', q⟩ := hl j y v' e1 e2 e3
        refine ⟨u', r', ?_⟩
        rcases q with ⟨k, e⟩ | ⟨k, c, e, z⟩
        · refine .inl ⟨k, ?_⟩
          have : y ≠ x := fun e => hj (nodup_ix hN e1 (e ▸ hi))
          simp [this, e]
        · exact .inr ⟨k, c, e, z.sameBut hs (cne y c e)⟩
    · obtain ⟨w', z⟩ := I.cell y c e
      exact ⟨w', z.sameBut hs (cne y c e)⟩
    · obtain ⟨e, n, ne, nf, d⟩ := I.pin p hp
      exact ⟨(hs.2 p.1 ne).trans e, n, ne, nf, d⟩
  · have hfn : X.fn x = true := by
      rcases hf with z | z
      · exact z
      · rw [z] at hk; cases hk
    obtain ⟨c, hc⟩ := I.ok.has x (.inl hk)
    obtain ⟨w', z⟩ := I.cell x c hc
    refine wpAny_storeName_cell I.ok.kind hk hc z (fun h' hc' hs => ?_)
    obtain ⟨oc, hoc, hocd⟩ := id z
    refine h { s with heap := h' } ⟨I.ok, I.os, I.bare, ⟨fun b o e n hb hx => ?_, fun b o e n hb hx => ?_, I.base.free, fun b o e hx => ?_, I.base.tups, I.base.frzs, I.base.tbls⟩, ⟨m, hn.sameBut hs (Ne.symm (cne x c hc)), fun j y v' e1 e2 e3 => ?_⟩, fun y c' e => ?_, I.free, I.freeC, fun p hp => ?_, tracked ⟨oc, hoc, I.freeC x c hc⟩ hs, by simpa using I.len⟩ ⟨c, hs, .inr hc⟩
    · exact (hs.2 b (Nat.ne_of_lt (Nat.lt_of_lt_of_le (Heap.lt_size e) (I.ok.cab x c hfn hc)))).trans (I.base.keep b o e n hb hx)
    · obtain ⟨sl, e1⟩ := I.base.slot b o e n hb hx
      exact ⟨sl, (hs.2 b (Nat.ne_of_lt (Nat.lt_of_lt_of_le (Heap.lt_size e) (I.ok.cab x c hfn hc)))).trans e1⟩
    · obtain ⟨o', e1⟩ := I.base.there b o e hx
      exact ⟨o', (hs.2 b (Nat.ne_of_lt (Nat.lt_of_lt_of_le (Heap.lt_size e) (I.ok.cab x c hfn hc)))).trans e1⟩
    · by_cases hj : j = i
      · subst hj
        rw [hi] at e1; cases e1
        rw [List.getElem?_set_self hiσ] at e2
        cases e2
        exact ⟨u, r, .inr ⟨.inl hk, c, hc, hc'⟩⟩
      · rw [List.getElem?_set_ne (Ne.symm hj)] at e2
        obtain ⟨u', r', q⟩ := hl j y v' e1 e2 e3
        refine ⟨u', r', ?_⟩
        rcases q with q | ⟨k, c', e, z'⟩
        · exact .inl q
        · refine .inr ⟨k, c', e, z'.sameBut hs ?_⟩
          rintro rfl
          exact hj (nodup_ix hN e1 (I.ok.inj _ _ _ e hc ▸ hi))
    · by_cases hcc : c' = c
      · subst hcc; exact ⟨_, hc'⟩
      · obtain ⟨w2, z2⟩ := I.cell y c' e
        exact ⟨w2, z2.sameBut hs hcc⟩
    · obtain ⟨e, n, ne, nf, d⟩ := I.pin p hp
      refine ⟨(hs.2 p.1 ?_).trans e, n, ne, nf, d⟩
      intro q
      rw [q, hoc] at e
      have q' : oc = p.2 := Option.some.inj e
      exact d w' (by rw [← q']; exact hocd)
theorem store_ok {M : Model} {A : Around} {E : Value → Shared → Prop} {i : Nat} {x : Str} {v : V} {u : Value} {Q : Unit → Shared → Prop} (I : Inv X pins σ H s) (hN : X.N.Nodup) (hi : X.N[i]? = some x) (hx : Loc X.env.scope x) (r : RelV v u)
    (h : ∀ s', Inv X pins (σ.set i (some v)) H s' → Q () s') (hf : X.fn x = true ∨ X.env.scope.names.lookup x = some .local := by first | exact .inl rfl | exact .inr rfl | assumption) : wpAny M A (storeName X.env x u) Q E s :=
  store_ok2 I hN hi hx r (fun s' I' _ => h s' I') hf
theorem Inv.call' {s' : Shared} {ch : List Addr} (I : Inv X pins σ H s) (ho : s'.os = s.os) (u : Un (frs X.stack) ch H H' s.heap s'.heap) (hok : HOk X.prog X.w H' s'.heap) (hg : AllBare s'.gens)
    (hch : ∀ b ∈ ch, (b ∈ X.ex ∨ X.s₀.heap.objs.size ≤ b) ∧ b ≠ X.env.locals ∧ (∀ x c, X.env.cells.lookup x = some c → c ≠ b) ∧ ∀ p ∈ X.pn ++ pins, p.1 ≠ b) : Inv X pins σ H' s' := by
  obtain ⟨h', g', d', t', o'⟩ := s'
  have e : o' = s.os := ho
  subst e
  exact I.call (g' := g') (t' := t') (d' := d') u hok hg hch
end
abbrev XK := Value → Option Addr → Hp → Prop
abbrev St := List (Option V)
abbrev VK := V → Hp → Prop
abbrev TE := St → Hp → VK → Prop
abbrev TT := St → Hp → (Bool → Hp → Prop) → Prop
abbrev TA := St → Hp → (List V → Hp → Prop) → Prop
structure Ends where
  nx : St → Hp → Prop
  rt : VK
  bk : St → Hp → Prop := fun _ _ => False
  ct : St → Hp → Prop := fun _ _ => False
abbrev TS := Ends → St → Hp → Prop
def EP (X : Cx) (pins : List (Addr × Obj)) (σ : St) (Q : VK) (u : Value) (s' : Shared) : Prop := ∃ v H', Inv X pins σ H' s' ∧ RelV v u ∧ Q v H'
def TP (X : Cx) (pins : List (Addr × Obj)) (σ : St) (Q : Bool → Hp → Prop) (b : Bool) (s' : Shared) : Prop := ∃ H', Inv X pins σ H' s' ∧ Q b H'
def AP (X : Cx) (pins : List (Addr × Obj)) (σ : St) (Q : List V → Hp → Prop) (us : List Value) (s' : Shared) : Prop := ∃ vs H', Inv X pins σ H' s' ∧ Vals vs us ∧ Q vs H'
def SP (X : Cx) (pins : List (Addr × Obj)) (D : Ends) (f : Flow) (s' : Shared) : Prop :=
  match f with
  | .next => ∃ σ' H', Inv X pins σ' H' s' ∧ D.nx σ' H'
  | .brk => ∃ σ' H', Inv X pins σ' H' s' ∧ D.bk σ' H'
  | .cont => ∃ σ' H', Inv X pins σ' H' s' ∧ D.ct σ' H'
  | .ret u => ∃ v σ' H', Inv X pins σ' H' s' ∧ RelV v u ∧ D.rt v H'
def PE (X : Cx) (e : Expr) (t : TE) : Prop :=
  ∀ (pins : List (Addr × Obj)) (s : Shared) (σ : St) (H : Hp) (Q : VK), Inv X pins σ H s → t σ H Q → wpAny (model X.prog X.w) X.A (eval e X.env) (EP X pins σ Q) X.xe s
def PT (X : Cx) (e : Expr) (t : TT) : Prop :=
  ∀ (pins : List (Addr × Obj)) (s : Shared) (σ : St) (H : Hp) (Q : Bool → Hp → Prop), Inv X pins σ H s → t σ H Q → wpAny (model X.prog X.w) X.A (isTrue e X.env (eval e X.env)) (TP X pins σ Q) X.xe s
def PW (X : Cx) (e : Expr) (t : TT) : Prop :=
  ∀ (whole : Sem Value) (pins : List (Addr × Obj)) (s : Shared) (σ : St) (H : Hp) (Q : Bool → Hp → Prop), Inv X pins σ H s → t σ H Q → wpAny (model X.prog X.w) X.A (isTrue e X.env whole) (TP X pins σ Q) X.xe s
theorem PW.pt {X : Cx} {e : Expr} {t : TT} (h : PW X e t) : PT X e t := h _
def PA (X : Cx) (es : List Expr) (t : TA) : Prop :=
  ∀ (pos : Pos) (pins : List (Addr × Obj)) (s : Shared) (σ : St) (H : Hp) (Q : List V → Hp → Prop), Inv X pins σ H s → t σ H Q → wpAny (model X.prog X.w) X.A (spliced (backTo pos (starEach es X.env))) (AP X pins σ Q) X.xe s
def PS (X : Cx) (st : Stmt) (t : TS) : Prop :=
  ∀ (pins : List (Addr × Obj)) (s : Shared) (σ : St) (H : Hp) (D : Ends), Inv X pins σ H s → t D σ H → wpAny (model X.prog X.w) X.A (exec st X.env) (SP X pins D) X.xe s
def PSs (X : Cx) (st : List Stmt) (t : TS) : Prop :=
  ∀ (pins : List (Addr × Obj)) (s : Shared) (σ : St) (H : Hp) (D : Ends), Inv X pins σ H s → t D σ H → wpAny (model X.prog X.w) X.A (execs st X.env) (SP X pins D) X.xe s
theorem thn {α : Type} {t : Sem α} {Q Q' : α → Shared → Prop} {M : Model} {A : Around} {E : Value → Shared → Prop} {s : Shared} (h : wpAny M A t Q E s) (hQ : ∀ a s, Q a s → Q' a s) : wpAny M A t Q' E s := wpAny_mono h hQ fun _ _ x => x
end L2
namespace L2
open PySem PySem.Spec PyProof.Rows
section
variable {X : Cx}
def tVar (i : Nat) : TE := fun σ H Q => ∃ v, σ[i]? = some (some v) ∧ Q v H
def tC (v : V) : TE := fun _ H Q => Q v H
theorem pe_var {i : Nat} {x : Str} {pos : Pos} (hN : X.N[i]? = some x) (hv : Vis X.env.scope x) (hd : (x == ("__debug__" : Str)) = false := by decide) (hcd : (x == ("__classdict__" : Str)) = false := by decide) : PE X (.Name x pos) (tVar i) := by
  intro pins s σ H Q I h
  obtain ⟨v, e, h⟩ := h
  obtain ⟨m, hn, hl⟩ := I.loc
  obtain ⟨u, r, l⟩ := hl i x v hN e hv
  have fin : EP X pins σ Q u s := ⟨v, H, I, r, h⟩
  rcases l with ⟨hk, hm⟩ | ⟨hk, c, hc, hcell⟩
  · exact wpAny_Name (wpAny_loadName_local I.ok.kind hk hn hm fin) hd
  · rcases hk with hk | hk
    · exact wpAny_Name (wpAny_loadName_cell I.ok.kind hk hc hcell fin) hd
    · exact wpAny_Name (wpAny_loadName_free I.ok.kind hk hc hcell fin hcd) hd
theorem pe_int {i j pos} : PE X (.Constant (.int i) j pos) (tC (.int i)) := fun _ _ _ H _ I h => wpAny_Constant_int ⟨.int i, H, I.tok _, ⟨_, rfl⟩, h⟩
theorem pe_bl {b j pos} : PE X (.Constant (.bool b) j pos) (tC (.bl b)) := fun _ _ _ H _ I h => Constant_bool ⟨.bl b, H, I, rfl, h⟩
theorem pe_non {j pos} : PE X (.Constant .none j pos) (tC .non) := fun _ _ _ H _ I h => Constant_none ⟨.non, H, I, rfl, h⟩
theorem pe_str {x j pos} : PE X (.Constant (.str x) j pos) (tC (.str x)) := fun _ _ _ H _ I h => Calls.Constant_str ⟨.str x, H, I.tok _, ⟨_, rfl⟩, h⟩
def Gl (X : Cx) (x : Str) : Prop := X.env.kindOf x = some .globalImplicit
theorem ld_glob {E : Value → Shared → Prop} {pins : List (Addr × Obj)} {s : Shared} {σ : St} {H : Hp} {x : Str} {u : Value} {pos : Pos} {Q : Value → Shared → Prop} (I : Inv X pins σ H s) (hg : Gl X x) (hm : X.mg x = some u) (h : Q u s)
    (hd : (x == ("__debug__" : Str)) = false := by decide) : wpAny (model X.prog X.w) X.A (eval (.Name x pos) X.env) Q E s :=
  Calls.Name_function_global I.ok.kind hg (Calls.loadGlobal_global (by rw [I.ok.glob]; exact I.mod.glob.keeps I.bk) hm h) hd
theorem ld_blt {E : Value → Shared → Prop} {pins : List (Addr × Obj)} {s : Shared} {σ : St} {H : Hp} {x : Str} {u : Value} {pos : Pos} {Q : Value → Shared → Prop} (I : Inv X pins σ H s) (hg : Gl X x) (hm : X.mg x = none) (hv : bootBuiltins x = some u) (h : Q u s)
    (hn : x ≠ "__name__" := by decide) (hd : (x == ("__debug__" : Str)) = false := by decide) : wpAny (model X.prog X.w) X.A (eval (.Name x pos) X.env) Q E s := by
  obtain ⟨mb, h1, h2⟩ := I.mod.blt
  exact Calls.Name_function_global I.ok.kind hg (Calls.loadGlobal_builtin (by rw [I.ok.glob]; exact I.mod.glob.keeps I.bk) hm (by rw [I.ok.blt]; exact h1.keeps I.bk) ((h2 x hn).trans hv) h) hd
theorem pe_glob {x : Str} {v : V} {u : Value} {pos : Pos} (hg : Gl X x) (hm : X.mg x = some u) (r : RelV v u) (hd : (x == ("__debug__" : Str)) = false := by decide) : PE X (.Name x pos) (tC v) :=
  fun _ _ _ H _ I h => ld_glob I hg hm ⟨v, H, I, r, h⟩ hd
theorem pe_bltn {x : Str} {v : V} {u : Value} {pos : Pos} (hg : Gl X x) (hm : X.mg x = none) (hv : bootBuiltins x = some u) (r : RelV v u) (hn : x ≠ "__name__" := by decide) (hd : (x == ("__debug__" : Str)) = false := by decide) : PE X (.Name x pos) (tC v) :=
  fun _ _ _ H _ I h => ld_blt I hg hm hv ⟨v, H, I, r, h⟩ hn hd
variable {a b : Expr} {ta tb : TE} {pos : Pos}
def tB (t : TE) : TT := fun σ H Q => t σ H fun x H1 => ∃ c, x = .bl c ∧ Q c H1
theorem pt_val {e : Expr} {t : TE} (h : PE X e t) (he : ∀ whole, isTrue e X.env whole = (do let v ← whole; standAt e.pos; holding [v] (truthy v)) := by intro _; rfl) : PT X e (tB t) := by
  intro pins s σ H Q I hw
  refine isTrue_plain (thn (h pins s σ H _ I hw) fun v s1 ⟨x, H1, I1, r1, q1⟩ => ?_) (he _)
  obtain ⟨d, rfl, q⟩ := q1
  cases r1
  exact wpAny_truthy_bool ⟨H1, I1, q⟩
variable {tA tB' : TT} {rest : List Expr}
def tAnd (t u : TT) : TT := fun σ H Q => t σ H fun c H1 => if c = true then u σ H1 Q else Q false H1
def tOr (t u : TT) : TT := fun σ H Q => t σ H fun c H1 => if c = true then Q true H1 else u σ H1 Q
def tNot (t : TT) : TT := fun σ H Q => t σ H fun c H1 => Q (!c) H1
theorem pw_and1 (ha : PT X a tA) : PW X (.BoolOp .And [a] pos) tA := by
  intro wh pins s σ H Q I h
  refine isTrue_and (thn (ha pins s σ H Q I h) fun c s1 e => ?_)
  cases c with
  | true => exact isTrue_and_nil e
  | false => exact e
theorem pw_or1 (ha : PT X a tA) : PW X (.BoolOp .Or [a] pos) tA := by
  intro wh pins s σ H Q I h
  refine isTrue_or (thn (ha pins s σ H Q I h) fun c s1 e => ?_)
  cases c with
  | false => exact isTrue_or_nil e
  | true => exact e
theorem pw_and (ha : PT X a tA) (hb : PW X (.BoolOp .And (b :: rest) pos) tB') : PW X (.BoolOp .And (a :: b :: rest) pos) (tAnd tA tB') := by
  intro wh pins s σ H Q I h
  refine isTrue_and (thn (ha pins s σ H _ I h) fun c s1 ⟨H1, I1, q1⟩ => ?_)
  cases c with
  | true => exact hb wh pins s1 σ H1 Q I1 q1
  | false => exact ⟨H1, I1, q1⟩
theorem pw_or (ha : PT X a tA) (hb : PW X (.BoolOp .Or (b :: rest) pos) tB') : PW X (.BoolOp .Or (a :: b :: rest) pos) (tOr tA tB') := by
  intro wh pins s σ H Q I h
  refine isTrue_or (thn (ha pins s σ H _ I h) fun c s1 ⟨H1, I1, q1⟩ => ?_)
  cases c with
  | true => exact ⟨H1, I1, q1⟩
  | false => exact hb wh pins s1 σ H1 Q I1 q1
theorem pt_not (ha : PT X a tA) : PT X (.UnaryOp .Not a pos) (tNot tA) := by
  intro pins s σ H Q I h
  exact isTrue_not (ha pins s σ H (fun c H1 => Q (!c) H1) I h)
def tAndV (ta tb : TE) : TE := fun σ H Q => ta σ H fun x H1 => ∃ c, x = .bl c ∧ if c = true then tb σ H1 Q else Q (.bl false) H1
def tNotV (ta : TE) : TE := fun σ H Q => ta σ H fun x H1 => ∃ c, x = .bl c ∧ Q (.bl (!c)) H1
theorem pe_one {op} {t : TE} (h : PE X a t) : PE X (.BoolOp op [a] pos) t := fun pins s σ H Q I hw => BoolOp_one (h pins s σ H Q I hw)
theorem pe_and (ha : PE X a ta) (hb : PE X (.BoolOp .And (b :: rest) pos) tb) : PE X (.BoolOp .And (a :: b :: rest) pos) (tAndV ta tb) := by
  intro pins s σ H Q I h
  refine BoolOp_and (thn (ha pins s σ H _ I h) fun v s1 ⟨x, H1, I1, r1, q1⟩ => ?_)
  obtain ⟨c, rfl, q1⟩ := q1
  cases r1
  refine wpAny_truthy_bool ?_
  cases c with
  | true => exact hb pins s1 σ H1 Q I1 q1
  | false => exact ⟨.bl false, H1, I1, rfl, q1⟩
theorem pe_not (ha : PE X a ta) : PE X (.UnaryOp .Not a pos) (tNotV ta) := by
  intro pins s σ H Q I h
  refine UnaryOp_ (thn (ha pins s σ H _ I h) fun v s1 ⟨x, H1, I1, r1, q1⟩ => ?_)
  obtain ⟨c, rfl, q1⟩ := q1
  cases r1
  exact not_of (wpAny_truthy_bool ⟨.bl (!c), H1, I1, rfl, q1⟩)
end
end L2
namespace L2
open PySem PySem.Spec PyProof.Rows
def SqL (K : PySem.W.Frag) (H : Hp) (a : Addr) (xs : List V) : Prop :=
  Rd H a (.lst xs) ∨
    ∃ (o : Obj) (its : Array Value) (n : Nat), K.lookup a = some o ∧ o.cls = .type "list" ∧ o.dict = none ∧ o.data = .seq its n ∧ its.size ≤ sizeLine ∧ Vals xs its.toList
def SqT (K : PySem.W.Frag) (H : Hp) (a : Addr) (xs : List V) : Prop :=
  Rd H a (.tup xs) ∨
    ∃ (o : Obj) (its : Array Value) (n : Nat), K.lookup a = some o ∧ o.cls = .type "tuple" ∧ o.data = .seq its n ∧ its.size ≤ sizeLine ∧ Vals xs its.toList
def absV : Value → Option V
  | .none => some .non
  | .bool b => some (.bl b)
  | .int i _ => some (.int i)
  | .str x _ => some (.str x)
  | .bytes b _ => some (.byt b)
  | .float b _ => some (.flt b)
  | .ref a => some (.ref a)
  | .type n => some (.ty n)
  | _ => none
theorem RelV.abs {x : V} {u : Value} (r : RelV x u) : absV u = some x := by
  cases x with
  | non => cases r; rfl
  | bl _ => cases r; rfl
  | int _ => obtain ⟨t, rfl⟩ := r; rfl
  | str _ => obtain ⟨t, rfl⟩ := r; rfl
  | byt _ => obtain ⟨t, rfl⟩ := r; rfl
  | flt _ => obtain ⟨t, rfl⟩ := r; rfl
  | ref _ => cases r; rfl
  | ty _ => cases r; rfl
theorem RelV.inj {x y : V} {u : Value} (r : RelV x u) (q : RelV y u) : x = y := Option.some.inj (r.abs.symm.trans q.abs)
theorem Vals.inj : ∀ {xs ys : List V} {us : List Value}, Vals xs us → Vals ys us → xs = ys
  | _, _, _, .nil, .nil => rfl
  | _, _, _, .cons r t, .cons r' t' => by rw [r.inj r', Vals.inj t t']
section
variable {X : Cx} {pins : List (Addr × Obj)} {σ : St} {H : Hp} {s : Shared} {a : Addr} {xs ys : List V}
theorem SqL.of {K : PySem.W.Frag} (h : H a = some (.lst xs)) : SqL K H a xs := .inl (.inl h)
theorem SqT.of {K : PySem.W.Frag} (h : H a = some (.tup xs)) : SqT K H a xs := .inl (.inl h)
theorem Inv.list (I : Inv X pins σ H s) (h : SqL X.K H a xs) : ∃ its : List Value, Vals xs its ∧ PlainL s.heap a its.toArray ∧ xs.length ≤ sizeLine := by
  rcases h with h | ⟨o, its, n, hk, hc, hd, hs, hz, r⟩
  · obtain ⟨z, its, n, r, e⟩ := h.ok I.hok
    exact ⟨its, r, ⟨_, n, e, rfl, rfl, rfl⟩, z⟩
  · refine ⟨its.toList, r, ⟨o, n, I.kIn a o hk, hc, hd, by simpa using hs⟩, ?_⟩
    have e := r.length
    simp only [Array.length_toList] at e
    omega
theorem Inv.tuple (I : Inv X pins σ H s) (h : SqT X.K H a xs) : ∃ its : List Value, Vals xs its ∧ IsTup s.heap a its.toArray ∧ xs.length ≤ sizeLine := by
  rcases h with h | ⟨o, its, n, hk, hc, hs, hz, r⟩
  · obtain ⟨z, its, r, p⟩ := h.ok I.hok
    exact ⟨its, r, p, z⟩
  · refine ⟨its.toList, r, ⟨o, I.kIn a o hk, hc, n, by simpa using hs⟩, ?_⟩
    have e := r.length
    simp only [Array.length_toList] at e
    omega
theorem Inv.list_inj (I : Inv X pins σ H s) (h : SqL X.K H a xs) (h' : SqL X.K H a ys) : xs = ys := by
  obtain ⟨its, r, ⟨o, n, e, _, _, d⟩, _⟩ := I.list h
  obtain ⟨its', r', ⟨o', n', e', _, _, d'⟩, _⟩ := I.list h'
  rw [e] at e'; cases e'
  rw [d] at d'
  injection d' with d1 _
  have : its = its' := by simpa using congrArg Array.toList d1
  subst this
  exact r.inj r'
theorem Inv.tuple_inj (I : Inv X pins σ H s) (h : SqT X.K H a xs) (h' : SqT X.K H a ys) : xs = ys := by
  obtain ⟨its, r, ⟨o, e, _, n, d⟩, _⟩ := I.tuple h
  obtain ⟨its', r', ⟨o', e', _, n', d'⟩, _⟩ := I.tuple h'
  rw [e] at e'; cases e'
  rw [d] at d'
  injection d' with d1 _
  have : its = its' := by simpa using congrArg Array.toList d1
  subst this
  exact r.inj r'
end
abbrev Cx.wish (X : Cx) (E : Value → Shared → Prop) : Cx := { X with xe := E }
abbrev Cx.nox (X : Cx) : Cx := X.wish fun _ _ => False
theorem Cx.Ok.wish {X : Cx} (ok : X.Ok) (E : Value → Shared → Prop) : (X.wish E).Ok :=
  ⟨ok.mod, ok.kind, ok.glob, ok.blt, ok.above, ok.inj, ok.has, ok.cab, ok.hd, ok.frames, ok.stk, ok.exf, ok.bs, ok.bsz, ok.noex, ok.exfs, ok.funs, ok.frf⟩
theorem Cx.Ok.unwish {X : Cx} {E : Value → Shared → Prop} (ok : (X.wish E).Ok) : X.Ok :=
  ⟨ok.mod, ok.kind, ok.glob, ok.blt, ok.above, ok.inj, ok.has, ok.cab, ok.hd, ok.frames, ok.stk, ok.exf, ok.bs, ok.bsz, ok.noex, ok.exfs, ok.funs, ok.frf⟩
section
variable {X : Cx} {pins : List (Addr × Obj)} {σ : St} {H : Hp} {s : Shared} {E : Value → Shared → Prop}
theorem Inv.wish (I : Inv X pins σ H s) (E : Value → Shared → Prop) : Inv (X.wish E) pins σ H s := ⟨I.ok.wish E, I.os, I.bare, I.base, I.loc, I.cell, I.free, I.freeC, I.pin, I.hok, I.len⟩
theorem Inv.unwish (I : Inv (X.wish E) pins σ H s) : Inv X pins σ H s := ⟨I.ok.unwish, I.os, I.bare, I.base, I.loc, I.cell, I.free, I.freeC, I.pin, I.hok, I.len⟩
theorem SP.unwish {D : Ends} {f : Flow} {s' : Shared} (h : SP (X.wish E) pins D f s') : SP X pins D f s' := by
  cases f with
  | next => obtain ⟨σ', H', I, q⟩ := h; exact ⟨σ', H', I.unwish, q⟩
  | brk => obtain ⟨σ', H', I, q⟩ := h; exact ⟨σ', H', I.unwish, q⟩
  | cont => obtain ⟨σ', H', I, q⟩ := h; exact ⟨σ', H', I.unwish, q⟩
  | ret u => obtain ⟨v, σ', H', I, r, q⟩ := h; exact ⟨v, σ', H', I.unwish, r, q⟩
theorem PE.nox {e : Expr} {t : TE} (h : PE X.nox e t) : PE X e t := fun pins s σ H Q I hw =>
  wpAny_mono (h pins s σ H Q (I.wish _) hw) (fun _ _ ⟨v, H', I', r, q⟩ => ⟨v, H', I'.unwish, r, q⟩) fun _ _ z => False.elim z
theorem PT.nox {e : Expr} {t : TT} (h : PT X.nox e t) : PT X e t := fun pins s σ H Q I hw =>
  wpAny_mono (h pins s σ H Q (I.wish _) hw) (fun _ _ ⟨H', I', q⟩ => ⟨H', I'.unwish, q⟩) fun _ _ z => False.elim z
theorem PSs.nox {st : List Stmt} {t : TS} (h : PSs X.nox st t) : PSs X st t := fun pins s σ H D I hw =>
  wpAny_mono (h pins s σ H D (I.wish _) hw) (fun _ _ q => q.unwish) fun _ _ z => False.elim z
end
section
variable {X : Cx} {st : Stmt} {rest : List Stmt} {t u : TS} {e : Expr} {te : TE} {pos : Pos}
def tNext : TS := fun D σ H => D.nx σ H
def tSeq (t u : TS) : TS := fun D σ H => t { D with nx := u D } σ H
theorem pss_nil : PSs X [] tNext := fun _ _ σ H _ I h => wpAny_execs_nil ⟨σ, H, I, h⟩
theorem pss_cons (h1 : PS X st t) (h2 : PSs X rest u) : PSs X (st :: rest) (tSeq t u) := by
  intro pins s σ H D I h
  refine wpAny_execs_cons (thn (h1 pins s σ H { D with nx := u D } I h) fun f s1 q => ?_)
  cases f with
  | next =>
    obtain ⟨σ', H', I', q⟩ := q
    exact h2 pins s1 σ' H' D I' q
  | ret v => exact q
  | brk => exact q
  | cont => exact q
theorem pss_one (h1 : PS X st t) : PSs X [st] t := by
  intro pins s σ H D I h
  refine wpAny_execs_cons (thn (h1 pins s σ H D I h) fun f s1 q => ?_)
  cases f with
  | next => exact wpAny_execs_nil q
  | ret v => exact q
  | brk => exact q
  | cont => exact q
theorem Inv.quiet {pins : List (Addr × Obj)} {σ : St} {H : Hp} {s : Shared} (I : Inv X pins σ H s) : interactive X.env = false := by simp [interactive, I.ok.kind]
def tDrop (te : TE) : TS := fun D σ H => te σ H fun _ H1 => D.nx σ H1
theorem ps_expr (he : PE X e te) (hs : swapsWith e none pos.line X.env = pure false := by rfl) : PS X (.Expr e pos) (tDrop te) := by
  intro pins s σ H D I h
  exact wpAny_Expr_any (thn (he pins s σ H _ I h) fun v s1 ⟨x, H1, I1, r1, q1⟩ => ⟨σ, H1, I1, q1⟩) I.quiet hs
def tRet (te : TE) : TS := fun D σ H => te σ H D.rt
theorem ps_ret (he : PE X e te) : PS X (.Return (some e) pos) (tRet te) := by
  intro pins s σ H D I h
  exact wpAny_Return_some (thn (he pins s σ H _ I h) fun v s1 ⟨x, H1, I1, r1, q1⟩ => ⟨x, σ, H1, I1, r1, q1⟩)
def tIfS (c : TT) (t u : TS) : TS := fun D σ H => c σ H fun b H1 => if b = true then t D σ H1 else u D σ H1
theorem ps_if {c : Expr} {a b : List Stmt} {tc : TT} (hc : PT X c tc) (ha : PSs X a t) (hb : PSs X b u) : PS X (.If c a b pos) (tIfS tc t u) := by
  intro pins s σ H D I h
  refine wpAny_If (thn (hc pins s σ H _ I h) fun d s1 ⟨H1, I1, q1⟩ => ?_)
  cases d with
  | true => exact ha pins s1 σ H1 D I1 q1
  | false => exact hb pins s1 σ H1 D I1 q1
end
abbrev TG := V → St → Hp → (St → Hp → Prop) → Prop
def PG (X : Cx) (target : Expr) (t : TG) : Prop :=
  ∀ (pins : List (Addr × Obj)) (s : Shared) (σ : St) (H : Hp) (v : V) (u : Value) (Q : St → Hp → Prop), Inv X pins σ H s → RelV v u → t v σ H Q →
    wpAny (model X.prog X.w) X.A (assign target X.env u) (fun _ s' => ∃ σ' H', Inv X pins σ' H' s' ∧ Q σ' H') X.xe s
section
variable {X : Cx} {pos : Pos}
def gName (i : Nat) : TG := fun v σ H Q => Q (σ.set i (some v)) H
theorem pg_name {i : Nat} {x : Str} (hN : X.N.Nodup) (hi : X.N[i]? = some x) (hx : Loc X.env.scope x) (hf : X.fn x = true ∨ X.env.scope.names.lookup x = some .local := by first | exact .inl rfl | exact .inr rfl | assumption) : PG X (.Name x pos) (gName i) := by
  intro pins s σ H v u Q I r h
  exact wpAny_assign_Name (store_ok I hN hi hx r (fun s' I' => ⟨_, H, I', h⟩) hf)
def tAsg (te : TE) (g : TG) : TS := fun D σ H => te σ H fun x H1 => g x σ H1 D.nx
theorem ps_set {i : Nat} {x : Str} {e : Expr} {te : TE} {pos' : Pos} (hN : X.N.Nodup) (hi : X.N[i]? = some x) (hx : Loc X.env.scope x) (he : PE X e te) (hs : swapsWith e (some (.Name x pos')) pos.line X.env = pure false := by rfl) (hf : X.fn x = true ∨ X.env.scope.names.lookup x = some .local := by first | exact .inl rfl | exact .inr rfl | assumption) :
    PS X (.Assign [.Name x pos'] e pos) (tAsg te (gName i)) := by
  intro pins s σ H D I h
  refine wpAny_Assign_Name (thn (he pins s σ H _ I h) fun v s1 ⟨y, H1, I1, r1, q1⟩ => ?_) hs
  exact store_ok I1 hN hi hx r1 (fun s2 I2 => ⟨_, H1, I2, q1⟩) hf
end
section
variable {X : Cx} {pos : Pos}
def tWhile (c : TT) (tb : TS) : TS := fun D σ H => ∃ W : Nat → St → Hp → Prop, (∃ m, W m σ H) ∧ ∀ m σ H, W m σ H →
  c σ H fun b H1 => if b = true then ∃ N : St → Hp → Prop, (∀ σ' H', N σ' H' → ∃ m', m' < m ∧ W m' σ' H') ∧ tb { D with nx := N, ct := N, bk := D.nx } σ H1 else D.nx σ H1
theorem ps_while {c : Expr} {body : List Stmt} {tc : TT} {tb : TS} (hp : PassesOwn (model X.prog X.w) X.A X.env X.xe) (hc : PT X c tc) (hb : PSs X body tb) : PS X (.While c body [] pos) (tWhile tc tb) := by
  intro pins s σ H D I h
  obtain ⟨W, ⟨m0, w0⟩, turn⟩ := h
  refine wpAny_While (codeAny_whileLoop (fun n s' => ∃ σ' H', Inv X pins σ' H' s' ∧ W n σ' H') ?_ m0 ⟨σ, H, I, w0⟩)
  rintro n s1 ⟨σ1, H1, I1, w1⟩
  refine wpAny_passesOwn hp (thn (hc pins s1 σ1 H1 _ I1 (turn n σ1 H1 w1)) fun b s2 ⟨H2, I2, q2⟩ => ?_)
  cases b with
  | true =>
    obtain ⟨N, hN, q2⟩ := q2
    rw [if_pos rfl]
    refine wpAny_passesOwn hp (thn (hb pins s2 σ1 H2 _ I2 q2) fun f s3 q3 => ?_)
    cases f with
    | next =>
      obtain ⟨σ3, H3, I3, n3⟩ := q3
      obtain ⟨m', hm, w3⟩ := hN σ3 H3 n3
      exact ⟨m', hm, σ3, H3, I3, w3⟩
    | cont =>
      obtain ⟨σ3, H3, I3, n3⟩ := q3
      obtain ⟨m', hm, w3⟩ := hN σ3 H3 n3
      exact ⟨m', hm, σ3, H3, I3, w3⟩
    | brk => exact q3
    | ret v => exact q3
  | false =>
    rw [if_neg Bool.false_ne_true]
    exact wpAny_execs_nil ⟨σ1, H2, I2, q2⟩
end
structure It where
  go : Nat → Hp → Prop
  yld : Nat → Hp → V → Hp → Prop
  stop : Nat → Hp → Prop
def FpOk (X : Cx) (pins : List (Addr × Obj)) (H : Hp) (b : Addr) : Prop :=
  H b = none ∧ b ≠ X.env.locals ∧ b ∉ X.fs ∧ (b ∈ X.ex ∨ X.s₀.heap.objs.size ≤ b) ∧ (∀ x c, X.env.cells.lookup x = some c → c ≠ b) ∧ ∀ p ∈ X.pn ++ pins, p.1 ≠ b
theorem Inv.fpOk {X : Cx} {pins : List (Addr × Obj)} {σ : St} {H H' : Hp} {s : Shared} {b : Addr} (I : Inv X pins σ H s) (hb : s.heap.objs.size ≤ b) (hn : H' b = none) : FpOk X pins H' b := by
  refine ⟨hn, Nat.ne_of_gt (Nat.lt_of_lt_of_le I.lt hb), I.nofs hb, .inr (Nat.le_trans I.sz hb), fun x c e z => ?_, fun p hp z => ?_⟩
  · obtain ⟨v, q⟩ := I.cell x c e
    exact absurd (Nat.lt_of_lt_of_le q.lt (by rw [z]; exact hb)) (Nat.lt_irrefl _)
  · exact absurd (Nat.lt_of_lt_of_le (Heap.lt_size (I.pin p hp).1) (by rw [z]; exact hb)) (Nat.lt_irrefl _)
structure Turn (P : Program) (w : World) (K : PySem.W.Frag) (tg : Expr) (J : It) (fp : List Addr) (it : Addr) (tn : Nat → Heap → Prop) : Prop where
  mem : it ∈ fp
  obj : ∀ i h, tn i h → ∀ b ∈ fp, ∃ o, h.get? b = some o ∧ ∀ v, o.data ≠ .cell v
  keep : ∀ i h h', tn i h → (∀ b ∈ fp, ∀ o, h.get? b = some o → h'.get? b = some o) → tn i h'
  item : ∀ (X : Cx), X.prog = P → X.w = w → X.K = K → X.calm = true → ∀ (i : Nat) (pins : List (Addr × Obj)) (s : Shared) (σ : St) (H : Hp) (E : Value → Shared → Prop), Inv X pins σ H s → (∀ b ∈ fp, FpOk X pins H b) → tn i s.heap → J.go i H →
    wpAny (model P w) X.A (pyNext (.ref it)) (fun r s1 => ∃ u, r = some u ∧
      wpAny (model P w) X.A (letOwnedTupleGo tg (.ref it) u) (fun _ s2 => ∃ x H', Inv X pins σ H' s2 ∧ RelV x u ∧ J.yld i H x H' ∧ tn (i + 1) s2.heap ∧ ∀ b ∈ fp, H' b = none) E s1) E s
  done : ∀ (X : Cx), X.prog = P → X.w = w → X.K = K → X.calm = true → ∀ (i : Nat) (pins : List (Addr × Obj)) (s : Shared) (σ : St) (H : Hp) (E : Value → Shared → Prop), Inv X pins σ H s → (∀ b ∈ fp, FpOk X pins H b) → tn i s.heap → J.stop i H →
    wpAny (model P w) X.A (pyNext (.ref it)) (fun r s1 => r = none ∧ Inv X pins σ H s1) E s
  self : ∀ (A : Around) (i : Nat) (s : Shared) (Q : Value → Shared → Prop) (E : Value → Shared → Prop), tn i s.heap → Q (.ref it) s → wpAny (model P w) A (pyIter (.ref it)) Q E s
abbrev TI := St → Hp → (It → Hp → Prop) → Prop
def PIE (X : Cx) (pins : List (Addr × Obj)) (σ : St) (tg : Expr) (R : It → Hp → Prop) (itv : Value) (s2 : Shared) : Prop :=
  ∃ (it : Addr) (fp : List Addr) (tn : Nat → Heap → Prop) (J : It) (H' : Hp), itv = .ref it ∧ Inv X pins σ H' s2 ∧ Turn X.prog X.w X.K tg J fp it tn ∧ tn 0 s2.heap ∧ (∀ b ∈ fp, FpOk X pins H' b) ∧ R J H'
def PI (X : Cx) (tg iter : Expr) (wi : TI) : Prop :=
  ∀ (pins : List (Addr × Obj)) (s : Shared) (σ : St) (H : Hp) (R : It → Hp → Prop), Inv X pins σ H s → wi σ H R →
    wpAny (model X.prog X.w) X.A (eval iter X.env) (fun v s1 => wpAny (model X.prog X.w) X.A (pyIter v) (PIE X pins σ tg R) X.xe s1) X.xe s
theorem go_of {M : Model} {A : Around} {E : Value → Shared → Prop} {s : Shared} {tg : Expr} {it : Addr} {u : Value} {o : Obj} {n : String} {vs : Array Value} {Q : Unit → Shared → Prop} (ho : s.heap.get? it = some o) (hc : o.cls = .type n) (hd : o.data = .fields vs)
    (hn : ["enumerate", "zip", "dict_itemiterator", "dict_reverseitemiterator", "odict_iterator", "itertools.zip_longest", "itertools.pairwise"].contains n = false) (hQ : Q () s) : wpAny M A (letOwnedTupleGo tg (.ref it) u) Q E s := by
  unfold letOwnedTupleGo
  cases tg <;> first
    | exact wpAny_pure hQ
    | (cases u <;> first
        | exact wpAny_pure hQ
        | (refine wpAny_bind (wpAny_load ho ?_)
           rw [hc, hd]
           show wpAny M A (if (["enumerate", "zip", "dict_itemiterator", "dict_reverseitemiterator", "odict_iterator", "itertools.zip_longest", "itertools.pairwise"].contains n && vs[0]? == some (rawInt _)) = true then _ else _) Q E s
           rw [if_neg (by intro h; rw [hn, Bool.false_and] at h; cases h)]
           exact wpAny_pure hQ))
def Itl (K : PySem.W.Frag) (a : Addr) : It :=
  ⟨fun i H => ∃ xs x, SqL K H a xs ∧ xs[i]? = some x, fun i H x H' => H' = H ∧ ∀ xs, SqL K H a xs → xs[i]? = some x, fun i H => ∃ xs, SqL K H a xs ∧ xs.length ≤ i⟩
def Itt (K : PySem.W.Frag) (a : Addr) : It :=
  ⟨fun i H => ∃ xs x, SqT K H a xs ∧ xs[i]? = some x, fun i H x H' => H' = H ∧ ∀ xs, SqT K H a xs → xs[i]? = some x, fun i H => ∃ xs, SqT K H a xs ∧ xs.length ≤ i⟩
def Itr (lo : Int) (n : Nat) : It := ⟨fun i _ => i < n, fun i H x H' => H' = H ∧ x = .int (lo + i), fun i _ => n ≤ i⟩
theorem turn_list {P : Program} {w : World} {K : PySem.W.Frag} {tg : Expr} (a it : Addr) : Turn P w K tg (Itl K a) [it] it (fun i h => h.IsListIter it a i) where
  mem := by simp
  obj := fun i h st b hb => by
    have e : b = it := by simpa using hb
    subst e
    obtain ⟨o, e, c, d⟩ := st
    exact ⟨o, e, fun v z => by rw [d] at z; cases z⟩
  keep := fun i h h' st k => st.at fun o e => k it (by simp) o e
  item := by
    intro X hP hw hK hc i pins s σ H E I hf st hg
    subst hP hw hK
    obtain ⟨xs, x, hq, hx⟩ := hg
    obtain ⟨its, rv, p, hz⟩ := I.list hq
    obtain ⟨u, hu, ru⟩ := rv.get hx
    obtain ⟨f0, f1, f2, f3, f4, f5⟩ := hf it (by simp)
    refine wpAny_pyNext_list_item st p.isList (x := u) (by simpa using hu) fun h' st' sb => ?_
    have I1 : Inv X pins σ H { s with heap := h' } := I.turned (t' := s.toks) (fun b o hb e => (sb.2 b hb).trans e) f0 f1 f3 f4 f5
    obtain ⟨o, e, c, d⟩ := id st'
    exact ⟨u, rfl, go_of (s := { s with heap := h' }) e c d (by decide) ⟨x, H, I1, ru, ⟨rfl, fun ys hy => by rw [I.list_inj hy hq]; exact hx⟩, st', fun b hb => (hf b hb).1⟩⟩
  done := by
    intro X hP hw hK hc i pins s σ H E I hf st hg
    subst hP hw hK
    obtain ⟨xs, hq, hx⟩ := hg
    obtain ⟨its, rv, p, hz⟩ := I.list hq
    obtain ⟨f0, f1, f2, f3, f4, f5⟩ := hf it (by simp)
    have hl := rv.length
    exact wpAny_pyNext_list_end (I.ok.hd hc) st p.isList (by simp; omega) fun h' eb => ⟨rfl, I.turned (t' := s.toks) (fun b o hb e => eb b o hb e) f0 f1 f3 f4 f5⟩
  self := fun _ _ _ _ _ st h => wpAny_pyIter_listiter st h
theorem turn_tuple {P : Program} {w : World} {K : PySem.W.Frag} {tg : Expr} (a it : Addr) : Turn P w K tg (Itt K a) [it] it (fun i h => h.IsTupleIter it a i) where
  mem := by simp
  obj := fun i h st b hb => by
    have e : b = it := by simpa using hb
    subst e
    obtain ⟨o, e, c, d⟩ := st
    exact ⟨o, e, fun v z => by rw [d] at z; cases z⟩
  keep := fun i h h' st k => st.at fun o e => k it (by simp) o e
  item := by
    intro X hP hw hK hc i pins s σ H E I hf st hg
    subst hP hw hK
    obtain ⟨xs, x, hq, hx⟩ := hg
    obtain ⟨its, rv, p, hz⟩ := I.tuple hq
    obtain ⟨u, hu, ru⟩ := rv.get hx
    obtain ⟨f0, f1, f2, f3, f4, f5⟩ := hf it (by simp)
    refine wpAny_pyNext_tuple_item st (show s.heap.IsTuple a its.toArray from p) (x := u) (by simpa using hu) fun h' st' sb => ?_
    have I1 : Inv X pins σ H { s with heap := h' } := I.turned (t' := s.toks) (fun b o hb e => (sb.2 b hb).trans e) f0 f1 f3 f4 f5
    obtain ⟨o, e, c, d⟩ := id st'
    exact ⟨u, rfl, go_of (s := { s with heap := h' }) e c d (by decide) ⟨x, H, I1, ru, ⟨rfl, fun ys hy => by rw [I.tuple_inj hy hq]; exact hx⟩, st', fun b hb => (hf b hb).1⟩⟩
  done := by
    intro X hP hw hK hc i pins s σ H E I hf st hg
    subst hP hw hK
    obtain ⟨xs, hq, hx⟩ := hg
    obtain ⟨its, rv, p, hz⟩ := I.tuple hq
    obtain ⟨f0, f1, f2, f3, f4, f5⟩ := hf it (by simp)
    have hl := rv.length
    exact wpAny_pyNext_tuple_end (I.ok.hd hc) st (show s.heap.IsTuple a its.toArray from p) (by simp; omega) fun h' eb => ⟨rfl, I.turned (t' := s.toks) (fun b o hb e => eb b o hb e) f0 f1 f3 f4 f5⟩
  self := fun _ _ _ _ _ st h => wpAny_pyIter_tupleiter st h
theorem turn_range {P : Program} {w : World} {K : PySem.W.Frag} {tg : Expr} (it : Addr) (lo : Int) (n : Nat) : Turn P w K tg (Itr lo n) [it] it (fun i h => IsRangeIter h it (lo + (i : Nat) * 1) ((n : Int) - (i : Nat)) 1) where
  mem := by simp
  obj := fun i h st b hb => by
    have e : b = it := by simpa using hb
    subst e
    exact ⟨_, st, fun v z => by
      have z' : Data.fields _ = Data.cell v := z
      cases z'⟩
  keep := fun i h h' st k => k it (by simp) _ st
  item := by
    intro X hP hw hK hc i pins s σ H E I hf st hg
    subst hP hw hK
    obtain ⟨f0, f1, f2, f3, f4, f5⟩ := hf it (by simp)
    have W := Walks.range (prog := X.prog) (w := X.w) (I.ok.hd hc) it lo 1 n
    refine W.item i s _ _ hg st fun v h' tk hv st' kk => ?_
    obtain ⟨t, rfl⟩ := hv
    have I1 : Inv X pins σ H { s with heap := h', toks := tk } := I.turned (fun b o hb e => kk b o (by simpa using hb) e) f0 f1 f3 f4 f5
    refine ⟨_, rfl, go_of (s := { s with heap := h', toks := tk }) (n := "range_iterator") st' rfl rfl (by decide) ⟨.int (lo + i), H, I1, ⟨t, ?_⟩, ⟨rfl, rfl⟩, st', fun b hb => (hf b hb).1⟩⟩
    rw [Int.mul_one]
  done := by
    intro X hP hw hK hc i pins s σ H E I hf st hg
    subst hP hw hK
    obtain ⟨f0, f1, f2, f3, f4, f5⟩ := hf it (by simp)
    exact wpAny_pyNext_range_end (I.ok.hd hc) st (by have : n ≤ i := hg; omega) fun h' eb => ⟨rfl, I.turned (t' := s.toks) (fun b o hb e => eb b o hb e) f0 f1 f3 f4 f5⟩
  self := fun _ _ _ _ _ st h => wpAny_pyIter_rangeiter st h
end L2
namespace L2
open PySem PySem.Spec PyProof.Rows
section
variable {X : Cx} {tg : Expr}
def iList (K : PySem.W.Frag) (tl : TE) : TI := fun σ H R => tl σ H fun x H1 => ∃ a, x = .ref a ∧ (∃ xs, SqL K H1 a xs) ∧ R (Itl K a) H1
def iTup (K : PySem.W.Frag) (tl : TE) : TI := fun σ H R => tl σ H fun x H1 => ∃ a, x = .ref a ∧ (∃ xs, SqT K H1 a xs) ∧ R (Itt K a) H1
theorem pi_list {l : Expr} {tl : TE} (hl : PE X l tl) : PI X tg l (iList X.K tl) := by
  intro pins s σ H R I h
  refine thn (hl pins s σ H _ I h) fun v s1 ⟨x, H1, I1, r1, q1⟩ => ?_
  obtain ⟨a, e, ⟨xs, hq⟩, q⟩ := q1
  subst e
  cases r1
  obtain ⟨its, rv, p, hz⟩ := I1.list hq
  refine wpAny_pyIter_list p.isList ?_
  refine ⟨s1.heap.objs.size, [s1.heap.objs.size], _, _, H1, rfl, I1.kept (t' := s1.toks) fun b o e => Heap.get?_push_of_some _ e, turn_list a _, ⟨_, Heap.get?_push_size _ rfl, rfl, rfl⟩, fun b hb => ?_, q⟩
  have e : b = s1.heap.objs.size := by simpa using hb
  subst e
  exact I1.fpOk (Nat.le_refl _) (I1.hok.fresh (Nat.le_refl _))
theorem pi_tup {l : Expr} {tl : TE} (hl : PE X l tl) : PI X tg l (iTup X.K tl) := by
  intro pins s σ H R I h
  refine thn (hl pins s σ H _ I h) fun v s1 ⟨x, H1, I1, r1, q1⟩ => ?_
  obtain ⟨a, e, ⟨xs, hq⟩, q⟩ := q1
  subst e
  cases r1
  obtain ⟨its, rv, p, hz⟩ := I1.tuple hq
  refine wpAny_pyIter_tuple (show s1.heap.IsTuple a its.toArray from p) ?_
  refine ⟨s1.heap.objs.size, [s1.heap.objs.size], _, _, H1, rfl, I1.kept (t' := s1.toks) fun b o e => Heap.get?_push_of_some _ e, turn_tuple a _, ⟨_, Heap.get?_push_size _ rfl, rfl, rfl⟩, fun b hb => ?_, q⟩
  have e : b = s1.heap.objs.size := by simpa using hb
  subst e
  exact I1.fpOk (Nat.le_refl _) (I1.hok.fresh (Nat.le_refl _))
theorem range_it {pins : List (Addr × Obj)} {σ : St} {H : Hp} {s : Shared} {R : It → Hp → Prop} {E : Value → Shared → Prop} {lo hi : Int} {t u v : Tok} {tk : Nat} (I : Inv X pins σ H s) (h1 : -(2 ^ 62) ≤ lo) (h2 : lo < 2 ^ 62) (h3 : -(2 ^ 62) ≤ hi) (h4 : hi < 2 ^ 62)
    (q : R (Itr lo (hi - lo).toNat) H) : wpAny (model X.prog X.w) X.A (pyIter (.ref s.heap.objs.size)) (PIE X pins σ tg R) E { s with heap := s.heap.push { cls := .type "range", data := .fields #[.int lo t, .int hi u, .int 1 v] }, toks := tk } := by
  refine wpAny_pyIter_range (IsRange.new ..) (small_one h1 h2 h3 h4) ?_
  have I1 : Inv X pins σ H { s with heap := s.heap.push { cls := .type "range", data := .fields #[.int lo t, .int hi u, .int 1 v] }, toks := tk } := I.kept fun b o e => Heap.get?_push_of_some _ e
  refine ⟨(s.heap.push { cls := .type "range", data := .fields #[.int lo t, .int hi u, .int 1 v] }).objs.size, [(s.heap.push { cls := .type "range", data := .fields #[.int lo t, .int hi u, .int 1 v] }).objs.size], _, _, H, rfl,
    I1.kept (t' := tk) fun b o e => Heap.get?_push_of_some _ e, turn_range _ lo (hi - lo).toNat, ?_, fun b hb => ?_, q⟩
  · have e1 : lo + ((0 : Nat) : Int) * 1 = lo := by simp
    have e2 : (((hi - lo).toNat : Nat) : Int) - ((0 : Nat) : Int) = Builtin.Range.rangeSize lo hi 1 := by rw [rangeSize_one]; split <;> omega
    show IsRangeIter _ _ (lo + ((0 : Nat) : Int) * 1) ((((hi - lo).toNat : Nat) : Int) - ((0 : Nat) : Int)) 1
    rw [e1, e2]
    exact Heap.get?_push_size _ rfl
  · have e : b = (s.heap.push { cls := .type "range", data := .fields #[.int lo t, .int hi u, .int 1 v] }).objs.size := by simpa using hb
    subst e
    exact I1.fpOk (Nat.le_refl _) (I1.hok.fresh (Nat.le_refl _))
def iRng1 (ta : TA) : TI := fun σ H R => ta σ H fun vs H1 => ∃ j : Int, vs = [.int j] ∧ -(2 ^ 62) ≤ j ∧ j < 2 ^ 62 ∧ R (Itr 0 j.toNat) H1
def iRng2 (ta : TA) : TI := fun σ H R => ta σ H fun vs H1 => ∃ i j : Int, vs = [.int i, .int j] ∧ (-(2 ^ 62) ≤ i ∧ i < 2 ^ 62 ∧ -(2 ^ 62) ≤ j ∧ j < 2 ^ 62) ∧ R (Itr i (j - i).toNat) H1
theorem pi_range1 {a : Expr} {ta : TA} {p pos : Pos} (hg : Gl X "range") (hm : X.mg "range" = none) (ha : PA X [a] ta) (hs : starEach [a] X.env = [(false, eval a X.env)] := by rfl) : PI X tg (.Call (.Name "range" p) [a] [] pos) (iRng1 ta) := by
  intro pins s σ H R I h
  refine Call_ (ld_blt I hg hm boot_range (PyProof.Rows.callWith_type1 (thn (ha pos pins s σ H _ I h) fun us s1 ⟨vs, H1, I1, r1, q1⟩ => ?_) hs rfl))
  obtain ⟨j, e, q1, q2, q⟩ := q1
  subst e
  cases r1 with
  | cons r rr =>
    cases rr
    obtain ⟨t, rfl⟩ := r
    exact call_range_1 (range_it I1 (by omega) (by omega) q1 q2 (by simpa using q))
theorem pi_range2 {a b : Expr} {ta : TA} {p pos : Pos} (hg : Gl X "range") (hm : X.mg "range" = none) (ha : PA X [a, b] ta) (hs : starEach [a, b] X.env = [(false, eval a X.env), (false, eval b X.env)] := by rfl) (hs2 : starEach [b] X.env = [(false, eval b X.env)] := by rfl) :
    PI X tg (.Call (.Name "range" p) [a, b] [] pos) (iRng2 ta) := by
  intro pins s σ H R I h
  refine Call_ (ld_blt I hg hm boot_range (PyProof.Rows.callWith_type1 (thn (ha pos pins s σ H _ I h) fun us s1 ⟨vs, H1, I1, r1, q1⟩ => ?_) (by rw [hs, hs2]) (by rw [hs2]; rfl)))
  obtain ⟨i, j, e, ⟨q1, q2, q3, q4⟩, q⟩ := q1
  subst e
  cases r1 with
  | cons r rr =>
    cases rr with
    | cons r' rr =>
      cases rr
      obtain ⟨t, rfl⟩ := r
      obtain ⟨t', rfl⟩ := r'
      exact call_range_2 (range_it I1 q1 q2 q3 q4 q)
def tFor (wi : TI) (g : TG) (tb : TS) : TS := fun D σ H => wi σ H fun J H1 => ∃ W : Nat → Nat → St → Hp → Prop, (∃ m, W 0 m σ H1) ∧ ∀ i m σ H, W i m σ H →
  (J.stop i H ∧ D.nx σ H) ∨ (J.go i H ∧ ∃ N : St → Hp → Prop, (∀ σ' H', N σ' H' → ∃ m', m' < m ∧ W (i + 1) m' σ' H') ∧ ∀ x H', J.yld i H x H' → g x σ H' fun σ2 H2 => tb { D with nx := N, ct := N, bk := D.nx } σ2 H2)
def pinsAt (fp : List Addr) (h : Heap) : List (Addr × Obj) := fp.filterMap fun b => (h.get? b).map fun o => (b, o)
theorem mem_pinsAt {fp : List Addr} {h : Heap} {b : Addr} {o : Obj} (hb : b ∈ fp) (e : h.get? b = some o) : (b, o) ∈ pinsAt fp h := List.mem_filterMap.mpr ⟨b, hb, by rw [e]; rfl⟩
theorem of_pinsAt {fp : List Addr} {h : Heap} {p : Addr × Obj} (hp : p ∈ pinsAt fp h) : p.1 ∈ fp ∧ h.get? p.1 = some p.2 := by
  obtain ⟨b, hb, e⟩ := List.mem_filterMap.mp hp
  cases q : h.get? b with
  | none => rw [q] at e; cases e
  | some o =>
    rw [q] at e
    have e' : (b, o) = p := Option.some.inj e
    subst e'
    exact ⟨hb, q⟩
theorem Inv.pinned {pins : List (Addr × Obj)} {σ : St} {H : Hp} {s : Shared} {fp : List Addr} (I : Inv X pins σ H s) (hf : ∀ b ∈ fp, FpOk X pins H b) (ho : ∀ b ∈ fp, ∃ o, s.heap.get? b = some o ∧ ∀ v, o.data ≠ .cell v) : Inv X (pins ++ pinsAt fp s.heap) σ H s :=
  I.pins_of fun p hp => (List.mem_append.mp hp).elim (fun z => I.pin p (List.mem_append_right _ z)) fun z => by
    obtain ⟨hb, e⟩ := of_pinsAt z
    obtain ⟨f0, f1, f2, _⟩ := hf p.1 hb
    obtain ⟨o, e', d⟩ := ho p.1 hb
    rw [e] at e'; cases e'
    exact ⟨e, f0, f1, f2, d⟩
theorem Inv.unpinned {pins pl : List (Addr × Obj)} {σ : St} {H : Hp} {s : Shared} (I : Inv X (pins ++ pl) σ H s) : Inv X pins σ H s := I.pins_of fun p hp => I.pin p (List.mem_append_right _ (List.mem_append_left _ hp))
theorem ps_for {iter : Expr} {body : List Stmt} {wi : TI} {g : TG} {tb : TS} {pos : Pos} (hp : PassesOwn (model X.prog X.w) X.A X.env X.xe) (hc : X.calm = true) (hi : PI X tg iter wi) (hg : PG X tg g) (hb : PSs X body tb)
    (hs : ∀ x, foldedSetIterable iter X.env x = pure x := by intro _; rfl) : PS X (.For tg iter body [] pos) (tFor wi g tb) := by
  intro pins s σ H D I h
  refine wpAny_For (thn (hi pins s σ H _ I h) fun v s1 h1 => thn h1 fun itv s2 h2 => ?_) hs
  obtain ⟨it, fp, tn, J, H2, e, I2, T, st2, f2, W, ⟨m0, w0⟩, turn⟩ := h2
  subst e
  have stat : ∀ {H' : Hp}, (∀ b ∈ fp, H' b = none) → ∀ b ∈ fp, FpOk X pins H' b := fun hn b hb => ⟨hn b hb, (f2 b hb).2⟩
  refine codeAny_forLoop_any (fun n s' => ∃ i σ' H', Inv X pins σ' H' s' ∧ tn i s'.heap ∧ (∀ b ∈ fp, H' b = none) ∧ W i n σ' H') ?_ m0 ⟨0, σ, H2, I2, st2, fun b hb => (f2 b hb).1, w0⟩
  rintro n s3 ⟨i, σ3, H3, I3, st3, fr3, w3⟩
  rcases turn i n σ3 H3 w3 with ⟨stop, qn⟩ | ⟨go, N, hN, step⟩
  · refine wpAny_passesOwn hp (thn (T.done X rfl rfl rfl hc i pins s3 σ3 H3 X.xe I3 (stat fr3) st3 stop) fun r s4 ⟨hr, I4⟩ => ?_)
    subst hr
    exact wpAny_execs_nil ⟨σ3, H3, I4, qn⟩
  · refine wpAny_passesOwn hp (thn (T.item X rfl rfl rfl hc i pins s3 σ3 H3 X.xe I3 (stat fr3) st3 go) fun r s4 ⟨u, hr, h4⟩ => ?_)
    subst hr
    refine wpAny_passesOwn hp (thn h4 fun _ s5 ⟨x, H5, I5, r5, y5, st5, fr5⟩ => ?_)
    have I5' := I5.pinned (stat fr5) (T.obj _ _ st5)
    refine wpAny_passesOwn hp (thn (hg _ s5 σ3 H5 x u _ I5' r5 (step x H5 y5)) fun _ s6 ⟨σ6, H6, I6, q6⟩ => ?_)
    refine wpAny_passesOwn hp (thn (hb _ s6 σ6 H6 _ I6 q6) fun f s7 q7 => ?_)
    have again : ∀ {σ7 : St} {H7 : Hp}, Inv X (pins ++ pinsAt fp s5.heap) σ7 H7 s7 → N σ7 H7 → ∃ m, m < n ∧ ∃ i σ' H', Inv X pins σ' H' s7 ∧ tn i s7.heap ∧ (∀ b ∈ fp, H' b = none) ∧ W i m σ' H' := fun {σ7 H7} I7 n7 => by
      obtain ⟨m', hm, w7⟩ := hN σ7 H7 n7
      refine ⟨m', hm, i + 1, σ7, H7, I7.unpinned, T.keep _ _ _ st5 fun b hb o e => (I7.pin (b, o) (List.mem_append_right _ (List.mem_append_right _ (mem_pinsAt hb e)))).1, fun b hb => ?_, w7⟩
      obtain ⟨o, e, d⟩ := T.obj _ _ st5 b hb
      exact (I7.pin (b, o) (List.mem_append_right _ (List.mem_append_right _ (mem_pinsAt hb e)))).2.1
    cases f with
    | next => obtain ⟨σ7, H7, I7, n7⟩ := q7; exact again I7 n7
    | cont => obtain ⟨σ7, H7, I7, n7⟩ := q7; exact again I7 n7
    | brk => obtain ⟨σ7, H7, I7, q7⟩ := q7; exact ⟨σ7, H7, I7.unpinned, q7⟩
    | ret v => obtain ⟨x7, σ7, H7, I7, r7, q7⟩ := q7; exact ⟨x7, σ7, H7, I7.unpinned, r7, q7⟩
end
theorem for_range {lo : Int} {n : Nat} {g : TG} {tb : TS} {D : Ends} {σ : St} {H : Hp} (Pv : Nat → St → Hp → Prop) (h0 : Pv 0 σ H)
    (hs : ∀ i σ H, i < n → Pv i σ H → g (.int (lo + i)) σ H fun σ2 H2 => tb { D with nx := Pv (i + 1), ct := Pv (i + 1), bk := D.nx } σ2 H2) (hd : ∀ σ H, Pv n σ H → D.nx σ H) :
    ∃ W : Nat → Nat → St → Hp → Prop, (∃ m, W 0 m σ H) ∧ ∀ i m σ H, W i m σ H →
      ((Itr lo n).stop i H ∧ D.nx σ H) ∨ ((Itr lo n).go i H ∧ ∃ N : St → Hp → Prop, (∀ σ' H', N σ' H' → ∃ m', m' < m ∧ W (i + 1) m' σ' H') ∧ ∀ x H', (Itr lo n).yld i H x H' → g x σ H' fun σ2 H2 => tb { D with nx := N, ct := N, bk := D.nx } σ2 H2) := by
  refine ⟨fun i m σ H => m = n - i ∧ i ≤ n ∧ Pv i σ H, ⟨n, by simp, Nat.zero_le _, h0⟩, ?_⟩
  rintro i m σ H ⟨rfl, hi, p⟩
  by_cases hlt : i < n
  · refine .inr ⟨hlt, Pv (i + 1), fun σ' H' p' => ⟨n - (i + 1), by omega, rfl, hlt, p'⟩, fun x H' y => ?_⟩
    obtain ⟨e, y⟩ := y
    subst e y
    exact hs i σ _ hlt p
  · have e : i = n := by omega
    subst e
    exact .inl ⟨Nat.le_refl _, hd σ H p⟩
end L2
namespace L2
open PySem PySem.Spec PyProof.Rows
abbrev R2 := V → V → Hp → VK → Prop
def OpR (X : Cx) (f : Value → Value → Sem Value) (r : R2) : Prop :=
  ∀ (pins : List (Addr × Obj)) (s : Shared) (σ : St) (H : Hp) (x y : V) (v u : Value) (Q : VK), Inv X pins σ H s → RelV x v → RelV y u → r x y H Q →
    wpAny (model X.prog X.w) X.A (f v u) (EP X pins σ Q) X.xe s
def UnR (X : Cx) (f : Value → Sem Value) (r : V → Hp → VK → Prop) : Prop :=
  ∀ (pins : List (Addr × Obj)) (s : Shared) (σ : St) (H : Hp) (x : V) (v : Value) (Q : VK), Inv X pins σ H s → RelV x v → r x H Q →
    wpAny (model X.prog X.w) X.A (f v) (EP X pins σ Q) X.xe s
def CallR (X : Cx) (f : Value) (r : List V → Hp → VK → Prop) : Prop :=
  ∀ (pins : List (Addr × Obj)) (s : Shared) (σ : St) (H : Hp) (xs : List V) (us : List Value) (Q : VK), Inv X pins σ H s → Vals xs us → r xs H Q →
    wpAny (model X.prog X.w) X.A (call f us) (EP X pins σ Q) X.xe s
def TruR (X : Cx) (r : V → Hp → (Bool → Hp → Prop) → Prop) : Prop :=
  ∀ (pins : List (Addr × Obj)) (s : Shared) (σ : St) (H : Hp) (x : V) (v : Value) (Q : Bool → Hp → Prop), Inv X pins σ H s → RelV x v → r x H Q →
    wpAny (model X.prog X.w) X.A (truthy v) (TP X pins σ Q) X.xe s
def tOp (r : R2) (ta tb : TE) : TE := fun σ H Q => ta σ H fun x H1 => tb σ H1 fun y H2 => r x y H2 Q
def tUn (r : V → Hp → VK → Prop) (ta : TE) : TE := fun σ H Q => ta σ H fun x H1 => r x H1 Q
def rI (C : Int → Int → Prop) (g : Int → Int → V) : R2 := fun x y H Q => ∃ i j, x = .int i ∧ y = .int j ∧ C i j ∧ Q (g i j) H
def rI0 (g : Int → Int → V) : R2 := fun x y H Q => ∃ i j, x = .int i ∧ y = .int j ∧ Q (g i j) H
def rU (g : Int → V) : V → Hp → VK → Prop := fun x H Q => ∃ i, x = .int i ∧ Q (g i) H
section
variable {X : Cx} {a b c : Expr} {ta tb tc : TE} {pos : Pos}
theorem binT (ha : PE X a ta) (hb : PE X b tb) {pins : List (Addr × Obj)} {s : Shared} {σ : St} {H : Hp} {R : V → V → Hp → Prop} (I : Inv X pins σ H s)
    (h : ta σ H fun x H1 => tb σ H1 fun y H2 => R x y H2) {Q : Value → Shared → Prop} {f : Value → Value → Sem Value}
    (hf : ∀ v u s2 x y H2, Inv X pins σ H2 s2 → RelV x v → RelV y u → R x y H2 → wpAny (model X.prog X.w) X.A (f v u) Q X.xe s2) :
    wpAny (model X.prog X.w) X.A (eval a X.env) (fun v s₁ => wpAny (model X.prog X.w) X.A (eval b X.env) (fun u s₂ => wpAny (model X.prog X.w) X.A (f v u) Q X.xe s₂) X.xe s₁) X.xe s := by
  refine thn (ha pins s σ H _ I h) fun v s1 ⟨x, H1, I1, r1, q1⟩ => ?_
  refine thn (hb pins s1 σ H1 _ I1 q1) fun u s2 ⟨y, H2, I2, r2, q2⟩ => ?_
  exact hf v u s2 x y H2 I2 r1 r2 q2
theorem pe_op {op : Operator} {r : R2} (ho : OpR X (binaryOp op) r) (ha : PE X a ta) (hb : PE X b tb) : PE X (.BinOp a op b pos) (tOp r ta tb) := by
  intro pins s σ H Q I h
  exact wpAny_BinOp (binT ha hb I h fun v u s2 x y H2 I2 rx ry q => ho pins s2 σ H2 x y v u Q I2 rx ry q)
theorem pe_un {op : UnaryOp} {r : V → Hp → VK → Prop} (ho : UnR X (unaryOp op) r) (ha : PE X a ta) : PE X (.UnaryOp op a pos) (tUn r ta) := by
  intro pins s σ H Q I h
  exact UnaryOp_ (thn (ha pins s σ H _ I h) fun v s1 ⟨x, H1, I1, r1, q1⟩ => ho pins s1 σ H1 x v Q I1 r1 q1)
theorem opI {f : Value → Value → Sem Value} {C : Int → Int → Prop} {g : Int → Int → Int}
    (rule : ∀ (i j : Int) (t u : Tok) (s : Shared) (Q : Value → Shared → Prop) (E : Value → Shared → Prop), C i j → Q (.int (g i j) s.toks) { s with toks := s.toks + 1 } → wpAny (model X.prog X.w) X.A (f (.int i t) (.int j u)) Q E s) :
    OpR X f (rI C fun i j => .int (g i j)) := by
  intro pins s σ H x y v u Q I rx ry h
  obtain ⟨i, j, rfl, rfl, hc, q⟩ := h
  obtain ⟨t, rfl⟩ := rx
  obtain ⟨t', rfl⟩ := ry
  exact rule i j t t' s _ _ hc ⟨.int (g i j), H, I.tok _, ⟨_, rfl⟩, q⟩
theorem opI0 {f : Value → Value → Sem Value} {g : Int → Int → Int}
    (rule : ∀ (i j : Int) (t u : Tok) (s : Shared) (Q : Value → Shared → Prop) (E : Value → Shared → Prop), Q (.int (g i j) s.toks) { s with toks := s.toks + 1 } → wpAny (model X.prog X.w) X.A (f (.int i t) (.int j u)) Q E s) :
    OpR X f (rI0 fun i j => .int (g i j)) := by
  intro pins s σ H x y v u Q I rx ry h
  obtain ⟨i, j, rfl, rfl, q⟩ := h
  obtain ⟨t, rfl⟩ := rx
  obtain ⟨t', rfl⟩ := ry
  exact rule i j t t' s _ _ ⟨.int (g i j), H, I.tok _, ⟨_, rfl⟩, q⟩
theorem opB0 {f : Value → Value → Sem Value} {g : Int → Int → Bool}
    (rule : ∀ (i j : Int) (t u : Tok) (s : Shared) (Q : Value → Shared → Prop) (E : Value → Shared → Prop), Q (.bool (g i j)) s → wpAny (model X.prog X.w) X.A (f (.int i t) (.int j u)) Q E s) :
    OpR X f (rI0 fun i j => .bl (g i j)) := by
  intro pins s σ H x y v u Q I rx ry h
  obtain ⟨i, j, rfl, rfl, q⟩ := h
  obtain ⟨t, rfl⟩ := rx
  obtain ⟨t', rfl⟩ := ry
  exact rule i j t t' s _ _ ⟨.bl (g i j), H, I, rfl, q⟩
def CDiv (i j : Int) : Prop := 0 < j ∧ j < 1073741824
def CMul (i j : Int) : Prop := (-(2 ^ 64) < i ∧ i < 2 ^ 64) ∨ (-(2 ^ 64) < j ∧ j < 2 ^ 64)
theorem CMul.ok {i j : Int} (h : CMul i j) : IntMulOk i j := by
  rcases h with ⟨h1, h2⟩ | ⟨h1, h2⟩
  · exact .of_left (intBits_le_64 h1 h2)
  · exact .of_right (intBits_le_64 h1 h2)
theorem op_add : OpR X (binaryOp .Add) (rI0 fun i j => .int (i + j)) := opI0 fun _ _ _ _ _ _ _ q => add_int q
theorem op_sub : OpR X (binaryOp .Sub) (rI0 fun i j => .int (i - j)) := opI0 fun _ _ _ _ _ _ _ q => sub_int q
theorem op_mul : OpR X (binaryOp .Mult) (rI CMul fun i j => .int (i * j)) := opI fun _ _ _ _ _ _ _ hc q => mul_int q hc.ok
theorem op_fdiv : OpR X (binaryOp .FloorDiv) (rI CDiv fun i j => .int (i / j)) := opI fun i j _ _ _ _ _ hc q => by
  have h1 : (0 : Int) < j := hc.1
  have h2 : j < 1073741824 := hc.2
  exact floordiv_int (by omega) (by rw [Int.fdiv_eq_ediv_of_nonneg i (by omega)]; exact q) (.inl (PyProof.noPylong_small (by omega)))
theorem op_mod : OpR X (binaryOp .Mod) (rI (fun _ j => 0 < j) fun i j => .int (i % j)) := opI fun i j _ _ _ _ _ hc q => by
  have h1 : (0 : Int) < j := hc
  exact mod_int' (by omega) (by rw [Int.fmod_eq_emod_of_nonneg i (by omega)]; exact q)
theorem unI {f : Value → Sem Value} {g : Int → Int}
    (rule : ∀ (i : Int) (t : Tok) (s : Shared) (Q : Value → Shared → Prop) (E : Value → Shared → Prop), Q (.int (g i) s.toks) { s with toks := s.toks + 1 } → wpAny (model X.prog X.w) X.A (f (.int i t)) Q E s) :
    UnR X f (rU fun i => .int (g i)) := by
  intro pins s σ H x v Q I rx h
  obtain ⟨i, rfl, q⟩ := h
  obtain ⟨t, rfl⟩ := rx
  exact rule i t s _ _ ⟨.int (g i), H, I.tok _, ⟨_, rfl⟩, q⟩
theorem un_neg : UnR X (unaryOp .USub) (rU fun i => .int (-i)) := unI fun _ _ _ _ _ q => neg_int q
end
def scal : V → V → Bool
  | .non, .non => true | .non, .int _ => true | .int _, .non => true | .non, .bl _ => true | .bl _, .non => true | .non, .str _ => true | .str _, .non => true
  | .int _, .int _ => true | .bl _, .bl _ => true | .str _, .str _ => true | .byt _, .byt _ => true
  | .int _, .str _ => true | .str _, .int _ => true | .bl _, .str _ => true | .str _, .bl _ => true
  | _, _ => false
def rEq : R2 := fun x y H Q => scal x y = true ∧ Q (.bl (decide (x = y))) H
def rNe : R2 := fun x y H Q => scal x y = true ∧ Q (.bl (!decide (x = y))) H
theorem dec_int {i j : Int} : decide (V.int i = V.int j) = (i == j) := by
  rw [Bool.eq_iff_iff]
  simp
theorem dec_bl {i j : Bool} : decide (V.bl i = V.bl j) = (i == j) := by
  rw [Bool.eq_iff_iff]
  simp
theorem dec_str {i j : Str} : decide (V.str i = V.str j) = (i == j) := by
  rw [Bool.eq_iff_iff]
  simp
theorem dec_byt {i j : Array UInt8} : decide (V.byt i = V.byt j) = (i.toList == j.toList) := by
  rw [Bool.eq_iff_iff]
  cases i
  cases j
  simp
section
variable {X : Cx} {a b c : Expr} {ta tb tc : TE} {pos : Pos}
theorem fin_bl {pins : List (Addr × Obj)} {σ : St} {H : Hp} {s : Shared} {Q : VK} {k k' : Bool} (I : Inv X pins σ H s) (q : Q (.bl k) H) (e : k = k') : EP X pins σ Q (.bool k') s := by
  subst e
  exact ⟨.bl k, H, I, rfl, q⟩
theorem op_eq : OpR X (compareOp .Eq) rEq := by
  intro pins s σ H x y v u Q I rx ry h
  obtain ⟨hs, q⟩ := h
  cases x with
  | non =>
    cases rx
    cases y with
    | non => cases ry; exact PySem.EqNone.eq_none_none (fin_bl I q (by simp))
    | bl j => cases ry; exact PySem.EqNone.eq_none_bool (fin_bl I q (by simp))
    | int j => obtain ⟨t', rfl⟩ := ry; exact PySem.EqNone.eq_none_int (fin_bl I q (by simp))
    | str j => obtain ⟨t', rfl⟩ := ry; exact PySem.EqNone.eq_none_str (fin_bl I q (by simp))
    | _ => exact absurd (show false = true from hs) Bool.false_ne_true
  | bl i =>
    cases rx
    cases y with
    | non => cases ry; exact PySem.EqNone.eq_bool_none (fin_bl I q (by simp))
    | bl j => cases ry; exact eq_bool (fin_bl I q dec_bl)
    | str j => obtain ⟨t', rfl⟩ := ry; exact PySem.EqMixed.eq_bool_str (fin_bl I q (by simp))
    | _ => exact absurd (show false = true from hs) Bool.false_ne_true
  | int i =>
    obtain ⟨t, rfl⟩ := rx
    cases y with
    | non => cases ry; exact PySem.EqNone.eq_int_none (fin_bl I q (by simp))
    | int j => obtain ⟨t', rfl⟩ := ry; exact eq_int (fin_bl I q dec_int)
    | str j => obtain ⟨t', rfl⟩ := ry; exact PySem.EqMixed.eq_int_str (fin_bl I q (by simp))
    | _ => exact absurd (show false = true from hs) Bool.false_ne_true
  | str i =>
    obtain ⟨t, rfl⟩ := rx
    cases y with
    | non => cases ry; exact PySem.EqNone.eq_str_none (fin_bl I q (by simp))
    | bl j => cases ry; exact PySem.EqMixed.eq_str_bool (fin_bl I q (by simp))
    | int j => obtain ⟨t', rfl⟩ := ry; exact PySem.EqMixed.eq_str_int (fin_bl I q (by simp))
    | str j => obtain ⟨t', rfl⟩ := ry; exact eq_str (fin_bl I q dec_str)
    | _ => exact absurd (show false = true from hs) Bool.false_ne_true
  | byt i =>
    obtain ⟨t, rfl⟩ := rx
    cases y with
    | byt j => obtain ⟨t', rfl⟩ := ry; exact PySem.W.eq_bytes (fin_bl I q dec_byt)
    | _ => exact absurd (show false = true from hs) Bool.false_ne_true
  | _ => cases y <;> exact absurd (show false = true from hs) Bool.false_ne_true
theorem op_ne : OpR X (compareOp .NotEq) rNe := by
  intro pins s σ H x y v u Q I rx ry h
  obtain ⟨hs, q⟩ := h
  cases x with
  | non =>
    cases rx
    cases y with
    | non => cases ry; exact PySem.EqNone.ne_none_none (fin_bl I q (by simp))
    | bl j => cases ry; exact PySem.EqNone.ne_none_bool (fin_bl I q (by simp))
    | int j => obtain ⟨t', rfl⟩ := ry; exact PySem.EqNone.ne_none_int (fin_bl I q (by simp))
    | str j => obtain ⟨t', rfl⟩ := ry; exact PySem.EqNone.ne_none_str (fin_bl I q (by simp))
    | _ => exact absurd (show false = true from hs) Bool.false_ne_true
  | bl i =>
    cases rx
    cases y with
    | non => cases ry; exact PySem.EqNone.ne_bool_none (fin_bl I q (by simp))
    | bl j => cases ry; exact ne_bool (fin_bl I q (congrArg not dec_bl))
    | str j => obtain ⟨t', rfl⟩ := ry; exact PySem.EqMixed.ne_bool_str (fin_bl I q (by simp))
    | _ => exact absurd (show false = true from hs) Bool.false_ne_true
  | int i =>
    obtain ⟨t, rfl⟩ := rx
    cases y with
    | non => cases ry; exact PySem.EqNone.ne_int_none (fin_bl I q (by simp))
    | int j => obtain ⟨t', rfl⟩ := ry; exact ne_int (fin_bl I q (congrArg not dec_int))
    | str j => obtain ⟨t', rfl⟩ := ry; exact PySem.EqMixed.ne_int_str (fin_bl I q (by simp))
    | _ => exact absurd (show false = true from hs) Bool.false_ne_true
  | str i =>
    obtain ⟨t, rfl⟩ := rx
    cases y with
    | non => cases ry; exact PySem.EqNone.ne_str_none (fin_bl I q (by simp))
    | bl j => cases ry; exact PySem.EqMixed.ne_str_bool (fin_bl I q (by simp))
    | int j => obtain ⟨t', rfl⟩ := ry; exact PySem.EqMixed.ne_str_int (fin_bl I q (by simp))
    | str j => obtain ⟨t', rfl⟩ := ry; exact ne_str (fin_bl I q (congrArg not dec_str))
    | _ => exact absurd (show false = true from hs) Bool.false_ne_true
  | byt i =>
    obtain ⟨t, rfl⟩ := rx
    cases y with
    | byt j => obtain ⟨t', rfl⟩ := ry; exact PySem.W.ne_bytes (fin_bl I q (congrArg not dec_byt))
    | _ => exact absurd (show false = true from hs) Bool.false_ne_true
  | _ => cases y <;> exact absurd (show false = true from hs) Bool.false_ne_true
theorem op_lt : OpR X (compareOp .Lt) (rI0 fun i j => .bl (decide (i < j))) := opB0 fun _ _ _ _ _ _ _ q => lt_int q
theorem op_le : OpR X (compareOp .LtE) (rI0 fun i j => .bl (decide (i ≤ j))) := opB0 fun _ _ _ _ _ _ _ q => le_int q
theorem op_gt : OpR X (compareOp .Gt) (rI0 fun i j => .bl (decide (j < i))) := opB0 fun _ _ _ _ _ _ _ q => gt_int q
theorem op_isN : OpR X (compareOp .Is) (fun x y H Q => y = .non ∧ Q (.bl (decide (x = .non))) H) := by
  intro pins s σ H x y v u Q I rx ry h
  obtain ⟨rfl, q⟩ := h
  cases ry
  refine is_none_gen (fin_bl I q ?_)
  cases x <;> first
    | (cases rx; rfl)
    | (obtain ⟨t, rfl⟩ := rx; rfl)
theorem nomark (b : Expr) {op : CmpOp} (h : op ≠ .In := by decide) (h2 : op ≠ .NotIn := by decide) : behindInMarks op b = false := by
  have e1 : (op == CmpOp.In) = false := by cases op <;> first | rfl | exact absurd rfl h
  have e2 : (op == CmpOp.NotIn) = false := by cases op <;> first | rfl | exact absurd rfl h2
  cases b <;> simp [behindInMarks, e1, e2]
theorem pe_cmpR {op : CmpOp} {r : R2} (ho : OpR X (compareOp op) r) (ha : PE X a ta) (hb : PE X b tb) (hm : behindInMarks op b = false) : PE X (.Compare a [op] [b] pos) (tOp r ta tb) := by
  intro pins s σ H Q I h
  exact wpAny_Compare1 (binT ha hb I h fun v u s2 x y H2 I2 rx ry q => ho pins s2 σ H2 x y v u Q I2 rx ry q) hm
def tTest (t : TE) : TT := fun σ H Q => t σ H fun x H' => ∃ k, x = .bl k ∧ Q k H'
theorem pt_cmpR {op : CmpOp} {r : R2} (ho : OpR X (compareOp op) r) (ha : PE X a ta) (hb : PE X b tb) (hm : behindInMarks op b = false) : PT X (.Compare a [op] [b] pos) (tTest (tOp r ta tb)) := by
  intro pins s σ H Q I h
  refine wpAny_isTrue_Compare1 (thn (ha pins s σ H _ I h) fun v s1 ⟨x, H1, I1, r1, q1⟩ => thn (hb pins s1 σ H1 _ I1 q1) fun u s2 ⟨y, H2, I2, r2, q2⟩ =>
    thn (ho pins s2 σ H2 x y v u _ I2 r1 r2 q2) fun c s3 ⟨z, H3, I3, r3, k, e, q3⟩ => ?_) hm
  subst e
  cases r3
  exact wpAny_truthy_bool ⟨H3, I3, q3⟩
def tChain (r r' : R2) (ta tb tc : TE) : TE := fun σ H Q => ta σ H fun x H1 => tb σ H1 fun y H2 => r x y H2 fun z H3 => ∃ k, z = .bl k ∧
  (if k = true then tc σ H3 fun w' H4 => r' y w' H4 Q else Q (.bl false) H3)
theorem pe_chain {op op' : CmpOp} {r r' : R2} (ho : OpR X (compareOp op) r) (ho' : OpR X (compareOp op') r') (ha : PE X a ta) (hb : PE X b tb) (hc : PE X c tc)
    (hm : lastMarks [op, op'] [b, c] = false := by with_unfolding_all rfl) : PE X (.Compare a [op, op'] [b, c] pos) (tChain r r' ta tb tc) := by
  intro pins s σ H Q I h
  refine Compare_chain (thn (ha pins s σ H _ I h) fun v s1 ⟨x, H1, I1, r1, q1⟩ => chain_link (thn (hb pins s1 σ H1 _ I1 q1) fun u s2 ⟨y, H2, I2, r2, q2⟩ =>
    thn (ho pins s2 σ H2 x y v u _ I2 r1 r2 q2) fun d s3 ⟨z, H3, I3, r3, k, e, q3⟩ => ?_)) hm
  subst e
  cases r3
  refine wpAny_truthy_bool ?_
  cases k with
  | false => exact ite_ff ⟨.bl false, H3, I3, rfl, q3⟩
  | true => exact ite_tt (chain_last (thn (hc pins s3 σ H3 _ I3 q3) fun w' s4 ⟨z', H4, I4, r4, q4⟩ => ho' pins s4 σ H4 y z' u w' Q I4 r2 r4 q4))
theorem pt_chain {op op' : CmpOp} {r r' : R2} (ho : OpR X (compareOp op) r) (ho' : OpR X (compareOp op') r') (ha : PE X a ta) (hb : PE X b tb) (hc : PE X c tc)
    (hm : lastMarks [op, op'] [b, c] = false := by with_unfolding_all rfl) : PT X (.Compare a [op, op'] [b, c] pos) (tTest (tChain r r' ta tb tc)) := by
  intro pins s σ H Q I h
  refine isTrue_chain (thn (ha pins s σ H _ I h) fun v s1 ⟨x, H1, I1, r1, q1⟩ => test_link (thn (hb pins s1 σ H1 _ I1 q1) fun u s2 ⟨y, H2, I2, r2, q2⟩ =>
    thn (ho pins s2 σ H2 x y v u _ I2 r1 r2 q2) fun d s3 ⟨z, H3, I3, r3, k, e, q3⟩ => ?_)) hm
  subst e
  cases r3
  refine wpAny_truthy_bool ?_
  cases k with
  | false =>
    obtain ⟨k', e', q'⟩ := q3
    cases e'
    exact ite_ff ⟨H3, I3, q'⟩
  | true =>
    refine ite_tt (test_last (thn (hc pins s3 σ H3 _ I3 q3) fun w' s4 ⟨z', H4, I4, r4, q4⟩ => thn (ho' pins s4 σ H4 y z' u w' _ I4 r2 r4 q4) fun d' s5 ⟨z2, H5, I5, r5, k2, e2, q5⟩ => ?_))
    subst e2
    cases r5
    exact wpAny_truthy_bool ⟨H5, I5, q5⟩
def TruV (K : PySem.W.Frag) (x : V) (H : Hp) (k : Bool) : Prop :=
  match x with
  | .non => k = false
  | .bl b => k = b
  | .int i => k = (i != 0)
  | .str y => y.length ≤ sizeLine ∧ k = ((y.length : Int) != 0)
  | .byt y => y.size ≤ sizeLine ∧ k = ((y.size : Int) != 0)
  | .ref p => (∃ xs, SqL K H p xs ∧ k = !xs.isEmpty) ∨ (∃ xs, SqT K H p xs ∧ k = !xs.isEmpty) ∨ ∃ kvs, H p = some (.dK kvs) ∧ k = !kvs.isEmpty
  | _ => False
theorem isEmpty_kv {κ : Type} {kvs : List (κ × V)} {vs : List (κ × Value)} (r : KV kvs vs) : (!vs.isEmpty) = !kvs.isEmpty := by
  cases r <;> rfl
theorem isEmpty_of {xs : List V} {its : List Value} (r : Vals xs its) : (!its.toArray.isEmpty) = !xs.isEmpty := by
  cases r <;> simp
theorem line63 : (sizeLine : Nat) < 2 ^ 63 := by rw [sizeLine_eq]; decide
theorem tru_ok : TruR X (fun x H Q => ∃ k, TruV X.K x H k ∧ Q k H) := by
  intro pins s σ H x v Q I rx h
  obtain ⟨k, e, q⟩ := h
  have hl := line63
  have hs : sizeLine = 16777216 := sizeLine_eq
  cases x with
  | non =>
    cases rx
    have e' : k = false := e
    subst e'
    exact truthy_none ⟨H, I, q⟩
  | bl b =>
    cases rx
    have e' : k = b := e
    subst e'
    exact wpAny_truthy_bool ⟨H, I, q⟩
  | int i =>
    obtain ⟨t, rfl⟩ := rx
    have e' : k = (i != 0) := e
    subst e'
    exact PySem.P.truthy_int ⟨H, I, q⟩
  | str y =>
    obtain ⟨t, rfl⟩ := rx
    obtain ⟨hy, e'⟩ : y.length ≤ sizeLine ∧ k = ((y.length : Int) != 0) := e
    subst e'
    exact PySem.P.truthy_str (by omega) ⟨H, I.tok _, q⟩
  | byt y =>
    obtain ⟨t, rfl⟩ := rx
    obtain ⟨hy, e'⟩ : y.size ≤ sizeLine ∧ k = ((y.size : Int) != 0) := e
    subst e'
    exact PySem.W.truthy_bytes (by omega) ⟨H, I.tok _, q⟩
  | ref p =>
    cases rx
    have e' : (∃ xs, SqL X.K H p xs ∧ k = !xs.isEmpty) ∨ (∃ xs, SqT X.K H p xs ∧ k = !xs.isEmpty) ∨ ∃ kvs, H p = some (.dK kvs) ∧ k = !kvs.isEmpty := e
    rcases e' with ⟨xs, hx, e'⟩ | ⟨xs, hx, e'⟩ | ⟨kvs, hx, e'⟩
    · subst e'
      obtain ⟨its, r, pl, hz⟩ := I.list hx
      have hlen := r.length
      exact wpAny_truthy_list pl.isList (by simp only [List.size_toArray]; omega) ⟨H, I.tok _, by rw [isEmpty_of r]; exact q⟩
    · subst e'
      obtain ⟨its, r, pl, hz⟩ := I.tuple hx
      have hlen := r.length
      exact truthy_tuple pl (by simp only [List.size_toArray]; omega) ⟨H, I.tok _, by rw [isEmpty_of r]; exact q⟩
    · subst e'
      obtain ⟨hz, hS, vs, r, m⟩ : kvs.length ≤ sizeLine ∧ (p == sysModules) = false ∧ ∃ vs, KV kvs vs ∧ s.heap.DictOf (mixKind X.prog X.w) p vs := I.hok p _ hx
      have hlen : kvs.length = vs.length := Paired.length r
      exact wpAny_truthy_dict hS m (by omega) ⟨H, I.tok _, by rw [isEmpty_kv r]; exact q⟩
  | _ => exact (show False from e).elim
theorem pt_truth (ha : PE X a ta) (he : ∀ whole, isTrue a X.env whole = (do let v ← whole; standAt a.pos; holding [v] (truthy v))) :
    PT X a (fun σ H Q => ta σ H fun x H' => ∃ k, TruV X.K x H' k ∧ Q k H') := by
  intro pins s σ H Q I h
  exact isTrue_plain (thn (ha pins s σ H _ I h) fun v s1 ⟨x, H1, I1, r1, q1⟩ => tru_ok pins s1 σ H1 x v Q I1 r1 q1) (he _)
theorem op_add_str : OpR X (binaryOp .Add) (fun x y H Q => ∃ i j, x = .str i ∧ y = .str j ∧ i.length + j.length ≤ sizeLine ∧ Q (.str (i ++ j)) H) := by
  intro pins s σ H x y v u Q I rx ry h
  obtain ⟨i, j, rfl, rfl, hz, q⟩ := h
  obtain ⟨t, rfl⟩ := rx
  obtain ⟨t', rfl⟩ := ry
  exact add_str (fun t' tk => ⟨.str (i ++ j), H, I.tok _, ⟨_, rfl⟩, q⟩) hz
theorem vals1 {x : V} {us : List Value} (r : Vals [x] us) : ∃ u, us = [u] ∧ RelV x u := by
  cases r with
  | cons r1 r2 => cases r2; exact ⟨_, rfl, r1⟩
theorem vals2 {x y : V} {us : List Value} (r : Vals [x, y] us) : ∃ u w', us = [u, w'] ∧ RelV x u ∧ RelV y w' := by
  cases r with
  | cons r1 r2 =>
    cases r2 with
    | cons r3 r4 => cases r4; exact ⟨_, _, rfl, r1, r3⟩
theorem call_str_int : CallR X (.type "str") (fun xs H Q => ∃ i, xs = [.int i] ∧ i.natAbs.log2 < 1920 ∧ Q (.str (toString i)) H) := by
  intro pins s σ H xs us Q I r h
  obtain ⟨i, rfl, hz, q⟩ := h
  obtain ⟨u, rfl, t, rfl⟩ := vals1 r
  exact PySem.P.str_of_int hz ⟨.str _, H, I.tok _, ⟨_, rfl⟩, q⟩
end
end L2
namespace L2
open PySem PySem.Spec PyProof.Rows
structure ObjM (h : Heap) (x dx C : Addr) (mA : Str → Option Value) : Prop where
  obj : h.get? x = some (PySem.W.instObj C dx)
  ns : h.Ns1 dx mA
  ne : dx ≠ x
theorem lookIn_ns {h : Heap} {dx : Addr} {mA : Str → Option Value} (n : h.Ns1 dx mA) : ∃ od, h.get? dx = some od ∧ ∀ name, PySem.W.lookIn name od = some (mA name) := by
  obtain ⟨o, es, ep, ho, hd, hk, _, hm⟩ := n
  refine ⟨o, ho, fun name => ?_⟩
  have e := hm name
  unfold nsFind findBy at e
  rw [← Array.find?_toList] at e
  unfold PySem.W.lookIn
  rw [hd]
  dsimp only
  split
  · rename_i y q
    rw [q] at e
    exact congrArg some e
  · rename_i q
    rw [q] at e
    have a : es.toList.any (·.refKey) = false := by
      rw [List.any_eq_false]
      intro y hy
      obtain ⟨z, t, hkey⟩ := hk y (Array.mem_toList_iff.mp hy)
      simp [DictEntry.refKey, hkey]
    have a' : ¬ es.toList.any (·.refKey) = true := by rw [a]; exact Bool.false_ne_true
    rw [if_neg a']
    exact congrArg some e
theorem ObjM.look {h : Heap} {x dx C : Addr} {mA : Str → Option Value} (I : ObjM h x dx C mA) : ∃ od, PySem.W.InstAt h x (PySem.W.instObj C dx) C (some od) ∧ ∀ name, PySem.W.lookIn name od = some (mA name) :=
  let ⟨od, ho, hl⟩ := lookIn_ns I.ns
  ⟨od, ⟨I.obj, rfl, rfl, ho⟩, hl⟩
section
variable {prog : Program} {w : World} {A : Around} {E : Value → Shared → Prop} {s : Shared} {K : PySem.W.Frag} {x dx C f : Addr} {mA : Str → Option Value} {name : Str} {v : Value}
end
theorem RelO.none_of {o : Option Value} (r : RelO none o) : o = none := by
  cases o with
  | none => rfl
  | some u => exact (show False from r).elim
section
variable {P : Program} {w : World} {H H' : Hp} {h h' : Heap} {a C dx : Addr} {fs fs' : List (Str × V)}
theorem ins_get (hok : HOk P w H h) (e : H a = some (.ins C dx fs)) : ∃ mA, ObjM h a dx C mA ∧ (∀ f, RelO (fs.lookup f) (mA f)) ∧ PySem.Within mA (fs.map (·.1)) ∧ fs.length ≤ 1000 ∧ H dx = some (.own a) := by
  obtain ⟨d, z, ne, ob, mA, n, r, q⟩ := (show ObjOk P w H h a (.ins C dx fs) from hok a _ e)
  exact ⟨mA, ⟨ob, n, ne⟩, r, q, z, d⟩
end
structure Cls (K : PySem.W.Frag) (C : Addr) : Prop where
  pg : PySem.W.plainGet K C Str.empty = true
  hd : PySem.W.hasDictIn K C = true
  po : PySem.W.plainOver K C = true
  sa : PySem.W.findIn K (.ref C) "__setattr__" = some (some (.builtin "object.__setattr__"))
theorem Cls.get {K : PySem.W.Frag} {C : Addr} (c : Cls K C) (f : Str) : PySem.W.plainGet K C f = true := c.pg
section
variable {X : Cx} {pins : List (Addr × Obj)} {σ : St} {H : Hp} {s : Shared} {a C dx : Addr} {fs : List (Str × V)} {f : Str} {v : V} {A : Around} {E : Value → Shared → Prop}
theorem Inv.made (I : Inv X pins σ H s) : Inv X pins σ (upd (upd H s.heap.objs.size (.own (s.heap.objs.size + 1))) (s.heap.objs.size + 1) (.ins C s.heap.objs.size []))
    { s with heap := (s.heap.push PySem.W.emptyDict).push (PySem.W.instObj C s.heap.objs.size) } := by
  have e1 : (s.heap.push PySem.W.emptyDict).get? s.heap.objs.size = some PySem.W.emptyDict := Heap.get?_push_size s.heap rfl
  have e2 : ((s.heap.push PySem.W.emptyDict).push (PySem.W.instObj C s.heap.objs.size)).get? (s.heap.objs.size + 1) = some (PySem.W.instObj C s.heap.objs.size) := by
    have := Heap.get?_push_size (s.heap.push PySem.W.emptyDict) (o := PySem.W.instObj C s.heap.objs.size) rfl
    rwa [Heap.size_push] at this
  have e3 : (s.heap.push PySem.W.emptyDict).Ns s.heap.objs.size (fun _ => none) := ⟨PySem.W.emptyDict, #[], _, e1, rfl, (fun e he => absurd he (by simp)), fun _ => rfl⟩
  have I1 := I.laid (a := s.heap.objs.size) (o := .own (s.heap.objs.size + 1)) (h' := s.heap.push PySem.W.emptyDict) (t' := s.toks) (fun b u q => Heap.get?_push_of_some _ q) (Nat.le_refl _) ⟨_, e1⟩
  refine I1.laid (a := s.heap.objs.size + 1) (o := .ins C s.heap.objs.size []) (t' := s.toks) (fun b u q => Heap.get?_push_of_some _ q) (Nat.le_of_eq (Heap.size_push _ _)) ?_
  have ne : s.heap.objs.size ≠ s.heap.objs.size + 1 := Nat.ne_of_lt (Nat.lt_succ_self _)
  refine ⟨by rw [upd_ne ne, upd_same], Nat.zero_le _, ne, e2, fun _ => none, (Heap.Ns1.of_empty e3).at fun o q => Heap.get?_push_of_some _ q, fun _ => True.intro, fun y hy => absurd rfl hy⟩
end
section
variable {X : Cx} {o e value : Expr} {f : Str} {pos pos' tpos : Pos} {ta tv : TE}
end
section
variable {X : Cx} {pins : List (Addr × Obj)} {σ : St} {H : Hp} {s : Shared} {A : Around} {E : Value → Shared → Prop} {Q : Value → Shared → Prop} {c : Value} {b : Bool}
inductive TyOf (K : PySem.W.Frag) (H : Hp) : V → Value → Prop where
  | non : TyOf K H .non (.type "NoneType")
  | bl (x : Bool) : TyOf K H (.bl x) (.type "bool")
  | int (i : Int) : TyOf K H (.int i) (.type "int")
  | str (x : Str) : TyOf K H (.str x) (.type "str")
  | flt (x : UInt64) : TyOf K H (.flt x) (.type "float")
  | lst {a : Addr} {xs : List V} (e : H a = some (.lst xs)) : TyOf K H (.ref a) (.type "list")
  | frz {a : Addr} {o : Obj} {xs : List V} (e : H a = some (.frz o (.lst xs))) : TyOf K H (.ref a) (.type "list")
  | tup {a : Addr} {xs : List V} (e : H a = some (.tup xs)) : TyOf K H (.ref a) (.type "tuple")
  | dK {a : Addr} {kvs : List (Key × V)} (e : H a = some (.dK kvs)) : TyOf K H (.ref a) (.type "dict")
  | dT {a : Addr} {kvs : List (List Key × V)} (e : H a = some (.dT kvs)) : TyOf K H (.ref a) (.type "dict")
  | ins {a C dx : Addr} {fs : List (Str × V)} (e : H a = some (.ins C dx fs)) (cl : Cls K C) (ha : PySem.W.findIn K (.ref C) "__class__" = some (some (.builtin "object.__class__")))
      (hn : PySem.W.specialIn K (.builtin "object.__class__") "__get__" = some (some (.builtin "getset_descriptor.__get__"))) (htk : PySem.W.takesIn K (.builtin "object.__class__") = some true)
      (hm : PySem.W.mroIn K C (.type "object") = some true) : TyOf K H (.ref a) (.ref C)
theorem isinst_ok {x : V} {u t : Value} (I : Inv X pins σ H s) (rx : RelV x u) (ty : TyOf X.K H x t) (e : PySem.W.kitOne X.K t c = some b) (h : ∀ tk, Q (.bool b) { s with toks := tk }) :
    wpAny (model X.prog X.w) A (call (.builtin "isinstance") [u, c]) Q E s := by
  cases ty with
  | non => cases (show u = Value.none from rx); exact PySem.W.kia_one PySem.W.kitx_none I.kIn True.intro e (fun z => nomatch z) h
  | bl y => cases (show u = Value.bool y from rx); exact PySem.W.kia_one PySem.W.kitx_bool I.kIn True.intro e (fun z => nomatch z) h
  | int i => obtain ⟨t, q⟩ := (show ∃ t, u = Value.int i t from rx); cases q; exact PySem.W.kia_one PySem.W.kitx_int I.kIn True.intro e (fun z => nomatch z) h
  | str y => obtain ⟨t, q⟩ := (show ∃ t, u = Value.str y t from rx); cases q; exact PySem.W.kia_one PySem.W.kitx_str I.kIn True.intro e (fun z => nomatch z) h
  | flt y => obtain ⟨t, q⟩ := (show ∃ t, u = Value.float y t from rx); cases q; exact PySem.W.kia_one PySem.W.kitx_float I.kIn True.intro e (fun z => nomatch z) h
  | @lst a xs ea =>
    cases (show u = Value.ref a from rx)
    obtain ⟨_, _, n, _, h1⟩ := (show ObjOk X.prog X.w H s.heap a (.lst xs) from I.hok a _ ea)
    exact PySem.W.kia_one PySem.W.kitx_list I.kIn ⟨_, h1, rfl⟩ e (fun z => nomatch z) h
  | @frz a ob xs ea =>
    cases (show u = Value.ref a from rx)
    obtain ⟨_, _, _, n, _, h1⟩ := (show ObjOk X.prog X.w H s.heap a (.frz ob (.lst xs)) from I.hok a _ ea)
    exact PySem.W.kia_one PySem.W.kitx_list I.kIn ⟨_, h1, rfl⟩ e (fun z => nomatch z) h
  | @tup a xs ea =>
    cases (show u = Value.ref a from rx)
    obtain ⟨_, _, _, p⟩ := (show ObjOk X.prog X.w H s.heap a (.tup xs) from I.hok a _ ea)
    obtain ⟨o, h1, h2, _⟩ := p
    exact PySem.W.kia_one PySem.W.kitx_tuple I.kIn ⟨o, h1, h2⟩ e (fun z => nomatch z) h
  | @dK a kvs ea =>
    cases (show u = Value.ref a from rx)
    obtain ⟨_, _, vs, _, p⟩ := (show ObjOk X.prog X.w H s.heap a (.dK kvs) from I.hok a _ ea)
    obtain ⟨o, es, ep, h1, h2, _⟩ := p
    exact PySem.W.kia_one PySem.W.kitx_dict I.kIn ⟨o, h1, h2.1⟩ e (fun z => nomatch z) h
  | @dT a kvs ea =>
    cases (show u = Value.ref a from rx)
    obtain ⟨_, _, xs, _, o, es, ep, h1, h2, _⟩ := (show ObjOk X.prog X.w H s.heap a (.dT kvs) from I.hok a _ ea)
    exact PySem.W.kia_one PySem.W.kitx_dict I.kIn ⟨o, h1, h2.1⟩ e (fun z => nomatch z) h
  | @ins a C dx fs ea cl ha hn htk hm =>
    cases (show u = Value.ref a from rx)
    obtain ⟨mA, O, _⟩ := ins_get I.hok ea
    obtain ⟨od, J, _⟩ := O.look
    exact PySem.W.kia_one (PySem.W.kitx_own (cl.get _) cl.hd ha hn htk hm) I.kIn J e (fun z => nomatch z) h
end
end L2
namespace L2
open PySem PySem.Spec PyProof.Rows
structure Room (k : Nat) (A : Around) : Prop where
  hd : A.handled = none
  dp : A.depth + 3 * k + 5 < recursionLimit
  un : A.units + 16 * k + 200 < cLine
theorem Room.mono {j k : Nat} {A : Around} (r : Room k A) (h : j ≤ k) : Room j A := ⟨r.hd, by have := r.dp; omega, by have := r.un; omega⟩
theorem Room.deeper {k : Nat} {A : Around} (r : Room (k + 1) A) (env : Env) : Room k (A.deeper env) :=
  ⟨r.hd, by have := r.dp; show A.depth + 1 + 3 * k + 5 < _; omega, by have := r.un; show A.units + 3 + 16 * k + 200 < _; omega⟩
theorem Room.in1 {k : Nat} {A : Around} (r : Room (k + 1) A) : Room k A.in1 :=
  ⟨r.hd, by have := r.dp; show A.depth + 3 * k + 5 < _; omega, by have := r.un; show A.units + 1 + 16 * k + 200 < _; omega⟩
theorem Room.depth {k : Nat} {A : Around} (r : Room k A) : A.depth < recursionLimit := by have := r.dp; omega
theorem Room.units {k : Nat} {A : Around} (r : Room k A) : A.units + 64 < cLine := by have := r.un; omega
def tNil : TA := fun _ H Q => Q [] H
def tCons (ta : TE) (tr : TA) : TA := fun σ H Q => ta σ H fun x H1 => tr σ H1 fun xs H2 => Q (x :: xs) H2
section
variable {X : Cx} {e : Expr} {es : List Expr} {te : TE} {t : TA} {pos : Pos}
theorem pa_nil : PA X [] tNil := fun _ _ _ _ H Q I h => Calls.spliced_nil ⟨[], H, I, .nil, h⟩
theorem pa_cons (ha : PE X e te) (hr : PA X es t) (hs : starEach (e :: es) X.env = (false, eval e X.env) :: starEach es X.env := by rfl) : PA X (e :: es) (tCons te t) := by
  intro pos pins s σ H Q I h
  rw [hs]
  show wpAny _ _ (spliced ((false, eval e X.env) :: backTo pos (starEach es X.env))) _ _ s
  refine Calls.spliced_cons (thn (ha pins s σ H _ I h) fun u s1 ⟨x, H1, I1, r1, q1⟩ => ?_)
  exact thn (hr pos pins s1 σ H1 _ I1 q1) fun us s2 ⟨xs, H2, I2, r2, q2⟩ => ⟨x :: xs, H2, I2, .cons r1 r2, q2⟩
def tTup (t : TA) : TE := fun σ H Q => t σ H fun xs H1 => xs.length ≤ sizeLine ∧ ∀ p, H1 p = none → Q (.ref p) (upd H1 p (.tup xs))
def tLst (t : TA) : TE := fun σ H Q => t σ H fun xs H1 => xs.length ≤ sizeLine ∧ ∀ p, H1 p = none → Q (.ref p) (upd H1 p (.lst xs))
theorem pe_tup {x1} (h : PA X es t) : PE X (.Tuple es x1 pos) (tTup t) := by
  intro pins s σ H Q I hq
  refine wpAny_Tuple_spliced (thn (h pos pins s σ H _ I hq) fun us s1 ⟨xs, H1, I1, r, z, q⟩ => ⟨by rw [← r.length]; exact z, ?_⟩)
  have hf : H1 s1.heap.objs.size = none := I1.hok.fresh (Nat.le_refl _)
  refine ⟨.ref s1.heap.objs.size, upd H1 s1.heap.objs.size (.tup xs), I1.laid (t' := s1.toks) (fun b u e => Heap.get?_push_of_some _ e) (Nat.le_refl _) ?_, rfl, q _ hf⟩
  exact ⟨z, us, r, ⟨_, Heap.get?_push_size _ rfl, rfl, _, rfl⟩⟩
theorem pe_lst (h : PA X es t) : PE X (.List es pos) (tLst t) := by
  intro pins s σ H Q I hq
  refine wpAny_List_spliced (thn (h pos pins s σ H _ I hq) fun us s1 ⟨xs, H1, I1, r, z, q⟩ => ⟨by rw [← r.length]; exact z, ?_⟩)
  have hf : H1 s1.heap.objs.size = none := I1.hok.fresh (Nat.le_refl _)
  refine ⟨.ref s1.heap.objs.size, upd H1 s1.heap.objs.size (.lst xs), I1.laid (t' := s1.toks) (fun b u e => Heap.get?_push_of_some _ e) (Nat.le_refl _) ?_, rfl, q _ hf⟩
  exact ⟨z, us, 0, r, Heap.get?_push_size _ rfl⟩
end
abbrev Sp := List V → Hp → VK → XK → Prop
abbrev CXT := List Env → Hp → Shared → XK → Value → Shared → Prop
structure Env0 (P : Program) (w : World) (K : PySem.W.Frag) (mg : Str → Option Value) (base : Heap) (A : Around) (outer : List Env) (s : Shared) (H : Hp) : Prop where
  frames : A.frames = some outer
  mod : Mod K mg base
  bs : ∀ b o, base.get? b = some o → s.heap.get? b = some o ∧ H b = none
  bsz : base.objs.size ≤ s.heap.objs.size
  funs : s.heap.FunFrames base outer
  frf : ∀ b ∈ frs outer, H b = none
  hok : HOk P w H s.heap
  bare : AllBare s.gens
def CE (outer : List Env) (P : Program) (w : World) (H : Hp) (s : Shared) (Q : VK) (u : Value) (s' : Shared) : Prop :=
  ∃ v H', s'.os = s.os ∧ AllBare s'.gens ∧ Un (frs outer) [] H H' s.heap s'.heap ∧ HOk P w H' s'.heap ∧ RelV v u ∧ Q v H'
def CR (CX : CXT) (outer : List Env) (P : Program) (w : World) (H : Hp) (s : Shared) (Q : VK) (E : XK) (r : Result) (s' : Shared) : Prop :=
  match r with
  | .ok (.ret u) => CE outer P w H s Q u s'
  | .ok _ => False
  | .error e => CX outer H s E e s'
structure FnOk (P : Program) (w : World) (K : PySem.W.Frag) (mg : Str → Option Value) (base : Heap) (CX : CXT) (k : Nat) (f : Addr) (fd : FuncData) (ps : List Str) (sp : Sp) : Prop where
  len : ∀ vs H Q E, sp vs H Q E → vs.length = ps.length
  run : ∀ (A : Around) (outer : List Env) (s : Shared) (H : Hp) (args : Args) (us : List Value) (vs : List V) (Q : VK) (E : XK), Room k A → Env0 P w K mg base A outer s H → BindsTo s fd args (ps.zip us) → Vals vs us → sp vs H Q E →
    codeAny (model P w) A (.call (.ref f) args) (CR CX outer P w H s Q E) s
theorem FnOk.mono {P : Program} {w : World} {K : PySem.W.Frag} {mg : Str → Option Value} {base : Heap} {CX : CXT} {j k : Nat} {f : Addr} {fd : FuncData} {ps : List Str} {sp : Sp} (F : FnOk P w K mg base CX j f fd ps sp) (h : j ≤ k) :
    FnOk P w K mg base CX k f fd ps sp := ⟨F.len, fun A outer s H args us vs Q E hr => F.run A outer s H args us vs Q E (hr.mono h)⟩
theorem Env0.in1 {P : Program} {w : World} {K : PySem.W.Frag} {mg : Str → Option Value} {base : Heap} {A : Around} {outer : List Env} {s : Shared} {H : Hp} (e : Env0 P w K mg base A outer s H) :
    Env0 P w K mg base A.in1 outer s H := ⟨e.frames, e.mod, e.bs, e.bsz, e.funs, e.frf, e.hok, e.bare⟩
section
variable {X : Cx} {pins : List (Addr × Obj)} {σ : St} {H : Hp} {s s' : Shared}
theorem Inv.env0 (I : Inv X pins σ H s) : Env0 X.prog X.w X.K X.mg X.base X.A X.stack s H :=
  ⟨I.ok.frames, I.ok.mod, I.bs, Nat.le_trans I.ok.bsz I.sz, I.stack, I.stkFree, I.hok, I.bare⟩
theorem Inv.after {Q : VK} {u : Value} (I : Inv X pins σ H s) (h : CE X.stack X.prog X.w H s Q u s') : EP X pins σ Q u s' := by
  obtain ⟨v, H', os, bare, un, hok, r, q⟩ := h
  obtain ⟨hh, g, d, t, os'⟩ := s'
  obtain rfl : os' = s.os := os
  exact ⟨v, H', I.call (h' := hh) (g' := g) (d' := d) (t' := t) (ch := []) un hok bare (fun b z => absurd z (by simp)), r, q⟩
end
def tCall (sp : Sp) (dvs : List V) (E : XK) (t : TA) : TE := fun σ H Q => t σ H fun vs H1 => sp (vs ++ dvs) H1 Q E
def Binds (K : PySem.W.Frag) (fd : FuncData) (ps : List Str) (ds : List Value) : Prop :=
  ∀ (s : Shared) (us : List Value), K.In s.heap → (us ++ ds).length = ps.length → BindsTo s fd ⟨us, []⟩ (ps.zip (us ++ ds))
theorem Binds.all {K : PySem.W.Frag} {fd : FuncData} {ps : List Str} (h : ∀ us : List Value, us.length = ps.length → bindArgs fd ⟨us, []⟩ = pure (ps.zip us)) : Binds K fd ps [] := fun s us _ hl => by
  rw [List.append_nil] at hl ⊢
  exact .of_eq (h us hl)
def Passes (CX : CXT) (X : Cx) (E : XK) : Prop := ∀ (pins : List (Addr × Obj)) (σ : St) (H : Hp) (s : Shared) (e : Value) (s' : Shared), Inv X pins σ H s → CX X.stack H s E e s' → X.xe e s'
section
variable {X : Cx} {CX : CXT} {k : Nat} {f C : Addr} {fd : FuncData} {ps : List Str} {sp : Sp} {dvs : List V} {ds : List Value} {E : XK} {x m : Str} {p pos apos : Pos} {e o : Expr} {es : List Expr} {ta : TE} {t : TA}
theorem run_fn {pins : List (Addr × Obj)} {σ : St} {H : Hp} {s : Shared} {Q : VK} {us : List Value} {vs : List V} (F : FnOk X.prog X.w X.K X.mg X.base CX k f fd ps sp) (hr : Room k X.A) (hb : Binds X.K fd ps ds) (hd : Vals dvs ds) (hx : Passes CX X E)
    (I : Inv X pins σ H s) (r : Vals vs us) (h : sp (vs ++ dvs) H Q E) : wpAny (model X.prog X.w) X.A (call (.ref f) us) (EP X pins σ Q) X.xe s := by
  have r2 : Vals (vs ++ dvs) (us ++ ds) := r.append hd
  have hl : (us ++ ds).length = ps.length := by rw [← r2.length]; exact F.len _ _ _ _ h
  refine wpAny_call (codeAny_mono (F.run X.A X.stack s H ⟨us, []⟩ (us ++ ds) (vs ++ dvs) Q E hr I.env0 (hb s us I.kIn hl) r2 h) fun r s' hq => ?_)
  cases r with
  | error e => exact hx pins σ H s e s' I hq
  | ok fl =>
    cases fl with
    | ret u => exact I.after hq
    | next => exact False.elim hq
    | brk => exact False.elim hq
    | cont => exact False.elim hq
theorem pe_call (F : FnOk X.prog X.w X.K X.mg X.base CX k f fd ps sp) (hr : Room k X.A) (hg : Gl X x) (hm : X.mg x = some (.ref f)) (hk : PySem.W.keepIn X.K (.ref f) = true) (hb : Binds X.K fd ps ds) (hd : Vals dvs ds) (hx : Passes CX X E)
    (ha : PA X (e :: es) t) (hdb : (x == ("__debug__" : Str)) = false := by decide) (he : starEach (e :: es) X.env = (false, eval e X.env) :: starEach es X.env := by rfl) (hpl : (backTo pos (starEach es X.env)).any (·.1) = false := by rfl) :
    PE X (.Call (.Name x p) (e :: es) [] pos) (tCall sp dvs E t) := by
  intro pins s σ H Q I h
  refine wpAny_Call_Name_kw (ld_glob I hg hm ?_ hdb)
  refine PySem.W.callWith_K (h₀ := X.base) I.ok.mod.kin hk (thn (ha pos pins s σ H _ I h) fun us s1 ⟨vs, H1, I1, r, q⟩ => ⟨I1.kIn, ?_⟩) he hpl
  exact run_fn F hr hb hd hx I1 r q
end
section
variable {X : Cx} {CX : CXT} {k : Nat} {f C : Addr} {fd : FuncData} {ps ks : List Str} {sp : Sp} {E : XK} {x m : Str} {p pos apos kpos : Pos} {e o : Expr} {es : List Expr} {kws : List Keyword} {te ta : TE} {t tk : TA} {nm : Option Str}
variable {g : List Value → List Value → List Value} {gV : List V → List V → List V}
end
structure FnScope (N P : List Str) (sc : Scope) : Prop where
  kind : sc.kind = .function
  co : sc.isCoroutine = false
  gen : sc.isGenerator = false
  nd : N.Nodup
  pre : N.take P.length = P
  par : ∀ x ∈ P, sc.names.lookup x = some .local ∨ sc.names.lookup x = some .cell
  nofree : ∀ y ∈ sc.names, y.2 ≠ .free
theorem bindL_out {kindOf : Str → Option NameKind} {x : Str} : ∀ {binds : List (Str × Value)} {m : Str → Option Value}, (∀ v, (x, v) ∉ binds) → bindL kindOf binds m x = m x
  | [], _, _ => rfl
  | (n, v) :: r, m, h => by
    unfold bindL
    rw [bindL_out fun w hw => h w (List.mem_cons_of_mem _ hw)]
    split
    · have : x ≠ n := by rintro rfl; exact h v List.mem_cons_self
      simp [this]
    · rfl
theorem bindC_out {kindOf : Str → Option NameKind} {x : Str} : ∀ {binds : List (Str × Value)} {m : Str → Option Value}, (∀ v, (x, v) ∉ binds) → bindC kindOf binds m x = m x
  | [], _, _ => rfl
  | (n, v) :: r, m, h => by
    unfold bindC
    rw [bindC_out fun w hw => h w (List.mem_cons_of_mem _ hw)]
    split
    · rfl
    · have : x ≠ n := by rintro rfl; exact h v List.mem_cons_self
      simp [this]
theorem bindL_get {kindOf : Str → Option NameKind} {x : Str} {v : Value} : ∀ {P : List Str} {vs : List Value} {i : Nat} {m : Str → Option Value}, P.Nodup → P[i]? = some x → vs[i]? = some v → kindOf x = some .local →
    bindL kindOf (P.zip vs) m x = some v
  | [], _, _, _, _, h, _, _ => by simp at h
  | _ :: _, [], _, _, _, _, h, _ => by simp at h
  | p :: P, w :: vs, 0, m, nd, h1, h2, hk => by
    simp at h1 h2; subst h1; subst h2
    show bindL kindOf ((p, w) :: P.zip vs) m p = _
    unfold bindL
    rw [bindL_out fun v hv => (List.nodup_cons.mp nd).1 (List.of_mem_zip hv).1, if_pos hk]
    simp
  | p :: P, w :: vs, i + 1, m, nd, h1, h2, hk => by
    show bindL kindOf ((p, w) :: P.zip vs) m x = _
    unfold bindL
    exact bindL_get (i := i) (List.nodup_cons.mp nd).2 (by simpa using h1) (by simpa using h2) hk
theorem bindC_get {kindOf : Str → Option NameKind} {x : Str} {v : Value} : ∀ {P : List Str} {vs : List Value} {i : Nat} {m : Str → Option Value}, P.Nodup → P[i]? = some x → vs[i]? = some v → kindOf x ≠ some .local →
    bindC kindOf (P.zip vs) m x = some v
  | [], _, _, _, _, h, _, _ => by simp at h
  | _ :: _, [], _, _, _, _, h, _ => by simp at h
  | p :: P, w :: vs, 0, m, nd, h1, h2, hk => by
    simp at h1 h2; subst h1; subst h2
    show bindC kindOf ((p, w) :: P.zip vs) m p = _
    unfold bindC
    rw [bindC_out fun v hv => (List.nodup_cons.mp nd).1 (List.of_mem_zip hv).1, if_neg hk]
    simp
  | p :: P, w :: vs, i + 1, m, nd, h1, h2, hk => by
    show bindC kindOf ((p, w) :: P.zip vs) m x = _
    unfold bindC
    exact bindC_get (i := i) (List.nodup_cons.mp nd).2 (by simpa using h1) (by simpa using h2) hk
def start (N : List Str) (vs : List V) : St := vs.map some ++ List.replicate (N.length - vs.length) none
def cxOf (CX : CXT) (P : Program) (w : World) (K : PySem.W.Frag) (mg : Str → Option Value) (base : Heap) (N : List Str) (qual : Str) (scope : Scope) (f : Addr) (cd : Value) (A : Around) (outer : List Env) (s : Shared) (H : Hp) (E : XK) : Cx where
  prog := P
  w := w
  K := K
  mg := mg
  base := base
  A := A.deeper (envOfC qual scope s.heap.objs.size f cd)
  N := N
  s₀ := s
  H₀ := H
  env := envOfC qual scope s.heap.objs.size f cd
  outer := outer
  stack := envOfC qual scope s.heap.objs.size f cd :: outer
  ex := []
  calm := true
  fn := fun _ => true
  pn := []
  xe := fun e s' => wpAny (model P w) (A.deeper (envOfC qual scope s.heap.objs.size f cd)) (leaving (envOfC qual scope s.heap.objs.size f cd) e) (fun _ s'' => CX outer H s E e s'') (fun e' s'' => CX outer H s E e' s'') s'
theorem cell_has {sc : Scope} {n : Nat} {x : Str} (h : sc.names.lookup x = some .cell) : ∃ c, (cellsFrom n sc.names []).lookup x = some c := by
  have q := PySem.W.cellsFrom_some sc.names n [] (.inl h)
  exact Option.isSome_iff_exists.mp q
theorem inv_start {CX : CXT} {P : Program} {w : World} {K : PySem.W.Frag} {mg : Str → Option Value} {base : Heap} {N ps : List Str} {qual : Str} {scope : Scope} {f : Addr} {cd : Value} {A : Around} {outer : List Env} {s s1 : Shared} {H : Hp} {E : XK} {us : List Value} {vs : List V}
    (S : FnScope N ps scope) (hd : A.handled = none) (e0 : Env0 P w K mg base A outer s H) (hl : vs.length = ps.length) (r : Vals vs us)
    (x : InCallC s s.heap.objs.size (bindL (envOfC qual scope s.heap.objs.size f cd).kindOf (ps.zip us) fun _ => none) (cellsFrom (s.heap.objs.size + 1) scope.names []) (bindC (envOfC qual scope s.heap.objs.size f cd).kindOf (ps.zip us) fun _ => none) s1) :
    Inv (cxOf CX P w K mg base N qual scope f cd A outer s H E) [] (start N vs) H s1 := by
  have hpl : ps.length ≤ N.length := by have := congrArg List.length S.pre; rw [List.length_take] at this; omega
  obtain ⟨h1, tk, rfl, hk⟩ := x.done
  have noA : ∀ b : Addr, b ∉ (cxOf CX P w K mg base N qual scope f cd A outer s H E).ex := fun b z => absurd (show b ∈ ([] : List Addr) from z) (by simp)
  refine ⟨⟨e0.mod, S.kind, rfl, rfl, Nat.le_refl _, fun y z c h1 h2 => ?_, fun y hy => ?_, fun y c _ h => ?_, fun _ => hd, Around.frames_deeper e0.frames, .inr ⟨rfl, rfl⟩, fun b z => absurd z (noA b), e0.bs, e0.bsz, fun b _ _ => noA b, fun b z => absurd z (noA b), e0.funs, e0.frf⟩,
    rfl, e0.bare, Un.kept hk, ⟨_, x.toInCall.ns, fun i y v h1 h2 h3 => ?_⟩, fun y c h => ⟨_, x.cell y c h⟩, e0.hok.fresh (Nat.le_refl _), fun y c h => ?_, fun p hp => absurd (show p ∈ ([] : List (Addr × Obj)) from hp) (by simp), e0.hok.kept hk, ?_⟩
  · exact name_of_addr x.apart (PySem.mem_of_lookup h1) (PySem.mem_of_lookup h2)
  · have hy : scope.names.lookup y = some .cell ∨ scope.names.lookup y = some .free := hy
    rcases hy with hy | hy
    · exact cell_has hy
    · exact absurd rfl (S.nofree _ (PySem.mem_of_lookup hy))
  · exact Nat.le_of_lt (x.above y c (PySem.mem_of_lookup h))
  · have hi : i < vs.length := by
      unfold start at h2
      by_cases hi : i < vs.length
      · exact hi
      · rw [List.getElem?_append_right (by simpa using hi)] at h2
        rw [List.getElem?_replicate] at h2
        split at h2 <;> cases h2
    have ha : vs[i]? = some v := by
      unfold start at h2
      rw [List.getElem?_append_left (by simpa using hi), List.getElem?_map] at h2
      cases e : vs[i]? with
      | none => rw [e] at h2; cases h2
      | some a => rw [e] at h2; cases h2; rfl
    obtain ⟨u, hu, rv⟩ := r.get ha
    have hp : ps[i]? = some y := by
      rw [← S.pre, List.getElem?_take_of_lt (by omega)]; exact h1
    have ndP : ps.Nodup := by rw [← S.pre]; exact S.nd.sublist (List.take_sublist _ _)
    refine ⟨u, rv, ?_⟩
    rcases S.par y (List.mem_of_getElem? hp) with k | k
    · exact .inl ⟨k, bindL_get ndP hp hu k⟩
    · obtain ⟨c, e⟩ := cell_has (n := s.heap.objs.size + 1) k
      refine .inr ⟨.inl k, c, e, ?_⟩
      have q := x.cell y c e
      rw [bindC_get ndP hp hu (by show scope.names.lookup y ≠ _; rw [k]; decide)] at q
      exact q
  · exact e0.hok.fresh (Nat.le_of_lt (x.above y c (PySem.mem_of_lookup h)))
  · unfold start
    show _ = N.length
    rw [List.length_append, List.length_map, List.length_replicate]
    omega
theorem fn_of {CX : CXT} {P : Program} {w : World} {K : PySem.W.Frag} {mg : Str → Option Value} {base : Heap} {k : Nat} {f : Addr} {name qual : Str} {params : Arguments} {body : List Stmt} {scope : Scope} {dV kV doc pm cdv ct oc : Value} {an od : Option Addr}
    {osl : Array (Option Value)} {N ps : List Str} {sp : Sp} (lk : K.lookup f = some ⟨oc, od, .func (PySem.W.fnOf name qual params body scope dV kV doc pm an cdv ct), osl⟩) (hcd : PySem.W.codeIn K cdv qual = true) (S : FnScope N ps scope)
    (len : ∀ vs H Q E, sp vs H Q E → vs.length = ps.length)
    (hbody : ∀ (A : Around) (outer : List Env) (s : Shared) (H : Hp) (vs : List V) (Q : VK) (E : XK), Room k (A.deeper (envOfC qual scope s.heap.objs.size f cdv)) → sp vs H Q E →
      ∃ t, PSs (cxOf CX P w K mg base N qual scope f cdv A outer s H E) body t ∧ t { nx := fun _ H' => Q .non H', rt := Q } (start N vs) H) :
    FnOk P w K mg base CX (k + 1) f (PySem.W.fnOf name qual params body scope dV kV doc pm an cdv ct) ps sp := by
  refine ⟨len, fun A outer s H args us vs Q E hr e0 hb r hsp => ?_⟩
  have hl := len _ _ _ _ hsp
  have KX : K.In s.heap := e0.mod.kin.keeps fun b o e => (e0.bs b o e).1
  have lim : s.heap.NoLimit := e0.mod.nolimit.keeps fun b o e => (e0.bs b o e).1
  have hkind : ∀ y ∈ ps.zip us, scope.names.lookup y.1 = some .local ∨ (scope.names.lookup y.1 = some .cell ∧ ((cellsFrom (s.heap.objs.size + 1) scope.names []).lookup y.1).isSome = true) := fun ⟨n, v⟩ hy => by
    rcases S.par n (List.of_mem_zip hy).1 with q | q
    · exact .inl q
    · exact .inr ⟨q, PySem.W.cellsFrom_some _ _ _ (.inl q)⟩
  refine codeAny_call_function hr.depth (KX _ _ lk) rfl S.co S.gen rfl (PySem.W.codeRec_of KX hcd) (hb _ _ _ _ ?_)
  refine wpAny_newFunctionEnv_cells S.kind hkind fun env he s1 x => ?_
  subst he
  refine ⟨lim.keeps x.toInCall.keep, codeAny_func ?_⟩
  obtain ⟨t, ht, hq⟩ := hbody A outer s H vs Q E (hr.deeper _) hsp
  have I : Inv (cxOf CX P w K mg base N qual scope f cdv A outer s H E) [] (start N vs) H s1 := inv_start S hr.hd e0 hl r x
  refine wpAny_mono (ht [] s1 (start N vs) H _ I hq) (fun fl s' hs => ?_) fun e s' hs => hs
  have fin : ∀ {σ' : St} {H' : Hp} {v : V} {u : Value}, Inv (cxOf CX P w K mg base N qual scope f cdv A outer s H E) [] σ' H' s' → RelV v u → Q v H' → CE outer P w H s Q u s' :=
    fun {σ' H' v u} J rv q => ⟨v, H', J.os, J.bare, J.base, J.hok, rv, q⟩
  cases fl with
  | ret u =>
    obtain ⟨v, σ', H', J, rv, q⟩ := hs
    exact fin J rv q
  | next =>
    obtain ⟨σ', H', J, q⟩ := hs
    exact fin (v := V.non) (u := Value.none) J rfl q
  | brk =>
    obtain ⟨_, _, _, q⟩ := hs
    exact False.elim q
  | cont =>
    obtain ⟨_, _, _, q⟩ := hs
    exact False.elim q
end L2
namespace L2
open PySem PySem.Spec PyProof.Rows
section
variable {X : Cx} {x : Str} {p pos : Pos} {e : Expr} {es : List Expr} {t : TA} {id T : String} {r : List V → Hp → VK → Prop}
def tCB (r : List V → Hp → VK → Prop) (t : TA) : TE := fun σ H Q => t σ H fun vs H1 => r vs H1 Q
theorem pe_callB (hc : CallR X (.builtin id) r) (hg : Gl X x) (hm : X.mg x = none) (hv : bootBuiltins x = some (.builtin id)) (ha : PA X (e :: es) t) (hn : x ≠ "__name__" := by decide) (hdb : (x == ("__debug__" : Str)) = false := by decide)
    (he : starEach (e :: es) X.env = (false, eval e X.env) :: starEach es X.env := by rfl) (hpl : (backTo pos (starEach es X.env)).any (·.1) = false := by rfl) : PE X (.Call (.Name x p) (e :: es) [] pos) (tCB r t) := by
  intro pins s σ H Q I h
  refine wpAny_Call_Name_kw (ld_blt I hg hm hv ?_ hn hdb)
  exact PyProof.Rows.callWith_builtin1 (thn (ha pos pins s σ H _ I h) fun us s1 ⟨vs, H1, I1, r1, q1⟩ => hc pins s1 σ H1 vs us Q I1 r1 q1) he hpl
theorem pe_callTy (hc : CallR X (.type T) r) (hg : Gl X x) (hm : X.mg x = none) (hv : bootBuiltins x = some (.type T)) (ha : PA X (e :: es) t) (hn : x ≠ "__name__" := by decide) (hdb : (x == ("__debug__" : Str)) = false := by decide)
    (he : starEach (e :: es) X.env = (false, eval e X.env) :: starEach es X.env := by rfl) (hpl : (backTo pos (starEach es X.env)).any (·.1) = false := by rfl) : PE X (.Call (.Name x p) (e :: es) [] pos) (tCB r t) := by
  intro pins s σ H Q I h
  refine wpAny_Call_Name_kw (ld_blt I hg hm hv ?_ hn hdb)
  exact PyProof.Rows.callWith_type1 (thn (ha pos pins s σ H _ I h) fun us s1 ⟨vs, H1, I1, r1, q1⟩ => hc pins s1 σ H1 vs us Q I1 r1 q1) he hpl
end
end L2
namespace HT
open PySem PyProof.Rows
section
open PySem.SeqAt
open PySem.AutoSeq1 (wpAny_loadPart')
open PySem.MeetsSeq PySem.MeetsSeq2 PySem.MeetsSeq3
end
section
variable {prog : Program} {w : World} {A : Around} {E : Value → Shared → Prop} {s : Shared}
theorem cat_tup {t b : Addr} {vs ws : List Value} {Q : Value → Shared → Prop} (ht : IsTup s.heap t vs.toArray) (hb : IsTup s.heap b ws.toArray) (hv : vs ≠ [])
    (h1 : ws = [] → Q (.ref t) s) (h2 : ws ≠ [] → Q (.ref s.heap.objs.size) { s with heap := s.heap.push { cls := .type "tuple", data := .seq (vs ++ ws).toArray } })
    (hsz : vs.length + ws.length ≤ sizeLine) : wpAny (model prog w) A (binaryOp .Add (.ref t) (.ref b)) Q E s := by
  obtain ⟨⟨cls, dd, data, sl⟩, ho, hc, n, hd⟩ := id ht
  obtain ⟨⟨cls2, dd2, data2, sl2⟩, ho2, hc2, n2, hd2⟩ := id hb
  simp only at hc hd hc2 hd2
  subst hc hd hc2 hd2
  have e : vs.toArray ++ ws.toArray = (vs ++ ws).toArray := by simp
  by_cases hw : ws = []
  · exact concat_meets ⟨_, ho, rfl⟩ ⟨_, ho2, rfl⟩ noFill_tuple_add seq_tuple_add PySem.F.slot_tuple_add PySem.F.entry_tuple_add (PySem.F.args_tuple_add_2 _ _)
      (tuple_addW1 t b vs.toArray ws.toArray n n2 dd dd2 sl sl2 (by simpa using hv) (by simp [hw])) ⟨ho, ho2, h1 hw⟩
  · refine concat_meets ⟨_, ho, rfl⟩ ⟨_, ho2, rfl⟩ noFill_tuple_add seq_tuple_add PySem.F.slot_tuple_add PySem.F.entry_tuple_add (PySem.F.args_tuple_add_2 _ _)
      (tuple_addW2 t b vs.toArray ws.toArray n n2 dd dd2 sl sl2 (by simpa using hv) (by simpa using hw) (by rw [List.size_toArray, List.size_toArray]; exact hsz)) ⟨ho, ho2, ?_⟩
    rw [e]
    exact h2 hw
def sIx (n d : Nat) : Option Int → Nat
  | none => d
  | some v => if v < 0 then (v + (n : Int)).toNat else min v.toNat n
theorem sIx_none (n d : Nat) : sIx n d none = d := rfl
theorem sIx_nat (n d k : Nat) : sIx n d (some (k : Int)) = min k n := by
  show (if (k : Int) < 0 then ((k : Int) + (n : Int)).toNat else min (k : Int).toNat n) = min k n
  rw [if_neg (by omega), Int.toNat_natCast]
theorem sIx_le (n d : Nat) (hd : d ≤ n) (o : Option Int) : sIx n d o ≤ n := by
  cases o with
  | none => exact hd
  | some v =>
    show (if v < 0 then (v + (n : Int)).toNat else min v.toNat n) ≤ n
    by_cases hv : v < 0
    · rw [if_pos hv]; omega
    · rw [if_neg hv]; exact Nat.min_le_right _ _
theorem clip_eq (v : Int) (n d : Nat) : (if v < 0 then max (v + (n : Int)) 0 else min v (n : Int)) = ((sIx n d (some v) : Nat) : Int) := by
  show (if v < 0 then max (v + (n : Int)) 0 else min v (n : Int)) = (((if v < 0 then (v + (n : Int)).toNat else min v.toNat n) : Nat) : Int)
  by_cases hv : v < 0
  · simp only [if_pos hv]; omega
  · simp only [if_neg hv]; omega
theorem adjust_gen (lo hi : Option Int) (n : Nat) : Builtin.Slice.sliceAdjust lo hi 1 (n : Int) = (((sIx n 0 lo : Nat) : Int), ((sIx n n hi : Nat) : Int)) := by
  have h1 : ¬ ((1 : Int) < 0) := by omega
  unfold Builtin.Slice.sliceAdjust
  simp only [h1, if_false]
  refine Prod.ext ?_ ?_
  · cases lo with
    | none => rfl
    | some v => exact clip_eq v n 0
  · cases hi with
    | none => rfl
    | some v => exact clip_eq v n n
theorem places_gen (i j : Nat) : Builtin.Slice.slicePlaces (i : Int) (j : Int) 1 = j - i := by
  unfold Builtin.Slice.slicePlaces
  have h1 : (1 : Int) > 0 := by omega
  simp only [h1, if_true, Int.ediv_one]
  split <;> omega
theorem slicePart_ {v : Value} {o : Option Int} {Q : Option Int → Shared → Prop} (p : IsPart v o) (h : Q o s) : wpAny (model prog w) A (Builtin.Slice.slicePartIndex v) Q E s := by
  cases p with
  | none => exact slicePart_none h
  | int i t => exact slicePart_int h
theorem sliceApplied_gen {sl : Addr} {vl vu : Value} {lo hi : Option Int} {n : Nat} {Q : Int × Int × Nat → Shared → Prop} (hs : s.heap.IsSliceOf sl vl vu .none) (pl : IsPart vl lo) (pu : IsPart vu hi)
    (h : Q (((sIx n 0 lo : Nat) : Int), 1, sIx n n hi - sIx n 0 lo) s) : wpAny (model prog w) A (Builtin.Slice.sliceApplied (.ref sl) (pure (n : Int))) Q E s := by
  obtain ⟨os, hos, hcs, hds⟩ := id hs
  unfold Builtin.Slice.sliceApplied Builtin.Slice.sliceFields
  refine wpAny_bind (wpAny_bind (wpAny_field hos hds (x := vl) rfl (wpAny_bind (wpAny_field hos hds (x := vu) rfl (wpAny_bind (wpAny_field hos hds (x := .none) rfl (wpAny_pure ?_)))))))
  refine wpAny_bind (slicePart_none ?_)
  show wpAny _ _ (if ((1 : Int) == 0) = true then _ else _) _ _ s
  rw [if_neg (by decide)]
  refine wpAny_bind (slicePart_ pl (wpAny_bind (slicePart_ pu (wpAny_bind (wpAny_pure ?_)))))
  show wpAny _ _ (match Builtin.Slice.sliceAdjust lo hi 1 (n : Int) with | (lo, hi) => pure (lo, (1 : Int), Builtin.Slice.slicePlaces lo hi 1)) _ _ s
  rw [adjust_gen lo hi n]
  show wpAny _ _ (pure (((sIx n 0 lo : Nat) : Int), (1 : Int), Builtin.Slice.slicePlaces ((sIx n 0 lo : Nat) : Int) ((sIx n n hi : Nat) : Int) 1)) _ _ s
  rw [places_gen]
  exact wpAny_pure h
theorem pick_gen (xs : Array Value) (i k : Nat) : ((List.range k).filterMap fun (m : Nat) => xs[((i : Int) + (m : Int) * 1).toNat]?).toArray = ((xs.toList.drop i).take k).toArray := by
  have e : (fun (m : Nat) => xs[((i : Int) + (m : Int) * 1).toNat]?) = fun m => xs[i + m]? := by
    funext m
    have : ((i : Int) + (m : Int) * 1).toNat = i + m := by omega
    rw [this]
  rw [e]
  have := pick_run xs i k
  rw [List.filterMap_map] at this
  have e2 : ((fun x => xs[x]?) ∘ fun x => i + x) = fun m => xs[i + m]? := rfl
  rw [e2] at this
  rw [this]
theorem getItem_tuple_cut {t sl : Addr} {items : Array Value} {vl vu : Value} {lo hi : Option Int} {Q : Value → Shared → Prop} (ht : IsTup s.heap t items) (hs : s.heap.IsSliceOf sl vl vu .none) (pl : IsPart vl lo) (pu : IsPart vu hi)
    (hw : ¬ (sIx items.size 0 lo = 0 ∧ sIx items.size items.size hi = items.size))
    (h : Q (.ref s.heap.objs.size) { s with heap := s.heap.push { cls := .type "tuple", data := .seq ((items.toList.drop (sIx items.size 0 lo)).take (sIx items.size items.size hi - sIx items.size 0 lo)).toArray } })
    (hsz : items.size ≤ sizeLine) : wpAny (model prog w) A (getItem (.ref t) (.ref sl)) Q E s := by
  have htake : sizeOk (.seq ((items.toList.drop (sIx items.size 0 lo)).take (sIx items.size items.size hi - sIx items.size 0 lo)).toArray) := by
    show ((items.toList.drop (sIx items.size 0 lo)).take (sIx items.size items.size hi - sIx items.size 0 lo)).toArray.size ≤ sizeLine
    rw [List.size_toArray, List.length_take, List.length_drop, Array.length_toList]
    omega
  have hj : sIx items.size items.size hi ≤ items.size := sIx_le _ _ (Nat.le_refl _) hi
  obtain ⟨os, hos, hcs, hds⟩ := id hs
  have hTs : s.TypeIs (.ref sl) "slice" := ⟨os, hos, hcs⟩
  unfold getItem
  try with_reducible refine wpAny_holding ?_
  first | refine wpAny_bind (wpAny_pure ?_) | skip
  refine wpAny_bind (wpAny_sequenceKey ht.typeIs (by decide) ?_)
  refine wpAny_bind (wpAny_callSpecial?_slot (name := Str.ofString "__getitem__") ht.typeIs PyProof.Rows.slot_tuple_getitem
    (wpAny_call_entry PyProof.Rows.slot_tuple_getitem ht.typeIs entry_tuple_getitem ?_ (args_tuple_getitem _ _)))
  show wpAny _ _ (Builtin.Tuple.tupleItemsOf (.ref t) >>= _) _ _ s
  refine wpAny_bind (tupleItemsOf_ ht ?_)
  refine wpAny_bind (wpAny_typeOf hTs ?_)
  rw [if_pos (by decide)]
  refine wpAny_bind (sliceApplied_gen hs pl pu ?_)
  have hno : ¬ ((((sIx items.size 0 lo : Nat) : Int) == 0 && (1 : Int) == 1 && (sIx items.size items.size hi - sIx items.size 0 lo) == items.size) = true) := by
    intro q
    rw [Bool.and_eq_true, Bool.and_eq_true] at q
    have q1 : ((sIx items.size 0 lo : Nat) : Int) = 0 := eq_of_beq q.1.1
    have q2 : sIx items.size items.size hi - sIx items.size 0 lo = items.size := eq_of_beq q.2
    exact hw ⟨by omega, by omega⟩
  show wpAny _ _ (if (((sIx items.size 0 lo : Nat) : Int) == 0 && (1 : Int) == 1 && (sIx items.size items.size hi - sIx items.size 0 lo) == items.size) = true then _ else _) _ _ s
  rw [if_neg hno, pick_gen]
  first
    | exact wpAny_bind (m := Builtin.Tuple.tupleExact _) (wpAny_newObj_type (wpAny_pure ⟨_, rfl, wpAny_pure h⟩) htake)
    | exact wpAny_bind (m := Builtin.Tuple.tupleExact _) (wpAny_newObj_type (wpAny_bind (wpAny_pure (wpAny_pure ⟨_, rfl, wpAny_pure h⟩))) htake)
    | exact wpAny_bind (wpAny_bind (m := Builtin.Tuple.tupleExact _) (wpAny_newObj_type (wpAny_pure (wpAny_pure ⟨_, rfl, wpAny_pure h⟩)) htake))
    | exact wpAny_bind (wpAny_bind (m := Builtin.Tuple.tupleExact _) (wpAny_newObj_type (wpAny_pure ⟨_, rfl, wpAny_pure h⟩) htake))
end
end HT
namespace L2
open PySem PySem.Spec PyProof.Rows
abbrev TO := St → Hp → (Option Int → Hp → Prop) → Prop
def PO (X : Cx) (e : Option Expr) (t : TO) : Prop :=
  ∀ (pins : List (Addr × Obj)) (s : Shared) (σ : St) (H : Hp) (Q : Option Int → Hp → Prop), Inv X pins σ H s → t σ H Q →
    wpAny (model X.prog X.w) X.A (evalPart e X.env) (fun u s' => ∃ o H', Inv X pins σ H' s' ∧ IsPart u o ∧ Q o H') X.xe s
def tNoPart : TO := fun _ H Q => Q none H
def tPart (t : TE) : TO := fun σ H Q => t σ H fun x H1 => ∃ i, x = .int i ∧ Q (some i) H1
section
variable {X : Cx} {e : Expr} {te : TE} {lo hi : Option Expr} {tl th : TO} {pos p2 : Pos}
theorem po_none : PO X none tNoPart := by
  intro pins s σ H Q I h
  rw [evalPart_none]
  exact wpAny_pure ⟨none, H, I, .none, h⟩
theorem po_some (h : PE X e te) : PO X (some e) (tPart te) := by
  intro pins s σ H Q I hw
  rw [evalPart_some]
  refine thn (h pins s σ H _ I hw) fun u s1 ⟨x, H1, I1, r1, q1⟩ => ?_
  obtain ⟨i, rfl, q⟩ := q1
  obtain ⟨t, rfl⟩ := r1
  exact ⟨some i, H1, I1, .int i t, q⟩
def SlR (X : Cx) (r : V → Option Int → Option Int → Hp → VK → Prop) : Prop :=
  ∀ (pins : List (Addr × Obj)) (s : Shared) (σ : St) (H : Hp) (x : V) (v vl vu : Value) (lo hi : Option Int) (sl : Addr) (Q : VK), Inv X pins σ H s → RelV x v → s.heap.IsSliceOf sl vl vu .none → IsPart vl lo → IsPart vu hi → r x lo hi H Q →
    ∃ T id, typeLookup (.type T) "__getitem__" = pure (some (.builtin id)) ∧ s.TypeIs v T ∧ wpAny (model X.prog X.w) X.A (getItem v (.ref sl)) (EP X pins σ Q) X.xe s
def tSl (r : V → Option Int → Option Int → Hp → VK → Prop) (te : TE) (tl th : TO) : TE := fun σ H Q => te σ H fun x H1 => tl σ H1 fun l H2 => th σ H2 fun u H3 => r x l u H3 Q
theorem pe_slice {r : V → Option Int → Option Int → Hp → VK → Prop} (hr : SlR X r) (he : PE X e te) (hl : PO X lo tl) (hu : PO X hi th) : PE X (.Subscript e (.Slice lo hi none p2) pos) (tSl r te tl th) := by
  intro pins s σ H Q I h
  refine Subscript_ (thn (he pins s σ H _ I h) fun v s1 ⟨x, H1, I1, r1, q1⟩ => ?_)
  refine wpAny_Slice (thn (hl pins s1 σ H1 _ I1 q1) fun vl s2 ⟨l, H2, I2, pl, q2⟩ => thn (hu pins s2 σ H2 _ I2 q2) fun vu s3 ⟨u, H3, I3, pu, q3⟩ => ?_)
  rw [evalPart_none]
  refine wpAny_pure ?_
  have I4 : Inv X pins σ H3 { s3 with heap := s3.heap.push { cls := .type "slice", data := .fields #[vl, vu, .none] } } := I3.kept (t' := s3.toks) fun b ob q => Heap.get?_push_of_some _ q
  obtain ⟨T, id, hT, ht, hg⟩ := hr pins { s3 with heap := s3.heap.push { cls := .type "slice", data := .fields #[vl, vu, .none] } } σ H3 x v vl vu l u s3.heap.objs.size Q I4 r1 (Heap.IsSliceOf.new ..) pl pu q3
  show wpAny (model X.prog X.w) X.A (subscriptTail e (.Slice lo hi none p2) v (.ref s3.heap.objs.size)) (EP X pins σ Q) X.xe { s3 with heap := s3.heap.push { cls := .type "slice", data := .fields #[vl, vu, .none] } }
  exact tail_any (ops := [.ref s3.heap.objs.size, v]) ht hT hg (by with_unfolding_all rfl)
def cutV (xs : List V) (lo hi : Option Int) : List V := (xs.drop (HT.sIx xs.length 0 lo)).take (HT.sIx xs.length xs.length hi - HT.sIx xs.length 0 lo)
theorem cutV_length (xs : List V) (lo hi : Option Int) : (cutV xs lo hi).length ≤ xs.length := by
  unfold cutV
  rw [List.length_take, List.length_drop]
  omega
def rSlT (K : PySem.W.Frag) : V → Option Int → Option Int → Hp → VK → Prop := fun x lo hi H Q => ∃ a xs, x = .ref a ∧ SqT K H a xs ∧
  ¬ (HT.sIx xs.length 0 lo = 0 ∧ HT.sIx xs.length xs.length hi = xs.length) ∧ ∀ p, H p = none → Q (.ref p) (upd H p (.tup (cutV xs lo hi)))
theorem sl_tup : SlR X (rSlT X.K) := by
  intro pins s σ H x v vl vu lo hi sl Q I rx hs pl pu h
  obtain ⟨a, xs, rfl, hx, hw, q⟩ := h
  cases rx
  obtain ⟨its, r, ht, hz⟩ := I.tuple hx
  have hlen : its.toArray.size = xs.length := by rw [List.size_toArray]; exact r.length.symm
  refine ⟨"tuple", _, PyProof.Rows.slot_tuple_getitem.lookup, ht.typeIs, ?_⟩
  refine HT.getItem_tuple_cut ht hs pl pu (by rw [hlen]; exact hw) ?_ (by rw [hlen]; exact hz)
  rw [hlen]
  refine ⟨.ref s.heap.objs.size, _, I.laid (t' := s.toks) (o := .tup (cutV xs lo hi)) (fun b ob q => Heap.get?_push_of_some _ q) (Nat.le_refl _) ?_, rfl, q _ (I.hok.fresh (Nat.le_refl _))⟩
  exact ⟨Nat.le_trans (cutV_length xs lo hi) hz, _, (r.drop (HT.sIx xs.length 0 lo)).take (HT.sIx xs.length xs.length hi - HT.sIx xs.length 0 lo), IsTup.new _ _⟩
def rCatT (K : PySem.W.Frag) : R2 := fun x y H Q => ∃ a b xs ys, x = .ref a ∧ y = .ref b ∧ SqT K H a xs ∧ SqT K H b ys ∧ xs ≠ [] ∧ xs.length + ys.length ≤ sizeLine ∧
  (ys = [] → Q (.ref a) H) ∧ (ys ≠ [] → ∀ p, H p = none → Q (.ref p) (upd H p (.tup (xs ++ ys))))
theorem Vals.nil_iff {xs : List V} {us : List Value} (r : Vals xs us) : us = [] ↔ xs = [] := by
  cases r with
  | nil => simp
  | cons _ _ => simp
theorem op_catT : OpR X (binaryOp .Add) (rCatT X.K) := by
  intro pins s σ H x y v u Q I rx ry h
  obtain ⟨a, b, xs, ys, rfl, rfl, ha, hb, hx, hz, q1, q2⟩ := h
  cases rx
  cases ry
  obtain ⟨its, r1, p1, _⟩ := I.tuple ha
  obtain ⟨its2, r2, p2, _⟩ := I.tuple hb
  refine HT.cat_tup p1 p2 (fun z => hx (r1.nil_iff.mp z)) (fun z => ⟨.ref a, H, I, rfl, q1 (r2.nil_iff.mp z)⟩) (fun z => ?_) (by rw [← r1.length, ← r2.length]; exact hz)
  refine ⟨.ref s.heap.objs.size, _, I.laid (t' := s.toks) (o := .tup (xs ++ ys)) (fun b ob q => Heap.get?_push_of_some _ q) (Nat.le_refl _) ?_, rfl, q2 (fun w => z (r2.nil_iff.mpr w)) _ (I.hok.fresh (Nat.le_refl _))⟩
  exact ⟨by rw [List.length_append]; exact hz, _, r1.append r2, IsTup.new _ _⟩
end
end L2
namespace L2
open PySem PySem.Spec PyProof.Rows
def ixN (n : Nat) (i : Int) : Option Nat := if 0 ≤ i then (if i < n then some i.toNat else none) else if -(n : Int) ≤ i then some (i + n).toNat else none
def atI {α : Type} (xs : List α) (i : Int) : Option α := (ixN xs.length i).bind fun j => xs[j]?
theorem ixN_seq {n : Nat} {i : Int} {j : Nat} (h : ixN n i = some j) : seqIndex? i n = some j ∧ j < n ∧ -(n : Int) ≤ i ∧ i < n := by
  unfold ixN at h
  by_cases h0 : 0 ≤ i
  · rw [if_pos h0] at h
    by_cases h1 : i < n
    · rw [if_pos h1] at h
      have e : i.toNat = j := Option.some.inj h
      exact ⟨by rw [seqIndex_of h0 h1, e], by omega, by omega, h1⟩
    · rw [if_neg h1] at h; cases h
  · rw [if_neg h0] at h
    by_cases h1 : -(n : Int) ≤ i
    · rw [if_pos h1] at h
      have e : (i + n).toNat = j := Option.some.inj h
      exact ⟨by rw [seqIndex_neg (by omega) h1, e], by omega, h1, by omega⟩
    · rw [if_neg h1] at h; cases h
theorem atI_get {α : Type} {xs : List α} {i : Int} {v : α} (h : atI xs i = some v) : ∃ j, seqIndex? i xs.length = some j ∧ xs[j]? = some v ∧ j < xs.length ∧ -(xs.length : Int) ≤ i ∧ i < xs.length := by
  unfold atI at h
  cases e : ixN xs.length i with
  | none => rw [e] at h; cases h
  | some j =>
    rw [e] at h
    obtain ⟨h1, h2, h3, h4⟩ := ixN_seq e
    exact ⟨j, h1, h, h2, h3, h4⟩
theorem atI_nat {α : Type} {xs : List α} {j : Nat} {v : α} (h : xs[j]? = some v) : atI xs (j : Int) = some v := by
  have hj : j < xs.length := (List.getElem?_eq_some_iff.mp h).1
  have e : ixN xs.length (j : Int) = some j := by
    unfold ixN
    rw [if_pos (by omega), if_pos (by omega)]; simp
  unfold atI; rw [e]; exact h
def PlainIx (b : Expr) : Prop := ∀ o i, subscripted b false o i = operate [o, i] (getItem o i)
def IxR (X : Cx) (r : R2) : Prop :=
  ∀ (value slice : Expr) (pins : List (Addr × Obj)) (s : Shared) (σ : St) (H : Hp) (x y : V) (v u : Value) (Q : VK), Inv X pins σ H s → RelV x v → RelV y u → r x y H Q →
    subscripted slice false v u = operate [v, u] (getItem v u) → wpAny (model X.prog X.w) X.A (subscriptTail value slice v u) (EP X pins σ Q) X.xe s
def MtR (X : Cx) (id : String) (r : V → List V → Hp → VK → Prop) : Prop :=
  ∀ (pins : List (Addr × Obj)) (s : Shared) (σ : St) (H : Hp) (x : V) (xs : List V) (v : Value) (us : List Value) (Q : VK), Inv X pins σ H s → RelV x v → Vals xs us → r x xs H Q →
    wpAny (model X.prog X.w) X.A (call (.builtin id) (v :: us)) (EP X pins σ Q) X.xe s
section
variable {X : Cx} {a b : Expr} {ta tb : TE} {pos : Pos}
theorem pe_ix {r : R2} (hr : IxR X r) (ha : PE X a ta) (hb : PE X b tb) (hs : PlainIx b) : PE X (.Subscript a b pos) (tOp r ta tb) := by
  intro pins s σ H Q I h
  exact Subscript_ (binT ha hb I h fun v u s2 x y H2 I2 rx ry q => hr a b pins s2 σ H2 x y v u Q I2 rx ry q (hs _ _))
def rIxL (K : PySem.W.Frag) : R2 := fun x y H Q => ∃ p xs i v, x = .ref p ∧ y = .int i ∧ SqL K H p xs ∧ atI xs i = some v ∧ Q v H
def rIxT (K : PySem.W.Frag) : R2 := fun x y H Q => ∃ p xs i v, x = .ref p ∧ y = .int i ∧ SqT K H p xs ∧ atI xs i = some v ∧ Q v H
def rIxS : R2 := fun x y H Q => ∃ z i c, x = .str z ∧ y = .int i ∧ z.length ≤ sizeLine ∧ atI z.cps.toList i = some c ∧ Q (.str ⟨#[c]⟩) H
theorem ix_list : IxR X (rIxL X.K) := by
  intro value slice pins s σ H x y v u Q I rx ry h hs
  obtain ⟨p, xs, i, z, rfl, rfl, hq, he, q⟩ := h
  cases rx
  obtain ⟨t, rfl⟩ := ry
  obtain ⟨its, r, pl, hz⟩ := I.list hq
  obtain ⟨j, h1, h2, h3, h4, h5⟩ := atI_get he
  obtain ⟨w, ew, rw'⟩ := r.get h2
  have hl := r.length
  have hn := line63
  have fin : EP X pins σ Q w s := ⟨z, H, I, rw', q⟩
  by_cases h0 : 0 ≤ i
  · have hj : i.toNat = j := by
      rw [seqIndex_of h0 h5] at h1
      exact Option.some.inj h1
    exact item_listR pl.isList h0 (by omega) (by rw [hj]; simpa using ew) fin hs
  · have hj : (i + (its.toArray.size : Int)).toNat = j := by
      rw [seqIndex_neg (by omega) h4] at h1
      rw [List.size_toArray, ← hl]
      exact Option.some.inj h1
    exact subscriptTail_builtinR (x := w) pl.isList.typeIs slot_list_getitem.lookup
      (wpAny_getItem_list_neg (Q := fun r s' => r = w ∧ EP X pins σ Q r s') pl.isList (by omega) (by rw [List.size_toArray] <;> omega) (by omega) (by rw [hj]; simpa using ew) ⟨rfl, fin⟩) hs
theorem ix_tup : IxR X (rIxT X.K) := by
  intro value slice pins s σ H x y v u Q I rx ry h hs
  obtain ⟨p, xs, i, z, rfl, rfl, hq, he, q⟩ := h
  cases rx
  obtain ⟨t, rfl⟩ := ry
  obtain ⟨its, r, pl, hz⟩ := I.tuple hq
  obtain ⟨j, h1, h2, h3, h4, h5⟩ := atI_get he
  obtain ⟨w, ew, rw'⟩ := r.get h2
  have hl := r.length
  have hn := line63
  have fin : EP X pins σ Q w s := ⟨z, H, I, rw', q⟩
  exact subscriptTail_builtinR (x := w) pl.typeIs slot_tuple_getitem.lookup
    (getItem_tuple (j := j) (Q := fun r s' => r = w ∧ EP X pins σ Q r s') pl (by omega) (by omega) (by rw [List.size_toArray, ← hl]; exact h1) (by simpa using ew) ⟨rfl, fin⟩) hs
theorem ix_str : IxR X rIxS := by
  intro value slice pins s σ H x y v u Q I rx ry h hs
  obtain ⟨z, i, c, rfl, rfl, hz, he, q⟩ := h
  obtain ⟨t, rfl⟩ := rx
  obtain ⟨t', rfl⟩ := ry
  obtain ⟨j, h1, h2, h3, h4, h5⟩ := atI_get he
  have hl : z.cps.toList.length = z.length := by simp [Str.length]
  rw [hl] at h1 h4 h5
  have hn := line63
  exact tail_any (typeIs_str s z t) slot_str_getitem.lookup (getItem_str (c := c) (by
    have e1 : decide (i < -(2 ^ 63 : Int)) = false := decide_eq_false (by omega)
    have e2 : decide (i ≥ 2 ^ 63) = false := decide_eq_false (by omega)
    rw [e1, e2, Bool.or_false]) (by rw [h1]; simpa using h2) ⟨.str ⟨#[c]⟩, H, I.tok _, ⟨_, rfl⟩, q⟩) hs
theorem Inv.lst {pins : List (Addr × Obj)} {σ : St} {H : Hp} {s : Shared} {p : Addr} {xs : List V} (I : Inv X pins σ H s) (h : H p = some (.lst xs)) :
    ∃ (its : List Value) (n : Nat), Vals xs its ∧ s.heap.get? p = some { cls := .type "list", data := .seq its.toArray n } ∧ xs.length ≤ sizeLine := by
  obtain ⟨z, its, n, r, e⟩ := I.hok p _ h
  exact ⟨its, n, r, e, z⟩
theorem slice_bounds (lo hi : Option Int) (n : Nat) : (sliceBounds lo hi none n).1 = ((HT.sIx n 0 lo : Nat) : Int) ∧ (sliceBounds lo hi none n).2.1 = ((HT.sIx n n hi : Nat) : Int) ∧ (sliceBounds lo hi none n).2.2 = 1 := by
  refine ⟨?_, ?_, rfl⟩
  · cases lo with
    | none => simp [sliceBounds, HT.sIx]
    | some i =>
      simp only [sliceBounds, HT.sIx, Option.getD_none, show (1 : Int) > 0 by decide, if_true]
      by_cases h : i < 0
      · simp only [h, if_true] <;> omega
      · simp only [h, if_false] <;> omega
  · cases hi with
    | none => simp [sliceBounds, HT.sIx]
    | some i =>
      simp only [sliceBounds, HT.sIx, Option.getD_none, show (1 : Int) > 0 by decide, if_true]
      by_cases h : i < 0
      · simp only [h, if_true] <;> omega
      · simp only [h, if_false] <;> omega
theorem slicePick_cut (its : List Value) (lo hi : Option Int) : slicePick its.toArray lo hi none = ((its.drop (HT.sIx its.length 0 lo)).take (HT.sIx its.length its.length hi - HT.sIx its.length 0 lo)).toArray := by
  obtain ⟨h1, h2, h3⟩ := slice_bounds lo hi its.toArray.size
  unfold slicePick
  rw [h1, h2, h3]
  simp only [sliceRange_one, pick_run, List.size_toArray] <;> rfl
def rSlL (K : PySem.W.Frag) : V → Option Int → Option Int → Hp → VK → Prop := fun x lo hi H Q => ∃ a xs, x = .ref a ∧ SqL K H a xs ∧ ∀ p, H p = none → Q (.ref p) (upd H p (.lst (cutV xs lo hi)))
theorem sl_list : SlR X (rSlL X.K) := by
  intro pins s σ H x v vl vu lo hi sl Q I rx hs pl pu h
  obtain ⟨a, xs, rfl, hx, q⟩ := h
  cases rx
  obtain ⟨its, r, ht, hz⟩ := I.list hx
  have hlen := r.length
  refine ⟨"list", _, slot_list_getitem.lookup, ht.isList.typeIs, ?_⟩
  refine wpAny_getItem_list_slice ht.isList hs pl pu .none (by simp) ?_ (by rw [List.size_toArray] <;> omega)
  rw [slicePick_cut, ← hlen]
  refine ⟨.ref s.heap.objs.size, _, I.laid (t' := s.toks) (o := .lst (cutV xs lo hi)) (fun b ob q => Heap.get?_push_of_some _ q) (Nat.le_refl _) ?_, rfl, q _ (I.hok.fresh (Nat.le_refl _))⟩
  exact ⟨Nat.le_trans (cutV_length xs lo hi) hz, _, 0, (r.drop (HT.sIx xs.length 0 lo)).take (HT.sIx xs.length xs.length hi - HT.sIx xs.length 0 lo), Heap.get?_push_size _ rfl⟩
def flatV : V → Bool
  | .non => true
  | .bl _ => true
  | .int _ => true
  | .str _ => true
  | _ => false
theorem op_notIn_str : OpR X (compareOp .NotIn) (fun x y H Q => ∃ i j, x = .str i ∧ y = .str j ∧ Q (.bl (!(!(Builtin.Str.occurrences j i 0 j.length 1).isEmpty))) H) := by
  intro pins s σ H x y v u Q I rx ry h
  obtain ⟨i, j, rfl, rfl, q⟩ := h
  obtain ⟨t, rfl⟩ := rx
  obtain ⟨t', rfl⟩ := ry
  exact notIn_str ⟨.bl _, H, I, rfl, q⟩
theorem call_len_seq : CallR X (.builtin "len") (fun xs H Q => ∃ p ys, xs = [.ref p] ∧ (SqL X.K H p ys ∨ SqT X.K H p ys) ∧ Q (.int ys.length) H) := by
  intro pins s σ H xs us Q I r h
  obtain ⟨p, ys, rfl, hq, q⟩ := h
  obtain ⟨u, rfl, rx⟩ := vals1 r
  cases rx
  have hn := line63
  rcases hq with hq | hq
  · obtain ⟨its, r', pl, hz⟩ := I.list hq
    have hlen := r'.length
    exact Calls.call_len_list pl.isList (by simp only [List.size_toArray] <;> omega) ⟨.int ys.length, H, I.tok _, ⟨s.toks + 1, by rw [List.size_toArray, hlen]⟩, q⟩
  · obtain ⟨its, r', pl, hz⟩ := I.tuple hq
    have hlen := r'.length
    exact len_tuple pl (by simp only [List.size_toArray] <;> omega) ⟨.int ys.length, H, I.tok _, ⟨s.toks + 1, by rw [List.size_toArray, hlen]⟩, q⟩
theorem call_len_str : CallR X (.builtin "len") (fun xs H Q => ∃ z, xs = [.str z] ∧ z.length ≤ sizeLine ∧ Q (.int z.length) H) := by
  intro pins s σ H xs us Q I r h
  obtain ⟨z, rfl, hz, q⟩ := h
  obtain ⟨u, rfl, t, rfl⟩ := vals1 r
  have hn := line63
  exact len_str (by omega) ⟨.int z.length, H, I.tok _, ⟨_, rfl⟩, q⟩
theorem call_list_of : CallR X (.type "list") (fun xs H Q => ∃ p ys, xs = [.ref p] ∧ (SqL X.K H p ys ∨ SqT X.K H p ys) ∧ ∀ l, H l = none → Q (.ref l) (upd H l (.lst ys))) := by
  intro pins s σ H xs us Q I r h
  obtain ⟨p, ys, rfl, hq, q⟩ := h
  obtain ⟨u, rfl, rx⟩ := vals1 r
  cases rx
  have fin : ∀ (its : List Value), Vals ys its → ys.length ≤ sizeLine → ∀ (h' : Heap) (c' : Nat), (∀ b o', s.heap.get? b = some o' → h'.get? b = some o') →
      h'.get? s.heap.objs.size = some { cls := .type "list", dict := none, data := .seq its.toArray c', slots := #[] } → EP X pins σ Q (.ref s.heap.objs.size) { s with heap := h' } := fun its r' hz h' c' kp e =>
    ⟨.ref s.heap.objs.size, _, I.laid (t' := s.toks) kp (Nat.le_refl _) (show ObjOk X.prog X.w _ h' _ (.lst ys) from ⟨hz, its, c', r', e⟩), rfl, q _ (I.hok.fresh (Nat.le_refl _))⟩
  rcases hq with hq | hq
  · obtain ⟨its, r', pl, hz⟩ := I.list hq
    have hlen := r'.length
    obtain ⟨o, ho, hc, n, hd⟩ := pl.isList
    exact call_list_seq p (.inl rfl) ho hc hd (fun h' c' kp e => fin its r' hz h' c' kp e) (by simp only [List.size_toArray] <;> omega)
  · obtain ⟨its, r', pl, hz⟩ := I.tuple hq
    have hlen := r'.length
    obtain ⟨o, ho, hc, n, hd⟩ := pl
    exact call_list_seq p (.inr rfl) ho hc hd (fun h' c' kp e => fin its r' hz h' c' kp e) (by simp only [List.size_toArray] <;> omega)
theorem call_tuple_of : CallR X (.type "tuple") (fun xs H Q => ∃ p ys, xs = [.ref p] ∧ ((SqL X.K H p ys ∧ ∀ l, H l = none → Q (.ref l) (upd H l (.tup ys))) ∨ (SqT X.K H p ys ∧ Q (.ref p) H))) := by
  intro pins s σ H xs us Q I r h
  obtain ⟨p, ys, rfl, h⟩ := h
  obtain ⟨u, rfl, rx⟩ := vals1 r
  cases rx
  rcases h with ⟨hq, q⟩ | ⟨hq, q⟩
  · obtain ⟨its, r', pl, hz⟩ := I.list hq
    have hlen := r'.length
    refine call_tuple_list pl.isList (fun h' kp => ?_) (by simp only [List.size_toArray] <;> omega)
    have I1 : Inv X pins σ H { s with heap := h' } := I.kept (t' := s.toks) kp
    have I2 : Inv X pins σ (upd H h'.objs.size (.tup ys)) { s with heap := h'.push { cls := .type "tuple", data := .seq its.toArray } } :=
      I1.laid (t' := s.toks) (fun b o e => Heap.get?_push_of_some _ e) (Nat.le_refl _) (show ObjOk X.prog X.w _ _ _ (.tup ys) from ⟨hz, its, r', IsTup.new _ _⟩)
    exact ⟨.ref h'.objs.size, _, I2, rfl, q _ (I1.hok.fresh (Nat.le_refl _))⟩
  · obtain ⟨its, r', pl, hz⟩ := I.tuple hq
    exact call_tuple_same pl ⟨.ref p, H, I, rfl, q⟩
def tyV (K : PySem.W.Frag) (T : String) (x : V) (H : Hp) : Prop := match x with
  | .str _ => T = "str"
  | .int _ => T = "int"
  | .ref p => (T = "list" ∧ ∃ xs, SqL K H p xs) ∨ (T = "tuple" ∧ ∃ o, K.lookup p = some o ∧ o.cls = .type "tuple" ∧ o.dict = none) ∨
      (T = "dict" ∧ ((∃ kvs, H p = some (.dK kvs)) ∨ ∃ kvs, H p = some (.dT kvs))) ∨ (T = "set" ∧ ∃ S n, H p = some (.set S n))
  | _ => False
theorem tyV_is {pins : List (Addr × Obj)} {σ : St} {H : Hp} {s : Shared} {T : String} {x : V} {v : Value} (I : Inv X pins σ H s) (r : RelV x v) (ty : tyV X.K T x H) :
    s.TypeIs v T ∧ ∀ a, v = .ref a → ∃ ob, s.heap.get? a = some ob ∧ ob.dict = none := by
  cases x with
  | str z =>
    obtain ⟨t, rfl⟩ := r
    cases (show T = "str" from ty)
    exact ⟨typeIs_str s z t, fun _ e => nomatch e⟩
  | int i =>
    obtain ⟨t, rfl⟩ := r
    cases (show T = "int" from ty)
    exact ⟨typeIs_int s i t, fun _ e => nomatch e⟩
  | ref p =>
    cases r
    rcases ty with ⟨rfl, xs, hq⟩ | ⟨rfl, o, hk, hc, hd⟩ | ⟨rfl, hk⟩ | ⟨rfl, S, n, hk⟩
    · obtain ⟨its, _, pl, _⟩ := I.list hq
      refine ⟨pl.isList.typeIs, fun a e => ?_⟩
      cases e
      obtain ⟨o, n, e, c, hd, _⟩ := pl
      exact ⟨o, e, hd⟩
    · refine ⟨⟨o, I.kIn p o hk, hc⟩, fun a e => ?_⟩
      cases e
      exact ⟨o, I.kIn _ o hk, hd⟩
    · have z : ∃ o, s.heap.get? p = some o ∧ o.ExactDict := by
        rcases hk with ⟨kvs, hk⟩ | ⟨kvs, hk⟩
        · obtain ⟨_, _, _, _, o, _, _, e, ex, _⟩ := I.hok p _ hk
          exact ⟨o, e, ex⟩
        · obtain ⟨_, _, _, _, o, _, _, e, ex, _⟩ := I.hok p _ hk
          exact ⟨o, e, ex⟩
      obtain ⟨o, e, ex⟩ := z
      refine ⟨⟨o, e, ex.1⟩, fun a e2 => ?_⟩
      cases e2
      exact ⟨o, e, ex.2.1⟩
    · obtain ⟨o, _, _, _, e, ex, _⟩ := I.hok p _ hk
      refine ⟨⟨o, e, ex.1⟩, fun a e2 => ?_⟩
      cases e2
      exact ⟨o, e, ex.2.1⟩
  | _ => exact False.elim ty
def tBM0 (K : PySem.W.Frag) (T : String) (r : V → List V → Hp → VK → Prop) (to : TE) : TE := fun σ H Q => to σ H fun x H1 => tyV K T x H1 ∧ r x [] H1 Q
def tBM (K : PySem.W.Frag) (T : String) (r : V → List V → Hp → VK → Prop) (to : TE) (t : TA) : TE := fun σ H Q => to σ H fun x H1 => tyV K T x H1 ∧ t σ H1 fun xs H2 => r x xs H2 Q
variable {o e : Expr} {es : List Expr} {to : TE} {t : TA} {name : Str} {apos cpos : Pos} {T id : String} {r : V → List V → Hp → VK → Prop}
theorem pe_bm0 (pa : PlainAttrs T) (slot : Slot T name id) (hty : typeOf (.builtin id) = pure (.type "method_descriptor")) (hm : MtR X id r) (ho : PE X o to)
    (hbase : attributeBase o name X.env (eval o X.env) = eval o X.env := by rfl) (hline : (apos.endLine == cpos.line) = true := by rfl) : PE X (.Call (.Attribute o name apos) [] [] cpos) (tBM0 X.K T r to) := by
  intro pins s σ H Q I h
  refine wpAny_Call_method0_late hbase hline (thn (ho pins s σ H _ I h) fun v s1 ⟨x, H1, I1, r1, ty, q1⟩ => ?_)
  obtain ⟨h1, h2⟩ := tyV_is I1 r1 ty
  exact ⟨T, id, pa, slot, hty, h1, h2, Calls.callWith_builtin rfl (PySem.evalArgs_none (hm pins s1 σ H1 x [] v [] Q I1 r1 .nil q1))⟩
theorem pe_bm (pa : PlainAttrs T) (slot : Slot T name id) (hty : typeOf (.builtin id) = pure (.type "method_descriptor")) (hm : MtR X id r) (ho : PE X o to) (ha : PA X (e :: es) t)
    (hbase : attributeBase o name X.env (eval o X.env) = eval o X.env := by rfl)
    (hfew : ((backTo cpos (starEach (e :: es) X.env)).all (fun x => !x.1) && (backToKw cpos (keywordEach [] X.env)).all (fun x => x.1.isSome)
      && decide ((e :: es).length + ([] : List Keyword).length + (if ([] : List Keyword).isEmpty then 0 else 1) < 30)) = true := by rfl)
    (hline : (apos.endLine == cpos.line) = true := by rfl) (hs : starEach (e :: es) X.env = (false, eval e X.env) :: starEach es X.env := by rfl) (hplain : (backTo cpos (starEach es X.env)).any (·.1) = false := by rfl) :
    PE X (.Call (.Attribute o name apos) (e :: es) [] cpos) (tBM X.K T r to t) := by
  intro pins s σ H Q I h
  refine wpAny_Call_method_late hbase hfew hline rfl (thn (ho pins s σ H _ I h) fun v s1 ⟨x, H1, I1, r1, ty, q1⟩ => ?_)
  obtain ⟨h1, h2⟩ := tyV_is I1 r1 ty
  refine ⟨T, id, pa, slot, hty, h1, h2, ?_⟩
  have hA := ha cpos pins s1 σ H1 _ I1 q1
  rw [hs] at hA ⊢
  refine Calls.callWith_builtin (by show (false || (backTo cpos (starEach es X.env)).any (·.1)) = false; rw [hplain] <;> rfl) (Calls.evalArgs_plain ?_)
  exact thn hA fun us s2 ⟨vs, H2, I2, r2, q2⟩ => hm pins s2 σ H2 x vs v us Q I2 r1 r2 q2
end
end L2
namespace L2
open PySem PySem.Spec PyProof.Rows
def MtM (X : Cx) (id : String) (r : V → List V → Hp → VK → Prop) : Prop :=
  ∀ (pins : List (Addr × Obj)) (s : Shared) (σ : St) (H : Hp) (x : V) (xs : List V) (v : Value) (us : List Value) (Q : VK), Inv X pins σ H s → RelV x v → Vals xs us → r x xs H Q →
    wpAny (model X.prog X.w) X.A (call (.builtin id) (v :: us)) (EP X pins σ Q) X.xe s
theorem Vals.one : ∀ {x : V} {us : List Value}, Vals [x] us → ∃ u, us = [u] ∧ RelV x u
  | _, _, .cons r .nil => ⟨_, rfl, r⟩
theorem Vals.two : ∀ {x y : V} {us : List Value}, Vals [x, y] us → ∃ u v, us = [u, v] ∧ RelV x u ∧ RelV y v
  | _, _, _, .cons r (.cons q .nil) => ⟨_, _, rfl, r, q⟩
theorem Vals.zero : ∀ {us : List Value}, Vals [] us → us = []
  | _, .nil => rfl
theorem Vals.dropLast {xs : List V} {us : List Value} (h : Vals xs us) : Vals xs.dropLast us.dropLast := by
  induction h with
  | nil => exact .nil
  | cons r t ih =>
    cases t with
    | nil => exact .nil
    | cons q t' => exact .cons r ih
theorem Vals.eraseIdx : ∀ {xs : List V} {us : List Value} (i : Nat), Vals xs us → Vals (xs.eraseIdx i) (us.eraseIdx i)
  | _, _, _, .nil => .nil
  | _, _, 0, .cons _ t => t
  | _, _, i + 1, .cons r t => .cons r (Vals.eraseIdx i t)
theorem Vals.rep {xs : List V} {us : List Value} (h : Vals xs us) : ∀ k : Nat, Vals (List.replicate k xs).flatten (List.replicate k us).flatten
  | 0 => .nil
  | k + 1 => by
    rw [List.replicate_succ, List.replicate_succ, List.flatten_cons, List.flatten_cons]
    exact Vals.append h (Vals.rep h k)
theorem erase_last {α : Type} (l : List α) : l.eraseIdx (l.length - 1) = l.dropLast := by
  induction l with
  | nil => rfl
  | cons a r ih =>
    cases r with
    | nil => rfl
    | cons b r =>
      have e : (a :: b :: r).length - 1 = ((b :: r).length - 1) + 1 := by
        have h1 : (a :: b :: r).length = r.length + 2 := rfl
        have h2 : (b :: r).length = r.length + 1 := rfl
        omega
      rw [e, List.eraseIdx_cons_succ, ih]
      all_goals rfl
theorem foldl_rep (its : List Value) : ∀ (k : Nat) (acc : List Value),
    List.foldl (fun x1 x2 => x1 ++ x2) acc.toArray (List.replicate k its.toArray) = (acc ++ (List.replicate k its).flatten).toArray
  | 0, acc => by simp
  | k + 1, acc => by
    have e : acc.toArray ++ its.toArray = (acc ++ its).toArray := by simp
    have e2 : (acc ++ its) ++ (List.replicate k its).flatten = acc ++ (List.replicate (k + 1) its).flatten := by
      rw [List.replicate_succ, List.flatten_cons, List.append_assoc]
    rw [← e2, ← foldl_rep its k (acc ++ its), ← e, List.replicate_succ, List.foldl_cons]
section
variable {X : Cx} {pins : List (Addr × Obj)} {σ : St} {H : Hp} {s : Shared} {l b : Addr} {xs ys zs : List V}
theorem Inv.lset {its its' : List Value} {n : Nat} {f : Array Value → Array Value} {t' : Nat} (I : Inv X pins σ H s) (hH : H l = some (.lst xs))
    (e : s.heap.get? l = some { cls := .type "list", data := .seq its.toArray n }) (hf : f its.toArray = its'.toArray) (hv : Vals ys its') (hz : ys.length ≤ sizeLine) :
    Inv X pins σ (upd H l (.lst ys)) { s with heap := s.heap.update l (Obj.mapSeq f), toks := t' } := by
  have q := PySem.IsL.update e f
  rw [hf] at q
  refine I.write (x := l) (e := l) (by rw [hH]; exact trivial) (.inl rfl) (fun b' u hb hu => (Heap.get?_update_other s.heap (Obj.mapSeq f) (Ne.symm hb)).trans hu) ⟨_, q⟩ ?_
  exact ⟨hz, its', _, hv, q⟩
theorem Inv.lnew {its : List Value} {t' : Nat} (I : Inv X pins σ H s) (hv : Vals ys its) (hz : ys.length ≤ sizeLine) :
    Inv X pins σ (upd H s.heap.objs.size (.lst ys)) { s with heap := s.heap.push { cls := .type "list", data := .seq its.toArray }, toks := t' } :=
  I.laid (fun _ _ q => Heap.get?_push_of_some _ q) (Nat.le_refl _) ⟨hz, its, 0, hv, Heap.get?_push_size _ rfl⟩
theorem Inv.fresh (I : Inv X pins σ H s) : H s.heap.objs.size = none := I.hok.fresh (Nat.le_refl _)
theorem Inv.lstM (I : Inv X pins σ H s) (hH : H l = some (.lst xs)) : xs.length ≤ sizeLine ∧ ∃ (its : List Value) (n : Nat), Vals xs its ∧ xs.length = its.length ∧ s.heap.get? l = some { cls := .type "list", data := .seq its.toArray n } := by
  obtain ⟨z, its, n, r, e⟩ := I.hok l _ hH
  exact ⟨z, its, n, r, r.length, e⟩
theorem notLongL {n : Nat} (h : n ≤ sizeLine) : Builtin.List.listTooLong n = false := by
  unfold Builtin.List.listTooLong
  exact decide_eq_false (by omega)
end
section
variable {X : Cx}
def rAppend : V → List V → Hp → VK → Prop := fun x vs H Q => ∃ l xs y, x = .ref l ∧ vs = [y] ∧ H l = some (.lst xs) ∧ xs.length < sizeLine ∧ Q .non (upd H l (.lst (xs ++ [y])))
theorem mt_append : MtM X "list.append" rAppend := by
  intro pins s σ H x vs v us Q I rx rv h
  obtain ⟨l, xs, y, rfl, rfl, hH, hz, q⟩ := h
  cases rx
  obtain ⟨u, rfl, ru⟩ := rv.one
  obtain ⟨z, its, n, r, hl, e⟩ := I.lstM hH
  refine call_meets F.slot_list_append ⟨_, e, rfl⟩ F.entry_list_append (F.args_list_append_2 _ _) (PySem.list_append l its.toArray n u (by rw [List.size_toArray]; omega)) ⟨e, ?_⟩
  refine ⟨.non, _, I.lset (its' := its ++ [u]) hH e (by simp) (r.append (.cons ru .nil)) ?_, rfl, q⟩
  rw [List.length_append, List.length_singleton]
  omega
def rPop : V → List V → Hp → VK → Prop := fun x vs H Q => ∃ l xs y, x = .ref l ∧ vs = [] ∧ H l = some (.lst xs) ∧ xs[xs.length - 1]? = some y ∧ Q y (upd H l (.lst xs.dropLast))
theorem mt_pop : MtM X "list.pop" rPop := by
  intro pins s σ H x vs v us Q I rx rv h
  obtain ⟨l, xs, y, rfl, rfl, hH, hy, q⟩ := h
  cases rx
  have hus := rv.zero
  subst hus
  obtain ⟨z, its, n, r, hl, e⟩ := I.lstM hH
  obtain ⟨u, hu, ru⟩ := r.get hy
  have hy' : its.toArray[its.toArray.size - 1]? = some u := by
    show its.toArray[its.length - 1]? = some u
    rw [← Array.getElem?_toList, ← hl]
    exact hu
  refine call_meets F.slot_list_pop ⟨_, e, rfl⟩ F.entry_list_pop (F.args_list_pop_1 _) (MeetsSeq.list_pop_last l its.toArray n u hy' (by rw [List.size_toArray]; omega)) ⟨e, ?_⟩
  refine ⟨y, _, I.lset (its' := its.dropLast) hH e ?_ r.dropLast ?_, ru, q⟩
  · show its.toArray.eraseIdxIfInBounds (its.toArray.size - 1) = its.dropLast.toArray
    rw [List.size_toArray, List.eraseIdxIfInBounds_toArray, erase_last]
  · rw [List.length_dropLast]
    omega
def rCat : R2 := fun x y H Q => ∃ l b xs zs, x = .ref l ∧ y = .ref b ∧ H l = some (.lst xs) ∧ H b = some (.lst zs) ∧ xs.length + zs.length ≤ sizeLine ∧ ∀ p, H p = none → Q (.ref p) (upd H p (.lst (xs ++ zs)))
theorem op_cat : OpR X (binaryOp .Add) rCat := by
  intro pins s σ H x y v u Q I rx ry h
  obtain ⟨l, b, xs, zs, rfl, rfl, hH, hB, hz, q⟩ := h
  cases rx
  cases ry
  obtain ⟨z, its, n, r, hl, e⟩ := I.lstM hH
  obtain ⟨z2, its2, n2, r2, hl2, e2⟩ := I.lstM hB
  refine PySem.P.add_list e e2 ?_ (by rw [List.size_toArray, List.size_toArray]; omega)
  have ea : its.toArray ++ its2.toArray = (its ++ its2).toArray := by simp
  rw [ea]
  exact ⟨.ref _, _, I.lnew (t' := s.toks) (r.append r2) (by rw [List.length_append]; omega), rfl, q _ I.fresh⟩
def rRep : R2 := fun x y H Q => ∃ l k xs, x = .ref l ∧ y = .int k ∧ H l = some (.lst xs) ∧ -(2 ^ 63) ≤ k ∧ k < 2 ^ 63 ∧ xs.length * k.toNat ≤ sizeLine ∧
  ∀ p, H p = none → Q (.ref p) (upd H p (.lst (List.replicate k.toNat xs).flatten))
theorem len_rep {α : Type} (xs : List α) (k : Nat) : (List.replicate k xs).flatten.length = k * xs.length := by
  induction k with
  | zero => simp
  | succ k ih => rw [List.replicate_succ, List.flatten_cons, List.length_append, ih, Nat.succ_mul, Nat.add_comm]
theorem op_rep : OpR X (binaryOp .Mult) rRep := by
  intro pins s σ H x y v u Q I rx ry h
  obtain ⟨l, k, xs, rfl, rfl, hH, h1, h2, hz, q⟩ := h
  cases rx
  obtain ⟨t, rfl⟩ := ry
  obtain ⟨z, its, n, r, hl, e⟩ := I.lstM hH
  have hlen : its.toArray.size * k.toNat ≤ sizeLine := by rw [List.size_toArray, ← hl]; exact hz
  have hcap : ¬ its.toArray.size * k.toNat > (2 ^ 63 - 1) / 8 := by
    have : (sizeLine : Nat) ≤ (2 ^ 63 - 1) / 8 := by decide
    omega
  have hfit : ¬ (!Builtin.List.listFitsIndex k) = true := by
    rw [fitsIndex_both h1 h2]
    exact Bool.false_ne_true
  have hlong : ¬ Builtin.List.listTooLong (its.toArray.size * k.toNat) = true := by
    rw [notLongL hlen]
    exact Bool.false_ne_true
  have hnew : List.foldl (fun x1 x2 => x1 ++ x2) #[] (List.replicate (if its.toArray.isEmpty = true then 0 else k.toNat) its.toArray) = (List.replicate k.toNat its).flatten.toArray := by
    have f0 : ∀ m : Nat, List.foldl (fun x1 x2 => x1 ++ x2) #[] (List.replicate m its.toArray) = (List.replicate m its).flatten.toArray := fun m => by
      have := foldl_rep its m []
      rw [List.nil_append] at this
      exact this
    rw [f0]
    cases its with
    | nil => simp
    | cons a r' => rw [if_neg (by simp)]
  refine wpAny_binaryOp_repeat_ref (T := "list") (U := "int") (by decide) ⟨_, e, rfl⟩ (fun s' => typeIs_int s' k t) noFill_list_mul F.fills_int_mul F.slot_int_rmul repeat_list F.slot_int_index.lookup
    (call_meets F.slot_int_rmul (typeIs_int s k t) F.entry_int_rmul (F.args_int_rmul_2 _ _) (int___rmul___int_list k t l its.toArray n)
      ⟨e, rfl, ⟨_, e, rfl⟩, call_meets F.slot_list_mul ⟨_, e, rfl⟩ F.entry_list_mul (F.args_list_mul_2 _ _) (AutoListH.list___mul___list_int_3 l its.toArray n k t hfit hcap hlong) ⟨e, ?_⟩⟩)
  rw [hnew]
  exact ⟨.ref _, _, I.lnew (t' := s.toks) (r.rep k.toNat) (by rw [len_rep, Nat.mul_comm]; exact hz), rfl, q _ I.fresh⟩
end
section
variable {prog : Program} {w : World} {A : Around} {E : Value → Shared → Prop} {s : Shared}
end
section
variable {X : Cx}
end
end L2
namespace Att
open PySem PySem.W PySem.Calls PyProof.Rows
theorem ints_of_wellAll {P : Params} {h : Heap} : ∀ (ns : List Int) (vs : List Value), WellAll P h vs (ns.map WData.int) → IntsAre vs ns := by
  intro ns
  induction ns with
  | nil =>
    intro vs w
    rw [List.map_nil] at w
    cases w
    exact .nil
  | cons n ns ih =>
    intro vs w
    rw [List.map_cons] at w
    cases w with
    | cons a b =>
      cases a
      exact .cons _ _ (ih _ b)
theorem script_of {l : OpenLaw} {n : Nat} (hn : l.most = some n) {P : Params} {h : Heap} {args : List WData} {vals : List Value}
    (hpre : l.row.toRowW.claim.pre args = true) (hwl : WellAll P h vals args) :
    ∃ a vs ns, vals = [Value.ref a] ∧ args = [WData.list (ns.map WData.int)] ∧ h.get? a = some { cls := .type "list", data := .seq vs.toArray } ∧ IntsAre vs ns ∧ ns.length ≤ n := by
  have hsh : WShape.hasAll [] args [.list .int] = true := (pre_splitW hpre).1
  have hc : l.pre.holds [] { args := args } = true := (pre_splitW hpre).2
  obtain ⟨d, r, rfl, h1, h2⟩ := hasAllW_cons hsh
  obtain rfl := hasAllW_nil h2
  obtain ⟨xs, rfl, h3⟩ := hasW_list h1
  obtain ⟨ns, rfl⟩ := items_int h3
  have hlen : ns.length ≤ n := by
    unfold OpenLaw.pre at hc
    have h4 : (WTm.not (.lt (.lit (.int (n : Int))) (.len (.arg 0)))).holds [] { args := [.list (ns.map .int)] } = true := by
      have h4 := (holds_andW hc).1
      rw [hn] at h4
      exact h4
    have h5 := condW_of h4 (w_not (w_lt w_lit (w_len_list (w_arg rfl))))
    rw [List.length_map] at h5
    refine Nat.le_of_not_lt fun q => ?_
    have q' : (n : Int) < ((ns.length : Nat) : Int) := by omega
    first
      | (rw [decide_eq_true q'] at h5; exact absurd h5 (by decide))
      | (simp at h5; omega)
  cases hwl with
  | cons w1 w2 =>
    cases w2
    cases w1 with
    | list ho hall => exact ⟨_, _, ns, rfl, rfl, ho, ints_of_wellAll ns _ hall, hlen⟩
theorem post_true (l : OpenLaw) (args : List WData) : l.row.toRowW.claim.post args (.bool true) args = true :=
  postW_of (r := l.row.toRowW) (X := (true == true))
    (show WShape.has [] (.bool true) .bool = true by first | rfl | decide | simp [WShape.has, WShape.arms, WShape.armsAll])
    (show (WTm.eq .res (.lit (.bool true))).value [] { args := args, res := some (.bool true), after := args } = some (.bool (true == true)) from w_eq_bool (w_res rfl) w_lit) rfl
theorem attach_call {l : OpenLaw} {n : Nat} {q : Program} {loose : List Str} {XP : (Str → Option Value) → Heap → Prop} {YP : World → Heap → Prop} {d : DefRec}
    (hn : l.most = some n) (hdf : d.params.defaults = [])
    (call : ∀ (w : World) (s₀ s₁ : Shared) (mg mb : Str → Option Value) (fa : Addr) (o : Obj) (pm cd doc : Value) (a : Addr) (vs : List Value) (ns : List Int),
      Ground q loose [] XP w s₀ mg mb s₁.heap → YP w s₁.heap →
      s₁.heap.get? fa = some o → o.data = .func (docDef d.name d.params d.body d.scope pm cd doc) → s₁.heap.CodeRec cd d.name → mg d.name = some (.ref fa) →
      s₁.heap.get? a = some { cls := .type "list", data := .seq vs.toArray } → IntsAre vs ns → ns.length ≤ n → s₁.gens = #[] →
      codeAny (model l.prog w) callerA (.call (.ref fa) ⟨[.ref a], []⟩) (fun r s' => r = .ok (.ret (.bool true)) ∧ OldK s₁.heap s'.heap ∧ s'.os = s₁.os ∧ AllBare s'.gens) s₁) :
    WalkO q loose XP YP l.row.toRowW d [] (fun f vs => PySem.call f vs) := by
  intro w s₀ s₁ mg mb G Y fa o pm cd doc dV kV ho hd hcd hD hmg hg args vals as hpre hlay hrd hwl hlo
  obtain rfl : dV = .none := Dflts.none hD hdf
  obtain rfl : kV = .none := Dflts.noKw hD
  obtain ⟨a, vs, ns, rfl, rfl, hobj, hints, hlen⟩ := script_of hn hpre hwl
  refine enter_call (codeAny_mono (call w s₀ s₁ mg mb fa o pm cd doc a vs ns G Y ho (fd_plain hd) hcd hmg hobj hints hlen hg) fun r s' hq => ?_)
  obtain ⟨rfl, h2, h3, h4⟩ := hq
  exact ⟨.inl ⟨.bool true, .bool true, [], rfl, fun _ => rfl, .bool true, post_true l _, fun _ => ⟨List.Pairwise.nil, fun _ hm => (nomatch hm)⟩⟩, h2, h3, h4⟩
section
variable {prog : Program} {w : World} {A : Around} {E : Value → Shared → Prop} {s : Shared} {K : Frag}
end
end Att
namespace L2
open PySem PySem.Spec PyProof.Rows
theorem vals_ints : ∀ {vs : List Value} {ns : List Int}, IntsAre vs ns → Vals (ns.map V.int) vs
  | _, _, .nil => .nil
  | _, _, .cons n t h => .cons ⟨t, rfl⟩ (vals_ints h)
def Only (H : Hp) : Prop := ∀ b, H b = none ∨ ∃ o xs, H b = some (.frz o (.lst xs))
theorem law_call {P : Program} {w : World} {K : PySem.W.Frag} {mg mb : Str → Option Value} {CX : CXT} {k : Nat} {fa a : Addr} {fd : FuncData} {x : Str} {sp : Sp} {s₁ : Shared} {vs : List Value} {ns : List Int}
    (KX : K.In s₁.heap) (hns : s₁.heap.Ns mainGlobals mg) (hb : s₁.heap.Ns builtinsNs mb) (hbb : ∀ x : Str, x ≠ "__name__" → mb x = bootBuiltins x) (hlim : s₁.heap.NoLimit) (hg : s₁.gens = #[])
    (ha : s₁.heap.get? a = some { cls := .type "list", data := .seq vs.toArray }) (hi : IntsAre vs ns) (hl : ns.length ≤ sizeLine) (hr : Room k callerA)
    (F : ∀ base : Heap, K.In base → base.Ns mainGlobals mg → FnOk P w K mg base CX k fa fd [x] sp) (hbind : ∀ (s : Shared) (u : Value), BindsTo s fd ⟨[u], []⟩ [(x, u)])
    (hsp : ∀ H : Hp, Only H → SqL K H a (ns.map V.int) → sp [.ref a] H (fun v _ => v = .bl true) fun _ _ _ => False)
    (hCX : ∀ H e s', CX [] H s₁ (fun _ _ _ => False) e s' → False) :
    codeAny (model P w) callerA (.call (.ref fa) ⟨[.ref a], []⟩) (fun r s' => r = .ok (.ret (.bool true)) ∧ OldK s₁.heap s'.heap ∧ s'.os = s₁.os ∧ AllBare s'.gens) s₁ := by
  have rv := vals_ints hi
  have lenV := hi.length
  have core : ∀ H : Hp, Only H → SqL K H a (ns.map V.int) → HOk P w H s₁.heap → (∀ b, H b ≠ none → b = a) → (H a ≠ none → K.lookup a = none) →
      codeAny (model P w) callerA (.call (.ref fa) ⟨[.ref a], []⟩) (fun r s' => r = .ok (.ret (.bool true)) ∧ OldK s₁.heap s'.heap ∧ s'.os = s₁.os ∧ AllBare s'.gens) s₁ := by
    intro H hO hS hok hA hK
    have base_of : ∀ {b : Addr} {o : Obj}, s₁.heap.get? b = some o → H b = none → (hidT s₁.heap H).get? b = some o := fun e n => hidT_get e n
    have noA : ∀ {b : Addr} {o : Obj} {es : Array DictEntry} {ep : Nat}, s₁.heap.get? b = some o → o.data = .dict es ep → H b = none := fun {b o es ep} e d => by
      cases q : H b with
      | none => rfl
      | some u =>
        have e' : b = a := hA b (by rw [q]; simp)
        subst e'
        rw [ha] at e; cases e
        have d' : Data.seq vs.toArray _ = Data.dict es ep := d
        cases d'
    have nsK : ∀ {b : Addr} {m : Str → Option Value}, s₁.heap.Ns b m → (hidT s₁.heap H).Ns b m := fun {b m} ⟨o, es, ep, e, d, r⟩ => ⟨o, es, ep, base_of e (noA e d), d, r⟩
    have hKb : K.In (hidT s₁.heap H) := fun b o e => base_of (KX b o e) (by
      cases q : H b with
      | none => rfl
      | some u =>
        have e' : b = a := hA b (by rw [q]; simp)
        subst e'
        rw [hK (by rw [q]; simp)] at e; cases e)
    have hM : Mod K mg (hidT s₁.heap H) := ⟨hKb, nsK hns, ⟨mb, nsK hb, hbb⟩, let ⟨mc, h1, h2⟩ := hlim; ⟨mc, nsK h1, h2⟩⟩
    have e0 : Env0 P w K mg (hidT s₁.heap H) callerA [] s₁ H := ⟨rfl, hM, fun b o e => of_hidT e, Nat.le_of_eq (hidT_size _ _), trivial, fun b hb => absurd (show b ∈ ([] : List Addr) from hb) (by simp), hok, .of_eq hg⟩
    refine codeAny_mono ((F _ hKb (nsK hns)).run callerA [] s₁ H ⟨[.ref a], []⟩ [.ref a] [.ref a] _ _ hr e0 (hbind s₁ (.ref a)) (.cons rfl .nil) (hsp H hO hS)) fun r s' h => ?_
    cases r with
    | error e => exact (hCX H e s' h).elim
    | ok fl =>
      cases fl with
      | next => exact False.elim h
      | brk => exact False.elim h
      | cont => exact False.elim h
      | ret u =>
        obtain ⟨v, H', os, bare, un, hok', r', q⟩ := h
        have q' : v = .bl true := q
        subst q'
        obtain rfl : u = Value.bool true := r'
        refine ⟨rfl, OldK.of_keep fun b o e => ?_, os, bare⟩
        cases q : H b with
        | none => exact un.keep b o e q (by intro z; exact absurd (show b ∈ ([] : List Addr) from z) (by simp)) (by simp)
        | some u =>
          rcases hO b with z | ⟨ob, xs, z⟩
          · rw [q] at z; cases z
          · have z2 := un.frzs b ob _ z
            obtain ⟨e1, _⟩ := hok b _ z
            obtain ⟨e2, _⟩ := hok' b _ z2
            rw [e] at e1; cases e1
            exact e2
  cases hk : K.lookup a with
  | some o =>
    have e := KX a o hk
    rw [ha] at e
    cases e
    refine core (fun _ => none) (fun _ => .inl rfl) (.inr ⟨_, vs.toArray, _, hk, rfl, rfl, rfl, by rw [List.size_toArray, lenV]; exact hl, by simpa using rv⟩) (fun b u z => by have z' : (none : Option HO) = some u := z; cases z') (fun b z => absurd rfl z) fun z => absurd rfl z
  | none =>
    refine core (fun b => if b = a then some (.frz { cls := .type "list", data := .seq vs.toArray } (.lst (ns.map V.int))) else none) (fun b => ?_) (.inl (.inr ⟨{ cls := .type "list", data := .seq vs.toArray }, if_pos rfl⟩)) (fun b u z => ?_) (fun b z => ?_) fun _ => hk
    · by_cases hb : b = a
      · exact .inr ⟨_, _, if_pos hb⟩
      · exact .inl (if_neg hb)
    · by_cases hb : b = a
      · have z' := (if_pos hb).symm.trans z
        cases z'
        subst hb
        exact ⟨ha, by rw [List.length_map]; exact hl, vs, _, rv, ha⟩
      · have z' := (if_neg hb).symm.trans z
        cases z'
    · by_cases hb : b = a
      · exact hb
      · exact absurd (if_neg hb) z
end L2
namespace L2
open PySem PySem.Spec PyProof.Rows
theorem walk_of {l : PySem.W.OpenLaw} {n k : Nat} {q : Program} {loose : List Str} {XP : (Str → Option Value) → Heap → Prop} {YP : World → Heap → Prop} {d : DefRec} {K : Params → PySem.W.Frag} {CX : World → CXT} {sp : World → Sp} {x : Str}
    (hn : l.most = some n) (hn2 : n ≤ sizeLine) (hdf : d.params.defaults = []) (hr : Room k callerA)
    (hY : ∀ (w : World) (h : Heap), YP w h → (K w.params).In h)
    (F : ∀ (w : World) (mg : Str → Option Value) (fa : Addr) (h : Heap), (K w.params).In h → h.Ns mainGlobals mg → mg d.name = some (.ref fa) →
      ∃ fd : FuncData, (∀ (s : Shared) (u : Value), BindsTo s fd ⟨[u], []⟩ [(x, u)]) ∧
        ∀ base : Heap, (K w.params).In base → base.Ns mainGlobals mg → FnOk l.prog w (K w.params) mg base (CX w) k fa fd [x] (sp w))
    (hsp : ∀ (w : World) (H : Hp) (a : Addr) (ns : List Int), ns.length ≤ n → Only H → SqL (K w.params) H a (ns.map V.int) → sp w [.ref a] H (fun v _ => v = .bl true) fun _ _ _ => False)
    (hCX : ∀ (w : World) (H : Hp) (s : Shared) (e : Value) (s' : Shared), CX w [] H s (fun _ _ _ => False) e s' → False) :
    PySem.W.WalkO q loose XP YP l.row.toRowW d [] (fun f vs => PySem.call f vs) := by
  refine Att.attach_call hn hdf fun w s₀ s₁ mg mb fa o pm cd doc a vs ns G Y ho hd hcd hmg hobj hints hlen hg => ?_
  have KX := hY w _ Y
  obtain ⟨fd, hb, hF⟩ := F w mg fa _ KX G.T.g hmg
  exact law_call KX G.T.g G.T.b G.T.builtins G.T.nolimit hg hobj hints (Nat.le_trans hlen hn2) hr hF hb (fun H hO hS => hsp w H a ns hlen hO hS) fun H e s' => hCX w H s₁ e s'
end L2
namespace L2
open PySem PySem.Spec PyProof.Rows
def defArgs (s : Stmt) : Arguments := match s with
  | .FunctionDef _ a _ _ _ _ _ _ _ _ => a
  | _ => { posonlyargs := [], args := [], vararg := none, kwonlyargs := [], kw_defaults := [], kwarg := none, defaults := [] }
def defBody (s : Stmt) : List Stmt := match s with
  | .FunctionDef _ _ b _ _ _ _ _ _ _ => b
  | _ => []
def defScope (s : Stmt) : Scope := match s with
  | .FunctionDef _ _ _ _ _ _ sc _ _ _ => sc
  | _ => { kind := .function, names := [], isGenerator := false, isCoroutine := false }
abbrev CX0 : CXT := fun _ _ _ _ _ _ => False
abbrev E0 : XK := fun _ _ _ => False
theorem pass0 {X : Cx} : Passes CX0 X E0 := fun _ _ _ _ _ _ _ h => h.elim
structure Fun (K : PySem.W.Frag) (x qual : Str) (st : Stmt) (f : Addr) (fd : FuncData) : Prop where
  ex : ∃ (oc : Value) (od : Option Addr) (kV doc pm : Value) (an : Option Addr) (cdv ct : Value) (osl : Array (Option Value)),
    fd = PySem.W.fnOf x qual (defArgs st) (defBody st) (defScope st) .none kV doc pm an cdv ct ∧ K.lookup f = some ⟨oc, od, .func fd, osl⟩ ∧ PySem.W.codeIn K cdv qual = true
  kp : PySem.W.keepIn K (.ref f) = true
section
variable {P : Program} {w : World} {K : PySem.W.Frag} {mg : Str → Option Value} {base : Heap}
theorem Fun.ok {x qual : Str} {st : Stmt} {f : Addr} {fd : FuncData} {N ps : List Str} {k : Nat} {sp : Sp} (F : Fun K x qual st f fd) (S : FnScope N ps (defScope st)) (len : ∀ vs H Q E, sp vs H Q E → vs.length = ps.length)
    (hbody : ∀ (cdv : Value) (A : Around) (outer : List Env) (s : Shared) (H : Hp) (vs : List V) (Q : VK) (E : XK), Room k (A.deeper (envOfC qual (defScope st) s.heap.objs.size f cdv)) → sp vs H Q E →
      ∃ t, PSs (cxOf CX0 P w K mg base N qual (defScope st) f cdv A outer s H E).nox (defBody st) t ∧ t { nx := fun _ H' => Q .non H', rt := Q } (start N vs) H) : FnOk P w K mg base CX0 (k + 1) f fd ps sp := by
  obtain ⟨oc, od, kV, doc, pm, an, cdv, ct, osl, rfl, lk, hcd⟩ := F.ex
  refine fn_of lk hcd S len fun A outer s H vs Q E hr hsp => ?_
  obtain ⟨t, h, q⟩ := hbody cdv A outer s H vs Q E hr hsp
  exact ⟨t, h.nox, q⟩
theorem Fun.binds {x qual : Str} {st : Stmt} {f : Addr} {fd : FuncData} {ps : List Str} (F : Fun K x qual st f fd)
    (h : ∀ (kV doc pm : Value) (an : Option Addr) (cdv ct : Value) (us : List Value), us.length = ps.length → bindArgs (PySem.W.fnOf x qual (defArgs st) (defBody st) (defScope st) .none kV doc pm an cdv ct) ⟨us, []⟩ = pure (ps.zip us)) : Binds K fd ps [] := by
  obtain ⟨oc, od, kV, doc, pm, an, cdv, ct, osl, rfl, lk, hcd⟩ := F.ex
  exact .all (h kV doc pm an cdv ct)
theorem fun_mk {x qual : Str} {st : Stmt} {f : Addr} {oc : Value} {od an : Option Addr} {osl : Array (Option Value)} {kV doc pm cdv ct : Value} (l : K.lookup f = some ⟨oc, od, .func (PySem.W.fnOf x qual (defArgs st) (defBody st) (defScope st) .none kV doc pm an cdv ct), osl⟩)
    (c : PySem.W.codeIn K cdv qual = true) (k : PySem.W.keepIn K (.ref f) = true) : Fun K x qual st f (PySem.W.fnOf x qual (defArgs st) (defBody st) (defScope st) .none kV doc pm an cdv ct) := ⟨⟨oc, od, kV, doc, pm, an, cdv, ct, osl, rfl, l, c⟩, k⟩
end
theorem small1000 {n : Nat} (h : n ≤ 1000) : n < sizeLine := Nat.lt_of_le_of_lt h (by decide)
section
variable {X : Cx}
theorem pv (i : Nat) {x : Str} {pos : Pos} (hN : X.N[i]? = some x := by rfl) (hv : Vis X.env.scope x := by first | exact Or.inl rfl | exact Or.inr (Or.inl rfl) | exact Or.inr (Or.inr rfl)) (hd : (x == ("__debug__" : Str)) = false := by decide)
    (hcd : (x == ("__classdict__" : Str)) = false := by decide) : PE X (.Name x pos) (tVar i) := pe_var hN hv hd hcd
end
theorem iteF {A B : Prop} (h : B) : if false = true then A else B := by
  rw [if_neg Bool.false_ne_true]
  exact h
theorem iteT {A B : Prop} (h : A) : if true = true then A else B := by
  rw [if_pos rfl]
  exact h
theorem ite2 {c A B : Prop} [Decidable c] (h1 : c → A) (h2 : ¬ c → B) : if c then A else B := by
  by_cases h : c
  · rw [if_pos h]
    exact h1 h
  · rw [if_neg h]
    exact h2 h
def Same (H H' : Hp) : Prop := ∀ b o, H b = some o → H' b = some o
theorem Same.refl (H : Hp) : Same H H := fun _ _ h => h
theorem Same.trans {H H1 H2 : Hp} (a : Same H H1) (b : Same H1 H2) : Same H H2 := fun c o h => b c o (a c o h)
theorem Same.free {H H' : Hp} (e : Same H H') {l : Addr} (h : H' l = Option.none) : H l = Option.none := by
  cases q : H l with
  | none => rfl
  | some o =>
    rw [e l o q] at h
    cases h
theorem Same.seq {K : PySem.W.Frag} {H H' : Hp} {a : Addr} {xs : List V} (e : Same H H') (h : SqL K H a xs) : SqL K H' a xs := by
  rcases h with (h | ⟨o, h⟩) | h
  · exact .inl (.inl (e _ _ h))
  · exact .inl (.inr ⟨o, e _ _ h⟩)
  · exact .inr h
end L2
namespace Pm
def fig (h b : List Int) (d : Nat) : Int := if d < h.length then h.getD d 0 else b.getD ((d - h.length) % b.length) 0
def Again (b : List Int) (n : Nat) : Prop := ∀ i, i + n < b.length → b.getD (i + n) 0 = b.getD i 0
structure T (h b : List Int) : Prop where
  pos : 0 < b.length
  least : ∀ n, 0 < n → n < b.length → b.length % n = 0 → ¬ Again b n
  last : 0 < h.length → h.getD (h.length - 1) 0 ≠ b.getD (b.length - 1) 0
def Alike (h b h' b' : List Int) : Prop := ∀ d, fig h b d = fig h' b' d
theorem Alike.refl (h b : List Int) : Alike h b h b := fun _ => rfl
theorem Alike.symm {h b h' b' : List Int} (a : Alike h b h' b') : Alike h' b' h b := fun d => (a d).symm
theorem Alike.trans {h b h' b' h2 b2 : List Int} (a : Alike h b h' b') (c : Alike h' b' h2 b2) : Alike h b h2 b2 := fun d => (a d).trans (c d)
theorem fig_head {h b : List Int} {d : Nat} (hd : d < h.length) : fig h b d = h.getD d 0 := by unfold fig; rw [if_pos hd]
theorem fig_bar {h b : List Int} {d : Nat} (hd : h.length ≤ d) : fig h b d = b.getD ((d - h.length) % b.length) 0 := by unfold fig; rw [if_neg (by omega)]
theorem fig_at {h b : List Int} {i : Nat} (hi : i < b.length) : fig h b (h.length + i) = b.getD i 0 := by
  rw [fig_bar (by omega), Nat.add_sub_cancel_left, Nat.mod_eq_of_lt hi]
theorem fig_add {h b : List Int} {d : Nat} (hd : h.length ≤ d) : fig h b (d + b.length) = fig h b d := by
  rw [fig_bar hd, fig_bar (by omega)]
  have e : d + b.length - h.length = (d - h.length) + b.length := by omega
  rw [e, Nat.add_mod_right]
def Per (f : Nat → Int) (p n0 : Nat) : Prop := ∀ n, n0 ≤ n → f (n + p) = f n
theorem Per.mul {f : Nat → Int} {p n0 : Nat} (hp : Per f p n0) : ∀ k n, n0 ≤ n → f (n + k * p) = f n
  | 0, n, _ => by simp
  | k + 1, n, h => by
    have e : n + (k + 1) * p = (n + k * p) + p := by rw [Nat.add_mul]; omega
    rw [e, hp _ (by omega), Per.mul hp k n h]
theorem Per.up {f : Nat → Int} {p n0 n1 : Nat} (hp : Per f p n0) (h : n0 ≤ n1) : Per f p n1 := fun n hn => hp n (by omega)
theorem Per.sub {f : Nat → Int} {p q n0 : Nat} (hp : Per f p n0) (hq : Per f q n0) (h : p ≤ q) : Per f (q - p) n0 := fun n hn => by
  have e1 := hp (n + (q - p)) (by omega)
  have e2 := hq n hn
  have e : n + (q - p) + p = n + q := by omega
  rw [e] at e1
  rw [← e1, e2]
theorem Per.gcd {f : Nat → Int} {n0 : Nat} : ∀ (m p q : Nat), p + q ≤ m → 0 < p → 0 < q → Per f p n0 → Per f q n0 → Per f (Nat.gcd p q) n0
  | 0, p, q, h, h1, h2, _, _ => by omega
  | m + 1, p, q, h, h1, h2, hp, hq => by
    by_cases e : p = q
    · subst e; rw [Nat.gcd_self]; exact hp
    · by_cases l : p < q
      · have g := Per.gcd m p (q - p) (by omega) h1 (by omega) hp (hp.sub hq (by omega))
        rwa [Nat.gcd_sub_self_right (by omega)] at g
      · have g := Per.gcd m (p - q) q (by omega) (by omega) h2 (hq.sub hp (by omega)) hq
        rwa [Nat.gcd_sub_self_left (by omega)] at g
theorem per_fig (h b : List Int) : Per (fig h b) b.length h.length := fun _ hn => fig_add hn
theorem per_back {h b : List Int} {g n1 : Nat} (hb : 0 < b.length) (hg : Per (fig h b) g n1) : Per (fig h b) g h.length := fun n hn => by
  have k := (per_fig h b).mul n1 (n + g) (by omega)
  have k2 := (per_fig h b).mul n1 n hn
  have hle : n1 ≤ n + n1 * b.length := by
    have : n1 * 1 ≤ n1 * b.length := Nat.mul_le_mul_left _ hb
    omega
  have e := hg (n + n1 * b.length) hle
  have e2 : n + n1 * b.length + g = n + g + n1 * b.length := by omega
  rw [e2, k, k2] at e
  exact e
theorem per_again {h b : List Int} {g : Nat} (hg : Per (fig h b) g h.length) : Again b g := fun i hi => by
  have e := hg (h.length + i) (by omega)
  have e2 : h.length + i + g = h.length + (i + g) := by omega
  rw [e2, fig_at hi, fig_at (by omega)] at e
  exact e
theorem again_per {h b : List Int} {g : Nat} (h0 : 0 < g) (hd : b.length % g = 0) (hb : 0 < b.length) (a : Again b g) : Per (fig h b) g h.length := fun n hn => by
  have stp : ∀ k i, i + k * g < b.length → b.getD (i + k * g) 0 = b.getD i 0 := by
    intro k
    induction k with
    | zero => intro i _; simp
    | succ k ih =>
      intro i hi
      have e : i + (k + 1) * g = (i + k * g) + g := by rw [Nat.add_mul]; omega
      rw [e] at hi ⊢
      rw [a _ hi, ih i (by omega)]
  have low : ∀ i, i < b.length → b.getD i 0 = b.getD (i % g) 0 := fun i hi => by
    have e := Nat.mod_add_div i g
    have q := stp (i / g) (i % g) (by rw [Nat.mul_comm]; omega)
    rw [Nat.mul_comm, e] at q
    exact q
  rw [fig_bar hn, fig_bar (by omega)]
  have hlt : 0 < b.length := hb
  rw [low _ (Nat.mod_lt _ hlt), low ((n - h.length) % b.length) (Nat.mod_lt _ hlt)]
  have hdv : g ∣ b.length := Nat.dvd_of_mod_eq_zero hd
  rw [Nat.mod_mod_of_dvd _ hdv, Nat.mod_mod_of_dvd _ hdv]
  have e : n + g - h.length = (n - h.length) + g := by omega
  rw [e, Nat.add_mod_right]
theorem T.dvd {h b h' b' : List Int} (t : T h b) (hb' : 0 < b'.length) (a : Alike h b h' b') : b'.length % b.length = 0 := by
  have hf : fig h b = fig h' b' := funext a
  have p1 : Per (fig h b) b.length (h.length + h'.length) := (per_fig h b).up (by omega)
  have p2 : Per (fig h b) b'.length (h.length + h'.length) := by rw [hf]; exact (per_fig h' b').up (by omega)
  have g := Per.gcd _ b.length b'.length (Nat.le_refl _) t.pos hb' p1 p2
  have ag := per_again (per_back t.pos g)
  have hg0 : 0 < Nat.gcd b.length b'.length := Nat.gcd_pos_of_pos_left _ t.pos
  have hle : Nat.gcd b.length b'.length ≤ b.length := Nat.gcd_le_left _ t.pos
  have hdv : b.length % Nat.gcd b.length b'.length = 0 := Nat.mod_eq_zero_of_dvd (Nat.gcd_dvd_left _ _)
  by_cases e : Nat.gcd b.length b'.length = b.length
  · exact Nat.mod_eq_zero_of_dvd (by rw [← e]; exact Nat.gcd_dvd_right _ _)
  · exact absurd ag (t.least _ hg0 (by omega) hdv)
theorem T.bar_le {h b h' b' : List Int} (t : T h b) (hb' : 0 < b'.length) (a : Alike h b h' b') : b.length ≤ b'.length :=
  Nat.le_of_dvd hb' (Nat.dvd_of_mod_eq_zero (t.dvd hb' a))
theorem T.head_le {h b h' b' : List Int} (t : T h b) (hb' : 0 < b'.length) (a : Alike h b h' b') : h.length ≤ h'.length := by
  by_cases hl : h.length ≤ h'.length
  · exact hl
  · exfalso
    have h0 : 0 < h.length := by omega
    refine t.last h0 ?_
    have hf : fig h b = fig h' b' := funext a
    have pb : Per (fig h b) b'.length h'.length := by rw [hf]; exact per_fig h' b'
    have hdv := t.dvd hb' a
    obtain ⟨k, hk⟩ := Nat.dvd_of_mod_eq_zero hdv
    have e1 := pb (h.length - 1) (by omega)
    rw [fig_head (d := h.length - 1) (by omega)] at e1
    have hk0 : 0 < k := by
      cases k with
      | zero => omega
      | succ k => omega
    have hbl : 0 < b.length := t.pos
    have e2 : h.length - 1 + b'.length = (h.length + (b.length - 1)) + (k - 1) * b.length := by
      rw [hk]
      have : b.length * k = (k - 1) * b.length + b.length := by
        have e : k = (k - 1) + 1 := by omega
        conv => lhs; rw [e, Nat.mul_add, Nat.mul_one, Nat.mul_comm]
      omega
    rw [e2, (per_fig h b).mul _ _ (by omega), fig_at (by omega)] at e1
    exact e1.symm
theorem ext_getD {a b : List Int} (hl : a.length = b.length) (h : ∀ i, i < a.length → a.getD i 0 = b.getD i 0) : a = b := by
  apply List.ext_getElem hl
  intro i h1 h2
  have := h i h1
  rw [List.getD_eq_getElem?_getD, List.getD_eq_getElem?_getD, List.getElem?_eq_getElem h1, List.getElem?_eq_getElem h2] at this
  exact this
theorem T.uniq {h b h' b' : List Int} (t : T h b) (t' : T h' b') (a : Alike h b h' b') : h = h' ∧ b = b' := by
  have hb := Nat.le_antisymm (t.bar_le t'.pos a) (t'.bar_le t.pos a.symm)
  have hh := Nat.le_antisymm (t.head_le t'.pos a) (t'.head_le t.pos a.symm)
  refine ⟨ext_getD hh fun i hi => ?_, ext_getD hb fun i hi => ?_⟩
  · have e := a i
    rwa [fig_head hi, fig_head (by omega)] at e
  · have e := a (h.length + i)
    rw [fig_at hi, hh, fig_at (by omega)] at e
    exact e
theorem getD_app {a b : List Int} {i : Nat} (h : i < a.length) : (a ++ b).getD i 0 = a.getD i 0 := by
  rw [List.getD_eq_getElem?_getD, List.getD_eq_getElem?_getD, List.getElem?_append_left h]
theorem getD_app_right {a b : List Int} {i : Nat} (h : a.length ≤ i) : (a ++ b).getD i 0 = b.getD (i - a.length) 0 := by
  rw [List.getD_eq_getElem?_getD, List.getD_eq_getElem?_getD, List.getElem?_append_right h]
def rep (k : Nat) (xs : List Int) : List Int := (List.replicate k xs).flatten
theorem rep_length (k : Nat) (xs : List Int) : (rep k xs).length = k * xs.length := by
  unfold rep
  induction k with
  | zero => simp
  | succ k ih => rw [List.replicate_succ, List.flatten_cons, List.length_append, ih, Nat.add_mul]; omega
theorem rep_getD {xs : List Int} (hx : 0 < xs.length) : ∀ (k i : Nat), i < k * xs.length → (rep k xs).getD i 0 = xs.getD (i % xs.length) 0
  | 0, i, h => by omega
  | k + 1, i, h => by
    have e : rep (k + 1) xs = xs ++ rep k xs := by unfold rep; rw [List.replicate_succ, List.flatten_cons]
    rw [e]
    by_cases hi : i < xs.length
    · rw [getD_app hi, Nat.mod_eq_of_lt hi]
    · rw [getD_app_right (by omega), rep_getD hx k (i - xs.length) (by rw [Nat.add_mul] at h; omega)]
      have e2 : i = (i - xs.length) + xs.length := by omega
      conv => rhs; rw [e2, Nat.add_mod_right]
theorem getD_take {xs : List Int} {n i : Nat} (h : i < n) : (xs.take n).getD i 0 = xs.getD i 0 := by
  rw [List.getD_eq_getElem?_getD, List.getD_eq_getElem?_getD, List.getElem?_take_of_lt h]
theorem rep_iff {b : List Int} {n : Nat} (h0 : 0 < n) (hn : n ≤ b.length) (hd : b.length % n = 0) : rep (b.length / n) (b.take n) = b ↔ Again b n := by
  have hl : (b.take n).length = n := by rw [List.length_take]; omega
  have hL : (rep (b.length / n) (b.take n)).length = b.length := by
    rw [rep_length, hl]; exact Nat.div_mul_cancel (Nat.dvd_of_mod_eq_zero hd)
  have key : ∀ i, i < b.length → (rep (b.length / n) (b.take n)).getD i 0 = b.getD (i % n) 0 := fun i hi => by
    rw [rep_getD (by omega) _ _ (by rw [← rep_length, hL]; exact hi), hl, getD_take (Nat.mod_lt _ h0)]
  constructor
  · intro e i hi
    have a1 := key (i + n) hi
    have a2 := key i (by omega)
    rw [e] at a1 a2
    rw [a1, a2, Nat.add_mod_right]
  · intro a
    refine ext_getD hL fun i hi => ?_
    rw [hL] at hi
    rw [key i hi]
    have p := again_per (h := []) h0 hd (by omega) a
    have e := p.mul (i / n) (i % n) (by simp)
    rw [Nat.mul_comm, Nat.mod_add_div] at e
    rw [← fig_at (h := []) (b := b) hi, ← fig_at (h := []) (b := b) (i := i % n) (by have := Nat.mod_le i n; omega)]
    simp only [List.length_nil, Nat.zero_add]
    exact e.symm
theorem fig_short {h b : List Int} {n : Nat} (h0 : 0 < n) (hn : n ≤ b.length) (hd : b.length % n = 0) (a : Again b n) : Alike h (b.take n) h b := fun d => by
  have hl : (b.take n).length = n := by rw [List.length_take]; omega
  by_cases hd' : d < h.length
  · rw [fig_head hd', fig_head hd']
  · rw [fig_bar (by omega), fig_bar (by omega), hl, getD_take (Nat.mod_lt _ h0)]
    have hb : 0 < b.length := by omega
    have p := again_per (h := []) h0 hd hb a
    have e := p.mul ((d - h.length) % b.length / n) ((d - h.length) % b.length % n) (by simp)
    rw [Nat.mul_comm, Nat.mod_add_div, Nat.mod_mod_of_dvd _ (Nat.dvd_of_mod_eq_zero hd)] at e
    have l1 : (d - h.length) % n < b.length := by have := Nat.mod_lt (d - h.length) h0; omega
    have l2 : (d - h.length) % b.length < b.length := Nat.mod_lt _ hb
    have f1 := fig_at (h := []) (b := b) l1
    have f2 := fig_at (h := []) (b := b) l2
    simp only [List.length_nil, Nat.zero_add] at f1 f2
    rw [← f1, ← f2, e]
structure Short (b : List Int) (n : Nat) : Prop where
  pos : 0 < n
  le : n ≤ b.length
  dv : b.length % n = 0
  ag : Again b n
  least : ∀ m, 0 < m → m < n → b.length % m = 0 → ¬ Again b m
theorem Short.self {b : List Int} {n : Nat} (s : Short b n) : ∀ m, 0 < m → m < (b.take n).length → (b.take n).length % m = 0 → ¬ Again (b.take n) m := by
  intro m m0 hm hd a
  have hl : (b.take n).length = n := by have := s.le; rw [List.length_take]; omega
  rw [hl] at hm hd
  have hdv : b.length % m = 0 := Nat.mod_eq_zero_of_dvd (Nat.dvd_trans (Nat.dvd_of_mod_eq_zero hd) (Nat.dvd_of_mod_eq_zero s.dv))
  refine s.least m m0 hm hdv ?_
  have p := again_per (h := []) m0 (by rw [hl]; exact hd) (by rw [hl]; exact s.pos) a
  have f : fig [] (b.take n) = fig [] b := funext (fig_short s.pos s.le s.dv s.ag)
  rw [f] at p
  exact per_again p
def turn (s : List Int) (k : Nat) : List Int := (List.range s.length).map fun j : Nat => s.getD ((((j : Int) - (k : Int)) % (s.length : Int)).toNat) 0
theorem turn_length (s : List Int) (k : Nat) : (turn s k).length = s.length := by unfold turn; rw [List.length_map, List.length_range]
theorem turn_getD {s : List Int} {k j : Nat} (hj : j < s.length) : (turn s k).getD j 0 = s.getD ((((j : Int) - (k : Int)) % (s.length : Int)).toNat) 0 := by
  unfold turn
  rw [List.getD_eq_getElem?_getD, List.getElem?_map, List.getElem?_range hj]; rfl
theorem turn_zero (s : List Int) : turn s 0 = s := by
  refine ext_getD (turn_length s 0) fun j hj => ?_
  rw [turn_length] at hj
  rw [turn_getD hj]
  have : (((j : Int) - ((0 : Nat) : Int)) % (s.length : Int)).toNat = j := by
    rw [Int.emod_eq_of_lt (by omega) (by omega)]; omega
  rw [this]
theorem turn_succ {s : List Int} (hs : 0 < s.length) (k : Nat) : (turn s k).getD (s.length - 1) 0 :: (turn s k).dropLast = turn s (k + 1) := by
  refine ext_getD ?_ fun j hj => ?_
  · rw [List.length_cons, List.length_dropLast, turn_length, turn_length]; omega
  · rw [List.length_cons, List.length_dropLast, turn_length] at hj
    have hj' : j < s.length := by omega
    rw [turn_getD hj']
    cases j with
    | zero =>
      rw [List.getD_cons_zero, turn_getD (by omega)]
      congr 2
      have e : ((s.length - 1 : Nat) : Int) - (k : Int) = (((0 : Nat) : Int) - ((k + 1 : Nat) : Int)) + (s.length : Int) := by omega
      rw [e, Int.add_emod_right]
    | succ j =>
      rw [List.getD_cons_succ]
      have e : (turn s k).dropLast.getD j 0 = (turn s k).getD j 0 := by
        rw [List.dropLast_eq_take, getD_take (by rw [turn_length]; omega)]
      rw [e, turn_getD (by omega)]
      congr 2
      have e : (j : Int) - (k : Int) = ((j + 1 : Nat) : Int) - ((k + 1 : Nat) : Int) := by omega
      rw [e]
theorem turn_last {s : List Int} (hs : 0 < s.length) (k : Nat) : (turn s k).getD (s.length - 1) 0 = s.getD (((-1 - (k : Int)) % (s.length : Int)).toNat) 0 := by
  rw [turn_getD (by omega)]
  have e : ((s.length - 1 : Nat) : Int) - (k : Int) = (-1 - (k : Int)) + (s.length : Int) := by omega
  rw [e, Int.add_emod_right]
theorem fig_turn {h s : List Int} {k : Nat} (hs : 0 < s.length) (hk : k ≤ h.length)
    (e : ∀ j, h.length - k ≤ j → j < h.length → h.getD j 0 = s.getD ((((j : Int) - (h.length : Int)) % (s.length : Int)).toNat) 0) :
    Alike (h.take (h.length - k)) (turn s k) h s := fun d => by
  have hl : (h.take (h.length - k)).length = h.length - k := by rw [List.length_take]; omega
  by_cases hd : d < h.length - k
  · rw [fig_head (by omega), fig_head (by omega), getD_take hd]
  · rw [fig_bar (by omega), hl, turn_length, turn_getD (Nat.mod_lt _ hs)]
    have hs' : (0 : Int) < (s.length : Int) := by omega
    have e1 : ((((d - (h.length - k)) % s.length : Nat) : Int) - (k : Int)) % (s.length : Int) = ((d : Int) - (h.length : Int)) % (s.length : Int) := by
      rw [Int.natCast_emod, Int.emod_sub_emod]
      congr 1
      omega
    rw [e1]
    by_cases hd2 : d < h.length
    · rw [fig_head hd2, e d (by omega) hd2]
    · rw [fig_bar (by omega)]
      congr 1
      have : ((d : Int) - (h.length : Int)) = ((d - h.length : Nat) : Int) := by omega
      rw [this, ← Int.natCast_emod, Int.toNat_natCast]
theorem again_turn {s : List Int} {k m : Nat} (hs : 0 < s.length) (m0 : 0 < m) (hd : s.length % m = 0) (a : Again (turn s k) m) : Again s m := by
  have p := again_per (h := []) m0 (by rw [turn_length]; exact hd) (by rw [turn_length]; exact hs) a
  have q : ∀ n, fig [] s n = fig [] (turn s k) (n + k) := fun n => by
    rw [fig_bar (by simp), fig_bar (by simp), turn_length]
    simp only [List.length_nil, Nat.sub_zero]
    rw [turn_getD (Nat.mod_lt _ hs)]
    have e1 : ((((n + k) % s.length : Nat) : Int) - (k : Int)) % (s.length : Int) = (n : Int) % (s.length : Int) := by
      rw [Int.natCast_emod, Int.emod_sub_emod]
      congr 1
      omega
    rw [e1, ← Int.natCast_emod, Int.toNat_natCast]
  refine per_again (h := []) fun n hn => ?_
  rw [q, q, show n + m + k = n + k + m by omega]
  exact p _ (by simp)
theorem tight_end {h b : List Int} {n k : Nat} (s : Short b n) (hk : k ≤ h.length)
    (e : ∀ j, h.length - k ≤ j → j < h.length → h.getD j 0 = (b.take n).getD ((((j : Int) - (h.length : Int)) % (n : Int)).toNat) 0)
    (stop : k < h.length → h.getD (h.length - k - 1) 0 ≠ (b.take n).getD (((-1 - (k : Int)) % (n : Int)).toNat) 0) :
    T (h.take (h.length - k)) (turn (b.take n) k) ∧ Alike (h.take (h.length - k)) (turn (b.take n) k) h b := by
  have hl : (b.take n).length = n := by have := s.le; rw [List.length_take]; omega
  have hp : 0 < (b.take n).length := by rw [hl]; exact s.pos
  have hh : (h.take (h.length - k)).length = h.length - k := by rw [List.length_take]; omega
  refine ⟨⟨by rw [turn_length]; exact hp, fun m m0 hm hd a => ?_, fun h0 => ?_⟩, (fig_turn hp hk (by rw [hl]; exact e)).trans (fig_short s.pos s.le s.dv s.ag)⟩
  · rw [turn_length] at hm hd
    exact s.self m m0 hm hd (again_turn hp m0 hd a)
  · rw [hh] at h0 ⊢
    rw [getD_take (by omega), turn_length, turn_last hp, hl]
    exact stop (by omega)
end Pm
namespace Pm
end Pm
namespace Pm
theorem getD_drop {xs : List Int} {n i : Nat} : (xs.drop n).getD i 0 = xs.getD (n + i) 0 := by
  rw [List.getD_eq_getElem?_getD, List.getD_eq_getElem?_getD, List.getElem?_drop]
theorem turn_cut {s : List Int} {k f : Nat} (hs : 0 < s.length) (hf : f = ((-(k : Int)) % (s.length : Int)).toNat) : s.drop f ++ s.take f = turn s k := by
  have f1 := Int.emod_nonneg (-(k : Int)) (show (s.length : Int) ≠ 0 by omega)
  have f2 := Int.emod_lt_of_pos (-(k : Int)) (show 0 < (s.length : Int) by omega)
  have ef : (f : Int) = (-(k : Int)) % (s.length : Int) := by omega
  have hlt : f < s.length := by omega
  refine ext_getD ?_ fun j hj => ?_
  · rw [List.length_append, List.length_drop, List.length_take, turn_length]; omega
  · rw [List.length_append, List.length_drop, List.length_take] at hj
    have hj' : j < s.length := by omega
    rw [turn_getD hj']
    have e : ((j : Int) - (k : Int)) % (s.length : Int) = ((j : Int) + (f : Int)) % (s.length : Int) := by
      rw [ef, Int.add_emod_emod, Int.sub_eq_add_neg]
    rw [e]
    by_cases h : j < s.length - f
    · rw [getD_app (by rw [List.length_drop]; exact h), getD_drop, Int.emod_eq_of_lt (by omega) (by omega)]
      congr 1; omega
    · rw [getD_app_right (by rw [List.length_drop]; omega), List.length_drop, getD_take (by omega)]
      have e2 : (j : Int) + (f : Int) = ((j + f - s.length : Nat) : Int) + (s.length : Int) := by omega
      rw [e2, Int.add_emod_right, Int.emod_eq_of_lt (by omega) (by omega)]
      congr 1; omega
theorem fig_cyc {g : Nat → Int} {M L : Nat} (hL : 0 < L) (hp : Per g L M) (d : Nat) : fig ((List.range M).map g) ((List.range L).map fun i => g (M + i)) d = g d := by
  have l1 : ((List.range M).map g).length = M := by rw [List.length_map, List.length_range]
  have l2 : ((List.range L).map fun i => g (M + i)).length = L := by rw [List.length_map, List.length_range]
  have gd : ∀ (f : Nat → Int) (n i : Nat), i < n → ((List.range n).map f).getD i 0 = f i := fun f n i hi => by
    rw [List.getD_eq_getElem?_getD, List.getElem?_map, List.getElem?_range hi]; rfl
  by_cases hd : d < M
  · rw [fig_head (by rw [l1]; exact hd), gd _ _ _ hd]
  · rw [fig_bar (by rw [l1]; omega), l1, l2, gd _ _ _ (Nat.mod_lt _ hL)]
    have e := hp.mul ((d - M) / L) (M + (d - M) % L) (by omega)
    have e2 : M + (d - M) % L + (d - M) / L * L = d := by
      have := Nat.mod_add_div (d - M) L
      rw [Nat.mul_comm] at this
      omega
    rw [e2] at e
    exact e.symm
theorem Per.of_dvd {f : Nat → Int} {p q n0 : Nat} (hp : Per f p n0) (h : p ∣ q) : Per f q n0 := fun n hn => by
  obtain ⟨k, rfl⟩ := h
  rw [Nat.mul_comm]
  exact hp.mul k n hn
end Pm
namespace Pm
theorem put_per {h b h' b' : List Int} (f : Int → Int → Int) {L : Nat} (h1 : b.length ∣ L) (h2 : b'.length ∣ L) : Per (fun d => f (fig h b d) (fig h' b' d)) L (max h.length h'.length) := fun n hn => by
  have e1 := ((per_fig h b).of_dvd h1) n (by omega)
  have e2 := ((per_fig h' b').of_dvd h2) n (by omega)
  show f (fig h b (n + L)) (fig h' b' (n + L)) = f (fig h b n) (fig h' b' n)
  rw [e1, e2]
end Pm
namespace Pm
theorem put_dvd {h b h' b' hh bb : List Int} (f : Int → Int → Int) {n : Nat} (hn : 0 < n) (h1 : b.length ∣ n) (h2 : b'.length ∣ n) (t : T hh bb) (e : ∀ d, fig hh bb d = f (fig h b d) (fig h' b' d)) : hh.length ≤ max h.length h'.length ∧ bb.length ∣ n := by
  have p := put_per (h := h) (b := b) (h' := h') (b' := b') f h1 h2
  have al : Alike hh bb ((List.range (max h.length h'.length)).map fun d => f (fig h b d) (fig h' b' d)) ((List.range n).map fun i => f (fig h b (max h.length h'.length + i)) (fig h' b' (max h.length h'.length + i))) := fun d => by
    rw [e d, fig_cyc (g := fun d => f (fig h b d) (fig h' b' d)) hn p]
  have l2 : ((List.range n).map fun i => f (fig h b (max h.length h'.length + i)) (fig h' b' (max h.length h'.length + i))).length = n := by rw [List.length_map, List.length_range]
  have a1 := t.head_le (by rw [l2]; exact hn) al
  have a2 := t.dvd (by rw [l2]; exact hn) al
  rw [l2] at a2
  rw [List.length_map, List.length_range] at a1
  exact ⟨a1, Nat.dvd_of_mod_eq_zero a2⟩
end Pm
namespace Pm
end Pm
namespace L2
open PySem PySem.Spec PyProof.Rows
theorem Same.rd {H H' : Hp} {a : Addr} {u : HO} (e : Same H H') (h : Rd H a u) : Rd H' a u := by
  rcases h with q | ⟨o, q⟩
  · exact .inl (e _ _ q)
  · exact .inr ⟨o, e _ _ q⟩
theorem Same.tup {K : PySem.W.Frag} {H H' : Hp} {a : Addr} {xs : List V} (e : Same H H') (h : SqT K H a xs) : SqT K H' a xs := by
  rcases h with q | q
  · exact .inl (e.rd q)
  · exact .inr q
theorem Same.new {H : Hp} {p : Addr} (h : H p = none) (o : HO) : Same H (upd H p o) := fun b u q => by rw [upd_ne (ne_of_none q h)]; exact q
theorem small {n : Nat} (h : n ≤ 1000) : n ≤ sizeLine := Nat.le_of_lt (small1000 h)
theorem getItem_tuple_whole {prog : Program} {w : World} {A : Around} {E : Value → Shared → Prop} {s : Shared} {t sl : Addr} {items : Array Value} {vl vu : Value} {lo hi : Option Int} {Q : Value → Shared → Prop} (ht : IsTup s.heap t items) (hs : s.heap.IsSliceOf sl vl vu .none) (pl : IsPart vl lo) (pu : IsPart vu hi)
    (hw : HT.sIx items.size 0 lo = 0 ∧ HT.sIx items.size items.size hi = items.size) (h : Q (.ref t) s) : wpAny (model prog w) A (getItem (.ref t) (.ref sl)) Q E s := by
  obtain ⟨os, hos, hcs, hds⟩ := id hs
  have hTs : s.TypeIs (.ref sl) "slice" := ⟨os, hos, hcs⟩
  unfold getItem
  try with_reducible refine wpAny_holding ?_
  first | refine wpAny_bind (wpAny_pure ?_) | skip
  refine wpAny_bind (wpAny_sequenceKey ht.typeIs (by decide) ?_)
  refine wpAny_bind (wpAny_callSpecial?_slot (name := Str.ofString "__getitem__") ht.typeIs PyProof.Rows.slot_tuple_getitem
    (wpAny_call_entry PyProof.Rows.slot_tuple_getitem ht.typeIs entry_tuple_getitem ?_ (args_tuple_getitem _ _)))
  show wpAny _ _ (Builtin.Tuple.tupleItemsOf (.ref t) >>= _) _ _ s
  refine wpAny_bind (tupleItemsOf_ ht ?_)
  refine wpAny_bind (wpAny_typeOf hTs ?_)
  rw [if_pos (by decide)]
  refine wpAny_bind (HT.sliceApplied_gen hs pl pu ?_)
  have hyes : (((HT.sIx items.size 0 lo : Nat) : Int) == 0 && (1 : Int) == 1 && (HT.sIx items.size items.size hi - HT.sIx items.size 0 lo) == items.size) = true := by
    rw [hw.1, hw.2]; simp
  show wpAny _ _ (if (((HT.sIx items.size 0 lo : Nat) : Int) == 0 && (1 : Int) == 1 && (HT.sIx items.size items.size hi - HT.sIx items.size 0 lo) == items.size) = true then _ else _) _ _ s
  rw [if_pos hyes]
  unfold Builtin.Tuple.tupleIsExact
  refine wpAny_bind (wpAny_bind (wpAny_typeOf ht.typeIs (wpAny_pure ?_)))
  rw [if_pos (by decide)]
  refine wpAny_bind (wpAny_rule ?_)
  first
    | exact wpAny_pure ⟨_, rfl, wpAny_pure h⟩
    | exact wpAny_bind (wpAny_pure (wpAny_pure ⟨_, rfl, wpAny_pure h⟩))
section
variable {X : Cx}
def rSlU (K : PySem.W.Frag) : V → Option Int → Option Int → Hp → VK → Prop := fun x lo hi H Q => ∃ a xs, x = .ref a ∧ SqT K H a xs ∧ ∀ p H', Same H H' → SqT K H' p (cutV xs lo hi) → Q (.ref p) H'
theorem cutV_whole {xs : List V} {lo hi : Option Int} (hw : HT.sIx xs.length 0 lo = 0 ∧ HT.sIx xs.length xs.length hi = xs.length) : cutV xs lo hi = xs := by
  unfold cutV; rw [hw.1, hw.2]; simp
theorem sl_tupU : SlR X (rSlU X.K) := by
  intro pins s σ H x v vl vu lo hi sl Q I rx hs pl pu h
  obtain ⟨a, xs, rfl, hx, q⟩ := h
  by_cases hw : HT.sIx xs.length 0 lo = 0 ∧ HT.sIx xs.length xs.length hi = xs.length
  · cases rx
    obtain ⟨its, r, ht, hz⟩ := I.tuple hx
    have hlen : its.toArray.size = xs.length := by rw [List.size_toArray]; exact r.length.symm
    refine ⟨"tuple", _, PyProof.Rows.slot_tuple_getitem.lookup, ht.typeIs, ?_⟩
    refine getItem_tuple_whole ht hs pl pu (by rw [hlen]; exact hw) ?_
    exact ⟨.ref a, H, I, rfl, q a H (Same.refl _) (by rw [cutV_whole hw]; exact hx)⟩
  · exact sl_tup pins s σ H (.ref a) v vl vu lo hi sl Q I rx hs pl pu ⟨a, xs, rfl, hx, hw, fun p hp => q p _ (Same.new hp _) (SqT.of upd_same)⟩
def rSlLU (K : PySem.W.Frag) : V → Option Int → Option Int → Hp → VK → Prop := fun x lo hi H Q => ∃ a xs, x = .ref a ∧ SqL K H a xs ∧ ∀ p H', Same H H' → H p = none → H' p = some (.lst (cutV xs lo hi)) → Q (.ref p) H'
theorem sl_listU : SlR X (rSlLU X.K) := by
  intro pins s σ H x v vl vu lo hi sl Q I rx hs pl pu h
  obtain ⟨a, xs, rfl, hx, q⟩ := h
  exact sl_list pins s σ H (.ref a) v vl vu lo hi sl Q I rx hs pl pu ⟨a, xs, rfl, hx, fun p hp => q p _ (Same.new hp _) hp upd_same⟩
def rCatU (K : PySem.W.Frag) : R2 := fun x y H Q => ∃ a b xs ys, x = .ref a ∧ y = .ref b ∧ SqT K H a xs ∧ SqT K H b ys ∧ xs.length + ys.length ≤ sizeLine ∧ ∀ p H', Same H H' → SqT K H' p (xs ++ ys) → Q (.ref p) H'
theorem cat_tup0 {prog : Program} {w : World} {A : Around} {E : Value → Shared → Prop} {s : Shared} {t b : Addr} {ws : List Value} {Q : Value → Shared → Prop} (ht : IsTup s.heap t #[]) (hb : IsTup s.heap b ws.toArray) (h1 : Q (.ref b) s) : wpAny (model prog w) A (binaryOp .Add (.ref t) (.ref b)) Q E s := by
  obtain ⟨⟨cls, dd, data, sl⟩, ho, hc, n, hd⟩ := id ht
  obtain ⟨⟨cls2, dd2, data2, sl2⟩, ho2, hc2, n2, hd2⟩ := id hb
  simp only at hc hd hc2 hd2
  subst hc hd hc2 hd2
  exact concat_meets ⟨_, ho, rfl⟩ ⟨_, ho2, rfl⟩ noFill_tuple_add seq_tuple_add PySem.F.slot_tuple_add PySem.F.entry_tuple_add (PySem.F.args_tuple_add_2 _ _)
    (tuple_addW0 t b #[] ws.toArray n n2 dd dd2 sl sl2 (by simp)) ⟨ho, ho2, h1⟩
theorem op_catU : OpR X (binaryOp .Add) (rCatU X.K) := by
  intro pins s σ H x y v u Q I rx ry h
  obtain ⟨a, b, xs, ys, rfl, rfl, ha, hb, hz, q⟩ := h
  by_cases hx : xs = []
  · subst hx
    cases rx
    cases ry
    obtain ⟨its, r1, p1, _⟩ := I.tuple ha
    obtain ⟨its2, r2, p2, _⟩ := I.tuple hb
    have e1 : its = [] := r1.nil_iff.mpr rfl
    subst e1
    exact cat_tup0 p1 p2 ⟨.ref b, H, I, rfl, q b H (Same.refl _) hb⟩
  · refine op_catT pins s σ H (.ref a) (.ref b) v u Q I rx ry ⟨a, b, xs, ys, rfl, rfl, ha, hb, hx, hz, fun z => ?_, fun z p hp => q p _ (Same.new hp _) (SqT.of upd_same)⟩
    subst z
    exact q a H (Same.refl _) (by rw [List.append_nil]; exact ha)
def rCatL (K : PySem.W.Frag) : R2 := fun x y H Q => ∃ l b xs zs, x = .ref l ∧ y = .ref b ∧ H l = some (.lst xs) ∧ H b = some (.lst zs) ∧ xs.length + zs.length ≤ sizeLine ∧ ∀ p H', Same H H' → H p = none → H' p = some (.lst (xs ++ zs)) → Q (.ref p) H'
theorem op_catL : OpR X (binaryOp .Add) (rCatL X.K) := by
  intro pins s σ H x y v u Q I rx ry h
  obtain ⟨l, b, xs, zs, rfl, rfl, hl, hb, hz, q⟩ := h
  exact op_cat pins s σ H (.ref l) (.ref b) v u Q I rx ry ⟨l, b, xs, zs, rfl, rfl, hl, hb, hz, fun p hp => q p _ (Same.new hp _) hp upd_same⟩
def rRepL (K : PySem.W.Frag) : R2 := fun x y H Q => ∃ l k xs, x = .ref l ∧ y = .int k ∧ H l = some (.lst xs) ∧ 0 ≤ k ∧ k < 2 ^ 63 ∧ xs.length * k.toNat ≤ sizeLine ∧ ∀ p H', Same H H' → H p = none → H' p = some (.lst (List.replicate k.toNat xs).flatten) → Q (.ref p) H'
theorem op_repL : OpR X (binaryOp .Mult) (rRepL X.K) := by
  intro pins s σ H x y v u Q I rx ry h
  obtain ⟨l, k, xs, rfl, rfl, hl, h0, h1, hz, q⟩ := h
  exact op_rep pins s σ H (.ref l) (.int k) v u Q I rx ry ⟨l, k, xs, rfl, rfl, hl, by omega, h1, hz, fun p hp => q p _ (Same.new hp _) hp upd_same⟩
end
end L2
namespace L2
open PySem PySem.Spec PyProof.Rows
mutual
inductive Rep (K : PySem.W.Frag) (H : Hp) : Nat → V → PyData → Prop where
  | non {n : Nat} : Rep K H n .non .none
  | bl {n : Nat} (b : Bool) : Rep K H n (.bl b) (.bool b)
  | int {n : Nat} (i : Int) : Rep K H n (.int i) (.int i)
  | str {n : Nat} (x : Str) (hx : PyData.strOk x = true) : Rep K H n (.str x) (.str x)
  | tup {n : Nat} {a : Addr} {xs : List V} {ds : List PyData} : SqT K H a xs → RepAll K H n xs ds → Rep K H (n + 1) (.ref a) (.tuple ds)
  | lst {n : Nat} {a : Addr} {xs : List V} {ds : List PyData} : SqL K H a xs → RepAll K H n xs ds → Rep K H (n + 1) (.ref a) (.list ds)
inductive RepAll (K : PySem.W.Frag) (H : Hp) : Nat → List V → List PyData → Prop where
  | nil {n : Nat} : RepAll K H n [] []
  | cons {n : Nat} {x : V} {xs : List V} {d : PyData} {ds : List PyData} : Rep K H n x d → RepAll K H n xs ds → RepAll K H n (x :: xs) (d :: ds)
end
section
variable {X : Cx} {pins : List (Addr × Obj)} {σ : St} {H : Hp} {s : Shared}
mutual
theorem Rep.reads (I : Inv X pins σ H s) : ∀ {n : Nat} {x : V} {d : PyData} {u : Value}, Rep X.K H n x d → RelV x u → (∃ as, Reads s.heap u d as) ∧ d.canLay0 = true ∧ d.depth ≤ n
  | _, _, _, _, .non, r => by
    cases r
    exact ⟨⟨_, .none⟩, rfl, by simp [PyData.depth]⟩
  | _, _, _, _, .bl b, r => by
    cases r
    exact ⟨⟨_, .bool b⟩, rfl, by simp [PyData.depth]⟩
  | _, _, _, _, .int i, r => by
    obtain ⟨t, rfl⟩ := r
    exact ⟨⟨_, .int i t⟩, rfl, by simp [PyData.depth]⟩
  | _, _, _, _, .str x hx, r => by
    obtain ⟨t, rfl⟩ := r
    exact ⟨⟨_, .str x t⟩, by simp [PyData.canLay0, hx], by simp [PyData.depth]⟩
  | _, _, _, _, .tup (xs := xs) (ds := ds) hs ha, r => by
    cases r
    obtain ⟨its, rv, ⟨o, ho, hc, m, hd⟩, _⟩ := I.tuple hs
    obtain ⟨⟨as, h1⟩, h2, h3⟩ := RepAll.reads I ha rv
    exact ⟨⟨as, .tuple ho hc hd (by simpa using h1)⟩, by simp [PyData.canLay0, h2], by simp [PyData.depth]; exact h3⟩
  | _, _, _, _, .lst (xs := xs) (ds := ds) hs ha, r => by
    cases r
    obtain ⟨its, rv, pl, _⟩ := I.list hs
    obtain ⟨o, ho, hc, m, hd⟩ := pl.isList
    obtain ⟨⟨as, h1⟩, h2, h3⟩ := RepAll.reads I ha rv
    exact ⟨⟨_, .list ho hc hd (by simpa using h1)⟩, by simp [PyData.canLay0, h2], by simp [PyData.depth]; exact h3⟩
theorem RepAll.reads (I : Inv X pins σ H s) : ∀ {n : Nat} {xs : List V} {ds : List PyData} {us : List Value}, RepAll X.K H n xs ds → Vals xs us → (∃ as, ReadsAll s.heap us ds as) ∧ PyData.canLayAll0 ds = true ∧ PyData.depthAll ds ≤ n
  | _, _, _, _, .nil, .nil => ⟨⟨_, .nil⟩, rfl, by simp [PyData.depthAll]⟩
  | _, _, _, _, .cons h t, .cons r rs => by
    obtain ⟨⟨as, h1⟩, h2, h3⟩ := Rep.reads I h r
    obtain ⟨⟨bs, k1⟩, k2, k3⟩ := RepAll.reads I t rs
    exact ⟨⟨_, .cons h1 k1⟩, by simp [PyData.canLayAll0, h2, k2], by simp only [PyData.depthAll]; omega⟩
end
def rEqD (K : PySem.W.Frag) : R2 := fun x y H Q => ∃ dx dy, Rep K H 9 x dx ∧ Rep K H 9 y dy ∧ Q (.bl (PyData.eqv dx dy)) H
def rNeD (K : PySem.W.Frag) : R2 := fun x y H Q => ∃ dx dy, Rep K H 9 x dx ∧ Rep K H 9 y dy ∧ Q (.bl (!PyData.eqv dx dy)) H
theorem op_eqD (hu : X.A.units + 64 < cLine) : OpR X (compareOp .Eq) (rEqD X.K) := by
  intro pins s σ H x y v u Q I rx ry h
  obtain ⟨dx, dy, h1, h2, q⟩ := h
  obtain ⟨⟨as, r1⟩, l1, d1⟩ := Rep.reads I h1 rx
  obtain ⟨⟨bs, r2⟩, l2, d2⟩ := Rep.reads I h2 ry
  exact SeqAt.compareEq_reads r1 r2 l1 l2 (by omega) ⟨.bl _, H, I, rfl, q⟩
theorem op_neD (hu : X.A.units + 64 < cLine) : OpR X (compareOp .NotEq) (rNeD X.K) := by
  intro pins s σ H x y v u Q I rx ry h
  obtain ⟨dx, dy, h1, h2, q⟩ := h
  obtain ⟨⟨as, r1⟩, l1, d1⟩ := Rep.reads I h1 rx
  obtain ⟨⟨bs, r2⟩, l2, d2⟩ := Rep.reads I h2 ry
  exact SeqAt.compareNe_reads r1 r2 l1 l2 (by omega) ⟨.bl _, H, I, rfl, q⟩
end
abbrev dInts (xs : List Int) : List PyData := xs.map PyData.int
abbrev dT (xs : List Int) : PyData := .tuple (dInts xs)
abbrev dP (h b : List Int) : PyData := .tuple [dT h, dT b]
theorem eqvAll_ints : ∀ xs ys : List Int, PyData.eqvAll (dInts xs) (dInts ys) = decide (xs = ys)
  | [], [] => by simp [PyData.eqvAll]
  | [], y :: ys => by simp [PyData.eqvAll]
  | x :: xs, [] => by simp [PyData.eqvAll]
  | x :: xs, y :: ys => by
    have ih := eqvAll_ints xs ys
    simp only [dInts, List.map_cons, PyData.eqvAll, PyData.eqv] at ih ⊢
    rw [ih]
    by_cases h1 : x = y <;> by_cases h2 : xs = ys <;> simp [h1, h2]
theorem eqv_dT (xs ys : List Int) : PyData.eqv (dT xs) (dT ys) = decide (xs = ys) := by
  simp only [PyData.eqv]; exact eqvAll_ints xs ys
theorem eqv_dP (h b h' b' : List Int) : PyData.eqv (dP h b) (dP h' b') = decide (h = h' ∧ b = b') := by
  have e1 := eqvAll_ints h h'
  have e2 := eqvAll_ints b b'
  simp only [dP, dT, PyData.eqv, PyData.eqvAll, e1, e2]
  by_cases h1 : h = h' <;> by_cases h2 : b = b' <;> simp [h1, h2]
section
variable {K : PySem.W.Frag} {H : Hp}
theorem RepAll.ints {n : Nat} : ∀ xs : List Int, RepAll K H n (xs.map V.int) (dInts xs)
  | [] => .nil
  | x :: xs => .cons (.int x) (RepAll.ints xs)
theorem Rep.intsT {n : Nat} {a : Addr} {xs : List Int} (h : SqT K H a (xs.map V.int)) : Rep K H (n + 1) (.ref a) (dT xs) := .tup h (RepAll.ints xs)
theorem Rep.intsL {n : Nat} {a : Addr} {xs : List Int} (h : SqL K H a (xs.map V.int)) : Rep K H (n + 1) (.ref a) (.list (dInts xs)) := .lst h (RepAll.ints xs)
end
def Pl (K : PySem.W.Frag) (H : Hp) (p : Addr) (h b : List Int) : Prop := ∃ a c, SqT K H p [.ref a, .ref c] ∧ SqT K H a (h.map V.int) ∧ SqT K H c (b.map V.int)
theorem Pl.same {K : PySem.W.Frag} {H H' : Hp} {p : Addr} {h b : List Int} (e : Same H H') : Pl K H p h b → Pl K H' p h b := fun ⟨a, c, h1, h2, h3⟩ => ⟨a, c, e.tup h1, e.tup h2, e.tup h3⟩
theorem Pl.rep {K : PySem.W.Frag} {H : Hp} {n : Nat} {p : Addr} {h b : List Int} : Pl K H p h b → Rep K H (n + 2) (.ref p) (dP h b) := fun ⟨_, _, h1, h2, h3⟩ => .tup h1 (.cons (.intsT h2) (.cons (.intsT h3) .nil))
end L2
namespace L2
open PySem PySem.Spec PyProof.Rows
theorem noFill_tuple_mul : fillsNumberSlot (.type "tuple") "mul" = pure false :=
  PySem.fillsNumberSlot_seq (id := "tuple.__mul__") (r := some (.builtin "tuple.__rmul__")) F.slot_tuple_mul.lookup (by decide +kernel) F.slot_tuple_rmul.lookup (by decide +kernel)
theorem repeat_tuple : seqRepeat? (.type "tuple") = pure (some (.builtin "tuple.__mul__")) := by
  unfold seqRepeat?
  rw [PySem.seqSlot_of (T := "tuple") (name := "__mul__") (id := "tuple.__mul__") F.slot_tuple_mul.lookup (by decide +kernel), PySem.seqSlot_of (T := "tuple") (name := "__rmul__") (id := "tuple.__rmul__") F.slot_tuple_rmul.lookup (by decide +kernel)]
  rfl
theorem int_rmul_tuple (a : Int) (t : Tok) (l : Addr) (items : Array Value) (n : Nat) (dd : Option Addr) (sl : Array (Option Value)) :
    Meets (Builtin.«int.__rmul__» ⟨[.int a t, .ref l], []⟩) (fun _ R s => s.heap.get? l = some { cls := .type "tuple", dict := dd, data := .seq items n, slots := sl } ∧ R (.ok (.ret Value.notImplemented)) s) :=
  .of_wp fun prog w A R s h => by obtain ⟨hp, g, d, tk, os⟩ := s; obtain ⟨hl, h⟩ := h; wp_walk; exact ⟨_, rfl, h⟩
theorem tuple_mulW (l : Addr) (items : Array Value) (n : Nat) (dd : Option Addr) (sl : Array (Option Value)) (x : Int) (u : Tok) (h0 : 0 ≤ x) (h1 : x < 2 ^ 63) (hz : items.size * x.toNat ≤ sizeLine) :
    Meets (Builtin.«tuple.__mul__» ⟨[.ref l, .int x u], []⟩) (fun _ R s => s.heap.get? l = some { cls := .type "tuple", dict := dd, data := .seq items n, slots := sl } ∧
      (if (items.isEmpty || x == 1) = true then R (.ok (.ret (.ref l))) s
       else R (.ok (.ret (Value.ref s.heap.objs.size))) { s with heap := s.heap.push { cls := Value.type "tuple", data := Data.seq (List.foldl (fun x1 x2 => x1 ++ x2) #[] (List.replicate x.toNat items)) }, toks := s.toks })) :=
  .of_wp fun prog w A R s h => by
    obtain ⟨hp, g, d, tk, os⟩ := s; obtain ⟨hl, h⟩ := h
    have ht : IsTup hp l items := ⟨_, hl, rfl, _, rfl⟩
    wp_walk
    refine wpAny_ite_false (decide_eq_false (show ¬ (decide (x < -2 ^ 63) || decide (x ≥ 2 ^ 63)) = true by rw [decide_eq_false (by omega), decide_eq_false (by omega)]; decide)) ?_
    show wpAny _ _ (Builtin.Tuple.tupleItemsOf (.ref l) >>= _) _ _ _
    refine wpAny_bind (tupleItemsOf_ ht ?_)
    have exact_ : ∀ {xs : Array Value} {P : PySem.Fin → Shared → Prop} {E : Value → Shared → Prop}, xs.size ≤ sizeLine → P (.done (.ret (.ref hp.objs.size))) ⟨hp.push { cls := .type "tuple", data := .seq xs }, g, d, tk, os⟩ →
        wpAny (model prog w) A.in1 (Builtin.Tuple.tupleExact xs >>= fun v => ret v) P E ⟨hp, g, d, tk, os⟩ := fun {xs P E} hs q => by
      refine wpAny_bind (m := Builtin.Tuple.tupleExact _) (wpAny_newObj_type (wpAny_pure ?_) hs)
      exact q
    by_cases he : (items.isEmpty || x == 1) = true
    · rw [if_pos he] at h
      show wpAny _ _ (if (items.isEmpty || x == 1) = true then _ else _) _ _ _
      rw [if_pos he]
      unfold Builtin.Tuple.tupleIsExact
      refine wpAny_bind (wpAny_bind (wpAny_typeOf ht.typeIs (wpAny_pure ?_)))
      rw [if_pos (by decide)]
      refine wpAny_bind (wpAny_rule (wpAny_pure ?_))
      exact ⟨_, rfl, h⟩
    · rw [if_neg he] at h
      show wpAny _ _ (if (items.isEmpty || x == 1) = true then _ else _) _ _ _
      rw [if_neg he]
      have hne : items.isEmpty = false := by
        cases hx : items.isEmpty with
        | false => rfl
        | true => rw [hx] at he; exact absurd rfl he
      by_cases hx0 : x ≤ 0
      · have hx : x = 0 := by omega
        subst hx
        show wpAny _ _ (if (decide ((0 : Int) ≤ 0) || items.isEmpty) = true then _ else _) _ _ _
        rw [if_pos (by rw [hne]; decide)]
        exact exact_ (by decide) ⟨_, rfl, h⟩
      · show wpAny _ _ (if (decide (x ≤ 0) || items.isEmpty) = true then _ else _) _ _ _
        rw [if_neg (by rw [hne, decide_eq_false hx0]; decide)]
        have hx : x = ((x.toNat : Nat) : Int) := by omega
        have hz2 : (items.size : Int) * x ≤ (sizeLine : Int) := by rw [hx]; exact_mod_cast hz
        have big : (sizeLine : Int) ≤ (2 ^ 63 - 1) / 8 := by decide
        show wpAny _ _ (if (items.size : Int) * x > (2 ^ 63 - 1) / 8 then _ else _) _ _ _
        rw [if_neg (by omega)]
        show wpAny _ _ (if Builtin.Tuple.tupleTooMany ((items.size : Int) * x) = true then _ else _) _ _ _
        rw [if_neg (by unfold Builtin.Tuple.tupleTooMany; intro q; have := of_decide_eq_true q; omega)]
        refine exact_ ?_ ⟨_, rfl, h⟩
        have f0 : List.foldl (fun x1 x2 => x1 ++ x2) #[] (List.replicate x.toNat items) = (List.replicate x.toNat items.toList).flatten.toArray := by
          have := foldl_rep items.toList x.toNat []
          rw [List.nil_append] at this
          simpa using this
        rw [f0, List.size_toArray, len_rep, Array.length_toList, Nat.mul_comm]
        exact hz
section
variable {X : Cx}
def rRepT (K : PySem.W.Frag) : R2 := fun x y H Q => ∃ l k xs, x = .ref l ∧ y = .int k ∧ SqT K H l xs ∧ 0 ≤ k ∧ k < 2 ^ 63 ∧ xs.length * k.toNat ≤ sizeLine ∧ ∀ p H', Same H H' → SqT K H' p (List.replicate k.toNat xs).flatten → Q (.ref p) H'
theorem op_repT : OpR X (binaryOp .Mult) (rRepT X.K) := by
  intro pins s σ H x y v u Q I rx ry h
  obtain ⟨l, k, xs, rfl, rfl, hH, h0, h1, hz, q⟩ := h
  cases rx
  obtain ⟨t, rfl⟩ := ry
  obtain ⟨its, r, ⟨⟨cls, dd, data, sl⟩, e, hc, n, hd⟩, hl⟩ := I.tuple hH
  simp only at hc hd
  subst hc hd
  have hlen : its.toArray.size * k.toNat ≤ sizeLine := by rw [List.size_toArray, ← r.length]; exact hz
  refine wpAny_binaryOp_repeat_ref (T := "tuple") (U := "int") (by decide) ⟨_, e, rfl⟩ (fun s' => typeIs_int s' k t) noFill_tuple_mul F.fills_int_mul F.slot_int_rmul repeat_tuple F.slot_int_index.lookup
    (call_meets F.slot_int_rmul (typeIs_int s k t) F.entry_int_rmul (F.args_int_rmul_2 _ _) (int_rmul_tuple k t l its.toArray n dd sl)
      ⟨e, rfl, ⟨_, e, rfl⟩, call_meets F.slot_tuple_mul ⟨_, e, rfl⟩ F.entry_tuple_mul (F.args_tuple_mul_2 _ _) (tuple_mulW l its.toArray n dd sl k t h0 h1 hlen) ⟨e, ?_⟩⟩)
  by_cases he : (its.toArray.isEmpty || k == 1) = true
  · rw [if_pos he]
    refine ⟨.ref l, H, I, rfl, q l H (Same.refl _) ?_⟩
    have ex : (List.replicate k.toNat xs).flatten = xs := by
      rw [Bool.or_eq_true] at he
      rcases he with z | z
      · have e0 : its = [] := by simpa using z
        have e1 : xs = [] := r.nil_iff.mp e0
        rw [e1]
        have : ∀ m : Nat, (List.replicate m ([] : List V)).flatten = [] := fun m => by
          induction m with
          | zero => rfl
          | succ m ih => rw [List.replicate_succ, List.flatten_cons, ih]; rfl
        exact this _
      · have ek : k = 1 := eq_of_beq z
        rw [ek]
        show (List.replicate 1 xs).flatten = xs
        simp
    rw [ex]; exact hH
  · rw [if_neg he]
    have hnew : List.foldl (fun x1 x2 => x1 ++ x2) #[] (List.replicate k.toNat its.toArray) = (List.replicate k.toNat its).flatten.toArray := by
      have := foldl_rep its k.toNat []
      rw [List.nil_append] at this
      exact this
    rw [hnew]
    refine ⟨.ref s.heap.objs.size, _, I.laid (t' := s.toks) (o := .tup (List.replicate k.toNat xs).flatten) (fun b ob q => Heap.get?_push_of_some _ q) (Nat.le_refl _) ?_, rfl, q _ _ (Same.new (I.hok.fresh (Nat.le_refl _)) _) (SqT.of upd_same)⟩
    exact ⟨by rw [len_rep, Nat.mul_comm]; exact hz, _, r.rep k.toNat, IsTup.new _ _⟩
end
end L2
namespace L2
open PySem PySem.Spec PyProof.Rows
section
variable {prog : Program} {w : World} {A : Around} {R : Result → Shared → Prop} {s : Shared}
theorem compLoop_any {elt target iter : Expr} {ifs : List Expr} {scope : Scope} {pos : Pos} {it acc : Value} {env : Env} (I : Nat → Shared → Prop)
    (turn : ∀ n s, I n s → wpAny (model prog w) A (pyNext it) (fun r s1 => match r with
      | none => R (.ok .next) s1
      | some v => wpAny (model prog w) A (letOwnedTupleGo target it v) (fun _ s1' => wpAny (model prog w) A (assign target env v) (fun _ s2 =>
          wpAny (model prog w) A (forIn ifs true fun c r => if r = true then do let ok ← isTrue c env (eval c env); pure (ForInStep.yield ok) else pure (ForInStep.yield r)) (fun ok s3 =>
            if ok = true then wpAny (model prog w) A (eval elt env) (fun x s4 =>
              wpAny (model prog w) A (call (.builtin "list.append") [acc, x]) (fun _ s5 => ∃ m, m < n ∧ I m s5) (fun _ _ => False) s4) (fun _ _ => False) s3
            else ∃ m, m < n ∧ I m s3) (fun _ _ => False) s2) (fun _ _ => False) s1') (fun _ _ => False) s1) (fun _ _ => False) s)
    (n : Nat) (h : I n s) :
    codeAny (model prog w) A (.compLoop (.ListComp elt [⟨target, iter, ifs, 0⟩] scope pos) 0 it acc env) R s := by
  refine codeAny_loop rfl I (fun n s hI => ?_) n h
  show wpAny _ A ((compTurn (.ListComp elt [⟨target, iter, ifs, 0⟩] scope pos) 0 it acc env).onRaise (fun x => do noteFrame x env; theTreesLotGoes x)) _ _ s
  refine wpAny_noted ?_
  rw [compTurn_list]
  refine wpAny_bind (wpAny_standAt (wpAny_bind (wpAny_mono (turn n s hI) (fun r s1 h1 => ?_) fun _ _ h' => h'.elim)))
  cases r with
  | none => exact wpAny_pure h1
  | some v =>
    refine wpAny_bind (wpAny_mono h1 (fun _ s1' h1' => ?_) fun _ _ h' => h'.elim)
    refine wpAny_bind (wpAny_mono h1' (fun _ s2 h2 => wpAny_bind (wpAny_mono h2 (fun ok s3 h3 => ?_) fun _ _ h' => h'.elim)) fun _ _ h' => h'.elim)
    cases ok with
    | false => exact wpAny_pure ⟨rfl, h3⟩
    | true =>
      exact wpAny_bind (wpAny_bind (wpAny_mono h3 (fun x s4 h4 => wpAny_bind (wpAny_mono h4 (fun _ s5 h5 => wpAny_pure (wpAny_pure ⟨rfl, h5⟩)) fun _ _ h' => h'.elim)) fun _ _ h' => h'.elim))
end
def clOf (env : Env) : List (Str × NameKind) → List (Str × Addr) → List (Str × Addr)
  | [], acc => acc
  | (n, k) :: r, acc => clOf env r (if (k == .free) = true then (match env.cells.lookup n with | some c => (n, c) :: acc | none => acc) else acc)
theorem closureFor_clOf {scope : Scope} {env : Env} (h : ∀ p ∈ scope.names, p.2 = .free → ∃ c, env.cells.lookup p.1 = some c) : closureFor scope env = pure (clOf env scope.names []) := by
  have key : ∀ (l : List (Str × NameKind)) (acc : List (Str × Addr)), (∀ p ∈ l, p.2 = .free → ∃ c, env.cells.lookup p.1 = some c) →
      (forIn l acc fun (p : Str × NameKind) (cs : List (Str × Addr)) => (if (p.2 == .free) = true then do let a ← cellOf env p.1; pure (ForInStep.yield ((p.1, a) :: cs)) else pure (ForInStep.yield cs) : Sem (ForInStep (List (Str × Addr))))) = pure (clOf env l acc) := by
    intro l
    induction l with
    | nil => intro acc _; rfl
    | cons p r ih =>
      intro acc hl
      obtain ⟨n, k⟩ := p
      rw [List.forIn_cons]
      by_cases hk : (k == NameKind.free) = true
      · have hk' : k = .free := eq_of_beq hk
        obtain ⟨c, hc⟩ := hl (n, k) List.mem_cons_self hk'
        simp only [hk, if_true, cellOf, hc, pure_bind, clOf]
        exact ih _ fun p hp => hl p (List.mem_cons_of_mem _ hp)
      · simp only [hk, pure_bind, clOf]
        simp only [Bool.false_eq_true, if_false, pure_bind]
        exact ih _ fun p hp => hl p (List.mem_cons_of_mem _ hp)
  have e := key scope.names [] h
  unfold closureFor
  first
    | exact e
    | (simp only [bind_pure]; exact e)
    | (rw [show (forIn scope.names [] _ : Sem (List (Str × Addr))) = _ from e]; rfl)
theorem clOf_sub {env : Env} : ∀ (l : List (Str × NameKind)) (acc : List (Str × Addr)), (∀ p ∈ acc, env.cells.lookup p.1 = some p.2) → ∀ p ∈ clOf env l acc, env.cells.lookup p.1 = some p.2
  | [], acc, h => h
  | (n, k) :: r, acc, h => by
    unfold clOf
    refine clOf_sub r _ ?_
    by_cases hk : (k == NameKind.free) = true
    · rw [if_pos hk]
      cases hc : env.cells.lookup n with
      | none => exact h
      | some c => exact fun p hp => (List.mem_cons.mp hp).elim (fun e => by rw [e]; exact hc) (h p)
    · rw [if_neg hk]; exact h
theorem clOf_mono {env : Env} : ∀ (l : List (Str × NameKind)) (acc : List (Str × Addr)) p, p ∈ acc → p ∈ clOf env l acc
  | [], acc, p, h => h
  | (n, k) :: r, acc, p, h => by
    unfold clOf
    refine clOf_mono r _ p ?_
    by_cases hk : (k == NameKind.free) = true
    · rw [if_pos hk]
      cases hc : env.cells.lookup n with
      | none => exact h
      | some c => exact List.mem_cons_of_mem _ h
    · rw [if_neg hk]; exact h
theorem clOf_has {env : Env} {n : Str} {c : Addr} (hc : env.cells.lookup n = some c) : ∀ (l : List (Str × NameKind)) (acc : List (Str × Addr)), (n, NameKind.free) ∈ l → (n, c) ∈ clOf env l acc
  | [], acc, h => by cases h
  | (m, k) :: r, acc, h => by
    unfold clOf
    rcases List.mem_cons.mp h with e | h
    · cases e
      refine clOf_mono r _ _ ?_
      rw [if_pos (show (NameKind.free == NameKind.free) = true by decide), hc]
      exact List.mem_cons_self
    · exact clOf_has hc r _ h
theorem lookup_of_mem_fun {l : List (Str × Addr)} {f : Str → Option Addr} (hs : ∀ p ∈ l, f p.1 = some p.2) {n : Str} {c : Addr} (hm : (n, c) ∈ l) : l.lookup n = some c := by
  induction l with
  | nil => cases hm
  | cons p r ih =>
    obtain ⟨m, d⟩ := p
    rw [List.lookup_cons]
    by_cases e : (n == m) = true
    · rw [e]
      have e' : n = m := eq_of_beq e
      have h1 := hs (m, d) List.mem_cons_self
      have h2 := hs (n, c) hm
      subst e'
      rw [h1] at h2
      exact h2
    · rw [Bool.not_eq_true] at e
      rw [e]
      rcases List.mem_cons.mp hm with q | q
      · cases q; rw [beq_self_eq_true] at e; cases e
      · exact ih (fun p hp => hs p (List.mem_cons_of_mem _ hp)) q
def compCx (X : Cx) (scope : Scope) (N : List Str) (C : Addr) (s : Shared) (H : Hp) (fp : List Addr) : Cx where
  prog := X.prog
  w := X.w
  K := X.K
  mg := X.mg
  base := X.base
  A := X.A
  N := N
  s₀ := s
  H₀ := H
  env := compEnvC scope (clOf X.env scope.names []) C X.env
  outer := X.stack
  stack := X.stack
  ex := fp
  fn := fun _ => false
  calm := X.calm
  pn := []
  xe := fun _ _ => False
structure CompOk (sc scope : Scope) (XN : List Str) (x : Str) (ys : List Str) (js : List Nat) : Prop where
  kind : scope.kind = .function
  cell : ∀ p ∈ scope.names, p.2 ≠ .cell
  loc : ∀ p ∈ scope.names, p.2 = .local → scope.names.lookup p.1 = some .local
  free : ∀ p ∈ scope.names, p.2 = .free → sc.names.lookup p.1 = some .cell ∧ scope.names.lookup p.1 = some .free
  here : scope.names.lookup x = some .local
  nd : (x :: ys).Nodup
  len : js.length = ys.length
  cap : ∀ k : Nat, k < ys.length → XN[js.getD k 0]? = some (ys.getD k Str.empty) ∧ (ys.getD k Str.empty, NameKind.free) ∈ scope.names
theorem lookup_relabel {env : Env} : ∀ (names : List (Str × NameKind)) (x : Str), (names.map fun (n, k) => if (k == NameKind.free && env.scope.kind == .function && env.kindOf n == some .cell) then (n, NameKind.cell) else (n, k)).lookup x =
    (names.lookup x).map fun k => if (k == NameKind.free && env.scope.kind == .function && env.kindOf x == some .cell) then NameKind.cell else k
  | [], x => rfl
  | (n, k) :: r, x => by
    have ih := @lookup_relabel env r x
    show List.lookup x ((if (k == NameKind.free && env.scope.kind == .function && env.kindOf n == some .cell) = true then (n, NameKind.cell) else (n, k)) :: _) = _
    cases hx : x == n with
    | true =>
      have e : x = n := eq_of_beq hx
      subst e
      by_cases hc : (k == NameKind.free && env.scope.kind == .function && env.kindOf x == some .cell) = true
      · rw [if_pos hc]; simp only [List.lookup_cons, hx, Option.map_some]; rw [if_pos hc]
      · rw [if_neg hc]; simp only [List.lookup_cons, hx, Option.map_some]; rw [if_neg hc]
    | false =>
      by_cases hc : (k == NameKind.free && env.scope.kind == .function && env.kindOf n == some .cell) = true
      · rw [if_pos hc]; simp only [List.lookup_cons, hx]; exact ih
      · rw [if_neg hc]; simp only [List.lookup_cons, hx]; exact ih
def compSt (σ : St) (js : List Nat) (o : Option V) : St := o :: js.map fun j => (σ[j]?).join
def CompB (J : It) (H1 : Hp) (js : List Nat) (tt : TT) (te : TE) (σ : St) (Q : VK) : Prop := ∃ (n : Nat) (out : Nat → Option V), n ≤ sizeLine ∧
  (∀ i H', i < n → Same H1 H' → J.go i H' ∧ ∀ x H'', J.yld i H' x H'' → Same H' H'' ∧ tt (compSt σ js (some x)) H'' fun ok H2 => if ok = true then te (compSt σ js (some x)) H2 fun y H3 => Same H'' H3 ∧ out i = some y else Same H'' H2 ∧ out i = none) ∧
  (∀ H', Same H1 H' → J.stop n H') ∧ ∀ p H', Same H1 H' → H1 p = none → H' p = some (.lst ((List.range n).filterMap out)) → Q (.ref p) H'
def tComp (wi : TI) (js : List Nat) (tt : TT) (te : TE) : TE := fun σ H Q => wi σ H fun J H1 => CompB J H1 js tt te σ Q
def PTs (X : Cx) (ifs : List Expr) (t : TT) : Prop :=
  ∀ (pins : List (Addr × Obj)) (s : Shared) (σ : St) (H : Hp) (Q : Bool → Hp → Prop), Inv X pins σ H s → t σ H Q →
    wpAny (model X.prog X.w) X.A (forIn ifs true fun c r => if r = true then do let ok ← isTrue c X.env (eval c X.env); pure (ForInStep.yield ok) else pure (ForInStep.yield r)) (TP X pins σ Q) X.xe s
def tYes : TT := fun _ H Q => Q true H
theorem pts_nil {X : Cx} : PTs X [] tYes := fun pins s σ H Q I h => wpAny_tests_nil ⟨H, I, h⟩
theorem pts_one {X : Cx} {c : Expr} {t : TT} (h : PT X c t) : PTs X [c] t := fun pins s σ H Q I q => wpAny_tests_one (h pins s σ H Q I q)
theorem filterMap_range_succ (out : Nat → Option V) (i : Nat) : (List.range (i + 1)).filterMap out = (List.range i).filterMap out ++ (out i).toList := by
  rw [List.range_succ, List.filterMap_append]
  cases h : out i <;> simp [h]
section
variable {X : Cx} {pins : List (Addr × Obj)} {σ : St} {H : Hp} {s : Shared}
theorem comp_enter {scope : Scope} {x : Str} {ys : List Str} {js : List Nat} {fp : List Addr} {h4 : Heap} {m : Str → Option Value} (ok : CompOk X.env.scope scope X.N x ys js) (I : Inv X pins σ H s) (hf : ∀ b ∈ fp, FpOk X pins H b) (ho : ∀ b ∈ fp, ∃ o, s.heap.get? b = some o)
    (k : ∀ b o, s.heap.get? b = some o → h4.get? b = some o) (hn : h4.Ns s.heap.objs.size m) : Inv (compCx X scope (x :: ys) s.heap.objs.size s H fp) [] (compSt σ js none) H { s with heap := h4 } := by
  have sub := clOf_sub (env := X.env) scope.names [] (fun p hp => by cases hp)
  have lk : ∀ y c, (clOf X.env scope.names []).lookup y = some c → X.env.cells.lookup y = some c := fun y c e => sub (y, c) (PySem.mem_of_lookup e)
  have rl : ∀ y, (relabel scope X.env).names.lookup y = (scope.names.lookup y).map fun k => if (k == NameKind.free && X.env.scope.kind == .function && X.env.kindOf y == some .cell) then NameKind.cell else k := fun y => lookup_relabel scope.names y
  have capd : ∀ y, (y, NameKind.free) ∈ scope.names → ∃ c, X.env.cells.lookup y = some c ∧ (clOf X.env scope.names []).lookup y = some c := fun y hy => by
    obtain ⟨c, hc⟩ := I.ok.has y (.inl (ok.free _ hy rfl).1)
    exact ⟨c, hc, lookup_of_mem_fun (f := fun n => X.env.cells.lookup n) sub (clOf_has hc _ _ hy)⟩
  have Y : (compCx X scope (x :: ys) s.heap.objs.size s H fp).Ok := by
    refine ⟨I.ok.mod, ok.kind, I.ok.glob, I.ok.blt, Nat.le_refl _, fun a b c e1 e2 => I.ok.inj a b c (lk a c e1) (lk b c e2), fun y hy => ?_, fun _ _ z => (by cases z), I.ok.hd, I.ok.frames, .inl rfl, fun b hb => ⟨?_, fun y c e => (hf b hb).2.2.2.2.1 y c (lk y c e)⟩, I.bs, Nat.le_trans I.ok.bsz I.sz, fun b o e hb => ?_, fun b hb z => ?_, I.stack, I.stkFree⟩
    · have hy : (relabel scope X.env).names.lookup y = some .cell ∨ (relabel scope X.env).names.lookup y = some .free := hy
      rw [rl y] at hy
      cases e : scope.names.lookup y with
      | none => rw [e] at hy; rcases hy with z | z <;> cases z
      | some kd =>
        have hm := PySem.mem_of_lookup e
        by_cases hk : kd = .free
        · subst hk
          obtain ⟨c, _, h2⟩ := capd y hm
          exact ⟨c, h2⟩
        · exfalso
          rw [e] at hy
          have hk2 : (kd == NameKind.free) = false := by
            cases hb : kd == NameKind.free with
            | false => rfl
            | true => exact absurd (eq_of_beq hb) hk
          simp only [Option.map_some, hk2, Bool.false_and, Bool.false_eq_true, if_false, Option.some.injEq] at hy
          rcases hy with z | z
          · exact ok.cell _ hm z
          · exact hk z
    · obtain ⟨o, e⟩ := ho b hb
      exact Nat.ne_of_lt (Heap.lt_size e)
    · rcases (hf b hb).2.2.2.1 with z | z
      · exact I.ok.noex b o e z
      · exact absurd (Nat.lt_of_lt_of_le (Heap.lt_size e) (Nat.le_trans I.ok.bsz z)) (Nat.lt_irrefl _)
    · exact (List.mem_cons.mp (I.stkSub b z)).elim (hf b hb).2.1 (hf b hb).2.2.1
  have I4 : Inv X pins σ H { s with heap := h4 } := I.kept (t' := s.toks) k
  refine ⟨Y, rfl, I.bare, Un.kept k, ⟨m, hn, fun i y v h1 h2 h3 => ?_⟩, fun y c e => I4.cell y c (lk y c e), I.hok.fresh (Nat.le_refl _), fun y c e => I.freeC y c (lk y c e), fun p hp => absurd (show p ∈ ([] : List (Addr × Obj)) from hp) (by simp), I4.hok, ?_⟩
  · cases i with
    | zero => cases h2
    | succ i =>
      have h1 : ys[i]? = some y := h1
      have hi : i < ys.length := (List.getElem?_eq_some_iff.mp h1).1
      have hy : ys.getD i Str.empty = y := by rw [List.getD_eq_getElem?_getD, h1]; rfl
      obtain ⟨c1, c2⟩ := ok.cap i hi
      rw [hy] at c1 c2
      have hj : i < js.length := by rw [ok.len]; exact hi
      have h2' : (js.map fun j => (σ[j]?).join)[i]? = some (some v) := h2
      rw [List.getElem?_map, List.getElem?_eq_getElem hj] at h2'
      have hjd : js.getD i 0 = js[i] := by rw [List.getD_eq_getElem?_getD, List.getElem?_eq_getElem hj]; rfl
      rw [hjd] at c1
      have h3' : σ[js[i]]? = some (some v) := by
        have q : (σ[js[i]]?).join = some v := Option.some.inj h2'
        cases e : σ[js[i]]? with
        | none => rw [e] at q; cases q
        | some o => rw [e] at q; exact congrArg some q
      have kc : X.env.scope.names.lookup y = some .cell := (ok.free _ c2 rfl).1
      obtain ⟨mX, hX, hl⟩ := I4.loc
      obtain ⟨u, ru, lu⟩ := hl _ y v c1 h3' (.inr (.inl kc))
      refine ⟨u, ru, ?_⟩
      rcases lu with ⟨z, _⟩ | ⟨_, c, ec, ic⟩
      · have z : X.env.scope.names.lookup y = some .local := z
        rw [kc] at z; cases z
      · obtain ⟨c', e1, e2⟩ := capd y c2
        rw [ec] at e1
        cases e1
        refine .inr ⟨.inl ?_, c, e2, ic⟩
        show (relabel scope X.env).names.lookup y = some .cell
        rw [rl y, (ok.free _ c2 rfl).2]
        have kk : X.env.kindOf y = some .cell := kc
        simp only [Option.map_some, kk, I.ok.kind]
        rfl
  · show (compSt σ js none).length = (x :: ys).length
    unfold compSt
    rw [List.length_cons, List.length_cons, List.length_map, ok.len]
theorem HOk.sameBut {P : Program} {w : World} {H : Hp} {h h' : Heap} {C : Addr} (k : HOk P w H h) (hn : H C = none) (sb : ∀ b o, b ≠ C → h.get? b = some o → h'.get? b = some o) : HOk P w H h' := fun b u e => by
  refine (k b u e).stay (fun c v hc q => sb c v ?_ q) (fun _ q => q) fun _ _ q => q
  rcases hc with z | z
  · rintro rfl; rw [z, e] at hn; cases hn
  · rintro rfl; rw [z] at hn; cases hn
theorem comp_block {elt iter : Expr} {ifs : List Expr} {x : Str} {px pos : Pos} {scope : Scope} {ys : List Str} {js : List Nat} {tt : TT} {te : TE} {it : Addr} {fp : List Addr} {tn : Nat → Heap → Prop} {J : It} {RR : Value → Addr → Result → Shared → Prop} {E : Value → Shared → Prop}
    (hc : X.calm = true) (ok : CompOk X.env.scope scope X.N x ys js) (hts : ∀ C s H fp, PTs (compCx X scope (x :: ys) C s H fp) ifs tt) (hel : ∀ C s H fp, PE (compCx X scope (x :: ys) C s H fp) elt te)
    (I : Inv X pins σ H s) (T : Turn X.prog X.w X.K (.Name x px) J fp it tn) (st : tn 0 s.heap) (hf : ∀ b ∈ fp, FpOk X pins H b)
    (n : Nat) (out : Nat → Option V) (hn : n ≤ sizeLine)
    (step : ∀ i H', i < n → Same H H' → J.go i H' ∧ ∀ x H'', J.yld i H' x H'' → Same H' H'' ∧ tt (compSt σ js (some x)) H'' fun ok H2 => if ok = true then te (compSt σ js (some x)) H2 fun y H3 => Same H'' H3 ∧ out i = some y else Same H'' H2 ∧ out i = none)
    (stop : ∀ H', Same H H' → J.stop n H')
    (fin : ∀ (C D : Addr) (H' : Hp) (s' : Shared), Same H H' → H D = none → H' D = some (.lst ((List.range n).filterMap out)) → Inv X pins σ H' s' → s.heap.objs.size ≤ C → C < s'.heap.objs.size → (∃ m, s'.heap.Ns C m) → H' C = none → RR (.ref D) C (.ok .next) s') :
    wpAny (model X.prog X.w) X.A (newList []) (fun acc s3 => wpAny (model X.prog X.w) X.A (newFunctionEnv scope X.env.globals (clOf X.env scope.names []) [] X.env.qual none .none (some X.env)) (fun cenv s4 =>
      codeAny (model X.prog X.w) X.A (.compStart (.ListComp elt [⟨.Name x px, iter, ifs, 0⟩] scope pos) 0 (.ref it) acc { cenv with scope := relabel scope X.env }) (RR acc cenv.locals) s4) E s3) E s := by
  refine wpAny_newObj_type ?_
  have I3 : Inv X pins σ (upd H s.heap.objs.size (.lst [])) { s with heap := s.heap.push { cls := .type "list", data := .seq ([] : List Value).toArray } } := I.lnew (its := []) (t' := s.toks) .nil (Nat.zero_le _)
  have hD : H s.heap.objs.size = none := I.fresh
  generalize hDd : s.heap.objs.size = D at I3 hD ⊢
  have old3 : ∀ b o, s.heap.get? b = some o → (s.heap.push { cls := .type "list", data := .seq ([] : List Value).toArray }).get? b = some o := fun b o e => Heap.get?_push_of_some _ e
  have sz3 : (s.heap.push { cls := .type "list", data := .seq ([] : List Value).toArray }).objs.size = s.heap.objs.size + 1 := Heap.size_push ..
  generalize hs3 : s.heap.push { cls := .type "list", data := .seq ([] : List Value).toArray } = h3 at I3 old3 sz3 ⊢
  generalize hss : ({ s with heap := h3 } : Shared) = s3 at I3 ⊢
  have e3 : s3.heap = h3 := by rw [← hss]
  have f3 : ∀ b ∈ fp, FpOk X pins (upd H D (.lst [])) b := fun b hb => by
    obtain ⟨o, e, _⟩ := T.obj 0 _ st b hb
    refine ⟨?_, (hf b hb).2⟩
    rw [upd_ne (by rw [← hDd]; exact Nat.ne_of_lt (Heap.lt_size e))]
    exact (hf b hb).1
  refine wpAny_newFunctionEnv ok.cell (fun y hy => by cases hy) (fun h4 hn4 hsb4 => ?_) ok.kind
  have k4 : ∀ b o, s3.heap.get? b = some o → h4.get? b = some o := fun b o e => by
    rw [hsb4.2 b (Nat.ne_of_lt (Heap.lt_size e))]
    exact Heap.get?_push_of_some _ e
  have o3 : ∀ b ∈ fp, ∃ o, s3.heap.get? b = some o := fun b hb => by
    obtain ⟨o, e, _⟩ := T.obj 0 _ st b hb
    exact ⟨o, by rw [e3]; exact old3 b o e⟩
  have I4 := comp_enter (x := x) ok I3 f3 o3 k4 hn4
  have st4 : tn 0 h4 := T.keep 0 s.heap h4 st fun b hb o e => k4 b o (by rw [e3]; exact old3 b o e)
  have nD3 : s3.heap.objs.size ≠ D := by rw [e3, sz3, hDd]; exact Nat.succ_ne_self _
  have Dfp : ∀ b ∈ fp, b ≠ D := fun b hb => by
    obtain ⟨o, e, _⟩ := T.obj 0 _ st b hb
    rw [← hDd]; exact Nat.ne_of_lt (Heap.lt_size e)
  show codeAny (model X.prog X.w) X.A (.compStart (.ListComp elt [⟨.Name x px, iter, ifs, 0⟩] scope pos) 0 (.ref it) (.ref D) (compCx X scope (x :: ys) s3.heap.objs.size s3 (upd H D (.lst [])) fp).env) (RR (.ref D) s3.heap.objs.size) { s3 with heap := h4, toks := s3.toks + 0 }
  have I4' : Inv (compCx X scope (x :: ys) s3.heap.objs.size s3 (upd H D (.lst [])) fp) [] (compSt σ js none) (upd H D (.lst [])) { s3 with heap := h4, toks := s3.toks + 0 } := I4.tok _
  have stat : ∀ {pp : List (Addr × Obj)} {H' : Hp}, (∀ b ∈ fp, H' b = none) → (∀ p ∈ pp, p.1 ∉ fp) → ∀ b ∈ fp, FpOk (compCx X scope (x :: ys) s3.heap.objs.size s3 (upd H D (.lst [])) fp) pp H' b := fun {pp H'} hn hp b hb =>
    ⟨hn b hb, (I4'.ok.exf b hb).1, I4'.ok.exfs b hb, .inl hb, (I4'.ok.exf b hb).2, fun p hq z => hp p (by have hq' : p ∈ ([] : List (Addr × Obj)) ++ pp := hq; simpa using hq') (by rw [z]; exact hb)⟩
  have g : X.prog = (compCx X scope (x :: ys) s3.heap.objs.size s3 (upd H D (.lst [])) fp).prog := rfl
  have loop : codeAny (model X.prog X.w) X.A (.compLoop (.ListComp elt [⟨.Name x px, iter, ifs, 0⟩] scope pos) 0 (.ref it) (.ref D) (compCx X scope (x :: ys) s3.heap.objs.size s3 (upd H D (.lst [])) fp).env) (RR (.ref D) s3.heap.objs.size) { s3 with heap := h4, toks := s3.toks + 0 } := by
    refine compLoop_any (fun k s' => ∃ i o H', k = n - i ∧ i ≤ n ∧ Inv (compCx X scope (x :: ys) s3.heap.objs.size s3 (upd H D (.lst [])) fp) [] (compSt σ js o) H' s' ∧ tn i s'.heap ∧ (∀ b ∈ fp, H' b = none) ∧ Same H H' ∧ H' D = some (.lst ((List.range i).filterMap out))) ?_ n
      ⟨0, none, _, rfl, Nat.zero_le _, I4', st4, fun b hb => (f3 b hb).1, Same.new hD _, upd_same⟩
    rintro k s5 ⟨i, o5, H5, rfl, hi, I5, st5, fr5, sm5, hD5⟩
    by_cases hlt : i < n
    · obtain ⟨go, yl⟩ := step i H5 hlt sm5
      refine thn (T.item (compCx X scope (x :: ys) s3.heap.objs.size s3 (upd H D (.lst [])) fp) rfl rfl rfl hc i [] s5 _ H5 (fun _ _ => False) I5 (stat fr5 fun p hp => by cases hp) st5 go) fun r s6 ⟨u, hr, h6⟩ => ?_
      subst hr
      refine thn h6 fun _ s7 ⟨v, H7, I7, r7, y7, st7, fr7⟩ => ?_
      obtain ⟨sm7, q7⟩ := yl v H7 y7
      have I7' := I7.pinned (stat fr7 fun p hp => by cases hp) (T.obj _ _ st7)
      have nfp : ∀ p ∈ pinsAt fp s7.heap, p.1 ∈ fp := fun p hp => (of_pinsAt hp).1
      refine wpAny_assign_Name ?_
      refine store_ok (i := 0) I7' ok.nd rfl (.inl (lookup_relabel_local ok.here)) r7 (fun s8 I8 => ?_) (.inr (lookup_relabel_local ok.here))
      have I8' : Inv (compCx X scope (x :: ys) s3.heap.objs.size s3 (upd H D (.lst [])) fp) ([] ++ pinsAt fp s7.heap) (compSt σ js (some v)) H7 s8 := I8
      have hD7 : H7 D = some (.lst ((List.range i).filterMap out)) := sm7 _ _ hD5
      refine thn (hts _ _ _ _ _ s8 _ H7 _ I8' q7) fun okb s9 ⟨H9, I9, q9⟩ => ?_
      have fin9 : ∀ {s10 : Shared} {H10 : Hp} (o : Option V), Inv (compCx X scope (x :: ys) s3.heap.objs.size s3 (upd H D (.lst [])) fp) ([] ++ pinsAt fp s7.heap) (compSt σ js o) H10 s10 → Same H H10 → H10 D = some (.lst ((List.range (i + 1)).filterMap out)) →
          ∃ m, m < n - i ∧ ∃ i o H', m = n - i ∧ i ≤ n ∧ Inv (compCx X scope (x :: ys) s3.heap.objs.size s3 (upd H D (.lst [])) fp) [] (compSt σ js o) H' s10 ∧ tn i s10.heap ∧ (∀ b ∈ fp, H' b = none) ∧ Same H H' ∧ H' D = some (.lst ((List.range i).filterMap out)) := fun {s10 H10} o I10 sm10 hD10 => by
        refine ⟨n - (i + 1), by omega, i + 1, o, H10, rfl, hlt, I10.unpinned, T.keep _ _ _ st7 fun b hb ob e => (I10.pin (b, ob) (List.mem_append_right _ (List.mem_append_right _ (mem_pinsAt hb e)))).1, fun b hb => ?_, sm10, hD10⟩
        obtain ⟨ob, e, d⟩ := T.obj _ _ st7 b hb
        exact (I10.pin (b, ob) (List.mem_append_right _ (List.mem_append_right _ (mem_pinsAt hb e)))).2.1
      cases okb with
      | false =>
        rw [if_neg (by decide)] at q9
        rw [if_neg (by decide)]
        refine fin9 _ I9 (sm5.trans (sm7.trans q9.1)) ?_
        rw [filterMap_range_succ, q9.2]
        simp only [Option.toList, List.append_nil]
        exact q9.1 _ _ hD7
      | true =>
        rw [if_pos rfl] at q9
        rw [if_pos rfl]
        refine thn (hel _ _ _ _ _ s9 _ H9 _ I9 q9) fun y s10 ⟨v10, H10, I10, r10, sm10, o10⟩ => ?_
        have hD10 := sm10 _ _ hD7
        have hlen : ((List.range i).filterMap out).length < sizeLine := Nat.lt_of_le_of_lt (List.length_filterMap_le _ _) (by rw [List.length_range]; omega)
        refine thn (mt_append _ s10 _ H10 (.ref D) [v10] (.ref D) [y] (fun _ H11 => Same H H11 ∧ H11 D = some (.lst ((List.range (i + 1)).filterMap out))) I10 rfl (.cons r10 .nil) ⟨D, _, v10, rfl, rfl, hD10, hlen, ?_, ?_⟩) fun _ s11 ⟨_, H11, I11, _, sm11, hD11⟩ => fin9 _ I11 sm11 hD11
        · intro b ob e
          rw [upd_ne (ne_of_none e hD)]
          exact sm10 _ _ (sm7 _ _ (sm5 _ _ e))
        · rw [upd_same, filterMap_range_succ, o10]
          rfl
    · have hin : i = n := by omega
      subst hin
      refine thn (T.done (compCx X scope (x :: ys) s3.heap.objs.size s3 (upd H D (.lst [])) fp) rfl rfl rfl hc i [] s5 _ H5 (fun _ _ => False) I5 (stat fr5 fun p hp => by cases hp) st5 (stop H5 sm5)) fun r s6 ⟨hr, I6⟩ => ?_
      subst hr
      have J6 : Inv X pins σ H5 s6 := I3.call' (ch := fp) I6.os I6.base I6.hok I6.bare fun b hb => (f3 b hb).2.2.2 |> fun z => ⟨z.1, (f3 b hb).2.1, z.2.1, z.2.2⟩
      obtain ⟨m6, hn6, _⟩ := I6.loc
      exact fin s3.heap.objs.size D H5 s6 sm5 hD hD5 J6 (by rw [e3, sz3]; exact Nat.le_succ _) hn6.lt ⟨m6, hn6⟩ I6.free
  exact codeAny_compStart_list loop (T.self _ 0 _ _ _ st4 loop)
theorem pe_comp {elt iter : Expr} {ifs : List Expr} {x : Str} {px pos : Pos} {scope : Scope} {ys : List Str} {js : List Nat} {wi : TI} {tt : TT} {te : TE} (hc : X.calm = true) (ok : CompOk X.env.scope scope X.N x ys js) (hi : PI X (.Name x px) iter wi)
    (hts : ∀ C s H fp, PTs (compCx X scope (x :: ys) C s H fp) ifs tt) (hel : ∀ C s H fp, PE (compCx X scope (x :: ys) C s H fp) elt te) (hs : ∀ v, foldedSetIterable iter X.env v = pure v := by intro _; rfl) :
    PE X (.ListComp elt [⟨.Name x px, iter, ifs, 0⟩] scope pos) (tComp wi js tt te) := by
  intro pins s σ H Q I h
  rw [eval_ListComp]
  have hclos : closureFor scope X.env = pure (clOf X.env scope.names []) := closureFor_clOf fun p hp e => I.ok.has p.1 (.inl (ok.free p hp e).1)
  refine wpAny_comprehension_free (use := none) rfl hs hclos ok.kind ok.loc (thn (hi pins s σ H _ I h) fun v s1 h1 => thn h1 fun itv s2 h2 => ?_)
  obtain ⟨it, fp, tn, J, H2, e, I2, T, st2, f2, n, out, hn, step, stop, fin⟩ := h2
  subst e
  refine comp_block (RR := fun acc C => compPost (model X.prog X.w) X.A X.xe none (EP X pins σ Q) acc C) hc ok hts hel I2 T st2 f2 n out hn step stop fun C D H' s' sm hD hD' I' hC hC' hns hfree => ?_
  obtain ⟨m, hn'⟩ := hns
  refine ⟨m, hn', fun h' sb => ?_⟩
  have I'' : Inv X pins σ H' { s' with heap := h', toks := s'.toks } := by
    refine I'.turned (it := C) (fun b o hb e => ?_) hfree ?_ (.inr (Nat.le_trans I2.sz hC)) (fun y c e z => ?_) fun p hp z => ?_
    · rw [sb.2 b hb]; exact e
    · exact Ne.symm (Nat.ne_of_lt (Nat.lt_of_lt_of_le I2.lt hC))
    · obtain ⟨_, q⟩ := I2.cell y c e
      exact absurd (Nat.lt_of_lt_of_le q.lt (by rw [z]; exact hC)) (Nat.lt_irrefl _)
    · exact absurd (Nat.lt_of_lt_of_le (Heap.lt_size (I2.pin p hp).1) (by rw [z]; exact hC)) (Nat.lt_irrefl _)
  exact ⟨.ref D, H', I'', rfl, fin D H' sm hD hD'⟩
end
end L2
namespace L2
open PySem PySem.Spec PyProof.Rows
def DefOk (P : Program) (w : World) (K : PySem.W.Frag) (mg : Str → Option Value) (base : Heap) (k : Nat) (x : Str) (ps : List Str) (sp : Sp) : Prop :=
  ∃ f fd, FnOk P w K mg base CX0 k f fd ps sp ∧ Binds K fd ps [] ∧ PySem.W.keepIn K (.ref f) = true ∧ mg x = some (.ref f)
theorem DefOk.mono {P : Program} {w : World} {K : PySem.W.Frag} {mg : Str → Option Value} {base : Heap} {j k : Nat} {x : Str} {ps : List Str} {sp : Sp} (D : DefOk P w K mg base j x ps sp) (h : j ≤ k) : DefOk P w K mg base k x ps sp := by
  obtain ⟨f, fd, F, r⟩ := D
  exact ⟨f, fd, F.mono h, r⟩
structure Txt1 (K : PySem.W.Frag) (mg : Str → Option Value) (x : Str) (st : Stmt) (ps : List Str) : Prop where
  ex : ∃ f fd, Fun K x x st f fd ∧ Binds K fd ps [] ∧ mg x = some (.ref f)
theorem Txt1.ok {P : Program} {w : World} {K : PySem.W.Frag} {mg : Str → Option Value} {base : Heap} {x : Str} {st : Stmt} {N ps : List Str} {k : Nat} {sp : Sp} (F : Txt1 K mg x st ps) (S : FnScope N ps (defScope st)) (len : ∀ vs H Q E, sp vs H Q E → vs.length = ps.length)
    (hbody : ∀ (f : Addr) (cdv : Value) (A : Around) (outer : List Env) (s : Shared) (H : Hp) (vs : List V) (Q : VK) (E : XK), Room k (A.deeper (envOfC x (defScope st) s.heap.objs.size f cdv)) → sp vs H Q E →
      ∃ t, PSs (cxOf CX0 P w K mg base N x (defScope st) f cdv A outer s H E).nox (defBody st) t ∧ t { nx := fun _ H' => Q .non H', rt := Q } (start N vs) H) : DefOk P w K mg base (k + 1) x ps sp := by
  obtain ⟨f, fd, F, b, m⟩ := F.ex
  exact ⟨f, fd, F.ok S len (hbody f), b, F.kp, m⟩
section
variable {X : Cx} {k : Nat} {x : Str} {ps : List Str} {sp : Sp} {e : Expr} {es : List Expr} {t : TA} {te : TE} {p pos : Pos}
theorem pe_callD (D : DefOk X.prog X.w X.K X.mg X.base k x ps sp) (hr : Room k X.A) (hg : Gl X x) (ha : PA X (e :: es) t) (hdb : (x == ("__debug__" : Str)) = false := by decide) (he : starEach (e :: es) X.env = (false, eval e X.env) :: starEach es X.env := by rfl) (hpl : (backTo pos (starEach es X.env)).any (·.1) = false := by rfl) :
    PE X (.Call (.Name x p) (e :: es) [] pos) (tCall sp [] E0 t) := by
  obtain ⟨f, fd, F, b, kp, m⟩ := D
  exact pe_call F hr hg m kp b .nil pass0 ha hdb he hpl
theorem call_listU : CallR X (.type "list") (fun xs H Q => ∃ p ys, xs = [.ref p] ∧ (SqL X.K H p ys ∨ SqT X.K H p ys) ∧ ∀ l H', Same H H' → H l = none → H' l = some (.lst ys) → Q (.ref l) H') := by
  intro pins s σ H xs us Q I r h
  obtain ⟨p, ys, rfl, hq, q⟩ := h
  exact call_list_of pins s σ H _ us Q I r ⟨p, ys, rfl, hq, fun l hl => q l _ (Same.new hl _) hl upd_same⟩
theorem call_tupleU : CallR X (.type "tuple") (fun xs H Q => ∃ p ys, xs = [.ref p] ∧ (SqL X.K H p ys ∨ SqT X.K H p ys) ∧ ∀ l H', Same H H' → SqT X.K H' l ys → Q (.ref l) H') := by
  intro pins s σ H xs us Q I r h
  obtain ⟨p, ys, rfl, hq, q⟩ := h
  refine call_tuple_of pins s σ H _ us Q I r ⟨p, ys, rfl, ?_⟩
  rcases hq with hq | hq
  · exact .inl ⟨hq, fun l hl => q l _ (Same.new hl _) (SqT.of upd_same)⟩
  · exact .inr ⟨hq, q p H (Same.refl _) hq⟩
theorem pe_tyn {T : String} {c : Str} {p2 : Pos} (hgc : Gl X c) (hmc : X.mg c = none) (hv : bootBuiltins c = some (.type T)) (hn : c ≠ "__name__" := by decide) (hdb : (c == ("__debug__" : Str)) = false := by decide) : PE X (.Name c p2) (tC (.ty T)) := pe_bltn hgc hmc hv rfl hn hdb
theorem kit_yes {K : PySem.W.Frag} {t : Value} : PySem.W.kitOne K t t = some true := by unfold PySem.W.kitOne; rw [if_pos (beq_self_eq_true t)]
def rAll (K : PySem.W.Frag) : List V → Hp → VK → Prop := fun xs H Q => ∃ (p : Addr) (bs : List Bool), xs = [.ref p] ∧ SqL K H p (bs.map V.bl) ∧ Q (.bl (bs.all id)) H
theorem vals_bools : ∀ {bs : List Bool} {us : List Value}, Vals (bs.map V.bl) us → us = bs.map Value.bool
  | [], _, .nil => rfl
  | b :: bs, _, .cons r t => by
    cases r
    rw [vals_bools t]
    rfl
theorem call_allL (hc : X.calm = true) : CallR X (.builtin "all") (rAll X.K) := by
  intro pins s σ H xs us Q I r h
  obtain ⟨p, bs, rfl, hq, q⟩ := h
  obtain ⟨u, rfl, ru⟩ := vals1 r
  cases ru
  obtain ⟨its, rv, pl, hz⟩ := I.list hq
  have e := vals_bools rv
  subst e
  have hh : X.A.in1.handled = none := I.ok.hd hc
  refine call_all_walk (wpAny_pyIter_list pl.isList ?_)
  have hlt : p < s.heap.objs.size := by
    obtain ⟨o, ho, _⟩ := pl.isList
    exact Heap.lt_size ho
  have hl2 : (s.heap.push { cls := .type "list_iterator", data := .fields #[.ref p, .int 0 0] }).IsList p (bs.map Value.bool).toArray := by
    obtain ⟨o, ho, r⟩ := pl.isList
    exact ⟨o, Heap.get?_push_of_some _ ho, r⟩
  refine ⟨s.heap.objs.size, [s.heap.objs.size, p], [s.heap.objs.size], _, _, _, fun i => bs.getD i false, rfl, Walks.list hh _ p (Nat.ne_of_lt hlt) (bs.map Value.bool).toArray, ⟨⟨_, Heap.get?_push_size _ rfl, rfl, rfl⟩, hl2⟩, fun i v s' Q' E' hP hQ => ?_, fun h' tk k => ?_⟩
  · have hv : v = .bool (bs.getD i false) := by
      have hP' : (bs.map Value.bool)[i]? = some v := by simpa using hP
      rw [List.getElem?_map] at hP'
      rw [List.getD_eq_getElem?_getD]
      cases e : bs[i]? with
      | none => rw [e] at hP'; cases hP'
      | some b => rw [e] at hP'; cases hP'; rfl
    subst hv
    exact wpAny_truthy_bool hQ
  · have I' : Inv X pins σ H { s with heap := h', toks := tk } := I.kept fun b o e => k b o (by simp; exact Nat.ne_of_lt (Heap.lt_size e)) (Heap.get?_push_of_some _ e)
    refine ⟨.bl (bs.all id), H, I', ?_, q⟩
    show Value.bool _ = Value.bool _
    congr 1
    have key : ∀ l : List Bool, ((List.range l.length).all fun i => l.getD i false) = l.all id := by
      intro l
      induction l with
      | nil => rfl
      | cons a r ih =>
        rw [List.length_cons, List.range_succ_eq_map, List.all_cons, List.all_map, List.all_cons, ← ih]
        rfl
    have := key bs
    simpa using this
end
end L2
namespace L2
open PySem PySem.Spec PyProof.Rows
inductive TyV (K : PySem.W.Frag) (H : Hp) : V → Value → Prop where
  | of {x : V} {t : Value} : TyOf K H x t → TyV K H x t
  | tup {a : Addr} {xs : List V} : SqT K H a xs → TyV K H (.ref a) (.type "tuple")
  | lst {a : Addr} {xs : List V} : SqL K H a xs → TyV K H (.ref a) (.type "list")
theorem TyV.int {K : PySem.W.Frag} {H : Hp} (i : Int) : TyV K H (.int i) (.type "int") := .of (.int i)
theorem TyV.bl {K : PySem.W.Frag} {H : Hp} (b : Bool) : TyV K H (.bl b) (.type "bool") := .of (.bl b)
theorem TyV.str {K : PySem.W.Frag} {H : Hp} (x : Str) : TyV K H (.str x) (.type "str") := .of (.str x)
theorem TyV.non {K : PySem.W.Frag} {H : Hp} : TyV K H .non (.type "NoneType") := .of .non
section
variable {X : Cx}
def rIsV (K : PySem.W.Frag) (T : String) : List V → Hp → VK → Prop := fun xs H Q => ∃ x t b, xs = [x, .ty T] ∧ TyV K H x t ∧ PySem.W.kitOne K t (.type T) = some b ∧ Q (.bl b) H
theorem call_isv {T : String} : CallR X (.builtin "isinstance") (rIsV X.K T) := by
  intro pins s σ H xs us Q I r h
  obtain ⟨x, t, b, rfl, ty, e, q⟩ := h
  obtain ⟨u, w', rfl, r1, r2⟩ := vals2 r
  cases r2
  cases ty with
  | of ty => exact isinst_ok I r1 ty e fun tk => ⟨.bl b, H, I.tok _, rfl, q⟩
  | tup hx =>
    cases r1
    obtain ⟨_, _, ⟨o, h1, h2, _⟩, _⟩ := I.tuple hx
    exact PySem.W.kia_one PySem.W.kitx_tuple I.kIn ⟨o, h1, h2⟩ e (fun z => nomatch z) fun tk => ⟨.bl b, H, I.tok _, rfl, q⟩
  | lst hx =>
    cases r1
    obtain ⟨_, _, pl, _⟩ := I.list hx
    obtain ⟨o, h1, h2, _⟩ := pl.isList
    exact PySem.W.kia_one PySem.W.kitx_list I.kIn ⟨o, h1, h2⟩ e (fun z => nomatch z) fun tk => ⟨.bl b, H, I.tok _, rfl, q⟩
end
theorem kit_bool_int {K : PySem.W.Frag} : PySem.W.kitOne K (.type "bool") (.type "int") = some true := by rfl
theorem kit_int_bool {K : PySem.W.Frag} : PySem.W.kitOne K (.type "int") (.type "bool") = some false := by rfl
theorem kit_str_int {K : PySem.W.Frag} : PySem.W.kitOne K (.type "str") (.type "int") = some false := by rfl
theorem kit_non_int {K : PySem.W.Frag} : PySem.W.kitOne K (.type "NoneType") (.type "int") = some false := by rfl
theorem kit_list_tuple {K : PySem.W.Frag} : PySem.W.kitOne K (.type "list") (.type "tuple") = some false := by rfl
theorem kit_non_tuple {K : PySem.W.Frag} : PySem.W.kitOne K (.type "NoneType") (.type "tuple") = some false := by rfl
theorem filterMap_index {xs : List V} (f : V → Option V) : (List.range xs.length).filterMap (fun i => (xs[i]?).bind f) = xs.filterMap f := by
  induction xs with
  | nil => rfl
  | cons x r ih =>
    rw [List.length_cons, List.range_succ_eq_map, List.filterMap_cons, List.filterMap_map, List.filterMap_cons, ← ih]
    rfl
theorem comp_tup {K : PySem.W.Frag} {a : Addr} {xs : List V} {H1 : Hp} {tt : TT} {te : TE} {σ : St} {js : List Nat} {Q : VK} (hx : SqT K H1 a xs) (hz : xs.length ≤ sizeLine) (f : V → Option V)
    (step : ∀ x H', x ∈ xs → Same H1 H' → tt (compSt σ js (some x)) H' fun ok H2 => if ok = true then te (compSt σ js (some x)) H2 fun y H3 => Same H' H3 ∧ f x = some y else Same H' H2 ∧ f x = none)
    (fin : ∀ p H', Same H1 H' → H1 p = none → H' p = some (.lst (xs.filterMap f)) → Q (.ref p) H') :
    CompB (Itt K a) H1 js tt te σ Q := by
  refine ⟨xs.length, fun i => (xs[i]?).bind f, hz, fun i H' hi sm => ⟨⟨xs, xs[i], sm.tup hx, by simp [hi]⟩, fun x H'' y => ?_⟩, fun H' sm => ⟨xs, sm.tup hx, Nat.le_refl _⟩, fun p H' sm hp e => fin p H' sm hp (by rw [← filterMap_index]; exact e)⟩
  obtain ⟨rfl, y⟩ := y
  have e := y xs (sm.tup hx)
  refine ⟨Same.refl _, ?_⟩
  have := step x H'' (List.mem_of_getElem? e) sm
  simpa only [e, Option.bind_some] using this
theorem filterMap_some_map {α : Type} (xs : List α) (f : α → V) : xs.filterMap (fun x => some (f x)) = xs.map f := by
  induction xs with
  | nil => rfl
  | cons x r ih => rw [List.filterMap_cons, List.map_cons, ih]
section
variable {X : Cx} (K : PySem.W.Frag)
theorem call_tupleK (e : X.K = K := by rfl) : CallR X (.type "tuple") (fun xs H Q => ∃ p ys, xs = [.ref p] ∧ (SqL K H p ys ∨ SqT K H p ys) ∧ ∀ l H', Same H H' → SqT K H' l ys → Q (.ref l) H') := by subst e; exact call_tupleU
end
end L2
namespace L2
open PySem PySem.Spec PyProof.Rows
def ExT (h : Heap) (e T : Addr) (cls : Value) (dd : Option Addr) (fl : Value) : Prop :=
  ∃ oe vs oT ts, h.get? e = some oe ∧ oe.cls = cls ∧ oe.dict = dd ∧ oe.data = .fields vs ∧ vs[1]? = some (.ref T) ∧ T ≠ e ∧ h.get? T = some oT ∧ oT.data = .fields ts ∧ ts[3]? = some fl
def ExN (h : Heap) (e : Addr) (cls : Value) (dd : Option Addr) : Prop :=
  ∃ oe vs, h.get? e = some oe ∧ oe.cls = cls ∧ oe.dict = dd ∧ oe.data = .fields vs ∧ vs[1]? = some .none
def Chg (F S : List Addr) (h h' : Heap) : Prop := ∀ b o, h.get? b = some o → b ∉ S → (b ∉ F → h'.get? b = some o) ∧ ∃ sl, h'.get? b = some { o with slots := sl }
theorem Chg.trans {F S S' S2 : List Addr} {h h1 h2 : Heap} (x : Chg F S h h1) (y : Chg F S' h1 h2) (hs : ∀ b o, h.get? b = some o → b ∉ S2 → b ∉ S ∧ b ∉ S') : Chg F S2 h h2 := fun b o q n => by
  obtain ⟨n1, n2⟩ := hs b o q n
  obtain ⟨k1, sl, e1⟩ := x b o q n1
  obtain ⟨_, sl2, e2⟩ := y b _ e1 n2
  exact ⟨fun nf => ((y b o (k1 nf) n2).1 nf), sl2, e2⟩
theorem Chg.upd {F : List Addr} {T : Addr} {h : Heap} {f : Obj → Obj} : Chg F [T] h (h.update T f) := fun b o q n => by
  have e : (h.update T f).get? b = some o := (Heap.get?_update_other _ _ fun z => n (by rw [z]; exact List.mem_singleton.mpr rfl)).trans q
  exact ⟨fun _ => e, o.slots, e⟩
section
variable {M : Model} {A : Around} {E : Value → Shared → Prop} {s : Shared} {base : Heap} {env : Env} {outer : List Env} {L e T : Addr} {cls : Value} {dd : Option Addr} {Q : Unit → Shared → Prop}
theorem entry_ok {oe : Obj} {vs : Array Value} {head : Value} {hn : Bool} (hfr : A.frames = some (env :: outer)) (hl : s.heap.FunFrames base (env :: outer)) (hf : env.frame = some L) (he : s.heap.get? e = some oe)
    (hd : oe.data = .fields vs) (hz : 1 < vs.size)
    (h : ∀ h' T, Chg (frs (env :: outer)) [e] s.heap h' → s.heap.get? T = none → ExT h' e T oe.cls oe.dict (rawInt L) → Q () { s with heap := h' }) :
    wpAny M A (do
      let a ← frameOf env
      let pl ← entryPlaceOf L hn
      let b ← EntryCells.newEntry head a .none (rawInt L) .none pl
      setField (.ref e) 1 b) Q E s := by
  have ene : e ∉ frs (env :: outer) := fun z => by
    obtain ⟨_, o, q, nf⟩ := hl.mem z
    rw [he] at q
    cases q
    exact nf vs hd
  refine wpAny_bind (wpAny_frameOf_fun hfr hl hf fun g sg => wpAny_bind (wpAny_entryPlaceOf fun pl hpl => ?_))
  obtain ⟨g1, g2, g3⟩ := sg
  unfold EntryCells.newEntry newFields
  refine wpAny_bind (wpAny_newObj_type ?_ (hpl.sizeOk5 _ _ _ _ _))
  have h3 : ([head, Value.ref L, .none, rawInt L, .none] ++ (if pl.isEmpty then List.replicate 6 Value.none else pl)).toArray[3]? = some (rawInt L) := by simp
  generalize ([head, Value.ref L, .none, rawInt L, .none] ++ (if pl.isEmpty then List.replicate 6 Value.none else pl)).toArray = rc at h3 ⊢
  have e1 : g.get? e = some oe := (g2 e ene).trans he
  have hT : g.objs.size ≠ e := Nat.ne_of_gt (Heap.lt_size e1)
  have e2 := Heap.get?_push_of_some (h := g) { cls := .type "traceback", dict := none, data := .fields rc } e1
  refine wpAny_setField e2 hd hz (h _ g.objs.size (fun b o q n => ?_) (Heap.get?_none_of_le (Nat.le_of_eq g1.symm)) ?_)
  · have nb : e ≠ b := fun z => n (by rw [z]; exact List.mem_singleton.mpr rfl)
    have up : ∀ u, g.get? b = some u → ((g.push { cls := .type "traceback", dict := none, data := .fields rc }).update e (Obj.mapFields (·.setIfInBounds 1 (Value.ref g.objs.size)))).get? b = some u := fun u z => by
      rw [Heap.get?_update_other _ _ nb]
      exact Heap.get?_push_of_some _ z
    obtain ⟨sl, q3⟩ := g3 b o q
    exact ⟨fun nf => up o ((g2 b nf).trans q), sl, up _ q3⟩
  · have d3 := Obj.data_mapFields hd (·.setIfInBounds 1 (Value.ref g.objs.size))
    refine ⟨_, _, { cls := .type "traceback", dict := none, data := .fields rc }, rc, Heap.get?_update_self _ e2 (Obj.isFreed_of_fields d3), Obj.cls_mapFields _ _, ?_, d3, by simp [hz], hT, ?_, rfl, h3⟩
    · obtain ⟨c, d, dt, sl⟩ := oe
      cases dt <;> first | rfl | cases hd
    · rw [Heap.get?_update_other _ _ (Ne.symm hT)]
      exact Heap.get?_push_size _ rfl
theorem note_new (hfr : A.frames = some (env :: outer)) (hl : s.heap.FunFrames base (env :: outer)) (hf : env.frame = some L) (hx : ExN s.heap e cls dd)
    (h : ∀ h' T, Chg (frs (env :: outer)) [e] s.heap h' → s.heap.get? T = none → ExT h' e T cls dd (rawInt L) → Q () { s with heap := h' }) : wpAny M A (noteFrame (.ref e) env) Q E s := by
  obtain ⟨oe, vs, he, rfl, rfl, hd, h1⟩ := hx
  unfold noteFrame
  simp only [hf]
  refine wpAny_bind (wpAny_field he hd h1 ?_)
  rw [if_neg (by decide)]
  exact entry_ok hfr hl hf he hd (Array.getElem?_eq_some_iff.mp h1).1 h
theorem note_on (hfr : A.frames = some (env :: outer)) (hl : s.heap.FunFrames base (env :: outer)) (hf : env.frame = some L) (hx : ExT s.heap e T cls dd .none)
    (h : ∀ h' T', Chg (frs (env :: outer)) [e, T] s.heap h' → s.heap.get? T' = none → ExT h' e T' cls dd (rawInt L) → Q () { s with heap := h' }) : wpAny M A (noteFrame (.ref e) env) Q E s := by
  obtain ⟨oe, vs, oT, ts, he, rfl, rfl, hd, h1, hTe, hT, hdT, h3⟩ := hx
  unfold noteFrame
  simp only [hf]
  refine wpAny_bind (wpAny_field he hd h1 ?_)
  rw [if_pos (show (Value.ref T != Value.none) = true from by simp)]
  refine wpAny_bind (wpAny_field hT hdT h3 ?_)
  rw [if_neg (show ¬ ((Value.none == rawInt L) = true) from by simp [rawInt])]
  refine wpAny_bind (wpAny_setField hT hdT (Array.getElem?_eq_some_iff.mp h3).1 ?_)
  have eq : ∀ b, b ≠ T → (s.heap.update T (Obj.mapFields (·.setIfInBounds 3 Value.none))).get? b = s.heap.get? b := fun b hb => Heap.get?_update_other _ _ (Ne.symm hb)
  have nT : ∀ b o, s.heap.get? b = some o → (∀ vs, o.data ≠ .fields vs) → b ≠ T := fun b o q nf z => by
    rw [z, hT] at q
    cases q
    exact nf ts hdT
  refine entry_ok hfr (hl.of_keeps fun b o q nf => ⟨o, (eq b (nT b o q nf)).trans q, rfl⟩) hf ((eq e (Ne.symm hTe)).trans he) hd (Array.getElem?_eq_some_iff.mp h1).1 fun h' T' c n x => h h' T' ?_ ?_ x
  · refine Chg.trans (S := [T]) (S' := [e]) Chg.upd c fun b o q nb => ?_
    simp only [List.mem_cons, List.not_mem_nil, or_false, not_or] at nb ⊢
    exact ⟨nb.2, nb.1⟩
  · by_cases z : T' = T
    · rw [z, Heap.get?_update_self _ hT (Obj.isFreed_of_fields (Obj.data_mapFields hdT _))] at n
      cases n
    · exact (eq T' z).symm.trans n
theorem flight_none {fl : Value} (hx : ExT s.heap e T cls dd fl) (h : ∀ h', (∀ F, Chg F [T] s.heap h') → ExT h' e T cls dd .none → Q () { s with heap := h' }) : wpAny M A (setFlight (.ref e) none) Q E s := by
  obtain ⟨oe, vs, oT, ts, he, rfl, rfl, hd, h1, hTe, hT, hdT, h3⟩ := hx
  have z3 : 3 < ts.size := (Array.getElem?_eq_some_iff.mp h3).1
  unfold setFlight
  refine wpAny_bind (wpAny_field he hd h1 ?_)
  rw [if_pos (show (Value.ref T != Value.none) = true from by simp)]
  refine wpAny_setField hT hdT z3 (h _ (fun F => Chg.upd) ?_)
  exact ⟨oe, vs, _, _, (Heap.get?_update_other _ _ hTe).trans he, rfl, rfl, hd, h1, hTe, Heap.get?_update_self _ hT (Obj.isFreed_of_fields (Obj.data_mapFields hdT _)), Obj.data_mapFields hdT _, by simp [z3]⟩
theorem leave_new (hfr : A.frames = some (env :: outer)) (hl : s.heap.FunFrames base (env :: outer)) (hf : env.frame = some L) (hx : ExN s.heap e cls dd)
    (h : ∀ h' T, Chg (frs (env :: outer)) [e] s.heap h' → s.heap.get? T = none → ExT h' e T cls dd .none → Q () { s with heap := h' }) : wpAny M A (leaving env (.ref e)) Q E s := by
  unfold leaving
  refine wpAny_bind (note_new hfr hl hf hx fun h1 T c n x => flight_none x fun h2 c2 x2 => h h2 T (c.trans (c2 _) fun b o q nb => ⟨nb, fun z => ?_⟩) n x2)
  rw [List.mem_singleton.mp z, n] at q
  cases q
end
theorem ObjOk.there {P : Program} {w : World} {H : Hp} {h : Heap} {a : Addr} {o : HO} (x : ObjOk P w H h a o) : ∃ u, h.get? a = some u := by
  cases o with
  | lst xs => obtain ⟨_, _, _, _, e⟩ := x; exact ⟨_, e⟩
  | tup xs => obtain ⟨_, _, _, o, e, _⟩ := x; exact ⟨_, e⟩
  | dK kvs => obtain ⟨_, _, _, _, o, _, _, e, _⟩ := x; exact ⟨_, e⟩
  | dT kvs => obtain ⟨_, _, _, _, o, _, _, e, _⟩ := x; exact ⟨_, e⟩
  | set S n => obtain ⟨o, _, _, _, e, _⟩ := x; exact ⟨_, e⟩
  | ins C dx fs => obtain ⟨_, _, _, e, _⟩ := x; exact ⟨_, e⟩
  | own y => exact x
  | xd fs => obtain ⟨_, ⟨_, _, _, e, _⟩, _⟩ := x; exact ⟨_, e⟩
  | rng lo hi => obtain ⟨_, _, _, e⟩ := x; exact ⟨_, e⟩
  | frz ob u => obtain ⟨e, _⟩ := x; exact ⟨_, e⟩
  | tbl ps => exact ⟨_, (show h.get? a = some _ from x)⟩
  | met f y => exact ⟨_, (show h.get? a = some _ from x)⟩
  | ext φ => obtain ⟨_, e, _⟩ := x; exact e
theorem HOk.none_of {P : Program} {w : World} {H : Hp} {h : Heap} {a : Addr} (x : HOk P w H h) (e : h.get? a = none) : H a = none := by
  cases q : H a with
  | none => rfl
  | some o =>
    obtain ⟨u, z⟩ := (x a o q).there
    rw [e] at z
    cases z
theorem HOk.chg {P : Program} {w : World} {H : Hp} {h h' : Heap} {F S : List Addr} (x : HOk P w H h) (c : Chg F S h h') (hF : ∀ b ∈ F, H b = none) (hS : ∀ b ∈ S, H b = none) : HOk P w H h' := fun a o e => by
  have ok : ∀ b, H b ≠ none → ∀ u, h.get? b = some u → h'.get? b = some u := fun b n u q => (c b u q fun z => n (hS b z)).1 fun z => n (hF b z)
  refine (x a o e).stay (fun b u hb q => ok b ?_ u q) (fun _ z => z) fun _ _ z => z
  rcases hb with rfl | hb
  · rw [e]; exact fun z => nomatch z
  · rw [hb]; exact fun z => nomatch z
structure NewX (X : Cx) (pins : List (Addr × Obj)) (H : Hp) (b : Addr) : Prop where
  un : H b = none
  loc : b ≠ X.env.locals
  fs : b ∉ X.fs
  s0 : X.s₀.heap.get? b = none
  cel : ∀ x c, X.env.cells.lookup x = some c → c ≠ b
  pin : ∀ p ∈ X.pn ++ pins, p.1 ≠ b
section
variable {X : Cx} {pins : List (Addr × Obj)} {σ : St} {H H' : Hp} {s s' : Shared} {b : Addr}
theorem Inv.newX (I : Inv X pins σ H s) (hx : X.ex = []) (hb : s.heap.get? b = none) (hn : H' b = none) : NewX X pins H' b := by
  have no : ∀ {o : Obj}, s.heap.get? b = some o → False := fun q => by rw [hb] at q; cases q
  refine ⟨hn, fun z => ?_, fun z => ?_, ?_, fun x c e z => ?_, fun p hp z => ?_⟩
  · obtain ⟨m, ⟨o, _, _, ho, _⟩, _⟩ := I.loc
    rw [← z] at ho
    exact no ho
  · obtain ⟨_, o, q, _⟩ := I.funs.mem z
    exact no q
  · cases q : X.s₀.heap.get? b with
    | none => rfl
    | some o =>
      obtain ⟨o', z⟩ := I.base.there b o q (by rw [hx]; exact List.not_mem_nil)
      exact (no z).elim
  · obtain ⟨v, o, ho, _⟩ := I.cell x c e
    rw [z] at ho
    exact no ho
  · have q := (I.pin p hp).1
    rw [z] at q
    exact no q
theorem Inv.chg {S : List Addr} {h' : Heap} {t' : Nat} (I : Inv X pins σ H s) (c : Chg (frs X.stack) S s.heap h') (hS : ∀ b ∈ S, NewX X pins H b) (hH : ∀ b, b ∉ S → H' b = H b) (hk : HOk X.prog X.w H' h') :
    Inv X pins σ H' { s with heap := h', toks := t' } := by
  have nS : ∀ b o, X.s₀.heap.get? b = some o → b ∉ S := fun b o q z => by rw [(hS b z).s0] at q; cases q
  have kp : ∀ b o, b ≠ X.env.locals → b ∉ X.fs → b ∉ S → s.heap.get? b = some o → h'.get? b = some o := fun b o h1 h2 h3 q => (c b o q h3).1 fun z => (List.mem_cons.mp (I.stkSub b z)).elim h1 h2
  have sl : ∀ b o, b ∉ S → s.heap.get? b = some o → ∃ sl, h'.get? b = some { o with slots := sl } := fun b o h3 q => (c b o q h3).2
  have trS : ∀ b o, H b = some o → b ∉ S := fun b o q z => by rw [(hS b z).un] at q; cases q
  have nL : ∀ b o, X.s₀.heap.get? b = some o → b ≠ X.env.locals := fun b o q => Nat.ne_of_lt (Nat.lt_of_lt_of_le (Heap.lt_size q) I.ok.above)
  have cl : ∀ x k, X.env.cells.lookup x = some k → ∀ v, s.heap.IsCell k v → h'.IsCell k v := fun x k e v ⟨o, ho, hd⟩ => by
    obtain ⟨sl', q⟩ := sl k o (fun z => (hS k z).cel x k e rfl) ho
    exact ⟨_, q, hd⟩
  refine ⟨I.ok, I.os, I.bare, ⟨fun b o q n hb hx => kp b o (nL b o q) hb (nS b o q) (I.base.keep b o q n hb hx), fun b o q n hb hx => ?_, fun b o q n hx => (hH b (nS b o q)).trans (I.base.free b o q n hx), fun b o q hx => ?_,
    fun b xs q => ?_, fun b o xs q => ?_, fun b ps q => ?_⟩, ?_, fun x k e => ?_, ?_, fun x k e => ?_, fun p hp => ?_, hk, I.len⟩
  · obtain ⟨sl1, e1⟩ := I.base.slot b o q n hb hx
    obtain ⟨sl2, e2⟩ := sl b _ (nS b o q) e1
    exact ⟨sl2, e2⟩
  · obtain ⟨o', e1⟩ := I.base.there b o q hx
    obtain ⟨sl2, e2⟩ := sl b o' (nS b o q) e1
    exact ⟨_, e2⟩
  · have z := I.base.tups b xs q
    rw [hH b (trS b _ z)]
    exact z
  · have z := I.base.frzs b o xs q
    rw [hH b (trS b _ z)]
    exact z
  · obtain ⟨m, z⟩ := I.base.tbls b ps q
    exact ⟨m, by rw [hH b (trS b _ z)]; exact z⟩
  · obtain ⟨m, hn, hl⟩ := I.loc
    obtain ⟨o, es, ep, ho, r⟩ := hn
    obtain ⟨sl', q⟩ := sl _ o (fun z => (hS _ z).loc rfl) ho
    refine ⟨m, ⟨_, es, ep, q, r⟩, fun i x v e1 e2 e3 => ?_⟩
    obtain ⟨u, ru, l⟩ := hl i x v e1 e2 e3
    refine ⟨u, ru, ?_⟩
    rcases l with l | ⟨k, c', e, z⟩
    · exact .inl l
    · exact .inr ⟨k, c', e, cl x c' e _ z⟩
  · obtain ⟨v, z⟩ := I.cell x k e
    exact ⟨v, cl x k e v z⟩
  · rw [hH _ fun z => (hS _ z).loc rfl]
    exact I.free
  · rw [hH _ fun z => (hS _ z).cel x k e rfl]
    exact I.freeC x k e
  · obtain ⟨e, n, ne, nf, d⟩ := I.pin p hp
    have nb : p.1 ∉ S := fun z => (hS _ z).pin p hp rfl
    exact ⟨kp p.1 p.2 ne nf nb e, (hH _ nb).trans n, ne, nf, d⟩
end
def CX1 (P : Program) (w : World) : CXT := fun outer H s E e s' => ∃ (a T : Addr) (cls : Value) (dd : Option Addr) (H' : Hp), e = .ref a ∧ s'.os = s.os ∧ AllBare s'.gens ∧ Un (frs outer) [] H H' s.heap s'.heap ∧
  HOk P w H' s'.heap ∧ s.heap.get? a = none ∧ s.heap.get? T = none ∧ H' a = none ∧ H' T = none ∧ ExT s'.heap a T cls dd .none ∧ E cls dd H'
def Flies (X : Cx) (E : St → XK) : Prop := ∀ (pins : List (Addr × Obj)) (σ : St) (H : Hp) (s : Shared) (a T : Addr) (cls : Value) (dd : Option Addr), Inv X pins σ H s → NewX X pins H a → NewX X pins H T → ExT s.heap a T cls dd .none →
  E σ cls dd H → X.xe (.ref a) s
def Raises (X : Cx) (E : St → XK) : Prop := ∀ (pins : List (Addr × Obj)) (σ : St) (H : Hp) (s : Shared) (a : Addr) (cls : Value) (dd : Option Addr), Inv X pins σ H s → NewX X pins H a → ExN s.heap a cls dd → E σ cls dd H → X.xe (.ref a) s
theorem flies0 {X : Cx} : Flies X fun _ => E0 := fun _ _ _ _ _ _ _ _ _ _ _ _ h => h.elim
section
variable {X : Cx} {pins : List (Addr × Obj)} {σ : St} {H : Hp} {s : Shared}
theorem leave_fin {E : XK} {a T : Addr} {cls : Value} {dd : Option Addr} {S : List Addr} {h' : Heap} (I : Inv X pins σ H s) (hst : X.stack = X.env :: X.outer) (hx : X.ex = []) (hn : NewX X pins H a)
    (hS : ∀ b ∈ S, NewX X pins H b) (c : Chg (frs (X.env :: X.outer)) S s.heap h') (nT : s.heap.get? T = none) (x : ExT h' a T cls dd .none) (e : E cls dd H) :
    CX1 X.prog X.w X.outer X.H₀ X.s₀ E (.ref a) { s with heap := h' } := by
  have J := I.chg (t' := s.toks) (by rw [hst]; exact c) hS (fun _ _ => rfl) (I.hok.chg c (by rw [← hst]; exact I.stkFree) fun b hb => (hS b hb).un)
  have nx := I.newX hx nT (I.hok.none_of nT)
  have b := J.base
  rw [hx] at b
  exact ⟨a, T, cls, dd, H, rfl, I.os, I.bare, b, J.hok, hn.s0, nx.s0, hn.un, nx.un, x, e⟩
end
section
variable {P : Program} {w : World} {K : PySem.W.Frag} {mg : Str → Option Value} {base : Heap} {N : List Str} {qual : Str} {scope : Scope} {f : Addr} {cd : Value} {A : Around} {outer : List Env} {s : Shared} {H : Hp} {E : XK}
theorem raises_def : Raises (cxOf (CX1 P w) P w K mg base N qual scope f cd A outer s H E) fun _ => E := fun pins σ H' s' a cls dd I na x e =>
  leave_new I.ok.frames I.stack rfl x fun h' T' c n' x' => leave_fin (S := [a]) I rfl rfl na (fun b hb => by
    rw [List.mem_singleton.mp hb]
    exact na) c n' x' e
end
def DefOkX (P : Program) (w : World) (K : PySem.W.Frag) (mg : Str → Option Value) (base : Heap) (k : Nat) (x : Str) (ps : List Str) (sp : Sp) : Prop :=
  ∃ f fd, FnOk P w K mg base (CX1 P w) k f fd ps sp ∧ Binds K fd ps [] ∧ PySem.W.keepIn K (.ref f) = true ∧ mg x = some (.ref f)
theorem DefOkX.mono {P : Program} {w : World} {K : PySem.W.Frag} {mg : Str → Option Value} {base : Heap} {j k : Nat} {x : Str} {ps : List Str} {sp : Sp} (D : DefOkX P w K mg base j x ps sp) (h : j ≤ k) : DefOkX P w K mg base k x ps sp := by
  obtain ⟨f, fd, F, r⟩ := D
  exact ⟨f, fd, F.mono h, r⟩
theorem Txt1.okX {P : Program} {w : World} {K : PySem.W.Frag} {mg : Str → Option Value} {base : Heap} {x : Str} {st : Stmt} {N ps : List Str} {k : Nat} {sp : Sp} (F : Txt1 K mg x st ps) (S : FnScope N ps (defScope st)) (len : ∀ vs H Q E, sp vs H Q E → vs.length = ps.length)
    (hbody : ∀ (f : Addr) (cdv : Value) (A : Around) (outer : List Env) (s : Shared) (H : Hp) (vs : List V) (Q : VK) (E : XK), Room k (A.deeper (envOfC x (defScope st) s.heap.objs.size f cdv)) → sp vs H Q E →
      ∃ t, PSs (cxOf (CX1 P w) P w K mg base N x (defScope st) f cdv A outer s H E) (defBody st) t ∧ t { nx := fun _ H' => Q .non H', rt := Q } (start N vs) H) : DefOkX P w K mg base (k + 1) x ps sp := by
  obtain ⟨f, fd, F, b, m⟩ := F.ex
  refine ⟨f, fd, ?_, b, F.kp, m⟩
  obtain ⟨oc, od, kV, doc, pm, an, cdv, ct, osl, rfl, lk, hcd⟩ := F.ex
  exact fn_of lk hcd S len fun A outer s H vs Q E hr hsp => hbody f cdv A outer s H vs Q E hr hsp
def tCallX (sp : Sp) (E : St → XK) (t : TA) : TE := fun σ H Q => t σ H fun vs H1 => sp vs H1 Q (E σ)
section
variable {X : Cx} {k : Nat} {x : Str} {ps : List Str} {sp : Sp} {e : Expr} {es : List Expr} {t : TA} {te : TE} {p pos : Pos} {E : St → XK}
theorem run_fnX {f : Addr} {fd : FuncData} {pins : List (Addr × Obj)} {σ : St} {H : Hp} {s : Shared} {Q : VK} {us : List Value} {vs : List V} (F : FnOk X.prog X.w X.K X.mg X.base (CX1 X.prog X.w) k f fd ps sp) (hr : Room k X.A) (hb : Binds X.K fd ps []) (hx : X.ex = [])
    (fl : Flies X E) (I : Inv X pins σ H s) (r : Vals vs us) (h : sp vs H Q (E σ)) : wpAny (model X.prog X.w) X.A (call (.ref f) us) (EP X pins σ Q) X.xe s := by
  have hl : (us ++ []).length = ps.length := by rw [List.append_nil, ← r.length]; exact F.len _ _ _ _ h
  refine wpAny_call (codeAny_mono (F.run X.A X.stack s H ⟨us, []⟩ (us ++ []) vs Q (E σ) hr I.env0 (hb s us I.kIn hl) (by rw [List.append_nil]; exact r) h) fun r s' hq => ?_)
  cases r with
  | error e =>
    obtain ⟨a, T, cls, dd, H', rfl, os, bare, un, hok, na, nT, ha, hT, ex, he⟩ := hq
    have J : Inv X pins σ H' s' := I.call' (ch := []) os un hok bare fun b z => absurd z (by simp)
    have n1 := I.newX hx na ha
    have n2 := I.newX hx nT hT
    exact fl pins σ H' s' a T cls dd J n1 n2 ex he
  | ok fl =>
    cases fl with
    | ret u => exact I.after hq
    | next => exact False.elim hq
    | brk => exact False.elim hq
    | cont => exact False.elim hq
theorem pe_callX (D : DefOkX X.prog X.w X.K X.mg X.base k x ps sp) (hr : Room k X.A) (hg : Gl X x) (fl : Flies X E) (ha : PA X (e :: es) t) (hx : X.ex = [] := by rfl) (hdb : (x == ("__debug__" : Str)) = false := by decide)
    (he : starEach (e :: es) X.env = (false, eval e X.env) :: starEach es X.env := by rfl) (hpl : (backTo pos (starEach es X.env)).any (·.1) = false := by rfl) : PE X (.Call (.Name x p) (e :: es) [] pos) (tCallX sp E t) := by
  obtain ⟨f, fd, F, b, kp, m⟩ := D
  intro pins s σ H Q I h
  refine wpAny_Call_Name_kw (ld_glob I hg m ?_ hdb)
  exact PySem.W.callWith_K (h₀ := X.base) I.ok.mod.kin kp (thn (ha pos pins s σ H _ I h) fun us s1 ⟨vs, H1, I1, r, q⟩ => ⟨I1.kIn, run_fnX F hr b hx fl I1 r q⟩) he hpl
end
structure XCls (K : PySem.W.Frag) (C : Addr) : Prop where
  ex : PySem.W.excIn K C [.type "ValueError", .type "Exception", .type "BaseException", .type "object"] "ValueError.__new__" = true
  ga : PySem.W.findIn K (.ref C) "__getattribute__" = some (some (.builtin "BaseException.__getattribute__"))
  gh : PySem.W.findIn K (.ref C) "__getattr__" = some none
  be : PySem.W.mroIn K C (.type "BaseException") = some true
  hd : PySem.W.hasDictIn K C = true
  fc : PySem.W.findIn K (.ref C) "__class__" = some (some (.builtin "object.__class__"))
  sg : PySem.W.specialIn K (.builtin "object.__class__") "__get__" = some (some (.builtin "getset_descriptor.__get__"))
  tk : PySem.W.takesIn K (.builtin "object.__class__") = some true
  mo : PySem.W.mroIn K C (.type "object") = some true
theorem exc_obj {K : PySem.W.Frag} {C : Addr} {bmB : List Value} {newId : String} {h : Heap} (X : K.In h) (q : PySem.W.excIn K C bmB newId = true) :
    ∃ bm N nm q bs hdct sn sub ab col dd k0 k1 k2 k3 k5 mN, h.get? C = some (excClassObj nm q C N bs bm hdct sn sub ab col dd k0 k1 k2 k3 k5 newId) ∧ h.Ns N mN ∧ mN "__init__" = none ∧ OwnTail h bmB bm := by
  unfold PySem.W.excIn at q
  split at q
  case h_2 => cases q
  case h_1 dd cd sl ho =>
    split at q
    case h_2 => cases q
    case h_1 C' bm k0 k1 k2 k3 n k5 hm hs =>
      simp only [Bool.and_eq_true, beq_iff_eq, Bool.not_eq_true'] at q
      obtain ⟨⟨⟨⟨⟨e1, e2⟩, nd⟩, ht⟩, ok⟩, ni⟩ := q
      subst e1 e2
      obtain ⟨nm, bs, mro, ns, qn, hd, sn, sub, ab, col, del⟩ := cd
      obtain ⟨l⟩ := sl
      dsimp only at hm hs nd ok ni
      subst hm hs nd
      exact ⟨bm, ns, nm, qn, bs, hd, sn, sub, ab, col, dd, k0, k1, k2, k3, k5, _, X _ _ ho, .of_isNs (PySem.W.isNs_of_in X ok), PySem.W.nsMap_none_of_in X ok ni, PySem.W.tail_of_in X ht⟩
def tRaise (C : Addr) (E : St → XK) (t : TA) : TS := fun _ σ H => t σ H fun vs H1 => vs.length ≤ sizeLine ∧ E σ (.ref C) none H1
theorem ps_raise {X : Cx} {C : Addr} {x : Str} {e : Expr} {es : List Expr} {t : TA} {E : St → XK} {np cpos pos : Pos} (c : XCls X.K C) (hm : X.mg x = some (.ref C)) (hg : Gl X x) (rs : Raises X E) (ha : PA X (e :: es) t) (hc : X.calm = true := by rfl) (hx : X.ex = [] := by rfl)
    (hdb : (x == ("__debug__" : Str)) = false := by decide) (he : starEach (e :: es) X.env = (false, eval e X.env) :: starEach es X.env := by rfl) (hpl : (backTo cpos (starEach es X.env)).any (·.1) = false := by rfl) :
    PS X (.Raise (some (.Call (.Name x np) (e :: es) [] cpos)) none pos) (tRaise C E t) := by
  intro pins s σ H D I h
  obtain ⟨bm, N, nm, q, bs, hdct, sn, sub, ab, col, dd, k0, k1, k2, k3, k5, mN, hC, hN, hni, T⟩ := exc_obj I.mod.kin c.ex
  refine wpAny_Raise_call_subT (C := C) (nm := nm) (q := q) (N := N) (bs := bs) (bm := bm) (hdct := hdct) (sn := sn) (sub := sub) (ab := ab) (col := col) (dd := dd) (k0 := k0) (k1 := k1) (k2 := k2) (k3 := k3) (k5 := k5) PySem.F.excBase_ValueError
    (T.hasType PySem.F.excBase_ValueError.hasBase) (I.ok.hd hc) (by rw [he]; show (false || (backTo cpos (starEach es X.env)).any (·.1)) = false; rw [hpl]; rfl) hni (ld_glob I hg hm ⟨rfl, ?_⟩ hdb)
  have w := ha cpos pins s σ H _ I h
  rw [he] at w ⊢
  refine Calls.evalArgs_plain (thn w fun us s2 ⟨vs, H2, I2, r, z, q2⟩ => ⟨rfl, by rw [← r.length]; exact z, I2.bk _ _ hC, hN.keeps I2.bk, T.keeps I2.bk, fun h' a me => ?_⟩)
  obtain ⟨t', ht, _, _⟩ := me.there
  have na := I2.newX hx me.new (I2.hok.none_of me.new)
  exact rs pins σ H2 _ a (.ref C) none (I2.kept (t' := s2.toks) me.keeps) na ⟨_, _, ht, rfl, rfl, rfl, rfl⟩ q2
abbrev Cx.wpn (X : Cx) (pn : List (Addr × Obj)) : Cx := { X with pn := pn }
def tryXe (X : Cx) (pn : List (Addr × Obj)) (R : St → XK) : Value → Shared → Prop := fun e s' => ∃ (σ : St) (H : Hp) (a T : Addr) (cls : Value) (dd : Option Addr), e = .ref a ∧ Inv (X.wpn pn) [] σ H s' ∧
  NewX (X.wpn pn) [] H a ∧ NewX (X.wpn pn) [] H T ∧ ExT s'.heap a T cls dd .none ∧ R σ cls dd H
abbrev Cx.tryC (X : Cx) (pn : List (Addr × Obj)) (R : St → XK) : Cx := { X with pn := pn, xe := tryXe X pn R }
abbrev Cx.caught (X : Cx) (a : Addr) : Cx := { X with A := X.A.mark (some (.ref a)), calm := false, xe := fun _ _ => False }
section
variable {X : Cx} {pins : List (Addr × Obj)} {σ : St} {H : Hp} {s : Shared} {a : Addr} {R : St → XK} {D : Ends} {f : Flow}
theorem Inv.toTry (I : Inv X pins σ H s) : Inv (X.tryC (X.pn ++ pins) R) [] σ H s :=
  ⟨⟨I.ok.mod, I.ok.kind, I.ok.glob, I.ok.blt, I.ok.above, I.ok.inj, I.ok.has, I.ok.cab, I.ok.hd, I.ok.frames, I.ok.stk, I.ok.exf, I.ok.bs, I.ok.bsz, I.ok.noex, I.ok.exfs, I.ok.funs, I.ok.frf⟩,
    I.os, I.bare, I.base, I.loc, I.cell, I.free, I.freeC, fun p hp => I.pin p (by rw [List.append_nil] at hp; exact hp), I.hok, I.len⟩
theorem Inv.ofPn {Y : Cx} (I : Inv (X.wpn (X.pn ++ pins)) [] σ H s) : Inv X pins σ H s :=
  ⟨⟨I.ok.mod, I.ok.kind, I.ok.glob, I.ok.blt, I.ok.above, I.ok.inj, I.ok.has, I.ok.cab, I.ok.hd, I.ok.frames, I.ok.stk, I.ok.exf, I.ok.bs, I.ok.bsz, I.ok.noex, I.ok.exfs, I.ok.funs, I.ok.frf⟩,
    I.os, I.bare, I.base, I.loc, I.cell, I.free, I.freeC, fun p hp => I.pin p (by rw [List.append_nil]; exact hp), I.hok, I.len⟩
theorem Inv.ofTry (I : Inv (X.tryC (X.pn ++ pins) R) [] σ H s) : Inv X pins σ H s :=
  ⟨⟨I.ok.mod, I.ok.kind, I.ok.glob, I.ok.blt, I.ok.above, I.ok.inj, I.ok.has, I.ok.cab, I.ok.hd, I.ok.frames, I.ok.stk, I.ok.exf, I.ok.bs, I.ok.bsz, I.ok.noex, I.ok.exfs, I.ok.funs, I.ok.frf⟩,
    I.os, I.bare, I.base, I.loc, I.cell, I.free, I.freeC, fun p hp => I.pin p (by rw [List.append_nil]; exact hp), I.hok, I.len⟩
theorem flies_try {pn : List (Addr × Obj)} : Flies (X.tryC pn R) R := fun pins σ H s a T cls dd I na nT x e =>
  ⟨σ, H, a, T, cls, dd, rfl, ⟨⟨I.ok.mod, I.ok.kind, I.ok.glob, I.ok.blt, I.ok.above, I.ok.inj, I.ok.has, I.ok.cab, I.ok.hd, I.ok.frames, I.ok.stk, I.ok.exf, I.ok.bs, I.ok.bsz, I.ok.noex, I.ok.exfs, I.ok.funs, I.ok.frf⟩,
    I.os, I.bare, I.base, I.loc, I.cell, I.free, I.freeC, fun p hp => I.pin p (by rw [List.append_nil] at hp; exact List.mem_append_left _ hp), I.hok, I.len⟩,
    ⟨na.un, na.loc, na.fs, na.s0, na.cel, fun p hp => na.pin p (by rw [List.append_nil] at hp; exact List.mem_append_left _ hp)⟩, ⟨nT.un, nT.loc, nT.fs, nT.s0, nT.cel, fun p hp => nT.pin p (by rw [List.append_nil] at hp; exact List.mem_append_left _ hp)⟩, x, e⟩
theorem Inv.caught (I : Inv X pins σ H s) : Inv (X.caught a) pins σ H s :=
  ⟨⟨I.ok.mod, I.ok.kind, I.ok.glob, I.ok.blt, I.ok.above, I.ok.inj, I.ok.has, I.ok.cab, (fun z => nomatch z), I.ok.frames, I.ok.stk, I.ok.exf, I.ok.bs, I.ok.bsz, I.ok.noex, I.ok.exfs, I.ok.funs, I.ok.frf⟩,
    I.os, I.bare, I.base, I.loc, I.cell, I.free, I.freeC, I.pin, I.hok, I.len⟩
theorem Inv.ofCaught (hd : X.calm = true → X.A.handled = none) (I : Inv (X.caught a) pins σ H s) : Inv X pins σ H s :=
  ⟨⟨I.ok.mod, I.ok.kind, I.ok.glob, I.ok.blt, I.ok.above, I.ok.inj, I.ok.has, I.ok.cab, hd, I.ok.frames, I.ok.stk, I.ok.exf, I.ok.bs, I.ok.bsz, I.ok.noex, I.ok.exfs, I.ok.funs, I.ok.frf⟩,
    I.os, I.bare, I.base, I.loc, I.cell, I.free, I.freeC, I.pin, I.hok, I.len⟩
theorem SP.ofTry (h : SP (X.tryC (X.pn ++ pins) R) [] D f s) : SP X pins D f s := by
  cases f with
  | next => obtain ⟨σ', H', J, q⟩ := h; exact ⟨σ', H', J.ofTry, q⟩
  | brk => obtain ⟨σ', H', J, q⟩ := h; exact ⟨σ', H', J.ofTry, q⟩
  | cont => obtain ⟨σ', H', J, q⟩ := h; exact ⟨σ', H', J.ofTry, q⟩
  | ret u => obtain ⟨v, σ', H', J, r, q⟩ := h; exact ⟨v, σ', H', J.ofTry, r, q⟩
end
abbrev TH := Ends → Value → Option Addr → St → Hp → Prop
def PH (X : Cx) (hs : List ExceptHandler) (th : TH) : Prop := ∀ (pins : List (Addr × Obj)) (σ : St) (H : Hp) (s : Shared) (a T : Addr) (cls : Value) (dd : Option Addr) (D : Ends), Inv X pins σ H s → NewX X pins H a → NewX X pins H T → ExT s.heap a T cls dd .none →
  th D cls dd σ H → wpAny (model X.prog X.w) X.A (handleBy (.ref a) X.env hs) (SP X pins D) X.xe s
def tTry (tb : (St → XK) → TS) (th : TH) : TS := fun D σ H => tb (fun σ' cls dd H' => th D cls dd σ' H') D σ H
theorem ps_try {X : Cx} {body : List Stmt} {h₀ : ExceptHandler} {hs : List ExceptHandler} {pos : Pos} {tb : (St → XK) → TS} {th : TH} (hb : ∀ pn R, PSs (X.tryC pn R) body (tb R)) (hh : PH X (h₀ :: hs) th)
    (hst : X.stack = X.env :: X.outer := by rfl) (hx : X.ex = [] := by rfl) (hf : X.env.frame = some X.env.locals := by rfl) : PS X (.Try body (h₀ :: hs) [] [] pos) (tTry tb th) := by
  intro pins s σ H D I h
  refine wpAny_Try_except (wpAny_mono (hb (X.pn ++ pins) _ [] s σ H D I.toTry h) (fun f s1 q => ?_) fun e s1 q => ?_)
  · have q := q.ofTry
    cases f with
    | next => exact wpAny_execs_nil q
    | brk => exact q
    | cont => exact q
    | ret u => exact q
  · obtain ⟨σ1, H1, a, T, cls, dd, rfl, J, na, nT, x, r⟩ := q
    have J := J.ofPn (Y := X)
    have na' : NewX X pins H1 a := ⟨na.un, na.loc, na.fs, na.s0, na.cel, fun p hp => na.pin p (by rw [List.append_nil]; exact hp)⟩
    have nT' : NewX X pins H1 T := ⟨nT.un, nT.loc, nT.fs, nT.s0, nT.cel, fun p hp => nT.pin p (by rw [List.append_nil]; exact hp)⟩
    have hfr : X.A.frames = some (X.env :: X.outer) := by rw [← hst]; exact J.ok.frames
    have hl : s1.heap.FunFrames X.base (X.env :: X.outer) := by rw [← hst]; exact J.stack
    refine note_on hfr hl hf x fun h1 T' c n' x' => flight_none x' fun h2 c2 x2 => ?_
    have c3 : Chg (frs X.stack) [a, T] s1.heap h2 := by
      rw [hst]
      refine c.trans (c2 _) fun b o q nb => ⟨nb, fun z => ?_⟩
      rw [List.mem_singleton.mp z, n'] at q
      cases q
    have hS : ∀ b ∈ [a, T], NewX X pins H1 b := fun b hb => by
      simp only [List.mem_cons, List.not_mem_nil, or_false] at hb
      rcases hb with rfl | rfl
      · exact na'
      · exact nT'
    have J2 := J.chg (t' := s1.toks) c3 hS (fun _ _ => rfl) (J.hok.chg c3 J.stkFree fun b hb => (hS b hb).un)
    exact hh pins σ1 H1 _ a T' cls dd D J2 na' (J.newX hx n' (J.hok.none_of n')) x2 r
def ExcIs (a : Addr) (cls : Value) (dd : Option Addr) (h : Heap) : Prop := ∃ oe vs, h.get? a = some oe ∧ oe.cls = cls ∧ oe.dict = dd ∧ oe.data = .fields vs
def unset (D : Ends) (i : Nat) : Ends := { nx := fun σ H => D.nx (σ.set i none) H, rt := D.rt, bk := fun σ H => D.bk (σ.set i none) H, ct := fun σ H => D.ct (σ.set i none) H }
def hAs (K : PySem.W.Frag) (C : Addr) (i : Nat) (ts : TS) (thr : TH) : TH := fun D cls dd σ H => ∃ b, PySem.W.exmOne K cls (.ref C) = some b ∧
  if b = true then ∀ a, H a = none → ts (unset D i) (σ.set i (some (.ref a))) (upd H a (.ext (ExcIs a cls dd))) else thr D cls dd σ H
def hNo (K : PySem.W.Frag) (C : Addr) (ts : TS) (thr : TH) : TH := fun D cls dd σ H => ∃ b, PySem.W.exmOne K cls (.ref C) = some b ∧ if b = true then ts D σ H else thr D cls dd σ H
theorem ph_nil {X : Cx} : PH X [] fun _ _ _ _ _ => False := fun _ _ _ _ _ _ _ _ _ _ _ _ _ h => h.elim
section
variable {X : Cx} {pins : List (Addr × Obj)} {σ : St} {H : Hp} {s : Shared} {a T : Addr} {cls : Value} {dd : Option Addr}
theorem Inv.goes {M : Model} {A : Around} {E : Value → Shared → Prop} {i : Nat} {n : Str} {pos : Pos} {Q : Unit → Shared → Prop} (I : Inv X pins σ H s) (hN : X.N.Nodup) (hi : X.N[i]? = some n) (hk : X.env.scope.names.lookup n = some .local)
    (h : ∀ s', Inv X pins (σ.set i none) H s' → Q () s') : wpAny M A (do bindName X.env n .none; unbindBehindTheSuite X.env n pos) Q E s := by
  obtain ⟨m, hn, hl⟩ := id I.loc
  have hcls : (X.env.scope.kind == .class || (X.env.scope.kind == .module && X.env.locals != X.env.globals)) = false := by rw [I.ok.kind]; rfl
  have hiσ : i < σ.length := by rw [I.len]; exact (List.getElem?_eq_some_iff.mp hi).1
  obtain ⟨oL, _, _, hoL, _⟩ := id hn
  refine wpAny_nameGoes_keeps hk hn hcls fun h' v hn' hs => h _ ?_
  have nL : ∀ b o, X.s₀.heap.get? b = some o → b ≠ X.env.locals := fun b o q => Nat.ne_of_lt (Nat.lt_of_lt_of_le (Heap.lt_size q) I.ok.above)
  refine ⟨I.ok, I.os, I.bare, ⟨fun b o e n hb hx => (hs.2 b (nL b o e)).trans (I.base.keep b o e n hb hx), fun b o e n hb hx => ?_, I.base.free, fun b o e hx => ?_, I.base.tups, I.base.frzs, I.base.tbls⟩, ⟨_, hn', fun j y v' e1 e2 e3 => ?_⟩, fun y c e => ?_, I.free, I.freeC,
    fun p hp => ?_, fun b ob e => ?_, by simpa using I.len⟩
  · obtain ⟨sl, e1⟩ := I.base.slot b o e n hb hx
    exact ⟨sl, (hs.2 b (nL b o e)).trans e1⟩
  · obtain ⟨o', e1⟩ := I.base.there b o e hx
    exact ⟨o', (hs.2 b (nL b o e)).trans e1⟩
  · by_cases hj : j = i
    · subst hj
      rw [List.getElem?_set_self hiσ] at e2
      cases e2
    · rw [List.getElem?_set_ne (Ne.symm hj)] at e2
      obtain ⟨u', r', q⟩ := hl j y v' e1 e2 e3
      refine ⟨u', r', ?_⟩
      rcases q with ⟨k, e⟩ | ⟨k, c, e, z⟩
      · refine .inl ⟨k, ?_⟩
        have : y ≠ n := fun e => hj (nodup_ix hN e1 (e ▸ hi))
        simp [this, e]
      · exact .inr ⟨k, c, e, z.sameBut hs (I.cne y c e)⟩
  · obtain ⟨w', z⟩ := I.cell y c e
    exact ⟨w', z.sameBut hs (I.cne y c e)⟩
  · obtain ⟨e, n, ne, nf, d⟩ := I.pin p hp
    exact ⟨(hs.2 p.1 ne).trans e, n, ne, nf, d⟩
  · refine (I.hok b ob e).stay (fun c w' hc q => (hs.2 c ?_).trans q) (fun _ q => q) fun _ _ q => q
    rintro rfl
    have fr := I.free
    rcases hc with rfl | hc
    · rw [fr] at e; cases e
    · rw [fr] at hc; cases hc
theorem SP.goes {M : Model} {A : Around} {E : Value → Shared → Prop} {i : Nat} {n : Str} {pos : Pos} {D : Ends} {f : Flow} (hd : X.calm = true → X.A.handled = none) (hN : X.N.Nodup) (hi : X.N[i]? = some n) (hk : X.env.scope.names.lookup n = some .local)
    (h : SP (X.caught a) pins (unset D i) f s) : wpAny M A (do bindName X.env n .none; unbindBehindTheSuite X.env n pos) (fun _ s' => SP X pins D f s') E s := by
  cases f with
  | next => obtain ⟨σ', H', J, q⟩ := h; exact (J.ofCaught hd).goes hN hi hk fun s' J' => ⟨_, H', J', q⟩
  | brk => obtain ⟨σ', H', J, q⟩ := h; exact (J.ofCaught hd).goes hN hi hk fun s' J' => ⟨_, H', J', q⟩
  | cont => obtain ⟨σ', H', J, q⟩ := h; exact (J.ofCaught hd).goes hN hi hk fun s' J' => ⟨_, H', J', q⟩
  | ret u => obtain ⟨v, σ', H', J, r, q⟩ := h; exact (J.ofCaught hd).goes hN hi hk fun s' J' => ⟨v, _, H', J', r, q⟩
theorem SP.ofCaught {D : Ends} {f : Flow} (hd : X.calm = true → X.A.handled = none) (h : SP (X.caught a) pins D f s) : SP X pins D f s := by
  cases f with
  | next => obtain ⟨σ', H', J, q⟩ := h; exact ⟨σ', H', J.ofCaught hd, q⟩
  | brk => obtain ⟨σ', H', J, q⟩ := h; exact ⟨σ', H', J.ofCaught hd, q⟩
  | cont => obtain ⟨σ', H', J, q⟩ := h; exact ⟨σ', H', J.ofCaught hd, q⟩
  | ret u => obtain ⟨v, σ', H', J, r, q⟩ := h; exact ⟨v, σ', H', J.ofCaught hd, r, q⟩
theorem ExT.ty {M : Model} {fl : Value} {h : Heap} (x : ExT h a T cls dd fl) : PySem.W.Looks M h (typeOf (.ref a)) cls := by
  obtain ⟨oe, vs, oT, ts, he, hc, _⟩ := x
  exact hc ▸ (PySem.W.Looks.ld he).andThen .now
theorem Inv.track {h' : Heap} {t' : Nat} {fl : Value} (I : Inv X pins σ H s) (na : NewX X pins H a) (nT : NewX X pins H T) (c : ∀ F, Chg F [T] s.heap h') (x : ExT h' a T cls dd fl) : Inv X pins σ (upd H a (.ext (ExcIs a cls dd))) { s with heap := h', toks := t' } := by
  have hS : ∀ b ∈ [a, T], NewX X pins H b := fun b hb => by
    simp only [List.mem_cons, List.not_mem_nil, or_false] at hb
    rcases hb with rfl | rfl
    · exact na
    · exact nT
  have c' : Chg (frs X.stack) [a, T] s.heap h' := fun b o q n => c _ b o q fun z => n (List.mem_cons_of_mem _ z)
  have ok := I.hok.chg c' I.stkFree fun b hb => (hS b hb).un
  refine I.chg c' hS (fun b nb => upd_ne fun z => nb (by rw [z]; exact List.mem_cons_self)) fun b o e => ?_
  by_cases hb : b = a
  · subst hb
    rw [upd_same] at e
    cases e
    obtain ⟨oe, vs, oT, ts, he, hc, hd, hv, _⟩ := x
    refine ⟨⟨oe, vs, he, hc, hd, hv⟩, ⟨oe, he⟩, fun h1 h2 ⟨oe, vs, he, r⟩ k => ⟨oe, vs, k oe he, r⟩⟩
  · rw [upd_ne hb] at e
    exact (ok b o e).stay (fun _ _ _ q => q) (fun c' q => by rw [upd_ne (ne_of_none q na.un)]; exact q) fun c' xs q => by rw [upd_ne (ne_of_none q na.un)]; exact q
end
section
variable {X : Cx} {C : Addr} {x n : Str} {i : Nat} {np pos : Pos} {b₀ : Stmt} {body : List Stmt} {rest : List ExceptHandler} {ts : TS} {thr : TH}
theorem ph_as (hm : X.mg x = some (.ref C)) (hg : Gl X x) (hN : X.N.Nodup) (hi : X.N[i]? = some n) (hk : X.env.scope.names.lookup n = some .local) (hs : ∀ a, PSs (X.caught a) (b₀ :: body) ts) (hr : PH X rest thr)
    (hf : X.fn n = true ∨ X.env.scope.names.lookup n = some .local := by first | exact .inl rfl | exact .inr rfl | assumption) (hdb : (x == ("__debug__" : Str)) = false := by decide) :
    PH X (.ExceptHandler (some (.Name x np)) (some n) (b₀ :: body) pos :: rest) (hAs X.K C i ts thr) := by
  intro pins σ H s a T cls dd D I na nT ex h
  obtain ⟨b, em, h⟩ := h
  refine wpAny_handleBy_cons (codeAny_handlers_test (ld_glob (X := X.caught a) I.caught hg hm ((PySem.W.exm_one I.kIn ex.ty em).here ?_) hdb)) (by intro q; cases q)
  cases b with
  | false => exact hr pins σ H s a T cls dd D I na nT ex h
  | true =>
    refine codeAny_handlers_suite_as (flight_none ex fun h1 c1 x1 => ?_)
    have J := I.track (t' := s.toks) na nT c1 x1
    refine store_ok (X := X.caught a) (v := .ref a) J.caught hN hi (Or.inl hk) rfl (fun s2 J2 => ?_) hf
    exact wpAny_mono (hs a pins s2 _ _ (unset D i) J2 (h a na.un)) (fun f s3 q => SP.goes I.ok.hd hN hi hk q) fun _ _ z => z.elim
theorem ph_no (hm : X.mg x = some (.ref C)) (hg : Gl X x) (hs : ∀ a, PSs (X.caught a) (b₀ :: body) ts) (hr : PH X rest thr) (hdb : (x == ("__debug__" : Str)) = false := by decide) :
    PH X (.ExceptHandler (some (.Name x np)) none (b₀ :: body) pos :: rest) (hNo X.K C ts thr) := by
  intro pins σ H s a T cls dd D I na nT ex h
  obtain ⟨b, em, h⟩ := h
  refine wpAny_handleBy_cons (codeAny_handlers_test (ld_glob (X := X.caught a) I.caught hg hm ((PySem.W.exm_one I.kIn ex.ty em).here ?_) hdb)) (by intro q; cases q)
  cases b with
  | false => exact hr pins σ H s a T cls dd D I na nT ex h
  | true =>
    refine codeAny_handlers_suite (flight_none ex fun h1 c1 x1 => ?_)
    have c' : Chg (frs X.stack) [T] s.heap h1 := c1 _
    have hS : ∀ b ∈ [T], NewX X pins H b := fun b hb => by rw [List.mem_singleton.mp hb]; exact nT
    have J := I.chg (t' := s.toks) c' hS (fun _ _ => rfl) (I.hok.chg c' I.stkFree fun b hb => (hS b hb).un)
    exact wpAny_mono (hs a pins _ _ _ D J.caught h) (fun f s3 q => SP.ofCaught I.ok.hd q) fun _ _ z => z.elim
end
theorem findObj_none {K : PySem.W.Frag} {C : Addr} {name : Str} {a g : Value} (hc : (PySem.W.clsIn K C).isSome = true) (ha : PySem.W.findIn K (.ref C) name = some (some a)) (hg : PySem.W.specialIn K a "__get__" = some (some g)) (ht : PySem.W.takesIn K a = some true) :
    PySem.W.findObj K C none name = some (.bind g a) := by
  obtain ⟨cd, hc⟩ := Option.isSome_iff_exists.mp hc
  unfold PySem.W.findObj
  simp [hc, ha, hg, ht]
theorem XCls.some {K : PySem.W.Frag} {C : Addr} (c : XCls K C) : (PySem.W.clsIn K C).isSome = true := by
  obtain ⟨cd, h, _⟩ := PySem.W.any_some c.hd
  rw [h]
  rfl
theorem exc_class {prog : Program} {w : World} {A : Around} {E : Value → Shared → Prop} {s : Shared} {K : PySem.W.Frag} {C a : Addr} {oe : Obj} {Q : Option Value → Shared → Prop} (c : XCls K C) (X : K.In s.heap) (I : PySem.W.InstAt s.heap a oe C none)
    (k : Q (some (.ref C)) { s with toks := s.toks + 1 }) : wpAny (model prog w) A (getAttr? (.ref a) "__class__") Q E s := by
  obtain ⟨hh, g, d, t, os⟩ := s
  have L0 := I.type (M := model prog w)
  have L1 := PySem.W.looks_findIn (M := model prog w) X c.ga
  have L2 := PySem.W.looks_findIn (M := model prog w) X c.gh
  have L3 := PySem.W.looks_find (M := model prog w) X I (findObj_none c.some c.fc c.sg c.tk)
  have LI : PySem.W.Looks (model prog w) hh (isInstance (.ref a) (.type "BaseException")) true := L0.andThen (PySem.W.looks_mroIn X c.be)
  unfold getAttr? getAttrBy? getAttrBy
  refine wpAny_bind (wpAny_mkText (wpAny_bind (wpAny_attempt (wpAny_holding (wpAny_bind (L0.at (wpAny_bind (L1.at ?_))))))))
  show wpAny _ _ (getAttrByItsOwn (.ref a) (.str "__class__" t) (.ref C) (.builtin "BaseException.__getattribute__") false false) _ _ _
  unfold getAttrByItsOwn hookBefore callGetattribute boundAndCalled
  refine wpAny_bind (L2.at (wpAny_bind (wpAny_attempt (wpAny_holding ?_))))
  refine wpAny_bind (wpAny_of_eq (PySem.F.attrBase_ValueError.ga.bind (.ref a)) ?_)
  refine wpAny_call (codeAny_call_builtin PySem.F.attrBase_ValueError.ga.plain PySem.F.entry_bexc_ga ?_)
  have kd : builtinKind "BaseException.__getattribute__" = some (.slot) := by decide +kernel
  have sp : splitId "BaseException.__getattribute__" = some ("BaseException", ("__getattribute__" : String)) := by decide +kernel
  have ga := PySem.F.args_bexc_ga (.ref a) (.str "__class__" t)
  simp only [checkBuiltinCall, kd, sp]
  refine wpAny_bind (LI.at ?_)
  simp only [Bool.not_true, Bool.false_eq_true, if_false]
  refine wpAny_mono (Q := fun _ s' => s' = ⟨hh, g, d, t + 1, os⟩) (E := fun _ _ => False) ?_ (fun _ s' e => ?_) fun _ _ z => z.elim
  · repeat (first | assumption | wp_step)
    rfl
  · subst e
    unfold Builtin.«object.__getattribute__»
    repeat lk
    refine wpAny_run (h := none) (PySem.W.class_get (s := ⟨hh, g, d, t + 1, os⟩) X I c.mo ?_) (by intro x; cases x)
    exact wpAny_pure (wpAny_pure (wpAny_pure (wpAny_pure k)))
theorem kitx_exc {K : PySem.W.Frag} {C a : Addr} (c : XCls K C) : PySem.W.KitX K (.ref a) (.ref C) (ExcIs a (.ref C) none) where
  ty := fun M h _ ⟨oe, _, he, hc, _⟩ => hc ▸ (PySem.W.Looks.ld he).andThen .now
  it := fun M h X _ => by
    have q := c.some
    unfold PySem.W.clsIn at q
    split at q
    case h_1 ho =>
      intro A' Q' E' s' k q'
      unfold isType loadHead
      exact wpAny_bind (wpAny_loadPart (k _ _ (X _ _ ho)) (wpAny_pure q'))
    case h_2 => cases q
  ne := fun h tp dd its n sl X htp => by
    have q := c.some
    refine Bool.eq_false_iff.mpr fun z => ?_
    cases beq_iff_eq.mp z
    unfold PySem.W.clsIn at q
    split at q
    case h_1 ho =>
      have z := (X _ _ ho).symm.trans htp
      cases z
    case h_2 => cases q
  ca := fun {prog w A E Q s} X p k => by
    obtain ⟨oe, vs, he, hc, hd, hv⟩ := p
    have I : PySem.W.InstAt s.heap a oe C none := ⟨he, hc, by obtain ⟨_, _, dt, _⟩ := oe; cases hv; rfl, by rw [hd]; trivial⟩
    exact exc_class c X I k
def rIsX (K : PySem.W.Frag) : List V → Hp → VK → Prop := fun xs H Q => ∃ (a C : Addr) (cv : V) (c : Value) (b : Bool), xs = [.ref a, cv] ∧ ((∃ D, cv = .ref D ∧ c = .ref D) ∨ ∃ T, cv = .ty T ∧ c = .type T) ∧ XCls K C ∧
  H a = some (.ext (ExcIs a (.ref C) none)) ∧ PySem.W.kitOne K (.ref C) c = some b ∧ Q (.bl b) H
theorem call_isx {X : Cx} : CallR X (.builtin "isinstance") (rIsX X.K) := by
  intro pins s σ H xs us Q I r h
  obtain ⟨a, C, cv, c, b, rfl, hc, k, ha, e, q⟩ := h
  obtain ⟨u, w', rfl, r1, r2⟩ := vals2 r
  cases r1
  have hw : w' = c := by
    rcases hc with ⟨D, rfl, rfl⟩ | ⟨T, rfl, rfl⟩
    · exact r2
    · exact r2
  subst hw
  obtain ⟨p, _⟩ := (show ObjOk X.prog X.w H s.heap a (.ext (ExcIs a (.ref C) none)) from I.hok a _ ha)
  exact PySem.W.kia_one (kitx_exc k) I.kIn p e (fun z => nomatch z) fun tk => ⟨.bl b, H, I.tok _, rfl, q⟩
theorem call_isxK {X : Cx} (K : PySem.W.Frag) (e : X.K = K := by rfl) : CallR X (.builtin "isinstance") (rIsX K) := by subst e; exact call_isx
theorem PS.nox {X : Cx} {st : Stmt} {t : TS} (h : PS X.nox st t) : PS X st t := fun pins s σ H D I hw =>
  wpAny_mono (h pins s σ H D (I.wish _) hw) (fun f s' q => q.unwish) fun _ _ z => z.elim
end L2
namespace L2
open PySem PySem.Spec PyProof.Rows
def CompB2 (J : It) (H1 : Hp) (js : List Nat) (tt : TT) (te : TE) (σ : St) (Q : VK) : Prop := ∃ (n : Nat) (Pv : Addr → Nat → List V → Hp → Prop), n ≤ sizeLine ∧
  (∀ D, H1 D = none → Pv D 0 [] (upd H1 D (.lst []))) ∧
  (∀ D i xs H', H1 D = none → i < n → Same H1 H' → H' D = some (.lst xs) → xs.length ≤ i → Pv D i xs H' → J.go i H' ∧ ∀ x H'', J.yld i H' x H'' → Same H' H'' ∧
    tt (compSt σ js (some x)) H'' fun ok H2 => if ok = true then te (compSt σ js (some x)) H2 fun y H3 => Same H'' H3 ∧ Pv D (i + 1) (xs ++ [y]) (upd H3 D (.lst (xs ++ [y]))) else Same H'' H2 ∧ Pv D (i + 1) xs H2) ∧
  (∀ H', Same H1 H' → J.stop n H') ∧ ∀ D xs H', Same H1 H' → H1 D = none → H' D = some (.lst xs) → Pv D n xs H' → Q (.ref D) H'
def tComp2 (wi : TI) (js : List Nat) (tt : TT) (te : TE) : TE := fun σ H Q => wi σ H fun J H1 => CompB2 J H1 js tt te σ Q
section
variable {X : Cx} {pins : List (Addr × Obj)} {σ : St} {H : Hp} {s : Shared}
theorem comp_block2 {elt iter : Expr} {ifs : List Expr} {x : Str} {px pos : Pos} {scope : Scope} {ys : List Str} {js : List Nat} {tt : TT} {te : TE} {it : Addr} {fp : List Addr} {tn : Nat → Heap → Prop} {J : It} {RR : Value → Addr → Result → Shared → Prop} {E : Value → Shared → Prop}
    (hc : X.calm = true) (ok : CompOk X.env.scope scope X.N x ys js) (hts : ∀ C s H fp, PTs (compCx X scope (x :: ys) C s H fp) ifs tt) (hel : ∀ C s H fp, PE (compCx X scope (x :: ys) C s H fp) elt te)
    (I : Inv X pins σ H s) (T : Turn X.prog X.w X.K (.Name x px) J fp it tn) (st : tn 0 s.heap) (hf : ∀ b ∈ fp, FpOk X pins H b)
    (n : Nat) (Pv : Addr → Nat → List V → Hp → Prop) (hn : n ≤ sizeLine) (pv0 : ∀ D, H D = none → Pv D 0 [] (upd H D (.lst [])))
    (step : ∀ D i xs H', H D = none → i < n → Same H H' → H' D = some (.lst xs) → xs.length ≤ i → Pv D i xs H' → J.go i H' ∧ ∀ x H'', J.yld i H' x H'' → Same H' H'' ∧
      tt (compSt σ js (some x)) H'' fun ok H2 => if ok = true then te (compSt σ js (some x)) H2 fun y H3 => Same H'' H3 ∧ Pv D (i + 1) (xs ++ [y]) (upd H3 D (.lst (xs ++ [y]))) else Same H'' H2 ∧ Pv D (i + 1) xs H2)
    (stop : ∀ H', Same H H' → J.stop n H')
    (fin : ∀ (C D : Addr) (xs : List V) (H' : Hp) (s' : Shared), Same H H' → H D = none → H' D = some (.lst xs) → Pv D n xs H' → Inv X pins σ H' s' → s.heap.objs.size ≤ C → C < s'.heap.objs.size → (∃ m, s'.heap.Ns C m) → H' C = none → RR (.ref D) C (.ok .next) s') :
    wpAny (model X.prog X.w) X.A (newList []) (fun acc s3 => wpAny (model X.prog X.w) X.A (newFunctionEnv scope X.env.globals (clOf X.env scope.names []) [] X.env.qual none .none (some X.env)) (fun cenv s4 =>
      codeAny (model X.prog X.w) X.A (.compStart (.ListComp elt [⟨.Name x px, iter, ifs, 0⟩] scope pos) 0 (.ref it) acc { cenv with scope := relabel scope X.env }) (RR acc cenv.locals) s4) E s3) E s := by
  refine wpAny_newObj_type ?_
  have I3 : Inv X pins σ (upd H s.heap.objs.size (.lst [])) { s with heap := s.heap.push { cls := .type "list", data := .seq ([] : List Value).toArray } } := I.lnew (its := []) (t' := s.toks) .nil (Nat.zero_le _)
  have hD : H s.heap.objs.size = none := I.fresh
  generalize hDd : s.heap.objs.size = D at I3 hD ⊢
  have old3 : ∀ b o, s.heap.get? b = some o → (s.heap.push { cls := .type "list", data := .seq ([] : List Value).toArray }).get? b = some o := fun b o e => Heap.get?_push_of_some _ e
  have sz3 : (s.heap.push { cls := .type "list", data := .seq ([] : List Value).toArray }).objs.size = s.heap.objs.size + 1 := Heap.size_push ..
  generalize hs3 : s.heap.push { cls := .type "list", data := .seq ([] : List Value).toArray } = h3 at I3 old3 sz3 ⊢
  generalize hss : ({ s with heap := h3 } : Shared) = s3 at I3 ⊢
  have e3 : s3.heap = h3 := by rw [← hss]
  have f3 : ∀ b ∈ fp, FpOk X pins (upd H D (.lst [])) b := fun b hb => by
    obtain ⟨o, e, _⟩ := T.obj 0 _ st b hb
    refine ⟨?_, (hf b hb).2⟩
    rw [upd_ne (by rw [← hDd]; exact Nat.ne_of_lt (Heap.lt_size e))]
    exact (hf b hb).1
  refine wpAny_newFunctionEnv ok.cell (fun y hy => by cases hy) (fun h4 hn4 hsb4 => ?_) ok.kind
  have k4 : ∀ b o, s3.heap.get? b = some o → h4.get? b = some o := fun b o e => by
    rw [hsb4.2 b (Nat.ne_of_lt (Heap.lt_size e))]
    exact Heap.get?_push_of_some _ e
  have o3 : ∀ b ∈ fp, ∃ o, s3.heap.get? b = some o := fun b hb => by
    obtain ⟨o, e, _⟩ := T.obj 0 _ st b hb
    exact ⟨o, by rw [e3]; exact old3 b o e⟩
  have I4 := comp_enter (x := x) ok I3 f3 o3 k4 hn4
  have st4 : tn 0 h4 := T.keep 0 s.heap h4 st fun b hb o e => k4 b o (by rw [e3]; exact old3 b o e)
  have nD3 : s3.heap.objs.size ≠ D := by rw [e3, sz3, hDd]; exact Nat.succ_ne_self _
  have Dfp : ∀ b ∈ fp, b ≠ D := fun b hb => by
    obtain ⟨o, e, _⟩ := T.obj 0 _ st b hb
    rw [← hDd]; exact Nat.ne_of_lt (Heap.lt_size e)
  show codeAny (model X.prog X.w) X.A (.compStart (.ListComp elt [⟨.Name x px, iter, ifs, 0⟩] scope pos) 0 (.ref it) (.ref D) (compCx X scope (x :: ys) s3.heap.objs.size s3 (upd H D (.lst [])) fp).env) (RR (.ref D) s3.heap.objs.size) { s3 with heap := h4, toks := s3.toks + 0 }
  have I4' : Inv (compCx X scope (x :: ys) s3.heap.objs.size s3 (upd H D (.lst [])) fp) [] (compSt σ js none) (upd H D (.lst [])) { s3 with heap := h4, toks := s3.toks + 0 } := I4.tok _
  have stat : ∀ {pp : List (Addr × Obj)} {H' : Hp}, (∀ b ∈ fp, H' b = none) → (∀ p ∈ pp, p.1 ∉ fp) → ∀ b ∈ fp, FpOk (compCx X scope (x :: ys) s3.heap.objs.size s3 (upd H D (.lst [])) fp) pp H' b := fun {pp H'} hn hp b hb =>
    ⟨hn b hb, (I4'.ok.exf b hb).1, I4'.ok.exfs b hb, .inl hb, (I4'.ok.exf b hb).2, fun p hq z => hp p (by have hq' : p ∈ ([] : List (Addr × Obj)) ++ pp := hq; simpa using hq') (by rw [z]; exact hb)⟩
  have g : X.prog = (compCx X scope (x :: ys) s3.heap.objs.size s3 (upd H D (.lst [])) fp).prog := rfl
  have loop : codeAny (model X.prog X.w) X.A (.compLoop (.ListComp elt [⟨.Name x px, iter, ifs, 0⟩] scope pos) 0 (.ref it) (.ref D) (compCx X scope (x :: ys) s3.heap.objs.size s3 (upd H D (.lst [])) fp).env) (RR (.ref D) s3.heap.objs.size) { s3 with heap := h4, toks := s3.toks + 0 } := by
    refine compLoop_any (fun k s' => ∃ i o H', k = n - i ∧ i ≤ n ∧ Inv (compCx X scope (x :: ys) s3.heap.objs.size s3 (upd H D (.lst [])) fp) [] (compSt σ js o) H' s' ∧ tn i s'.heap ∧ (∀ b ∈ fp, H' b = none) ∧ Same H H' ∧ ∃ xs, H' D = some (.lst xs) ∧ xs.length ≤ i ∧ Pv D i xs H') ?_ n
      ⟨0, none, _, rfl, Nat.zero_le _, I4', st4, fun b hb => (f3 b hb).1, Same.new hD _, [], upd_same, Nat.le_refl _, pv0 D hD⟩
    rintro k s5 ⟨i, o5, H5, rfl, hi, I5, st5, fr5, sm5, xs, hD5, hxl, pv5⟩
    by_cases hlt : i < n
    · obtain ⟨go, yl⟩ := step D i xs H5 hD hlt sm5 hD5 hxl pv5
      refine thn (T.item (compCx X scope (x :: ys) s3.heap.objs.size s3 (upd H D (.lst [])) fp) rfl rfl rfl hc i [] s5 _ H5 (fun _ _ => False) I5 (stat fr5 fun p hp => by cases hp) st5 go) fun r s6 ⟨u, hr, h6⟩ => ?_
      subst hr
      refine thn h6 fun _ s7 ⟨v, H7, I7, r7, y7, st7, fr7⟩ => ?_
      obtain ⟨sm7, q7⟩ := yl v H7 y7
      have I7' := I7.pinned (stat fr7 fun p hp => by cases hp) (T.obj _ _ st7)
      have nfp : ∀ p ∈ pinsAt fp s7.heap, p.1 ∈ fp := fun p hp => (of_pinsAt hp).1
      refine wpAny_assign_Name ?_
      refine store_ok (i := 0) I7' ok.nd rfl (.inl (lookup_relabel_local ok.here)) r7 (fun s8 I8 => ?_) (.inr (lookup_relabel_local ok.here))
      have I8' : Inv (compCx X scope (x :: ys) s3.heap.objs.size s3 (upd H D (.lst [])) fp) ([] ++ pinsAt fp s7.heap) (compSt σ js (some v)) H7 s8 := I8
      have hD7 : H7 D = some (.lst xs) := sm7 _ _ hD5
      refine thn (hts _ _ _ _ _ s8 _ H7 _ I8' q7) fun okb s9 ⟨H9, I9, q9⟩ => ?_
      have fin9 : ∀ {s10 : Shared} {H10 : Hp} (o : Option V), Inv (compCx X scope (x :: ys) s3.heap.objs.size s3 (upd H D (.lst [])) fp) ([] ++ pinsAt fp s7.heap) (compSt σ js o) H10 s10 → Same H H10 → (∃ xs, H10 D = some (.lst xs) ∧ xs.length ≤ i + 1 ∧ Pv D (i + 1) xs H10) →
          ∃ m, m < n - i ∧ ∃ i o H', m = n - i ∧ i ≤ n ∧ Inv (compCx X scope (x :: ys) s3.heap.objs.size s3 (upd H D (.lst [])) fp) [] (compSt σ js o) H' s10 ∧ tn i s10.heap ∧ (∀ b ∈ fp, H' b = none) ∧ Same H H' ∧ ∃ xs, H' D = some (.lst xs) ∧ xs.length ≤ i ∧ Pv D i xs H' := fun {s10 H10} o I10 sm10 hD10 => by
        refine ⟨n - (i + 1), by omega, i + 1, o, H10, rfl, hlt, I10.unpinned, T.keep _ _ _ st7 fun b hb ob e => (I10.pin (b, ob) (List.mem_append_right _ (List.mem_append_right _ (mem_pinsAt hb e)))).1, fun b hb => ?_, sm10, hD10⟩
        obtain ⟨ob, e, d⟩ := T.obj _ _ st7 b hb
        exact (I10.pin (b, ob) (List.mem_append_right _ (List.mem_append_right _ (mem_pinsAt hb e)))).2.1
      cases okb with
      | false =>
        rw [if_neg (by decide)] at q9
        rw [if_neg (by decide)]
        exact fin9 _ I9 (sm5.trans (sm7.trans q9.1)) ⟨xs, q9.1 _ _ hD7, Nat.le_succ_of_le hxl, q9.2⟩
      | true =>
        rw [if_pos rfl] at q9
        rw [if_pos rfl]
        refine thn (hel _ _ _ _ _ s9 _ H9 _ I9 q9) fun y s10 ⟨v10, H10, I10, r10, sm10, o10⟩ => ?_
        have hD10 := sm10 _ _ hD7
        have hlen : xs.length < sizeLine := Nat.lt_of_le_of_lt hxl (Nat.lt_of_lt_of_le hlt hn)
        refine thn (mt_append _ s10 _ H10 (.ref D) [v10] (.ref D) [y] (fun _ H11 => Same H H11 ∧ ∃ xs, H11 D = some (.lst xs) ∧ xs.length ≤ i + 1 ∧ Pv D (i + 1) xs H11) I10 rfl (.cons r10 .nil) ⟨D, _, v10, rfl, rfl, hD10, hlen, ?_, ?_⟩) fun _ s11 ⟨_, H11, I11, _, sm11, hD11⟩ => fin9 _ I11 sm11 hD11
        · intro b ob e
          rw [upd_ne (ne_of_none e hD)]
          exact sm10 _ _ (sm7 _ _ (sm5 _ _ e))
        · exact ⟨_, upd_same, by rw [List.length_append]; exact Nat.succ_le_succ hxl, o10⟩
    · have hin : i = n := by omega
      subst hin
      refine thn (T.done (compCx X scope (x :: ys) s3.heap.objs.size s3 (upd H D (.lst [])) fp) rfl rfl rfl hc i [] s5 _ H5 (fun _ _ => False) I5 (stat fr5 fun p hp => by cases hp) st5 (stop H5 sm5)) fun r s6 ⟨hr, I6⟩ => ?_
      subst hr
      have J6 : Inv X pins σ H5 s6 := I3.call' (ch := fp) I6.os I6.base I6.hok I6.bare fun b hb => (f3 b hb).2.2.2 |> fun z => ⟨z.1, (f3 b hb).2.1, z.2.1, z.2.2⟩
      obtain ⟨m6, hn6, _⟩ := I6.loc
      exact fin s3.heap.objs.size D xs H5 s6 sm5 hD hD5 pv5 J6 (by rw [e3, sz3]; exact Nat.le_succ _) hn6.lt ⟨m6, hn6⟩ I6.free
  exact codeAny_compStart_list loop (T.self _ 0 _ _ _ st4 loop)
theorem ps_setC2 {elt iter : Expr} {ifs : List Expr} {x y : Str} {px py pos spos : Pos} {scope : Scope} {ys : List Str} {js : List Nat} {wi : TI} {tt : TT} {te : TE} {k : Nat} (hc : X.calm = true) (ok : CompOk X.env.scope scope X.N x ys js) (hi : PI X (.Name x px) iter wi)
    (hts : ∀ C s H fp, PTs (compCx X scope (x :: ys) C s H fp) ifs tt) (hel : ∀ C s H fp, PE (compCx X scope (x :: ys) C s H fp) elt te)
    (hN : X.N.Nodup) (hk : X.N[k]? = some y) (hy : Loc X.env.scope y)
    (hsw : swapsWith (.ListComp elt [⟨.Name x px, iter, ifs, 0⟩] scope pos) (some (.Name y py)) spos.line X.env = pure true := by rfl)
    (hf : X.fn y = true ∨ X.env.scope.names.lookup y = some .local := by first | exact .inl rfl | exact .inr rfl | assumption) (hs : ∀ v, foldedSetIterable iter X.env v = pure v := by intro _; rfl) :
    PS X (.Assign [.Name y py] (.ListComp elt [⟨.Name x px, iter, ifs, 0⟩] scope pos) spos) (fun D σ H => tComp2 wi js tt te σ H fun v H' => D.nx (σ.set k (some v)) H') := by
  intro pins s σ H D I h
  rw [exec_Assign_Name_used _ _ _ _ hsw]
  refine wpAny_bind (wpAny_standAt (wpAny_bind ?_))
  show wpAny _ X.A (do let _ ← comprehension (.ListComp elt [⟨.Name x px, iter, ifs, 0⟩] scope pos) scope X.env _ (newList []) false (eval iter X.env) (some (assign (.Name y py) X.env))) _ _ s
  have hclos : closureFor scope X.env = pure (clOf X.env scope.names []) := closureFor_clOf fun p hp e => I.ok.has p.1 (.inl (ok.free p hp e).1)
  refine wpAny_bind (wpAny_mono (wpAny_comprehension_free (use := some (assign (.Name y py) X.env)) (Q := fun _ s' => SP X pins D .next s') rfl hs hclos ok.kind ok.loc
    (thn (hi pins s σ H _ I h) fun v s1 h1 => thn h1 fun itv s2 h2 => ?_)) (fun _ s' hq => wpAny_pure (wpAny_pure hq)) fun _ _ e => e)
  obtain ⟨it, fp, tn, J, H2, e, I2, T, st2, f2, n, Pv, hn, pv0, step, stop, fin⟩ := h2
  subst e
  refine comp_block2 (RR := fun acc C => compPost (model X.prog X.w) X.A X.xe (some (assign (.Name y py) X.env)) (fun _ s' => SP X pins D .next s') acc C) hc ok hts hel I2 T st2 f2 n Pv hn pv0 step stop fun C Da xs H' s' sm hD hD' pv I' hC hC' hns hfree => ?_
  obtain ⟨m, hn'⟩ := hns
  show wpAny _ X.A (assign (.Name y py) X.env (.ref Da)) _ _ s'
  have nL : C ≠ X.env.locals := Ne.symm (Nat.ne_of_lt (Nat.lt_of_lt_of_le I2.lt hC))
  have nC : ∀ y c, X.env.cells.lookup y = some c → c ≠ C := fun y c e z => by
    obtain ⟨_, q⟩ := I2.cell y c e
    exact absurd (Nat.lt_of_lt_of_le q.lt (by rw [z]; exact hC)) (Nat.lt_irrefl _)
  refine wpAny_assign_Name (store_ok2 I' hN hk hy (show RelV (.ref Da) (.ref Da) from rfl) (fun s'' I'' ⟨a, sb, ha⟩ => ?_) hf)
  have naC : a ≠ C := by
    rcases ha with z | z
    · rw [z]; exact Ne.symm nL
    · exact nC _ _ z
  refine ⟨m, hn'.at' fun o e => ?_, fun h' sb' => ?_⟩
  · rw [sb.2 C (Ne.symm naC)]; exact e
  have I3 : Inv X pins (σ.set k (some (.ref Da))) H' { s'' with heap := h', toks := s''.toks } := by
    refine I''.turned (it := C) (fun b o hb e => ?_) hfree nL (.inr (Nat.le_trans I2.sz hC)) nC fun p hp z => ?_
    · rw [sb'.2 b hb]; exact e
    · exact absurd (Nat.lt_of_lt_of_le (Heap.lt_size (I2.pin p hp).1) (by rw [z]; exact hC)) (Nat.lt_irrefl _)
  exact ⟨_, H', I3, fin Da xs H' sm hD hD' pv⟩
end
theorem comp2_list {K : PySem.W.Frag} {a : Addr} {ys : List V} {H1 : Hp} {tt : TT} {te : TE} {σ : St} {js : List Nat} {Q : VK} (hx : SqL K H1 a ys) (hz : ys.length ≤ sizeLine) (Pv : Addr → Nat → List V → Hp → Prop)
    (pv0 : ∀ D, H1 D = none → Pv D 0 [] (upd H1 D (.lst [])))
    (step : ∀ D i x xs H', H1 D = none → ys[i]? = some x → Same H1 H' → H' D = some (.lst xs) → xs.length ≤ i → Pv D i xs H' → tt (compSt σ js (some x)) H' fun ok H2 => if ok = true then te (compSt σ js (some x)) H2 fun y H3 => Same H' H3 ∧ Pv D (i + 1) (xs ++ [y]) (upd H3 D (.lst (xs ++ [y]))) else Same H' H2 ∧ Pv D (i + 1) xs H2)
    (fin : ∀ D xs H', Same H1 H' → H1 D = none → H' D = some (.lst xs) → Pv D ys.length xs H' → Q (.ref D) H') :
    CompB2 (Itl K a) H1 js tt te σ Q := by
  refine ⟨ys.length, Pv, hz, pv0, fun D i xs H' hD hi sm hd hl pv => ⟨⟨ys, ys[i], sm.seq hx, by simp [hi]⟩, fun x H'' y => ?_⟩, fun H' sm => ⟨ys, sm.seq hx, Nat.le_refl _⟩, fin⟩
  obtain ⟨rfl, y⟩ := y
  exact ⟨Same.refl _, step D i x xs _ hD (y ys (sm.seq hx)) sm hd hl pv⟩
end L2
namespace Pb
open PySem L2 Pm
def Bits (xs : List Int) : Prop := ∀ x ∈ xs, x = 0 ∨ x = 1
def Sq (K : PySem.W.Frag) (H : Hp) (a : Addr) (xs : List V) : Prop := SqL K H a xs ∨ SqT K H a xs
theorem Sq.same {K : PySem.W.Frag} {H H' : Hp} {a : Addr} {xs : List V} (e : Same H H') (h : Sq K H a xs) : Sq K H' a xs := h.elim (fun q => .inl (e.seq q)) fun q => .inr (e.tup q)
theorem smallb {n : Nat} (h : Nat.ble n 1000 = true := by rfl) : n ≤ sizeLine := small (Nat.le_of_ble_eq_true h)
theorem iteN {c A B : Prop} [Decidable c] (h : ¬ c) (hb : B) : if c then A else B := by rw [if_neg h]; exact hb
theorem at0 {x y : V} : atI [x, y] 0 = some x := rfl
theorem at1 {x y : V} : atI [x, y] 1 = some y := rfl
theorem at_ints {xs : List Int} {i : Int} (h0 : 0 ≤ i) (h : i < (xs.length : Int)) : atI (xs.map V.int) i = some (.int (xs.getD i.toNat 0)) := by
  have e : i = ((i.toNat : Nat) : Int) := by omega
  have hl : i.toNat < xs.length := by omega
  rw [e, Int.toNat_natCast]
  refine atI_nat ?_
  rw [List.getElem?_map, List.getElem?_eq_getElem hl, List.getD_eq_getElem?_getD, List.getElem?_eq_getElem hl]
  rfl
theorem getD_out {xs : List Int} {i : Nat} (h : xs.length ≤ i) : xs.getD i 0 = 0 := by
  rw [List.getD_eq_getElem?_getD, List.getElem?_eq_none h]; rfl
theorem bar_nn {d : Int} {n : Nat} {b : List Int} (hb : 0 < b.length) : 0 ≤ (d - (n : Int)) % (b.length : Int) := Int.emod_nonneg _ (by omega)
theorem bar_lt {d : Int} {n : Nat} {b : List Int} (hb : 0 < b.length) : (d - (n : Int)) % (b.length : Int) < (b.length : Int) := Int.emod_lt_of_pos _ (by omega)
theorem dec_vint {i j : Int} : decide (V.int i = V.int j) = decide (i = j) := by
  by_cases h : i = j
  · subst h; simp
  · rw [decide_eq_false h, decide_eq_false (fun e => h (V.int.inj e))]
theorem _root_.L2.Same.over {H H' : Hp} {p : Addr} {o : HO} (e : Same H H') (h : H p = none) : Same H (upd H' p o) := fun b u q => by
  rw [upd_ne (ne_of_none q h)]; exact e b u q
theorem mod_le {x m M : Int} (h : 0 < m) (hm : m ≤ M + 1) : x % m ≤ M := by have := Int.emod_lt_of_pos x h; omega
theorem mod1_nn {x m : Int} (h : 0 < m) : 0 ≤ 1 + x % m := by have := Int.emod_nonneg x (Int.ne_of_gt h); omega
theorem mod1_le {x m M : Int} (h : 0 < m) (hm : m ≤ M) : 1 + x % m ≤ M := by have := Int.emod_lt_of_pos x h; omega
theorem mod_len {n : Nat} {x m : Int} (e : (n : Int) = x % m) (h : 0 < m) (hm : m ≤ 15) : n ≤ 14 := by have := Int.emod_lt_of_pos x h; omega
theorem mod1_len {n : Nat} {x m : Int} (e : (n : Int) = 1 + x % m) (h : 0 < m) (hm : m ≤ 14) : 0 < n ∧ n ≤ 14 := by have := Int.emod_lt_of_pos x h; have := Int.emod_nonneg x (Int.ne_of_gt h); omega
theorem rep_one {n : Nat} {x : V} : (List.replicate n [x]).flatten = List.replicate n x := by
  induction n with
  | zero => rfl
  | succ n ih => rw [List.replicate_succ, List.flatten_cons, ih, List.replicate_succ]; rfl
theorem rep_ints (n : Nat) (xs : List Int) : (List.replicate n (xs.map V.int)).flatten = (rep n xs).map V.int := by
  unfold rep
  induction n with
  | zero => rfl
  | succ n ih => rw [List.replicate_succ, List.flatten_cons, ih, List.replicate_succ, List.flatten_cons, List.map_append]
theorem getD_mem {xs : List Int} {i : Nat} (h : i < xs.length) : xs.getD i 0 ∈ xs := by
  rw [List.getD_eq_getElem?_getD, List.getElem?_eq_getElem h]; exact List.getElem_mem h
theorem getD_some {xs : List Int} {i : Nat} (h : i < xs.length) : Option.map V.int xs[i]? = some (.int (xs.getD i 0)) := by
  rw [List.getD_eq_getElem?_getD, List.getElem?_eq_getElem h]; rfl
theorem eqv_dL (xs ys : List Int) : PyData.eqv (.list (dInts xs)) (.list (dInts ys)) = decide (xs = ys) := by
  simp only [PyData.eqv]; exact eqvAll_ints xs ys
theorem cut_to (xs : List Int) (n : Nat) : cutV (xs.map V.int) none (some (n : Int)) = (xs.take n).map V.int := by
  unfold cutV
  rw [HT.sIx_none, HT.sIx_nat, List.length_map, List.drop_zero, Nat.sub_zero, List.map_take]
  by_cases h : n ≤ xs.length
  · rw [Nat.min_eq_left h]
  · rw [Nat.min_eq_right (by omega), List.take_of_length_le (by rw [List.length_map]; omega), List.take_of_length_le (by rw [List.length_map]; omega)]
theorem cut_from (xs : List Int) (n : Nat) : cutV (xs.map V.int) (some (n : Int)) none = (xs.drop n).map V.int := by
  unfold cutV
  rw [HT.sIx_none, HT.sIx_nat, List.length_map, List.map_drop]
  by_cases h : n ≤ xs.length
  · rw [Nat.min_eq_left h, List.take_of_length_le (by rw [List.length_drop, List.length_map]; exact Nat.le_refl _)]
  · rw [Nat.min_eq_right (by omega), Nat.sub_self, List.take_zero, List.drop_of_length_le (by rw [List.length_map]; omega)]
theorem cut_m1 (xs : List Int) : cutV (xs.map V.int) none (some (-1)) = xs.dropLast.map V.int := by
  unfold cutV
  rw [HT.sIx_none, List.length_map, List.drop_zero, Nat.sub_zero, List.dropLast_eq_take, List.map_take]
  congr 1
  show (if (-1 : Int) < 0 then ((-1 : Int) + (xs.length : Int)).toNat else min (-1 : Int).toNat xs.length) = xs.length - 1
  rw [if_pos (by decide)]
  omega
theorem at_last {xs : List Int} (h : 0 < xs.length) : atI (xs.map V.int) (-1) = some (.int (xs.getD (xs.length - 1) 0)) := by
  unfold atI ixN
  rw [List.length_map, if_neg (by decide), if_pos (by omega)]
  show (xs.map V.int)[((-1 : Int) + (xs.length : Int)).toNat]? = _
  have e : ((-1 : Int) + (xs.length : Int)).toNat = xs.length - 1 := by omega
  rw [e, List.getElem?_map]
  exact getD_some (by omega)
theorem drop_last_take {h : List Int} {k : Nat} (hk : k < h.length) : ((h.take (h.length - k)).map V.int).dropLast = (h.take (h.length - (k + 1))).map V.int := by
  rw [List.dropLast_eq_take, ← List.map_take, List.take_take, List.length_map, List.length_take]
  congr 2
  omega
theorem fig_bits {h b : List Int} (hb : 0 < b.length) (bh : Bits h) (bb : Bits b) (d : Nat) : fig h b d = 0 ∨ fig h b d = 1 := by
  by_cases hd : d < h.length
  · rw [fig_head hd]; exact bh _ (getD_mem hd)
  · rw [fig_bar (by omega)]; exact bb _ (getD_mem (Nat.mod_lt _ hb))
theorem alike_bits {h' b' h b : List Int} (hb' : 0 < b'.length) (al : Alike h' b' h b) (hb : 0 < b.length) (bh : Bits h) (bb : Bits b) : Bits h' ∧ Bits b' := by
  constructor
  · intro x hx
    obtain ⟨i, hi, e⟩ := List.getElem_of_mem hx
    have f := fig_bits hb bh bb i
    rw [← al i, fig_head hi, List.getD_eq_getElem?_getD, List.getElem?_eq_getElem hi] at f
    rw [← e]; exact f
  · intro x hx
    obtain ⟨i, hi, e⟩ := List.getElem_of_mem hx
    have f := fig_bits hb bh bb (h'.length + i)
    rw [← al _, fig_at hi, List.getD_eq_getElem?_getD, List.getElem?_eq_getElem hi] at f
    rw [← e]; exact f
theorem Pl.mk {K : PySem.W.Frag} {H : Hp} {p a c : Addr} {h b : List Int} (hp : H p = none) (ha : SqT K H a (h.map V.int)) (hc : SqT K H c (b.map V.int)) : Pl K (upd H p (.tup [.ref a, .ref c])) p h b :=
  ⟨a, c, SqT.of upd_same, (Same.new hp _).tup ha, (Same.new hp _).tup hc⟩
variable (K : PySem.W.Frag)
def spPlace : Sp := fun vs H Q _ => ∃ (d : Int) (a c : Addr) (xs ys : List V), vs = [.int d, .ref a, .ref c] ∧ SqT K H a xs ∧ SqT K H c ys ∧ 0 < ys.length ∧ Q (.int ((d - (xs.length : Int)) % (ys.length : Int))) H
def spCell : Sp := fun vs H Q _ => ∃ (a : Addr) (ns : List Int) (k : Int), vs = [.ref a, .int k] ∧ SqL K H a (ns.map V.int) ∧ 0 ≤ k ∧ Q (.int (ns.getD k.toNat 0)) H
def spMix : Sp := fun vs H Q _ => ∃ c p m : Int, vs = [.int c, .int p, .int m] ∧ 0 < p ∧ 0 < m ∧ Q (.int (c * 48271 % p % m)) H
def spLarge : Sp := fun vs H Q _ => ∃ (a : Addr) (ns : List Int), vs = [.ref a] ∧ SqL K H a (ns.map V.int) ∧ ns.length ≤ 63 ∧ ∀ b, Q (.bl b) H
def spTightL : Sp := fun vs H Q _ => ∃ (a c : Addr) (h b : List Int), vs = [.ref a, .ref c] ∧ Sq K H a (h.map V.int) ∧ Sq K H c (b.map V.int) ∧ 0 < b.length ∧ h.length ≤ 200000 ∧ b.length ≤ 200000 ∧
  ∀ p h' b' H', Same H H' → Pl K H' p h' b' → T h' b' → Alike h' b' h b → Q (.ref p) H'
def spTight : Sp := fun vs H Q _ => ∃ (a c : Addr) (h b : List Int), vs = [.ref a, .ref c] ∧ SqT K H a (h.map V.int) ∧ SqT K H c (b.map V.int) ∧ 0 < b.length ∧ h.length ≤ 200000 ∧ b.length ≤ 200000 ∧
  ∀ p h' b' H', Same H H' → Pl K H' p h' b' → T h' b' → Alike h' b' h b → Q (.ref p) H'
def spShort : Sp := fun vs H Q _ => ∃ (c : Addr) (b : List Int), vs = [.ref c] ∧ SqT K H c (b.map V.int) ∧ 0 < b.length ∧ b.length ≤ 200000 ∧
  ∀ p n H', Same H H' → SqT K H' p ((b.take n).map V.int) → Short b n → Q (.ref p) H'
def spNeeded : Sp := fun vs H Q _ => ∃ (a c : Addr) (h s : List Int), vs = [.ref a, .ref c] ∧ SqT K H a (h.map V.int) ∧ SqT K H c (s.map V.int) ∧ 0 < s.length ∧
  ∀ kk : Nat, kk ≤ h.length → (∀ j : Nat, h.length - kk ≤ j → j < h.length → h.getD j 0 = s.getD ((((j : Int) - (h.length : Int)) % (s.length : Int)).toNat) 0) →
    (kk < h.length → h.getD (h.length - kk - 1) 0 ≠ s.getD (((-1 - (kk : Int)) % (s.length : Int)).toNat) 0) → Q (.int ((h.length : Int) - (kk : Int))) H
def Oth (p : Addr) (H : Hp) (Q : VK) : Prop := ∃ (h b : List Int), Pl K H p h b ∧ 0 < b.length ∧ h.length ≤ 400 ∧ b.length ≤ 200 ∧
  ∀ r hh bb H', Same H H' → Pl K H' r hh bb → T hh bb → (∀ d, fig hh bb d = 1 - fig h b d) → Q (.ref r) H'
def spBits : Sp := fun vs H Q _ => ∃ (a : Addr) (ns : List Int) (at' n : Int), vs = [.ref a, .int at', .int n] ∧ SqL K H a (ns.map V.int) ∧ ns.length ≤ 63 ∧ 0 ≤ at' ∧ 0 ≤ n ∧ n ≤ 100 ∧
  ∀ p xs H', Same H H' → H' p = some (.lst (xs.map V.int)) → (xs.length : Int) = n → Bits xs → Q (.ref p) H'
def spForm : Sp := fun vs H Q _ => ∃ (a : Addr) (ns : List Int) (at' : Int), vs = [.ref a, .int at'] ∧ SqL K H a (ns.map V.int) ∧ ns.length ≤ 63 ∧ 0 ≤ at' ∧
  ∀ p h b H', Same H H' → Pl K H' p h b → Bits h → Bits b → h.length ≤ 14 → 0 < b.length → b.length ≤ 14 → Q (.ref p) H'
def spPulse : Sp := fun vs H Q _ => ∃ (a : Addr) (ns : List Int) (at' : Int), vs = [.ref a, .int at'] ∧ SqL K H a (ns.map V.int) ∧ ns.length ≤ 63 ∧ 0 ≤ at' ∧
  ∀ p h b H', Same H H' → Pl K H' p h b → T h b → Bits h → Bits b → h.length ≤ 14 → b.length ≤ 14 → Q (.ref p) H'
def spLaw : Sp := fun vs H Q _ => ∃ (a : Addr) (ns : List Int), vs = [.ref a] ∧ SqL K H a (ns.map V.int) ∧ ns.length ≤ 63 ∧ ∀ H', Q (.bl true) H'
end Pb
namespace Pb
open PySem L2 Pm
def G (K : PySem.W.Frag) (H : Hp) (p : Addr) (g : Nat → Int) : Prop := ∃ h b, Pl K H p h b ∧ T h b ∧ Bits h ∧ Bits b ∧ h.length ≤ 14 ∧ b.length ∣ 12 ∧ ∀ d, fig h b d = g d
section
variable {K : PySem.W.Frag} {H H' : Hp} {p q : Addr} {g g' : Nat → Int}
theorem G.mk {h b : List Int} (pl : Pl K H p h b) (t : T h b) (bh : Bits h) (bb : Bits b) (l : h.length ≤ 14) (dv : b.length ∣ 12) : G K H p (fig h b) := ⟨h, b, pl, t, bh, bb, l, dv, fun _ => rfl⟩
theorem G.same (e : Same H H') : G K H p g → G K H' p g := fun ⟨h, b, pl, r⟩ => ⟨h, b, pl.same e, r⟩
theorem bits_of {hh bb : List Int} (t : T hh bb) (e : ∀ d, fig hh bb d = 0 ∨ fig hh bb d = 1) : Bits hh ∧ Bits bb := by
  constructor
  · intro x hx
    obtain ⟨i, hi, e'⟩ := List.getElem_of_mem hx
    have f := e i
    rw [fig_head hi, List.getD_eq_getElem?_getD, List.getElem?_eq_getElem hi] at f
    rw [← e']; exact f
  · intro x hx
    obtain ⟨i, hi, e'⟩ := List.getElem_of_mem hx
    have f := e (hh.length + i)
    rw [fig_at hi, List.getD_eq_getElem?_getD, List.getElem?_eq_getElem hi] at f
    rw [← e']; exact f
theorem G.other {Q : VK} (a : G K H p g) (k : ∀ r H', Same H H' → G K H' r (fun d => 1 - g d) → Q (.ref r) H') : Oth K p H Q := by
  obtain ⟨h, b, pl, t, bh, bb, l, dv, e⟩ := a
  have lb := Nat.le_of_dvd (by decide) dv
  refine ⟨h, b, pl, t.pos, by omega, by omega, fun r hh bb2 H' s pr tt ee => ?_⟩
  have m := put_dvd (h := h) (b := b) (h' := h) (b' := b) (fun x _ => 1 - x) (n := 12) (by decide) dv dv tt ee
  have z := bits_of tt fun d => by
    rw [ee d]
    have f1 := fig_bits t.pos bh bb d
    omega
  exact k r H' s ⟨hh, bb2, pr, tt, z.1, z.2, by omega, m.2, fun d => by rw [ee d, e d]⟩
theorem G.same_data (a : G K H p g) (c : G K H q g') (e : ∀ d, g d = g' d) : ∃ dx dy, Rep K H 9 (.ref p) dx ∧ Rep K H 9 (.ref q) dy ∧ PyData.eqv dx dy = true := by
  obtain ⟨h, b, pl, t, _, _, _, _, e1⟩ := a
  obtain ⟨h', b', pl', t', _, _, _, _, e2⟩ := c
  refine ⟨_, _, pl.rep, pl'.rep, ?_⟩
  rw [eqv_dP, decide_eq_true (t.uniq t' fun d => by rw [e1 d, e2 d, e d])]
theorem G.ne {Q : VK} (a : G K H p g) (c : G K H q g') (e : ∀ d, g d = g' d) (k : Q (.bl false) H) : rNeD K (.ref p) (.ref q) H Q := by
  obtain ⟨dx, dy, r1, r2, r3⟩ := a.same_data c e
  exact ⟨dx, dy, r1, r2, by rw [r3]; exact k⟩
theorem G.eq {Q : VK} (a : G K H p g) (c : G K H q g') (e : ∀ d, g d = g' d) (k : Q (.bl true) H) : rEqD K (.ref p) (.ref q) H Q := by
  obtain ⟨dx, dy, r1, r2, r3⟩ := a.same_data c e
  exact ⟨dx, dy, r1, r2, by rw [r3]; exact k⟩
end
end Pb
namespace Pb
open PySem L2 Pm
def isInt : V → Bool
  | .int _ => true
  | _ => false
def isFig : V → Bool
  | .int i => decide (0 ≤ i) && decide (i ≤ 1)
  | _ => false
def spIsWhole : Sp := fun vs H Q _ => ∃ x : V, vs = [x] ∧ flatV x = true ∧ Q (.bl (isInt x)) H
inductive Row (K : PySem.W.Frag) (H : Hp) : V → Int → Int → Bool → Prop where
  | tup {a : Addr} {xs : List V} {lo hi : Int} : SqT K H a xs → xs.all flatV = true → xs.length ≤ 1000 → Row K H (.ref a) lo hi (decide (lo ≤ (xs.length : Int)) && decide ((xs.length : Int) ≤ hi) && xs.all isFig)
  | lst {a : Addr} {xs : List V} {lo hi : Int} : SqL K H a xs → Row K H (.ref a) lo hi false
theorem Row.same {K : PySem.W.Frag} {H H' : Hp} {x : V} {lo hi : Int} {r : Bool} (e : Same H H') (h : Row K H x lo hi r) : Row K H' x lo hi r := by
  cases h with
  | tup h1 h2 h3 => exact .tup (e.tup h1) h2 h3
  | lst h1 => exact .lst (e.seq h1)
def spIsRow (K : PySem.W.Frag) : Sp := fun vs H Q _ => ∃ (x : V) (lo hi : Int) (r : Bool), vs = [x, .int lo, .int hi] ∧ Row K H x lo hi r ∧ ∀ H', Same H H' → Q (.bl r) H'
inductive Form (K : PySem.W.Frag) (H : Hp) : V → Bool → Prop where
  | two {p : Addr} {x y : V} {r1 r2 : Bool} : SqT K H p [x, y] → Row K H x 0 400 r1 → Row K H y 1 200 r2 → Form K H (.ref p) (r1 && r2)
  | other {p : Addr} {xs : List V} : SqT K H p xs → xs.length ≠ 2 → Form K H (.ref p) false
  | lst {p : Addr} {xs : List V} : SqL K H p xs → Form K H (.ref p) false
  | non : Form K H .non false
def spIsForm (K : PySem.W.Frag) : Sp := fun vs H Q _ => ∃ (x : V) (r : Bool), vs = [x] ∧ Form K H x r ∧ ∀ H', Same H H' → Q (.bl r) H'
theorem flat_ints (xs : List Int) : (xs.map V.int).all flatV = true := by
  induction xs with
  | nil => rfl
  | cons x r ih => rw [List.map_cons, List.all_cons, ih]; rfl
theorem figs_bits {xs : List Int} (h : Bits xs) : (xs.map V.int).all isFig = true := by
  induction xs with
  | nil => rfl
  | cons x r ih =>
    rw [List.map_cons, List.all_cons, ih fun y hy => h y (List.mem_cons_of_mem _ hy)]
    have := h x List.mem_cons_self
    rcases this with rfl | rfl <;> rfl
theorem Form.good {K : PySem.W.Frag} {H : Hp} {p : Addr} {h b : List Int} (pl : Pl K H p h b) (bh : Bits h) (bb : Bits b) (l1 : h.length ≤ 400) (l2 : 0 < b.length) (l3 : b.length ≤ 200) : Form K H (.ref p) true := by
  obtain ⟨x, y, e1, e2, e3⟩ := pl
  have r1 : Row K H (.ref x) 0 400 _ := .tup e2 (flat_ints h) (by rw [List.length_map]; omega)
  have r2 : Row K H (.ref y) 1 200 _ := .tup e3 (flat_ints b) (by rw [List.length_map]; omega)
  have f := Form.two e1 r1 r2
  rw [figs_bits bh, figs_bits bb, List.length_map, List.length_map, decide_eq_true (show (0 : Int) ≤ (h.length : Int) by omega), decide_eq_true (show (h.length : Int) ≤ 400 by omega), decide_eq_true (show (1 : Int) ≤ (b.length : Int) by omega), decide_eq_true (show (b.length : Int) ≤ 200 by omega)] at f
  exact f
theorem map_bl (f : V → Bool) (xs : List V) : xs.map (fun v => V.bl (f v)) = (xs.map f).map V.bl := by rw [List.map_map]; rfl
end Pb
namespace Pb
open PySem L2 Pm
theorem cont {G R : Prop} (f : R → G) (r : R) : G := f r
section
variable (K : PySem.W.Frag)
def Fits (h b : List Int) : Prop := h.length ≤ 400 ∧ b.length ≤ 200
instance (h b : List Int) : Decidable (Fits h b) := by unfold Fits; exact inferInstance
def spMadeX (C : Addr) : Sp := fun vs H Q E => ∃ x : V, vs = [x] ∧ ((∃ p h b, x = .ref p ∧ Pl K H p h b ∧ Bits h ∧ Bits b ∧ h.length ≤ 400 ∧ 0 < b.length ∧ b.length ≤ 200 ∧
  ∀ r h' b' H', Same H H' → Pl K H' r h' b' → T h' b' → Alike h' b' h b → Q (.ref r) H') ∨ (Form K H x false ∧ ∀ H', Same H H' → E (.ref C) none H'))
def spCheckedX (C N : Addr) : Sp := fun vs H Q E => ∃ x : V, vs = [x] ∧ ((∃ p h b, x = .ref p ∧ Pl K H p h b ∧ Bits h ∧ Bits b ∧ h.length ≤ 400 ∧ 0 < b.length ∧ b.length ≤ 200 ∧
  (T h b → ∀ H', Same H H' → Q (.ref p) H') ∧ (¬ T h b → ∀ H', Same H H' → E (.ref N) none H')) ∨ (Form K H x false ∧ ∀ H', Same H H' → E (.ref C) none H'))
theorem Form.no {K : PySem.W.Frag} {H : Hp} {p : Addr} {x y : V} {r1 r2 : Bool} (h : SqT K H p [x, y]) (a : Row K H x 0 400 r1) (b : Row K H y 1 200 r2) (e : (r1 && r2) = false) : Form K H (.ref p) false := by
  rw [← e]
  exact .two h a b
theorem Form.same {K : PySem.W.Frag} {H H' : Hp} {x : V} {r : Bool} (h : Form K H x r) (e : Same H H') : Form K H' x r := by
  cases h with
  | two h a b => exact .two (e.tup h) (a.same e) (b.same e)
  | other h n => exact .other (e.tup h) n
  | lst h => exact .lst (e.seq h)
  | non => exact .non
end
end Pb
namespace Pm
end Pm
namespace Pb
open PySem L2 Pm
section
variable (K : PySem.W.Frag)
def Within (h b h' b' : List Int) : Prop := ∀ d, fig h b d = 1 → fig h' b' d = 1
end
section
variable {K : PySem.W.Frag} {H H' : Hp} {r r' : Addr} {g g' : Nat → Int} {p n0 p' n0' : Nat}
end
end Pb
namespace Pm
end Pm
namespace Pb
open PySem L2 Pm
section
variable (K : PySem.W.Frag)
end
end Pb
namespace Pm
end Pm
namespace Pb
open PySem L2 Pm
theorem SqT.overL {K : PySem.W.Frag} {H : Hp} {p D : Addr} {ys xs : List V} {o : HO} (h : SqT K H p ys) (hD : H D = some (.lst xs)) : SqT K (upd H D o) p ys := by
  rcases h with (h | ⟨u, h⟩) | h
  · exact .inl (.inl (by rw [upd_ne (by rintro rfl; rw [hD] at h; cases h)]; exact h))
  · exact .inl (.inr ⟨u, by rw [upd_ne (by rintro rfl; rw [hD] at h; cases h)]; exact h⟩)
  · exact .inr h
section
variable (K : PySem.W.Frag)
end
section
variable {K : PySem.W.Frag} {H H' : Hp}
end
section
variable (K : PySem.W.Frag)
end
end Pb
namespace Pm
end Pm
namespace Pb
open PySem L2 Pm
end Pb
namespace Pm
end Pm
namespace Pb
open PySem L2 Pm
end Pb
namespace Pb
open PySem L2 Pm
end Pb
namespace Pb
open PySem L2 Pm
end Pb
namespace Pm
end Pm
namespace Pb
open PySem L2 Pm
section
variable (K : PySem.W.Frag)
end
end Pb
namespace Pm
end Pm
namespace Pb
open PySem L2 Pm
end Pb
namespace Pm
end Pm
namespace Pb
open PySem L2 Pm
section
variable (K : PySem.W.Frag)
end
theorem len_pos {α : Type} {l : List α} (h : l ≠ []) : 0 < l.length := List.length_pos_iff.mpr h
end Pb
namespace L2
open PySem PySem.Spec PyProof.Rows
theorem Inv.big {X : Cx} {pins : List (Addr × Obj)} {σ : St} {H : Hp} {s : Shared} (I : Inv X pins σ H s) : sysModules < s.heap.objs.size := by
  have h : mainGlobals < s.heap.objs.size := (I.mod.glob.keeps I.bk).lt
  exact Nat.lt_trans (by decide) h
end L2
namespace Pb
open PySem L2 Pm
section
variable (K : PySem.W.Frag)
end
end Pb
namespace Pb
open PySem L2 Pm
section
variable (K : PySem.W.Frag)
end
section
variable {K : PySem.W.Frag} {H H' : Hp}
end
end Pb
namespace L2
open PySem PySem.Spec PyProof.Rows
abbrev tx (l : List Nat) : Str := ⟨l.toArray⟩
theorem strs_of {ts : List Str} : ∀ {its : List Value}, Vals (ts.map V.str) its → ∃ l : List (Str × Tok), its = strValues l ∧ l.map (·.1) = ts := by
  induction ts with
  | nil =>
    intro its h
    cases h
    exact ⟨[], rfl, rfl⟩
  | cons x r ih =>
    intro its h
    cases h with
    | cons h1 h2 =>
      obtain ⟨t, rfl⟩ := h1
      obtain ⟨l, rfl, e⟩ := ih h2
      exact ⟨(x, t) :: l, rfl, by rw [List.map_cons, e]⟩
theorem vals_strs : ∀ l : List (Str × Tok), Vals ((l.map (·.1)).map V.str) (strValues l)
  | [] => .nil
  | p :: r => .cons ⟨_, rfl⟩ (vals_strs r)
section
variable {X : Cx}
def rJoin (K : PySem.W.Frag) : V → List V → Hp → VK → Prop := fun x vs H Q => ∃ (sep : Str) (D : Addr) (ts : List Str), x = .str sep ∧ vs = [.ref D] ∧ SqL K H D (ts.map V.str) ∧ JoinOk sep ts = true ∧ Q (.str (Txt.join sep ts)) H
theorem mt_join : MtR X "str.join" (rJoin X.K) := by
  intro pins s σ H x vs v us Q I rx rv h
  obtain ⟨sep, D, ts, rfl, rfl, hq, ok, q⟩ := h
  obtain ⟨t, rfl⟩ := rx
  obtain ⟨u, rfl, ru⟩ := vals1 rv
  cases ru
  obtain ⟨its, ri, pl, hz⟩ := I.list hq
  obtain ⟨l, rfl, e2⟩ := strs_of ri
  exact SC.join pl.isList e2 ok fun t' k => ⟨.str _, H, I.tok k, ⟨_, rfl⟩, q⟩
def rSplit : V → List V → Hp → VK → Prop := fun x vs H Q => ∃ (z y : Str), x = .str z ∧ vs = [.str y] ∧ (y.length == 0) = false ∧ z.length + 2 ≤ sizeLine ∧ ∀ D H', Same H H' → H D = none → H' D = some (.lst ((Txt.split z y).map V.str)) → Q (.ref D) H'
theorem mt_split : MtR X "str.split" rSplit := by
  intro pins s σ H x vs v us Q I rx rv h
  obtain ⟨z, y, rfl, rfl, hy, hz, q⟩ := h
  obtain ⟨t, rfl⟩ := rx
  obtain ⟨u', rfl, ru⟩ := vals1 rv
  obtain ⟨u, rfl⟩ := ru
  have hn : (Builtin.Str.partsBetween z (Builtin.Str.occurrences z y 0 z.length (z.length + 1)) y.length).length ≤ sizeLine := by
    have o := StrLaws.occ_length_le z y 0 z.length (z.length + 1)
    rw [length_partsBetween]
    omega
  have lay : ∀ (l : List (Str × Tok)) (k : Nat), l.map (·.1) = Txt.split z y → l.length ≤ sizeLine →
      EP X pins σ Q (.ref s.heap.objs.size) { s with heap := s.heap.push { cls := .type "list", data := .seq (strValues l).toArray }, toks := k } := fun l k e hl => by
    have v := vals_strs l
    rw [e] at v
    have ll : ((Txt.split z y).map V.str).length ≤ sizeLine := by rw [List.length_map, ← e, List.length_map]; exact hl
    refine ⟨.ref s.heap.objs.size, _, I.laid (t' := k) (o := .lst ((Txt.split z y).map V.str)) (fun b o q => Heap.get?_push_of_some _ q) (Nat.le_refl _) ⟨ll, strValues l, 0, v, Heap.get?_push_size _ rfl⟩, rfl, ?_⟩
    exact q _ _ (Same.new I.fresh _) I.fresh upd_same
  cases c1 : (decide (z.length < y.length) || decide (Builtin.Str.strKind z < Builtin.Str.strKind y)) with
  | true =>
    have e : Txt.split z y = [z] := if_pos c1
    refine call_meets PySem.F.slot_str_split (typeIs_str _ _ _) PySem.F.entry_str_split (PySem.F.args_str_split_2 _ _)
      (meets_str_split_cannot_occur z y t u c1) ?_
    exact lay [(z, t)] s.toks e.symm (show 1 ≤ sizeLine by decide)
  | false =>
    cases c2 : (Builtin.Str.occurrences z y 0 z.length (z.length + 1)).isEmpty with
    | true =>
      have e : Txt.split z y = [z] := (if_neg (by rw [c1]; decide)).trans (if_pos c2)
      refine call_meets PySem.F.slot_str_split (typeIs_str _ _ _) PySem.F.entry_str_split (PySem.F.args_str_split_2 _ _)
        (meets_str_split_not_found z y t u c1 hy c2) ?_
      exact lay [(z, t)] s.toks e.symm (show 1 ≤ sizeLine by decide)
    | false =>
      have e : Txt.split z y = Builtin.Str.partsBetween z (Builtin.Str.occurrences z y 0 z.length (z.length + 1)) y.length := (if_neg (by rw [c1]; decide)).trans (if_neg (by rw [c2]; decide))
      refine call_meets PySem.F.slot_str_split (typeIs_str _ _ _) PySem.F.entry_str_split (PySem.F.args_str_split_2 _ _)
        (meets_str_split_sep z y t u c1 hy c2 (by omega) hn) ?_
      rw [strsFrom_eq]
      refine lay (numbered s.toks _) _ ((numbered_texts _ _).trans e.symm) ?_
      have := congrArg List.length (numbered_texts s.toks (Builtin.Str.partsBetween z (Builtin.Str.occurrences z y 0 z.length (z.length + 1)) y.length))
      rw [List.length_map] at this
      omega
def rSlS : V → Option Int → Option Int → Hp → VK → Prop := fun x lo hi H Q => ∃ z, x = .str z ∧ z.length ≤ sizeLine ∧ Q (.str (Txt.slice z lo hi)) H
theorem sl_str : SlR X rSlS := by
  intro pins s σ H x v vl vu lo hi sl Q I rx hs pl pu h
  obtain ⟨z, rfl, hz, q⟩ := h
  obtain ⟨t, rfl⟩ := rx
  refine ⟨"str", _, PySem.F.slot_str_getitem.lookup, typeIs_str _ _ _, ?_⟩
  have fin : ∀ (l u : Option (Int × Tok)), lo = l.map (·.1) → hi = u.map (·.1) → (sliceMade z t l u none).post (EP X pins σ Q) s := fun l u e1 e2 => by
    subst e1
    subst e2
    exact post_val_or_str ⟨Nat.le_trans (Txt.slice_le z _ _) hz, fun t' k => ⟨.str _, H, I.tok k, ⟨_, rfl⟩, q⟩⟩
  cases pl with
  | none =>
    cases pu with
    | none => exact wpAny_getItem_str_slice (l := none) (u := none) (st := none) hs rfl (fin none none rfl rfl)
    | int j tj => exact wpAny_getItem_str_slice (l := none) (u := some (j, tj)) (st := none) hs rfl (fin none (some (j, tj)) rfl rfl)
  | int i ti =>
    cases pu with
    | none => exact wpAny_getItem_str_slice (l := some (i, ti)) (u := none) (st := none) hs rfl (fin (some (i, ti)) none rfl rfl)
    | int j tj => exact wpAny_getItem_str_slice (l := some (i, ti)) (u := some (j, tj)) (st := none) hs rfl (fin (some (i, ti)) (some (j, tj)) rfl rfl)
def rIntS : List V → Hp → VK → Prop := fun xs H Q => ∃ (z : Str) (n : Int), xs = [.str z] ∧ z.length ≤ 640 ∧ PySem.intText? z = some n ∧ Q (.int n) H
theorem call_intS : CallR X (.type "int") rIntS := by
  intro pins s σ H xs us Q I r h
  obtain ⟨z, n, rfl, hl, hn, q⟩ := h
  obtain ⟨u, rfl, ru⟩ := vals1 r
  obtain ⟨t, rfl⟩ := ru
  refine call_int_1 (PySem.W.KIN.gives_text hl hn).meets ?_
  exact ⟨rfl, .int n, H, I.tok _, ⟨_, rfl⟩, q⟩
end
def Its (z : Str) : It := ⟨fun i _ => i < z.cps.size, fun i H x H' => H' = H ∧ ∃ c, z.cps[i]? = some c ∧ x = .str ⟨#[c]⟩, fun i _ => z.cps.size ≤ i⟩
theorem turn_strA {P : Program} {w : World} {K : PySem.W.Frag} {tg : Expr} (z : Str) (t : Tok) (it : Addr) : Turn P w K tg (Its z) [it] it (fun i h => h.IsStrIter it "str_ascii_iterator" z t i) where
  mem := by simp
  obj := fun i h st b hb => by
    have e : b = it := by simpa using hb
    subst e
    obtain ⟨o, e, c, d⟩ := st
    exact ⟨o, e, fun v z => by rw [d] at z; cases z⟩
  keep := fun i h h' st k => by
    obtain ⟨o, e, r⟩ := st
    exact ⟨o, k it (by simp) o e, r⟩
  item := by
    intro X hP hw hK hc i pins s σ H E I hf st hg
    subst hP hw hK
    obtain ⟨f0, f1, f2, f3, f4, f5⟩ := hf it (by simp)
    obtain ⟨cc, hcc⟩ : ∃ cc, z.cps[i]? = some cc := ⟨_, Array.getElem?_eq_getElem hg⟩
    refine wpAny_pyNext_ascii_item st hcc fun h' st' sb => ?_
    have I1 : Inv X pins σ H { s with heap := h', toks := s.toks + 1 } := I.turned (t' := s.toks + 1) (fun b o hb e => (sb.2 b hb).trans e) f0 f1 f3 f4 f5
    obtain ⟨o, e, c, d⟩ := id st'
    exact ⟨_, rfl, go_of (s := { s with heap := h', toks := s.toks + 1 }) e c d (by decide) ⟨.str ⟨#[cc]⟩, H, I1, ⟨_, rfl⟩, ⟨rfl, cc, hcc, rfl⟩, st', fun b hb => (hf b hb).1⟩⟩
  done := by
    intro X hP hw hK hc i pins s σ H E I hf st hg
    subst hP hw hK
    obtain ⟨f0, f1, f2, f3, f4, f5⟩ := hf it (by simp)
    have hg : z.cps.size ≤ i := hg
    exact wpAny_pyNext_ascii_end (I.ok.hd hc) st (by simp [hg]) fun h' eb => ⟨rfl, I.turned (t' := s.toks) (fun b o hb e => eb b o hb e) f0 f1 f3 f4 f5⟩
  self := fun _ _ _ _ _ st h => wpAny_pyIter_striter_ascii st h
theorem turn_strW {P : Program} {w : World} {K : PySem.W.Frag} {tg : Expr} (z : Str) (t : Tok) (it : Addr) : Turn P w K tg (Its z) [it] it (fun i h => h.IsStrIter it "str_iterator" z t i) where
  mem := by simp
  obj := fun i h st b hb => by
    have e : b = it := by simpa using hb
    subst e
    obtain ⟨o, e, c, d⟩ := st
    exact ⟨o, e, fun v z => by rw [d] at z; cases z⟩
  keep := fun i h h' st k => by
    obtain ⟨o, e, r⟩ := st
    exact ⟨o, k it (by simp) o e, r⟩
  item := by
    intro X hP hw hK hc i pins s σ H E I hf st hg
    subst hP hw hK
    obtain ⟨f0, f1, f2, f3, f4, f5⟩ := hf it (by simp)
    obtain ⟨cc, hcc⟩ : ∃ cc, z.cps[i]? = some cc := ⟨_, Array.getElem?_eq_getElem hg⟩
    refine wpAny_pyNext_wide_item st hcc fun h' st' sb => ?_
    have I1 : Inv X pins σ H { s with heap := h', toks := s.toks + 1 } := I.turned (t' := s.toks + 1) (fun b o hb e => (sb.2 b hb).trans e) f0 f1 f3 f4 f5
    obtain ⟨o, e, c, d⟩ := id st'
    exact ⟨_, rfl, go_of (s := { s with heap := h', toks := s.toks + 1 }) e c d (by decide) ⟨.str ⟨#[cc]⟩, H, I1, ⟨_, rfl⟩, ⟨rfl, cc, hcc, rfl⟩, st', fun b hb => (hf b hb).1⟩⟩
  done := by
    intro X hP hw hK hc i pins s σ H E I hf st hg
    subst hP hw hK
    obtain ⟨f0, f1, f2, f3, f4, f5⟩ := hf it (by simp)
    have hg : z.cps.size ≤ i := hg
    exact wpAny_pyNext_wide_end (I.ok.hd hc) st (by simp [hg]) fun h' eb => ⟨rfl, I.turned (t' := s.toks) (fun b o hb e => eb b o hb e) f0 f1 f3 f4 f5⟩
  self := fun _ _ _ _ _ st h => wpAny_pyIter_striter_wide st h
def iStr (tl : TE) : TI := fun σ H R => tl σ H fun x H1 => ∃ z, x = .str z ∧ R (Its z) H1
theorem pi_str {X : Cx} {tg : Expr} {l : Expr} {tl : TE} (hl : PE X l tl) : PI X tg l (iStr tl) := by
  intro pins s σ H R I h
  refine thn (hl pins s σ H _ I h) fun v s1 ⟨x, H1, I1, r1, q1⟩ => ?_
  obtain ⟨z, rfl, q⟩ := q1
  obtain ⟨t, rfl⟩ := r1
  have fp : ∀ b ∈ [s1.heap.objs.size], FpOk X pins H1 b := fun b hb => by
    have e : b = s1.heap.objs.size := by simpa using hb
    subst e
    exact I1.fpOk (Nat.le_refl _) (I1.hok.fresh (Nat.le_refl _))
  cases ha : z.cps.all (· < 128) with
  | true => exact wpAny_pyIter_ascii ha ⟨s1.heap.objs.size, [s1.heap.objs.size], _, _, H1, rfl, I1.kept (t' := s1.toks) fun b o e => Heap.get?_push_of_some _ e, turn_strA z t _, ⟨_, Heap.get?_push_size _ rfl, rfl, rfl⟩, fp, q⟩
  | false => exact wpAny_pyIter_wide ha ⟨s1.heap.objs.size, [s1.heap.objs.size], _, _, H1, rfl, I1.kept (t' := s1.toks) fun b o e => Heap.get?_push_of_some _ e, turn_strW z t _, ⟨_, Heap.get?_push_size _ rfl, rfl, rfl⟩, fp, q⟩
theorem comp_str {z : Str} {H1 : Hp} {tt : TT} {te : TE} {σ : St} {js : List Nat} {Q : VK} (hz : z.cps.size ≤ sizeLine) (f : Nat → Option V)
    (step : ∀ i c H', z.cps[i]? = some c → Same H1 H' → tt (compSt σ js (some (.str ⟨#[c]⟩))) H' fun ok H2 => if ok = true then te (compSt σ js (some (.str ⟨#[c]⟩))) H2 fun y H3 => Same H' H3 ∧ f i = some y else Same H' H2 ∧ f i = none)
    (fin : ∀ p H', Same H1 H' → H1 p = none → H' p = some (.lst ((List.range z.cps.size).filterMap f)) → Q (.ref p) H') :
    CompB (Its z) H1 js tt te σ Q := by
  refine ⟨z.cps.size, f, hz, fun i H' hi sm => ⟨hi, fun x H'' y => ?_⟩, fun H' sm => Nat.le_refl _, fin⟩
  obtain ⟨rfl, c, ec, rfl⟩ := y
  exact ⟨Same.refl _, step i c _ ec sm⟩
end L2
namespace L2
open PySem PySem.Spec PyProof.Rows
def rRepS : R2 := fun x y H Q => ∃ (z : Str) (n : Int), x = .str z ∧ y = .int n ∧ MulOk z n ∧ Q (.str (Txt.mul z n)) H
theorem op_repS {X : Cx} : OpR X (binaryOp .Mult) rRepS := by
  intro pins s σ H x y v u Q I rx ry h
  obtain ⟨z, n, rfl, rfl, ok, q⟩ := h
  obtain ⟨t, rfl⟩ := rx
  obtain ⟨t', rfl⟩ := ry
  exact SB.mul ok fun t' k => ⟨.str _, H, I.tok k, ⟨_, rfl⟩, q⟩
end L2
namespace Pb
open PySem L2 Pm
def dg (i : Int) : Nat := 48 + i.toNat
def txt (h b : List Int) : Str := tx (h.map dg ++ [124] ++ b.map dg)
theorem tx_add (a b : List Nat) : tx a ++ tx b = tx (a ++ b) := Str.ext' (by rw [Str.cps_append, List.append_toArray])
theorem tx_len (a : List Nat) : (tx a).length = a.length := by simp [Str.length]
theorem join_signs : ∀ cs : List Nat, Txt.join (Str.ofString "") (cs.map fun c => tx [c]) = tx cs := by
  intro cs
  show Builtin.Str.glued _ _ = _
  rw [StrLaws.glued_eq_join]
  have e0 : Str.ofString "" = tx [] := by rfl
  rw [e0]
  induction cs with
  | nil => rfl
  | cons c r ih =>
    cases r with
    | nil => rfl
    | cons d r =>
      show tx [c] ++ tx [] ++ Str.join (tx []) ((d :: r).map fun c => tx [c]) = _
      rw [ih, tx_add, tx_add]
      rfl
theorem join_ok {ts : List Str} (h : ∀ t ∈ ts, t.length ≤ 1) (l : ts.length ≤ 1000) : JoinOk (Str.ofString "") ts = true := by
  unfold JoinOk
  rw [StrLaws.joinFits (B := 1) h]
  · rfl
  · have : (Str.ofString "").length = 0 := by rfl
    rw [this]; omega
theorem str_bit {i : Int} (h : i = 0 ∨ i = 1) : Str.ofString (toString i) = tx [dg i] := by
  rcases h with rfl | rfl
  · decide
  · decide
theorem log_bit {i : Int} (h : i = 0 ∨ i = 1) : i.natAbs.log2 < 1920 := by
  rcases h with rfl | rfl <;> decide
theorem bar_tx : Str.ofString "|" = tx [124] := by rfl
def bitS : V → Option V
  | .int i => some (.str (tx [dg i]))
  | _ => none
theorem fm_bits : ∀ xs : List Int, (xs.map V.int).filterMap bitS = (xs.map fun i => tx [dg i]).map V.str
  | [] => rfl
  | i :: r => by
    have ih := fm_bits r
    rw [List.map_cons, List.filterMap_cons, ih]
    rfl
theorem join_bits (xs : List Int) : Txt.join (Str.ofString "") (xs.map fun i => tx [dg i]) = tx (xs.map dg) := by
  rw [← join_signs, List.map_map]
  rfl
theorem ok_bits {xs : List Int} (l : xs.length ≤ 1000) : JoinOk (Str.ofString "") (xs.map fun i => tx [dg i]) = true := by
  refine join_ok (fun t ht => ?_) (by rw [List.length_map]; exact l)
  obtain ⟨i, _, rfl⟩ := List.mem_map.mp ht
  exact Nat.le_refl _
theorem txt_eq (h b : List Int) : tx (h.map dg) ++ Str.ofString "|" ++ tx (b.map dg) = txt h b := by rw [bar_tx, tx_add, tx_add]; rfl
section
variable (K : PySem.W.Frag)
def spTextL : Sp := fun vs H Q _ => ∃ (p : Addr) (h b : List Int), vs = [.ref p] ∧ Pl K H p h b ∧ Bits h ∧ Bits b ∧ h.length ≤ 400 ∧ b.length ≤ 400 ∧ ∀ H', Same H H' → Q (.str (txt h b)) H'
end
end Pb
namespace Pb
open PySem L2 Pm
def joinL (c : Nat) : List (List Nat) → List Nat
  | [] => []
  | [x] => x
  | x :: y :: r => x ++ [c] ++ joinL c (y :: r)
theorem join_tx (c : Nat) : ∀ P : List (List Nat), Str.join (tx [c]) (P.map tx) = tx (joinL c P)
  | [] => rfl
  | [x] => rfl
  | x :: y :: r => by
    have ih := join_tx c (y :: r)
    show tx x ++ tx [c] ++ Str.join (tx [c]) ((y :: r).map tx) = _
    rw [ih, tx_add, tx_add]
    rfl
theorem tx_cps (z : Str) : tx z.cps.toList = z := Str.ext' (by simp)
theorem tx_inj {a b : List Nat} (h : tx a = tx b) : a = b := by
  have : a.toArray.toList = b.toArray.toList := congrArg (fun z : Str => z.cps.toList) h
  simpa using this
theorem split_spec (z : Str) : ∃ P : List (List Nat), Txt.split z (tx [124]) = P.map tx ∧ (∀ p ∈ P, 124 ∉ p) ∧ z = tx (joinL 124 P) := by
  have e : (Txt.split z (tx [124])) = ((Txt.split z (tx [124])).map (·.cps.toList)).map tx := by
    rw [List.map_map]
    conv => lhs; rw [← List.map_id (Txt.split z (tx [124]))]
    refine List.map_congr_left fun y _ => ?_
    exact (tx_cps y).symm
  refine ⟨(Txt.split z (tx [124])).map (·.cps.toList), e, fun p hp => ?_, ?_⟩
  · obtain ⟨y, hy, rfl⟩ := List.mem_map.mp hp
    exact StrLaws.split_free z 124 y hy
  · rw [← join_tx, ← e, StrLaws.join_split]
theorem joinL_count {c : Nat} : ∀ P : List (List Nat), P ≠ [] → (∀ p ∈ P, c ∉ p) → (joinL c P).count c + 1 = P.length
  | [], h, _ => absurd rfl h
  | [x], _, h => by
    show x.count c + 1 = 1
    rw [List.count_eq_zero.mpr (h x List.mem_cons_self)]
  | x :: y :: r, _, h => by
    have ih := joinL_count (c := c) (y :: r) (by simp) fun p hp => h p (List.mem_cons_of_mem _ hp)
    show (x ++ [c] ++ joinL c (y :: r)).count c + 1 = _
    rw [List.count_append, List.count_append, List.count_eq_zero.mpr (h x List.mem_cons_self), List.length_cons (a := x)]
    have : List.count c [c] = 1 := by simp
    omega
theorem app_uniq {c : Nat} : ∀ {a b a' b' : List Nat}, c ∉ a → c ∉ a' → a ++ c :: b = a' ++ c :: b' → a = a' ∧ b = b'
  | [], b, [], b', _, _, e => ⟨rfl, (List.cons.inj e).2⟩
  | [], b, x :: a', b', _, h, e => absurd (by have := (List.cons.inj e).1; rw [this]; exact List.mem_cons_self) h
  | x :: a, b, [], b', h, _, e => absurd (by have := (List.cons.inj e).1; rw [← this]; exact List.mem_cons_self) h
  | x :: a, b, y :: a', b', h, h', e => by
    obtain ⟨e1, e2⟩ := List.cons.inj e
    obtain ⟨r1, r2⟩ := app_uniq (fun m => h (List.mem_cons_of_mem _ m)) (fun m => h' (List.mem_cons_of_mem _ m)) e2
    exact ⟨by rw [e1, r1], r2⟩
theorem bits_free {xs : List Int} (h : Bits xs) : 124 ∉ xs.map dg := fun m => by
  obtain ⟨i, hi, e⟩ := List.mem_map.mp m
  unfold dg at e
  rcases h i hi with z | z <;> (rw [z] at e; simp at e)
theorem dg_inj : ∀ {a b : List Int}, Bits a → Bits b → a.map dg = b.map dg → a = b
  | [], [], _, _, _ => rfl
  | [], _ :: _, _, _, e => by cases e
  | _ :: _, [], _, _, e => by cases e
  | x :: a, y :: b, h, h', e => by
    rw [List.map_cons, List.map_cons] at e
    obtain ⟨e1, e2⟩ := List.cons.inj e
    have r := dg_inj (fun z hz => h z (List.mem_cons_of_mem _ hz)) (fun z hz => h' z (List.mem_cons_of_mem _ hz)) e2
    have p := h x List.mem_cons_self
    have q := h' y List.mem_cons_self
    unfold dg at e1
    have : x = y := by omega
    rw [this, r]
theorem txt_parts {h b : List Int} {p0 p1 : List Nat} (bh : Bits h) (f : 124 ∉ p0) (e : txt h b = tx (p0 ++ [124] ++ p1)) : p0 = h.map dg ∧ p1 = b.map dg := by
  have e := tx_inj e
  rw [List.append_assoc, List.append_assoc] at e
  obtain ⟨r1, r2⟩ := app_uniq (bits_free bh) f e
  exact ⟨r1.symm, r2.symm⟩
theorem txt_split {h b : List Int} {P : List (List Nat)} (bh : Bits h) (bb : Bits b) (fr : ∀ p ∈ P, 124 ∉ p) (e : txt h b = tx (joinL 124 P)) : P = [h.map dg, b.map dg] := by
  have e' := tx_inj e
  have ne : P ≠ [] := fun z => by
    rw [z] at e'
    have := congrArg List.length e'
    simp [joinL] at this
  have ct := joinL_count P ne fr
  rw [← e', List.count_append, List.count_append, List.count_eq_zero.mpr (bits_free bh), List.count_eq_zero.mpr (bits_free bb)] at ct
  have : List.count 124 [124] = 1 := by simp
  have lp : P.length = 2 := by omega
  match P, lp with
  | [p0, p1], _ =>
    obtain ⟨r1, r2⟩ := txt_parts bh (fr p0 List.mem_cons_self) e
    have r2 : p1 = b.map dg := r2
    rw [r1, r2]
def ud (c : Nat) : Int := ((c - 48 : Nat) : Int)
theorem ud_bits {p : List Nat} (h : ∀ c ∈ p, c = 48 ∨ c = 49) : Bits (p.map ud) ∧ (p.map ud).map dg = p := by
  constructor
  · intro x hx
    obtain ⟨c, hc, rfl⟩ := List.mem_map.mp hx
    rcases h c hc with rfl | rfl
    · exact .inl rfl
    · exact .inr rfl
  · rw [List.map_map]
    conv => rhs; rw [← List.map_id p]
    refine List.map_congr_left fun c hc => ?_
    rcases h c hc with rfl | rfl <;> rfl
theorem int_sign {c : Nat} (h : c = 48 ∨ c = 49) : PySem.intText? (tx [c]) = some (ud c) := by
  rcases h with rfl | rfl <;> decide +kernel
theorem in_01 (c : Nat) : (!(!(Builtin.Str.occurrences (Str.ofString "01") (tx [c]) 0 (Str.ofString "01").length 1).isEmpty)) = decide (¬ (c = 48 ∨ c = 49)) := by
  have := StrLaws.found_one (Str.ofString "01") c
  have e : (Str.ofString "01").cps.toList = [48, 49] := by decide +kernel
  rw [e] at this
  show (!(!(Builtin.Str.occurrences (Str.ofString "01") ⟨#[c]⟩ 0 (Str.ofString "01").length 1).isEmpty)) = _
  rw [this]
  by_cases z : c = 48 ∨ c = 49
  · rw [decide_eq_true (show c ∈ [48, 49] by simpa using z), decide_eq_false (fun u => u z)]; rfl
  · rw [decide_eq_false (show ¬ c ∈ [48, 49] by simpa using z), decide_eq_true z]; rfl
section
variable (K : PySem.W.Frag)
def NoTxt (z : Str) : Prop := ∀ h b, Bits h → Bits b → T h b → Fits h b → z ≠ txt h b
inductive NoText (H : Hp) : V → Prop where
  | str {z : Str} : z.length ≤ 1000 → NoTxt z → NoText H (.str z)
  | non : NoText H .non
  | int (i : Int) : NoText H (.int i)
  | lst {a : Addr} {xs : List V} : SqL K H a xs → NoText H (.ref a)
def spReadX (C : Addr) : Sp := fun vs H Q E => ∃ x, vs = [x] ∧ ((∃ h b, x = .str (txt h b) ∧ T h b ∧ Bits h ∧ Bits b ∧ h.length ≤ 400 ∧ b.length ≤ 200 ∧ ∀ r H', Same H H' → Pl K H' r h b → Q (.ref r) H') ∨
  (NoText K H x ∧ ∀ H', Same H H' → E (.ref C) none H'))
def spRef21 : Sp := fun vs H Q _ => ∃ x, vs = [x] ∧ NoText K H x ∧ ∀ H', Same H H' → Q (.bl true) H'
def spDueL : Sp := fun vs H Q _ => ∃ z : Str, vs = [.str z] ∧ z.length ≤ 300 ∧
  (∀ h b, Bits h → Bits b → T h b → z = txt h b → ∀ r H', Same H H' → Pl K H' r h b → Q (.ref r) H') ∧ ((∀ h b, Bits h → Bits b → T h b → z ≠ txt h b) → ∀ H', Same H H' → Q .non H')
inductive BadT (H : Hp) : V → Prop where
  | short {z : Str} : z.length < 200 → BadT H (.str z)
  | long {z : Str} : 200 ≤ z.length → z.length ≤ 1000 → NoTxt z → BadT H (.str z)
  | non : BadT H .non
  | int (i : Int) : BadT H (.int i)
  | lst {a : Addr} {xs : List V} : SqL K H a xs → BadT H (.ref a)
def spBadL : Sp := fun vs H Q _ => ∃ (a : Addr) (ns : List Int) (h b : List Int), vs = [.ref a, .str (txt h b)] ∧ SqL K H a (ns.map V.int) ∧ ns.length ≤ 63 ∧ h.length ≤ 14 ∧ b.length ≤ 14 ∧ ∀ x H', Same H H' → BadT K H' x → Q x H'
end
theorem NoText.same {K : PySem.W.Frag} {H H' : Hp} {x : V} (e : Same H H') (h : NoText K H x) : NoText K H' x := by
  cases h with
  | str a b => exact .str a b
  | non => exact .non
  | int i => exact .int i
  | lst h => exact .lst (e.seq h)
theorem txt_len (h b : List Int) : (txt h b).length = h.length + 1 + b.length := by
  unfold txt
  rw [tx_len, List.length_append, List.length_append, List.length_map, List.length_map]
  rfl
theorem big_head : NoTxt (Txt.mul (Str.ofString "0") 401 ++ Str.ofString "|1") := fun h b bh bb t f e => by
  have e1 : Txt.mul (Str.ofString "0") 401 ++ Str.ofString "|1" = tx (List.replicate 401 48 ++ [124] ++ [49]) := by decide +kernel
  rw [e1] at e
  obtain ⟨r1, r2⟩ := txt_parts bh (fun m => by have := (List.mem_replicate.mp m).2; omega) e.symm
  have := congrArg List.length r1
  rw [List.length_replicate, List.length_map] at this
  have := f.1
  omega
theorem big_bar : NoTxt (Str.ofString "|" ++ Txt.mul (Str.ofString "01") 101) := fun h b bh bb t f e => by
  obtain ⟨l, hl, ll⟩ : ∃ l : List Nat, Txt.mul (Str.ofString "01") 101 = tx l ∧ l.length = 202 := ⟨(Txt.mul (Str.ofString "01") 101).cps.toList, (tx_cps _).symm, by decide +kernel⟩
  rw [hl, bar_tx, tx_add] at e
  have e : txt h b = tx ([] ++ [124] ++ l) := e.symm
  obtain ⟨r1, r2⟩ := txt_parts bh (by simp) e
  have := congrArg List.length r2
  rw [ll, List.length_map] at this
  have := f.2
  omega
theorem sign_of {i : Int} (h0 : 0 ≤ i) (h5 : i < 5) : ∃ c, atI (Str.ofString "01| 2").cps.toList i = some c := by
  have c : i = 0 ∨ i = 1 ∨ i = 2 ∨ i = 3 ∨ i = 4 := by omega
  rcases c with rfl | rfl | rfl | rfl | rfl <;> exact ⟨_, rfl⟩
end Pb
namespace L2
open PySem PySem.Spec PyProof.Rows
section
variable {pg : Program} {wd : World} {B : Around} {Er : Value → Shared → Prop} {hp : Heap} {gn : Array GenState} {dr : Drawn} {tk : Nat} {ops : OsState}
variable {nm qn : Str} {C N : Addr} {bs bm bmB : List Value} {hdct : Bool} {sn : List Str} {sub : List Value} {ab : Bool} {col : Option Bool} {dd : Option Addr} {k0 k1 k2 k3 k5 : Option Value} {Bs Bn newId nid initId inN : String} {bmN : List Value}
end
section
variable {M : Model} {B : Around} {Er : Value → Shared → Prop} {env : Env}
variable {nm qn : Str} {C N : Addr} {bs bm bmB : List Value} {hdct : Bool} {sn : List Str} {sub : List Value} {ab : Bool} {col : Option Bool} {dd : Option Addr} {k0 k1 k2 k3 k5 : Option Value} {newId : String}
end
section
variable {pg : Program} {wd : World} {B : Around} {Er : Value → Shared → Prop} {s : Shared} {env : Env}
variable {nm qn : Str} {C N : Addr} {bs bm bmB : List Value} {hdct : Bool} {sn : List Str} {sub : List Value} {ab : Bool} {col : Option Bool} {dd : Option Addr} {k0 k1 k2 k3 k5 : Option Value} {Bs Bn newId nid initId inN : String} {bmN : List Value}
end
end L2
namespace L2
open PySem PySem.Spec PyProof.Rows
section
variable {prog : Program} {w : World} {A : Around} {Er : Value → Shared → Prop} {s : Shared} {K : PySem.W.Frag} {x C P : Addr} {ox : Obj}
end
section
variable {X : Cx} {pins : List (Addr × Obj)} {σ : St} {H : Hp} {s : Shared} {a : Addr} {o : HO}
end
section
variable {X : Cx} {C P fI : Addr} {f px : Str} {np apos pos pos' tpos : Pos} {e1 e2 o value : Expr} {ta tv : TE} {t : TA}
end
theorem star_lst {es rest : List Expr} {p : Pos} {env : Env} : starEach (.List es p :: rest) env = (false, eval (.List es p) env) :: starEach rest env := by rfl
theorem star_con {v : Const} {k : Nat} {rest : List Expr} {p : Pos} {env : Env} : starEach (.Constant v k p :: rest) env = (false, eval (.Constant v k p) env) :: starEach rest env := by rfl
section
variable {X : Cx} {es rest : List Expr} {te : TE} {t : TA} {p : Pos}
theorem pa_consC {v : Const} {k : Nat} (ha : PE X (.Constant v k p) te) (hr : PA X rest t) : PA X (.Constant v k p :: rest) (tCons te t) := pa_cons ha hr star_con
theorem pa_consL (ha : PE X (.List es p) te) (hr : PA X rest t) : PA X (.List es p :: rest) (tCons te t) := pa_cons ha hr star_lst
end
end L2
namespace Pm
end Pm
namespace Pb
open PySem L2 Pm
def inB (lo hi : Int) : V → Bool
  | .int i => decide (lo ≤ i) && decide (i ≤ hi)
  | _ => false
section
variable (K : PySem.W.Frag)
end
section
variable {K : PySem.W.Frag} {H H' : Hp}
end
end Pb
namespace L2
open PySem
end L2
namespace Pb
open PySem L2 Pm
section
variable {K : PySem.W.Frag} {H H' : Hp}
end
end Pb
namespace Pb
open PySem L2 Pm
def spIsNumber : Sp := fun vs H Q _ => ∃ (x : V) (lo hi : Int), vs = [x, .int lo, .int hi] ∧ flatV x = true ∧ Q (.bl (inB lo hi x)) H
section
variable (K : PySem.W.Frag)
def spAreT : Sp := fun vs H Q _ => ∃ (a : Addr) (xs : List V) (lo hi : Int), vs = [.ref a, .int lo, .int hi] ∧ SqT K H a xs ∧ xs.all flatV = true ∧ xs.length ≤ 1000 ∧ ∀ H', Same H H' → Q (.bl (xs.all (inB lo hi))) H'
end
theorem inB_fig (v : V) : inB 0 1 v = isFig v := by cases v <;> rfl
theorem inB_figs (xs : List V) : xs.all (inB 0 1) = xs.all isFig := congrArg (fun f => xs.all f) (funext inB_fig)
end Pb
namespace L2
open PySem PySem.Spec PyProof.Rows
end L2
namespace L2
open PySem PySem.Spec PyProof.Rows
section
variable (P : Program) (w : World)
end
section
variable {P : Program} {w : World} {H H' : Hp} {h h' : Heap} {a : Addr} {o : HO}
end
section
variable {P : Program} {w : World} {H : Hp} {h h' : Heap} {x e : Addr} {o' : HO}
end
section
variable {fs fs' ex ex' : List Addr} {H H1 H2 : Hp} {h h1 h2 h' : Heap} {a x e : Addr} {o : HO}
end
end L2
namespace L2
open PySem PySem.Spec PyProof.Rows
section
variable {X : Cx} {pins : List (Addr × Obj)} {σ : List (Option V)} {H H' : Hp} {s : Shared} {h' : Heap}
end
end L2
namespace L2
open PySem PySem.Spec PyProof.Rows
section
variable {X : Cx}
variable {a b : Expr} {ta tb : TE} {pos : Pos}
variable {tA tB' : TT} {rest : List Expr}
end
end L2
namespace L2
open PySem PySem.Spec PyProof.Rows
section
variable {X : Cx} {pins : List (Addr × Obj)} {σ : St} {H : Hp} {s : Shared} {a : Addr} {xs ys : List V}
end
section
variable {X : Cx} {pins : List (Addr × Obj)} {σ : St} {H : Hp} {s : Shared} {E : Value → Shared → Prop}
end
section
variable {X : Cx} {st : Stmt} {rest : List Stmt} {t u : TS} {e : Expr} {te : TE} {pos : Pos}
end
section
variable {X : Cx} {pos : Pos}
end
section
variable {X : Cx} {pos : Pos}
end
end L2
namespace L2
open PySem PySem.Spec PyProof.Rows
section
variable {X : Cx} {tg : Expr}
end
end L2
namespace L2
open PySem PySem.Spec PyProof.Rows
section
variable {X : Cx} {a b c : Expr} {ta tb tc : TE} {pos : Pos}
end
section
variable {X : Cx} {a b c : Expr} {ta tb tc : TE} {pos : Pos}
end
end L2
namespace L2
open PySem PySem.Spec PyProof.Rows
section
variable {prog : Program} {w : World} {A : Around} {E : Value → Shared → Prop} {s : Shared} {K : PySem.W.Frag} {x dx C f : Addr} {mA : Str → Option Value} {name : Str} {v : Value}
end
section
variable {P : Program} {w : World} {H H' : Hp} {h h' : Heap} {a C dx : Addr} {fs fs' : List (Str × V)}
end
section
variable {X : Cx} {pins : List (Addr × Obj)} {σ : St} {H : Hp} {s : Shared} {a C dx : Addr} {fs : List (Str × V)} {f : Str} {v : V} {A : Around} {E : Value → Shared → Prop}
end
section
variable {X : Cx} {o e value : Expr} {f : Str} {pos pos' tpos : Pos} {ta tv : TE}
end
section
variable {X : Cx} {pins : List (Addr × Obj)} {σ : St} {H : Hp} {s : Shared} {A : Around} {E : Value → Shared → Prop} {Q : Value → Shared → Prop} {c : Value} {b : Bool}
end
end L2
namespace L2
open PySem PySem.Spec PyProof.Rows
section
variable {X : Cx} {e : Expr} {es : List Expr} {te : TE} {t : TA} {pos : Pos}
end
section
variable {X : Cx} {pins : List (Addr × Obj)} {σ : St} {H : Hp} {s s' : Shared}
end
section
variable {X : Cx} {CX : CXT} {k : Nat} {f C : Addr} {fd : FuncData} {ps : List Str} {sp : Sp} {dvs : List V} {ds : List Value} {E : XK} {x m : Str} {p pos apos : Pos} {e o : Expr} {es : List Expr} {ta : TE} {t : TA}
end
section
variable {X : Cx} {CX : CXT} {k : Nat} {f C : Addr} {fd : FuncData} {ps ks : List Str} {sp : Sp} {E : XK} {x m : Str} {p pos apos kpos : Pos} {e o : Expr} {es : List Expr} {kws : List Keyword} {te ta : TE} {t tk : TA} {nm : Option Str}
variable {g : List Value → List Value → List Value} {gV : List V → List V → List V}
end
end L2
namespace L2
open PySem PySem.Spec PyProof.Rows
section
variable {X : Cx} {x : Str} {p pos : Pos} {e : Expr} {es : List Expr} {t : TA} {id T : String} {r : List V → Hp → VK → Prop}
end
end L2
namespace L2
open PySem PySem.Spec PyProof.Rows
section
variable {κ : Type} [DecidableEq κ]
def valV (kvs : List (κ × V)) (k : κ) : Option V := (kvs.find? fun kv => decide (kv.1 = k)).map (·.2)
def dropK (kvs : List (κ × V)) (k : κ) : List (κ × V) := kvs.filter fun kv => decide (kv.1 ≠ k)
theorem valV_pos {p : κ × V} {r : List (κ × V)} {k : κ} (e : p.1 = k) : valV (p :: r) k = some p.2 := by simp [valV, List.find?_cons, e]
theorem valV_neg {p : κ × V} {r : List (κ × V)} {k : κ} (e : ¬ p.1 = k) : valV (p :: r) k = valV r k := by simp [valV, List.find?_cons, e]
theorem RelO.getD {o : Option V} {u : Option Value} {d : V} {d' : Value} (r : RelO o u) (rd : RelV d d') : RelV (o.getD d) (u.getD d') := by
  cases o with
  | none => cases u with
    | none => exact rd
    | some _ => exact (show False from r).elim
  | some _ => cases u with
    | none => exact (show False from r).elim
    | some _ => exact r
theorem KV.val {kvs : List (κ × V)} {vs : List (κ × Value)} (r : KV kvs vs) (k : κ) : RelO (valV kvs k) (valueAt vs k) := by
  unfold KV at r
  induction r with
  | nil => exact True.intro
  | @cons p q ps qs h t ih =>
    obtain ⟨h1, h2⟩ := h
    by_cases e : p.1 = k
    · have e' : q.1 = k := h1.symm.trans e
      have b : valueAt (q :: qs) k = some q.2 := by simp [valueAt, List.find?_cons, e']
      rw [valV_pos e, b]; exact h2
    · have e' : ¬ q.1 = k := fun z => e (h1.trans z)
      have b : valueAt (q :: qs) k = valueAt qs k := by simp [valueAt, List.find?_cons, e']
      rw [valV_neg e, b]; exact ih
theorem KV.any {kvs : List (κ × V)} {vs : List (κ × Value)} (r : KV kvs vs) (k : κ) : (kvs.any fun kv => decide (kv.1 = k)) = vs.any fun kv => decide (kv.1 = k) := by
  unfold KV at r
  induction r with
  | nil => rfl
  | cons h t ih => rw [List.any_cons, List.any_cons, ih, h.1]
theorem KV.drop {kvs : List (κ × V)} {vs : List (κ × Value)} (r : KV kvs vs) (k : κ) : KV (dropK kvs k) (without vs k) := by
  unfold KV at r ⊢
  unfold dropK without
  induction r with
  | nil => exact .nil
  | @cons p q ps qs h t ih =>
    obtain ⟨h1, h2⟩ := h
    rw [List.filter_cons, List.filter_cons]
    by_cases e : p.1 = k
    · have a : ¬ decide (p.1 ≠ k) = true := by simp [e]
      have b : ¬ decide (q.1 ≠ k) = true := by simp [h1.symm.trans e]
      rw [if_neg a, if_neg b]; exact ih
    · have e' : ¬ q.1 = k := fun z => e (h1.trans z)
      have a : decide (p.1 ≠ k) = true := by simp [e]
      have b : decide (q.1 ≠ k) = true := by simp [e']
      rw [if_pos a, if_pos b]; exact .cons ⟨h1, h2⟩ ih
theorem KV.length {kvs : List (κ × V)} {vs : List (κ × Value)} (r : KV kvs vs) : kvs.length = vs.length := Paired.length r
end
theorem kV_is {P : Program} {w : World} {k : Key} {u : Value} (r : RelV (kV k) u) : (mixKind P w).is k u = true := by
  cases k with
  | inl i => obtain ⟨t, e⟩ := (show ∃ t, u = Value.int i t from r); subst e; exact mixKind_int P w i t
  | inr x => obtain ⟨t, e⟩ := (show ∃ t, u = Value.str x t from r); subst e; exact mixKind_str P w x t
section
variable {P : Program} {w : World} {H : Hp} {h : Heap} {a : Addr}
end
section
variable {X : Cx} {pins : List (Addr × Obj)} {σ : St} {H : Hp} {s : Shared} {a : Addr} {y v : V} {u r : Value} {o : Option V} {A : Around} {E : Value → Shared → Prop}
end
section
variable {X : Cx} {pins : List (Addr × Obj)} {σ : St} {H : Hp} {s : Shared} {a : Addr} {kvs : List (Key × V)} {k : Key} {u : Value} {A : Around} {E : Value → Shared → Prop}
end
section
variable {X : Cx} {o i e value : Expr} {pos pos' tpos : Pos} {td ty tv : TE}
end
section
variable {X : Cx} {pos : Pos}
end
section
variable {X : Cx} {pins : List (Addr × Obj)} {σ : St} {H : Hp} {s : Shared} {a : Addr} {y d : V} {u r : Value} {o : Option V} {A : Around} {E : Value → Shared → Prop}
end
section
variable {X : Cx} {o e f : Expr} {apos cpos : Pos} {td ty tx : TE}
end
section
variable {X : Cx} {pins : List (Addr × Obj)} {σ : St} {H : Hp} {s : Shared} {a : Addr} {kvs : List (Key × V)} {A : Around} {E : Value → Shared → Prop}
end
section
variable {X : Cx} {pins : List (Addr × Obj)} {σ : St} {H : Hp} {s : Shared} {a : Addr} {y : V} {u : Value} {A : Around} {E : Value → Shared → Prop}
end
end L2
namespace Att
open PySem PySem.W PySem.Calls PyProof.Rows
section
variable {prog : Program} {w : World} {A : Around} {E : Value → Shared → Prop} {s : Shared} {K : Frag}
end
end Att
namespace L2
open PySem PySem.Spec PyProof.Rows
end L2
namespace L2
open PySem PySem.Spec PyProof.Rows
end L2
namespace L2
open PySem PySem.Spec PyProof.Rows
section
variable {P : Program} {w : World} {K : PySem.W.Frag} {mg : Str → Option Value} {base : Heap}
end
section
variable {X : Cx}
end
section
variable {κ : Type} [DecidableEq κ]
end
end L2
namespace Pm
end Pm
namespace Pb
open PySem L2 Pm
section
variable (K : PySem.W.Frag)
end
end Pb
namespace Pb
open PySem L2 Pm
section
variable (K : PySem.W.Frag)
end
end Pb
namespace L2
open PySem PySem.Spec PyProof.Rows
def KD (P : Program) (w : World) (K : PySem.W.Frag) (a : Addr) (kvs : List (Key × V)) : Prop := ∃ (ob : Obj) (vs : List (Key × Value)), K.lookup a = some ob ∧ (a == sysModules) = false ∧ KV kvs vs ∧ ∃ es ep, ob.ExactDict ∧ ob.data = .dict es ep ∧ PySem.KeysOf (mixKind P w) es ∧ Pairs (mixKind P w) es.toList vs ∧ (vs.map (·.1)).Nodup
def tKGet (P : Program) (w : World) (K : PySem.W.Frag) (td : TE) (t : TA) : TE := fun σ H Q => td σ H fun x H1 => ∃ a kvs, x = .ref a ∧ KD P w K a kvs ∧ t σ H1 fun ys H2 => ∃ k : Key, ys = [kV k] ∧ Q ((valV kvs k).getD .non) H2
section
variable {X : Cx}
theorem pe_kget {o e : Expr} {td : TE} {t : TA} {apos cpos : Pos} (ho : PE X o td) (ha : PA X [e] t)
    (hbase : attributeBase o "get" X.env (eval o X.env) = eval o X.env := by rfl)
    (hfew : ((backTo cpos (starEach [e] X.env)).all (fun x => !x.1) && (backToKw cpos (keywordEach [] X.env)).all (fun x => x.1.isSome)
      && decide (([e] : List Expr).length + ([] : List Keyword).length + (if ([] : List Keyword).isEmpty then 0 else 1) < 30)) = true := by rfl)
    (hline : (apos.endLine == cpos.line) = true := by rfl) (hs : starEach [e] X.env = (false, eval e X.env) :: starEach [] X.env := by rfl) (hplain : (backTo cpos (starEach [] X.env)).any (·.1) = false := by rfl) :
    PE X (.Call (.Attribute o "get" apos) [e] [] cpos) (tKGet X.prog X.w X.K td t) := by
  intro pins s σ H Q I h
  refine wpAny_Call_method_late hbase hfew hline rfl (thn (ho pins s σ H _ I h) fun v s1 ⟨x, H1, I1, r1, q1⟩ => ?_)
  obtain ⟨a, kvs, rfl, ⟨ob, vs, lk, hd, rel, es, ep, ex, dt, ks, prs, nd⟩, q1⟩ := q1
  cases r1
  have at_ : ∀ s' : Shared, X.K.In s'.heap → s'.heap.DictOf (mixKind X.prog X.w) a vs := fun s' k => ⟨ob, es, ep, k _ _ lk, ex, dt, ks, prs, nd⟩
  refine ⟨"dict", "dict.get", PySem.F.plainAttrs_dict, PySem.F.slot_dict_get, PySem.F.type_dict_get, (at_ s1 I1.kIn).typeIs, fun b q => ?_, ?_⟩
  · cases q
    exact ⟨ob, I1.kIn _ _ lk, ex.2.1⟩
  have hA := ha cpos pins s1 σ H1 _ I1 q1
  rw [hs] at hA ⊢
  refine Calls.callWith_builtin (by show (false || (backTo cpos (starEach [] X.env)).any (·.1)) = false; rw [hplain] <;> rfl) (Calls.evalArgs_plain ?_)
  refine thn hA fun us s2 ⟨ys, H2, I2, r2, k, ey, q2⟩ => ?_
  subst ey
  obtain ⟨u, rfl, ru⟩ := vals1 r2
  have dd := at_ s2 I2.kIn
  refine call_meetsIn PySem.F.slot_dict_get dd.typeIs PySem.F.entry_dict_get (PySem.F.args_dict_get_2 _ _) (meets_dict_get (mixKind X.prog X.w) a (kV_is ru) hd) ⟨_, dd.mapOf, ?_⟩
  exact ⟨(valV kvs k).getD .non, H2, I2.tok _, (rel.val k).getD (rfl : RelV .non Value.none), q2⟩
theorem pe_kgetK (P : Program) (w : World) (K : PySem.W.Frag) {o e : Expr} {td : TE} {t : TA} {apos cpos : Pos} (ho : PE X o td) (ha : PA X [e] t)
    (hbase : attributeBase o "get" X.env (eval o X.env) = eval o X.env := by rfl)
    (hfew : ((backTo cpos (starEach [e] X.env)).all (fun x => !x.1) && (backToKw cpos (keywordEach [] X.env)).all (fun x => x.1.isSome)
      && decide (([e] : List Expr).length + ([] : List Keyword).length + (if ([] : List Keyword).isEmpty then 0 else 1) < 30)) = true := by rfl)
    (hline : (apos.endLine == cpos.line) = true := by rfl) (hs : starEach [e] X.env = (false, eval e X.env) :: starEach [] X.env := by rfl) (hplain : (backTo cpos (starEach [] X.env)).any (·.1) = false := by rfl)
    (e1 : X.prog = P := by rfl) (e2 : X.w = w := by rfl) (e3 : X.K = K := by rfl) :
    PE X (.Call (.Attribute o "get" apos) [e] [] cpos) (tKGet P w K td t) := by
  subst e1 e2 e3
  exact pe_kget ho ha hbase hfew hline hs hplain
end
theorem kd_of {P : Program} {w : World} {K : PySem.W.Frag} {a : Addr} {x y : Str} {i j hx hy : Int} {tx ty ti tj : Tok} {od : Option Addr} {ep : Nat} {sl : Array (Option Value)} (lk : K.lookup a = some ⟨.type "dict", od, .dict #[⟨hx, .str x tx, .int i ti⟩, ⟨hy, .str y ty, .int j tj⟩] ep, sl⟩)
    (ho : od = none) (hsl : sl = #[]) (ha : (a == sysModules) = false) (ex : hx = hashStr w x) (ey : hy = hashStr w y) (ne : x ≠ y) : KD P w K a [(Sum.inr x, .int i), (Sum.inr y, .int j)] := by
  subst ho hsl ex ey
  refine ⟨_, [(Sum.inr x, .int i ti), (Sum.inr y, .int j tj)], lk, ha, .cons ⟨rfl, ti, rfl⟩ (.cons ⟨rfl, tj, rfl⟩ .nil), _, ep, ⟨rfl, rfl, rfl⟩, rfl, fun e he => ?_, .cons (mixKind_str P w x tx) rfl (.cons (mixKind_str P w y ty) rfl .nil), ?_⟩
  · simp only [List.mem_toArray, List.mem_cons, List.not_mem_nil, or_false] at he
    rcases he with rfl | rfl
    · exact ⟨Sum.inr x, mixKind_str P w x tx, rfl⟩
    · exact ⟨Sum.inr y, mixKind_str P w y ty, rfl⟩
  · simp [ne]
end L2
namespace Pb
open PySem L2 Pm
def sgV (c : Nat) : V := if c = 48 then .int 0 else if c = 49 then .int 1 else .non
theorem sg_get (c : Nat) : (valV [((Sum.inr "0" : Key), V.int 0), (Sum.inr "1", V.int 1)] (Sum.inr ⟨#[c]⟩)).getD .non = sgV c := by
  have e0 : (Str.ofString "0") = (⟨#[48]⟩ : Str) := by decide
  have e1 : (Str.ofString "1") = (⟨#[49]⟩ : Str) := by decide
  unfold sgV
  by_cases c0 : c = 48
  · subst c0
    rw [if_pos rfl, valV_pos (by show (Sum.inr (Str.ofString "0") : Key) = _; rw [e0])]; rfl
  · have n0 : ¬ (Sum.inr (Str.ofString "0") : Key) = Sum.inr ⟨#[c]⟩ := fun z => by
      injection z with z
      rw [e0] at z
      injection z with z
      have : [48] = [c] := by simpa using congrArg Array.toList z
      exact c0 (List.cons.inj this).1.symm
    rw [if_neg c0, valV_neg n0]
    by_cases c1 : c = 49
    · subst c1
      rw [if_pos rfl, valV_pos (by show (Sum.inr (Str.ofString "1") : Key) = _; rw [e1])]; rfl
    · have n1 : ¬ (Sum.inr (Str.ofString "1") : Key) = Sum.inr ⟨#[c]⟩ := fun z => by
        injection z with z
        rw [e1] at z
        injection z with z
        have : [49] = [c] := by simpa using congrArg Array.toList z
        exact c1 (List.cons.inj this).1.symm
      rw [if_neg c1, valV_neg n1]; rfl
theorem sg_flat (c : Nat) : flatV (sgV c) = true := by
  unfold sgV
  split
  · rfl
  · split <;> rfl
theorem sg_bits {xs : List Int} (h : Bits xs) : (xs.map dg).map sgV = xs.map V.int := by
  rw [List.map_map]
  refine List.map_congr_left fun x hx => ?_
  rcases h x hx with rfl | rfl <;> rfl
section
variable (K : PySem.W.Frag)
def spFigsOf : Sp := fun vs H Q _ => ∃ p : List Nat, vs = [.str (tx p)] ∧ p.length ≤ 1000 ∧ ∀ r H', Same H H' → SqT K H' r (p.map sgV) → Q (.ref r) H'
def Prts (H : Hp) : List V → List (List Nat) → Prop
  | [], [] => True
  | v :: vs, p :: ps => (∃ a, v = .ref a ∧ SqT K H a (p.map sgV)) ∧ Prts H vs ps
  | _, _ => False
end
section
variable {K : PySem.W.Frag} {H H' : Hp}
theorem Prts.same (s : Same H H') : ∀ {vs : List V} {ps : List (List Nat)}, Prts K H vs ps → Prts K H' vs ps
  | [], [], h => h
  | v :: vs, r :: rs, ⟨⟨p, e, h⟩, t⟩ => ⟨⟨p, e, s.tup h⟩, Prts.same s t⟩
  | [], _ :: _, h => h
  | _ :: _, [], h => h
theorem Prts.overL {D : Addr} {xs : List V} {o : HO} (hD : H D = some (.lst xs)) : ∀ {vs : List V} {ps : List (List Nat)}, Prts K H vs ps → Prts K (upd H D o) vs ps
  | [], [], h => h
  | v :: vs, r :: rs, ⟨⟨p, e, h⟩, t⟩ => ⟨⟨p, e, SqT.overL h hD⟩, Prts.overL hD t⟩
  | [], _ :: _, h => h
  | _ :: _, [], h => h
theorem Prts.snoc {p : Addr} {r : List Nat} (hp : SqT K H p (r.map sgV)) : ∀ {vs : List V} {ps : List (List Nat)}, Prts K H vs ps → Prts K H (vs ++ [.ref p]) (ps ++ [r])
  | [], [], _ => ⟨⟨p, rfl, hp⟩, trivial⟩
  | v :: vs, q :: rs, ⟨x, t⟩ => ⟨x, Prts.snoc hp t⟩
  | [], _ :: _, h => h.elim
  | _ :: _, [], h => h.elim
theorem Prts.len : ∀ {vs : List V} {ps : List (List Nat)}, Prts K H vs ps → vs.length = ps.length
  | [], [], _ => rfl
  | _ :: _, _ :: _, ⟨_, t⟩ => congrArg (· + 1) (Prts.len t)
  | [], _ :: _, h => h.elim
  | _ :: _, [], h => h.elim
end
theorem joinL_len (c : Nat) : ∀ P : List (List Nat), ∀ p ∈ P, p.length ≤ (joinL c P).length
  | [], p, h => nomatch h
  | [x], p, h => by rw [List.mem_singleton.mp h]; exact Nat.le_refl _
  | x :: y :: r, p, h => by
    show p.length ≤ (x ++ [c] ++ joinL c (y :: r)).length
    rw [List.length_append, List.length_append]
    rcases List.mem_cons.mp h with e | e
    · rw [e]; omega
    · have := joinL_len c (y :: r) p e
      omega
theorem fm_at (f : Nat → V) : ∀ p : List Nat, (List.range p.length).filterMap (fun i => (p[i]?).map f) = p.map f
  | [] => rfl
  | c :: r => by
    have ih := fm_at f r
    rw [List.length_cons, List.range_succ_eq_map, List.filterMap_cons, List.filterMap_map, List.map_cons, ← ih]
    rfl
theorem Prts.two {K : PySem.W.Frag} {H : Hp} : ∀ {xs : List V} {p q : List Nat}, Prts K H xs [p, q] → ∃ a b, xs = [.ref a, .ref b] ∧ SqT K H a (p.map sgV) ∧ SqT K H b (q.map sgV)
  | [_, _], _, _, ⟨⟨a, rfl, h1⟩, ⟨b, rfl, h2⟩, _⟩ => ⟨a, b, rfl, h1, h2⟩
  | [], _, _, h => h.elim
  | [_], _, _, ⟨_, h⟩ => h.elim
  | _ :: _ :: _ :: _, _, _, ⟨_, _, h⟩ => h.elim
theorem sg_fig {c : Nat} (h : isFig (sgV c) = true) : c = 48 ∨ c = 49 := by
  unfold sgV at h
  by_cases c0 : c = 48
  · exact .inl c0
  · rw [if_neg c0] at h
    by_cases c1 : c = 49
    · exact .inr c1
    · rw [if_neg c1] at h; cases h
theorem sg_figs {p : List Nat} (h : (p.map sgV).all isFig = true) : ∀ c ∈ p, c = 48 ∨ c = 49 := fun c hc => sg_fig (List.all_eq_true.mp h _ (List.mem_map.mpr ⟨c, hc, rfl⟩))
theorem sg_all_flat (p : List Nat) : (p.map sgV).all flatV = true := by
  rw [List.all_eq_true]
  intro v hv
  obtain ⟨c, _, rfl⟩ := List.mem_map.mp hv
  exact sg_flat c
theorem parts_le {c : Nat} {P : List (List Nat)} (h : ∀ p ∈ P, c ∉ p) : P.length ≤ (joinL c P).length + 1 := by
  by_cases ne : P = []
  · rw [ne]; exact Nat.zero_le _
  · have := joinL_count P ne h
    have := List.count_le_length (a := c) (l := joinL c P)
    omega
end Pb
namespace L2
open PySem PySem.Spec PyProof.Rows
def ExT0 (h : Heap) (e T : Addr) (cls : Value) (dd : Option Addr) (fl : Value) : Prop :=
  ∃ oe vs oT ts, h.get? e = some oe ∧ oe.cls = cls ∧ oe.dict = dd ∧ oe.data = .fields vs ∧ vs[1]? = some (.ref T) ∧ T ≠ e ∧ h.get? T = some oT ∧ oT.data = .fields ts ∧ ts[3]? = some fl ∧ vs[2]? = some .none
def ExN0 (h : Heap) (e : Addr) (cls : Value) (dd : Option Addr) : Prop :=
  ∃ oe vs, h.get? e = some oe ∧ oe.cls = cls ∧ oe.dict = dd ∧ oe.data = .fields vs ∧ vs[1]? = some .none ∧ vs[2]? = some .none
section
variable {M : Model} {A : Around} {E : Value → Shared → Prop} {s : Shared} {base : Heap} {env : Env} {outer : List Env} {L e T : Addr} {cls : Value} {dd : Option Addr} {Q : Unit → Shared → Prop}
theorem entry_ok0 {oe : Obj} {vs : Array Value} {head : Value} {hn : Bool} (hfr : A.frames = some (env :: outer)) (hl : s.heap.FunFrames base (env :: outer)) (hf : env.frame = some L) (he : s.heap.get? e = some oe)
    (hd : oe.data = .fields vs) (hz : 1 < vs.size) (hc : vs[2]? = some .none)
    (h : ∀ h' T, Chg (frs (env :: outer)) [e] s.heap h' → s.heap.get? T = none → ExT0 h' e T oe.cls oe.dict (rawInt L) → Q () { s with heap := h' }) :
    wpAny M A (do
      let a ← frameOf env
      let pl ← entryPlaceOf L hn
      let b ← EntryCells.newEntry head a .none (rawInt L) .none pl
      setField (.ref e) 1 b) Q E s := by
  have ene : e ∉ frs (env :: outer) := fun z => by
    obtain ⟨_, o, q, nf⟩ := hl.mem z
    rw [he] at q
    cases q
    exact nf vs hd
  refine wpAny_bind (wpAny_frameOf_fun hfr hl hf fun g sg => wpAny_bind (wpAny_entryPlaceOf fun pl hpl => ?_))
  obtain ⟨g1, g2, g3⟩ := sg
  unfold EntryCells.newEntry newFields
  refine wpAny_bind (wpAny_newObj_type ?_ (hpl.sizeOk5 _ _ _ _ _))
  have h3 : ([head, Value.ref L, .none, rawInt L, .none] ++ (if pl.isEmpty then List.replicate 6 Value.none else pl)).toArray[3]? = some (rawInt L) := by simp
  generalize ([head, Value.ref L, .none, rawInt L, .none] ++ (if pl.isEmpty then List.replicate 6 Value.none else pl)).toArray = rc at h3 ⊢
  have e1 : g.get? e = some oe := (g2 e ene).trans he
  have hT : g.objs.size ≠ e := Nat.ne_of_gt (Heap.lt_size e1)
  have e2 := Heap.get?_push_of_some (h := g) { cls := .type "traceback", dict := none, data := .fields rc } e1
  refine wpAny_setField e2 hd hz (h _ g.objs.size (fun b o q n => ?_) (Heap.get?_none_of_le (Nat.le_of_eq g1.symm)) ?_)
  · have nb : e ≠ b := fun z => n (by rw [z]; exact List.mem_singleton.mpr rfl)
    have up : ∀ u, g.get? b = some u → ((g.push { cls := .type "traceback", dict := none, data := .fields rc }).update e (Obj.mapFields (·.setIfInBounds 1 (Value.ref g.objs.size)))).get? b = some u := fun u z => by
      rw [Heap.get?_update_other _ _ nb]
      exact Heap.get?_push_of_some _ z
    obtain ⟨sl, q3⟩ := g3 b o q
    exact ⟨fun nf => up o ((g2 b nf).trans q), sl, up _ q3⟩
  · have d3 := Obj.data_mapFields hd (·.setIfInBounds 1 (Value.ref g.objs.size))
    refine ⟨_, _, { cls := .type "traceback", dict := none, data := .fields rc }, rc, Heap.get?_update_self _ e2 (Obj.isFreed_of_fields d3), Obj.cls_mapFields _ _, ?_, d3, by simp [hz], hT, ?_, rfl, h3, by rw [Array.getElem?_setIfInBounds, if_neg (by decide)]; exact hc⟩
    · obtain ⟨c, d, dt, sl⟩ := oe
      cases dt <;> first | rfl | cases hd
    · rw [Heap.get?_update_other _ _ (Ne.symm hT)]
      exact Heap.get?_push_size _ rfl
theorem note_new0 (hfr : A.frames = some (env :: outer)) (hl : s.heap.FunFrames base (env :: outer)) (hf : env.frame = some L) (hx : ExN0 s.heap e cls dd)
    (h : ∀ h' T, Chg (frs (env :: outer)) [e] s.heap h' → s.heap.get? T = none → ExT0 h' e T cls dd (rawInt L) → Q () { s with heap := h' }) : wpAny M A (noteFrame (.ref e) env) Q E s := by
  obtain ⟨oe, vs, he, rfl, rfl, hd, h1, hc⟩ := hx
  unfold noteFrame
  simp only [hf]
  refine wpAny_bind (wpAny_field he hd h1 ?_)
  rw [if_neg (by decide)]
  exact entry_ok0 hfr hl hf he hd (Array.getElem?_eq_some_iff.mp h1).1 hc h
theorem note_on0 (hfr : A.frames = some (env :: outer)) (hl : s.heap.FunFrames base (env :: outer)) (hf : env.frame = some L) (hx : ExT0 s.heap e T cls dd .none)
    (h : ∀ h' T', Chg (frs (env :: outer)) [e, T] s.heap h' → s.heap.get? T' = none → ExT0 h' e T' cls dd (rawInt L) → Q () { s with heap := h' }) : wpAny M A (noteFrame (.ref e) env) Q E s := by
  obtain ⟨oe, vs, oT, ts, he, rfl, rfl, hd, h1, hTe, hT, hdT, h3, hc⟩ := hx
  unfold noteFrame
  simp only [hf]
  refine wpAny_bind (wpAny_field he hd h1 ?_)
  rw [if_pos (show (Value.ref T != Value.none) = true from by simp)]
  refine wpAny_bind (wpAny_field hT hdT h3 ?_)
  rw [if_neg (show ¬ ((Value.none == rawInt L) = true) from by simp [rawInt])]
  refine wpAny_bind (wpAny_setField hT hdT (Array.getElem?_eq_some_iff.mp h3).1 ?_)
  have eq : ∀ b, b ≠ T → (s.heap.update T (Obj.mapFields (·.setIfInBounds 3 Value.none))).get? b = s.heap.get? b := fun b hb => Heap.get?_update_other _ _ (Ne.symm hb)
  have nT : ∀ b o, s.heap.get? b = some o → (∀ vs, o.data ≠ .fields vs) → b ≠ T := fun b o q nf z => by
    rw [z, hT] at q
    cases q
    exact nf ts hdT
  refine entry_ok0 hfr (hl.of_keeps fun b o q nf => ⟨o, (eq b (nT b o q nf)).trans q, rfl⟩) hf ((eq e (Ne.symm hTe)).trans he) hd (Array.getElem?_eq_some_iff.mp h1).1 hc fun h' T' c n x => h h' T' ?_ ?_ x
  · refine Chg.trans (S := [T]) (S' := [e]) Chg.upd c fun b o q nb => ?_
    simp only [List.mem_cons, List.not_mem_nil, or_false, not_or] at nb ⊢
    exact ⟨nb.2, nb.1⟩
  · by_cases z : T' = T
    · rw [z, Heap.get?_update_self _ hT (Obj.isFreed_of_fields (Obj.data_mapFields hdT _))] at n
      cases n
    · exact (eq T' z).symm.trans n
theorem flight_none0 {fl : Value} (hx : ExT0 s.heap e T cls dd fl) (h : ∀ h', (∀ F, Chg F [T] s.heap h') → ExT0 h' e T cls dd .none → Q () { s with heap := h' }) : wpAny M A (setFlight (.ref e) none) Q E s := by
  obtain ⟨oe, vs, oT, ts, he, rfl, rfl, hd, h1, hTe, hT, hdT, h3, hc⟩ := hx
  have z3 : 3 < ts.size := (Array.getElem?_eq_some_iff.mp h3).1
  unfold setFlight
  refine wpAny_bind (wpAny_field he hd h1 ?_)
  rw [if_pos (show (Value.ref T != Value.none) = true from by simp)]
  refine wpAny_setField hT hdT z3 (h _ (fun F => Chg.upd) ?_)
  exact ⟨oe, vs, _, _, (Heap.get?_update_other _ _ hTe).trans he, rfl, rfl, hd, h1, hTe, Heap.get?_update_self _ hT (Obj.isFreed_of_fields (Obj.data_mapFields hdT _)), Obj.data_mapFields hdT _, by simp [z3], hc⟩
theorem leave_new0 (hfr : A.frames = some (env :: outer)) (hl : s.heap.FunFrames base (env :: outer)) (hf : env.frame = some L) (hx : ExN0 s.heap e cls dd)
    (h : ∀ h' T, Chg (frs (env :: outer)) [e] s.heap h' → s.heap.get? T = none → ExT0 h' e T cls dd .none → Q () { s with heap := h' }) : wpAny M A (leaving env (.ref e)) Q E s := by
  unfold leaving
  refine wpAny_bind (note_new0 hfr hl hf hx fun h1 T c n x => flight_none0 x fun h2 c2 x2 => h h2 T (c.trans (c2 _) fun b o q nb => ⟨nb, fun z => ?_⟩) n x2)
  rw [List.mem_singleton.mp z, n] at q
  cases q
theorem leave_on0 (hfr : A.frames = some (env :: outer)) (hl : s.heap.FunFrames base (env :: outer)) (hf : env.frame = some L) (hx : ExT0 s.heap e T cls dd .none)
    (h : ∀ h' T', Chg (frs (env :: outer)) [e, T] s.heap h' → s.heap.get? T' = none → ExT0 h' e T' cls dd .none → Q () { s with heap := h' }) : wpAny M A (leaving env (.ref e)) Q E s := by
  unfold leaving
  refine wpAny_bind (note_on0 hfr hl hf hx fun h1 T' c n x => flight_none0 x fun h2 c2 x2 => h h2 T' (c.trans (c2 _) fun b o q nb => ⟨nb, fun z => ?_⟩) n x2)
  rw [List.mem_singleton.mp z, n] at q
  cases q
end
def CX10 (P : Program) (w : World) : CXT := fun outer H s E e s' => ∃ (a T : Addr) (cls : Value) (dd : Option Addr) (H' : Hp), e = .ref a ∧ s'.os = s.os ∧ AllBare s'.gens ∧ Un (frs outer) [] H H' s.heap s'.heap ∧
  HOk P w H' s'.heap ∧ s.heap.get? a = none ∧ s.heap.get? T = none ∧ H' a = none ∧ H' T = none ∧ ExT0 s'.heap a T cls dd .none ∧ E cls dd H'
def Flies0 (X : Cx) (E : St → XK) : Prop := ∀ (pins : List (Addr × Obj)) (σ : St) (H : Hp) (s : Shared) (a T : Addr) (cls : Value) (dd : Option Addr), Inv X pins σ H s → NewX X pins H a → NewX X pins H T → ExT0 s.heap a T cls dd .none →
  E σ cls dd H → X.xe (.ref a) s
def Raises0 (X : Cx) (E : St → XK) : Prop := ∀ (pins : List (Addr × Obj)) (σ : St) (H : Hp) (s : Shared) (a : Addr) (cls : Value) (dd : Option Addr), Inv X pins σ H s → NewX X pins H a → ExN0 s.heap a cls dd → E σ cls dd H → X.xe (.ref a) s
section
variable {X : Cx} {pins : List (Addr × Obj)} {σ : St} {H : Hp} {s : Shared}
theorem leave_fin0 {E : XK} {a T : Addr} {cls : Value} {dd : Option Addr} {S : List Addr} {h' : Heap} (I : Inv X pins σ H s) (hst : X.stack = X.env :: X.outer) (hx : X.ex = []) (hn : NewX X pins H a)
    (hS : ∀ b ∈ S, NewX X pins H b) (c : Chg (frs (X.env :: X.outer)) S s.heap h') (nT : s.heap.get? T = none) (x : ExT0 h' a T cls dd .none) (e : E cls dd H) :
    CX10 X.prog X.w X.outer X.H₀ X.s₀ E (.ref a) { s with heap := h' } := by
  have J := I.chg (t' := s.toks) (by rw [hst]; exact c) hS (fun _ _ => rfl) (I.hok.chg c (by rw [← hst]; exact I.stkFree) fun b hb => (hS b hb).un)
  have nx := I.newX hx nT (I.hok.none_of nT)
  have b := J.base
  rw [hx] at b
  exact ⟨a, T, cls, dd, H, rfl, I.os, I.bare, b, J.hok, hn.s0, nx.s0, hn.un, nx.un, x, e⟩
end
section
variable {P : Program} {w : World} {K : PySem.W.Frag} {mg : Str → Option Value} {base : Heap} {N : List Str} {qual : Str} {scope : Scope} {f : Addr} {cd : Value} {A : Around} {outer : List Env} {s : Shared} {H : Hp} {E : XK}
theorem flies_def0 : Flies0 (cxOf (CX10 P w) P w K mg base N qual scope f cd A outer s H E) fun _ => E := fun pins σ H' s' a T cls dd I na nT x e =>
  leave_on0 I.ok.frames I.stack rfl x fun h' T' c n' x' => leave_fin0 (S := [a, T]) I rfl rfl na (fun b hb => by
    simp only [List.mem_cons, List.not_mem_nil, or_false] at hb
    rcases hb with rfl | rfl
    · exact na
    · exact nT) c n' x' e
theorem raises_def0 : Raises0 (cxOf (CX10 P w) P w K mg base N qual scope f cd A outer s H E) fun _ => E := fun pins σ H' s' a cls dd I na x e =>
  leave_new0 I.ok.frames I.stack rfl x fun h' T' c n' x' => leave_fin0 (S := [a]) I rfl rfl na (fun b hb => by
    rw [List.mem_singleton.mp hb]
    exact na) c n' x' e
end
def DefOkX0 (P : Program) (w : World) (K : PySem.W.Frag) (mg : Str → Option Value) (base : Heap) (k : Nat) (x : Str) (ps : List Str) (sp : Sp) : Prop :=
  ∃ f fd, FnOk P w K mg base (CX10 P w) k f fd ps sp ∧ Binds K fd ps [] ∧ PySem.W.keepIn K (.ref f) = true ∧ mg x = some (.ref f)
theorem DefOkX0.mono {P : Program} {w : World} {K : PySem.W.Frag} {mg : Str → Option Value} {base : Heap} {j k : Nat} {x : Str} {ps : List Str} {sp : Sp} (D : DefOkX0 P w K mg base j x ps sp) (h : j ≤ k) : DefOkX0 P w K mg base k x ps sp := by
  obtain ⟨f, fd, F, r⟩ := D
  exact ⟨f, fd, F.mono h, r⟩
theorem Txt1.okX0 {P : Program} {w : World} {K : PySem.W.Frag} {mg : Str → Option Value} {base : Heap} {x : Str} {st : Stmt} {N ps : List Str} {k : Nat} {sp : Sp} (F : Txt1 K mg x st ps) (S : FnScope N ps (defScope st)) (len : ∀ vs H Q E, sp vs H Q E → vs.length = ps.length)
    (hbody : ∀ (f : Addr) (cdv : Value) (A : Around) (outer : List Env) (s : Shared) (H : Hp) (vs : List V) (Q : VK) (E : XK), Room k (A.deeper (envOfC x (defScope st) s.heap.objs.size f cdv)) → sp vs H Q E →
      ∃ t, PSs (cxOf (CX10 P w) P w K mg base N x (defScope st) f cdv A outer s H E) (defBody st) t ∧ t { nx := fun _ H' => Q .non H', rt := Q } (start N vs) H) : DefOkX0 P w K mg base (k + 1) x ps sp := by
  obtain ⟨f, fd, F, b, m⟩ := F.ex
  refine ⟨f, fd, ?_, b, F.kp, m⟩
  obtain ⟨oc, od, kV, doc, pm, an, cdv, ct, osl, rfl, lk, hcd⟩ := F.ex
  exact fn_of lk hcd S len fun A outer s H vs Q E hr hsp => hbody f cdv A outer s H vs Q E hr hsp
section
variable {X : Cx} {k : Nat} {x : Str} {ps : List Str} {sp : Sp} {e : Expr} {es : List Expr} {t : TA} {te : TE} {p pos : Pos} {E : St → XK}
theorem run_fnX0 {f : Addr} {fd : FuncData} {pins : List (Addr × Obj)} {σ : St} {H : Hp} {s : Shared} {Q : VK} {us : List Value} {vs : List V} (F : FnOk X.prog X.w X.K X.mg X.base (CX10 X.prog X.w) k f fd ps sp) (hr : Room k X.A) (hb : Binds X.K fd ps []) (hx : X.ex = [])
    (fl : Flies0 X E) (I : Inv X pins σ H s) (r : Vals vs us) (h : sp vs H Q (E σ)) : wpAny (model X.prog X.w) X.A (call (.ref f) us) (EP X pins σ Q) X.xe s := by
  have hl : (us ++ []).length = ps.length := by rw [List.append_nil, ← r.length]; exact F.len _ _ _ _ h
  refine wpAny_call (codeAny_mono (F.run X.A X.stack s H ⟨us, []⟩ (us ++ []) vs Q (E σ) hr I.env0 (hb s us I.kIn hl) (by rw [List.append_nil]; exact r) h) fun r s' hq => ?_)
  cases r with
  | error e =>
    obtain ⟨a, T, cls, dd, H', rfl, os, bare, un, hok, na, nT, ha, hT, ex, he⟩ := hq
    have J : Inv X pins σ H' s' := I.call' (ch := []) os un hok bare fun b z => absurd z (by simp)
    have n1 := I.newX hx na ha
    have n2 := I.newX hx nT hT
    exact fl pins σ H' s' a T cls dd J n1 n2 ex he
  | ok fl =>
    cases fl with
    | ret u => exact I.after hq
    | next => exact False.elim hq
    | brk => exact False.elim hq
    | cont => exact False.elim hq
theorem pe_callX0 (D : DefOkX0 X.prog X.w X.K X.mg X.base k x ps sp) (hr : Room k X.A) (hg : Gl X x) (fl : Flies0 X E) (ha : PA X (e :: es) t) (hx : X.ex = [] := by rfl) (hdb : (x == ("__debug__" : Str)) = false := by decide)
    (he : starEach (e :: es) X.env = (false, eval e X.env) :: starEach es X.env := by rfl) (hpl : (backTo pos (starEach es X.env)).any (·.1) = false := by rfl) : PE X (.Call (.Name x p) (e :: es) [] pos) (tCallX sp E t) := by
  obtain ⟨f, fd, F, b, kp, m⟩ := D
  intro pins s σ H Q I h
  refine wpAny_Call_Name_kw (ld_glob I hg m ?_ hdb)
  exact PySem.W.callWith_K (h₀ := X.base) I.ok.mod.kin kp (thn (ha pos pins s σ H _ I h) fun us s1 ⟨vs, H1, I1, r, q⟩ => ⟨I1.kIn, run_fnX0 F hr b hx fl I1 r q⟩) he hpl
end
theorem ps_raise0 {X : Cx} {C : Addr} {x : Str} {e : Expr} {es : List Expr} {t : TA} {E : St → XK} {np cpos pos : Pos} (c : XCls X.K C) (hm : X.mg x = some (.ref C)) (hg : Gl X x) (rs : Raises0 X E) (ha : PA X (e :: es) t) (hc : X.calm = true := by rfl) (hx : X.ex = [] := by rfl)
    (hdb : (x == ("__debug__" : Str)) = false := by decide) (he : starEach (e :: es) X.env = (false, eval e X.env) :: starEach es X.env := by rfl) (hpl : (backTo cpos (starEach es X.env)).any (·.1) = false := by rfl) :
    PS X (.Raise (some (.Call (.Name x np) (e :: es) [] cpos)) none pos) (tRaise C E t) := by
  intro pins s σ H D I h
  obtain ⟨bm, N, nm, q, bs, hdct, sn, sub, ab, col, dd, k0, k1, k2, k3, k5, mN, hC, hN, hni, T⟩ := exc_obj I.mod.kin c.ex
  refine wpAny_Raise_call_subT (C := C) (nm := nm) (q := q) (N := N) (bs := bs) (bm := bm) (hdct := hdct) (sn := sn) (sub := sub) (ab := ab) (col := col) (dd := dd) (k0 := k0) (k1 := k1) (k2 := k2) (k3 := k3) (k5 := k5) PySem.F.excBase_ValueError
    (T.hasType PySem.F.excBase_ValueError.hasBase) (I.ok.hd hc) (by rw [he]; show (false || (backTo cpos (starEach es X.env)).any (·.1)) = false; rw [hpl]; rfl) hni (ld_glob I hg hm ⟨rfl, ?_⟩ hdb)
  have w := ha cpos pins s σ H _ I h
  rw [he] at w ⊢
  refine Calls.evalArgs_plain (thn w fun us s2 ⟨vs, H2, I2, r, z, q2⟩ => ⟨rfl, by rw [← r.length]; exact z, I2.bk _ _ hC, hN.keeps I2.bk, T.keeps I2.bk, fun h' a me => ?_⟩)
  obtain ⟨t', ht, _, _⟩ := me.there
  have na := I2.newX hx me.new (I2.hok.none_of me.new)
  exact rs pins σ H2 _ a (.ref C) none (I2.kept (t' := s2.toks) me.keeps) na ⟨_, _, ht, rfl, rfl, rfl, rfl, rfl⟩ q2
def tryXe0 (X : Cx) (pn : List (Addr × Obj)) (R : St → XK) : Value → Shared → Prop := fun e s' => ∃ (σ : St) (H : Hp) (a T : Addr) (cls : Value) (dd : Option Addr), e = .ref a ∧ Inv (X.wpn pn) [] σ H s' ∧
  NewX (X.wpn pn) [] H a ∧ NewX (X.wpn pn) [] H T ∧ ExT0 s'.heap a T cls dd .none ∧ R σ cls dd H
abbrev Cx.tryC0 (X : Cx) (pn : List (Addr × Obj)) (R : St → XK) : Cx := { X with pn := pn, xe := tryXe0 X pn R }
section
variable {X : Cx} {pins : List (Addr × Obj)} {σ : St} {H : Hp} {s : Shared} {a : Addr} {R : St → XK} {D : Ends} {f : Flow}
theorem Inv.toTry0 (I : Inv X pins σ H s) : Inv (X.tryC0 (X.pn ++ pins) R) [] σ H s :=
  ⟨⟨I.ok.mod, I.ok.kind, I.ok.glob, I.ok.blt, I.ok.above, I.ok.inj, I.ok.has, I.ok.cab, I.ok.hd, I.ok.frames, I.ok.stk, I.ok.exf, I.ok.bs, I.ok.bsz, I.ok.noex, I.ok.exfs, I.ok.funs, I.ok.frf⟩,
    I.os, I.bare, I.base, I.loc, I.cell, I.free, I.freeC, fun p hp => I.pin p (by rw [List.append_nil] at hp; exact hp), I.hok, I.len⟩
theorem Inv.ofTry0 (I : Inv (X.tryC0 (X.pn ++ pins) R) [] σ H s) : Inv X pins σ H s :=
  ⟨⟨I.ok.mod, I.ok.kind, I.ok.glob, I.ok.blt, I.ok.above, I.ok.inj, I.ok.has, I.ok.cab, I.ok.hd, I.ok.frames, I.ok.stk, I.ok.exf, I.ok.bs, I.ok.bsz, I.ok.noex, I.ok.exfs, I.ok.funs, I.ok.frf⟩,
    I.os, I.bare, I.base, I.loc, I.cell, I.free, I.freeC, fun p hp => I.pin p (by rw [List.append_nil]; exact hp), I.hok, I.len⟩
theorem flies_try0 {pn : List (Addr × Obj)} : Flies0 (X.tryC0 pn R) R := fun pins σ H s a T cls dd I na nT x e =>
  ⟨σ, H, a, T, cls, dd, rfl, ⟨⟨I.ok.mod, I.ok.kind, I.ok.glob, I.ok.blt, I.ok.above, I.ok.inj, I.ok.has, I.ok.cab, I.ok.hd, I.ok.frames, I.ok.stk, I.ok.exf, I.ok.bs, I.ok.bsz, I.ok.noex, I.ok.exfs, I.ok.funs, I.ok.frf⟩,
    I.os, I.bare, I.base, I.loc, I.cell, I.free, I.freeC, fun p hp => I.pin p (by rw [List.append_nil] at hp; exact List.mem_append_left _ hp), I.hok, I.len⟩,
    ⟨na.un, na.loc, na.fs, na.s0, na.cel, fun p hp => na.pin p (by rw [List.append_nil] at hp; exact List.mem_append_left _ hp)⟩, ⟨nT.un, nT.loc, nT.fs, nT.s0, nT.cel, fun p hp => nT.pin p (by rw [List.append_nil] at hp; exact List.mem_append_left _ hp)⟩, x, e⟩
theorem SP.ofTry0 (h : SP (X.tryC0 (X.pn ++ pins) R) [] D f s) : SP X pins D f s := by
  cases f with
  | next => obtain ⟨σ', H', J, q⟩ := h; exact ⟨σ', H', J.ofTry0, q⟩
  | brk => obtain ⟨σ', H', J, q⟩ := h; exact ⟨σ', H', J.ofTry0, q⟩
  | cont => obtain ⟨σ', H', J, q⟩ := h; exact ⟨σ', H', J.ofTry0, q⟩
  | ret u => obtain ⟨v, σ', H', J, r, q⟩ := h; exact ⟨v, σ', H', J.ofTry0, r, q⟩
end
def PH0 (X : Cx) (hs : List ExceptHandler) (th : TH) : Prop := ∀ (pins : List (Addr × Obj)) (σ : St) (H : Hp) (s : Shared) (a T : Addr) (cls : Value) (dd : Option Addr) (D : Ends), Inv X pins σ H s → NewX X pins H a → NewX X pins H T → ExT0 s.heap a T cls dd .none →
  th D cls dd σ H → wpAny (model X.prog X.w) X.A (handleBy (.ref a) X.env hs) (SP X pins D) X.xe s
theorem ps_try0 {X : Cx} {body : List Stmt} {h₀ : ExceptHandler} {hs : List ExceptHandler} {pos : Pos} {tb : (St → XK) → TS} {th : TH} (hb : ∀ pn R, PSs (X.tryC0 pn R) body (tb R)) (hh : PH0 X (h₀ :: hs) th)
    (hst : X.stack = X.env :: X.outer := by rfl) (hx : X.ex = [] := by rfl) (hf : X.env.frame = some X.env.locals := by rfl) : PS X (.Try body (h₀ :: hs) [] [] pos) (tTry tb th) := by
  intro pins s σ H D I h
  refine wpAny_Try_except (wpAny_mono (hb (X.pn ++ pins) _ [] s σ H D I.toTry0 h) (fun f s1 q => ?_) fun e s1 q => ?_)
  · have q := q.ofTry0
    cases f with
    | next => exact wpAny_execs_nil q
    | brk => exact q
    | cont => exact q
    | ret u => exact q
  · obtain ⟨σ1, H1, a, T, cls, dd, rfl, J, na, nT, x, r⟩ := q
    have J := J.ofPn (Y := X)
    have na' : NewX X pins H1 a := ⟨na.un, na.loc, na.fs, na.s0, na.cel, fun p hp => na.pin p (by rw [List.append_nil]; exact hp)⟩
    have nT' : NewX X pins H1 T := ⟨nT.un, nT.loc, nT.fs, nT.s0, nT.cel, fun p hp => nT.pin p (by rw [List.append_nil]; exact hp)⟩
    have hfr : X.A.frames = some (X.env :: X.outer) := by rw [← hst]; exact J.ok.frames
    have hl : s1.heap.FunFrames X.base (X.env :: X.outer) := by rw [← hst]; exact J.stack
    refine note_on0 hfr hl hf x fun h1 T' c n' x' => flight_none0 x' fun h2 c2 x2 => ?_
    have c3 : Chg (frs X.stack) [a, T] s1.heap h2 := by
      rw [hst]
      refine c.trans (c2 _) fun b o q nb => ⟨nb, fun z => ?_⟩
      rw [List.mem_singleton.mp z, n'] at q
      cases q
    have hS : ∀ b ∈ [a, T], NewX X pins H1 b := fun b hb => by
      simp only [List.mem_cons, List.not_mem_nil, or_false] at hb
      rcases hb with rfl | rfl
      · exact na'
      · exact nT'
    have J2 := J.chg (t' := s1.toks) c3 hS (fun _ _ => rfl) (J.hok.chg c3 J.stkFree fun b hb => (hS b hb).un)
    exact hh pins σ1 H1 _ a T' cls dd D J2 na' (J.newX hx n' (J.hok.none_of n')) x2 r
end L2
namespace L2
open PySem PySem.Spec PyProof.Rows
def C0 (a : Addr) (h : Heap) : Prop := ∃ oe vs, h.get? a = some oe ∧ oe.data = .fields vs ∧ vs[2]? = some .none
theorem entry_unchain : entryFor table "proto.unchain" = some Builtin.«proto.unchain» := entryFor_of_fast (by kernel_rfl)
section
variable {prog : Program} {w : World} {A : Around} {E : Value → Shared → Prop} {env : Env}
variable {nm q : Str} {C N : Addr} {bs bm bmB : List Value} {hdct : Bool} {sn : List Str} {sub : List Value} {ab : Bool} {col : Option Bool} {dd : Option Addr} {k0 k1 k2 k3 k5 : Option Value} {newId : String}
theorem wpAny_raiseNew_some {α : Type} {s : Shared} {a e : Addr} {oe : Obj} {vs : Array Value} {Q : α → Shared → Prop} (hh : A.handled = some (.ref a)) (ne : e ≠ a) (c0 : C0 a s.heap) (he : s.heap.get? e = some oe) (hd : oe.data = .fields vs) (hz : 2 < vs.size)
    (h : E (.ref e) { s with heap := s.heap.update e (Obj.mapFields (·.setIfInBounds 2 (.ref a))) }) : wpAny (model prog w) A (raiseNew (.ref e) : Sem α) Q E s := by
  unfold raiseNew
  refine wpAny_bind (wpAny_handled ?_)
  rw [hh]
  have nb : (Value.ref a != Value.ref e) = true := by simp [Ne.symm ne]
  dsimp only
  rw [if_pos nb]
  obtain ⟨oa, va, ga, da, v2⟩ := c0
  refine wpAny_bind (wpAny_holding (wpAny_runValue (codeAny_builtin entry_unchain ?_)))
  show wpAny _ _ (field (.ref a) 2 >>= _) _ _ s
  refine wpAny_bind (wpAny_field ga da v2 ?_)
  rw [if_pos (show (Value.none == Value.none) = true from rfl)]
  refine wpAny_bind (wpAny_bind (wpAny_pure (wpAny_pure ?_)))
  refine wpAny_pure ?_
  show wpAny (model prog w) A (setField (.ref e) 2 (.ref a) >>= fun _ => throw (Value.ref e)) Q E s
  exact wpAny_bind (wpAny_setField he hd hz (wpAny_throw h))
theorem wpAny_raiseStmt_from {s : Shared} {a : Addr} {x c : Sem Value} {Q : Flow → Shared → Prop} (hbase : bm.contains (.type "BaseException") = true) (hh : A.handled = some (.ref a)) (hc : ∀ (s₁ : Shared) (Q' : Value → Shared → Prop), Q' .none s₁ → wpAny (model prog w) A c Q' E s₁)
    (h : wpAny (model prog w) A x (fun v s₁ => ∃ e t, v = .ref e ∧ e ≠ a ∧ C0 a s₁.heap ∧ s₁.heap.get? C = some (excClassObj nm q C N bs bm hdct sn sub ab col dd k0 k1 k2 k3 k5 newId) ∧
      s₁.heap.get? e = some { cls := .ref C, data := .fields #[.ref t, .none, .none, .none, .bool false, .none] } ∧
      ∀ h', (∀ b o, b ≠ e → s₁.heap.get? b = some o → h'.get? b = some o) → h'.get? e = some { cls := .ref C, data := .fields #[.ref t, .none, .ref a, .none, .bool true, .none] } → E (.ref e) { s₁ with heap := h' }) E s) :
    wpAny (model prog w) A (raiseStmt env (some x) (some c)) Q E s := by
  have hcB : (Value.ref C :: bm).contains (.type "BaseException") = true := by rw [List.contains_cons, hbase, Bool.or_true]
  unfold raiseStmt
  refine wpAny_bind (wpAny_mono h (fun v s₁ h₁ => ?_) fun _ _ x => x)
  obtain ⟨e, t, rfl, ne, c0, hC, he, hE⟩ := h₁
  obtain ⟨hp, g, d, tk, os⟩ := s₁
  refine wpAny_bind (wpAny_holding (hc _ _ (wpAny_bind (wpAny_pure ?_))))
  dsimp only
  repeat (first | with_reducible refine wpAny_loadPart_at he ?_ | with_reducible refine wpAny_loadPart_at hC ?_ | (with_reducible refine wpAny_isSubtype_exc hC ?_; rw [hcB]) | wp_step)
  have eC : e ≠ C := fun z => by
    rw [z] at he
    have he : hp.get? C = _ := he
    have hC : hp.get? C = _ := hC
    rw [hC] at he
    exact nomatch he
  have he : hp.get? e = _ := he
  have hC : hp.get? C = _ := hC
  have h1 : (hp.update e (Obj.mapFields fun x => x.setIfInBounds 3 Value.none)).get? e = some { cls := .ref C, data := .fields #[.ref t, .none, .none, .none, .bool false, .none] } := Heap.get?_update_self _ he rfl
  have h2 : ((hp.update e (Obj.mapFields fun x => x.setIfInBounds 3 Value.none)).update e (Obj.mapFields fun x => x.setIfInBounds 4 (Value.bool true))).get? e = some { cls := .ref C, data := .fields #[.ref t, .none, .none, .none, .bool true, .none] } := Heap.get?_update_self _ h1 rfl
  have oth : ∀ b o, b ≠ e → hp.get? b = some o → ((hp.update e (Obj.mapFields fun x => x.setIfInBounds 3 Value.none)).update e (Obj.mapFields fun x => x.setIfInBounds 4 (Value.bool true))).get? b = some o := fun b o nb z => by
    rw [Heap.get?_update_other _ _ (Ne.symm nb), Heap.get?_update_other _ _ (Ne.symm nb)]
    exact z
  have hC2 := oth C _ (Ne.symm eC) hC
  generalize ((hp.update e (Obj.mapFields fun x => x.setIfInBounds 3 Value.none)).update e (Obj.mapFields fun x => x.setIfInBounds 4 (Value.bool true))) = hp2 at h2 oth hC2 ⊢
  repeat (first | with_reducible refine wpAny_loadPart_at hC2 ?_ | with_reducible refine wpAny_loadPart_at h2 ?_ | wp_step)
  obtain ⟨oa, va, ga, da, v2⟩ := c0
  refine wpAny_raiseNew_some hh ne ⟨oa, va, oth a oa (Ne.symm ne) ga, da, v2⟩ h2 rfl (show 2 < 6 by decide) ?_
  refine hE _ (fun b o nb z => ?_) (Heap.get?_update_self _ h2 rfl)
  rw [Heap.get?_update_other _ _ (Ne.symm nb)]
  exact oth b o nb z
theorem wpAny_Raise_from {B initId : String} {s : Shared} {a : Addr} (F : ExcBaseFacts B newId initId bmB) {mN : Str → Option Value} {x : Str} {np cpos pos npos : Pos} {kk : Nat} {args : List Expr} {Q : Flow → Shared → Prop}
    (hbase : bm.contains (.type "BaseException") = true) (hh : A.handled = some (.ref a)) (hplain : (backTo cpos (starEach args env)).any (·.1) = false) (hni : mN "__init__" = none)
    (h : wpAny (model prog w) A (eval (.Name x np) env) (fun f s₁ => f = .ref C ∧ wpAny (model prog w) A (evalArgs (.ref C) true (backTo cpos (starEach args env)) [])
      (fun ar s₂ => ar.kw = [] ∧ ar.pos.length ≤ sizeLine ∧ C0 a s₂.heap ∧ s₂.heap.get? C = some (excClassObj nm q C N bs bm hdct sn sub ab col dd k0 k1 k2 k3 k5 newId) ∧ s₂.heap.Ns N mN ∧ OwnTail s₂.heap bmB bm ∧
        ∀ h' e t, (∀ b o, s₂.heap.get? b = some o → h'.get? b = some o) → s₂.heap.get? e = none → h'.get? e = some { cls := .ref C, data := .fields #[.ref t, .none, .ref a, .none, .bool true, .none] } → E (.ref e) { s₂ with heap := h' }) E s₁) E s) :
    wpAny (model prog w) A (exec (.Raise (some (.Call (.Name x np) args [] cpos)) (some (.Constant .none kk npos)) pos) env) Q E s := by
  rw [arm_exec_Raise]
  refine wpAny_bind (wpAny_standAt (wpAny_raiseStmt_from (a := a) (C := C) (nm := nm) (q := q) (N := N) (bs := bs) (bm := bm) (hdct := hdct) (sn := sn) (sub := sub) (ab := ab) (col := col) (dd := dd) (k0 := k0) (k1 := k1) (k2 := k2) (k3 := k3) (k5 := k5) (newId := newId) hbase hh (fun s1 Q' z => ?_) (wpAny_bind (wpAny_mono (wpAny_Call_ofName (wpAny_mono h (fun f s₁ h₁ => ?_) fun _ _ x => x)) (fun v s₃ h₃ => wpAny_bind (wpAny_standAt (wpAny_pure h₃))) fun _ _ x => x))))
  · exact wpAny_bind (Constant_none (wpAny_bind (wpAny_standAt (wpAny_pure z))))
  obtain ⟨rfl, h₁⟩ := h₁
  unfold callWith
  refine wpAny_bind (wpAny_holding (wpAny_mono h₁ (fun ar s₂ h₂ => wpAny_bind (wpAny_standAt ?_)) fun _ _ x => x))
  obtain ⟨apos, akw⟩ := ar
  obtain ⟨hkw, hlen, c0, hC, hn, T, h₂⟩ := h₂
  obtain rfl : akw = [] := hkw
  obtain ⟨hp, g, d, tk, os⟩ := s₂
  simp only [hplain]
  refine wpAny_bind (wpAny_keeperOf_exc hC ?_)
  refine wpAny_bind (wpAny_call_exc_subT (hrest := hlen) F T hC hn hni fun h' e hm => wpAny_bind (wpAny_holding (wpAny_point (wpAny_pure ?_))))
  obtain ⟨t, ht, _, _⟩ := hm.there
  obtain ⟨oa, va, ga, da, v2⟩ := c0
  have ea : e ≠ a := fun z => by
    have := hm.new
    rw [z] at this
    rw [show hp.get? a = some oa from ga] at this
    cases this
  refine ⟨e, t, rfl, ea, ⟨oa, va, hm.keeps _ _ ga, da, v2⟩, hm.keeps _ _ hC, ht, fun h2 k2 at2 => h₂ h2 e t (fun b o z => k2 b o (fun u => ?_) (hm.keeps _ _ z)) hm.new at2⟩
  rw [u] at z
  rw [show hp.get? e = none from hm.new] at z
  cases z
end
abbrev Cx.caughtX (X : Cx) (a : Addr) : Cx := { X with A := X.A.mark (some (.ref a)), calm := false }
section
variable {X : Cx} {pins : List (Addr × Obj)} {σ : St} {H : Hp} {s : Shared} {a T : Addr} {cls : Value} {dd : Option Addr}
theorem Inv.caughtX (I : Inv X pins σ H s) : Inv (X.caughtX a) pins σ H s :=
  ⟨⟨I.ok.mod, I.ok.kind, I.ok.glob, I.ok.blt, I.ok.above, I.ok.inj, I.ok.has, I.ok.cab, (fun z => nomatch z), I.ok.frames, I.ok.stk, I.ok.exf, I.ok.bs, I.ok.bsz, I.ok.noex, I.ok.exfs, I.ok.funs, I.ok.frf⟩,
    I.os, I.bare, I.base, I.loc, I.cell, I.free, I.freeC, I.pin, I.hok, I.len⟩
theorem Inv.ofCaughtX (hd : X.calm = true → X.A.handled = none) (I : Inv (X.caughtX a) pins σ H s) : Inv X pins σ H s :=
  ⟨⟨I.ok.mod, I.ok.kind, I.ok.glob, I.ok.blt, I.ok.above, I.ok.inj, I.ok.has, I.ok.cab, hd, I.ok.frames, I.ok.stk, I.ok.exf, I.ok.bs, I.ok.bsz, I.ok.noex, I.ok.exfs, I.ok.funs, I.ok.frf⟩,
    I.os, I.bare, I.base, I.loc, I.cell, I.free, I.freeC, I.pin, I.hok, I.len⟩
theorem SP.ofCaughtX {D : Ends} {f : Flow} (hd : X.calm = true → X.A.handled = none) (h : SP (X.caughtX a) pins D f s) : SP X pins D f s := by
  cases f with
  | next => obtain ⟨σ', H', J, q⟩ := h; exact ⟨σ', H', J.ofCaughtX hd, q⟩
  | brk => obtain ⟨σ', H', J, q⟩ := h; exact ⟨σ', H', J.ofCaughtX hd, q⟩
  | cont => obtain ⟨σ', H', J, q⟩ := h; exact ⟨σ', H', J.ofCaughtX hd, q⟩
  | ret u => obtain ⟨v, σ', H', J, r, q⟩ := h; exact ⟨v, σ', H', J.ofCaughtX hd, r, q⟩
theorem ExT0.ty {M : Model} {fl : Value} {h : Heap} (x : ExT0 h a T cls dd fl) : PySem.W.Looks M h (typeOf (.ref a)) cls := by
  obtain ⟨oe, vs, oT, ts, he, hc, _⟩ := x
  exact hc ▸ (PySem.W.Looks.ld he).andThen .now
theorem Inv.track0 {h' : Heap} {t' : Nat} {fl : Value} (I : Inv X pins σ H s) (na : NewX X pins H a) (nT : NewX X pins H T) (c : ∀ F, Chg F [T] s.heap h') (x : ExT0 h' a T cls dd fl) : Inv X pins σ (upd H a (.ext (C0 a))) { s with heap := h', toks := t' } := by
  have hS : ∀ b ∈ [a, T], NewX X pins H b := fun b hb => by
    simp only [List.mem_cons, List.not_mem_nil, or_false] at hb
    rcases hb with rfl | rfl
    · exact na
    · exact nT
  have c' : Chg (frs X.stack) [a, T] s.heap h' := fun b o q n => c _ b o q fun z => n (List.mem_cons_of_mem _ z)
  have ok := I.hok.chg c' I.stkFree fun b hb => (hS b hb).un
  refine I.chg c' hS (fun b nb => upd_ne fun z => nb (by rw [z]; exact List.mem_cons_self)) fun b o e => ?_
  by_cases hb : b = a
  · subst hb
    rw [upd_same] at e
    cases e
    obtain ⟨oe, vs, oT, ts, he, hc, hd, hv, _, _, _, _, _, v2⟩ := x
    refine ⟨⟨oe, vs, he, hv, v2⟩, ⟨oe, he⟩, fun h1 h2 ⟨oe, vs, he, r⟩ k => ⟨oe, vs, k oe he, r⟩⟩
  · rw [upd_ne hb] at e
    exact (ok b o e).stay (fun _ _ _ q => q) (fun c' q => by rw [upd_ne (ne_of_none q na.un)]; exact q) fun c' xs q => by rw [upd_ne (ne_of_none q na.un)]; exact q
end
def hNoX (K : PySem.W.Frag) (C : Addr) (ts : Addr → TS) (thr : TH) : TH := fun D cls dd σ H => ∃ b, PySem.W.exmOne K cls (.ref C) = some b ∧ if b = true then ∀ a, H a = none → ts a D σ (upd H a (.ext (C0 a))) else thr D cls dd σ H
theorem ph_nil0 {X : Cx} : PH0 X [] fun _ _ _ _ _ => False := fun _ _ _ _ _ _ _ _ _ _ _ _ _ h => h.elim
section
variable {X : Cx} {C : Addr} {x n : Str} {i : Nat} {np pos : Pos} {b₀ : Stmt} {body : List Stmt} {rest : List ExceptHandler} {ts : Addr → TS} {thr : TH}
theorem ph_noX (hm : X.mg x = some (.ref C)) (hg : Gl X x) (hp : ∀ a, PassesOwnAt (model X.prog X.w) (X.A.mark (some (.ref a))) X.A X.env X.xe) (hs : ∀ a, (X.calm = true → X.A.handled = none) → PSs (X.caughtX a) (b₀ :: body) (ts a)) (hr : PH0 X rest thr)
    (hdb : (x == ("__debug__" : Str)) = false := by decide) : PH0 X (.ExceptHandler (some (.Name x np)) none (b₀ :: body) pos :: rest) (hNoX X.K C ts thr) := by
  intro pins σ H s a T cls dd D I na nT ex h
  obtain ⟨b, em, h⟩ := h
  refine wpAny_handleBy_cons (codeAny_handlers_test (ld_glob (X := X.caughtX a) I.caughtX hg hm ((PySem.W.exm_one I.kIn ex.ty em).here ?_) hdb)) (by intro q; cases q)
  cases b with
  | false => exact hr pins σ H s a T cls dd D I na nT ex h
  | true =>
    refine codeAny_handlers_suite (flight_none0 ex fun h1 c1 x1 => ?_)
    have J := I.track0 (t' := s.toks) na nT c1 x1
    exact wpAny_mono (hs a I.ok.hd pins _ _ _ D J.caughtX (h a na.un)) (fun f s3 q => SP.ofCaughtX I.ok.hd q) (hp a)
end
def tRaiseH (C a : Addr) (E : St → XK) (t : TA) : TS := fun _ σ H => t σ H fun vs H1 => vs.length ≤ sizeLine ∧ H1 a = some (.ext (C0 a)) ∧ E σ (.ref C) none H1
theorem ps_raiseH {X : Cx} {C a : Addr} {x : Str} {e : Expr} {es : List Expr} {t : TA} {E : St → XK} {np cpos pos npos : Pos} {kk : Nat} (c : XCls X.K C) (hm : X.mg x = some (.ref C)) (hg : Gl X x) (rs : Raises X E) (hd : X.calm = true → X.A.handled = none) (ha : PA (X.caughtX a) (e :: es) t) (hx : X.ex = [] := by rfl)
    (hdb : (x == ("__debug__" : Str)) = false := by decide) (he : starEach (e :: es) X.env = (false, eval e X.env) :: starEach es X.env := by rfl) (hpl : (backTo cpos (starEach es X.env)).any (·.1) = false := by rfl) :
    PS (X.caughtX a) (.Raise (some (.Call (.Name x np) (e :: es) [] cpos)) (some (.Constant .none kk npos)) pos) (tRaiseH C a E t) := by
  intro pins s σ H D I h
  obtain ⟨bm, N, nm, q, bs, hdct, sn, sub, ab, col, dd, k0, k1, k2, k3, k5, mN, hC, hN, hni, T⟩ := exc_obj I.mod.kin c.ex
  refine wpAny_Raise_from (a := a) (C := C) (nm := nm) (q := q) (N := N) (bs := bs) (bm := bm) (hdct := hdct) (sn := sn) (sub := sub) (ab := ab) (col := col) (dd := dd) (k0 := k0) (k1 := k1) (k2 := k2) (k3 := k3) (k5 := k5) PySem.F.excBase_ValueError
    (T.hasType PySem.F.excBase_ValueError.hasBase) rfl (by rw [he]; show (false || (backTo cpos (starEach es X.env)).any (·.1)) = false; rw [hpl]; rfl) hni (ld_glob (X := X.caughtX a) I hg hm ⟨rfl, ?_⟩ hdb)
  have w := ha cpos pins s σ H _ I h
  rw [he] at w ⊢
  refine Calls.evalArgs_plain (thn w fun us s2 ⟨vs, H2, I2, r, z, ht, q2⟩ => ⟨rfl, by rw [← r.length]; exact z, ?_, I2.bk _ _ hC, hN.keeps I2.bk, T.keeps I2.bk, fun h' e t kp ne at' => ?_⟩)
  · obtain ⟨p, _, _⟩ := (show ObjOk X.prog X.w H2 s2.heap a (.ext (C0 a)) from I2.hok a _ ht)
    exact p
  have J := I2.ofCaughtX hd
  have na := J.newX hx ne (J.hok.none_of ne)
  exact rs pins σ H2 _ e (.ref C) none (J.kept (t' := s2.toks) kp) na ⟨_, _, at', rfl, rfl, rfl, rfl⟩ q2
end L2
namespace Lk21
open PySem L2 Pm Pb
def top (i : Nat) : Stmt := PySem.Challenge.pw_pulsebook_k21_spoilt_texts.main.body.getD i (.Pass ⟨0, 0, 0, 0⟩)
structure Txt (P : Program) (w : World) (K : PySem.W.Frag) (mg : Str → Option Value) (c_BadForm c_NotTight c_BadText c_PulseError : Addr) : Prop where
  one : True
  b_len : mg "len" = none
  b_list : mg "list" = none
  b_tuple : mg "tuple" = none
  b_range : mg "range" = none
  b_isinstance : mg "isinstance" = none
  b_bool : mg "bool" = none
  b_int : mg "int" = none
  b_all : mg "all" = none
  b_str : mg "str" = none
  b_ValueError : mg "ValueError" = none
  g_LONGEST_HEAD : ∃ t, mg "LONGEST_HEAD" = some (.int 400 t)
  g_LONGEST_BAR : ∃ t, mg "LONGEST_BAR" = some (.int 200 t)
  g_FIGURES : ∃ a, mg "FIGURES" = some (.ref a) ∧ KD P w K a [(Sum.inr "0", .int 0), (Sum.inr "1", .int 1)]
  m_BadForm : mg "BadForm" = some (.ref c_BadForm)
  m_NotTight : mg "NotTight" = some (.ref c_NotTight)
  m_BadText : mg "BadText" = some (.ref c_BadText)
  m_PulseError : mg "PulseError" = some (.ref c_PulseError)
  x_BadForm : XCls K c_BadForm
  x_NotTight : XCls K c_NotTight
  x_BadText : XCls K c_BadText
  e_BadForm_PulseError : PySem.W.exmOne K (.ref c_BadForm) (.ref c_PulseError) = some true
  e_BadForm_BadText : PySem.W.exmOne K (.ref c_BadForm) (.ref c_BadText) = some false
  i_BadForm_ValueError : PySem.W.kitOne K (.ref c_BadForm) (.type "ValueError") = some true
  e_NotTight_PulseError : PySem.W.exmOne K (.ref c_NotTight) (.ref c_PulseError) = some true
  e_NotTight_BadText : PySem.W.exmOne K (.ref c_NotTight) (.ref c_BadText) = some false
  i_NotTight_ValueError : PySem.W.kitOne K (.ref c_NotTight) (.type "ValueError") = some true
  e_BadText_PulseError : PySem.W.exmOne K (.ref c_BadText) (.ref c_PulseError) = some true
  e_BadText_BadText : PySem.W.exmOne K (.ref c_BadText) (.ref c_BadText) = some true
  i_BadText_ValueError : PySem.W.kitOne K (.ref c_BadText) (.type "ValueError") = some true
section
variable {P : Program} {w : World} {K : PySem.W.Frag} {mg : Str → Option Value} {base : Heap} {k : Nat} {c_BadForm c_NotTight c_BadText c_PulseError : Addr}
abbrev s_is_whole : Stmt := top 8
theorem sc_is_whole : FnScope ["value"] ["value"] (defScope s_is_whole) := ⟨rfl, rfl, rfl, by decide +kernel, rfl, by decide +kernel, by decide +kernel⟩
set_option maxHeartbeats 1000000 in
theorem ok_is_whole (TX : Txt P w K mg c_BadForm c_NotTight c_BadText c_PulseError) (F : Txt1 K mg "is_whole" s_is_whole ["value"]) : DefOk P w K mg base (k + 1) "is_whole" ["value"] (spIsWhole) := by
  refine F.ok sc_is_whole (fun vs H Q E h => ?_) (fun f cdv A outer s H vs Q E hr h => ?_)
  · first | (obtain ⟨rfl, _⟩ := h; rfl) | (obtain ⟨_, rfl, _⟩ := h; rfl) | (obtain ⟨_, _, rfl, _⟩ := h; rfl) | (obtain ⟨_, _, _, rfl, _⟩ := h; rfl) | (obtain ⟨_, _, _, _, rfl, _⟩ := h; rfl) | (obtain ⟨_, _, _, _, _, rfl, _⟩ := h; rfl) | (obtain ⟨_, _, _, _, _, _, rfl, _⟩ := h; rfl) | (obtain ⟨_, _, _, _, _, _, _, rfl, _⟩ := h; rfl) | (obtain ⟨_, _, _, _, _, _, _, _, rfl, _⟩ := h; rfl) | (obtain ⟨_, _, _, _, _, _, _, _, _, rfl, _⟩ := h; rfl)
  obtain ⟨x, rfl, fx, q⟩ := h
  refine ⟨_, pss_one (ps_ret (pe_and (pe_callB (call_isv (T := "int")) rfl TX.b_isinstance PyProof.Rows.boot_isinstance (pa_cons (pv 0) (pa_cons (pe_tyn rfl TX.b_int PyProof.Rows.boot_int) pa_nil))) (pe_one (pe_not (pe_callB (call_isv (T := "bool")) rfl TX.b_isinstance PyProof.Rows.boot_isinstance (pa_cons (pv 0) (pa_cons (pe_tyn rfl TX.b_bool PyProof.Rows.boot_bool) pa_nil))))))), ?_⟩
  cases x with
  | int i => exact ⟨_, rfl, _, _, _, rfl, .int _, kit_yes, _, rfl, _, rfl, _, _, _, rfl, .int _, kit_int_bool, _, rfl, q⟩
  | bl b => exact ⟨_, rfl, _, _, _, rfl, .bl _, kit_bool_int, _, rfl, _, rfl, _, _, _, rfl, .bl _, kit_yes, _, rfl, q⟩
  | str x => exact ⟨_, rfl, _, _, _, rfl, .str _, kit_str_int, _, rfl, q⟩
  | non => exact ⟨_, rfl, _, _, _, rfl, .non, kit_non_int, _, rfl, q⟩
  | _ => cases fx
abbrev s_is_number : Stmt := top 9
theorem sc_is_number : FnScope ["value", "least", "greatest"] ["value", "least", "greatest"] (defScope s_is_number) := ⟨rfl, rfl, rfl, by decide +kernel, rfl, by decide +kernel, by decide +kernel⟩
set_option maxHeartbeats 1000000 in
theorem ok_is_number (TX : Txt P w K mg c_BadForm c_NotTight c_BadText c_PulseError) (D_is_whole : DefOk P w K mg base k "is_whole" ["value"] (spIsWhole)) (F : Txt1 K mg "is_number" s_is_number ["value", "least", "greatest"]) : DefOk P w K mg base (k + 1) "is_number" ["value", "least", "greatest"] (spIsNumber) := by
  refine F.ok sc_is_number (fun vs H Q E h => ?_) (fun f cdv A outer s H vs Q E hr h => ?_)
  · first | (obtain ⟨rfl, _⟩ := h; rfl) | (obtain ⟨_, rfl, _⟩ := h; rfl) | (obtain ⟨_, _, rfl, _⟩ := h; rfl) | (obtain ⟨_, _, _, rfl, _⟩ := h; rfl) | (obtain ⟨_, _, _, _, rfl, _⟩ := h; rfl) | (obtain ⟨_, _, _, _, _, rfl, _⟩ := h; rfl) | (obtain ⟨_, _, _, _, _, _, rfl, _⟩ := h; rfl) | (obtain ⟨_, _, _, _, _, _, _, rfl, _⟩ := h; rfl) | (obtain ⟨_, _, _, _, _, _, _, _, rfl, _⟩ := h; rfl) | (obtain ⟨_, _, _, _, _, _, _, _, _, rfl, _⟩ := h; rfl)
  obtain ⟨x, lo, hi, rfl, fx, q⟩ := h
  refine ⟨_, pss_one (ps_ret (pe_and (pe_callD D_is_whole hr rfl (pa_cons (pv 0) pa_nil)) (pe_one (pe_chain op_le op_le (pv 1) (pv 0) (pv 2))))), ?_⟩
  refine ⟨_, rfl, x, rfl, fx, _, rfl, ?_⟩
  cases x with
  | int i =>
    refine ⟨_, rfl, _, rfl, _, _, rfl, rfl, _, rfl, ?_⟩
    refine ite2 (fun h0 => ?_) (fun h0 => ?_)
    · refine ⟨_, rfl, _, _, rfl, rfl, ?_⟩
      have e : inB lo hi (.int i) = decide (i ≤ hi) := by show (decide (lo ≤ i) && decide (i ≤ hi)) = _; rw [h0]; rfl
      rw [e] at q
      exact q
    · have e : inB lo hi (.int i) = false := by show (decide (lo ≤ i) && decide (i ≤ hi)) = _; rw [Bool.eq_false_iff.mpr h0]; rfl
      rw [e] at q
      exact q
  | bl b => exact q
  | str x => exact q
  | non => exact q
  | _ => cases fx
abbrev s_are_numbers : Stmt := top 10
theorem sc_are_numbers : FnScope ["entries", "least", "greatest"] ["entries", "least", "greatest"] (defScope s_are_numbers) := ⟨rfl, rfl, rfl, by decide +kernel, rfl, by decide +kernel, by decide +kernel⟩
def cs_are_numbers_0 : Scope := { kind := .function, names := [(".0", .local), ("entry", .local), ("is_number", .globalImplicit), ("greatest", .free), ("least", .free)], isGenerator := false, isCoroutine := false, more := [] }
theorem co_are_numbers_0 : CompOk (defScope s_are_numbers) cs_are_numbers_0 ["entries", "least", "greatest"] "entry" ["greatest", "least"] [2, 1] := ⟨rfl, by decide +kernel, by decide +kernel, by decide +kernel, by decide +kernel, by decide +kernel, rfl, by decide +kernel⟩
set_option maxHeartbeats 1000000 in
theorem ok_are_numbers (TX : Txt P w K mg c_BadForm c_NotTight c_BadText c_PulseError) (D_is_number : DefOk P w K mg base k "is_number" ["value", "least", "greatest"] (spIsNumber)) (F : Txt1 K mg "are_numbers" s_are_numbers ["entries", "least", "greatest"]) : DefOk P w K mg base (k + 1) "are_numbers" ["entries", "least", "greatest"] (spAreT K) := by
  refine F.ok sc_are_numbers (fun vs H Q E h => ?_) (fun f cdv A outer s H vs Q E hr h => ?_)
  · first | (obtain ⟨rfl, _⟩ := h; rfl) | (obtain ⟨_, rfl, _⟩ := h; rfl) | (obtain ⟨_, _, rfl, _⟩ := h; rfl) | (obtain ⟨_, _, _, rfl, _⟩ := h; rfl) | (obtain ⟨_, _, _, _, rfl, _⟩ := h; rfl) | (obtain ⟨_, _, _, _, _, rfl, _⟩ := h; rfl) | (obtain ⟨_, _, _, _, _, _, rfl, _⟩ := h; rfl) | (obtain ⟨_, _, _, _, _, _, _, rfl, _⟩ := h; rfl) | (obtain ⟨_, _, _, _, _, _, _, _, rfl, _⟩ := h; rfl) | (obtain ⟨_, _, _, _, _, _, _, _, _, rfl, _⟩ := h; rfl)
  obtain ⟨a, xs, lo, hi, rfl, h1, fl, lx, q⟩ := h
  refine ⟨_, pss_one (ps_ret (pe_callB (call_allL rfl) rfl TX.b_all PyProof.Rows.boot_all (pa_cons (pe_comp rfl co_are_numbers_0 (pi_tup (pv 0)) (fun _ _ _ _ => pts_nil) (fun _ _ _ _ => (pe_callD D_is_number hr rfl (pa_cons (pv 0) (pa_cons (pv 2) (pa_cons (pv 1) pa_nil)))))) pa_nil))), ?_⟩
  refine ⟨_, rfl, a, rfl, ⟨_, h1⟩, ?_⟩
  refine comp_tup h1 (small lx) (fun v => some (.bl (inB lo hi v))) (fun v H' hv sm => ?_) (fun r1 H3 s3 n1 r1e => ?_)
  · exact ⟨_, rfl, _, rfl, _, rfl, v, _, _, rfl, List.all_eq_true.mp fl v hv, Same.refl _, rfl⟩
  · rw [filterMap_some_map, map_bl] at r1e
    refine ⟨r1, xs.map (inB lo hi), rfl, SqL.of r1e, ?_⟩
    rw [List.all_map]
    exact q H3 s3
abbrev s_place_in_bar : Stmt := top 11
theorem sc_place_in_bar : FnScope ["day", "head", "bar"] ["day", "head", "bar"] (defScope s_place_in_bar) := ⟨rfl, rfl, rfl, by decide +kernel, rfl, by decide +kernel, by decide +kernel⟩
set_option maxHeartbeats 1000000 in
theorem ok_place_in_bar (TX : Txt P w K mg c_BadForm c_NotTight c_BadText c_PulseError) (F : Txt1 K mg "place_in_bar" s_place_in_bar ["day", "head", "bar"]) : DefOk P w K mg base (k + 1) "place_in_bar" ["day", "head", "bar"] (spPlace K) := by
  refine F.ok sc_place_in_bar (fun vs H Q E h => ?_) (fun f cdv A outer s H vs Q E hr h => ?_)
  · first | (obtain ⟨rfl, _⟩ := h; rfl) | (obtain ⟨_, rfl, _⟩ := h; rfl) | (obtain ⟨_, _, rfl, _⟩ := h; rfl) | (obtain ⟨_, _, _, rfl, _⟩ := h; rfl) | (obtain ⟨_, _, _, _, rfl, _⟩ := h; rfl) | (obtain ⟨_, _, _, _, _, rfl, _⟩ := h; rfl) | (obtain ⟨_, _, _, _, _, _, rfl, _⟩ := h; rfl) | (obtain ⟨_, _, _, _, _, _, _, rfl, _⟩ := h; rfl) | (obtain ⟨_, _, _, _, _, _, _, _, rfl, _⟩ := h; rfl) | (obtain ⟨_, _, _, _, _, _, _, _, _, rfl, _⟩ := h; rfl)
  obtain ⟨d, a, c, xs, ys, rfl, ha, hc, hy, q⟩ := h
  refine ⟨_, pss_one (ps_ret (pe_op op_mod (pe_op op_sub (pv 0) (pe_callB call_len_seq rfl TX.b_len PySem.boot_len (pa_cons (pv 1) pa_nil))) (pe_callB call_len_seq rfl TX.b_len PySem.boot_len (pa_cons (pv 2) pa_nil)))), ?_⟩
  exact ⟨_, rfl, _, rfl, _, _, rfl, .inr ha, _, _, rfl, rfl, _, rfl, _, _, rfl, .inr hc, _, _, rfl, rfl, by omega, q⟩
abbrev s_shortest_bar : Stmt := top 12
theorem sc_shortest_bar : FnScope ["bar", "length"] ["bar"] (defScope s_shortest_bar) := ⟨rfl, rfl, rfl, by decide +kernel, rfl, by decide +kernel, by decide +kernel⟩
set_option maxHeartbeats 1000000 in
theorem ok_shortest_bar (TX : Txt P w K mg c_BadForm c_NotTight c_BadText c_PulseError) (F : Txt1 K mg "shortest_bar" s_shortest_bar ["bar"]) : DefOk P w K mg base (k + 1) "shortest_bar" ["bar"] (spShort K) := by
  refine F.ok sc_shortest_bar (fun vs H Q E h => ?_) (fun f cdv A outer s H vs Q E hr h => ?_)
  · first | (obtain ⟨rfl, _⟩ := h; rfl) | (obtain ⟨_, rfl, _⟩ := h; rfl) | (obtain ⟨_, _, rfl, _⟩ := h; rfl) | (obtain ⟨_, _, _, rfl, _⟩ := h; rfl) | (obtain ⟨_, _, _, _, rfl, _⟩ := h; rfl) | (obtain ⟨_, _, _, _, _, rfl, _⟩ := h; rfl) | (obtain ⟨_, _, _, _, _, _, rfl, _⟩ := h; rfl) | (obtain ⟨_, _, _, _, _, _, _, rfl, _⟩ := h; rfl) | (obtain ⟨_, _, _, _, _, _, _, _, rfl, _⟩ := h; rfl) | (obtain ⟨_, _, _, _, _, _, _, _, _, rfl, _⟩ := h; rfl)
  have hu := hr.units
  obtain ⟨c, b, rfl, hc, hb, lb, q⟩ := h
  refine ⟨_, pss_cons (ps_for PassesOwn.never rfl (pi_range2 rfl TX.b_range (pa_cons pe_int (pa_cons (pe_callB call_len_seq rfl TX.b_len PySem.boot_len (pa_cons (pv 0) pa_nil)) pa_nil))) (pg_name (i := 1) sc_shortest_bar.nd rfl (Or.inl rfl)) (pss_one (ps_if (PW.pt (pw_and (pt_cmpR op_eq (pe_op op_mod (pe_callB call_len_seq rfl TX.b_len PySem.boot_len (pa_cons (pv 0) pa_nil)) (pv 1)) pe_int (nomark _)) (pw_and1 (pt_cmpR (op_eqD hu) (pe_op op_repT (pe_slice sl_tupU (pv 0) po_none (po_some (pv 1))) (pe_op op_fdiv (pe_callB call_len_seq rfl TX.b_len PySem.boot_len (pa_cons (pv 0) pa_nil)) (pv 1))) (pv 0) (nomark _))))) (pss_one (ps_ret (pe_slice sl_tupU (pv 0) po_none (po_some (pv 1))))) pss_nil)))
      (pss_one (ps_ret (pv 0))), ?_⟩
  have hz : (((b.map V.int).length : Nat) : Int) = (b.length : Int) := by rw [List.length_map]
  refine ⟨_, rfl, _, _, rfl, .inr hc, 1, _, rfl, ⟨by decide, by decide, by omega, by omega⟩, for_range (lo := 1) (fun i σ H2 => ∃ v : Option V, σ = [some (.ref c), v] ∧ Same H H2 ∧ ∀ j, 0 < j → j < i + 1 → b.length % j = 0 → ¬ Again b j) ⟨none, rfl, Same.refl _, fun j h1 h2 => by omega⟩ ?_ ?_⟩
  · rintro i σ H2 hi ⟨v, rfl, s2, least⟩
    rw [hz] at hi
    have hi2 : i + 1 < b.length := by omega
    have c2 := s2.tup hc
    have ei : (1 : Int) + (i : Int) = ((i + 1 : Nat) : Int) := by omega
    rw [ei]
    refine ⟨_, rfl, _, _, rfl, .inr c2, _, rfl, _, _, rfl, rfl, by omega, rfl, _, rfl, ?_⟩
    rw [hz, dec_vint]
    have nx : (b.length % (i + 1) = 0 → ¬ Again b (i + 1)) → ∀ j, 0 < j → j < i + 1 + 1 → b.length % j = 0 → ¬ Again b j := fun no j h1 h2 h3 => by
      by_cases z : j = i + 1
      · subst z; exact no h3
      · exact least j h1 (by omega) h3
    refine ite2 (fun hm => ?_) (fun hm => ?_)
    · have hm : b.length % (i + 1) = 0 := by
        have := of_decide_eq_true hm
        rw [← Int.natCast_emod] at this
        omega
      have hr := rep_iff (b := b) (n := i + 1) (by omega) (by omega) hm
      have fd : (b.length : Int) / ((i + 1 : Nat) : Int) = ((b.length / (i + 1) : Nat) : Int) := by rw [Int.natCast_ediv]
      have dvm : (i + 1) * (b.length / (i + 1)) = b.length := Nat.mul_div_cancel' (Nat.dvd_of_mod_eq_zero hm)
      have dle : b.length / (i + 1) ≤ b.length := Nat.div_le_self _ _
      generalize b.length / (i + 1) = dd at hr fd dvm dle
      refine ⟨_, rfl, _, rfl, _, rfl, c, _, rfl, c2, fun p1 H4 s4 e4 => ?_⟩
      rw [cut_to] at e4
      refine ⟨_, rfl, _, _, rfl, .inr (s4.tup c2), _, rfl, _, _, rfl, rfl, ⟨by omega, by omega⟩, p1, _, _, rfl, rfl, e4, by rw [hz, fd]; omega, by rw [hz, fd]; omega, ?_, fun p2 H5 s5 e5 => ?_⟩
      · rw [hz, List.length_map, fd, Int.toNat_natCast, List.length_take, Nat.min_eq_left (by omega), dvm]; exact Nat.le_trans lb (by decide)
      rw [hz, fd, Int.toNat_natCast, rep_ints] at e5
      have c5 := s5.tup (s4.tup c2)
      refine ⟨_, rfl, _, _, Rep.intsT e5, Rep.intsT c5, _, rfl, ?_⟩
      rw [eqv_dT]
      refine ite2 (fun he => ?_) (fun he => ?_)
      · have he := of_decide_eq_true he
        refine ⟨_, rfl, _, rfl, _, rfl, c, _, rfl, c5, fun p3 H6 s6 e6 => ?_⟩
        rw [cut_to] at e6
        exact q p3 (i + 1) H6 (s2.trans (s4.trans (s5.trans s6))) e6 ⟨by omega, by omega, hm, hr.mp he, least⟩
      · have he : ¬ _ := fun z => he (decide_eq_true z)
        exact ⟨_, rfl, s2.trans (s4.trans s5), nx fun _ ag => he (hr.mpr ag)⟩
    · have hm : b.length % (i + 1) ≠ 0 := fun z => hm (decide_eq_true (by rw [← Int.natCast_emod, z]; rfl))
      exact iteF ⟨_, rfl, s2, nx fun z => absurd z hm⟩
  · rintro σ H2 ⟨v, rfl, s2, least⟩
    rw [hz] at least
    refine ⟨_, rfl, q c b.length H2 s2 (by rw [List.take_length]; exact s2.tup hc) ⟨hb, Nat.le_refl _, Nat.mod_self _, fun i hi => by omega, fun j h1 h2 h3 => least j h1 (by omega) h3⟩⟩
abbrev s_needed_of_head : Stmt := top 13
theorem sc_needed_of_head : FnScope ["head", "bar", "needed"] ["head", "bar"] (defScope s_needed_of_head) := ⟨rfl, rfl, rfl, by decide +kernel, rfl, by decide +kernel, by decide +kernel⟩
set_option maxHeartbeats 1000000 in
theorem ok_needed_of_head (TX : Txt P w K mg c_BadForm c_NotTight c_BadText c_PulseError) (D_place_in_bar : DefOk P w K mg base k "place_in_bar" ["day", "head", "bar"] (spPlace K)) (F : Txt1 K mg "needed_of_head" s_needed_of_head ["head", "bar"]) : DefOk P w K mg base (k + 1) "needed_of_head" ["head", "bar"] (spNeeded K) := by
  refine F.ok sc_needed_of_head (fun vs H Q E h => ?_) (fun f cdv A outer s H vs Q E hr h => ?_)
  · first | (obtain ⟨rfl, _⟩ := h; rfl) | (obtain ⟨_, rfl, _⟩ := h; rfl) | (obtain ⟨_, _, rfl, _⟩ := h; rfl) | (obtain ⟨_, _, _, rfl, _⟩ := h; rfl) | (obtain ⟨_, _, _, _, rfl, _⟩ := h; rfl) | (obtain ⟨_, _, _, _, _, rfl, _⟩ := h; rfl) | (obtain ⟨_, _, _, _, _, _, rfl, _⟩ := h; rfl) | (obtain ⟨_, _, _, _, _, _, _, rfl, _⟩ := h; rfl) | (obtain ⟨_, _, _, _, _, _, _, _, rfl, _⟩ := h; rfl) | (obtain ⟨_, _, _, _, _, _, _, _, _, rfl, _⟩ := h; rfl)
  obtain ⟨a, c, h, s', rfl, ha, hc, hs, q⟩ := h
  refine ⟨_, pss_cons (ps_set (i := 2) sc_needed_of_head.nd rfl (Or.inl rfl) (pe_callB call_len_seq rfl TX.b_len PySem.boot_len (pa_cons (pv 0) pa_nil)))
      (pss_cons (ps_while PassesOwn.never (PW.pt (pw_and (pt_cmpR op_gt (pv 2) pe_int (nomark _)) (pw_and1 (pt_cmpR op_eq (pe_ix ix_tup (pv 0) (pe_op op_sub (pv 2) pe_int) (fun _ _ => rfl)) (pe_ix ix_tup (pv 1) (pe_callD D_place_in_bar hr rfl (pa_cons (pe_op op_sub (pv 2) pe_int) (pa_cons (pv 0) (pa_cons (pv 1) pa_nil)))) (fun _ _ => rfl)) (nomark _))))) (pss_one (ps_set (i := 2) sc_needed_of_head.nd rfl (Or.inl rfl) (pe_op op_sub (pv 2) pe_int))))
      (pss_one (ps_ret (pv 2)))), ?_⟩
  refine ⟨_, rfl, _, _, rfl, .inr ha, ?_⟩
  rw [List.length_map]
  refine ⟨fun m σ H' => ∃ kk : Nat, σ = [some (.ref a), some (.ref c), some (.int ((h.length : Int) - (kk : Int)))] ∧ H' = H ∧ kk ≤ h.length ∧ m = h.length - kk ∧
    ∀ j, h.length - kk ≤ j → j < h.length → h.getD j 0 = s'.getD ((((j : Int) - (h.length : Int)) % (s'.length : Int)).toNat) 0, ⟨_, 0, by rw [show (h.length : Int) - ((0 : Nat) : Int) = (h.length : Int) by omega]; rfl, rfl, Nat.zero_le _, rfl, fun j h1 h2 => by omega⟩, ?_⟩
  rintro m σ H' ⟨kk, rfl, rfl, hk, rfl, hj⟩
  refine ⟨_, rfl, _, _, rfl, rfl, _, rfl, ?_⟩
  refine ite2 (fun hp => ?_) (fun hp => ?_)
  · have hp : (0 : Int) < (h.length : Int) - (kk : Int) := of_decide_eq_true hp
    have hkl : kk < h.length := by omega
    have i1 : (h.length : Int) - (kk : Int) - 1 < (h.length : Int) := by omega
    refine ⟨_, rfl, _, rfl, _, _, rfl, rfl, a, _, _, _, rfl, rfl, ha, at_ints (by omega) i1, _, rfl, _, rfl, _, _, rfl, rfl, _, rfl, _, rfl, _, a, c, _, _, rfl, ha, hc, by rw [List.length_map]; exact hs, ?_⟩
    rw [List.length_map, List.length_map]
    refine ⟨c, _, _, _, rfl, rfl, hc, at_ints (bar_nn hs) (bar_lt hs), rfl, _, rfl, ?_⟩
    rw [dec_vint]
    have t1 : ((h.length : Int) - (kk : Int) - 1).toNat = h.length - kk - 1 := by omega
    have t2 : (h.length : Int) - (kk : Int) - 1 - (h.length : Int) = -1 - (kk : Int) := by omega
    rw [t1, t2]
    refine ite2 (fun eq => ?_) (fun neq => ?_)
    · have eq := of_decide_eq_true eq
      refine ⟨_, fun _ _ z => z, ?_⟩
      refine ⟨_, rfl, _, _, rfl, rfl, h.length - (kk + 1), by omega, kk + 1, ?_, rfl, by omega, rfl, fun j j1 j2 => ?_⟩
      · rw [show (h.length : Int) - ((kk + 1 : Nat) : Int) = (h.length : Int) - (kk : Int) - 1 by omega]; rfl
      · by_cases z : h.length - kk ≤ j
        · exact hj j z j2
        · have z : j = h.length - kk - 1 := by omega
          have e : (j : Int) - (h.length : Int) = -1 - (kk : Int) := by omega
          rw [e, z]
          exact eq
    · have neq : ¬ _ := fun z => neq (decide_eq_true z)
      exact ⟨_, rfl, q kk hk hj fun _ => neq⟩
  · have hp : ¬ (0 : Int) < (h.length : Int) - (kk : Int) := fun z => hp (decide_eq_true z)
    exact iteF ⟨_, rfl, q kk hk hj fun z => absurd z (by omega)⟩
abbrev s_tight : Stmt := top 14
theorem sc_tight : FnScope ["head", "bar", "short", "needed", "first"] ["head", "bar"] (defScope s_tight) := ⟨rfl, rfl, rfl, by decide +kernel, rfl, by decide +kernel, by decide +kernel⟩
set_option maxHeartbeats 1000000 in
theorem ok_tight (TX : Txt P w K mg c_BadForm c_NotTight c_BadText c_PulseError) (D_shortest_bar : DefOk P w K mg base k "shortest_bar" ["bar"] (spShort K)) (D_needed_of_head : DefOk P w K mg base k "needed_of_head" ["head", "bar"] (spNeeded K)) (D_place_in_bar : DefOk P w K mg base k "place_in_bar" ["day", "head", "bar"] (spPlace K)) (F : Txt1 K mg "tight" s_tight ["head", "bar"]) : DefOk P w K mg base (k + 1) "tight" ["head", "bar"] (spTight K) := by
  refine F.ok sc_tight (fun vs H Q E h => ?_) (fun f cdv A outer s H vs Q E hr h => ?_)
  · first | (obtain ⟨rfl, _⟩ := h; rfl) | (obtain ⟨_, rfl, _⟩ := h; rfl) | (obtain ⟨_, _, rfl, _⟩ := h; rfl) | (obtain ⟨_, _, _, rfl, _⟩ := h; rfl) | (obtain ⟨_, _, _, _, rfl, _⟩ := h; rfl) | (obtain ⟨_, _, _, _, _, rfl, _⟩ := h; rfl) | (obtain ⟨_, _, _, _, _, _, rfl, _⟩ := h; rfl) | (obtain ⟨_, _, _, _, _, _, _, rfl, _⟩ := h; rfl) | (obtain ⟨_, _, _, _, _, _, _, _, rfl, _⟩ := h; rfl) | (obtain ⟨_, _, _, _, _, _, _, _, _, rfl, _⟩ := h; rfl)
  obtain ⟨a, c, h, b, rfl, ha, hc, hb, lh, lb, q⟩ := h
  refine ⟨_, pss_cons (ps_set (i := 2) sc_tight.nd rfl (Or.inl rfl) (pe_callD D_shortest_bar hr rfl (pa_cons (pv 1) pa_nil)))
      (pss_cons (ps_set (i := 3) sc_tight.nd rfl (Or.inl rfl) (pe_callD D_needed_of_head hr rfl (pa_cons (pv 0) (pa_cons (pv 2) pa_nil))))
      (pss_cons (ps_set (i := 4) sc_tight.nd rfl (Or.inl rfl) (pe_callD D_place_in_bar hr rfl (pa_cons (pv 3) (pa_cons (pv 0) (pa_cons (pv 2) pa_nil)))))
      (pss_one (ps_ret (pe_tup (pa_cons (pe_slice sl_tupU (pv 0) po_none (po_some (pv 3))) (pa_cons (pe_op op_catU (pe_slice sl_tupU (pv 2) (po_some (pv 4)) po_none) (pe_slice sl_tupU (pv 2) po_none (po_some (pv 4)))) pa_nil))))))), ?_⟩
  refine ⟨_, rfl, c, b, rfl, hc, hb, lb, fun p n H1 s1 e1 sh => ?_⟩
  have ln : (b.take n).length = n := by have := sh.le; rw [List.length_take]; omega
  have a1 := s1.tup ha
  refine ⟨_, rfl, _, rfl, a, p, h, b.take n, rfl, a1, e1, by rw [ln]; exact sh.pos, fun kk hk hj stop => ?_⟩
  rw [ln] at hj stop
  refine ⟨_, rfl, _, rfl, _, rfl, _, a, p, _, _, rfl, a1, e1, by rw [List.length_map, ln]; exact sh.pos, ?_⟩
  rw [List.length_map, List.length_map, ln]
  have e0 : (h.length : Int) - (kk : Int) - (h.length : Int) = -(kk : Int) := by omega
  rw [e0]
  have f1 := Int.emod_nonneg (-(kk : Int)) (show (n : Int) ≠ 0 by have := sh.pos; omega)
  have f2 := Int.emod_lt_of_pos (-(kk : Int)) (show 0 < (n : Int) by have := sh.pos; omega)
  have ef : (-(kk : Int)) % (n : Int) = (((-(kk : Int)) % (n : Int)).toNat : Int) := by omega
  have eh : (h.length : Int) - (kk : Int) = ((h.length - kk : Nat) : Int) := by omega
  rw [ef, eh]
  refine ⟨_, rfl, _, rfl, _, rfl, a, _, rfl, a1, fun p1 H2 s2 e2 => ?_⟩
  rw [cut_to] at e2
  refine ⟨_, rfl, _, rfl, _, rfl, p, _, rfl, s2.tup e1, fun p2 H3 s3 e3 => ?_⟩
  rw [cut_from] at e3
  refine ⟨_, rfl, _, rfl, _, rfl, p, _, rfl, s3.tup (s2.tup e1), fun p3 H4 s4 e4 => ?_⟩
  rw [cut_to] at e4
  refine ⟨p2, p3, _, _, rfl, rfl, s4.tup e3, e4, ?_, fun p4 H5 s5 e5 => ⟨smallb, fun p5 hp5 => ?_⟩⟩
  · rw [List.length_map, List.length_map, List.length_drop, ln, List.length_take, ln]
    exact Nat.le_trans (show n - _ + min _ n ≤ 400000 by have := sh.le; omega) (by decide)
  rw [← List.map_append, turn_cut (by rw [ln]; exact sh.pos) (by rw [ln])] at e5
  have t := tight_end sh hk hj stop
  exact q p5 _ _ _ (s1.trans (s2.trans (s3.trans (s4.trans (s5.trans (Same.new hp5 _)))))) (Pl.mk hp5 (s5.tup (s4.tup (s3.tup e2))) e5) t.1 t.2
abbrev s_is_row : Stmt := top 16
theorem sc_is_row : FnScope ["value", "fewest", "most"] ["value", "fewest", "most"] (defScope s_is_row) := ⟨rfl, rfl, rfl, by decide +kernel, rfl, by decide +kernel, by decide +kernel⟩
set_option maxHeartbeats 1000000 in
theorem ok_is_row (TX : Txt P w K mg c_BadForm c_NotTight c_BadText c_PulseError) (D_are_numbers : DefOk P w K mg base k "are_numbers" ["entries", "least", "greatest"] (spAreT K)) (F : Txt1 K mg "is_row" s_is_row ["value", "fewest", "most"]) : DefOk P w K mg base (k + 1) "is_row" ["value", "fewest", "most"] (spIsRow K) := by
  refine F.ok sc_is_row (fun vs H Q E h => ?_) (fun f cdv A outer s H vs Q E hr h => ?_)
  · first | (obtain ⟨rfl, _⟩ := h; rfl) | (obtain ⟨_, rfl, _⟩ := h; rfl) | (obtain ⟨_, _, rfl, _⟩ := h; rfl) | (obtain ⟨_, _, _, rfl, _⟩ := h; rfl) | (obtain ⟨_, _, _, _, rfl, _⟩ := h; rfl) | (obtain ⟨_, _, _, _, _, rfl, _⟩ := h; rfl) | (obtain ⟨_, _, _, _, _, _, rfl, _⟩ := h; rfl) | (obtain ⟨_, _, _, _, _, _, _, rfl, _⟩ := h; rfl) | (obtain ⟨_, _, _, _, _, _, _, _, rfl, _⟩ := h; rfl) | (obtain ⟨_, _, _, _, _, _, _, _, _, rfl, _⟩ := h; rfl)
  obtain ⟨x, lo, hi, r, rfl, row, q⟩ := h
  refine ⟨_, pss_cons (ps_if (PW.pt (pw_or (pt_not (pt_val (pe_callB (call_isv (T := "tuple")) rfl TX.b_isinstance PyProof.Rows.boot_isinstance (pa_cons (pv 0) (pa_cons (pe_tyn rfl TX.b_tuple PyProof.Rows.boot_tuple) pa_nil))) (fun _ => rfl))) (pw_or1 (pt_not (pt_chain op_le op_le (pv 1) (pe_callB call_len_seq rfl TX.b_len PySem.boot_len (pa_cons (pv 0) pa_nil)) (pv 2)))))) (pss_one (ps_ret pe_bl)) pss_nil)
      (pss_one (ps_ret (pe_callD D_are_numbers hr rfl (pa_cons (pv 0) (pa_cons pe_int (pa_cons pe_int pa_nil)))))), ?_⟩
  cases row with
  | lst h1 => exact ⟨_, rfl, _, _, _, rfl, .lst h1, kit_list_tuple, _, rfl, q H (Same.refl _)⟩
  | @tup a xs _ _ h1 fl lx =>
    refine ⟨_, rfl, _, _, _, rfl, .tup h1, kit_yes, _, rfl, ?_⟩
    refine iteF ?_
    refine ⟨_, rfl, _, rfl, _, _, rfl, .inr h1, _, _, rfl, rfl, _, rfl, ?_⟩
    refine ite2 (fun e1 => ?_) (fun e1 => ?_)
    · refine ⟨_, rfl, _, _, rfl, rfl, _, rfl, ?_⟩
      by_cases e2 : decide ((xs.length : Int) ≤ hi) = true
      · rw [e1, e2] at q
        rw [e2]
        refine iteF ?_
        refine ⟨_, rfl, a, _, _, _, rfl, h1, fl, lx, fun H3 s3 => ?_⟩
        rw [inB_figs]
        exact q H3 s3
      · have e2 := Bool.eq_false_iff.mpr e2
        rw [e2] at q
        rw [e2]
        rw [Bool.and_false, Bool.false_and] at q
        exact q H (Same.refl _)
    · have e1 := Bool.eq_false_iff.mpr e1
      rw [e1, Bool.false_and, Bool.false_and] at q
      exact ⟨_, rfl, q H (Same.refl _)⟩
abbrev s_is_form : Stmt := top 17
theorem sc_is_form : FnScope ["value"] ["value"] (defScope s_is_form) := ⟨rfl, rfl, rfl, by decide +kernel, rfl, by decide +kernel, by decide +kernel⟩
set_option maxHeartbeats 1000000 in
theorem ok_is_form (TX : Txt P w K mg c_BadForm c_NotTight c_BadText c_PulseError) (D_is_row : DefOk P w K mg base k "is_row" ["value", "fewest", "most"] (spIsRow K)) (F : Txt1 K mg "is_form" s_is_form ["value"]) : DefOk P w K mg base (k + 1) "is_form" ["value"] (spIsForm K) := by
  refine F.ok sc_is_form (fun vs H Q E h => ?_) (fun f cdv A outer s H vs Q E hr h => ?_)
  · first | (obtain ⟨rfl, _⟩ := h; rfl) | (obtain ⟨_, rfl, _⟩ := h; rfl) | (obtain ⟨_, _, rfl, _⟩ := h; rfl) | (obtain ⟨_, _, _, rfl, _⟩ := h; rfl) | (obtain ⟨_, _, _, _, rfl, _⟩ := h; rfl) | (obtain ⟨_, _, _, _, _, rfl, _⟩ := h; rfl) | (obtain ⟨_, _, _, _, _, _, rfl, _⟩ := h; rfl) | (obtain ⟨_, _, _, _, _, _, _, rfl, _⟩ := h; rfl) | (obtain ⟨_, _, _, _, _, _, _, _, rfl, _⟩ := h; rfl) | (obtain ⟨_, _, _, _, _, _, _, _, _, rfl, _⟩ := h; rfl)
  obtain ⟨t_LONGEST_HEAD, g_LONGEST_HEAD⟩ := TX.g_LONGEST_HEAD
  obtain ⟨t_LONGEST_BAR, g_LONGEST_BAR⟩ := TX.g_LONGEST_BAR
  obtain ⟨x, r, rfl, fm, q⟩ := h
  refine ⟨_, pss_cons (ps_if (PW.pt (pw_or (pt_not (pt_val (pe_callB (call_isv (T := "tuple")) rfl TX.b_isinstance PyProof.Rows.boot_isinstance (pa_cons (pv 0) (pa_cons (pe_tyn rfl TX.b_tuple PyProof.Rows.boot_tuple) pa_nil))) (fun _ => rfl))) (pw_or1 (pt_cmpR op_ne (pe_callB call_len_seq rfl TX.b_len PySem.boot_len (pa_cons (pv 0) pa_nil)) pe_int (nomark _))))) (pss_one (ps_ret pe_bl)) pss_nil)
      (pss_one (ps_ret (pe_and (pe_callD D_is_row hr rfl (pa_cons (pe_ix ix_tup (pv 0) pe_int (fun _ _ => rfl)) (pa_cons pe_int (pa_cons (pe_glob (v := .int 400) rfl g_LONGEST_HEAD ⟨_, rfl⟩) pa_nil)))) (pe_one (pe_callD D_is_row hr rfl (pa_cons (pe_ix ix_tup (pv 0) pe_int (fun _ _ => rfl)) (pa_cons pe_int (pa_cons (pe_glob (v := .int 200) rfl g_LONGEST_BAR ⟨_, rfl⟩) pa_nil)))))))), ?_⟩
  cases fm with
  | non => exact ⟨_, rfl, _, _, _, rfl, .non, kit_non_tuple, _, rfl, q H (Same.refl _)⟩
  | lst h1 => exact ⟨_, rfl, _, _, _, rfl, .lst h1, kit_list_tuple, _, rfl, q H (Same.refl _)⟩
  | other h1 hn =>
    refine ⟨_, rfl, _, _, _, rfl, .tup h1, kit_yes, _, rfl, ?_⟩
    refine iteF ?_
    refine ⟨_, rfl, _, _, rfl, .inr h1, rfl, _, rfl, ?_⟩
    rw [dec_vint, decide_eq_false (by omega)]
    exact q H (Same.refl _)
  | two h1 ra rb =>
    refine ⟨_, rfl, _, _, _, rfl, .tup h1, kit_yes, _, rfl, ?_⟩
    refine iteF ?_
    refine ⟨_, rfl, _, _, rfl, .inr h1, rfl, _, rfl, ?_⟩
    refine iteF ?_
    refine ⟨_, rfl, _, _, _, _, rfl, rfl, h1, at0, _, 0, 400, _, rfl, ra, fun H1 s1 => ⟨_, rfl, ?_⟩⟩
    refine ite2 (fun e1 => ?_) (fun e1 => ?_)
    · refine ⟨_, rfl, _, _, _, _, rfl, rfl, s1.tup h1, at1, _, 1, 200, _, rfl, rb.same s1, fun H2 s2 => ?_⟩
      rw [e1, Bool.true_and] at q
      exact q H2 (s1.trans s2)
    · rw [Bool.eq_false_iff.mpr e1, Bool.false_and] at q
      exact q H1 s1
abbrev s_made : Stmt := top 18
theorem sc_made : FnScope ["form"] ["form"] (defScope s_made) := ⟨rfl, rfl, rfl, by decide +kernel, rfl, by decide +kernel, by decide +kernel⟩
set_option maxHeartbeats 1000000 in
theorem ok_made (TX : Txt P w K mg c_BadForm c_NotTight c_BadText c_PulseError) (D_tight : DefOk P w K mg base k "tight" ["head", "bar"] (spTight K)) (D_is_form : DefOk P w K mg base k "is_form" ["value"] (spIsForm K)) (F : Txt1 K mg "made" s_made ["form"]) : DefOkX0 P w K mg base (k + 1) "made" ["form"] (spMadeX K c_BadForm) := by
  refine F.okX0 sc_made (fun vs H Q E h => ?_) (fun f cdv A outer s H vs Q E hr h => ?_)
  · first | (obtain ⟨rfl, _⟩ := h; rfl) | (obtain ⟨_, rfl, _⟩ := h; rfl) | (obtain ⟨_, _, rfl, _⟩ := h; rfl) | (obtain ⟨_, _, _, rfl, _⟩ := h; rfl) | (obtain ⟨_, _, _, _, rfl, _⟩ := h; rfl) | (obtain ⟨_, _, _, _, _, rfl, _⟩ := h; rfl) | (obtain ⟨_, _, _, _, _, _, rfl, _⟩ := h; rfl) | (obtain ⟨_, _, _, _, _, _, _, rfl, _⟩ := h; rfl) | (obtain ⟨_, _, _, _, _, _, _, _, rfl, _⟩ := h; rfl) | (obtain ⟨_, _, _, _, _, _, _, _, _, rfl, _⟩ := h; rfl)
  obtain ⟨x, rfl, k⟩ := h
  refine ⟨_, pss_cons (ps_if (pt_not (pt_val (pe_callD D_is_form hr rfl (pa_cons (pv 0) pa_nil)) (fun _ => rfl))) (pss_one (ps_raise0 TX.x_BadForm TX.m_BadForm rfl raises_def0 (pa_cons pe_str pa_nil))) pss_nil)
      (pss_one (PS.nox (ps_ret (pe_callD D_tight hr rfl (pa_cons (pe_ix ix_tup (pv 0) pe_int (fun _ _ => rfl)) (pa_cons (pe_ix ix_tup (pv 0) pe_int (fun _ _ => rfl)) pa_nil)))))), ?_⟩
  rcases k with ⟨p, h, b, rfl, pl, bh, bb, l1, l2, l3, q⟩ | ⟨fm, q⟩
  · obtain ⟨x, y, e1, e2, e3⟩ := id pl
    refine ⟨_, rfl, _, _, rfl, Form.good pl bh bb l1 l2 l3, fun H1 s1 => ⟨_, rfl, ?_⟩⟩
    refine iteF ?_
    exact ⟨_, rfl, _, _, _, _, rfl, rfl, s1.tup e1, at0, _, rfl, _, _, _, _, rfl, rfl, s1.tup e1, at1, x, y, h, b, rfl, s1.tup e2, s1.tup e3, l2, by omega, by omega, fun r h' b' H2 s2 pr t al => q r h' b' H2 (s1.trans s2) pr t al⟩
  · refine ⟨_, rfl, _, _, rfl, fm, fun H1 s1 => ⟨_, rfl, ?_⟩⟩
    refine iteT ?_
    exact ⟨smallb, q H1 s1⟩
abbrev s_checked : Stmt := top 19
theorem sc_checked : FnScope ["pulse"] ["pulse"] (defScope s_checked) := ⟨rfl, rfl, rfl, by decide +kernel, rfl, by decide +kernel, by decide +kernel⟩
set_option maxHeartbeats 1000000 in
theorem ok_checked (TX : Txt P w K mg c_BadForm c_NotTight c_BadText c_PulseError) (D_made : DefOkX0 P w K mg base k "made" ["form"] (spMadeX K c_BadForm)) (F : Txt1 K mg "checked" s_checked ["pulse"]) : DefOkX0 P w K mg base (k + 1) "checked" ["pulse"] (spCheckedX K c_BadForm c_NotTight) := by
  refine F.okX0 sc_checked (fun vs H Q E h => ?_) (fun f cdv A outer s H vs Q E hr h => ?_)
  · first | (obtain ⟨rfl, _⟩ := h; rfl) | (obtain ⟨_, rfl, _⟩ := h; rfl) | (obtain ⟨_, _, rfl, _⟩ := h; rfl) | (obtain ⟨_, _, _, rfl, _⟩ := h; rfl) | (obtain ⟨_, _, _, _, rfl, _⟩ := h; rfl) | (obtain ⟨_, _, _, _, _, rfl, _⟩ := h; rfl) | (obtain ⟨_, _, _, _, _, _, rfl, _⟩ := h; rfl) | (obtain ⟨_, _, _, _, _, _, _, rfl, _⟩ := h; rfl) | (obtain ⟨_, _, _, _, _, _, _, _, rfl, _⟩ := h; rfl) | (obtain ⟨_, _, _, _, _, _, _, _, _, rfl, _⟩ := h; rfl)
  have hu := hr.units
  obtain ⟨x, rfl, k⟩ := h
  refine ⟨_, pss_cons (ps_if (pt_cmpR (op_neD hu) (pe_callX0 D_made hr rfl flies_def0 (pa_cons (pv 0) pa_nil)) (pv 0) (nomark _)) (pss_one (ps_raise0 TX.x_NotTight TX.m_NotTight rfl raises_def0 (pa_cons pe_str pa_nil))) pss_nil)
      (pss_one (PS.nox (ps_ret (pv 0)))), ?_⟩
  rcases k with ⟨p, h, b, rfl, pl, bh, bb, l1, l2, l3, q1, q2⟩ | ⟨fm, q⟩
  · refine ⟨_, rfl, _, rfl, .inl ⟨p, h, b, rfl, pl, bh, bb, l1, l2, l3, fun r h' b' H1 s1 pr t al => ?_⟩⟩
    refine ⟨_, rfl, _, _, pr.rep, (pl.same s1).rep, _, rfl, ?_⟩
    rw [eqv_dP]
    by_cases z : h' = h ∧ b' = b
    · rw [decide_eq_true z]
      obtain ⟨rfl, rfl⟩ := z
      exact iteF ⟨_, rfl, q1 t H1 s1⟩
    · rw [decide_eq_false z]
      exact iteT ⟨smallb, q2 (fun t' => z (t.uniq t' al)) H1 s1⟩
  · exact ⟨_, rfl, _, rfl, .inr ⟨fm, q⟩⟩
abbrev s_figures_of : Stmt := top 22
theorem sc_figures_of : FnScope ["part"] ["part"] (defScope s_figures_of) := ⟨rfl, rfl, rfl, by decide +kernel, rfl, by decide +kernel, by decide +kernel⟩
def cs_figures_of_0 : Scope := { kind := .function, names := [(".0", .local), ("sign", .local), ("FIGURES", .globalImplicit)], isGenerator := false, isCoroutine := false, more := [] }
theorem co_figures_of_0 : CompOk (defScope s_figures_of) cs_figures_of_0 ["part"] "sign" [] [] := ⟨rfl, by decide +kernel, by decide +kernel, by decide +kernel, by decide +kernel, by decide +kernel, rfl, by decide +kernel⟩
set_option maxHeartbeats 1000000 in
theorem ok_figures_of (TX : Txt P w K mg c_BadForm c_NotTight c_BadText c_PulseError) (F : Txt1 K mg "figures_of" s_figures_of ["part"]) : DefOk P w K mg base (k + 1) "figures_of" ["part"] (spFigsOf K) := by
  refine F.ok sc_figures_of (fun vs H Q E h => ?_) (fun f cdv A outer s H vs Q E hr h => ?_)
  · first | (obtain ⟨rfl, _⟩ := h; rfl) | (obtain ⟨_, rfl, _⟩ := h; rfl) | (obtain ⟨_, _, rfl, _⟩ := h; rfl) | (obtain ⟨_, _, _, rfl, _⟩ := h; rfl) | (obtain ⟨_, _, _, _, rfl, _⟩ := h; rfl) | (obtain ⟨_, _, _, _, _, rfl, _⟩ := h; rfl) | (obtain ⟨_, _, _, _, _, _, rfl, _⟩ := h; rfl) | (obtain ⟨_, _, _, _, _, _, _, rfl, _⟩ := h; rfl) | (obtain ⟨_, _, _, _, _, _, _, _, rfl, _⟩ := h; rfl) | (obtain ⟨_, _, _, _, _, _, _, _, _, rfl, _⟩ := h; rfl)
  obtain ⟨a_FIGURES, g_FIGURES, s_FIGURES⟩ := TX.g_FIGURES
  obtain ⟨p, rfl, lp, k⟩ := h
  refine ⟨_, pss_one (ps_ret (pe_callTy call_tupleU rfl TX.b_tuple PyProof.Rows.boot_tuple (pa_cons (pe_comp rfl co_figures_of_0 (pi_str (pv 0)) (fun _ _ _ _ => pts_nil) (fun _ _ _ _ => (pe_kgetK P w K (pe_glob (v := .ref a_FIGURES) rfl g_FIGURES rfl) (pa_cons (pv 0) pa_nil)))) pa_nil))), ?_⟩
  refine ⟨_, rfl, _, rfl, ?_⟩
  have sz : (tx p).cps.size = p.length := by simp
  refine comp_str (small (by rw [sz]; exact lp)) (fun i => (p[i]?).map sgV) (fun i c H' hc sm => ?_) (fun r H1 s1 n1 f1 => ?_)
  · refine ⟨a_FIGURES, _, rfl, s_FIGURES, _, rfl, Sum.inr ⟨#[c]⟩, rfl, Same.refl _, ?_⟩
    have hc : p[i]? = some c := by simpa using hc
    rw [hc, sg_get]
    rfl
  have f1 : H1 r = some (.lst (p.map sgV)) := by
    rw [f1, sz, fm_at]
  exact ⟨r, _, rfl, .inl (SqL.of f1), fun l H2 s2 e2 => k l H2 (s1.trans s2) e2⟩
abbrev s_read : Stmt := top 23
theorem sc_read : FnScope ["text", "parts"] ["text"] (defScope s_read) := ⟨rfl, rfl, rfl, by decide +kernel, rfl, by decide +kernel, by decide +kernel⟩
def cs_read_0 : Scope := { kind := .function, names := [(".0", .local), ("part", .local), ("figures_of", .globalImplicit)], isGenerator := false, isCoroutine := false, more := [] }
theorem co_read_0 : CompOk (defScope s_read) cs_read_0 ["text", "parts"] "part" [] [] := ⟨rfl, by decide +kernel, by decide +kernel, by decide +kernel, by decide +kernel, by decide +kernel, rfl, by decide +kernel⟩
set_option maxHeartbeats 1000000 in
theorem ok_read (TX : Txt P w K mg c_BadForm c_NotTight c_BadText c_PulseError) (D_figures_of : DefOk P w K mg base k "figures_of" ["part"] (spFigsOf K)) (D_checked : DefOkX0 P w K mg base k "checked" ["pulse"] (spCheckedX K c_BadForm c_NotTight)) (F : Txt1 K mg "read" s_read ["text"]) : DefOkX P w K mg base (k + 1) "read" ["text"] (spReadX K c_BadText) := by
  refine F.okX sc_read (fun vs H Q E h => ?_) (fun f cdv A outer s H vs Q E hr h => ?_)
  · first | (obtain ⟨rfl, _⟩ := h; rfl) | (obtain ⟨_, rfl, _⟩ := h; rfl) | (obtain ⟨_, _, rfl, _⟩ := h; rfl) | (obtain ⟨_, _, _, rfl, _⟩ := h; rfl) | (obtain ⟨_, _, _, _, rfl, _⟩ := h; rfl) | (obtain ⟨_, _, _, _, _, rfl, _⟩ := h; rfl) | (obtain ⟨_, _, _, _, _, _, rfl, _⟩ := h; rfl) | (obtain ⟨_, _, _, _, _, _, _, rfl, _⟩ := h; rfl) | (obtain ⟨_, _, _, _, _, _, _, _, rfl, _⟩ := h; rfl) | (obtain ⟨_, _, _, _, _, _, _, _, _, rfl, _⟩ := h; rfl)
  obtain ⟨x, rfl, h⟩ := h
  have cases2 : (∃ z : Str, x = .str z ∧ z.length ≤ 1000 ∧ ((∃ h b, z = txt h b ∧ T h b ∧ Bits h ∧ Bits b ∧ h.length ≤ 400 ∧ b.length ≤ 200 ∧ ∀ r H', Same H H' → Pl K H' r h b → Q (.ref r) H') ∨ (NoTxt z ∧ ∀ H', Same H H' → E (.ref c_BadText) none H'))) ∨ ((∃ ty, TyV K H x ty ∧ PySem.W.kitOne K ty (.type "str") = some false) ∧ ∀ H', Same H H' → E (.ref c_BadText) none H') := by
    rcases h with ⟨h, b, rfl, t, bh, bb, l1, l2, k⟩ | ⟨nt, kE⟩
    · exact .inl ⟨_, rfl, by rw [txt_len]; omega, .inl ⟨h, b, rfl, t, bh, bb, l1, l2, k⟩⟩
    · cases nt with
      | str lz nz => exact .inl ⟨_, rfl, lz, .inr ⟨nz, kE⟩⟩
      | non => exact .inr ⟨⟨_, .non, by rfl⟩, kE⟩
      | int i => exact .inr ⟨⟨_, .int i, by rfl⟩, kE⟩
      | lst hl => exact .inr ⟨⟨_, .lst hl, by rfl⟩, kE⟩
  clear h
  rcases cases2 with ⟨z, rfl, lz, h⟩ | ⟨⟨ty, h1, h2⟩, kE⟩
  rotate_left
  · refine ⟨_, pss_cons (ps_if (pt_not (pt_val (pe_callB (call_isv (T := "str")) rfl TX.b_isinstance PyProof.Rows.boot_isinstance (pa_cons (pv 0) (pa_cons (pe_tyn rfl TX.b_str PyProof.Rows.boot_str) pa_nil))) (fun _ => rfl))) (pss_one (ps_raise TX.x_BadText TX.m_BadText rfl raises_def (pa_cons pe_str pa_nil))) pss_nil)
      (pss_cons (PS.nox (ps_setC2 (k := 1) rfl co_read_0 (pi_list (pe_bm PySem.F.plainAttrs_str PySem.F.slot_str_split PySem.F.type_str_split mt_split (pv 0) (pa_cons pe_str pa_nil))) (fun _ _ _ _ => pts_nil) (fun _ _ _ _ => (pe_callD D_figures_of hr rfl (pa_cons (pv 0) pa_nil))) sc_read.nd rfl (Or.inl rfl)))
      (pss_one (ps_try0 (fun _ _ => pss_one (ps_ret (pe_callX0 D_checked hr rfl flies_try0 (pa_cons (pe_callTy (call_tupleK K) rfl TX.b_tuple PyProof.Rows.boot_tuple (pa_cons (pv 1) pa_nil)) pa_nil))))
      (ph_noX TX.m_PulseError rfl (fun _ => PassesOwnAt.leaving) (fun _ hd => pss_one (ps_raiseH TX.x_BadText TX.m_BadText rfl raises_def hd (pa_cons pe_str pa_nil))) ph_nil0)))), ?_⟩
    refine ⟨_, rfl, _, _, _, rfl, h1, h2, _, rfl, ?_⟩
    refine iteT ?_
    exact ⟨smallb, kE H (Same.refl _)⟩
  refine ⟨_, pss_cons (ps_if (pt_not (pt_val (pe_callB (call_isv (T := "str")) rfl TX.b_isinstance PyProof.Rows.boot_isinstance (pa_cons (pv 0) (pa_cons (pe_tyn rfl TX.b_str PyProof.Rows.boot_str) pa_nil))) (fun _ => rfl))) (pss_one (ps_raise TX.x_BadText TX.m_BadText rfl raises_def (pa_cons pe_str pa_nil))) pss_nil)
      (pss_cons (PS.nox (ps_setC2 (k := 1) rfl co_read_0 (pi_list (pe_bm PySem.F.plainAttrs_str PySem.F.slot_str_split PySem.F.type_str_split mt_split (pv 0) (pa_cons pe_str pa_nil))) (fun _ _ _ _ => pts_nil) (fun _ _ _ _ => (pe_callD D_figures_of hr rfl (pa_cons (pv 0) pa_nil))) sc_read.nd rfl (Or.inl rfl)))
      (pss_one (ps_try0 (fun _ _ => pss_one (ps_ret (pe_callX0 D_checked hr rfl flies_try0 (pa_cons (pe_callTy (call_tupleK K) rfl TX.b_tuple PyProof.Rows.boot_tuple (pa_cons (pv 1) pa_nil)) pa_nil))))
      (ph_noX TX.m_PulseError rfl (fun _ => PassesOwnAt.leaving) (fun _ hd => pss_one (ps_raiseH TX.x_BadText TX.m_BadText rfl raises_def hd (pa_cons pe_str pa_nil))) ph_nil0)))), ?_⟩
  obtain ⟨P0, e1, fr, e2⟩ := split_spec z
  have lz0 : (joinL 124 P0).length ≤ 1000 := by
    rw [e2, tx_len] at lz; exact lz
  have lp := joinL_len 124 P0
  refine ⟨_, rfl, _, _, _, rfl, .str _, kit_yes, _, rfl, ?_⟩
  refine iteF ?_
  refine ⟨_, rfl, rfl, _, _, rfl, rfl, by decide, Nat.le_trans (show z.length + 2 ≤ 1002 by omega) (by decide), fun D0 H1 s1 n1 f1 => ?_⟩
  have f1 : H1 D0 = some (.lst (P0.map fun p => V.str (tx p))) := by rw [f1, bar_tx, e1, List.map_map]; rfl
  refine ⟨D0, rfl, ⟨_, SqL.of f1⟩, ?_⟩
  refine comp2_list (SqL.of f1) ?_ (fun D i xs H' => Prts K H' xs (P0.take i)) (fun D hD => trivial) (fun D i v xs H' hD hx sm hd hl pv => ?_) (fun D xs H2 s2 hD hd pv => ?_)
  · have := parts_le fr
    rw [List.length_map]
    exact Nat.le_trans (show P0.length ≤ 1001 by omega) (by decide)
  · obtain ⟨q, hq, rfl⟩ : ∃ q, P0[i]? = some q ∧ V.str (tx q) = v := by rw [List.getElem?_map] at hx; exact Option.map_eq_some_iff.mp hx
    have lq : q.length ≤ 1000 := Nat.le_trans (lp q (List.mem_of_getElem? hq)) lz0
    refine ⟨_, rfl, q, rfl, lq, fun r H3 s3 e3 => ⟨s3, ?_⟩⟩
    rw [List.take_add_one, hq]
    exact Prts.overL (s3 _ _ hd) (Prts.snoc e3 (pv.same s3))
  rw [List.length_map, List.take_of_length_le (Nat.le_refl _)] at pv
  refine ⟨_, rfl, D, _, rfl, .inl (SqL.of hd), fun p H3 s3 e3 => ?_⟩
  have S := s1.trans (s2.trans s3)
  have pv3 := pv.same s3
  rcases h with ⟨h, b, rfl, t, bh, bb, l1, l2, k⟩ | ⟨nz, kE⟩
  · obtain rfl := txt_split bh bb fr e2
    obtain ⟨p0, p1, rfl, g0, g1⟩ := pv3.two
    rw [sg_bits bh] at g0
    rw [sg_bits bb] at g1
    have pl : Pl K H3 p h b := ⟨p0, p1, e3, g0, g1⟩
    refine ⟨.ref p, rfl, .inl ⟨p, h, b, rfl, pl, bh, bb, l1, t.pos, l2, fun _ H4 s4 => ?_, fun nt => absurd t nt⟩⟩
    exact k p H4 (S.trans s4) (pl.same s4)
  have hand : ∀ (cl : Addr) (H4 : Hp), Same H3 H4 → PySem.W.exmOne K (.ref cl) (.ref c_PulseError) = some true → ∃ b, PySem.W.exmOne K (.ref cl) (.ref c_PulseError) = some b ∧ if b = true then ∀ a, H4 a = none → ((1 : Nat) ≤ sizeLine ∧ (upd H4 a (.ext (C0 a))) a = some (.ext (C0 a)) ∧ E (.ref c_BadText) none (upd H4 a (.ext (C0 a)))) else False := fun cl H4 s4 em =>
    ⟨true, em, iteT fun a na => ⟨by decide, upd_same, kE _ (S.trans (s4.trans (Same.new na _)))⟩⟩
  by_cases c2 : P0.length = 2
  rotate_left
  · refine ⟨.ref p, rfl, .inr ⟨Form.other e3 (by rw [pv3.len]; exact c2), fun H4 s4 => hand _ H4 s4 TX.e_BadForm_PulseError⟩⟩
  obtain ⟨p0, p1, rfl⟩ : ∃ p0 p1, P0 = [p0, p1] := by
    match P0, c2 with
    | [a, b], _ => exact ⟨a, b, rfl⟩
  obtain ⟨a0, a1, rfl, g0, g1⟩ := pv3.two
  have lp0 := lp p0 (by simp)
  have lp1 := lp p1 (by simp)
  have r0 : Row K H3 (.ref a0) 0 400 _ := .tup g0 (sg_all_flat p0) (by rw [List.length_map]; omega)
  have r1 : Row K H3 (.ref a1) 1 200 _ := .tup g1 (sg_all_flat p1) (by rw [List.length_map]; omega)
  cases er : ((decide ((0 : Int) ≤ ((p0.map sgV).length : Int)) && decide (((p0.map sgV).length : Int) ≤ 400) && (p0.map sgV).all isFig) && (decide ((1 : Int) ≤ ((p1.map sgV).length : Int)) && decide (((p1.map sgV).length : Int) ≤ 200) && (p1.map sgV).all isFig)) with
  | false => exact ⟨.ref p, rfl, .inr ⟨Form.no e3 r0 r1 er, fun H4 s4 => hand _ H4 s4 TX.e_BadForm_PulseError⟩⟩
  | true =>
    simp only [Bool.and_eq_true, decide_eq_true_iff, List.length_map] at er
    obtain ⟨⟨⟨_, l1⟩, f0⟩, ⟨l2, l3⟩, f4⟩ := er
    obtain ⟨b0, d0⟩ := ud_bits (sg_figs f0)
    obtain ⟨b1, d1⟩ := ud_bits (sg_figs f4)
    have g0 : SqT K H3 a0 ((p0.map ud).map V.int) := by rw [← sg_bits b0, d0]; exact g0
    have g1 : SqT K H3 a1 ((p1.map ud).map V.int) := by rw [← sg_bits b1, d1]; exact g1
    have pl : Pl K H3 p (p0.map ud) (p1.map ud) := ⟨a0, a1, e3, g0, g1⟩
    have ez : z = txt (p0.map ud) (p1.map ud) := by
      rw [e2]
      unfold txt
      rw [d0, d1]
      rfl
    refine ⟨.ref p, rfl, .inl ⟨p, _, _, rfl, pl, b0, b1, by rw [List.length_map]; omega, by rw [List.length_map]; omega, by rw [List.length_map]; omega, fun t => ?_, fun _ H4 s4 => hand _ H4 s4 TX.e_NotTight_PulseError⟩⟩
    exact absurd ez (nz _ _ b0 b1 t ⟨by rw [List.length_map]; omega, by rw [List.length_map]; omega⟩)
abbrev s_cell_l : Stmt := top 25
theorem sc_cell_l : FnScope ["_law_script", "_law_k"] ["_law_script", "_law_k"] (defScope s_cell_l) := ⟨rfl, rfl, rfl, by decide +kernel, rfl, by decide +kernel, by decide +kernel⟩
set_option maxHeartbeats 1000000 in
theorem ok_cell_l (TX : Txt P w K mg c_BadForm c_NotTight c_BadText c_PulseError) (F : Txt1 K mg "_law_cell" s_cell_l ["_law_script", "_law_k"]) : DefOk P w K mg base (k + 1) "_law_cell" ["_law_script", "_law_k"] (spCell K) := by
  refine F.ok sc_cell_l (fun vs H Q E h => ?_) (fun f cdv A outer s H vs Q E hr h => ?_)
  · first | (obtain ⟨rfl, _⟩ := h; rfl) | (obtain ⟨_, rfl, _⟩ := h; rfl) | (obtain ⟨_, _, rfl, _⟩ := h; rfl) | (obtain ⟨_, _, _, rfl, _⟩ := h; rfl) | (obtain ⟨_, _, _, _, rfl, _⟩ := h; rfl) | (obtain ⟨_, _, _, _, _, rfl, _⟩ := h; rfl) | (obtain ⟨_, _, _, _, _, _, rfl, _⟩ := h; rfl) | (obtain ⟨_, _, _, _, _, _, _, rfl, _⟩ := h; rfl) | (obtain ⟨_, _, _, _, _, _, _, _, rfl, _⟩ := h; rfl) | (obtain ⟨_, _, _, _, _, _, _, _, _, rfl, _⟩ := h; rfl)
  obtain ⟨a, ns, i, rfl, ha, hi, q⟩ := h
  refine ⟨_, pss_cons (ps_if (pt_cmpR op_lt (pv 1) (pe_callB call_len_seq rfl TX.b_len PySem.boot_len (pa_cons (pv 0) pa_nil)) (nomark _)) (pss_one (ps_ret (pe_ix ix_list (pv 0) (pv 1) (fun _ _ => rfl)))) pss_nil)
      (pss_one (ps_ret pe_int)), ?_⟩
  refine ⟨_, rfl, _, rfl, _, _, rfl, .inl ha, _, _, rfl, rfl, _, rfl, ?_⟩
  rw [List.length_map]
  refine ite2 (fun e => ?_) (fun e => ?_)
  · have e : i < (ns.length : Int) := of_decide_eq_true e
    exact ⟨_, rfl, _, rfl, _, _, _, _, rfl, rfl, ha, at_ints hi e, q⟩
  · have e : ¬ i < (ns.length : Int) := fun z => e (decide_eq_true z)
    have z : ns.getD i.toNat 0 = 0 := getD_out (by omega)
    rw [z] at q
    exact q
abbrev s_mix_l : Stmt := top 26
theorem sc_mix_l : FnScope ["_law_cell_here", "_law_prime", "_law_many"] ["_law_cell_here", "_law_prime", "_law_many"] (defScope s_mix_l) := ⟨rfl, rfl, rfl, by decide +kernel, rfl, by decide +kernel, by decide +kernel⟩
set_option maxHeartbeats 1000000 in
theorem ok_mix_l (TX : Txt P w K mg c_BadForm c_NotTight c_BadText c_PulseError) (F : Txt1 K mg "_law_mix" s_mix_l ["_law_cell_here", "_law_prime", "_law_many"]) : DefOk P w K mg base (k + 1) "_law_mix" ["_law_cell_here", "_law_prime", "_law_many"] (spMix) := by
  refine F.ok sc_mix_l (fun vs H Q E h => ?_) (fun f cdv A outer s H vs Q E hr h => ?_)
  · first | (obtain ⟨rfl, _⟩ := h; rfl) | (obtain ⟨_, rfl, _⟩ := h; rfl) | (obtain ⟨_, _, rfl, _⟩ := h; rfl) | (obtain ⟨_, _, _, rfl, _⟩ := h; rfl) | (obtain ⟨_, _, _, _, rfl, _⟩ := h; rfl) | (obtain ⟨_, _, _, _, _, rfl, _⟩ := h; rfl) | (obtain ⟨_, _, _, _, _, _, rfl, _⟩ := h; rfl) | (obtain ⟨_, _, _, _, _, _, _, rfl, _⟩ := h; rfl) | (obtain ⟨_, _, _, _, _, _, _, _, rfl, _⟩ := h; rfl) | (obtain ⟨_, _, _, _, _, _, _, _, _, rfl, _⟩ := h; rfl)
  obtain ⟨c, p, m, rfl, hp, hm, q⟩ := h
  refine ⟨_, pss_one (ps_ret (pe_op op_mod (pe_op op_mod (pe_op op_mul (pv 0) pe_int) (pv 1)) (pv 2))), ?_⟩
  exact ⟨_, rfl, _, _, rfl, rfl, .inr ⟨by decide, by decide⟩, _, rfl, _, _, rfl, rfl, hp, _, rfl, _, _, rfl, rfl, hm, q⟩
abbrev s_large_l : Stmt := top 27
theorem sc_large_l : FnScope ["_law_script"] ["_law_script"] (defScope s_large_l) := ⟨rfl, rfl, rfl, by decide +kernel, rfl, by decide +kernel, by decide +kernel⟩
set_option maxHeartbeats 1000000 in
theorem ok_large_l (TX : Txt P w K mg c_BadForm c_NotTight c_BadText c_PulseError) (D_mix_l : DefOk P w K mg base k "_law_mix" ["_law_cell_here", "_law_prime", "_law_many"] (spMix)) (D_cell_l : DefOk P w K mg base k "_law_cell" ["_law_script", "_law_k"] (spCell K)) (F : Txt1 K mg "_law_large" s_large_l ["_law_script"]) : DefOk P w K mg base (k + 1) "_law_large" ["_law_script"] (spLarge K) := by
  refine F.ok sc_large_l (fun vs H Q E h => ?_) (fun f cdv A outer s H vs Q E hr h => ?_)
  · first | (obtain ⟨rfl, _⟩ := h; rfl) | (obtain ⟨_, rfl, _⟩ := h; rfl) | (obtain ⟨_, _, rfl, _⟩ := h; rfl) | (obtain ⟨_, _, _, rfl, _⟩ := h; rfl) | (obtain ⟨_, _, _, _, rfl, _⟩ := h; rfl) | (obtain ⟨_, _, _, _, _, rfl, _⟩ := h; rfl) | (obtain ⟨_, _, _, _, _, _, rfl, _⟩ := h; rfl) | (obtain ⟨_, _, _, _, _, _, _, rfl, _⟩ := h; rfl) | (obtain ⟨_, _, _, _, _, _, _, _, rfl, _⟩ := h; rfl) | (obtain ⟨_, _, _, _, _, _, _, _, _, rfl, _⟩ := h; rfl)
  obtain ⟨a, ns, rfl, ha, hl, q⟩ := h
  refine ⟨_, pss_one (ps_ret (pe_cmpR op_eq (pe_callD D_mix_l hr rfl (pa_cons (pe_op op_add (pe_callD D_cell_l hr rfl (pa_cons (pv 0) (pa_cons pe_int pa_nil))) (pe_op op_mul pe_int (pe_callB call_len_seq rfl TX.b_len PySem.boot_len (pa_cons (pv 0) pa_nil)))) (pa_cons pe_int (pa_cons pe_int pa_nil)))) pe_int (nomark _))), ?_⟩
  exact ⟨_, rfl, a, ns, 0, rfl, ha, Int.le_refl 0, _, rfl, _, _, rfl, .inl ha, _, _, rfl, rfl, .inl ⟨by decide, by decide⟩, _, _, rfl, rfl, _, _, _, rfl, by decide, by decide, rfl, q _⟩
abbrev s_tight_l : Stmt := top 28
theorem sc_tight_l : FnScope ["_law_head", "_law_bar", "_law_size"] ["_law_head", "_law_bar"] (defScope s_tight_l) := ⟨rfl, rfl, rfl, by decide +kernel, rfl, by decide +kernel, by decide +kernel⟩
set_option maxHeartbeats 1000000 in
theorem ok_tight_l (TX : Txt P w K mg c_BadForm c_NotTight c_BadText c_PulseError) (F : Txt1 K mg "_law_tight" s_tight_l ["_law_head", "_law_bar"]) : DefOk P w K mg base (k + 1) "_law_tight" ["_law_head", "_law_bar"] (spTightL K) := by
  refine F.ok sc_tight_l (fun vs H Q E h => ?_) (fun f cdv A outer s H vs Q E hr h => ?_)
  · first | (obtain ⟨rfl, _⟩ := h; rfl) | (obtain ⟨_, rfl, _⟩ := h; rfl) | (obtain ⟨_, _, rfl, _⟩ := h; rfl) | (obtain ⟨_, _, _, rfl, _⟩ := h; rfl) | (obtain ⟨_, _, _, _, rfl, _⟩ := h; rfl) | (obtain ⟨_, _, _, _, _, rfl, _⟩ := h; rfl) | (obtain ⟨_, _, _, _, _, _, rfl, _⟩ := h; rfl) | (obtain ⟨_, _, _, _, _, _, _, rfl, _⟩ := h; rfl) | (obtain ⟨_, _, _, _, _, _, _, _, rfl, _⟩ := h; rfl) | (obtain ⟨_, _, _, _, _, _, _, _, _, rfl, _⟩ := h; rfl)
  have hu := hr.units
  obtain ⟨a, c, h, b, rfl, ha, hc, hb, lh, lb, q⟩ := h
  refine ⟨_, pss_cons (ps_set (i := 0) sc_tight_l.nd rfl (Or.inl rfl) (pe_callTy call_listU rfl TX.b_list PyProof.Rows.boot_list (pa_cons (pv 0) pa_nil)))
      (pss_cons (ps_set (i := 1) sc_tight_l.nd rfl (Or.inl rfl) (pe_callTy call_listU rfl TX.b_list PyProof.Rows.boot_list (pa_cons (pv 1) pa_nil)))
      (pss_cons (ps_set (i := 2) sc_tight_l.nd rfl (Or.inl rfl) pe_int)
      (pss_cons (ps_while PassesOwn.never (PW.pt (pw_or (pt_cmpR op_gt (pe_op op_mod (pe_callB call_len_seq rfl TX.b_len PySem.boot_len (pa_cons (pv 1) pa_nil)) (pv 2)) pe_int (nomark _)) (pw_or1 (pt_cmpR (op_neD hu) (pe_op op_repL (pe_slice sl_listU (pv 1) po_none (po_some (pv 2))) (pe_op op_fdiv (pe_callB call_len_seq rfl TX.b_len PySem.boot_len (pa_cons (pv 1) pa_nil)) (pv 2))) (pv 1) (nomark _))))) (pss_one (ps_set (i := 2) sc_tight_l.nd rfl (Or.inl rfl) (pe_op op_add (pv 2) pe_int))))
      (pss_cons (ps_set (i := 1) sc_tight_l.nd rfl (Or.inl rfl) (pe_slice sl_listU (pv 1) po_none (po_some (pv 2))))
      (pss_cons (ps_while PassesOwn.never (PW.pt (pw_and (pt_truth (pv 0) (fun _ => rfl)) (pw_and1 (pt_cmpR op_eq (pe_ix ix_list (pv 0) (pe_un un_neg pe_int) (fun _ _ => rfl)) (pe_ix ix_list (pv 1) (pe_un un_neg pe_int) (fun _ _ => rfl)) (nomark _))))) (pss_one (ps_set (i := 1) sc_tight_l.nd rfl (Or.inl rfl) (pe_op op_catL (pe_lst (pa_cons (pe_bm0 PySem.F.plainAttrs_list PySem.F.slot_list_pop PySem.F.type_list_pop mt_pop (pv 0)) pa_nil)) (pe_slice sl_listU (pv 1) po_none (po_some (pe_un un_neg pe_int)))))))
      (pss_one (ps_ret (pe_tup (pa_cons (pe_callTy call_tupleU rfl TX.b_tuple PyProof.Rows.boot_tuple (pa_cons (pv 0) pa_nil)) (pa_cons (pe_callTy call_tupleU rfl TX.b_tuple PyProof.Rows.boot_tuple (pa_cons (pv 1) pa_nil)) pa_nil)))))))))), ?_⟩
  refine ⟨_, rfl, a, _, rfl, ha, fun l1 H1 s1 n1 e1 => ⟨_, rfl, c, _, rfl, hc.same s1, fun l2 H2 s2 n2 e2 => ?_⟩⟩
  have e1' := s2 _ _ e1
  have s12 := s1.trans s2
  refine ⟨fun m σ H' => ∃ sz : Nat, σ = [some (.ref l1), some (.ref l2), some (.int (sz : Int))] ∧ Same H2 H' ∧ 0 < sz ∧ sz ≤ b.length ∧ m = b.length - sz ∧ ∀ j, 0 < j → j < sz → b.length % j = 0 → ¬ Again b j, ⟨_, 1, rfl, Same.refl _, by decide, hb, rfl, fun j h1 h2 => by omega⟩, ?_⟩
  rintro m σ H' ⟨sz, rfl, s3, p0, ple, rfl, least⟩
  have e2' := s3 _ _ e2
  refine ⟨_, rfl, _, _, rfl, .inl (SqL.of e2'), _, rfl, _, _, rfl, rfl, by omega, _, _, rfl, rfl, _, rfl, ?_⟩
  rw [List.length_map]
  refine ite2 (fun hm => ?_) (fun hm => ?_)
  · have hm : (0 : Int) < (b.length : Int) % (sz : Int) := of_decide_eq_true hm
    have hne : b.length % sz ≠ 0 := by rw [← Int.natCast_emod] at hm; omega
    have hlt : sz < b.length := by
      rcases Nat.lt_or_eq_of_le ple with z | z
      · exact z
      · exact absurd (by rw [z]; exact Nat.mod_self _) hne
    refine iteT ⟨_, fun _ _ z => z, ?_⟩
    refine ⟨_, rfl, _, _, rfl, rfl, b.length - (sz + 1), by omega, sz + 1, by rw [Int.natCast_add]; rfl, s3, by omega, hlt, rfl, fun j h1 h2 h3 => ?_⟩
    by_cases z : j = sz
    · subst z; exact absurd h3 hne
    · exact least j h1 (by omega) h3
  have hm : b.length % sz = 0 := by
    have : ¬ (0 : Int) < (b.length : Int) % (sz : Int) := fun z => hm (decide_eq_true z)
    rw [← Int.natCast_emod] at this
    omega
  have hri := rep_iff (b := b) (n := sz) p0 ple hm
  have dvm : sz * (b.length / sz) = b.length := Nat.mul_div_cancel' (Nat.dvd_of_mod_eq_zero hm)
  have dle : b.length / sz ≤ b.length := Nat.div_le_self _ _
  have fd : (b.length : Int) / (sz : Int) = ((b.length / sz : Nat) : Int) := by rw [Int.natCast_ediv]
  generalize b.length / sz = dd at hri dvm dle fd
  refine ⟨_, rfl, _, rfl, _, rfl, l2, _, rfl, SqL.of e2', fun p1 H4 s4 n4 e4 => ?_⟩
  have e2'' := s4 _ _ e2'
  have ct : cutV (b.map V.int) none (some (sz : Int)) = (b.take sz).map V.int := cut_to b sz
  rw [ct] at e4
  refine ⟨_, rfl, _, _, rfl, .inl (SqL.of e2''), _, rfl, _, _, rfl, rfl, ⟨by omega, by omega⟩, p1, _, _, rfl, rfl, e4, by rw [List.length_map, fd]; omega, by rw [List.length_map, fd]; omega, ?_, fun p2 H5 s5 n5 e5 => ?_⟩
  · rw [List.length_map, List.length_map, fd, Int.toNat_natCast, List.length_take, Nat.min_eq_left ple, dvm]; exact Nat.le_trans lb (by decide)
  rw [List.length_map, fd, Int.toNat_natCast, rep_ints] at e5
  have e25 := s5 _ _ e2''
  refine ⟨_, rfl, _, _, Rep.intsL (SqL.of e5), Rep.intsL (SqL.of e25), _, rfl, ?_⟩
  rw [eqv_dL]
  by_cases hr : rep dd (b.take sz) = b
  case neg =>
    have hlt : sz < b.length := by
      rcases Nat.lt_or_eq_of_le ple with z | z
      · exact z
      · exact absurd (hri.mpr (fun i hi => by omega)) hr
    rw [decide_eq_false hr]
    refine iteT ⟨_, fun _ _ z => z, ?_⟩
    refine ⟨_, rfl, _, _, rfl, rfl, b.length - (sz + 1), by omega, sz + 1, by rw [Int.natCast_add]; rfl, s3.trans (s4.trans s5), by omega, hlt, rfl, fun j h1 h2 h3 => ?_⟩
    by_cases z : j = sz
    · subst z; exact fun ag => hr (hri.mpr ag)
    · exact least j h1 (by omega) h3
  rw [decide_eq_true hr]
  refine iteF ?_
  have sh : Short b sz := ⟨p0, ple, hm, hri.mp hr, least⟩
  have lsz : (b.take sz).length = sz := by rw [List.length_take]; omega
  have psz : 0 < (b.take sz).length := by omega
  refine ⟨_, rfl, _, rfl, _, rfl, l2, _, rfl, SqL.of e25, fun l3 H6 s6 n6 e6 => ?_⟩
  rw [ct] at e6
  have s26 := s3.trans (s4.trans (s5.trans s6))
  have e16 := s26 _ _ e1'
  refine ⟨fun m σ H' => ∃ (kk : Nat) (l3 : Addr), σ = [some (.ref l1), some (.ref l3), some (.int (sz : Int))] ∧ Same H H' ∧ H' l1 = some (.lst ((h.take (h.length - kk)).map V.int)) ∧ H' l3 = some (.lst ((turn (b.take sz) kk).map V.int)) ∧ kk ≤ h.length ∧ l1 ≠ l3 ∧ m = h.length - kk ∧
    ∀ j, h.length - kk ≤ j → j < h.length → h.getD j 0 = (b.take sz).getD ((((j : Int) - (h.length : Int)) % (sz : Int)).toNat) 0,
    ⟨_, 0, l3, rfl, s12.trans s26, by rw [Nat.sub_zero, List.take_length]; exact e16, by rw [turn_zero]; exact e6, Nat.zero_le _, ne_of_none (s5 _ _ (s4 _ _ (s3 _ _ e1'))) n6, rfl, fun j h1 h2 => by omega⟩, ?_⟩
  rintro m σ H7 ⟨kk, l3, rfl, s7, f1, f3, hk, l13, rfl, hj⟩
  have tl : (h.take (h.length - kk)).length = h.length - kk := by rw [List.length_take]; omega
  have fin : (kk < h.length → h.getD (h.length - kk - 1) 0 ≠ (b.take sz).getD (((-1 - (kk : Int)) % (sz : Int)).toNat) 0) → _ := fun stop => tight_end sh hk hj stop
  refine ⟨_, rfl, _, .inl ⟨_, SqL.of f1, rfl⟩, ?_⟩
  by_cases hkl : kk < h.length
  case neg =>
    have z : h.take (h.length - kk) = [] := List.eq_nil_of_length_eq_zero (by omega)
    rw [z]
    refine iteF ?_
    refine iteF ?_
    have t := fin fun z => absurd z hkl
    refine ⟨_, rfl, l1, _, rfl, .inl (SqL.of f1), fun q1 H8 s8 e8 => ⟨_, rfl, l3, _, rfl, .inl (SqL.of (s8 _ _ f3)), fun q2 H9 s9 e9 => ⟨smallb, fun p hp => ?_⟩⟩⟩
    exact q p _ _ _ (s7.trans (s8.trans (s9.trans (Same.new hp _)))) (Pl.mk hp (s9.tup e8) e9) t.1 t.2
  have ne : (!((h.take (h.length - kk)).map V.int).isEmpty) = true := by
    cases e : h.take (h.length - kk) with
    | nil => rw [e] at tl; simp at tl; omega
    | cons x r => rfl
  rw [ne]
  refine iteT ?_
  refine ⟨_, rfl, _, rfl, l1, _, _, _, rfl, rfl, SqL.of f1, at_last (by omega), _, rfl, _, rfl, l3, _, _, _, rfl, rfl, SqL.of f3, at_last (by rw [turn_length]; omega), rfl, _, rfl, ?_⟩
  rw [dec_vint, tl, turn_length, lsz]
  have g1 : (h.take (h.length - kk)).getD (h.length - kk - 1) 0 = h.getD (h.length - kk - 1) 0 := getD_take (by omega)
  have g2 : (turn (b.take sz) kk).getD (sz - 1) 0 = (b.take sz).getD (((-1 - (kk : Int)) % (sz : Int)).toNat) 0 := by
    have := turn_last psz kk
    rwa [lsz] at this
  rw [g1, g2]
  refine ite2 (fun eq => ?_) (fun neq => ?_)
  · have eq := of_decide_eq_true eq
    refine ⟨_, fun _ _ z => z, ?_⟩
    have last1 : ((h.take (h.length - kk)).map V.int)[((h.take (h.length - kk)).map V.int).length - 1]? = some (.int (h.getD (h.length - kk - 1) 0)) := by
      rw [List.length_map, tl, List.getElem?_map, ← g1]
      exact getD_some (by omega)
    refine ⟨_, rfl, .inl ⟨rfl, _, SqL.of f1⟩, l1, _, _, rfl, rfl, f1, last1, smallb, fun p4 hp4 => ?_⟩
    have sb := Same.new hp4 (.lst [.int (h.getD (h.length - kk - 1) 0)])
    refine ⟨_, rfl, _, rfl, _, rfl, l3, _, rfl, SqL.of (sb _ _ (by rw [upd_ne (Ne.symm l13)]; exact f3)), fun p5 H9 s9 n9 e9 => ?_⟩
    rw [cut_m1] at e9
    refine ⟨p4, p5, _, _, rfl, rfl, s9 _ _ upd_same, e9, ?_, fun p6 H10 s10 n10 e10 => ?_⟩
    · rw [List.length_map, List.length_dropLast, turn_length, lsz, List.length_singleton]
      exact Nat.le_trans (show 1 + (sz - 1) ≤ 200000 by omega) (by decide)
    have f1' := s9 _ _ (sb _ _ (upd_same (H := H7) (a := l1) (o := .lst ((h.take (h.length - kk)).map V.int).dropLast)))
    refine ⟨h.length - (kk + 1), by omega, kk + 1, p6, rfl, (s7.over n1).trans (sb.trans (s9.trans s10)), ?_, ?_, by omega, ne_of_none f1' n10, rfl, fun j j1 j2 => ?_⟩
    · rw [s10 _ _ f1', drop_last_take (by omega)]
    · rw [e10]
      have e : turn (b.take sz) (kk + 1) = h.getD (h.length - kk - 1) 0 :: (turn (b.take sz) kk).dropLast := by
        rw [← turn_succ psz kk, lsz, g2, eq]
      rw [e]
      rfl
    · by_cases z : h.length - kk ≤ j
      · exact hj j z j2
      · have z : j = h.length - kk - 1 := by omega
        have e : (j : Int) - (h.length : Int) = -1 - (kk : Int) := by omega
        rw [e, z]
        exact eq
  · have neq : ¬ _ := fun z => neq (decide_eq_true z)
    have t := fin fun _ => neq
    refine ⟨_, rfl, l1, _, rfl, .inl (SqL.of f1), fun q1 H8 s8 e8 => ⟨_, rfl, l3, _, rfl, .inl (SqL.of (s8 _ _ f3)), fun q2 H9 s9 e9 => ⟨smallb, fun p hp => ?_⟩⟩⟩
    exact q p _ _ _ (s7.trans (s8.trans (s9.trans (Same.new hp _)))) (Pl.mk hp (s9.tup e8) e9) t.1 t.2
abbrev s_bits_l : Stmt := top 29
theorem sc_bits_l : FnScope ["_law_script", "_law_at", "_law_size", "_law_found", "_law_k"] ["_law_script", "_law_at", "_law_size"] (defScope s_bits_l) := ⟨rfl, rfl, rfl, by decide +kernel, rfl, by decide +kernel, by decide +kernel⟩
set_option maxHeartbeats 1000000 in
theorem ok_bits_l (TX : Txt P w K mg c_BadForm c_NotTight c_BadText c_PulseError) (D_mix_l : DefOk P w K mg base k "_law_mix" ["_law_cell_here", "_law_prime", "_law_many"] (spMix)) (D_cell_l : DefOk P w K mg base k "_law_cell" ["_law_script", "_law_k"] (spCell K)) (F : Txt1 K mg "_law_bits" s_bits_l ["_law_script", "_law_at", "_law_size"]) : DefOk P w K mg base (k + 1) "_law_bits" ["_law_script", "_law_at", "_law_size"] (spBits K) := by
  refine F.ok sc_bits_l (fun vs H Q E h => ?_) (fun f cdv A outer s H vs Q E hr h => ?_)
  · first | (obtain ⟨rfl, _⟩ := h; rfl) | (obtain ⟨_, rfl, _⟩ := h; rfl) | (obtain ⟨_, _, rfl, _⟩ := h; rfl) | (obtain ⟨_, _, _, rfl, _⟩ := h; rfl) | (obtain ⟨_, _, _, _, rfl, _⟩ := h; rfl) | (obtain ⟨_, _, _, _, _, rfl, _⟩ := h; rfl) | (obtain ⟨_, _, _, _, _, _, rfl, _⟩ := h; rfl) | (obtain ⟨_, _, _, _, _, _, _, rfl, _⟩ := h; rfl) | (obtain ⟨_, _, _, _, _, _, _, _, rfl, _⟩ := h; rfl) | (obtain ⟨_, _, _, _, _, _, _, _, _, rfl, _⟩ := h; rfl)
  obtain ⟨a, ns, at', n, rfl, ha, hl, h0, n0, n1, q⟩ := h
  refine ⟨_, pss_cons (ps_set (i := 3) sc_bits_l.nd rfl (Or.inl rfl) (pe_lst pa_nil))
      (pss_cons (ps_for PassesOwn.never rfl (pi_range1 rfl TX.b_range (pa_cons (pv 2) pa_nil)) (pg_name (i := 4) sc_bits_l.nd rfl (Or.inl rfl)) (pss_one (ps_expr (pe_bm PySem.F.plainAttrs_list PySem.F.slot_list_append PySem.F.type_list_append mt_append (pv 3) (pa_cons (pe_callD D_mix_l hr rfl (pa_cons (pe_op op_add (pe_callD D_cell_l hr rfl (pa_cons (pv 0) (pa_cons (pe_op op_add (pv 1) (pe_op op_mod (pv 4) pe_int)) pa_nil))) (pe_op op_mul (pe_op op_mul pe_int (pv 4)) (pv 4))) (pa_cons pe_int (pa_cons pe_int pa_nil)))) pa_nil)))))
      (pss_one (ps_ret (pv 3)))), ?_⟩
  refine ⟨Nat.zero_le _, fun p hp => ?_⟩
  have s1 := Same.new hp (.lst [])
  refine ⟨_, rfl, n, rfl, by omega, by omega, for_range (fun i σ H2 => ∃ (xs : List Int) (v : Option V), σ = [some (.ref a), some (.int at'), some (.int n), some (.ref p), v] ∧ Same H H2 ∧ H2 p = some (.lst (xs.map V.int)) ∧ xs.length = i ∧ Bits xs) ⟨[], none, rfl, s1, upd_same, rfl, fun x hx => by cases hx⟩ ?_ ?_⟩
  · rintro i σ H2 hi ⟨xs, v, rfl, s2, h2, hx, hb⟩
    have hi' : (i : Int) < 100 := by omega
    have nn := Int.emod_nonneg (0 + (i : Int)) (show (9 : Int) ≠ 0 by decide)
    refine ⟨_, rfl, .inl ⟨rfl, _, SqL.of h2⟩, _, rfl, _, rfl, _, rfl, _, _, rfl, rfl, (show (0 : Int) < 9 by decide), _, _, rfl, rfl, a, ns, _, rfl, s2.seq ha, by omega, _, rfl, _, _, rfl, rfl, .inl ⟨by decide, by decide⟩, _, rfl, _, _, rfl, rfl, .inr ⟨by omega, by omega⟩, _, _, rfl, rfl, _, _, _, rfl, by decide, by decide, p, _, _, rfl, rfl, h2, small1000 (by rw [List.length_map]; omega), ?_⟩
    refine ⟨xs ++ [(ns.getD (at' + (0 + (i : Int)) % 9).toNat 0 + 23 * (0 + (i : Int)) * (0 + (i : Int))) * 48271 % 9941 % 2], _, rfl, s2.over hp, ?_, by rw [List.length_append, hx]; rfl, ?_⟩
    · rw [upd_same, List.map_append]; rfl
    · intro x hm
      rcases List.mem_append.mp hm with z | z
      · exact hb x z
      · have z := List.mem_singleton.mp z
        rw [z]
        have g1 := Int.emod_nonneg ((ns.getD (at' + (0 + (i : Int)) % 9).toNat 0 + 23 * (0 + (i : Int)) * (0 + (i : Int))) * 48271 % 9941) (show (2 : Int) ≠ 0 by decide)
        have g2 := Int.emod_lt_of_pos ((ns.getD (at' + (0 + (i : Int)) % 9).toNat 0 + 23 * (0 + (i : Int)) * (0 + (i : Int))) * 48271 % 9941) (show (0 : Int) < 2 by decide)
        omega
  · rintro σ H2 ⟨xs, v, rfl, s2, h2, hx, hb⟩
    exact ⟨_, rfl, q p xs H2 s2 h2 (by omega) hb⟩
abbrev s_form_l : Stmt := top 30
theorem sc_form_l : FnScope ["_law_script", "_law_at", "_law_most", "_law_cell_here", "_law_head", "_law_bar"] ["_law_script", "_law_at"] (defScope s_form_l) := ⟨rfl, rfl, rfl, by decide +kernel, rfl, by decide +kernel, by decide +kernel⟩
set_option maxHeartbeats 1000000 in
theorem ok_form_l (TX : Txt P w K mg c_BadForm c_NotTight c_BadText c_PulseError) (D_large_l : DefOk P w K mg base k "_law_large" ["_law_script"] (spLarge K)) (D_cell_l : DefOk P w K mg base k "_law_cell" ["_law_script", "_law_k"] (spCell K)) (D_bits_l : DefOk P w K mg base k "_law_bits" ["_law_script", "_law_at", "_law_size"] (spBits K)) (D_mix_l : DefOk P w K mg base k "_law_mix" ["_law_cell_here", "_law_prime", "_law_many"] (spMix)) (F : Txt1 K mg "_law_form" s_form_l ["_law_script", "_law_at"]) : DefOk P w K mg base (k + 1) "_law_form" ["_law_script", "_law_at"] (spForm K) := by
  refine F.ok sc_form_l (fun vs H Q E h => ?_) (fun f cdv A outer s H vs Q E hr h => ?_)
  · first | (obtain ⟨rfl, _⟩ := h; rfl) | (obtain ⟨_, rfl, _⟩ := h; rfl) | (obtain ⟨_, _, rfl, _⟩ := h; rfl) | (obtain ⟨_, _, _, rfl, _⟩ := h; rfl) | (obtain ⟨_, _, _, _, rfl, _⟩ := h; rfl) | (obtain ⟨_, _, _, _, _, rfl, _⟩ := h; rfl) | (obtain ⟨_, _, _, _, _, _, rfl, _⟩ := h; rfl) | (obtain ⟨_, _, _, _, _, _, _, rfl, _⟩ := h; rfl) | (obtain ⟨_, _, _, _, _, _, _, _, rfl, _⟩ := h; rfl) | (obtain ⟨_, _, _, _, _, _, _, _, _, rfl, _⟩ := h; rfl)
  obtain ⟨a, ns, at', rfl, ha, hl, h0, q⟩ := h
  refine ⟨_, pss_cons (ps_set (i := 2) sc_form_l.nd rfl (Or.inl rfl) pe_int)
      (pss_cons (ps_if (pt_val (pe_callD D_large_l hr rfl (pa_cons (pv 0) pa_nil)) (fun _ => rfl)) (pss_one (ps_set (i := 2) sc_form_l.nd rfl (Or.inl rfl) pe_int)) pss_nil)
      (pss_cons (ps_if (pt_cmpR op_gt (pe_callB call_len_seq rfl TX.b_len PySem.boot_len (pa_cons (pv 0) pa_nil)) pe_int (nomark _)) (pss_one (ps_set (i := 2) sc_form_l.nd rfl (Or.inl rfl) pe_int)) pss_nil)
      (pss_cons (ps_set (i := 3) sc_form_l.nd rfl (Or.inl rfl) (pe_callD D_cell_l hr rfl (pa_cons (pv 0) (pa_cons (pv 1) pa_nil))))
      (pss_cons (ps_set (i := 4) sc_form_l.nd rfl (Or.inl rfl) (pe_callD D_bits_l hr rfl (pa_cons (pv 0) (pa_cons (pe_op op_add (pv 1) pe_int) (pa_cons (pe_callD D_mix_l hr rfl (pa_cons (pv 3) (pa_cons pe_int (pa_cons (pe_op op_add (pv 2) pe_int) pa_nil)))) pa_nil)))))
      (pss_cons (ps_set (i := 5) sc_form_l.nd rfl (Or.inl rfl) (pe_callD D_bits_l hr rfl (pa_cons (pv 0) (pa_cons (pe_op op_add (pv 1) pe_int) (pa_cons (pe_op op_add pe_int (pe_callD D_mix_l hr rfl (pa_cons (pv 3) (pa_cons pe_int (pa_cons (pv 2) pa_nil))))) pa_nil)))))
      (pss_cons (ps_if (pt_cmpR op_eq (pe_callD D_mix_l hr rfl (pa_cons (pv 3) (pa_cons pe_int (pa_cons pe_int pa_nil)))) pe_int (nomark _)) (pss_one (ps_set (i := 5) sc_form_l.nd rfl (Or.inl rfl) (pe_lst (pa_cons pe_int pa_nil)))) pss_nil)
      (pss_cons (ps_if (pt_cmpR op_eq (pe_callD D_mix_l hr rfl (pa_cons (pv 3) (pa_cons pe_int (pa_cons pe_int pa_nil)))) pe_int (nomark _)) (pss_one (ps_set (i := 5) sc_form_l.nd rfl (Or.inl rfl) (pe_op op_repL (pe_lst (pa_cons (pe_ix ix_list (pv 5) pe_int (fun _ _ => rfl)) pa_nil)) (pe_callB call_len_seq rfl TX.b_len PySem.boot_len (pa_cons (pv 5) pa_nil))))) pss_nil)
      (pss_one (ps_ret (pe_tup (pa_cons (pe_callTy call_tupleU rfl TX.b_tuple PyProof.Rows.boot_tuple (pa_cons (pv 4) pa_nil)) (pa_cons (pe_callTy call_tupleU rfl TX.b_tuple PyProof.Rows.boot_tuple (pa_cons (pv 5) pa_nil)) pa_nil)))))))))))), ?_⟩
  refine ⟨_, rfl, a, ns, rfl, ha, hl, fun lg => ⟨_, rfl, ?_⟩⟩
  have big : ¬ (decide ((63 : Int) < (((ns.map V.int).length : Nat) : Int)) = true) := by
    rw [List.length_map]; intro z; have := of_decide_eq_true z; omega
  refine ite2 (fun _ => ?_) (fun _ => ?_)
  all_goals
    refine ⟨_, rfl, _, _, rfl, .inl ha, _, _, rfl, rfl, _, rfl, ?_⟩
    refine iteN big ?_
    refine ⟨_, rfl, _, rfl, a, ns, at', rfl, ha, h0, ?_⟩
    generalize ns.getD at'.toNat 0 = c
    refine ⟨_, rfl, _, rfl, _, _, rfl, rfl, _, rfl, _, rfl, _, _, rfl, rfl, _, _, _, rfl, by decide, by decide, a, ns, _, _, rfl, ha, hl, by omega, Int.emod_nonneg _ (by decide), mod_le (by decide) (by decide), fun p1 h H1 s1 e1 len1 b1 => ?_⟩
    refine ⟨_, rfl, _, rfl, _, _, rfl, rfl, _, rfl, _, rfl, _, _, _, rfl, by decide, by decide, _, _, rfl, rfl, a, ns, _, _, rfl, s1.seq ha, hl, by omega, mod1_nn (by decide), mod1_le (by decide) (by decide), fun p2 b H2 s2 e2 len2 b2 => ?_⟩
    have l1 : h.length ≤ 14 := mod_len len1 (by decide) (by decide)
    have l2 := mod1_len len2 (by decide) (by decide)
    have e1' := s2 _ _ e1
    have s12 := s1.trans s2
    refine ⟨_, rfl, _, _, _, rfl, by decide, by decide, rfl, _, rfl, ?_⟩
    refine ite2 (fun _ => ?_) (fun _ => ?_)
    · refine ⟨smallb, fun p3 hp3 => ?_⟩
      have s3 := Same.new hp3 (.lst [.int 0])
      refine ⟨_, rfl, _, _, _, rfl, by decide, by decide, rfl, _, rfl, ?_⟩
      refine ite2 (fun _ => ?_) (fun _ => ?_)
      · refine ⟨_, rfl, _, _, _, _, rfl, rfl, SqL.of upd_same, rfl, smallb, fun p4 hp4 => ?_⟩
        have s4 := Same.new hp4 (.lst [.int 0])
        refine ⟨_, rfl, _, _, rfl, .inl (SqL.of (s4 _ _ upd_same)), p4, _, _, rfl, rfl, upd_same, by decide, by decide, smallb, fun p5 H5 s5 n5 e5 => ?_⟩
        refine ⟨_, rfl, p1, _, rfl, .inl (SqL.of (s5 _ _ (s4 _ _ (s3 _ _ e1')))), fun q1 H6 s6 e6 => ⟨_, rfl, p5, _, rfl, .inl (SqL.of (s6 _ _ e5)), fun q2 H7 s7 e7 => ⟨smallb, fun p hp => ?_⟩⟩⟩
        exact q p h [0] _ (s12.trans (s3.trans (s4.trans (s5.trans (s6.trans (s7.trans (Same.new hp _))))))) (Pl.mk hp (s7.tup e6) e7) b1 (by intro x hx; exact .inl (List.mem_singleton.mp hx)) l1 (by decide) (by decide)
      · refine ⟨_, rfl, p1, _, rfl, .inl (SqL.of (s3 _ _ e1')), fun q1 H6 s6 e6 => ⟨_, rfl, p3, _, rfl, .inl (SqL.of (s6 _ _ upd_same)), fun q2 H7 s7 e7 => ⟨smallb, fun p hp => ?_⟩⟩⟩
        exact q p h [0] _ (s12.trans (s3.trans (s6.trans (s7.trans (Same.new hp _))))) (Pl.mk hp (s7.tup e6) e7) b1 (by intro x hx; exact .inl (List.mem_singleton.mp hx)) l1 (by decide) (by decide)
    · refine ⟨_, rfl, _, _, _, rfl, by decide, by decide, rfl, _, rfl, ?_⟩
      refine ite2 (fun _ => ?_) (fun _ => ?_)
      · refine ⟨_, rfl, _, _, _, _, rfl, rfl, SqL.of e2, at_ints (by decide) (by omega), smallb, fun p4 hp4 => ?_⟩
        have s4 := Same.new hp4 (.lst [.int (b.getD (0 : Int).toNat 0)])
        refine ⟨_, rfl, _, _, rfl, .inl (SqL.of (s4 _ _ e2)), p4, _, _, rfl, rfl, upd_same, by omega, by rw [List.length_map]; omega, small (by rw [List.length_map, Int.toNat_natCast]; show 1 * b.length ≤ 1000; omega), fun p5 H5 s5 n5 e5 => ?_⟩
        rw [List.length_map, Int.toNat_natCast, rep_one] at e5
        refine ⟨_, rfl, p1, _, rfl, .inl (SqL.of (s5 _ _ (s4 _ _ e1'))), fun q1 H6 s6 e6 => ⟨_, rfl, p5, _, rfl, .inl (SqL.of (s6 _ _ e5)), fun q2 H7 s7 e7 => ⟨smallb, fun p hp => ?_⟩⟩⟩
        refine q p h (List.replicate b.length (b.getD 0 0)) _ (s12.trans (s4.trans (s5.trans (s6.trans (s7.trans (Same.new hp _)))))) (Pl.mk hp (s7.tup e6) (by rw [List.map_replicate]; exact e7)) b1 ?_ l1 (by rw [List.length_replicate]; omega) (by rw [List.length_replicate]; omega)
        intro x hx
        rw [(List.mem_replicate.mp hx).2]
        exact b2 _ (Pb.getD_mem (by omega))
      · refine ⟨_, rfl, p1, _, rfl, .inl (SqL.of e1'), fun q1 H6 s6 e6 => ⟨_, rfl, p2, _, rfl, .inl (SqL.of (s6 _ _ e2)), fun q2 H7 s7 e7 => ⟨smallb, fun p hp => ?_⟩⟩⟩
        exact q p h b _ (s12.trans (s6.trans (s7.trans (Same.new hp _)))) (Pl.mk hp (s7.tup e6) e7) b1 b2 l1 (by omega) (by omega)
abbrev s_pulse_l : Stmt := top 31
theorem sc_pulse_l : FnScope ["_law_script", "_law_at", "_law_form_here"] ["_law_script", "_law_at"] (defScope s_pulse_l) := ⟨rfl, rfl, rfl, by decide +kernel, rfl, by decide +kernel, by decide +kernel⟩
set_option maxHeartbeats 1000000 in
theorem ok_pulse_l (TX : Txt P w K mg c_BadForm c_NotTight c_BadText c_PulseError) (D_form_l : DefOk P w K mg base k "_law_form" ["_law_script", "_law_at"] (spForm K)) (D_tight_l : DefOk P w K mg base k "_law_tight" ["_law_head", "_law_bar"] (spTightL K)) (F : Txt1 K mg "_law_pulse" s_pulse_l ["_law_script", "_law_at"]) : DefOk P w K mg base (k + 1) "_law_pulse" ["_law_script", "_law_at"] (spPulse K) := by
  refine F.ok sc_pulse_l (fun vs H Q E h => ?_) (fun f cdv A outer s H vs Q E hr h => ?_)
  · first | (obtain ⟨rfl, _⟩ := h; rfl) | (obtain ⟨_, rfl, _⟩ := h; rfl) | (obtain ⟨_, _, rfl, _⟩ := h; rfl) | (obtain ⟨_, _, _, rfl, _⟩ := h; rfl) | (obtain ⟨_, _, _, _, rfl, _⟩ := h; rfl) | (obtain ⟨_, _, _, _, _, rfl, _⟩ := h; rfl) | (obtain ⟨_, _, _, _, _, _, rfl, _⟩ := h; rfl) | (obtain ⟨_, _, _, _, _, _, _, rfl, _⟩ := h; rfl) | (obtain ⟨_, _, _, _, _, _, _, _, rfl, _⟩ := h; rfl) | (obtain ⟨_, _, _, _, _, _, _, _, _, rfl, _⟩ := h; rfl)
  obtain ⟨a, ns, at', rfl, ha, hl, h0, q⟩ := h
  refine ⟨_, pss_cons (ps_set (i := 2) sc_pulse_l.nd rfl (Or.inl rfl) (pe_callD D_form_l hr rfl (pa_cons (pv 0) (pa_cons (pv 1) pa_nil))))
      (pss_one (ps_ret (pe_callD D_tight_l hr rfl (pa_cons (pe_ix ix_tup (pv 2) pe_int (fun _ _ => rfl)) (pa_cons (pe_ix ix_tup (pv 2) pe_int (fun _ _ => rfl)) pa_nil))))), ?_⟩
  refine ⟨_, rfl, _, rfl, a, ns, at', rfl, ha, hl, h0, fun p h b H1 s1 ⟨x, y, e1, e2, e3⟩ bh bb l1 l2 l3 => ?_⟩
  refine ⟨_, rfl, _, _, _, _, rfl, rfl, e1, at0, _, rfl, _, _, _, _, rfl, rfl, e1, at1, x, y, h, b, rfl, .inr e2, .inr e3, l2, by omega, by omega, fun p' h' b' H2 s2 e4 t al => ?_⟩
  have bt := alike_bits t.pos al l2 bh bb
  exact q p' h' b' H2 (s1.trans s2) e4 t bt.1 bt.2 (Nat.le_trans (t.head_le l2 al) l1) (Nat.le_trans (t.bar_le l2 al) l3)
abbrev s_refused_l : Stmt := top 32
theorem sc_refused_l : FnScope ["_law_text_here"] ["_law_text_here"] (defScope s_refused_l) := ⟨rfl, rfl, rfl, by decide +kernel, rfl, by decide +kernel, by decide +kernel⟩
set_option maxHeartbeats 1000000 in
theorem ok_refused_l (TX : Txt P w K mg c_BadForm c_NotTight c_BadText c_PulseError) (D_read : DefOkX P w K mg base k "read" ["text"] (spReadX K c_BadText)) (F : Txt1 K mg "_law_refused" s_refused_l ["_law_text_here"]) : DefOk P w K mg base (k + 1) "_law_refused" ["_law_text_here"] (spRef21 K) := by
  refine F.ok sc_refused_l (fun vs H Q E h => ?_) (fun f cdv A outer s H vs Q E hr h => ?_)
  · first | (obtain ⟨rfl, _⟩ := h; rfl) | (obtain ⟨_, rfl, _⟩ := h; rfl) | (obtain ⟨_, _, rfl, _⟩ := h; rfl) | (obtain ⟨_, _, _, rfl, _⟩ := h; rfl) | (obtain ⟨_, _, _, _, rfl, _⟩ := h; rfl) | (obtain ⟨_, _, _, _, _, rfl, _⟩ := h; rfl) | (obtain ⟨_, _, _, _, _, _, rfl, _⟩ := h; rfl) | (obtain ⟨_, _, _, _, _, _, _, rfl, _⟩ := h; rfl) | (obtain ⟨_, _, _, _, _, _, _, _, rfl, _⟩ := h; rfl) | (obtain ⟨_, _, _, _, _, _, _, _, _, rfl, _⟩ := h; rfl)
  obtain ⟨x, rfl, nt, k⟩ := h
  refine ⟨_, pss_cons (ps_try (fun _ _ => pss_one (ps_expr (pe_callX D_read hr rfl flies_try (pa_cons (pv 0) pa_nil))))
      (ph_no TX.m_BadText rfl (fun _ => pss_one (ps_ret pe_bl)) ph_nil))
      (pss_one (ps_ret pe_bl)), ?_⟩
  refine ⟨_, rfl, x, rfl, .inr ⟨nt, fun H3 s3 => ?_⟩⟩
  exact ⟨true, TX.e_BadText_BadText, iteT (k H3 s3)⟩
abbrev s_by_base_l : Stmt := top 33
theorem sc_by_base_l : FnScope ["_law_text_here", "e"] ["_law_text_here"] (defScope s_by_base_l) := ⟨rfl, rfl, rfl, by decide +kernel, rfl, by decide +kernel, by decide +kernel⟩
set_option maxHeartbeats 1000000 in
theorem ok_by_base_l (TX : Txt P w K mg c_BadForm c_NotTight c_BadText c_PulseError) (D_read : DefOkX P w K mg base k "read" ["text"] (spReadX K c_BadText)) (F : Txt1 K mg "_law_by_base" s_by_base_l ["_law_text_here"]) : DefOk P w K mg base (k + 1) "_law_by_base" ["_law_text_here"] (spRef21 K) := by
  refine F.ok sc_by_base_l (fun vs H Q E h => ?_) (fun f cdv A outer s H vs Q E hr h => ?_)
  · first | (obtain ⟨rfl, _⟩ := h; rfl) | (obtain ⟨_, rfl, _⟩ := h; rfl) | (obtain ⟨_, _, rfl, _⟩ := h; rfl) | (obtain ⟨_, _, _, rfl, _⟩ := h; rfl) | (obtain ⟨_, _, _, _, rfl, _⟩ := h; rfl) | (obtain ⟨_, _, _, _, _, rfl, _⟩ := h; rfl) | (obtain ⟨_, _, _, _, _, _, rfl, _⟩ := h; rfl) | (obtain ⟨_, _, _, _, _, _, _, rfl, _⟩ := h; rfl) | (obtain ⟨_, _, _, _, _, _, _, _, rfl, _⟩ := h; rfl) | (obtain ⟨_, _, _, _, _, _, _, _, _, rfl, _⟩ := h; rfl)
  obtain ⟨x, rfl, nt, k⟩ := h
  refine ⟨_, pss_cons (ps_try (fun _ _ => pss_one (ps_expr (pe_callX D_read hr rfl flies_try (pa_cons (pv 0) pa_nil))))
      (ph_as (i := 1) TX.m_PulseError rfl sc_by_base_l.nd rfl rfl (fun _ => pss_one (ps_ret (pe_callB (call_isxK K) rfl TX.b_isinstance PyProof.Rows.boot_isinstance (pa_cons (pv 1) (pa_cons (pe_tyn rfl TX.b_ValueError PyProof.Rows.Boot.«ValueError») pa_nil))))) ph_nil))
      (pss_one (ps_ret pe_bl)), ?_⟩
  refine ⟨_, rfl, x, rfl, .inr ⟨nt, fun H3 s3 => ?_⟩⟩
  refine ⟨true, TX.e_BadText_PulseError, ?_⟩
  refine iteT fun a na => ?_
  have t4 := Same.new na (.ext (ExcIs a (.ref c_BadText) none))
  exact ⟨_, rfl, a, c_BadText, _, _, _, rfl, .inr ⟨_, rfl, rfl⟩, TX.x_BadText, upd_same, TX.i_BadText_ValueError, k _ (s3.trans t4)⟩
abbrev s_text_l : Stmt := top 34
theorem sc_text_l : FnScope ["_law_form_here"] ["_law_form_here"] (defScope s_text_l) := ⟨rfl, rfl, rfl, by decide +kernel, rfl, by decide +kernel, by decide +kernel⟩
def cs_text_l_0 : Scope := { kind := .function, names := [(".0", .local), ("_law_bit", .local), ("str", .globalImplicit)], isGenerator := false, isCoroutine := false, more := [] }
theorem co_text_l_0 : CompOk (defScope s_text_l) cs_text_l_0 ["_law_form_here"] "_law_bit" [] [] := ⟨rfl, by decide +kernel, by decide +kernel, by decide +kernel, by decide +kernel, by decide +kernel, rfl, by decide +kernel⟩
def cs_text_l_1 : Scope := { kind := .function, names := [(".0", .local), ("_law_bit", .local), ("str", .globalImplicit)], isGenerator := false, isCoroutine := false, more := [] }
theorem co_text_l_1 : CompOk (defScope s_text_l) cs_text_l_1 ["_law_form_here"] "_law_bit" [] [] := ⟨rfl, by decide +kernel, by decide +kernel, by decide +kernel, by decide +kernel, by decide +kernel, rfl, by decide +kernel⟩
set_option maxHeartbeats 1000000 in
theorem ok_text_l (TX : Txt P w K mg c_BadForm c_NotTight c_BadText c_PulseError) (F : Txt1 K mg "_law_text" s_text_l ["_law_form_here"]) : DefOk P w K mg base (k + 1) "_law_text" ["_law_form_here"] (spTextL K) := by
  refine F.ok sc_text_l (fun vs H Q E h => ?_) (fun f cdv A outer s H vs Q E hr h => ?_)
  · first | (obtain ⟨rfl, _⟩ := h; rfl) | (obtain ⟨_, rfl, _⟩ := h; rfl) | (obtain ⟨_, _, rfl, _⟩ := h; rfl) | (obtain ⟨_, _, _, rfl, _⟩ := h; rfl) | (obtain ⟨_, _, _, _, rfl, _⟩ := h; rfl) | (obtain ⟨_, _, _, _, _, rfl, _⟩ := h; rfl) | (obtain ⟨_, _, _, _, _, _, rfl, _⟩ := h; rfl) | (obtain ⟨_, _, _, _, _, _, _, rfl, _⟩ := h; rfl) | (obtain ⟨_, _, _, _, _, _, _, _, rfl, _⟩ := h; rfl) | (obtain ⟨_, _, _, _, _, _, _, _, _, rfl, _⟩ := h; rfl)
  obtain ⟨p, h, b, rfl, ⟨x, y, e1, e2, e3⟩, bh, bb, l1, l2, k⟩ := h
  refine ⟨_, pss_one (ps_ret (pe_op op_add_str (pe_op op_add_str (pe_bm PySem.F.plainAttrs_str PySem.F.slot_str_join PySem.F.type_str_join mt_join pe_str (pa_cons (pe_comp rfl co_text_l_0 (pi_tup (pe_ix ix_tup (pv 0) pe_int (fun _ _ => rfl))) (fun _ _ _ _ => pts_nil) (fun _ _ _ _ => (pe_callTy call_str_int rfl TX.b_str PyProof.Rows.boot_str (pa_cons (pv 0) pa_nil)))) pa_nil)) pe_str) (pe_bm PySem.F.plainAttrs_str PySem.F.slot_str_join PySem.F.type_str_join mt_join pe_str (pa_cons (pe_comp rfl co_text_l_1 (pi_tup (pe_ix ix_tup (pv 0) pe_int (fun _ _ => rfl))) (fun _ _ _ _ => pts_nil) (fun _ _ _ _ => (pe_callTy call_str_int rfl TX.b_str PyProof.Rows.boot_str (pa_cons (pv 0) pa_nil)))) pa_nil)))), ?_⟩
  refine ⟨rfl, _, rfl, _, _, _, _, rfl, rfl, e1, at0, x, rfl, ⟨_, e2⟩, ?_⟩
  refine comp_tup e2 (small (by rw [List.length_map]; omega)) bitS (fun v H' hv sm => ?_) (fun r1 H3 s3 n3 er => ?_)
  · obtain ⟨i, hi, rfl⟩ := List.mem_map.mp hv
    refine ⟨_, rfl, i, rfl, log_bit (bh i hi), Same.refl _, ?_⟩
    rw [str_bit (bh i hi)]
    rfl
  rw [fm_bits] at er
  refine ⟨_, r1, _, rfl, rfl, SqL.of er, ok_bits (by omega), ?_⟩
  rw [join_bits]
  refine ⟨_, _, rfl, rfl, small (by rw [tx_len, List.length_map, bar_tx, tx_len]; show h.length + 1 ≤ 1000; omega), ?_⟩
  refine ⟨rfl, _, rfl, _, _, _, _, rfl, rfl, s3.tup e1, at1, y, rfl, ⟨_, s3.tup e3⟩, ?_⟩
  refine comp_tup (s3.tup e3) (small (by rw [List.length_map]; omega)) bitS (fun v H' hv sm => ?_) (fun r2 H4 s4 n4 er2 => ?_)
  · obtain ⟨i, hi, rfl⟩ := List.mem_map.mp hv
    refine ⟨_, rfl, i, rfl, log_bit (bb i hi), Same.refl _, ?_⟩
    rw [str_bit (bb i hi)]
    rfl
  rw [fm_bits] at er2
  refine ⟨_, r2, _, rfl, rfl, SqL.of er2, ok_bits (by omega), ?_⟩
  rw [join_bits]
  refine ⟨_, _, rfl, rfl, small (by rw [bar_tx, tx_add, tx_len, tx_len, List.length_append, List.length_map, List.length_map]; show h.length + 1 + b.length ≤ 1000; omega), ?_⟩
  rw [txt_eq]
  exact k H4 (s3.trans s4)
abbrev s_due_l : Stmt := top 35
theorem sc_due_l : FnScope ["_law_text_here", "_law_parts", "_law_form_here"] ["_law_text_here"] (defScope s_due_l) := ⟨rfl, rfl, rfl, by decide +kernel, rfl, by decide +kernel, by decide +kernel⟩
def cs_due_l_0 : Scope := { kind := .function, names := [(".0", .local), ("_law_sign", .local)], isGenerator := false, isCoroutine := false, more := [] }
theorem co_due_l_0 : CompOk (defScope s_due_l) cs_due_l_0 ["_law_text_here", "_law_parts", "_law_form_here"] "_law_sign" [] [] := ⟨rfl, by decide +kernel, by decide +kernel, by decide +kernel, by decide +kernel, by decide +kernel, rfl, by decide +kernel⟩
def cs_due_l_1 : Scope := { kind := .function, names := [(".0", .local), ("_law_sign", .local), ("int", .globalImplicit)], isGenerator := false, isCoroutine := false, more := [] }
theorem co_due_l_1 : CompOk (defScope s_due_l) cs_due_l_1 ["_law_text_here", "_law_parts", "_law_form_here"] "_law_sign" [] [] := ⟨rfl, by decide +kernel, by decide +kernel, by decide +kernel, by decide +kernel, by decide +kernel, rfl, by decide +kernel⟩
def cs_due_l_2 : Scope := { kind := .function, names := [(".0", .local), ("_law_sign", .local), ("int", .globalImplicit)], isGenerator := false, isCoroutine := false, more := [] }
theorem co_due_l_2 : CompOk (defScope s_due_l) cs_due_l_2 ["_law_text_here", "_law_parts", "_law_form_here"] "_law_sign" [] [] := ⟨rfl, by decide +kernel, by decide +kernel, by decide +kernel, by decide +kernel, by decide +kernel, rfl, by decide +kernel⟩
set_option maxHeartbeats 1000000 in
theorem ok_due_l (TX : Txt P w K mg c_BadForm c_NotTight c_BadText c_PulseError) (D_tight_l : DefOk P w K mg base k "_law_tight" ["_law_head", "_law_bar"] (spTightL K)) (F : Txt1 K mg "_law_due" s_due_l ["_law_text_here"]) : DefOk P w K mg base (k + 1) "_law_due" ["_law_text_here"] (spDueL K) := by
  refine F.ok sc_due_l (fun vs H Q E h => ?_) (fun f cdv A outer s H vs Q E hr h => ?_)
  · first | (obtain ⟨rfl, _⟩ := h; rfl) | (obtain ⟨_, rfl, _⟩ := h; rfl) | (obtain ⟨_, _, rfl, _⟩ := h; rfl) | (obtain ⟨_, _, _, rfl, _⟩ := h; rfl) | (obtain ⟨_, _, _, _, rfl, _⟩ := h; rfl) | (obtain ⟨_, _, _, _, _, rfl, _⟩ := h; rfl) | (obtain ⟨_, _, _, _, _, _, rfl, _⟩ := h; rfl) | (obtain ⟨_, _, _, _, _, _, _, rfl, _⟩ := h; rfl) | (obtain ⟨_, _, _, _, _, _, _, _, rfl, _⟩ := h; rfl) | (obtain ⟨_, _, _, _, _, _, _, _, _, rfl, _⟩ := h; rfl)
  have hu := hr.units
  obtain ⟨z, rfl, lz, k1, k2⟩ := h
  refine ⟨_, pss_cons (ps_set (i := 1) sc_due_l.nd rfl (Or.inl rfl) (pe_bm PySem.F.plainAttrs_str PySem.F.slot_str_split PySem.F.type_str_split mt_split (pv 0) (pa_cons pe_str pa_nil)))
      (pss_cons (ps_if (PW.pt (pw_or (pt_cmpR op_ne (pe_callB call_len_seq rfl TX.b_len PySem.boot_len (pa_cons (pv 1) pa_nil)) pe_int (nomark _)) (pw_or (pt_cmpR op_eq (pe_ix ix_list (pv 1) pe_int (fun _ _ => rfl)) pe_str (nomark _)) (pw_or1 (pt_truth (pe_comp rfl co_due_l_0 (pi_str (pe_op op_add_str (pe_ix ix_list (pv 1) pe_int (fun _ _ => rfl)) (pe_ix ix_list (pv 1) pe_int (fun _ _ => rfl)))) (fun _ _ _ _ => (pts_one (pt_cmpR op_notIn_str (pv 0) pe_str (by with_unfolding_all rfl)))) (fun _ _ _ _ => (pv 0))) (fun _ => rfl)))))) (pss_one (ps_ret pe_non)) pss_nil)
      (pss_cons (ps_set (i := 2) sc_due_l.nd rfl (Or.inl rfl) (pe_tup (pa_cons (pe_callTy call_tupleU rfl TX.b_tuple PyProof.Rows.boot_tuple (pa_cons (pe_comp rfl co_due_l_1 (pi_str (pe_ix ix_list (pv 1) pe_int (fun _ _ => rfl))) (fun _ _ _ _ => pts_nil) (fun _ _ _ _ => (pe_callTy call_intS rfl TX.b_int PyProof.Rows.boot_int (pa_cons (pv 0) pa_nil)))) pa_nil)) (pa_cons (pe_callTy call_tupleU rfl TX.b_tuple PyProof.Rows.boot_tuple (pa_cons (pe_comp rfl co_due_l_2 (pi_str (pe_ix ix_list (pv 1) pe_int (fun _ _ => rfl))) (fun _ _ _ _ => pts_nil) (fun _ _ _ _ => (pe_callTy call_intS rfl TX.b_int PyProof.Rows.boot_int (pa_cons (pv 0) pa_nil)))) pa_nil)) pa_nil))))
      (pss_cons (ps_if (pt_cmpR (op_neD hu) (pe_callD D_tight_l hr rfl (pa_cons (pe_ix ix_tup (pv 2) pe_int (fun _ _ => rfl)) (pa_cons (pe_ix ix_tup (pv 2) pe_int (fun _ _ => rfl)) pa_nil))) (pv 2) (nomark _)) (pss_one (ps_ret pe_non)) pss_nil)
      (pss_one (ps_ret (pv 2)))))), ?_⟩
  refine ⟨_, rfl, rfl, z, _, rfl, rfl, rfl, small (by omega), fun D H1 s1 n1 e1 => ?_⟩
  obtain ⟨P', hP, fr, jn⟩ := split_spec z
  have e1 : H1 D = some (.lst ((P'.map tx).map V.str)) := by rw [← hP]; exact e1
  refine ⟨_, rfl, D, _, rfl, .inl (SqL.of e1), rfl, _, rfl, ?_⟩
  rw [dec_vint, List.length_map, List.length_map]
  by_cases l2 : P'.length = 2
  case neg =>
    rw [decide_eq_false (show ¬ (P'.length : Int) = 2 by omega)]
    refine k2 (fun h b bh bb t e => l2 ?_) H1 s1
    rw [txt_split bh bb fr (e.symm.trans jn)]
    rfl
  rw [decide_eq_true (show (P'.length : Int) = 2 by omega)]
  refine iteF ?_
  match P', l2 with
  | [p0, p1], _ =>
    have jn : z = tx (p0 ++ [124] ++ p1) := jn
    have lp : p0.length + 1 + p1.length ≤ 300 := by
      rw [jn, tx_len, List.length_append, List.length_append] at lz
      exact lz
    have uq : ∀ {h b : List Int}, Bits h → z = txt h b → p0 = h.map dg ∧ p1 = b.map dg := fun bh e => txt_parts bh (fr p0 List.mem_cons_self) (e.symm.trans jn)
    have e1 : H1 D = some (.lst [.str (tx p0), .str (tx p1)]) := e1
    refine ⟨_, rfl, D, _, _, _, rfl, rfl, SqL.of e1, at1, rfl, _, rfl, ?_⟩
    by_cases c1 : p1 = []
    case pos =>
      rw [decide_eq_true (by rw [c1]; rfl)]
      refine k2 (fun h b bh bb t e => ?_) H1 s1
      have := congrArg List.length (uq bh e).2
      rw [c1, List.length_map] at this
      have := t.pos
      simp at *
      omega
    have nd : decide (V.str (tx p1) = V.str (Str.ofString "")) = false := decide_eq_false fun u => c1 (tx_inj (b := []) (V.str.inj u))
    rw [nd]
    refine iteF ?_
    refine ⟨_, rfl, D, _, _, _, rfl, rfl, SqL.of e1, at0, _, rfl, D, _, _, _, rfl, rfl, SqL.of e1, at1, _, _, rfl, rfl, small (by rw [tx_len, tx_len]; omega), _, rfl, ?_⟩
    rw [tx_add]
    obtain ⟨f, hf⟩ : ∃ f : Nat → Option V, ∀ i c, (p0 ++ p1)[i]? = some c → f i = if c = 48 ∨ c = 49 then none else some (.str (tx [c])) := ⟨fun i => match (p0 ++ p1)[i]? with | some c => if c = 48 ∨ c = 49 then none else some (.str (tx [c])) | none => none, fun i c e => by dsimp only; rw [e]⟩
    have sz : (tx (p0 ++ p1)).cps.size = (p0 ++ p1).length := by simp
    have ci : ∀ (p : List Nat) (i c : Nat), (tx p).cps[i]? = some c → p[i]? = some c := fun p i c e => by simpa using e
    refine comp_str (small (by rw [sz, List.length_append]; omega)) f (fun i c H' ec sm => ?_) (fun r H2 s2 n2 er => ?_)
    · refine ⟨_, rfl, _, _, rfl, rfl, _, rfl, ?_⟩
      rw [in_01, hf i c (ci _ _ _ ec)]
      by_cases u : c = 48 ∨ c = 49
      · rw [decide_eq_false (fun w' => w' u), if_pos u]
        exact iteF ⟨Same.refl _, rfl⟩
      · rw [decide_eq_true u, if_neg u]
        exact iteT ⟨_, rfl, Same.refl _, rfl⟩
    refine ⟨_, .inl ⟨_, SqL.of er, rfl⟩, ?_⟩
    by_cases al : ∀ c ∈ p0 ++ p1, c = 48 ∨ c = 49
    case neg =>
      have ne : (!((List.range (tx (p0 ++ p1)).cps.size).filterMap f).isEmpty) = true := by
        refine Bool.not_eq_true' _ |>.mpr ?_
        rw [List.isEmpty_eq_false_iff]
        intro em
        refine al fun c hc => ?_
        obtain ⟨i, hi, e⟩ := List.getElem_of_mem hc
        by_cases u : c = 48 ∨ c = 49
        · exact u
        · have h1 : f i = some (.str (tx [c])) := by rw [hf i c (by rw [List.getElem?_eq_getElem hi, e]), if_neg u]
          have : V.str (tx [c]) ∈ (List.range (tx (p0 ++ p1)).cps.size).filterMap f := List.mem_filterMap.mpr ⟨i, List.mem_range.mpr (by rw [sz]; exact hi), h1⟩
          rw [em] at this
          cases this
      rw [ne]
      refine k2 (fun h b bh bb t e => al fun c hc => ?_) H2 (s1.trans s2)
      obtain ⟨u1, u2⟩ := uq bh e
      rw [u1, u2] at hc
      have sg : ∀ {xs : List Int}, Bits xs → c ∈ xs.map dg → c = 48 ∨ c = 49 := fun bx m => by
        obtain ⟨i, hi, rfl⟩ := List.mem_map.mp m
        rcases bx i hi with w' | w'
        · rw [w']; exact .inl rfl
        · rw [w']; exact .inr rfl
      rcases List.mem_append.mp hc with m | m
      · exact sg bh m
      · exact sg bb m
    have em : ((List.range (tx (p0 ++ p1)).cps.size).filterMap f) = [] := by
      rw [List.filterMap_eq_nil_iff]
      intro i hi
      have hi := List.mem_range.mp hi
      rw [sz] at hi
      rw [hf i _ (List.getElem?_eq_getElem hi), if_pos (al _ (List.getElem_mem hi))]
    rw [em]
    refine iteF ?_
    have a0 : ∀ c ∈ p0, c = 48 ∨ c = 49 := fun c hc => al c (List.mem_append_left _ hc)
    have a1 : ∀ c ∈ p1, c = 48 ∨ c = 49 := fun c hc => al c (List.mem_append_right _ hc)
    obtain ⟨b0, d0⟩ := ud_bits a0
    obtain ⟨b1, d1⟩ := ud_bits a1
    have e2 := s2 _ _ e1
    have rows : ∀ (p : List Nat), (∀ c ∈ p, c = 48 ∨ c = 49) → ∃ g : Nat → Option V, (∀ i c, p[i]? = some c → g i = some (.int (ud c))) ∧ (List.range (tx p).cps.size).filterMap g = (p.map ud).map V.int := fun p ap => by
      refine ⟨fun i => (p[i]?).map fun c => .int (ud c), fun i c e => by dsimp only; rw [e]; rfl, ?_⟩
      have : (tx p).cps.size = p.length := by simp
      rw [this]
      clear this ap
      induction p with
      | nil => rfl
      | cons x r ih =>
        rw [List.length_cons, List.range_succ_eq_map, List.filterMap_cons, List.filterMap_map]
        show V.int (ud x) :: List.filterMap (fun i => (r[i]?).map fun c => V.int (ud c)) (List.range r.length) = _
        rw [ih]
        rfl
    obtain ⟨g0, hg0, r0⟩ := rows p0 a0
    obtain ⟨g1, hg1, r1⟩ := rows p1 a1
    refine ⟨_, rfl, D, _, _, _, rfl, rfl, SqL.of e2, at0, _, rfl, ?_⟩
    refine comp_str (small (by have : (tx p0).cps.size = p0.length := by simp
                               omega)) g0 (fun i c H' ec sm => ?_) (fun q0 H3 s3 n3 er0 => ?_)
    · have ec := ci _ _ _ ec
      exact ⟨_, rfl, _, _, rfl, (by show 1 ≤ 640; decide), int_sign (a0 c (List.mem_of_getElem? ec)), Same.refl _, hg0 i c ec⟩
    rw [r0] at er0
    refine ⟨q0, _, rfl, .inl (SqL.of er0), fun q1 H4 s4 f4 => ?_⟩
    have e4 := s4 _ _ (s3 _ _ e2)
    refine ⟨_, rfl, D, _, _, _, rfl, rfl, SqL.of e4, at1, _, rfl, ?_⟩
    refine comp_str (small (by have : (tx p1).cps.size = p1.length := by simp
                               omega)) g1 (fun i c H' ec sm => ?_) (fun q2 H5 s5 n5 er1 => ?_)
    · have ec := ci _ _ _ ec
      exact ⟨_, rfl, _, _, rfl, (by show 1 ≤ 640; decide), int_sign (a1 c (List.mem_of_getElem? ec)), Same.refl _, hg1 i c ec⟩
    rw [r1] at er1
    refine ⟨q2, _, rfl, .inl (SqL.of er1), fun q3 H6 s6 f6 => ⟨smallb, fun q4 hq4 => ?_⟩⟩
    have f4 : SqT K H4 q1 ((p0.map ud).map V.int) := f4
    have f6 : SqT K H6 q3 ((p1.map ud).map V.int) := f6
    have t7 := Same.new hq4 (.tup [.ref q1, .ref q3])
    have plf : Pl K (upd H6 q4 (.tup [.ref q1, .ref q3])) q4 (p0.map ud) (p1.map ud) := Pl.mk hq4 ((s5.trans s6).tup f4) f6
    obtain ⟨x', y', v1, v2, v3⟩ := id plf
    have S7 := s1.trans (s2.trans (s3.trans (s4.trans (s5.trans (s6.trans t7)))))
    obtain ⟨H7, h7⟩ : ∃ H7, H7 = upd H6 q4 (.tup [.ref q1, .ref q3]) := ⟨_, rfl⟩
    rw [← h7] at plf v1 v2 v3 S7 t7 ⊢
    have hp1 : 0 < (p1.map ud).length := by rw [List.length_map]; exact len_pos c1
    have ln0 : (p0.map ud).length ≤ 300 := by rw [List.length_map]; omega
    have ln1 : (p1.map ud).length ≤ 300 := by rw [List.length_map]; omega
    have zt : z = txt (p0.map ud) (p1.map ud) := by unfold txt; rw [d0, d1]; exact jn
    refine ⟨_, rfl, _, _, _, _, rfl, rfl, v1, at0, _, rfl, _, _, _, _, rfl, rfl, v1, at1, x', y', _, _, rfl, .inr v2, .inr v3, hp1, by omega, by omega, fun r9 h9 b9 H9 s9 pl9 t9 al9 => ?_⟩
    refine ⟨_, rfl, _, _, pl9.rep, (plf.same s9).rep, _, rfl, ?_⟩
    rw [eqv_dP]
    by_cases eq : h9 = p0.map ud ∧ b9 = p1.map ud
    · rw [decide_eq_true eq]
      refine iteF ⟨_, rfl, k1 _ _ b0 b1 (by rw [← eq.1, ← eq.2]; exact t9) zt q4 H9 (S7.trans s9) (plf.same s9)⟩
    · rw [decide_eq_false eq]
      refine iteT (k2 (fun h b bh bb t e => eq ?_) H9 (S7.trans s9))
      obtain ⟨u1, u2⟩ := uq bh e
      have w1 : p0.map ud = h := dg_inj b0 bh (by rw [d0]; exact u1)
      have w2 : p1.map ud = b := dg_inj b1 bb (by rw [d1]; exact u2)
      rw [w1, w2] at al9 ⊢
      exact t9.uniq t al9
abbrev s_bad_l : Stmt := top 36
theorem sc_bad_l : FnScope ["_law_script", "_law_text_here", "_law_at", "_law_way", "_law_some"] ["_law_script", "_law_text_here"] (defScope s_bad_l) := ⟨rfl, rfl, rfl, by decide +kernel, rfl, by decide +kernel, by decide +kernel⟩
set_option maxHeartbeats 1000000 in
theorem ok_bad_l (TX : Txt P w K mg c_BadForm c_NotTight c_BadText c_PulseError) (D_cell_l : DefOk P w K mg base k "_law_cell" ["_law_script", "_law_k"] (spCell K)) (D_text_l : DefOk P w K mg base k "_law_text" ["_law_form_here"] (spTextL K)) (D_form_l : DefOk P w K mg base k "_law_form" ["_law_script", "_law_at"] (spForm K)) (F : Txt1 K mg "_law_bad" s_bad_l ["_law_script", "_law_text_here"]) : DefOk P w K mg base (k + 1) "_law_bad" ["_law_script", "_law_text_here"] (spBadL K) := by
  refine F.ok sc_bad_l (fun vs H Q E h => ?_) (fun f cdv A outer s H vs Q E hr h => ?_)
  · first | (obtain ⟨rfl, _⟩ := h; rfl) | (obtain ⟨_, rfl, _⟩ := h; rfl) | (obtain ⟨_, _, rfl, _⟩ := h; rfl) | (obtain ⟨_, _, _, rfl, _⟩ := h; rfl) | (obtain ⟨_, _, _, _, rfl, _⟩ := h; rfl) | (obtain ⟨_, _, _, _, _, rfl, _⟩ := h; rfl) | (obtain ⟨_, _, _, _, _, _, rfl, _⟩ := h; rfl) | (obtain ⟨_, _, _, _, _, _, _, rfl, _⟩ := h; rfl) | (obtain ⟨_, _, _, _, _, _, _, _, rfl, _⟩ := h; rfl) | (obtain ⟨_, _, _, _, _, _, _, _, _, rfl, _⟩ := h; rfl)
  obtain ⟨a, ns, h, b, rfl, ha, hl, l1, l2, k⟩ := h
  refine ⟨_, pss_cons (ps_set (i := 2) sc_bad_l.nd rfl (Or.inl rfl) (pe_op op_mod (pe_callD D_cell_l hr rfl (pa_cons (pv 0) (pa_cons pe_int pa_nil))) (pe_callB call_len_str rfl TX.b_len PySem.boot_len (pa_cons (pv 1) pa_nil))))
      (pss_cons (ps_set (i := 3) sc_bad_l.nd rfl (Or.inl rfl) (pe_op op_mod (pe_callD D_cell_l hr rfl (pa_cons (pv 0) (pa_cons pe_int pa_nil))) pe_int))
      (pss_cons (ps_if (pt_cmpR op_eq (pv 3) pe_int (nomark _)) (pss_one (ps_ret (pe_op op_add_str (pe_slice sl_str (pv 1) po_none (po_some (pv 2))) (pe_slice sl_str (pv 1) (po_some (pe_op op_add (pv 2) pe_int)) po_none)))) pss_nil)
      (pss_cons (ps_if (pt_cmpR op_eq (pv 3) pe_int (nomark _)) (pss_one (ps_ret (pe_op op_add_str (pe_slice sl_str (pv 1) po_none (po_some (pe_op op_add (pv 2) pe_int))) (pe_slice sl_str (pv 1) (po_some (pv 2)) po_none)))) pss_nil)
      (pss_cons (ps_if (pt_cmpR op_eq (pv 3) pe_int (nomark _)) (pss_one (ps_ret (pe_op op_add_str (pe_op op_add_str (pe_slice sl_str (pv 1) po_none (po_some (pv 2))) (pe_ix ix_str pe_str (pe_op op_mod (pe_callD D_cell_l hr rfl (pa_cons (pv 0) (pa_cons pe_int pa_nil))) pe_int) (fun _ _ => rfl))) (pe_slice sl_str (pv 1) (po_some (pe_op op_add (pv 2) pe_int)) po_none)))) pss_nil)
      (pss_cons (ps_if (pt_cmpR op_eq (pv 3) pe_int (nomark _)) (pss_one (ps_ret (pe_callD D_text_l hr rfl (pa_cons (pe_callD D_form_l hr rfl (pa_cons (pv 0) (pa_cons pe_int pa_nil))) pa_nil)))) pss_nil)
      (pss_cons (ps_set (i := 4) sc_bad_l.nd rfl (Or.inl rfl) (pe_lst (@pa_consC _ _ _ _ _ _ _ (@pe_str _ _ _ _) (@pa_consC _ _ _ _ _ _ _ (@pe_str _ _ _ _) (pa_cons (pe_op op_add_str (pv 1) pe_str) (@pa_consC _ _ _ _ _ _ _ (@pe_non _ _ _) (@pa_consC _ _ _ _ _ _ _ (@pe_int _ _ _ _) (@pa_consL _ _ _ _ _ _ (@pe_lst _ _ _ _ (pa_cons (pv 1) (@pa_nil _))) (pa_cons (pe_op op_add_str (pe_op op_repS pe_str pe_int) pe_str) (pa_cons (pe_op op_add_str pe_str (pe_op op_repS pe_str pe_int)) (pa_cons (pe_op op_add_str (pv 1) pe_str) (@pa_nil _))))))))))))
      (pss_one (ps_ret (pe_ix ix_list (pv 4) (pe_op op_mod (pe_callD D_cell_l hr rfl (pa_cons (pv 0) (pa_cons pe_int pa_nil))) pe_int) (fun _ _ => rfl)))))))))), ?_⟩
  have lt := txt_len h b
  have lt30 : (txt h b).length ≤ 29 := by omega
  have lz : (txt h b).length ≤ sizeLine := small (by omega)
  generalize txt h b = z at lt lt30 lz
  refine ⟨_, rfl, a, ns, 1, rfl, ha, by decide, _, rfl, z, rfl, lz, _, _, rfl, rfl, by omega, ?_⟩
  dsimp -proj only
  have k0 := Int.emod_nonneg (ns.getD (1 : Int).toNat 0) (show (z.length : Int) ≠ 0 by omega)
  generalize ns.getD (1 : Int).toNat 0 % (z.length : Int) = n at k0 ⊢
  refine ⟨_, rfl, a, ns, 0, rfl, ha, by decide, _, _, rfl, rfl, (show (0 : Int) < 6 by decide), ?_⟩
  dsimp -proj only
  have sl : ∀ lo hi, (Txt.slice z lo hi).length ≤ 29 := fun lo hi => Nat.le_trans (Txt.slice_le z lo hi) lt30
  have sa : ∀ x y : Str, (x ++ y).length = x.length + y.length := Str.length_append
  refine ⟨_, rfl, rfl, _, rfl, ?_⟩
  refine ite2 (fun _ => ?_) (fun _ => ?_)
  · refine ⟨_, rfl, _, rfl, _, rfl, z, rfl, lz, _, rfl, _, rfl, _, _, rfl, rfl, _, rfl, z, rfl, lz, _, _, rfl, rfl, small (by have := sl none (some n); have := sl (some (n + 1)) none; omega), k _ H (Same.refl _) (.short ?_)⟩
    rw [sa]
    have := sl none (some n)
    have := sl (some (n + 1)) none
    omega
  refine ⟨_, rfl, rfl, _, rfl, ?_⟩
  refine ite2 (fun _ => ?_) (fun _ => ?_)
  · refine ⟨_, rfl, _, rfl, _, _, rfl, rfl, _, rfl, z, rfl, lz, _, rfl, _, rfl, _, rfl, z, rfl, lz, _, _, rfl, rfl, small (by have := sl none (some (n + 1)); have := sl (some n) none; omega), k _ H (Same.refl _) (.short ?_)⟩
    rw [sa]
    have := sl none (some (n + 1))
    have := sl (some n) none
    omega
  refine ⟨_, rfl, rfl, _, rfl, ?_⟩
  refine ite2 (fun _ => ?_) (fun _ => ?_)
  · obtain ⟨c, ec⟩ := sign_of (Int.emod_nonneg (ns.getD (2 : Int).toNat 0) (show (5 : Int) ≠ 0 by decide)) (Int.emod_lt_of_pos (ns.getD (2 : Int).toNat 0) (show (0 : Int) < 5 by decide))
    refine ⟨_, rfl, _, rfl, _, rfl, z, rfl, lz, _, rfl, a, ns, 2, rfl, ha, by decide, _, _, rfl, rfl, (show (0 : Int) < 5 by decide), _, _, c, rfl, rfl, smallb, ec, _, _, rfl, rfl, small (by have := sl none (some n); show _ + 1 ≤ 1000; omega), ?_⟩
    refine ⟨_, rfl, _, rfl, _, _, rfl, rfl, _, rfl, z, rfl, lz, _, _, rfl, rfl, small (by rw [sa]; have := sl none (some n); have := sl (some (n + 1)) none; show _ + 1 + _ ≤ 1000; omega), k _ H (Same.refl _) (.short ?_)⟩
    rw [sa, sa]
    have := sl none (some n)
    have := sl (some (n + 1)) none
    show _ + 1 + _ < 200
    omega
  refine ⟨_, rfl, rfl, _, rfl, ?_⟩
  refine ite2 (fun _ => ?_) (fun _ => ?_)
  · refine ⟨_, rfl, a, ns, 7, rfl, ha, hl, by decide, fun p h' b' H1 s1 pl bh bb l1 l2 l3 => ⟨p, h', b', rfl, pl, bh, bb, by omega, by omega, fun H2 s2 => k _ H2 (s1.trans s2) (.short ?_)⟩⟩
    rw [txt_len]
    omega
  have m1 : MulOk (Str.ofString "0") 401 := by refine ⟨by decide, fun _ _ => by decide +kernel, fun _ _ => by decide +kernel⟩
  have m2 : MulOk (Str.ofString "01") 101 := by refine ⟨by decide, fun _ _ => by decide +kernel, fun _ _ => by decide +kernel⟩
  have w1 : (Txt.mul (Str.ofString "0") 401).length = 401 := by decide +kernel
  have w2 : (Txt.mul (Str.ofString "01") 101).length = 202 := by decide +kernel
  refine ⟨_, rfl, _, _, rfl, rfl, small (by show _ + 1 ≤ 1000; omega), _, rfl, smallb, fun q1 hq1 => ?_⟩
  refine ⟨_, _, rfl, rfl, m1, _, _, rfl, rfl, small (by rw [w1]; decide), _, _, rfl, rfl, m2, _, _, rfl, rfl, small (by rw [w2]; decide), _, rfl, _, _, rfl, rfl, small (by show _ + 2 ≤ 1000; omega), smallb, fun q2 hq2 => ?_⟩
  have t1 := Same.new hq1 (.lst [.str z])
  have t2 := Same.new hq2 (.lst [.str (Str.ofString ""), .str (Str.ofString "|"), .str (z ++ Str.ofString " "), .non, .int 7, .ref q1, .str (Txt.mul (Str.ofString "0") 401 ++ Str.ofString "|1"), .str (Str.ofString "|" ++ Txt.mul (Str.ofString "01") 101), .str (z ++ Str.ofString "|0")])
  have j0 := Int.emod_nonneg (ns.getD (1 : Int).toNat 0) (show (9 : Int) ≠ 0 by decide)
  have j9 := Int.emod_lt_of_pos (ns.getD (1 : Int).toNat 0) (show (0 : Int) < 9 by decide)
  refine ⟨_, rfl, _, rfl, a, ns, 1, rfl, (t1.trans t2).seq ha, by decide, _, _, rfl, rfl, (show (0 : Int) < 9 by decide), ?_⟩
  dsimp -proj only
  generalize ns.getD (1 : Int).toNat 0 % 9 = j at j0 j9 ⊢
  have fin : ∀ x, BadT K _ x → Q x _ := fun x bx => k x _ (t1.trans t2) bx
  obtain ⟨x, ex, bx⟩ : ∃ x, atI [V.str (Str.ofString ""), .str (Str.ofString "|"), .str (z ++ Str.ofString " "), .non, .int 7, .ref q1, .str (Txt.mul (Str.ofString "0") 401 ++ Str.ofString "|1"), .str (Str.ofString "|" ++ Txt.mul (Str.ofString "01") 101), .str (z ++ Str.ofString "|0")] j = some x ∧ BadT K _ x := by
    have c : j = 0 ∨ j = 1 ∨ j = 2 ∨ j = 3 ∨ j = 4 ∨ j = 5 ∨ j = 6 ∨ j = 7 ∨ j = 8 := by omega
    rcases c with rfl | rfl | rfl | rfl | rfl | rfl | rfl | rfl | rfl
    · exact ⟨_, rfl, .short (by decide)⟩
    · exact ⟨_, rfl, .short (by decide)⟩
    · exact ⟨_, rfl, .short (by rw [sa]; show _ + 1 < 200; omega)⟩
    · exact ⟨_, rfl, .non⟩
    · exact ⟨_, rfl, .int 7⟩
    · exact ⟨_, rfl, .lst (SqL.of (t2 _ _ upd_same))⟩
    · exact ⟨_, rfl, .long (by rw [sa, w1]; decide) (by rw [sa, w1]; decide) big_head⟩
    · exact ⟨_, rfl, .long (by rw [sa, w2]; decide) (by rw [sa, w2]; decide) big_bar⟩
    · exact ⟨_, rfl, .short (by rw [sa]; show _ + 2 < 200; omega)⟩
  exact ⟨q2, _, _, x, rfl, rfl, SqL.of upd_same, ex, fin x bx⟩
abbrev s_law : Stmt := top 37
theorem sc_law : FnScope ["_law_script", "_law_bad_here", "_law_due_here"] ["_law_script"] (defScope s_law) := ⟨rfl, rfl, rfl, by decide +kernel, rfl, by decide +kernel, by decide +kernel⟩
set_option maxHeartbeats 4000000 in
theorem ok_law (TX : Txt P w K mg c_BadForm c_NotTight c_BadText c_PulseError) (D_bad_l : DefOk P w K mg base k "_law_bad" ["_law_script", "_law_text_here"] (spBadL K)) (D_text_l : DefOk P w K mg base k "_law_text" ["_law_form_here"] (spTextL K)) (D_due_l : DefOk P w K mg base k "_law_due" ["_law_text_here"] (spDueL K)) (D_read : DefOkX P w K mg base k "read" ["text"] (spReadX K c_BadText)) (D_pulse_l : DefOk P w K mg base k "_law_pulse" ["_law_script", "_law_at"] (spPulse K)) (D_refused_l : DefOk P w K mg base k "_law_refused" ["_law_text_here"] (spRef21 K)) (D_by_base_l : DefOk P w K mg base k "_law_by_base" ["_law_text_here"] (spRef21 K)) {f : Addr} {fd : FuncData} (F : Fun K "law" "law" s_law f fd) : FnOk P w K mg base CX0 (k + 1) f fd ["_law_script"] (spLaw K) := by
  refine F.ok sc_law (fun vs H Q E h => ?_) (fun cdv A outer s H vs Q E hr h => ?_)
  · first | (obtain ⟨rfl, _⟩ := h; rfl) | (obtain ⟨_, rfl, _⟩ := h; rfl) | (obtain ⟨_, _, rfl, _⟩ := h; rfl) | (obtain ⟨_, _, _, rfl, _⟩ := h; rfl) | (obtain ⟨_, _, _, _, rfl, _⟩ := h; rfl) | (obtain ⟨_, _, _, _, _, rfl, _⟩ := h; rfl) | (obtain ⟨_, _, _, _, _, _, rfl, _⟩ := h; rfl) | (obtain ⟨_, _, _, _, _, _, _, rfl, _⟩ := h; rfl) | (obtain ⟨_, _, _, _, _, _, _, _, rfl, _⟩ := h; rfl) | (obtain ⟨_, _, _, _, _, _, _, _, _, rfl, _⟩ := h; rfl)
  have hu := hr.units
  obtain ⟨a, ns, rfl, ha, hl, q⟩ := h
  refine ⟨_, pss_cons (ps_set (i := 1) sc_law.nd rfl (Or.inl rfl) (pe_callD D_bad_l hr rfl (pa_cons (pv 0) (pa_cons (pe_callD D_text_l hr rfl (pa_cons (pe_callD D_pulse_l hr rfl (pa_cons (pv 0) (pa_cons pe_int pa_nil))) pa_nil)) pa_nil))))
      (pss_cons (ps_set (i := 2) sc_law.nd rfl (Or.inl rfl) pe_non)
      (pss_cons (ps_if (PW.pt (pw_and (pt_val (pe_callB (call_isv (T := "str")) rfl TX.b_isinstance PyProof.Rows.boot_isinstance (pa_cons (pv 1) (pa_cons (pe_tyn rfl TX.b_str PyProof.Rows.boot_str) pa_nil))) (fun _ => rfl)) (pw_and1 (pt_cmpR op_lt (pe_callB call_len_str rfl TX.b_len PySem.boot_len (pa_cons (pv 1) pa_nil)) pe_int (nomark _))))) (pss_one (ps_set (i := 2) sc_law.nd rfl (Or.inl rfl) (pe_callD D_due_l hr rfl (pa_cons (pv 1) pa_nil)))) pss_nil)
      (pss_cons (ps_if (pt_cmpR op_isN (pv 2) pe_non (nomark _)) (pss_one (ps_ret (pe_and (pe_callD D_refused_l hr rfl (pa_cons (pv 1) pa_nil)) (pe_one (pe_callD D_by_base_l hr rfl (pa_cons (pv 1) pa_nil)))))) pss_nil)
      (pss_one (ps_ret (pe_cmpR (op_eqD hu) (pe_callX D_read hr rfl flies0 (pa_cons (pv 1) pa_nil)) (pv 2) (nomark _))))))), ?_⟩
  refine ⟨_, rfl, _, rfl, a, ns, 3, rfl, ha, hl, by decide, fun p h b H1 s1 pl t bh bb l1 l2 => ?_⟩
  refine ⟨p, h, b, rfl, pl, bh, bb, by omega, by omega, fun H2 s2 => ?_⟩
  have ha2 := (s1.trans s2).seq ha
  refine ⟨a, ns, h, b, rfl, ha2, hl, l1, l2, fun x H3 s3 bx => ?_⟩
  have refuse : ∀ {H4 : Hp}, NoText K H4 x → ∃ y : V, True := fun _ => ⟨x, trivial⟩
  cases bx with
  | @short z lz =>
    refine ⟨_, rfl, _, _, _, rfl, .str z, kit_yes, _, rfl, iteT ?_⟩
    refine ⟨_, rfl, z, rfl, small (by omega), _, _, rfl, rfl, _, rfl, ?_⟩
    rw [decide_eq_true (show (z.length : Int) < 200 by omega)]
    refine iteT ⟨_, rfl, z, rfl, by omega, fun h' b' bh' bb' t' e r H4 s4 plr => ?_, fun no H4 s4 => ?_⟩
    · subst e
      rw [txt_len] at lz
      refine ⟨_, rfl, rfl, _, rfl, ?_⟩
      refine iteF ?_
      refine ⟨_, rfl, _, rfl, .inl ⟨h', b', rfl, t', bh', bb', by omega, by omega, fun r2 H5 s5 pl5 => ?_⟩⟩
      refine ⟨_, rfl, _, _, pl5.rep, (plr.same s5).rep, ?_⟩
      rw [eqv_dP, decide_eq_true ⟨rfl, rfl⟩]
      exact q _
    · have nt : NoText K H4 (.str z) := .str (by omega) fun h' b' bh' bb' t' f => no h' b' bh' bb' t'
      refine ⟨_, rfl, rfl, _, rfl, ?_⟩
      refine iteT ?_
      exact ⟨_, rfl, _, rfl, nt, fun H5 s5 => ⟨_, rfl, iteT ⟨_, rfl, _, rfl, nt.same s5, fun H6 s6 => q _⟩⟩⟩
  | @long z lz1 lz2 no =>
    refine ⟨_, rfl, _, _, _, rfl, .str z, kit_yes, _, rfl, iteT ?_⟩
    refine ⟨_, rfl, z, rfl, small (by omega), _, _, rfl, rfl, _, rfl, ?_⟩
    rw [decide_eq_false (show ¬ (z.length : Int) < 200 by omega)]
    refine iteF ?_
    have nt : NoText K H3 (.str z) := .str lz2 no
    refine ⟨_, rfl, rfl, _, rfl, ?_⟩
    refine iteT ?_
    exact ⟨_, rfl, _, rfl, nt, fun H5 s5 => ⟨_, rfl, iteT ⟨_, rfl, _, rfl, nt.same s5, fun H6 s6 => q _⟩⟩⟩
  | non =>
    have nt : NoText K H3 .non := .non
    refine ⟨_, rfl, _, _, _, rfl, .non, (by rfl : PySem.W.kitOne K (.type "NoneType") (.type "str") = some false), _, rfl, iteF ?_⟩
    refine iteF ?_
    refine ⟨_, rfl, rfl, _, rfl, ?_⟩
    refine iteT ?_
    exact ⟨_, rfl, _, rfl, nt, fun H5 s5 => ⟨_, rfl, iteT ⟨_, rfl, _, rfl, nt.same s5, fun H6 s6 => q _⟩⟩⟩
  | int i =>
    have nt : NoText K H3 (.int i) := .int i
    refine ⟨_, rfl, _, _, _, rfl, .int i, (by rfl : PySem.W.kitOne K (.type "int") (.type "str") = some false), _, rfl, iteF ?_⟩
    refine iteF ?_
    refine ⟨_, rfl, rfl, _, rfl, ?_⟩
    refine iteT ?_
    exact ⟨_, rfl, _, rfl, nt, fun H5 s5 => ⟨_, rfl, iteT ⟨_, rfl, _, rfl, nt.same s5, fun H6 s6 => q _⟩⟩⟩
  | @lst l xs hx =>
    have nt : NoText K H3 (.ref l) := .lst hx
    refine ⟨_, rfl, _, _, _, rfl, .lst hx, (by rfl : PySem.W.kitOne K (.type "list") (.type "str") = some false), _, rfl, iteF ?_⟩
    refine iteF ?_
    refine ⟨_, rfl, rfl, _, rfl, ?_⟩
    refine iteT ?_
    exact ⟨_, rfl, _, rfl, nt, fun H5 s5 => ⟨_, rfl, iteT ⟨_, rfl, _, rfl, nt.same s5, fun H6 s6 => q _⟩⟩⟩
end
set_option maxHeartbeats 4000000 in
theorem all_mk {l : PySem.W.OpenLaw} {w : World} {K : PySem.W.Frag} {h : Heap} {mg : Str → Option Value} {fa f0 f1 f2 f3 f4 f5 f6 f7 f8 f9 f10 f11 f12 f13 f14 f15 f16 f17 f18 f19 f20 f21 f22 f23 f24 f25 : Addr} (X : K.In h) (G : h.Ns mainGlobals mg) (hfa : mg "law" = some (.ref fa))
    {od0 an0 od1 an1 od2 an2 od3 an3 od4 an4 od5 an5 od6 an6 od7 an7 od8 an8 od9 an9 od10 an10 od11 an11 od12 an12 od13 an13 od14 an14 od15 an15 od16 an16 od17 an17 od18 an18 od19 an19 od20 an20 od21 an21 od22 an22 od23 an23 od24 an24 od25 an25 : Option Addr} {sl0 sl1 sl2 sl3 sl4 sl5 sl6 sl7 sl8 sl9 sl10 sl11 sl12 sl13 sl14 sl15 sl16 sl17 sl18 sl19 sl20 sl21 sl22 sl23 sl24 sl25 : Array (Option Value)} {oc0 kV0 dc0 pm0 cd0 ct0 oc1 kV1 dc1 pm1 cd1 ct1 oc2 kV2 dc2 pm2 cd2 ct2 oc3 kV3 dc3 pm3 cd3 ct3 oc4 kV4 dc4 pm4 cd4 ct4 oc5 kV5 dc5 pm5 cd5 ct5 oc6 kV6 dc6 pm6 cd6 ct6 oc7 kV7 dc7 pm7 cd7 ct7 oc8 kV8 dc8 pm8 cd8 ct8 oc9 kV9 dc9 pm9 cd9 ct9 oc10 kV10 dc10 pm10 cd10 ct10 oc11 kV11 dc11 pm11 cd11 ct11 oc12 kV12 dc12 pm12 cd12 ct12 oc13 kV13 dc13 pm13 cd13 ct13 oc14 kV14 dc14 pm14 cd14 ct14 oc15 kV15 dc15 pm15 cd15 ct15 oc16 kV16 dc16 pm16 cd16 ct16 oc17 kV17 dc17 pm17 cd17 ct17 oc18 kV18 dc18 pm18 cd18 ct18 oc19 kV19 dc19 pm19 cd19 ct19 oc20 kV20 dc20 pm20 cd20 ct20 oc21 kV21 dc21 pm21 cd21 ct21 oc22 kV22 dc22 pm22 cd22 ct22 oc23 kV23 dc23 pm23 cd23 ct23 oc24 kV24 dc24 pm24 cd24 ct24 oc25 kV25 dc25 pm25 cd25 ct25 : Value}
    (a0 : PySem.W.nsIn K mainGlobals "is_whole" = some (some (.ref f0))) (l0 : K.lookup f0 = some ⟨oc0, od0, .func (PySem.W.fnOf "is_whole" "is_whole" (defArgs s_is_whole) (defBody s_is_whole) (defScope s_is_whole) .none kV0 dc0 pm0 an0 cd0 ct0), sl0⟩) (c0 : PySem.W.codeIn K cd0 "is_whole" = true) (k0 : PySem.W.keepIn K (.ref f0) = true)
    (a1 : PySem.W.nsIn K mainGlobals "is_number" = some (some (.ref f1))) (l1 : K.lookup f1 = some ⟨oc1, od1, .func (PySem.W.fnOf "is_number" "is_number" (defArgs s_is_number) (defBody s_is_number) (defScope s_is_number) .none kV1 dc1 pm1 an1 cd1 ct1), sl1⟩) (c1 : PySem.W.codeIn K cd1 "is_number" = true) (k1 : PySem.W.keepIn K (.ref f1) = true)
    (a2 : PySem.W.nsIn K mainGlobals "are_numbers" = some (some (.ref f2))) (l2 : K.lookup f2 = some ⟨oc2, od2, .func (PySem.W.fnOf "are_numbers" "are_numbers" (defArgs s_are_numbers) (defBody s_are_numbers) (defScope s_are_numbers) .none kV2 dc2 pm2 an2 cd2 ct2), sl2⟩) (c2 : PySem.W.codeIn K cd2 "are_numbers" = true) (k2 : PySem.W.keepIn K (.ref f2) = true)
    (a3 : PySem.W.nsIn K mainGlobals "place_in_bar" = some (some (.ref f3))) (l3 : K.lookup f3 = some ⟨oc3, od3, .func (PySem.W.fnOf "place_in_bar" "place_in_bar" (defArgs s_place_in_bar) (defBody s_place_in_bar) (defScope s_place_in_bar) .none kV3 dc3 pm3 an3 cd3 ct3), sl3⟩) (c3 : PySem.W.codeIn K cd3 "place_in_bar" = true) (k3 : PySem.W.keepIn K (.ref f3) = true)
    (a4 : PySem.W.nsIn K mainGlobals "shortest_bar" = some (some (.ref f4))) (l4 : K.lookup f4 = some ⟨oc4, od4, .func (PySem.W.fnOf "shortest_bar" "shortest_bar" (defArgs s_shortest_bar) (defBody s_shortest_bar) (defScope s_shortest_bar) .none kV4 dc4 pm4 an4 cd4 ct4), sl4⟩) (c4 : PySem.W.codeIn K cd4 "shortest_bar" = true) (k4 : PySem.W.keepIn K (.ref f4) = true)
    (a5 : PySem.W.nsIn K mainGlobals "needed_of_head" = some (some (.ref f5))) (l5 : K.lookup f5 = some ⟨oc5, od5, .func (PySem.W.fnOf "needed_of_head" "needed_of_head" (defArgs s_needed_of_head) (defBody s_needed_of_head) (defScope s_needed_of_head) .none kV5 dc5 pm5 an5 cd5 ct5), sl5⟩) (c5 : PySem.W.codeIn K cd5 "needed_of_head" = true) (k5 : PySem.W.keepIn K (.ref f5) = true)
    (a6 : PySem.W.nsIn K mainGlobals "tight" = some (some (.ref f6))) (l6 : K.lookup f6 = some ⟨oc6, od6, .func (PySem.W.fnOf "tight" "tight" (defArgs s_tight) (defBody s_tight) (defScope s_tight) .none kV6 dc6 pm6 an6 cd6 ct6), sl6⟩) (c6 : PySem.W.codeIn K cd6 "tight" = true) (k6 : PySem.W.keepIn K (.ref f6) = true)
    (a7 : PySem.W.nsIn K mainGlobals "is_row" = some (some (.ref f7))) (l7 : K.lookup f7 = some ⟨oc7, od7, .func (PySem.W.fnOf "is_row" "is_row" (defArgs s_is_row) (defBody s_is_row) (defScope s_is_row) .none kV7 dc7 pm7 an7 cd7 ct7), sl7⟩) (c7 : PySem.W.codeIn K cd7 "is_row" = true) (k7 : PySem.W.keepIn K (.ref f7) = true)
    (a8 : PySem.W.nsIn K mainGlobals "is_form" = some (some (.ref f8))) (l8 : K.lookup f8 = some ⟨oc8, od8, .func (PySem.W.fnOf "is_form" "is_form" (defArgs s_is_form) (defBody s_is_form) (defScope s_is_form) .none kV8 dc8 pm8 an8 cd8 ct8), sl8⟩) (c8 : PySem.W.codeIn K cd8 "is_form" = true) (k8 : PySem.W.keepIn K (.ref f8) = true)
    (a9 : PySem.W.nsIn K mainGlobals "made" = some (some (.ref f9))) (l9 : K.lookup f9 = some ⟨oc9, od9, .func (PySem.W.fnOf "made" "made" (defArgs s_made) (defBody s_made) (defScope s_made) .none kV9 dc9 pm9 an9 cd9 ct9), sl9⟩) (c9 : PySem.W.codeIn K cd9 "made" = true) (k9 : PySem.W.keepIn K (.ref f9) = true)
    (a10 : PySem.W.nsIn K mainGlobals "checked" = some (some (.ref f10))) (l10 : K.lookup f10 = some ⟨oc10, od10, .func (PySem.W.fnOf "checked" "checked" (defArgs s_checked) (defBody s_checked) (defScope s_checked) .none kV10 dc10 pm10 an10 cd10 ct10), sl10⟩) (c10 : PySem.W.codeIn K cd10 "checked" = true) (k10 : PySem.W.keepIn K (.ref f10) = true)
    (a11 : PySem.W.nsIn K mainGlobals "figures_of" = some (some (.ref f11))) (l11 : K.lookup f11 = some ⟨oc11, od11, .func (PySem.W.fnOf "figures_of" "figures_of" (defArgs s_figures_of) (defBody s_figures_of) (defScope s_figures_of) .none kV11 dc11 pm11 an11 cd11 ct11), sl11⟩) (c11 : PySem.W.codeIn K cd11 "figures_of" = true) (k11 : PySem.W.keepIn K (.ref f11) = true)
    (a12 : PySem.W.nsIn K mainGlobals "read" = some (some (.ref f12))) (l12 : K.lookup f12 = some ⟨oc12, od12, .func (PySem.W.fnOf "read" "read" (defArgs s_read) (defBody s_read) (defScope s_read) .none kV12 dc12 pm12 an12 cd12 ct12), sl12⟩) (c12 : PySem.W.codeIn K cd12 "read" = true) (k12 : PySem.W.keepIn K (.ref f12) = true)
    (a13 : PySem.W.nsIn K mainGlobals "_law_cell" = some (some (.ref f13))) (l13 : K.lookup f13 = some ⟨oc13, od13, .func (PySem.W.fnOf "_law_cell" "_law_cell" (defArgs s_cell_l) (defBody s_cell_l) (defScope s_cell_l) .none kV13 dc13 pm13 an13 cd13 ct13), sl13⟩) (c13 : PySem.W.codeIn K cd13 "_law_cell" = true) (k13 : PySem.W.keepIn K (.ref f13) = true)
    (a14 : PySem.W.nsIn K mainGlobals "_law_mix" = some (some (.ref f14))) (l14 : K.lookup f14 = some ⟨oc14, od14, .func (PySem.W.fnOf "_law_mix" "_law_mix" (defArgs s_mix_l) (defBody s_mix_l) (defScope s_mix_l) .none kV14 dc14 pm14 an14 cd14 ct14), sl14⟩) (c14 : PySem.W.codeIn K cd14 "_law_mix" = true) (k14 : PySem.W.keepIn K (.ref f14) = true)
    (a15 : PySem.W.nsIn K mainGlobals "_law_large" = some (some (.ref f15))) (l15 : K.lookup f15 = some ⟨oc15, od15, .func (PySem.W.fnOf "_law_large" "_law_large" (defArgs s_large_l) (defBody s_large_l) (defScope s_large_l) .none kV15 dc15 pm15 an15 cd15 ct15), sl15⟩) (c15 : PySem.W.codeIn K cd15 "_law_large" = true) (k15 : PySem.W.keepIn K (.ref f15) = true)
    (a16 : PySem.W.nsIn K mainGlobals "_law_tight" = some (some (.ref f16))) (l16 : K.lookup f16 = some ⟨oc16, od16, .func (PySem.W.fnOf "_law_tight" "_law_tight" (defArgs s_tight_l) (defBody s_tight_l) (defScope s_tight_l) .none kV16 dc16 pm16 an16 cd16 ct16), sl16⟩) (c16 : PySem.W.codeIn K cd16 "_law_tight" = true) (k16 : PySem.W.keepIn K (.ref f16) = true)
    (a17 : PySem.W.nsIn K mainGlobals "_law_bits" = some (some (.ref f17))) (l17 : K.lookup f17 = some ⟨oc17, od17, .func (PySem.W.fnOf "_law_bits" "_law_bits" (defArgs s_bits_l) (defBody s_bits_l) (defScope s_bits_l) .none kV17 dc17 pm17 an17 cd17 ct17), sl17⟩) (c17 : PySem.W.codeIn K cd17 "_law_bits" = true) (k17 : PySem.W.keepIn K (.ref f17) = true)
    (a18 : PySem.W.nsIn K mainGlobals "_law_form" = some (some (.ref f18))) (l18 : K.lookup f18 = some ⟨oc18, od18, .func (PySem.W.fnOf "_law_form" "_law_form" (defArgs s_form_l) (defBody s_form_l) (defScope s_form_l) .none kV18 dc18 pm18 an18 cd18 ct18), sl18⟩) (c18 : PySem.W.codeIn K cd18 "_law_form" = true) (k18 : PySem.W.keepIn K (.ref f18) = true)
    (a19 : PySem.W.nsIn K mainGlobals "_law_pulse" = some (some (.ref f19))) (l19 : K.lookup f19 = some ⟨oc19, od19, .func (PySem.W.fnOf "_law_pulse" "_law_pulse" (defArgs s_pulse_l) (defBody s_pulse_l) (defScope s_pulse_l) .none kV19 dc19 pm19 an19 cd19 ct19), sl19⟩) (c19 : PySem.W.codeIn K cd19 "_law_pulse" = true) (k19 : PySem.W.keepIn K (.ref f19) = true)
    (a20 : PySem.W.nsIn K mainGlobals "_law_refused" = some (some (.ref f20))) (l20 : K.lookup f20 = some ⟨oc20, od20, .func (PySem.W.fnOf "_law_refused" "_law_refused" (defArgs s_refused_l) (defBody s_refused_l) (defScope s_refused_l) .none kV20 dc20 pm20 an20 cd20 ct20), sl20⟩) (c20 : PySem.W.codeIn K cd20 "_law_refused" = true) (k20 : PySem.W.keepIn K (.ref f20) = true)
    (a21 : PySem.W.nsIn K mainGlobals "_law_by_base" = some (some (.ref f21))) (l21 : K.lookup f21 = some ⟨oc21, od21, .func (PySem.W.fnOf "_law_by_base" "_law_by_base" (defArgs s_by_base_l) (defBody s_by_base_l) (defScope s_by_base_l) .none kV21 dc21 pm21 an21 cd21 ct21), sl21⟩) (c21 : PySem.W.codeIn K cd21 "_law_by_base" = true) (k21 : PySem.W.keepIn K (.ref f21) = true)
    (a22 : PySem.W.nsIn K mainGlobals "_law_text" = some (some (.ref f22))) (l22 : K.lookup f22 = some ⟨oc22, od22, .func (PySem.W.fnOf "_law_text" "_law_text" (defArgs s_text_l) (defBody s_text_l) (defScope s_text_l) .none kV22 dc22 pm22 an22 cd22 ct22), sl22⟩) (c22 : PySem.W.codeIn K cd22 "_law_text" = true) (k22 : PySem.W.keepIn K (.ref f22) = true)
    (a23 : PySem.W.nsIn K mainGlobals "_law_due" = some (some (.ref f23))) (l23 : K.lookup f23 = some ⟨oc23, od23, .func (PySem.W.fnOf "_law_due" "_law_due" (defArgs s_due_l) (defBody s_due_l) (defScope s_due_l) .none kV23 dc23 pm23 an23 cd23 ct23), sl23⟩) (c23 : PySem.W.codeIn K cd23 "_law_due" = true) (k23 : PySem.W.keepIn K (.ref f23) = true)
    (a24 : PySem.W.nsIn K mainGlobals "_law_bad" = some (some (.ref f24))) (l24 : K.lookup f24 = some ⟨oc24, od24, .func (PySem.W.fnOf "_law_bad" "_law_bad" (defArgs s_bad_l) (defBody s_bad_l) (defScope s_bad_l) .none kV24 dc24 pm24 an24 cd24 ct24), sl24⟩) (c24 : PySem.W.codeIn K cd24 "_law_bad" = true) (k24 : PySem.W.keepIn K (.ref f24) = true)
    (a25 : PySem.W.nsIn K mainGlobals "law" = some (some (.ref f25))) (l25 : K.lookup f25 = some ⟨oc25, od25, .func (PySem.W.fnOf "law" "law" (defArgs s_law) (defBody s_law) (defScope s_law) .none kV25 dc25 pm25 an25 cd25 ct25), sl25⟩) (c25 : PySem.W.codeIn K cd25 "law" = true) (k25 : PySem.W.keepIn K (.ref f25) = true)
    (z0 : PySem.W.nsIn K mainGlobals "len" = some none)
    (z1 : PySem.W.nsIn K mainGlobals "list" = some none)
    (z2 : PySem.W.nsIn K mainGlobals "tuple" = some none)
    (z3 : PySem.W.nsIn K mainGlobals "range" = some none)
    (z4 : PySem.W.nsIn K mainGlobals "isinstance" = some none)
    (z5 : PySem.W.nsIn K mainGlobals "bool" = some none)
    (z6 : PySem.W.nsIn K mainGlobals "int" = some none)
    (z7 : PySem.W.nsIn K mainGlobals "all" = some none)
    (z8 : PySem.W.nsIn K mainGlobals "str" = some none)
    (z9 : PySem.W.nsIn K mainGlobals "ValueError" = some none)
    {t0 : Tok} (y0 : PySem.W.nsIn K mainGlobals "LONGEST_HEAD" = some (some (.int 400 t0)))
    {t1 : Tok} (y1 : PySem.W.nsIn K mainGlobals "LONGEST_BAR" = some (some (.int 200 t1)))
    {p2 : Addr} {v2 : Option Addr} {w2 : Array (Option Value)} {n2 : Nat} {h2_0 h2_1 : Int} {ka2_0 kb2_0 ka2_1 kb2_1 : Tok} (y2 : PySem.W.nsIn K mainGlobals "FIGURES" = some (some (.ref p2))) (x2 : K.lookup p2 = some ⟨.type "dict", v2, .dict #[⟨h2_0, .str "0" ka2_0, .int 0 kb2_0⟩, ⟨h2_1, .str "1" ka2_1, .int 1 kb2_1⟩] n2, w2⟩)
    (dn2 : v2 = none) (ds2 : w2 = #[]) (dm2 : (p2 == sysModules) = false) (dh2_0 : h2_0 = hashStr w "0") (dh2_1 : h2_1 = hashStr w "1")
    {c_BadForm : Addr} (m_BadForm : PySem.W.nsIn K mainGlobals "BadForm" = some (some (.ref c_BadForm)))
    {c_NotTight : Addr} (m_NotTight : PySem.W.nsIn K mainGlobals "NotTight" = some (some (.ref c_NotTight)))
    {c_BadText : Addr} (m_BadText : PySem.W.nsIn K mainGlobals "BadText" = some (some (.ref c_BadText)))
    {c_PulseError : Addr} (m_PulseError : PySem.W.nsIn K mainGlobals "PulseError" = some (some (.ref c_PulseError)))
    (q1_BadForm : PySem.W.excIn K c_BadForm [.type "ValueError", .type "Exception", .type "BaseException", .type "object"] "ValueError.__new__" = true)
    (q2_BadForm : PySem.W.findIn K (.ref c_BadForm) "__getattribute__" = some (some (.builtin "BaseException.__getattribute__")))
    (q8_BadForm : PySem.W.findIn K (.ref c_BadForm) "__getattr__" = some none)
    (q9_BadForm : PySem.W.mroIn K c_BadForm (.type "BaseException") = some true)
    (q3_BadForm : PySem.W.hasDictIn K c_BadForm = true)
    (q4_BadForm : PySem.W.findIn K (.ref c_BadForm) "__class__" = some (some (.builtin "object.__class__")))
    (q5_BadForm : PySem.W.specialIn K (.builtin "object.__class__") "__get__" = some (some (.builtin "getset_descriptor.__get__")))
    (q6_BadForm : PySem.W.takesIn K (.builtin "object.__class__") = some true)
    (q7_BadForm : PySem.W.mroIn K c_BadForm (.type "object") = some true)
    (q1_NotTight : PySem.W.excIn K c_NotTight [.type "ValueError", .type "Exception", .type "BaseException", .type "object"] "ValueError.__new__" = true)
    (q2_NotTight : PySem.W.findIn K (.ref c_NotTight) "__getattribute__" = some (some (.builtin "BaseException.__getattribute__")))
    (q8_NotTight : PySem.W.findIn K (.ref c_NotTight) "__getattr__" = some none)
    (q9_NotTight : PySem.W.mroIn K c_NotTight (.type "BaseException") = some true)
    (q3_NotTight : PySem.W.hasDictIn K c_NotTight = true)
    (q4_NotTight : PySem.W.findIn K (.ref c_NotTight) "__class__" = some (some (.builtin "object.__class__")))
    (q5_NotTight : PySem.W.specialIn K (.builtin "object.__class__") "__get__" = some (some (.builtin "getset_descriptor.__get__")))
    (q6_NotTight : PySem.W.takesIn K (.builtin "object.__class__") = some true)
    (q7_NotTight : PySem.W.mroIn K c_NotTight (.type "object") = some true)
    (q1_BadText : PySem.W.excIn K c_BadText [.type "ValueError", .type "Exception", .type "BaseException", .type "object"] "ValueError.__new__" = true)
    (q2_BadText : PySem.W.findIn K (.ref c_BadText) "__getattribute__" = some (some (.builtin "BaseException.__getattribute__")))
    (q8_BadText : PySem.W.findIn K (.ref c_BadText) "__getattr__" = some none)
    (q9_BadText : PySem.W.mroIn K c_BadText (.type "BaseException") = some true)
    (q3_BadText : PySem.W.hasDictIn K c_BadText = true)
    (q4_BadText : PySem.W.findIn K (.ref c_BadText) "__class__" = some (some (.builtin "object.__class__")))
    (q5_BadText : PySem.W.specialIn K (.builtin "object.__class__") "__get__" = some (some (.builtin "getset_descriptor.__get__")))
    (q6_BadText : PySem.W.takesIn K (.builtin "object.__class__") = some true)
    (q7_BadText : PySem.W.mroIn K c_BadText (.type "object") = some true)
    (e_BadForm_PulseError : PySem.W.exmOne K (.ref c_BadForm) (.ref c_PulseError) = some true)
    (e_BadForm_BadText : PySem.W.exmOne K (.ref c_BadForm) (.ref c_BadText) = some false)
    (i_BadForm_ValueError : PySem.W.kitOne K (.ref c_BadForm) (.type "ValueError") = some true)
    (e_NotTight_PulseError : PySem.W.exmOne K (.ref c_NotTight) (.ref c_PulseError) = some true)
    (e_NotTight_BadText : PySem.W.exmOne K (.ref c_NotTight) (.ref c_BadText) = some false)
    (i_NotTight_ValueError : PySem.W.kitOne K (.ref c_NotTight) (.type "ValueError") = some true)
    (e_BadText_PulseError : PySem.W.exmOne K (.ref c_BadText) (.ref c_PulseError) = some true)
    (e_BadText_BadText : PySem.W.exmOne K (.ref c_BadText) (.ref c_BadText) = some true)
    (i_BadText_ValueError : PySem.W.kitOne K (.ref c_BadText) (.type "ValueError") = some true)
    : ∃ fd : FuncData, (∀ (s : Shared) (v : Value), BindsTo s fd ⟨[v], []⟩ [("_law_script", v)]) ∧ ∀ base : Heap, K.In base → base.Ns mainGlobals mg → FnOk l.prog w K mg base CX0 10 fa fd ["_law_script"] (spLaw K) := by
  have e := hfa.symm.trans (PySem.W.mg_of X G a25)
  cases e
  have F0 : Txt1 K mg "is_whole" s_is_whole ["value"] := ⟨_, _, fun_mk (st := s_is_whole) l0 c0 k0, (fun_mk (st := s_is_whole) l0 c0 k0).binds (ps := ["value"]) (fun _ _ _ _ _ _ us hl => match us, hl with | [_], _ => rfl), PySem.W.mg_of X G a0⟩
  have F1 : Txt1 K mg "is_number" s_is_number ["value", "least", "greatest"] := ⟨_, _, fun_mk (st := s_is_number) l1 c1 k1, (fun_mk (st := s_is_number) l1 c1 k1).binds (ps := ["value", "least", "greatest"]) (fun _ _ _ _ _ _ us hl => match us, hl with | [_, _, _], _ => rfl), PySem.W.mg_of X G a1⟩
  have F2 : Txt1 K mg "are_numbers" s_are_numbers ["entries", "least", "greatest"] := ⟨_, _, fun_mk (st := s_are_numbers) l2 c2 k2, (fun_mk (st := s_are_numbers) l2 c2 k2).binds (ps := ["entries", "least", "greatest"]) (fun _ _ _ _ _ _ us hl => match us, hl with | [_, _, _], _ => rfl), PySem.W.mg_of X G a2⟩
  have F3 : Txt1 K mg "place_in_bar" s_place_in_bar ["day", "head", "bar"] := ⟨_, _, fun_mk (st := s_place_in_bar) l3 c3 k3, (fun_mk (st := s_place_in_bar) l3 c3 k3).binds (ps := ["day", "head", "bar"]) (fun _ _ _ _ _ _ us hl => match us, hl with | [_, _, _], _ => rfl), PySem.W.mg_of X G a3⟩
  have F4 : Txt1 K mg "shortest_bar" s_shortest_bar ["bar"] := ⟨_, _, fun_mk (st := s_shortest_bar) l4 c4 k4, (fun_mk (st := s_shortest_bar) l4 c4 k4).binds (ps := ["bar"]) (fun _ _ _ _ _ _ us hl => match us, hl with | [_], _ => rfl), PySem.W.mg_of X G a4⟩
  have F5 : Txt1 K mg "needed_of_head" s_needed_of_head ["head", "bar"] := ⟨_, _, fun_mk (st := s_needed_of_head) l5 c5 k5, (fun_mk (st := s_needed_of_head) l5 c5 k5).binds (ps := ["head", "bar"]) (fun _ _ _ _ _ _ us hl => match us, hl with | [_, _], _ => rfl), PySem.W.mg_of X G a5⟩
  have F6 : Txt1 K mg "tight" s_tight ["head", "bar"] := ⟨_, _, fun_mk (st := s_tight) l6 c6 k6, (fun_mk (st := s_tight) l6 c6 k6).binds (ps := ["head", "bar"]) (fun _ _ _ _ _ _ us hl => match us, hl with | [_, _], _ => rfl), PySem.W.mg_of X G a6⟩
  have F7 : Txt1 K mg "is_row" s_is_row ["value", "fewest", "most"] := ⟨_, _, fun_mk (st := s_is_row) l7 c7 k7, (fun_mk (st := s_is_row) l7 c7 k7).binds (ps := ["value", "fewest", "most"]) (fun _ _ _ _ _ _ us hl => match us, hl with | [_, _, _], _ => rfl), PySem.W.mg_of X G a7⟩
  have F8 : Txt1 K mg "is_form" s_is_form ["value"] := ⟨_, _, fun_mk (st := s_is_form) l8 c8 k8, (fun_mk (st := s_is_form) l8 c8 k8).binds (ps := ["value"]) (fun _ _ _ _ _ _ us hl => match us, hl with | [_], _ => rfl), PySem.W.mg_of X G a8⟩
  have F9 : Txt1 K mg "made" s_made ["form"] := ⟨_, _, fun_mk (st := s_made) l9 c9 k9, (fun_mk (st := s_made) l9 c9 k9).binds (ps := ["form"]) (fun _ _ _ _ _ _ us hl => match us, hl with | [_], _ => rfl), PySem.W.mg_of X G a9⟩
  have F10 : Txt1 K mg "checked" s_checked ["pulse"] := ⟨_, _, fun_mk (st := s_checked) l10 c10 k10, (fun_mk (st := s_checked) l10 c10 k10).binds (ps := ["pulse"]) (fun _ _ _ _ _ _ us hl => match us, hl with | [_], _ => rfl), PySem.W.mg_of X G a10⟩
  have F11 : Txt1 K mg "figures_of" s_figures_of ["part"] := ⟨_, _, fun_mk (st := s_figures_of) l11 c11 k11, (fun_mk (st := s_figures_of) l11 c11 k11).binds (ps := ["part"]) (fun _ _ _ _ _ _ us hl => match us, hl with | [_], _ => rfl), PySem.W.mg_of X G a11⟩
  have F12 : Txt1 K mg "read" s_read ["text"] := ⟨_, _, fun_mk (st := s_read) l12 c12 k12, (fun_mk (st := s_read) l12 c12 k12).binds (ps := ["text"]) (fun _ _ _ _ _ _ us hl => match us, hl with | [_], _ => rfl), PySem.W.mg_of X G a12⟩
  have F13 : Txt1 K mg "_law_cell" s_cell_l ["_law_script", "_law_k"] := ⟨_, _, fun_mk (st := s_cell_l) l13 c13 k13, (fun_mk (st := s_cell_l) l13 c13 k13).binds (ps := ["_law_script", "_law_k"]) (fun _ _ _ _ _ _ us hl => match us, hl with | [_, _], _ => rfl), PySem.W.mg_of X G a13⟩
  have F14 : Txt1 K mg "_law_mix" s_mix_l ["_law_cell_here", "_law_prime", "_law_many"] := ⟨_, _, fun_mk (st := s_mix_l) l14 c14 k14, (fun_mk (st := s_mix_l) l14 c14 k14).binds (ps := ["_law_cell_here", "_law_prime", "_law_many"]) (fun _ _ _ _ _ _ us hl => match us, hl with | [_, _, _], _ => rfl), PySem.W.mg_of X G a14⟩
  have F15 : Txt1 K mg "_law_large" s_large_l ["_law_script"] := ⟨_, _, fun_mk (st := s_large_l) l15 c15 k15, (fun_mk (st := s_large_l) l15 c15 k15).binds (ps := ["_law_script"]) (fun _ _ _ _ _ _ us hl => match us, hl with | [_], _ => rfl), PySem.W.mg_of X G a15⟩
  have F16 : Txt1 K mg "_law_tight" s_tight_l ["_law_head", "_law_bar"] := ⟨_, _, fun_mk (st := s_tight_l) l16 c16 k16, (fun_mk (st := s_tight_l) l16 c16 k16).binds (ps := ["_law_head", "_law_bar"]) (fun _ _ _ _ _ _ us hl => match us, hl with | [_, _], _ => rfl), PySem.W.mg_of X G a16⟩
  have F17 : Txt1 K mg "_law_bits" s_bits_l ["_law_script", "_law_at", "_law_size"] := ⟨_, _, fun_mk (st := s_bits_l) l17 c17 k17, (fun_mk (st := s_bits_l) l17 c17 k17).binds (ps := ["_law_script", "_law_at", "_law_size"]) (fun _ _ _ _ _ _ us hl => match us, hl with | [_, _, _], _ => rfl), PySem.W.mg_of X G a17⟩
  have F18 : Txt1 K mg "_law_form" s_form_l ["_law_script", "_law_at"] := ⟨_, _, fun_mk (st := s_form_l) l18 c18 k18, (fun_mk (st := s_form_l) l18 c18 k18).binds (ps := ["_law_script", "_law_at"]) (fun _ _ _ _ _ _ us hl => match us, hl with | [_, _], _ => rfl), PySem.W.mg_of X G a18⟩
  have F19 : Txt1 K mg "_law_pulse" s_pulse_l ["_law_script", "_law_at"] := ⟨_, _, fun_mk (st := s_pulse_l) l19 c19 k19, (fun_mk (st := s_pulse_l) l19 c19 k19).binds (ps := ["_law_script", "_law_at"]) (fun _ _ _ _ _ _ us hl => match us, hl with | [_, _], _ => rfl), PySem.W.mg_of X G a19⟩
  have F20 : Txt1 K mg "_law_refused" s_refused_l ["_law_text_here"] := ⟨_, _, fun_mk (st := s_refused_l) l20 c20 k20, (fun_mk (st := s_refused_l) l20 c20 k20).binds (ps := ["_law_text_here"]) (fun _ _ _ _ _ _ us hl => match us, hl with | [_], _ => rfl), PySem.W.mg_of X G a20⟩
  have F21 : Txt1 K mg "_law_by_base" s_by_base_l ["_law_text_here"] := ⟨_, _, fun_mk (st := s_by_base_l) l21 c21 k21, (fun_mk (st := s_by_base_l) l21 c21 k21).binds (ps := ["_law_text_here"]) (fun _ _ _ _ _ _ us hl => match us, hl with | [_], _ => rfl), PySem.W.mg_of X G a21⟩
  have F22 : Txt1 K mg "_law_text" s_text_l ["_law_form_here"] := ⟨_, _, fun_mk (st := s_text_l) l22 c22 k22, (fun_mk (st := s_text_l) l22 c22 k22).binds (ps := ["_law_form_here"]) (fun _ _ _ _ _ _ us hl => match us, hl with | [_], _ => rfl), PySem.W.mg_of X G a22⟩
  have F23 : Txt1 K mg "_law_due" s_due_l ["_law_text_here"] := ⟨_, _, fun_mk (st := s_due_l) l23 c23 k23, (fun_mk (st := s_due_l) l23 c23 k23).binds (ps := ["_law_text_here"]) (fun _ _ _ _ _ _ us hl => match us, hl with | [_], _ => rfl), PySem.W.mg_of X G a23⟩
  have F24 : Txt1 K mg "_law_bad" s_bad_l ["_law_script", "_law_text_here"] := ⟨_, _, fun_mk (st := s_bad_l) l24 c24 k24, (fun_mk (st := s_bad_l) l24 c24 k24).binds (ps := ["_law_script", "_law_text_here"]) (fun _ _ _ _ _ _ us hl => match us, hl with | [_, _], _ => rfl), PySem.W.mg_of X G a24⟩
  have F25 : Txt1 K mg "law" s_law ["_law_script"] := ⟨_, _, fun_mk (st := s_law) l25 c25 k25, (fun_mk (st := s_law) l25 c25 k25).binds (ps := ["_law_script"]) (fun _ _ _ _ _ _ us hl => match us, hl with | [_], _ => rfl), PySem.W.mg_of X G a25⟩
  have T : Txt l.prog w K mg c_BadForm c_NotTight c_BadText c_PulseError := ⟨trivial, PySem.W.mg_none_of X G z0, PySem.W.mg_none_of X G z1, PySem.W.mg_none_of X G z2, PySem.W.mg_none_of X G z3, PySem.W.mg_none_of X G z4, PySem.W.mg_none_of X G z5, PySem.W.mg_none_of X G z6, PySem.W.mg_none_of X G z7, PySem.W.mg_none_of X G z8, PySem.W.mg_none_of X G z9, ⟨_, PySem.W.mg_of X G y0⟩, ⟨_, PySem.W.mg_of X G y1⟩, ⟨_, PySem.W.mg_of X G y2, kd_of x2 dn2 ds2 dm2 dh2_0 dh2_1 (by decide)⟩, PySem.W.mg_of X G m_BadForm, PySem.W.mg_of X G m_NotTight, PySem.W.mg_of X G m_BadText, PySem.W.mg_of X G m_PulseError, ⟨q1_BadForm, q2_BadForm, q8_BadForm, q9_BadForm, q3_BadForm, q4_BadForm, q5_BadForm, q6_BadForm, q7_BadForm⟩, ⟨q1_NotTight, q2_NotTight, q8_NotTight, q9_NotTight, q3_NotTight, q4_NotTight, q5_NotTight, q6_NotTight, q7_NotTight⟩, ⟨q1_BadText, q2_BadText, q8_BadText, q9_BadText, q3_BadText, q4_BadText, q5_BadText, q6_BadText, q7_BadText⟩, e_BadForm_PulseError, e_BadForm_BadText, i_BadForm_ValueError, e_NotTight_PulseError, e_NotTight_BadText, i_NotTight_ValueError, e_BadText_PulseError, e_BadText_BadText, i_BadText_ValueError⟩
  refine ⟨PySem.W.fnOf "law" "law" (defArgs s_law) (defBody s_law) (defScope s_law) .none kV25 dc25 pm25 an25 cd25 ct25, fun s v => .of_eq rfl, fun base _ _ => ?_⟩
  have D0 : DefOk l.prog w K mg base 1 "is_whole" ["value"] (spIsWhole) := ok_is_whole (k := 0) T F0
  have D1 : DefOk l.prog w K mg base 2 "is_number" ["value", "least", "greatest"] (spIsNumber) := ok_is_number (k := 1) T (D0.mono (by decide)) F1
  have D2 : DefOk l.prog w K mg base 3 "are_numbers" ["entries", "least", "greatest"] (spAreT K) := ok_are_numbers (k := 2) T (D1.mono (by decide)) F2
  have D3 : DefOk l.prog w K mg base 1 "place_in_bar" ["day", "head", "bar"] (spPlace K) := ok_place_in_bar (k := 0) T F3
  have D4 : DefOk l.prog w K mg base 1 "shortest_bar" ["bar"] (spShort K) := ok_shortest_bar (k := 0) T F4
  have D5 : DefOk l.prog w K mg base 2 "needed_of_head" ["head", "bar"] (spNeeded K) := ok_needed_of_head (k := 1) T (D3.mono (by decide)) F5
  have D6 : DefOk l.prog w K mg base 3 "tight" ["head", "bar"] (spTight K) := ok_tight (k := 2) T (D4.mono (by decide)) (D5.mono (by decide)) (D3.mono (by decide)) F6
  have D7 : DefOk l.prog w K mg base 4 "is_row" ["value", "fewest", "most"] (spIsRow K) := ok_is_row (k := 3) T (D2.mono (by decide)) F7
  have D8 : DefOk l.prog w K mg base 5 "is_form" ["value"] (spIsForm K) := ok_is_form (k := 4) T (D7.mono (by decide)) F8
  have D9 : DefOkX0 l.prog w K mg base 6 "made" ["form"] (spMadeX K c_BadForm) := ok_made (k := 5) T (D6.mono (by decide)) (D8.mono (by decide)) F9
  have D10 : DefOkX0 l.prog w K mg base 7 "checked" ["pulse"] (spCheckedX K c_BadForm c_NotTight) := ok_checked (k := 6) T (D9.mono (by decide)) F10
  have D11 : DefOk l.prog w K mg base 1 "figures_of" ["part"] (spFigsOf K) := ok_figures_of (k := 0) T F11
  have D12 : DefOkX l.prog w K mg base 8 "read" ["text"] (spReadX K c_BadText) := ok_read (k := 7) T (D11.mono (by decide)) (D10.mono (by decide)) F12
  have D13 : DefOk l.prog w K mg base 1 "_law_cell" ["_law_script", "_law_k"] (spCell K) := ok_cell_l (k := 0) T F13
  have D14 : DefOk l.prog w K mg base 1 "_law_mix" ["_law_cell_here", "_law_prime", "_law_many"] (spMix) := ok_mix_l (k := 0) T F14
  have D15 : DefOk l.prog w K mg base 2 "_law_large" ["_law_script"] (spLarge K) := ok_large_l (k := 1) T (D14.mono (by decide)) (D13.mono (by decide)) F15
  have D16 : DefOk l.prog w K mg base 1 "_law_tight" ["_law_head", "_law_bar"] (spTightL K) := ok_tight_l (k := 0) T F16
  have D17 : DefOk l.prog w K mg base 2 "_law_bits" ["_law_script", "_law_at", "_law_size"] (spBits K) := ok_bits_l (k := 1) T (D14.mono (by decide)) (D13.mono (by decide)) F17
  have D18 : DefOk l.prog w K mg base 3 "_law_form" ["_law_script", "_law_at"] (spForm K) := ok_form_l (k := 2) T (D15.mono (by decide)) (D13.mono (by decide)) (D17.mono (by decide)) (D14.mono (by decide)) F18
  have D19 : DefOk l.prog w K mg base 4 "_law_pulse" ["_law_script", "_law_at"] (spPulse K) := ok_pulse_l (k := 3) T (D18.mono (by decide)) (D16.mono (by decide)) F19
  have D20 : DefOk l.prog w K mg base 9 "_law_refused" ["_law_text_here"] (spRef21 K) := ok_refused_l (k := 8) T (D12.mono (by decide)) F20
  have D21 : DefOk l.prog w K mg base 9 "_law_by_base" ["_law_text_here"] (spRef21 K) := ok_by_base_l (k := 8) T (D12.mono (by decide)) F21
  have D22 : DefOk l.prog w K mg base 1 "_law_text" ["_law_form_here"] (spTextL K) := ok_text_l (k := 0) T F22
  have D23 : DefOk l.prog w K mg base 2 "_law_due" ["_law_text_here"] (spDueL K) := ok_due_l (k := 1) T (D16.mono (by decide)) F23
  have D24 : DefOk l.prog w K mg base 4 "_law_bad" ["_law_script", "_law_text_here"] (spBadL K) := ok_bad_l (k := 3) T (D13.mono (by decide)) (D22.mono (by decide)) (D18.mono (by decide)) F24
  exact ok_law (P := l.prog) (w := w) (base := base) (k := 9) T (D24.mono (by decide)) (D22.mono (by decide)) (D23.mono (by decide)) (D12.mono (by decide)) (D19.mono (by decide)) (D20.mono (by decide)) (D21.mono (by decide)) (fun_mk (st := s_law) l25 c25 k25)
theorem walk {l : PySem.W.OpenLaw} {q : Program} {loose : List Str} {XP : (Str → Option Value) → Heap → Prop} {YP : World → Heap → Prop} {d : DefRec} {K : Params → PySem.W.Frag} (hn : l.most = some 63) (hdf : d.params.defaults = [])
    (hY : ∀ (w : World) (h : Heap), YP w h → (K w.params).In h)
    (F : ∀ (w : World) (mg : Str → Option Value) (fa : Addr) (h : Heap), (K w.params).In h → h.Ns mainGlobals mg → mg d.name = some (.ref fa) →
      ∃ fd : FuncData, (∀ (s : Shared) (u : Value), BindsTo s fd ⟨[u], []⟩ [("_law_script", u)]) ∧ ∀ base : Heap, (K w.params).In base → base.Ns mainGlobals mg → FnOk l.prog w (K w.params) mg base CX0 10 fa fd ["_law_script"] (spLaw (K w.params))) :
    PySem.W.WalkO q loose XP YP l.row.toRowW d [] (fun f vs => PySem.call f vs) :=
  L2.walk_of (n := 63) (k := 10) (x := "_law_script") (CX := fun _ => CX0) (sp := fun w => spLaw (K w.params)) hn (by decide) hdf ⟨rfl, by decide, by decide⟩ hY F (fun _ _ a ns hl _ hS => ⟨a, ns, rfl, hS, hl, fun _ => rfl⟩) fun _ _ _ _ _ z => z
end Lk21
open PySem PySem.W PyProof.Rows
set_option maxRecDepth 100000 in
set_option maxHeartbeats 0 in
theorem PySem.Challenge.cw_pulsebook_k21_spoilt_texts_holds : PySem.Challenge.rw_pulsebook_k21_spoilt_texts.Holds := by
  w_on; o_law; k_head; (case hw => w_witness2)
  k_fill
  refine Lk21.walk (l := PySem.Challenge.rw_pulsebook_k21_spoilt_texts) rfl rfl (fun w h Y => PySem.W.kIn_of Y) ?F
  case F =>
    intro w mg fa h KX G hmg
    refine' Lk21.all_mk KX G hmg ?a0 ?l0 ?c0 ?k0 ?a1 ?l1 ?c1 ?k1 ?a2 ?l2 ?c2 ?k2 ?a3 ?l3 ?c3 ?k3 ?a4 ?l4 ?c4 ?k4 ?a5 ?l5 ?c5 ?k5 ?a6 ?l6 ?c6 ?k6 ?a7 ?l7 ?c7 ?k7 ?a8 ?l8 ?c8 ?k8 ?a9 ?l9 ?c9 ?k9 ?a10 ?l10 ?c10 ?k10 ?a11 ?l11 ?c11 ?k11 ?a12 ?l12 ?c12 ?k12 ?a13 ?l13 ?c13 ?k13 ?a14 ?l14 ?c14 ?k14 ?a15 ?l15 ?c15 ?k15 ?a16 ?l16 ?c16 ?k16 ?a17 ?l17 ?c17 ?k17 ?a18 ?l18 ?c18 ?k18 ?a19 ?l19 ?c19 ?k19 ?a20 ?l20 ?c20 ?k20 ?a21 ?l21 ?c21 ?k21 ?a22 ?l22 ?c22 ?k22 ?a23 ?l23 ?c23 ?k23 ?a24 ?l24 ?c24 ?k24 ?a25 ?l25 ?c25 ?k25 ?z0 ?z1 ?z2 ?z3 ?z4 ?z5 ?z6 ?z7 ?z8 ?z9 ?y0 ?y1 ?y2 ?x2 ?dn2 ?ds2 ?dm2 ?dh2_0 ?dh2_1 ?m_BadForm ?m_NotTight ?m_BadText ?m_PulseError ?q1_BadForm ?q2_BadForm ?q8_BadForm ?q9_BadForm ?q3_BadForm ?q4_BadForm ?q5_BadForm ?q6_BadForm ?q7_BadForm ?q1_NotTight ?q2_NotTight ?q8_NotTight ?q9_NotTight ?q3_NotTight ?q4_NotTight ?q5_NotTight ?q6_NotTight ?q7_NotTight ?q1_BadText ?q2_BadText ?q8_BadText ?q9_BadText ?q3_BadText ?q4_BadText ?q5_BadText ?q6_BadText ?q7_BadText ?e_BadForm_PulseError ?e_BadForm_BadText ?i_BadForm_ValueError ?e_NotTight_PulseError ?e_NotTight_BadText ?i_NotTight_ValueError ?e_BadText_PulseError ?e_BadText_BadText ?i_BadText_ValueError
    (case a0 => k_is)
    (case l0 => k_is)
    (case c0 => k_is)
    (case k0 => k_is)
    (case a1 => k_is)
    (case l1 => k_is)
    (case c1 => k_is)
    (case k1 => k_is)
    (case a2 => k_is)
    (case l2 => k_is)
    (case c2 => k_is)
    (case k2 => k_is)
    (case a3 => k_is)
    (case l3 => k_is)
    (case c3 => k_is)
    (case k3 => k_is)
    (case a4 => k_is)
    (case l4 => k_is)
    (case c4 => k_is)
    (case k4 => k_is)
    (case a5 => k_is)
    (case l5 => k_is)
    (case c5 => k_is)
    (case k5 => k_is)
    (case a6 => k_is)
    (case l6 => k_is)
    (case c6 => k_is)
    (case k6 => k_is)
    (case a7 => k_is)
    (case l7 => k_is)
    (case c7 => k_is)
    (case k7 => k_is)
    (case a8 => k_is)
    (case l8 => k_is)
    (case c8 => k_is)
    (case k8 => k_is)
    (case a9 => k_is)
    (case l9 => k_is)
    (case c9 => k_is)
    (case k9 => k_is)
    (case a10 => k_is)
    (case l10 => k_is)
    (case c10 => k_is)
    (case k10 => k_is)
    (case a11 => k_is)
    (case l11 => k_is)
    (case c11 => k_is)
    (case k11 => k_is)
    (case a12 => k_is)
    (case l12 => k_is)
    (case c12 => k_is)
    (case k12 => k_is)
    (case a13 => k_is)
    (case l13 => k_is)
    (case c13 => k_is)
    (case k13 => k_is)
    (case a14 => k_is)
    (case l14 => k_is)
    (case c14 => k_is)
    (case k14 => k_is)
    (case a15 => k_is)
    (case l15 => k_is)
    (case c15 => k_is)
    (case k15 => k_is)
    (case a16 => k_is)
    (case l16 => k_is)
    (case c16 => k_is)
    (case k16 => k_is)
    (case a17 => k_is)
    (case l17 => k_is)
    (case c17 => k_is)
    (case k17 => k_is)
    (case a18 => k_is)
    (case l18 => k_is)
    (case c18 => k_is)
    (case k18 => k_is)
    (case a19 => k_is)
    (case l19 => k_is)
    (case c19 => k_is)
    (case k19 => k_is)
    (case a20 => k_is)
    (case l20 => k_is)
    (case c20 => k_is)
    (case k20 => k_is)
    (case a21 => k_is)
    (case l21 => k_is)
    (case c21 => k_is)
    (case k21 => k_is)
    (case a22 => k_is)
    (case l22 => k_is)
    (case c22 => k_is)
    (case k22 => k_is)
    (case a23 => k_is)
    (case l23 => k_is)
    (case c23 => k_is)
    (case k23 => k_is)
    (case a24 => k_is)
    (case l24 => k_is)
    (case c24 => k_is)
    (case k24 => k_is)
    (case a25 => k_is)
    (case l25 => k_is)
    (case c25 => k_is)
    (case k25 => k_is)
    (case z0 => k_is)
    (case z1 => k_is)
    (case z2 => k_is)
    (case z3 => k_is)
    (case z4 => k_is)
    (case z5 => k_is)
    (case z6 => k_is)
    (case z7 => k_is)
    (case z8 => k_is)
    (case z9 => k_is)
    (case y0 => k_is)
    (case y1 => k_is)
    (case y2 => k_is)
    (case x2 => k_is)
    (case dn2 => rfl)
    (case ds2 => rfl)
    (case dm2 => rfl)
    (case dh2_0 => rfl)
    (case dh2_1 => rfl)
    (case m_BadForm => k_is)
    (case m_NotTight => k_is)
    (case m_BadText => k_is)
    (case m_PulseError => k_is)
    (case q1_BadForm => k_exc)
    (case q2_BadForm => k_is)
    (case q8_BadForm => k_is)
    (case q9_BadForm => k_is)
    (case q3_BadForm => k_is)
    (case q4_BadForm => k_is)
    (case q5_BadForm => k_is)
    (case q6_BadForm => k_is)
    (case q7_BadForm => k_is)
    (case q1_NotTight => k_exc)
    (case q2_NotTight => k_is)
    (case q8_NotTight => k_is)
    (case q9_NotTight => k_is)
    (case q3_NotTight => k_is)
    (case q4_NotTight => k_is)
    (case q5_NotTight => k_is)
    (case q6_NotTight => k_is)
    (case q7_NotTight => k_is)
    (case q1_BadText => k_exc)
    (case q2_BadText => k_is)
    (case q8_BadText => k_is)
    (case q9_BadText => k_is)
    (case q3_BadText => k_is)
    (case q4_BadText => k_is)
    (case q5_BadText => k_is)
    (case q6_BadText => k_is)
    (case q7_BadText => k_is)
    (case e_BadForm_PulseError => kts_exm)
    (case e_BadForm_BadText => kts_exm)
    (case i_BadForm_ValueError => kit_is)
    (case e_NotTight_PulseError => kts_exm)
    (case e_NotTight_BadText => kts_exm)
    (case i_NotTight_ValueError => kit_is)
    (case e_BadText_PulseError => kts_exm)
    (case e_BadText_BadText => kts_exm)
    (case i_BadText_ValueError => kit_is)