import PyProof.Rows.All
import HandS.ForExc
import HandS.ForMost
import HandS.Style
import HandS.CallSlots
import HandS.TryOnly
import HandS.SortInts
import HandS.Wide
import HandS.TupMul
import HandS.Conv
import HandS.SortKw
import HandS.IsInst
import HandS.ExcIs
import HandS.More
import KE.KIndexOf
import HandS.Star
import HandS.Zip
import HandS.HeadHook4
import HandS.HeadEnd
import HandS.Head2
import HandS.SetFor
import Wide.All
import OpenK.AllK
import Wide.FinOn
import KE.KStateDown
import Lean
import PySem.Challenge.RW_unpartedrows_k14_sets_around_a_ring
set_option Elab.async false
set_option linter.all false
set_option maxRecDepth 100000
namespace Pv
open PySem PySem.Spec L2

/-! ### pure values -/
inductive PV where
  | non | bl (b : Bool) | int (i : Int) | str (x : Str) | tup (xs : List PV) | lst (xs : List PV) | opq (v : V) | scr (ns : List Int) | itm (xs : List PV)

abbrev Fr := PySem.W.Frag
abbrev FS := Addr → Prop

/-- a list that is read as shared: known to stand still, or written -/
def RdL (K : Fr) (F : FS) (H : Hp) (a : Addr) (xs : List V) : Prop :=
  (F a ∧ Rd H a (.lst xs)) ∨ ∃ (o : Obj) (its : Array Value) (n : Nat), K.lookup a = some o ∧ o.cls = .type "list" ∧ o.dict = none ∧ o.data = .seq its n ∧ its.size ≤ sizeLine ∧ Vals xs its.toList

/-- a tuple that is read: its object is known (no dict of its own) -/
def TpX (K : Fr) (H : Hp) (a : Addr) (xs : List V) : Prop :=
  (∃ o : Obj, H a = some (.frz o (.tup xs)) ∧ o.cls = .type "tuple" ∧ o.dict = none) ∨ ∃ (o : Obj) (its : Array Value) (n : Nat), K.lookup a = some o ∧ o.cls = .type "tuple" ∧ o.dict = none ∧ o.data = .seq its n ∧ its.size ≤ sizeLine ∧ Vals xs its.toList
theorem TpX.sqT {K : Fr} {H : Hp} {a : Addr} {xs : List V} (h : TpX K H a xs) : SqT K H a xs := by
  rcases h with ⟨o, h, _⟩ | ⟨o, its, n, h1, h2, _, h3⟩
  · exact .inl (.inr ⟨o, h⟩)
  · exact .inr ⟨o, its, n, h1, h2, h3⟩
mutual
def Rep (K : Fr) (F : FS) (H : Hp) : V → PV → Prop
  | v, .non => v = .non
  | v, .bl b => v = .bl b
  | v, .int i => v = .int i
  | v, .str x => v = .str x
  | v, .tup ps => ∃ a xs, v = .ref a ∧ TpX K H a xs ∧ RepL K F H xs ps
  | v, .itm ps => ∃ a xs, v = .ref a ∧ SqT K H a xs ∧ RepL K F H xs ps
  | v, .lst ps => ∃ a xs, v = .ref a ∧ (F a ∧ H a = some (.lst xs)) ∧ RepL K F H xs ps
  | v, .opq u => v = u
  | v, .scr ns => ∃ a, v = .ref a ∧ RdL K F H a (ns.map V.int)
def RepL (K : Fr) (F : FS) (H : Hp) : List V → List PV → Prop
  | vs, [] => vs = []
  | vs, p :: ps => ∃ x r, vs = x :: r ∧ Rep K F H x p ∧ RepL K F H r ps
end

section
variable {K : Fr} {F F' : FS} {H H' : Hp}
theorem RdL.seq {a : Addr} {xs : List V} (h : RdL K F H a xs) : SqL K H a xs := by
  rcases h with ⟨_, h⟩ | h
  · exact .inl h
  · exact .inr h
theorem Rd.same {a : Addr} {o : HO} (s : Same H H') (h : Rd H a o) : Rd H' a o := by
  rcases h with h | ⟨u, h⟩
  · exact .inl (s _ _ h)
  · exact .inr ⟨u, s _ _ h⟩
theorem SqT.same {a : Addr} {xs : List V} (s : Same H H') (h : SqT K H a xs) : SqT K H' a xs := by
  rcases h with h | h
  · exact .inl (Rd.same s h)
  · exact .inr h
/-- what keeps a reading -/
structure Keep (F : FS) (H H' : Hp) : Prop where
  tup : ∀ a xs, H a = some (.tup xs) → H' a = some (.tup xs)
  frz : ∀ a o u, H a = some (.frz o u) → H' a = some (.frz o u)
  lst : ∀ a o, F a → H a = some o → H' a = some o
theorem Keep.of (s : Same H H') : Keep F H H' := ⟨fun _ _ h => s _ _ h, fun _ _ _ h => s _ _ h, fun _ _ _ h => s _ _ h⟩
theorem Keep.refl : Keep F H H := ⟨fun _ _ h => h, fun _ _ _ h => h, fun _ _ _ h => h⟩
theorem Keep.sqT {a : Addr} {xs : List V} (k : Keep F H H') (h : SqT K H a xs) : SqT K H' a xs := by
  rcases h with (h | ⟨o, h⟩) | h
  · exact .inl (.inl (k.tup _ _ h))
  · exact .inl (.inr ⟨o, k.frz _ _ _ h⟩)
  · exact .inr h
theorem Keep.tpX {a : Addr} {xs : List V} (k : Keep F H H') (h : TpX K H a xs) : TpX K H' a xs := by
  rcases h with ⟨o, h, z⟩ | h
  · exact .inl ⟨o, k.frz _ _ _ h, z⟩
  · exact .inr h
theorem Keep.rdL {a : Addr} {xs : List V} (k : Keep F H H') (s : ∀ a, F a → F' a) (h : RdL K F H a xs) : RdL K F' H' a xs := by
  rcases h with ⟨f, h | ⟨o, h⟩⟩ | h
  · exact .inl ⟨s _ f, .inl (k.lst _ _ f h)⟩
  · exact .inl ⟨s _ f, .inr ⟨o, k.lst _ _ f h⟩⟩
  · exact .inr h
mutual
theorem Rep.mono (k : Keep F H H') (s : ∀ a, F a → F' a) : ∀ {v : V} (p : PV), Rep K F H v p → Rep K F' H' v p
  | _, .non, h => h
  | _, .bl _, h => h
  | _, .int _, h => h
  | _, .str _, h => h
  | _, .opq _, h => h
  | _, .tup ps, h => by
    unfold Rep at h ⊢
    obtain ⟨a, xs, e, q, r⟩ := h
    exact ⟨a, xs, e, k.tpX q, RepL.mono k s ps r⟩
  | _, .itm ps, h => by
    unfold Rep at h ⊢
    obtain ⟨a, xs, e, q, r⟩ := h
    exact ⟨a, xs, e, k.sqT q, RepL.mono k s ps r⟩
  | _, .lst ps, h => by
    unfold Rep at h ⊢
    obtain ⟨a, xs, e, q, r⟩ := h
    exact ⟨a, xs, e, ⟨s _ q.1, k.lst _ _ q.1 q.2⟩, RepL.mono k s ps r⟩
  | _, .scr ns, h => by
    unfold Rep at h ⊢
    obtain ⟨a, e, q⟩ := h
    exact ⟨a, e, k.rdL s q⟩
theorem RepL.mono (k : Keep F H H') (s : ∀ a, F a → F' a) : ∀ {vs : List V} (ps : List PV), RepL K F H vs ps → RepL K F' H' vs ps
  | _, [], h => h
  | _, p :: ps, h => by
    unfold RepL at h ⊢
    obtain ⟨x, r, e, h1, h2⟩ := h
    exact ⟨x, r, e, Rep.mono k s p h1, RepL.mono k s ps h2⟩
end
theorem RepL.length : ∀ {vs : List V} {ps : List PV}, RepL K F H vs ps → vs.length = ps.length
  | vs, [], h => by unfold RepL at h; rw [h]; rfl
  | vs, p :: ps, h => by
    unfold RepL at h
    obtain ⟨x, r, e, _, h2⟩ := h
    rw [e, List.length_cons, List.length_cons, RepL.length h2]
theorem RepL.nil : RepL K F H [] [] := by unfold RepL; rfl
theorem RepL.cons {v : V} {vs : List V} {p : PV} {ps : List PV} (h : Rep K F H v p) (r : RepL K F H vs ps) : RepL K F H (v :: vs) (p :: ps) := by
  unfold RepL; exact ⟨v, vs, rfl, h, r⟩
theorem RepL.cons_inv {v : V} {vs : List V} {p : PV} {ps : List PV} (h : RepL K F H (v :: vs) (p :: ps)) : Rep K F H v p ∧ RepL K F H vs ps := by
  unfold RepL at h
  obtain ⟨x, r, e, h1, h2⟩ := h
  cases e
  exact ⟨h1, h2⟩
theorem RepL.nil_inv {vs : List V} (h : RepL K F H vs []) : vs = [] := by unfold RepL at h; exact h
theorem RepL.get : ∀ {vs : List V} {ps : List PV} {i : Nat} {p : PV}, RepL K F H vs ps → ps[i]? = some p → ∃ v, vs[i]? = some v ∧ Rep K F H v p
  | _, [], i, p, _, e => by simp at e
  | vs, q :: ps, 0, p, h, e => by
    unfold RepL at h
    obtain ⟨x, r, rfl, h1, h2⟩ := h
    simp at e; subst e
    exact ⟨x, rfl, h1⟩
  | vs, q :: ps, i + 1, p, h, e => by
    unfold RepL at h
    obtain ⟨x, r, rfl, h1, h2⟩ := h
    obtain ⟨v, e1, e2⟩ := RepL.get (i := i) h2 (by simpa using e)
    exact ⟨v, by simpa using e1, e2⟩
theorem RepL.append : ∀ {vs ws : List V} {ps qs : List PV}, RepL K F H vs ps → RepL K F H ws qs → RepL K F H (vs ++ ws) (ps ++ qs)
  | vs, ws, [], qs, h, h' => by rw [RepL.nil_inv h]; exact h'
  | vs, ws, p :: ps, qs, h, h' => by
    unfold RepL at h
    obtain ⟨x, r, rfl, h1, h2⟩ := h
    exact RepL.cons h1 (RepL.append h2 h')
theorem RepL.take : ∀ {vs : List V} {ps : List PV} (n : Nat), RepL K F H vs ps → RepL K F H (vs.take n) (ps.take n)
  | vs, ps, 0, h => by simp; exact RepL.nil
  | vs, [], n + 1, h => by rw [RepL.nil_inv h]; simp; exact RepL.nil
  | vs, p :: ps, n + 1, h => by
    unfold RepL at h
    obtain ⟨x, r, rfl, h1, h2⟩ := h
    simp only [List.take_succ_cons]
    exact RepL.cons h1 (RepL.take n h2)
theorem RepL.drop : ∀ {vs : List V} {ps : List PV} (n : Nat), RepL K F H vs ps → RepL K F H (vs.drop n) (ps.drop n)
  | vs, ps, 0, h => by simpa using h
  | vs, [], n + 1, h => by rw [RepL.nil_inv h]; simp; exact RepL.nil
  | vs, p :: ps, n + 1, h => by
    unfold RepL at h
    obtain ⟨x, r, rfl, h1, h2⟩ := h
    simp only [List.drop_succ_cons]
    exact RepL.drop n h2
theorem RepL.reverse : ∀ {vs : List V} {ps : List PV}, RepL K F H vs ps → RepL K F H vs.reverse ps.reverse
  | vs, [], h => by rw [RepL.nil_inv h]; exact RepL.nil
  | vs, p :: ps, h => by
    unfold RepL at h
    obtain ⟨x, r, rfl, h1, h2⟩ := h
    rw [List.reverse_cons, List.reverse_cons]
    exact RepL.append (RepL.reverse h2) (RepL.cons h1 RepL.nil)
theorem RepL.eraseIdx : ∀ {vs : List V} {ps : List PV} (n : Nat), RepL K F H vs ps → RepL K F H (vs.eraseIdx n) (ps.eraseIdx n)
  | vs, [], n, h => by rw [RepL.nil_inv h]; simp; exact RepL.nil
  | vs, p :: ps, 0, h => by
    unfold RepL at h
    obtain ⟨x, r, rfl, h1, h2⟩ := h
    exact h2
  | vs, p :: ps, n + 1, h => by
    unfold RepL at h
    obtain ⟨x, r, rfl, h1, h2⟩ := h
    exact RepL.cons h1 (RepL.eraseIdx n h2)
theorem RepL.set {q : PV} {w : V} (hw : Rep K F H w q) : ∀ {vs : List V} {ps : List PV} (n : Nat), RepL K F H vs ps → RepL K F H (vs.set n w) (ps.set n q)
  | vs, [], n, h => by rw [RepL.nil_inv h]; simp; exact RepL.nil
  | vs, p :: ps, 0, h => by
    unfold RepL at h
    obtain ⟨x, r, rfl, h1, h2⟩ := h
    exact RepL.cons hw h2
  | vs, p :: ps, n + 1, h => by
    unfold RepL at h
    obtain ⟨x, r, rfl, h1, h2⟩ := h
    exact RepL.cons h1 (RepL.set hw n h2)
theorem RepL.ints : ∀ {vs : List V} {ns : List Int}, RepL K F H vs (ns.map .int) → vs = ns.map V.int
  | vs, [], h => RepL.nil_inv h
  | vs, n :: ns, h => by
    rw [List.map_cons] at h
    unfold RepL at h
    obtain ⟨x, r, rfl, h1, h2⟩ := h
    unfold Rep at h1
    rw [h1, RepL.ints h2]; rfl
theorem RepL.bls : ∀ {vs : List V} {ns : List Bool}, RepL K F H vs (ns.map .bl) → vs = ns.map V.bl
  | vs, [], h => RepL.nil_inv h
  | vs, n :: ns, h => by
    rw [List.map_cons] at h
    unfold RepL at h
    obtain ⟨x, r, rfl, h1, h2⟩ := h
    unfold Rep at h1
    rw [h1, RepL.bls h2]; rfl
theorem RepL.of_ints : ∀ (ns : List Int), RepL K F H (ns.map V.int) (ns.map .int)
  | [] => RepL.nil
  | n :: ns => RepL.cons (by unfold Rep; rfl) (RepL.of_ints ns)
end

/-! ### the slots -/
inductive Slot where
  | no | val (p : PV) | own (ps : List PV)
abbrev SL := List Slot
def SlotR (K : Fr) (F : FS) (H0 H : Hp) : Slot → Option V → Prop
  | .no, _ => True
  | .val p, o => ∃ v, o = some v ∧ Rep K F H v p
  | .own ps, o => ∃ a xs, o = some (.ref a) ∧ H a = some (.lst xs) ∧ RepL K F H xs ps ∧ ¬ F a ∧ H0 a = none
/-- the slots' meaning: H0 is the heap at the def's entry -/
structure ER (K : Fr) (F : FS) (H0 : Hp) (ev : SL) (σ : St) (H : Hp) : Prop where
  len : ev.length = σ.length
  slot : ∀ (i : Nat) s, ev[i]? = some s → ∃ o, σ[i]? = some o ∧ SlotR K F H0 H s o
  inj : ∀ (i j : Nat) (a : Addr) (ps qs : List PV), ev[i]? = some (.own ps) → ev[j]? = some (.own qs) → σ[i]? = some (some (.ref a)) → σ[j]? = some (some (.ref a)) → i = j
  dom : ∀ a, F a → H a ≠ none
  same : Same H0 H
/-- a is the list of an owning slot -/
def Ow (ev : SL) (σ : St) (a : Addr) : Prop := ∃ (i : Nat) (ps : List PV), ev[i]? = some (.own ps) ∧ σ[i]? = some (some (.ref a))
theorem ER.ow {K : Fr} {F : FS} {H0 H : Hp} {ev : SL} {σ : St} {a : Addr} (R : ER K F H0 ev σ H) (o : Ow ev σ a) : ¬ F a ∧ H0 a = none ∧ ∃ xs, H a = some (.lst xs) := by
  obtain ⟨i, ps, e, s⟩ := o
  obtain ⟨o, so, b, xs, e1, e2, _, e3, e4⟩ := R.slot i _ e
  rw [s] at so
  cases so
  cases e1
  exact ⟨e3, e4, xs, e2⟩

/-- a result: a value, and whether it is a list that nothing else knows -/
abbrev RV := PV × Bool
def ResR (K : Fr) (F : FS) (H0 : Hp) (ev : SL) (σ : St) (Hs H : Hp) : RV → V → Prop
  | (p, false), v => Rep K F H v p
  | (p, true), v => ∃ a xs ps, v = .ref a ∧ p = .lst ps ∧ H a = some (.lst xs) ∧ RepL K F H xs ps ∧ ¬ F a ∧ Hs a = none ∧ ¬ Ow ev σ a
/-- behind an expression -/
def Grow (F F' : FS) (H : Hp) (ev : SL) (σ : St) : Prop := ∀ a, F' a → F a ∨ H a = none ∨ Ow ev σ a
structure Aft (K : Fr) (F : FS) (H0 : Hp) (ev ev' : SL) (σ : St) (H : Hp) (F' : FS) (H' : Hp) : Prop where
  sub : ∀ a, F a → F' a
  grow : Grow F F' H ev σ
  same : Same H H'
  er : ER K F' H0 ev' σ H'
  ow : ∀ a, Ow ev' σ a → Ow ev σ a

inductive R (α : Type) where
  | ok (a : α) (ev : SL) | exc (c : Str) (ev : SL) | bad
abbrev M (α : Type) := SL → R α
def ret {α : Type} (a : α) : M α := fun ev => .ok a ev
def bnd {α β : Type} (m : M α) (f : α → M β) : M β := fun ev => match m ev with
  | .ok a ev' => f a ev'
  | .exc c ev' => .exc c ev'
  | .bad => .bad
def bad {α : Type} : M α := fun _ => .bad

/-- the semantic reading -/
def sE (X : Cx) (e : Expr) : TE := fun σ H Q => ∀ (pins : List (Addr × Obj)) (s : Shared), L2.Inv X pins σ H s → wpAny (model X.prog X.w) X.A (eval e X.env) (EP X pins σ Q) X.xe s
theorem sE_pe {X : Cx} {e : Expr} : PE X e (sE X e) := ⟨fun pins s σ H Q I h => h pins s I⟩
theorem sE_of {X : Cx} {e : Expr} {t : TE} {σ : St} {H : Hp} {Q : VK} (p : PE X e t) (h : t σ H Q) : sE X e σ H Q := fun pins s I => p.run pins s σ H Q I h

/-- classes of exceptions by name -/
abbrev CM := Str → Value

/-- e is described by m -/
structure SE (X : Cx) (W : WX) (cm : CM) (e : Expr) (m : M RV) : Prop where
  run : ∀ (F : FS) (H0 : Hp) (ev : SL) (σ : St) (H : Hp) (Q : VK), ER X.K F H0 ev σ H →
    (match m ev with
      | .ok r ev' => ∀ F' v H', Aft X.K F H0 ev ev' σ H F' H' → ResR X.K F' H0 ev' σ H H' r v → Q v H'
      | .exc c ev' => ∀ F' H', Aft X.K F H0 ev ev' σ H F' H' → W (cm c) none σ H'
      | .bad => False) → sE X e σ H Q
/-- e as a test -/
def sT (X : Cx) (e : Expr) : TT := fun σ H Q => ∀ (pins : List (Addr × Obj)) (s : Shared), L2.Inv X pins σ H s → wpAny (model X.prog X.w) X.A (PySem.isTrue e X.env (eval e X.env)) (TP X pins σ Q) X.xe s
theorem sT_pt {X : Cx} {e : Expr} : PT X e (sT X e) := ⟨fun pins s σ H Q I h => h pins s I⟩
theorem sT_of {X : Cx} {e : Expr} {t : TT} {σ : St} {H : Hp} {Q : Bool → Hp → Prop} (p : PT X e t) (h : t σ H Q) : sT X e σ H Q := fun pins s I => p.run pins s σ H Q I h
structure ST (X : Cx) (W : WX) (cm : CM) (e : Expr) (m : M Bool) : Prop where
  run : ∀ (F : FS) (H0 : Hp) (ev : SL) (σ : St) (H : Hp) (Q : Bool → Hp → Prop), ER X.K F H0 ev σ H →
    (match m ev with
      | .ok b ev' => ∀ F' H', Aft X.K F H0 ev ev' σ H F' H' → Q b H'
      | .exc c ev' => ∀ F' H', Aft X.K F H0 ev ev' σ H F' H' → W (cm c) none σ H'
      | .bad => False) → sT X e σ H Q

section
variable {K : Fr} {F F1 F2 : FS} {H0 H H1 H2 : Hp} {ev ev1 ev2 : SL} {σ : St}
theorem ER.aft (r : ER K F H0 ev σ H) : Aft K F H0 ev ev σ H F H := ⟨fun _ h => h, fun _ h => .inl h, Same.refl _, r, fun _ h => h⟩
theorem Aft.trans (a : Aft K F H0 ev ev1 σ H F1 H1) (b : Aft K F1 H0 ev1 ev2 σ H1 F2 H2) : Aft K F H0 ev ev2 σ H F2 H2 where
  sub := fun x h => b.sub x (a.sub x h)
  grow := fun x h => by
    rcases b.grow x h with h | h | h
    · exact a.grow x h
    · exact .inr (.inl (a.same.free h))
    · exact .inr (.inr (a.ow x h))
  same := a.same.trans b.same
  er := b.er
  ow := fun x h => a.ow x (b.ow x h)
/-- more is known to stand still -/
theorem ER.more (r : ER K F H0 ev σ H) (hs : ∀ a, F a → F1 a) (hd : ∀ a, F1 a → H a ≠ none) (ho : ∀ a, Ow ev σ a → ¬ F1 a) : ER K F1 H0 ev σ H where
  len := r.len
  slot := fun i s e => by
    obtain ⟨o, e1, q⟩ := r.slot i s e
    refine ⟨o, e1, ?_⟩
    cases s with
    | no => trivial
    | val p =>
      obtain ⟨v, e2, q⟩ := q
      exact ⟨v, e2, Rep.mono .refl hs p q⟩
    | own ps =>
      obtain ⟨a, xs, e2, e3, q, nf, e4⟩ := q
      exact ⟨a, xs, e2, e3, RepL.mono .refl hs ps q, ho a ⟨i, ps, e, by rw [e1, e2]⟩, e4⟩
  inj := r.inj
  dom := hd
  same := r.same
/-- a result that is not kept apart -/
theorem ResR.share {r : RV} {v : V} (a : Aft K F H0 ev ev1 σ H F1 H1) (q : ResR K F1 H0 ev1 σ H H1 r v) : ∃ F2, Aft K F H0 ev ev1 σ H F2 H1 ∧ Rep K F2 H1 v r.1 ∧ ∀ y, F1 y → F2 y := by
  obtain ⟨p, fr⟩ := r
  cases fr with
  | false => exact ⟨F1, a, q, fun _ h => h⟩
  | true =>
    obtain ⟨x, xs, ps, rfl, rfl, h, r, nf, hx, now⟩ := q
    refine ⟨fun y => F1 y ∨ y = x, ⟨fun y h => .inl (a.sub y h), fun y hy => ?_, a.same, ?_, a.ow⟩, ?_, fun y h => .inl h⟩
    · rcases hy with hy | hy
      · exact a.grow y hy
      · exact .inr (.inl (by rw [hy]; exact hx))
    · refine a.er.more (fun y h => .inl h) (fun y hy => ?_) (fun y hy hh => ?_)
      · rcases hy with hy | hy
        · exact a.er.dom y hy
        · rw [hy, h]; exact fun z => nomatch z
      · rcases hh with hh | hh
        · exact (a.er.ow hy).1 hh
        · rw [hh] at hy; exact now hy
    · show Rep K _ H1 _ (.lst ps)
      unfold Rep
      exact ⟨x, xs, rfl, ⟨.inr rfl, h⟩, RepL.mono .refl (fun y h => .inl h) ps r⟩
end
end Pv

set_option Elab.async false
set_option linter.all false
set_option maxRecDepth 100000
namespace Pv
open PySem PySem.Spec L2

/-- what m wants, from here -/
def Wt (K : Fr) (W : WX) (cm : CM) (F : FS) (H0 : Hp) (ev : SL) (σ : St) (H : Hp) {α : Type} (m : M α) (P : α → SL → FS → Hp → Prop) : Prop := match m ev with
  | .ok r ev' => ∀ F' H', Aft K F H0 ev ev' σ H F' H' → P r ev' F' H'
  | .exc c ev' => ∀ F' H', Aft K F H0 ev ev' σ H F' H' → W (cm c) none σ H'
  | .bad => False
section
variable {K : Fr} {W : WX} {cm : CM} {F F1 : FS} {H0 H H1 : Hp} {ev ev1 : SL} {σ : St} {α β : Type}
theorem Wt.from {m : M α} {P : α → SL → FS → Hp → Prop} (a : Aft K F H0 ev ev1 σ H F1 H1) (h : match m ev1 with
    | .ok r ev' => ∀ F' H', Aft K F H0 ev ev' σ H F' H' → P r ev' F' H'
    | .exc c ev' => ∀ F' H', Aft K F H0 ev ev' σ H F' H' → W (cm c) none σ H'
    | .bad => False) : Wt K W cm F1 H0 ev1 σ H1 m P := by
  unfold Wt
  cases e : m ev1 with
  | ok r ev' => rw [e] at h; exact fun F' H' b => h F' H' (a.trans b)
  | exc c ev' => rw [e] at h; exact fun F' H' b => h F' H' (a.trans b)
  | bad => rw [e] at h; exact h
theorem Wt.bnd {m : M α} {f : α → M β} {P : β → SL → FS → Hp → Prop} (h : Wt K W cm F H0 ev σ H (bnd m f) P) :
    Wt K W cm F H0 ev σ H m fun a ev1 F1 H1 => Aft K F H0 ev ev1 σ H F1 H1 ∧ Wt K W cm F1 H0 ev1 σ H1 (f a) P := by
  unfold Wt Pv.bnd at h
  unfold Wt
  cases e : m ev with
  | ok r ev' =>
    simp only [e] at h
    exact fun F' H' b => ⟨b, Wt.from b h⟩
  | exc c ev' => simp only [e] at h; exact h
  | bad => simp only [e] at h
theorem Wt.ret {a : α} {P : α → SL → FS → Hp → Prop} (r : ER K F H0 ev σ H) (h : Wt K W cm F H0 ev σ H (ret a) P) : P a ev F H := h F H r.aft
theorem Wt.mono {m : M α} {P P' : α → SL → FS → Hp → Prop} (h : Wt K W cm F H0 ev σ H m P) (hp : ∀ a ev' F' H', Aft K F H0 ev ev' σ H F' H' → P a ev' F' H' → P' a ev' F' H') : Wt K W cm F H0 ev σ H m P' := by
  unfold Wt at h ⊢
  cases e : m ev with
  | ok r ev' => rw [e] at h; exact fun F' H' b => hp _ _ _ _ b (h F' H' b)
  | exc c ev' => rw [e] at h; exact h
  | bad => rw [e] at h; exact h
end
theorem SE.go {X : Cx} {W : WX} {cm : CM} {e : Expr} {m : M RV} (s : SE X W cm e m) {F : FS} {H0 H : Hp} {ev : SL} {σ : St} {Q : VK} (r : ER X.K F H0 ev σ H)
    (h : Wt X.K W cm F H0 ev σ H m fun r ev' F' H' => ∀ v, ResR X.K F' H0 ev' σ H H' r v → Q v H') : sE X e σ H Q := by
  refine s.run F H0 ev σ H Q r ?_
  unfold Wt at h
  cases e : m ev with
  | ok r ev' => rw [e] at h; exact fun F' v H' b q => h F' H' b v q
  | exc c ev' => rw [e] at h; exact h
  | bad => rw [e] at h; exact h
theorem SE.mk' {X : Cx} {W : WX} {cm : CM} {e : Expr} {m : M RV} (s : ∀ (F : FS) (H0 H : Hp) (ev : SL) (σ : St) (Q : VK), ER X.K F H0 ev σ H →
    (Wt X.K W cm F H0 ev σ H m fun r ev' F' H' => ∀ v, ResR X.K F' H0 ev' σ H H' r v → Q v H') → sE X e σ H Q) : SE X W cm e m := ⟨fun F H0 ev σ H Q r h => by
  refine s F H0 H ev σ Q r ?_
  unfold Wt
  cases e : m ev with
  | ok r ev' => rw [e] at h; exact fun F' H' b v q => h F' v H' b q
  | exc c ev' => rw [e] at h; exact h
  | bad => rw [e] at h; exact h⟩
theorem ST.go {X : Cx} {W : WX} {cm : CM} {e : Expr} {m : M Bool} (s : ST X W cm e m) {F : FS} {H0 H : Hp} {ev : SL} {σ : St} {Q : Bool → Hp → Prop} (r : ER X.K F H0 ev σ H)
    (h : Wt X.K W cm F H0 ev σ H m fun b _ _ H' => Q b H') : sT X e σ H Q := by
  refine s.run F H0 ev σ H Q r ?_
  unfold Wt at h
  cases e : m ev with
  | ok r ev' => rw [e] at h; exact h
  | exc c ev' => rw [e] at h; exact h
  | bad => rw [e] at h; exact h
theorem ST.mk' {X : Cx} {W : WX} {cm : CM} {e : Expr} {m : M Bool} (s : ∀ (F : FS) (H0 H : Hp) (ev : SL) (σ : St) (Q : Bool → Hp → Prop), ER X.K F H0 ev σ H →
    (Wt X.K W cm F H0 ev σ H m fun b _ _ H' => Q b H') → sT X e σ H Q) : ST X W cm e m := ⟨fun F H0 ev σ H Q r h => by
  refine s F H0 H ev σ Q r ?_
  unfold Wt
  cases e : m ev with
  | ok r ev' => rw [e] at h; exact h
  | exc c ev' => rw [e] at h; exact h
  | bad => rw [e] at h; exact h⟩

/-! ### looking at a value -/
/-- what a value reads as, its own list perhaps one that is still changed -/
def RepT (K : Fr) (F : FS) (H : Hp) (v : V) : PV → Prop
  | .lst ps => ∃ a xs, v = .ref a ∧ H a = some (.lst xs) ∧ RepL K F H xs ps
  | p => Rep K F H v p
theorem RepT.of {K : Fr} {F : FS} {H : Hp} {v : V} : ∀ {p : PV}, Rep K F H v p → RepT K F H v p
  | .non, h => h
  | .bl _, h => h
  | .int _, h => h
  | .str _, h => h
  | .tup _, h => h
  | .itm _, h => h
  | .opq _, h => h
  | .lst ps, h => by
    unfold Rep at h
    obtain ⟨a, xs, e, q, r⟩ := h
    exact ⟨a, xs, e, q.2, r⟩
  | .scr _, h => h
theorem RepT.mono {K : Fr} {F F' : FS} {H H' : Hp} {v : V} (s : Same H H') (f : ∀ a, F a → F' a) : ∀ {p : PV}, RepT K F H v p → RepT K F' H' v p
  | .non, h => h
  | .bl _, h => h
  | .int _, h => h
  | .str _, h => h
  | .tup ps, h => Rep.mono (.of s) f (.tup ps) h
  | .itm ps, h => Rep.mono (.of s) f (.itm ps) h
  | .opq _, h => h
  | .lst ps, h => by
    obtain ⟨a, xs, e, q, r⟩ := h
    exact ⟨a, xs, e, s _ _ q, RepL.mono (.of s) f ps r⟩
  | .scr ns, h => Rep.mono (.of s) f (.scr ns) h
theorem ResR.top {K : Fr} {F : FS} {H0 H Hs : Hp} {ev : SL} {σ : St} {r : RV} {v : V} (q : ResR K F H0 ev σ Hs H r v) : RepT K F H v r.1 := by
  obtain ⟨p, fr⟩ := r
  cases fr with
  | false => exact RepT.of q
  | true =>
    obtain ⟨a, xs, ps, rfl, rfl, h, r, _⟩ := q
    exact ⟨a, xs, rfl, h, r⟩
/-- e, looked at -/
structure SP (X : Cx) (W : WX) (cm : CM) (e : Expr) (m : M PV) : Prop where
  go : ∀ {F : FS} {H0 H : Hp} {ev : SL} {σ : St} {Q : VK}, ER X.K F H0 ev σ H →
    (Wt X.K W cm F H0 ev σ H m fun p _ F' H' => ∀ v, RepT X.K F' H' v p → Q v H') → sE X e σ H Q
def look (m : M RV) : M PV := bnd m fun r => ret r.1
theorem SE.look {X : Cx} {W : WX} {cm : CM} {e : Expr} {m : M RV} (s : SE X W cm e m) : SP X W cm e (look m) := ⟨fun {F H0 H ev σ Q} r h => by
  refine s.go r (h.bnd.mono fun a ev' F' H' b ⟨_, h'⟩ v q => ?_)
  exact Wt.ret (P := fun p _ F' H' => ∀ v, RepT X.K F' H' v p → Q v H') b.er h' v q.top⟩

section
variable {X : Cx} {W : WX} {cm : CM}
/-! ### names, constants -/
def eVar (i : Nat) : M RV := fun ev => match ev[i]? with
  | some (.val p) => .ok (p, false) ev
  | some (.own ps) => .ok (.lst ps, false) (ev.set i (.val (.lst ps)))
  | _ => .bad
def pVar (i : Nat) : M PV := fun ev => match ev[i]? with
  | some (.val p) => .ok p ev
  | some (.own ps) => .ok (.lst ps) ev
  | _ => .bad
theorem getElem?_set_some {α : Type} {l : List α} {i j : Nat} {a b : α} (h : (l.set i a)[j]? = some b) : (i = j ∧ b = a) ∨ (i ≠ j ∧ l[j]? = some b) := by
  by_cases e : i = j
  · subst e
    rw [List.getElem?_set] at h
    simp only [if_true] at h
    split at h
    · exact .inl ⟨rfl, (Option.some.inj h).symm⟩
    · cases h
  · rw [List.getElem?_set_ne e] at h
    exact .inr ⟨e, h⟩
/-- an owned list is given away -/
theorem ER.freeze {K : Fr} {F : FS} {H0 H : Hp} {ev : SL} {σ : St} {i : Nat} {ps : List PV} {a : Addr} (r : ER K F H0 ev σ H) (e : ev[i]? = some (.own ps)) (s : σ[i]? = some (some (.ref a))) :
    Aft K F H0 ev (ev.set i (.val (.lst ps))) σ H (fun x => F x ∨ x = a) H ∧ Rep K (fun x => F x ∨ x = a) H (.ref a) (.lst ps) := by
  obtain ⟨nf, h0, xs, ha⟩ := r.ow ⟨i, ps, e, s⟩
  have rl : RepL K F H xs ps := by
    obtain ⟨o, e1, b, ys, e2, e3, q, _⟩ := r.slot i _ e
    rw [s] at e1; cases e1; cases e2
    rw [ha] at e3; cases e3
    exact q
  have rp : Rep K (fun x => F x ∨ x = a) H (.ref a) (.lst ps) := by
    unfold Rep
    exact ⟨a, xs, rfl, ⟨.inr rfl, ha⟩, RepL.mono .refl (fun _ h => .inl h) ps rl⟩
  have ow' : ∀ x, Ow (ev.set i (.val (.lst ps))) σ x → Ow ev σ x ∧ x ≠ a := fun x ⟨j, qs, e1, e2⟩ => by
    rcases getElem?_set_some e1 with ⟨_, z⟩ | ⟨ne, z⟩
    · cases z
    · refine ⟨⟨j, qs, z, e2⟩, fun z' => ?_⟩
      subst z'
      exact ne (r.inj i j x ps qs e z s e2)
  refine ⟨⟨fun _ h => .inl h, fun x hx => ?_, Same.refl _, ?_, fun x h => (ow' x h).1⟩, rp⟩
  · rcases hx with hx | hx
    · exact .inl hx
    · exact .inr (.inr ⟨i, ps, e, by rw [hx]; exact s⟩)
  · refine ⟨by rw [List.length_set]; exact r.len, fun j sl ej => ?_, fun j k b qs rs e1 e2 s1 s2 => ?_, fun x hx => ?_, r.same⟩
    · rcases getElem?_set_some ej with ⟨z, rfl⟩ | ⟨ne, z⟩
      · subst z
        exact ⟨_, s, .ref a, rfl, rp⟩
      · obtain ⟨o, e1, q⟩ := r.slot j sl z
        refine ⟨o, e1, ?_⟩
        cases sl with
        | no => trivial
        | val p =>
          obtain ⟨v, e2, q⟩ := q
          exact ⟨v, e2, Rep.mono .refl (fun _ h => .inl h) p q⟩
        | own qs =>
          obtain ⟨b, ys, e2, e3, q, nf', e4⟩ := q
          refine ⟨b, ys, e2, e3, RepL.mono .refl (fun _ h => .inl h) qs q, fun hb => ?_, e4⟩
          rcases hb with hb | hb
          · exact nf' hb
          · subst hb
            exact ne (r.inj i j b ps qs e z s (by rw [e1, e2]))
    · rcases getElem?_set_some e1 with ⟨_, z⟩ | ⟨_, z1⟩
      · cases z
      · rcases getElem?_set_some e2 with ⟨_, z⟩ | ⟨_, z2⟩
        · cases z
        · exact r.inj j k b qs rs z1 z2 s1 s2
    · rcases hx with hx | hx
      · exact r.dom x hx
      · rw [hx, ha]; exact fun z => nomatch z
theorem e_var {i : Nat} {x : Str} {pos : Pos} (hN : X.N[i]? = some x := by rfl) (hv : Vis X.env.scope x := by first | exact Or.inl rfl | exact Or.inr (Or.inl rfl) | exact Or.inr (Or.inr rfl)) (hd : (x == ("__debug__" : Str)) = false := by decide)
    (hcd : (x == ("__classdict__" : Str)) = false := by decide) : SE X W cm (.Name x pos) (eVar i) := .mk' fun F H0 H ev σ Q r h => by
  refine sE_of (pe_var hN hv hd hcd) ?_
  unfold Wt eVar at h
  cases e : ev[i]? with
  | none => simp only [e] at h
  | some sl =>
    cases sl with
    | no => simp only [e] at h
    | val p =>
      simp only [e] at h
      obtain ⟨o, e1, v, rfl, q⟩ := r.slot i _ e
      exact ⟨v, e1, h F H r.aft v q⟩
    | own ps =>
      simp only [e] at h
      obtain ⟨o, e1, a, xs, rfl, _⟩ := r.slot i _ e
      obtain ⟨a1, a2⟩ := r.freeze e e1
      exact ⟨_, e1, h _ H a1 _ a2⟩
theorem p_var {i : Nat} {x : Str} {pos : Pos} (hN : X.N[i]? = some x := by rfl) (hv : Vis X.env.scope x := by first | exact Or.inl rfl | exact Or.inr (Or.inl rfl) | exact Or.inr (Or.inr rfl)) (hd : (x == ("__debug__" : Str)) = false := by decide)
    (hcd : (x == ("__classdict__" : Str)) = false := by decide) : SP X W cm (.Name x pos) (pVar i) := ⟨fun {F H0 H ev σ Q} r h => by
  refine sE_of (pe_var hN hv hd hcd) ?_
  unfold Wt pVar at h
  cases e : ev[i]? with
  | none => simp only [e] at h
  | some sl =>
    cases sl with
    | no => simp only [e] at h
    | val p =>
      simp only [e] at h
      obtain ⟨o, e1, v, rfl, q⟩ := r.slot i _ e
      exact ⟨v, e1, h F H r.aft v (.of q)⟩
    | own ps =>
      simp only [e] at h
      obtain ⟨o, e1, a, xs, rfl, e2, q, _⟩ := r.slot i _ e
      exact ⟨_, e1, h F H r.aft _ ⟨a, xs, rfl, e2, q⟩⟩⟩
def eC (p : PV) : M RV := ret (p, false)
theorem e_cst {e : Expr} {p : PV} {v : V} (he : PE X e (tC v)) (hp : ∀ F H, Rep X.K F H v p) : SE X W cm e (eC p) := .mk' fun F H0 H ev σ Q r h => sE_of he (Wt.ret r h v (hp F H))
theorem e_int {i : Int} {j : Nat} {pos : Pos} : SE X W cm (.Constant (.int i) j pos) (eC (.int i)) := e_cst pe_int fun _ _ => by unfold Rep; rfl
theorem e_bl {b : Bool} {j : Nat} {pos : Pos} : SE X W cm (.Constant (.bool b) j pos) (eC (.bl b)) := e_cst pe_bl fun _ _ => by unfold Rep; rfl
theorem e_non {j : Nat} {pos : Pos} : SE X W cm (.Constant .none j pos) (eC .non) := e_cst pe_non fun _ _ => by unfold Rep; rfl
theorem e_str {x : Str} {j : Nat} {pos : Pos} : SE X W cm (.Constant (.str x) j pos) (eC (.str x)) := e_cst pe_str fun _ _ => by unfold Rep; rfl
/-- a module's int, text -/
theorem e_gint {x : Str} {i : Int} {t : Tok} {pos : Pos} (hm : X.mg x = some (.int i t)) (hg : Gl X x := by rfl) (hd : (x == ("__debug__" : Str)) = false := by decide) : SE X W cm (.Name x pos) (eC (.int i)) :=
  e_cst (pe_glob hg hm (v := .int i) ⟨_, rfl⟩ hd) fun _ _ => by unfold Rep; rfl
theorem e_gstr {x y : Str} {t : Tok} {pos : Pos} (hm : X.mg x = some (.str y t)) (hg : Gl X x := by rfl) (hd : (x == ("__debug__" : Str)) = false := by decide) : SE X W cm (.Name x pos) (eC (.str y)) :=
  e_cst (pe_glob hg hm (v := .str y) ⟨_, rfl⟩ hd) fun _ _ => by unfold Rep; rfl

/-! ### operators -/
def sOp (X : Cx) (f : Value → Value → Sem Value) : R2 := fun x y H Q => ∀ (pins : List (Addr × Obj)) (s : Shared) (σ : St) (v u : Value), L2.Inv X pins σ H s → L2.RelV x v → L2.RelV y u → wpAny (model X.prog X.w) X.A (f v u) (EP X pins σ Q) X.xe s
theorem sOp_ok {f : Value → Value → Sem Value} : OpR X f (sOp X f) := fun pins s σ H x y v u Q I rx ry h => h pins s σ v u I rx ry
theorem sOp_of {f : Value → Value → Sem Value} {r : R2} {x y : V} {H : Hp} {Q : VK} (o : OpR X f r) (h : r x y H Q) : sOp X f x y H Q := fun pins s σ v u I rx ry => o pins s σ H x y v u Q I rx ry h
/-- an operator by pure values -/
def OpOk (X : Cx) (f : Value → Value → Sem Value) (g : PV → PV → Option RV) : Prop := ∀ (F : FS) (H0 H : Hp) (ev : SL) (σ : St) (x y : V) (p q : PV) (r : RV) (Q : VK), ER X.K F H0 ev σ H → RepT X.K F H x p → RepT X.K F H y q → g p q = some r →
  (∀ F' v H', Aft X.K F H0 ev ev σ H F' H' → ResR X.K F' H0 ev σ H H' r v → Q v H') → sOp X f x y H Q
def opt {α : Type} : Option α → M α
  | some a => ret a
  | none => bad
def eOp (g : PV → PV → Option RV) (a b : M PV) : M RV := bnd a fun x => bnd b fun y => opt (g x y)
theorem ResR.later {K : Fr} {F : FS} {H0 H Hs Hs' : Hp} {ev : SL} {σ : St} {r : RV} {v : V} (s : Same Hs' Hs) (q : ResR K F H0 ev σ Hs H r v) : ResR K F H0 ev σ Hs' H r v := by
  obtain ⟨p, fr⟩ := r
  cases fr with
  | false => exact q
  | true =>
    obtain ⟨a, xs, ps, e1, e2, h, r, nf, n, o⟩ := q
    exact ⟨a, xs, ps, e1, e2, h, r, nf, s.free n, o⟩
theorem op2 {f : Value → Value → Sem Value} {g : PV → PV → Option RV} (ho : OpOk X f g) {a b : Expr} {ma mb : M PV} (ha : SP X W cm a ma) (hb : SP X W cm b mb) {F : FS} {H0 H : Hp} {ev : SL} {σ : St} {Q : VK} (r : ER X.K F H0 ev σ H)
    (h : Wt X.K W cm F H0 ev σ H (eOp g ma mb) fun r ev' F' H' => ∀ v, ResR X.K F' H0 ev' σ H H' r v → Q v H') : tOp (sOp X f) (sE X a) (sE X b) σ H Q := by
  refine ha.go r (h.bnd.mono fun p ev1 F1 H1 a1 ⟨_, h1⟩ x rx => ?_)
  refine hb.go a1.er (h1.bnd.mono fun q ev2 F2 H2 a2 ⟨_, h2⟩ y ry => ?_)
  cases e : g p q with
  | none => rw [e] at h2; exact h2.elim
  | some z =>
    rw [e] at h2
    refine ho F2 H0 H2 ev2 σ x y p q z Q a2.er (rx.mono a2.same a2.sub) ry e fun F' v H' a3 rr => ?_
    exact h2 F' H' a3 v (rr.later (a1.same.trans a2.same))
theorem e_bin {op : Operator} {g : PV → PV → Option RV} {a b : Expr} {ma mb : M PV} {pos : Pos} (ho : OpOk X (binaryOp op) g) (ha : SP X W cm a ma) (hb : SP X W cm b mb) : SE X W cm (.BinOp a op b pos) (eOp g ma mb) := .mk' fun F H0 H ev σ Q r h =>
  sE_of (pe_op sOp_ok sE_pe sE_pe) (op2 ho ha hb r h)
theorem e_cmp {op : CmpOp} {g : PV → PV → Option RV} {a b : Expr} {ma mb : M PV} {pos : Pos} (ho : OpOk X (compareOp op) g) (ha : SP X W cm a ma) (hb : SP X W cm b mb) (hm : behindInMarks op b = false := by first | exact nomark _ | rfl) : SE X W cm (.Compare a [op] [b] pos) (eOp g ma mb) := .mk' fun F H0 H ev σ Q r h =>
  sE_of (pe_cmpR sOp_ok sE_pe sE_pe hm) (op2 ho ha hb r h)
/-- the operators -/
theorem OpOk.pure {f : Value → Value → Sem Value} {g : PV → PV → Option RV} (h : ∀ (F : FS) (H : Hp) (x y : V) (p q : PV) (r : RV), RepT X.K F H x p → RepT X.K F H y q → g p q = some r → ∃ (z : V) (rr : R2), OpR X f rr ∧ (∀ Q : VK, Q z H → rr x y H Q) ∧ r.2 = false ∧ Rep X.K F H z r.1) : OpOk X f g :=
  fun F H0 H ev σ x y p q r Q er rx ry e hq => by
    obtain ⟨z, rr, o, h1, h2, h3⟩ := h F H x y p q r rx ry e
    refine sOp_of o (h1 Q (hq F z H er.aft ?_))
    obtain ⟨r1, r2⟩ := r
    simp only at h2 h3
    rw [h2]
    exact h3
def vI (i : Int) : Option RV := some (.int i, false)
def vB (b : Bool) : Option RV := some (.bl b, false)
def gII (g : Int → Int → Option RV) : PV → PV → Option RV
  | .int i, .int j => g i j
  | _, _ => none
theorem OpOk.ii {f : Value → Value → Sem Value} {C : Int → Int → Prop} {z : Int → Int → V} {g : Int → Int → Option RV} (o : OpR X f fun x y H Q => ∃ i j, x = .int i ∧ y = .int j ∧ C i j ∧ Q (z i j) H)
    (hg : ∀ i j r, g i j = some r → C i j ∧ r.2 = false ∧ ∀ F H, Rep X.K F H (z i j) r.1) : OpOk X f (gII g) := .pure fun F H x y p q r rx ry e => by
  unfold gII at e
  split at e
  · rename_i i j
    have ex : x = .int i := rx
    have ey : y = .int j := ry
    subst ex ey
    obtain ⟨c, n, rp⟩ := hg i j r e
    exact ⟨z i j, _, o, fun Q hq => ⟨i, j, rfl, rfl, c, hq⟩, n, rp F H⟩
  · cases e
theorem OpR.free {f : Value → Value → Sem Value} {z : Int → Int → V} (o : OpR X f (rI0 z)) : OpR X f fun x y H Q => ∃ i j, x = .int i ∧ y = .int j ∧ True ∧ Q (z i j) H :=
  fun pins s σ H x y v u Q I rx ry ⟨i, j, a, b, _, h⟩ => o pins s σ H x y v u Q I rx ry ⟨i, j, a, b, h⟩
def aAdd : PV → PV → Option RV := gII fun i j => vI (i + j)
def aSub : PV → PV → Option RV := gII fun i j => vI (i - j)
/-- a product: one factor below 2^64 in size -/
def smallI (i : Int) : Bool := decide (-(2 ^ 64) < i ∧ i < 2 ^ 64)
def aMul : PV → PV → Option RV := gII fun i j => if smallI i || smallI j then vI (i * j) else none
def aDiv : PV → PV → Option RV := gII fun i j => if 0 < j ∧ j < 1073741824 then vI (i / j) else none
def aMod : PV → PV → Option RV := gII fun i j => if 0 < j then vI (i % j) else none
def aPow : PV → PV → Option RV := gII fun i j => if 0 ≤ j ∧ j ≤ 1000000 ∧ i.natAbs < 2 ^ 64 then vI (i ^ j.toNat) else none
theorem o_add : OpOk X (binaryOp .Add) aAdd := .ii (OpR.free op_add) fun i j r e => by cases e; exact ⟨trivial, rfl, fun _ _ => by unfold Rep; rfl⟩
theorem o_sub : OpOk X (binaryOp .Sub) aSub := .ii (OpR.free op_sub) fun i j r e => by cases e; exact ⟨trivial, rfl, fun _ _ => by unfold Rep; rfl⟩
theorem o_mul : OpOk X (binaryOp .Mult) aMul := .ii op_mul fun i j r e => by
  split at e
  · rename_i c
    cases e
    refine ⟨?_, rfl, fun _ _ => by unfold Rep; rfl⟩
    rw [Bool.or_eq_true] at c
    unfold smallI at c
    rcases c with c | c
    · exact .inl (of_decide_eq_true c)
    · exact .inr (of_decide_eq_true c)
  · cases e
theorem o_div : OpOk X (binaryOp .FloorDiv) aDiv := .ii op_fdiv fun i j r e => by
  split at e
  · rename_i c
    cases e
    exact ⟨⟨by have := c.1; omega, by have := c.2; omega⟩, rfl, fun _ _ => by unfold Rep; rfl⟩
  · cases e
theorem o_mod : OpOk X (binaryOp .Mod) aMod := .ii op_mod fun i j r e => by
  split at e
  · rename_i c
    cases e
    exact ⟨c, rfl, fun _ _ => by unfold Rep; rfl⟩
  · cases e
theorem o_pow : OpOk X (binaryOp .Pow) aPow := .ii op_pow fun i j r e => by
  split at e
  · rename_i c
    cases e
    exact ⟨c, rfl, fun _ _ => by unfold Rep; rfl⟩
  · cases e
def cLt : PV → PV → Option RV := gII fun i j => vB (decide (i < j))
def cLe : PV → PV → Option RV := gII fun i j => vB (decide (i ≤ j))
def cGt : PV → PV → Option RV := gII fun i j => vB (decide (j < i))
def cGe : PV → PV → Option RV := gII fun i j => vB (decide (j ≤ i))
theorem o_lt : OpOk X (compareOp .Lt) cLt := .ii (OpR.free op_lt) fun i j r e => by cases e; exact ⟨trivial, rfl, fun _ _ => by unfold Rep; rfl⟩
theorem o_le : OpOk X (compareOp .LtE) cLe := .ii (OpR.free op_le) fun i j r e => by cases e; exact ⟨trivial, rfl, fun _ _ => by unfold Rep; rfl⟩
theorem o_gt : OpOk X (compareOp .Gt) cGt := .ii (OpR.free op_gt) fun i j r e => by cases e; exact ⟨trivial, rfl, fun _ _ => by unfold Rep; rfl⟩
theorem o_ge : OpOk X (compareOp .GtE) cGe := .ii (OpR.free op_ge) fun i j r e => by cases e; exact ⟨trivial, rfl, fun _ _ => by unfold Rep; rfl⟩
end
end Pv

set_option Elab.async false
set_option linter.all false
set_option maxRecDepth 100000
namespace Pv
open PySem PySem.Spec L2
open PyProof.Rows hiding St

section
variable {K : Fr} {F F' : FS} {H0 H H' Hs : Hp} {ev : SL} {σ : St}
/-- the heap grows -/
theorem ER.later (r : ER K F H0 ev σ H) (s : Same H H') : ER K F H0 ev σ H' where
  len := r.len
  slot := fun i sl e => by
    obtain ⟨o, e1, q⟩ := r.slot i sl e
    refine ⟨o, e1, ?_⟩
    cases sl with
    | no => trivial
    | val p =>
      obtain ⟨v, e2, q⟩ := q
      exact ⟨v, e2, Rep.mono (.of s) (fun _ h => h) p q⟩
    | own ps =>
      obtain ⟨a, xs, e2, e3, q, nf, e4⟩ := q
      exact ⟨a, xs, e2, s _ _ e3, RepL.mono (.of s) (fun _ h => h) ps q, nf, e4⟩
  inj := r.inj
  dom := fun a f z => r.dom a f (s.free z)
  same := r.same.trans s
theorem ER.step (r : ER K F H0 ev σ H) (s : Same H H') : Aft K F H0 ev ev σ H F H' := ⟨fun _ h => h, fun _ h => .inl h, s, r.later s, fun _ h => h⟩
theorem same_upd {p : Addr} {o : HO} (h : H p = none) : Same H (upd H p o) := fun b x e => by
  rw [upd_ne (ne_of_none e h)]
  exact e
theorem ER.fresh (r : ER K F H0 ev σ H) {p : Addr} {o : HO} (h : H p = none) : Aft K F H0 ev ev σ H F (upd H p o) := r.step (same_upd h)
/-- a new tuple -/
def NewT (xs : List V) (Q : VK) (H : Hp) : Prop := ∀ (p : Addr) (o : Obj), H p = none → o.cls = .type "tuple" → o.dict = none → Q (.ref p) (upd H p (.frz o (.tup xs)))
theorem ER.newT (r : ER K F H0 ev σ H) {p : Addr} {o : Obj} {xs : List V} {ps : List PV} (h : H p = none) (hc : o.cls = .type "tuple") (hd : o.dict = none) (q : RepL K F H xs ps) : ResR K F H0 ev σ Hs (upd H p (.frz o (.tup xs))) (.tup ps, false) (.ref p) := by
  show Rep K F _ _ _
  unfold Rep
  exact ⟨p, xs, rfl, .inl ⟨o, upd_same, hc, hd⟩, RepL.mono (.of (same_upd h)) (fun _ h => h) ps q⟩
theorem ER.newL (r : ER K F H0 ev σ H) (s : Same Hs H) {p : Addr} {xs : List V} {ps : List PV} (h : H p = none) (q : RepL K F H xs ps) : ResR K F H0 ev σ Hs (upd H p (.lst xs)) (.lst ps, true) (.ref p) := by
  refine ⟨p, xs, ps, rfl, rfl, upd_same, RepL.mono (.of (same_upd h)) (fun _ h => h) ps q, fun f => r.dom p f h, s.free h, fun o => ?_⟩
  obtain ⟨_, _, ys, e⟩ := r.ow o
  rw [h] at e; cases e
/-- a result of an operator that makes something new -/
theorem OpOk.mk {X : Cx} {f : Value → Value → Sem Value} {g : PV → PV → Option RV} (h : ∀ (F : FS) (H0 H : Hp) (ev : SL) (σ : St) (x y : V) (p q : PV) (r : RV) (Q : VK), ER X.K F H0 ev σ H → RepT X.K F H x p → RepT X.K F H y q → g p q = some r →
    (∀ F' v H', Aft X.K F H0 ev ev σ H F' H' → ResR X.K F' H0 ev σ H H' r v → Q v H') → ∃ rr : R2, OpR X f rr ∧ rr x y H Q) : OpOk X f g := fun F H0 H ev σ x y p q r Q er rx ry e hq => by
  obtain ⟨rr, o, hh⟩ := h F H0 H ev σ x y p q r Q er rx ry e hq
  exact sOp_of o hh
end

/-! ### flat values -/
def flatP : PV → Bool
  | .non => true | .bl _ => true | .int _ => true | .str _ => true
  | _ => false
def toV : PV → V
  | .bl b => .bl b | .int i => .int i | .str x => .str x | .opq v => v
  | _ => .non
theorem flat_toV {K : Fr} {F : FS} {H : Hp} {v : V} : ∀ {p : PV}, flatP p = true → RepT K F H v p → v = toV p ∧ flatV v = true
  | .non, _, h => by have h' : v = .non := h; subst h'; exact ⟨rfl, rfl⟩
  | .bl _, _, h => by have h' : v = .bl _ := h; subst h'; exact ⟨rfl, rfl⟩
  | .int _, _, h => by have h' : v = .int _ := h; subst h'; exact ⟨rfl, rfl⟩
  | .str _, _, h => by have h' : v = .str _ := h; subst h'; exact ⟨rfl, rfl⟩
  | .tup _, h, _ => nomatch h
  | .itm _, h, _ => nomatch h
  | .lst _, h, _ => nomatch h
  | .opq _, h, _ => nomatch h
  | .scr _, h, _ => nomatch h
theorem flat_toVs {K : Fr} {F : FS} {H : Hp} : ∀ {vs : List V} {ps : List PV}, ps.all flatP = true → RepL K F H vs ps → vs = ps.map toV ∧ vs.all flatV = true
  | vs, [], _, h => by rw [h.nil_inv]; exact ⟨rfl, rfl⟩
  | vs, p :: ps, f, h => by
    unfold RepL at h
    obtain ⟨x, r, rfl, h1, h2⟩ := h
    rw [List.all_cons, Bool.and_eq_true] at f
    obtain ⟨e1, e2⟩ := flat_toV f.1 (.of h1)
    obtain ⟨e3, e4⟩ := flat_toVs f.2 h2
    exact ⟨by rw [List.map_cons, ← e1, ← e3], by rw [List.all_cons, e2, e4]; rfl⟩

/-! ### data -/
mutual
def isD : PV → Bool
  | .opq _ => false
  | .scr _ => false
  | .itm _ => false
  | .tup ps => isDs ps
  | .lst ps => isDs ps
  | _ => true
def isDs : List PV → Bool
  | [] => true
  | p :: ps => isD p && isDs ps
end
mutual
def toD : PV → PyData
  | .non => .none | .bl b => .bool b | .int i => .int i | .str x => .str x | .tup ps => .tuple (toDs ps) | .lst ps => .list (toDs ps) | .opq _ => .none | .scr _ => .none | .itm _ => .none
def toDs : List PV → List PyData
  | [] => []
  | p :: ps => toD p :: toDs ps
end
mutual
theorem Rep.dp {K : Fr} {F : FS} {H : Hp} : ∀ {v : V} (p : PV), isD p = true → Rep K F H v p → Dp K H v (toD p)
  | v, .non, _, h => by unfold Rep at h; subst h; exact .non
  | v, .bl b, _, h => by unfold Rep at h; subst h; exact .bl b
  | v, .int i, _, h => by unfold Rep at h; subst h; exact .int i
  | v, .str x, _, h => by unfold Rep at h; subst h; exact .str x
  | v, .opq _, d, _ => by unfold isD at d; cases d
  | v, .scr _, d, _ => by unfold isD at d; cases d
  | v, .itm _, d, _ => by unfold isD at d; cases d
  | v, .tup ps, d, h => by
    unfold Rep at h
    unfold isD at d
    obtain ⟨a, xs, rfl, q, r⟩ := h
    exact .tup q.sqT (RepL.dp ps d r)
  | v, .lst ps, d, h => by
    unfold Rep at h
    unfold isD at d
    obtain ⟨a, xs, rfl, q, r⟩ := h
    exact .lst (SqL.of q.2) (RepL.dp ps d r)
theorem RepL.dp {K : Fr} {F : FS} {H : Hp} : ∀ {vs : List V} (ps : List PV), isDs ps = true → RepL K F H vs ps → DpAll K H vs (toDs ps)
  | vs, [], _, h => by rw [h.nil_inv]; exact .nil
  | vs, p :: ps, d, h => by
    unfold RepL at h
    obtain ⟨x, r, rfl, h1, h2⟩ := h
    unfold isDs at d
    rw [Bool.and_eq_true] at d
    exact .cons (Rep.dp p d.1 h1) (RepL.dp ps d.2 h2)
end
theorem RepT.dp {K : Fr} {F : FS} {H : Hp} {v : V} : ∀ (p : PV), isD p = true → RepT K F H v p → Dp K H v (toD p)
  | .lst ps, d, h => by
    unfold isD at d
    obtain ⟨a, xs, rfl, q, r⟩ := h
    exact .lst (SqL.of q) (RepL.dp ps d r)
  | .non, d, h => Rep.dp (F := F) .non d h
  | .bl b, d, h => Rep.dp (F := F) (.bl b) d h
  | .int b, d, h => Rep.dp (F := F) (.int b) d h
  | .str b, d, h => Rep.dp (F := F) (.str b) d h
  | .tup b, d, h => Rep.dp (F := F) (.tup b) d h
  | .opq b, d, h => Rep.dp (F := F) (.opq b) d h
  | .scr b, d, h => Rep.dp (F := F) (.scr b) d h
  | .itm b, d, h => Rep.dp (F := F) (.itm b) d h
/-- data that may be compared -/
def okD (p : PV) : Bool := isD p && SeqAt.shaped (toD p)
def gEq (neg : Bool) : PV → PV → Option RV
  | .int i, .int j => vB (xor neg (decide (i = j)))
  | .bl i, .bl j => vB (xor neg (decide (i = j)))
  | .str i, .str j => vB (xor neg (decide (i = j)))
  | p, q => if okD p && okD q then vB (xor neg (PyData.eqv (toD p) (toD q))) else none

section
variable {X : Cx} {W : WX} {cm : CM}
theorem rep_bl {K : Fr} {F : FS} {H : Hp} {b : Bool} : Rep K F H (.bl b) (.bl b) := by unfold Rep; rfl
theorem rep_int {K : Fr} {F : FS} {H : Hp} {b : Int} : Rep K F H (.int b) (.int b) := by unfold Rep; rfl
theorem rep_str {K : Fr} {F : FS} {H : Hp} {b : Str} : Rep K F H (.str b) (.str b) := by unfold Rep; rfl
theorem rep_non {K : Fr} {F : FS} {H : Hp} : Rep K F H .non .non := by unfold Rep; rfl
theorem o_eq (hu : X.A.units + 64 < cLine) : OpOk X (compareOp .Eq) (gEq false) := .pure fun F H x y p q r rx ry e => by
  unfold gEq at e
  split at e
  · have ex : x = .int _ := rx
    have ey : y = .int _ := ry
    subst ex ey
    cases e
    refine ⟨.bl _, _, op_eq, fun Q hq => ⟨rfl, hq⟩, rfl, ?_⟩
    rw [Bool.false_xor, show (decide (V.int _ = V.int _)) = _ from dec_int, Bool.beq_eq_decide_eq]
    exact rep_bl
  · have ex : x = .bl _ := rx
    have ey : y = .bl _ := ry
    subst ex ey
    cases e
    refine ⟨.bl _, _, op_eq, fun Q hq => ⟨rfl, hq⟩, rfl, ?_⟩
    rw [Bool.false_xor, show (decide (V.bl _ = V.bl _)) = _ from dec_bl, Bool.beq_eq_decide_eq]
    exact rep_bl
  · have ex : x = .str _ := rx
    have ey : y = .str _ := ry
    subst ex ey
    cases e
    refine ⟨.bl _, _, op_eq, fun Q hq => ⟨rfl, hq⟩, rfl, ?_⟩
    rw [Bool.false_xor, show (decide (V.str _ = V.str _)) = _ from dec_str, Bool.beq_eq_decide_eq]
    exact rep_bl
  · split at e
    · rename_i c
      cases e
      unfold okD at c
      simp only [Bool.and_eq_true] at c
      refine ⟨.bl _, _, op_eqD hu, fun Q hq => ⟨_, _, rx.dp p c.1.1, ry.dp q c.2.1, c.1.2, c.2.2, hq⟩, rfl, ?_⟩
      rw [Bool.false_xor]
      exact rep_bl
    · cases e
theorem o_ne (hu : X.A.units + 64 < cLine) : OpOk X (compareOp .NotEq) (gEq true) := .pure fun F H x y p q r rx ry e => by
  unfold gEq at e
  split at e
  · have ex : x = .int _ := rx
    have ey : y = .int _ := ry
    subst ex ey
    cases e
    refine ⟨.bl _, _, op_ne, fun Q hq => ⟨rfl, hq⟩, rfl, ?_⟩
    rw [Bool.true_xor, show (decide (V.int _ = V.int _)) = _ from dec_int, Bool.beq_eq_decide_eq]
    exact rep_bl
  · have ex : x = .bl _ := rx
    have ey : y = .bl _ := ry
    subst ex ey
    cases e
    refine ⟨.bl _, _, op_ne, fun Q hq => ⟨rfl, hq⟩, rfl, ?_⟩
    rw [Bool.true_xor, show (decide (V.bl _ = V.bl _)) = _ from dec_bl, Bool.beq_eq_decide_eq]
    exact rep_bl
  · have ex : x = .str _ := rx
    have ey : y = .str _ := ry
    subst ex ey
    cases e
    refine ⟨.bl _, _, op_ne, fun Q hq => ⟨rfl, hq⟩, rfl, ?_⟩
    rw [Bool.true_xor, show (decide (V.str _ = V.str _)) = _ from dec_str, Bool.beq_eq_decide_eq]
    exact rep_bl
  · split at e
    · rename_i c
      cases e
      unfold okD at c
      simp only [Bool.and_eq_true] at c
      refine ⟨.bl _, _, op_neD hu, fun Q hq => ⟨_, _, rx.dp p c.1.1, ry.dp q c.2.1, c.1.2, c.2.2, hq⟩, rfl, ?_⟩
      rw [Bool.true_xor]
      exact rep_bl
    · cases e
/-- the items of a list or tuple -/
def items : PV → Option (List PV)
  | .lst ps => some ps | .tup ps => some ps | .scr ns => some (ns.map .int)
  | _ => none
theorem RepT.items {K : Fr} {F : FS} {H : Hp} {v : V} {p : PV} {ps : List PV} (h : RepT K F H v p) (e : items p = some ps) : ∃ a xs, v = .ref a ∧ (SqL K H a xs ∨ SqT K H a xs) ∧ RepL K F H xs ps := by
  cases p <;> unfold Pv.items at e <;> cases e
  · have h' : Rep K F H v (.tup ps) := h
    unfold Rep at h'
    obtain ⟨a, xs, rfl, q, r⟩ := h'
    exact ⟨a, xs, rfl, .inr q.sqT, r⟩
  · obtain ⟨a, xs, rfl, q, r⟩ := h
    exact ⟨a, xs, rfl, .inl (SqL.of q), r⟩
  · have h' : Rep K F H v (.scr _) := h
    unfold Rep at h'
    obtain ⟨a, rfl, q⟩ := h'
    exact ⟨a, _, rfl, .inl q.seq, RepL.of_ints _⟩
def inP (p : PV) (ps : List PV) : Bool := inV (toV p) (ps.map toV)
def gIn (neg : Bool) (p q : PV) : Option RV := match items q with
  | some ps => if flatP p && ps.all flatP then vB (xor neg (inP p ps)) else none
  | none => none
theorem o_in : OpOk X (compareOp .In) (gIn false) := .pure fun F H x y p q r rx ry e => by
  unfold gIn at e
  split at e
  · rename_i ps hi
    split at e
    · rename_i c
      cases e
      rw [Bool.and_eq_true] at c
      obtain ⟨a, xs, rfl, hq, rl⟩ := ry.items hi
      obtain ⟨e1, f1⟩ := flat_toV c.1 rx
      obtain ⟨e2, f2⟩ := flat_toVs c.2 rl
      refine ⟨.bl _, _, op_in_seq, fun Q hq' => ⟨a, xs, rfl, hq, f1, f2, hq'⟩, rfl, ?_⟩
      rw [e1, e2, Bool.false_xor]
      exact rep_bl
    · cases e
  · cases e
theorem o_notIn : OpOk X (compareOp .NotIn) (gIn true) := .pure fun F H x y p q r rx ry e => by
  unfold gIn at e
  split at e
  · rename_i ps hi
    split at e
    · rename_i c
      cases e
      rw [Bool.and_eq_true] at c
      obtain ⟨a, xs, rfl, hq, rl⟩ := ry.items hi
      obtain ⟨e1, f1⟩ := flat_toV c.1 rx
      obtain ⟨e2, f2⟩ := flat_toVs c.2 rl
      refine ⟨.bl _, _, op_notIn_seq, fun Q hq' => ⟨a, xs, rfl, hq, f1, f2, hq'⟩, rfl, ?_⟩
      rw [e1, e2, Bool.true_xor]
      exact rep_bl
    · cases e
  · cases e
def isNon : PV → Bool
  | .non => true
  | _ => false
theorem RepT.non_iff {K : Fr} {F : FS} {H : Hp} {v : V} : ∀ {p : PV}, (∀ u, p ≠ .opq u) → RepT K F H v p → decide (v = V.non) = isNon p
  | .non, _, h => by have h' : v = .non := h; subst h'; rfl
  | .bl _, _, h => by have h' : v = .bl _ := h; subst h'; rfl
  | .int _, _, h => by have h' : v = .int _ := h; subst h'; rfl
  | .str _, _, h => by have h' : v = .str _ := h; subst h'; rfl
  | .opq u, n, _ => absurd rfl (n u)
  | .tup ps, _, h => by
    have h' : Rep K F H v (.tup ps) := h
    unfold Rep at h'
    obtain ⟨a, xs, rfl, _⟩ := h'
    rfl
  | .lst ps, _, h => by
    obtain ⟨a, xs, rfl, _⟩ := h
    rfl
  | .itm ps, _, h => by
    have h' : Rep K F H v (.itm ps) := h
    unfold Rep at h'
    obtain ⟨a, xs, rfl, _⟩ := h'
    rfl
  | .scr ns, _, h => by
    have h' : Rep K F H v (.scr ns) := h
    unfold Rep at h'
    obtain ⟨a, rfl, _⟩ := h'
    rfl
def isOpq : PV → Bool
  | .opq _ => true
  | _ => false
def gIs (neg : Bool) (p q : PV) : Option RV := if isOpq p then none else if isNon q then vB (xor neg (isNon p)) else none
theorem isNon_eq : ∀ {q : PV}, isNon q = true → q = .non
  | .non, _ => rfl
  | .bl _, h => nomatch h
  | .int _, h => nomatch h
  | .str _, h => nomatch h
  | .opq _, h => nomatch h
  | .tup _, h => nomatch h
  | .lst _, h => nomatch h
  | .scr _, h => nomatch h
  | .itm _, h => nomatch h
theorem o_is : OpOk X (compareOp .Is) (gIs false) := .pure fun F H x y p q r rx ry e => by
  unfold gIs at e
  split at e
  · cases e
  · rename_i hp
    split at e
    · rename_i c
      cases e
      have eq := isNon_eq c
      subst eq
      have ey : y = .non := ry
      subst ey
      refine ⟨.bl _, _, op_isN, fun Q hq => ⟨rfl, hq⟩, rfl, ?_⟩
      rw [RepT.non_iff (fun u z => hp (by rw [z]; rfl)) rx, Bool.false_xor]
      exact rep_bl
    · cases e
theorem o_isNot : OpOk X (compareOp .IsNot) (gIs true) := .pure fun F H x y p q r rx ry e => by
  unfold gIs at e
  split at e
  · cases e
  · rename_i hp
    split at e
    · rename_i c
      cases e
      have eq := isNon_eq c
      subst eq
      have ey : y = .non := ry
      subst ey
      refine ⟨.bl _, _, op_notN, fun Q hq => ⟨rfl, hq⟩, rfl, ?_⟩
      rw [RepT.non_iff (fun u z => hp (by rw [z]; rfl)) rx, Bool.true_xor]
      exact rep_bl
    · cases e

/-! ### sums of lists, tuples, texts -/
def SZ : Nat := 16777216
theorem sz_eq : sizeLine = SZ := rfl
/-- t + u of tuples, the left one empty -/
theorem catT_nil : OpR X (binaryOp .Add) (fun x y H Q => ∃ a b ys, x = .ref a ∧ y = .ref b ∧ SqT X.K H a [] ∧ SqT X.K H b ys ∧ Q (.ref b) H) := by
  intro pins s σ H x y v u Q I rx ry h
  obtain ⟨a, b, ys, rfl, rfl, ha, hb, q⟩ := h
  cases rx
  cases ry
  obtain ⟨its, r1, p1, _⟩ := I.tuple ha
  obtain ⟨its2, r2, p2, _⟩ := I.tuple hb
  cases r1
  obtain ⟨⟨cls, dd, data, sl⟩, ho, hc, n, hd⟩ := id p1
  obtain ⟨⟨cls2, dd2, data2, sl2⟩, ho2, hc2, n2, hd2⟩ := id p2
  simp only at hc hd hc2 hd2
  subst hc hd hc2 hd2
  refine concat_meets ⟨_, ho, rfl⟩ ⟨_, ho2, rfl⟩ noFill_tuple_add seq_tuple_add PySem.F.slot_tuple_add PySem.F.entry_tuple_add (PySem.F.args_tuple_add_2 _ _)
    (tuple_addW0 a b #[] its2.toArray n n2 dd dd2 sl sl2 rfl) ⟨ho, ho2, ?_⟩
  exact ⟨.ref b, H, I, rfl, q⟩
/-- the object of a new tuple -/
abbrev tupO (us : List Value) : Obj := { cls := .type "tuple", data := .seq us.toArray }
theorem Inv.newTup {pins : List (Addr × Obj)} {σ : St} {H : Hp} {s : Shared} {us : List Value} {xs : List V} {Q : VK} {h' : Heap} {t' : Nat} (I : L2.Inv X pins σ H s) (k : ∀ b o, s.heap.get? b = some o → h'.get? b = some o) (r : Vals xs us) (hz : xs.length ≤ sizeLine) (h : NewT xs Q H) :
    EP X pins σ Q (.ref h'.objs.size) { s with heap := h'.push (tupO us), toks := t' } := by
  have J : L2.Inv X pins σ H { s with heap := h' } := I.kept (t' := s.toks) k
  have hn : H h'.objs.size = none := J.hok.fresh (Nat.le_refl _)
  exact ⟨.ref h'.objs.size, _, J.laid (o := .frz (tupO us) (.tup xs)) (t' := t') (fun b o e => Heap.get?_push_of_some _ e) (Nat.le_refl _) ⟨Heap.get?_push_size _ rfl, hz, us, r, ⟨_, Heap.get?_push_size _ rfl, rfl, _, rfl⟩⟩, rfl, h _ _ hn rfl rfl⟩
/-- (a, b, ..) -/
theorem pe_tupX {es : List Expr} {k : Nat} {pos : Pos} {t : TA} (h : PA X es t) : PE X (.Tuple es k pos) (fun σ H Q => t σ H fun xs H1 => xs.length ≤ sizeLine ∧ NewT xs Q H1) := ⟨fun pins s σ H Q I hq =>
  wpAny_Tuple_spliced (thn (h.run pos pins s σ H _ I hq) fun us s1 z => match z with
    | ⟨xs, H1, J, r, hz, q⟩ => ⟨by rw [← r.length]; exact hz, Inv.newTup J (fun _ _ e => e) r hz q⟩)⟩
/-- t + u, t not empty -/
theorem cat_X : OpR X (binaryOp .Add) (fun x y H Q => ∃ a b xs ys, x = .ref a ∧ y = .ref b ∧ SqT X.K H a xs ∧ SqT X.K H b ys ∧ xs ≠ [] ∧ xs.length + ys.length ≤ sizeLine ∧ (ys = [] → Q (.ref a) H) ∧ (ys ≠ [] → NewT (xs ++ ys) Q H)) := by
  rintro pins s σ H x y v u Q I rx ry ⟨a, b, xs, ys, rfl, rfl, ha, hb, hx, hz, q1, q2⟩
  cases rx; cases ry
  obtain ⟨l1, r1, p1, -⟩ := I.tuple ha
  obtain ⟨l2, r2, p2, -⟩ := I.tuple hb
  have hzz : l1.length + l2.length ≤ sizeLine := by rw [← r1.length, ← r2.length]; exact hz
  exact HT.cat_tup p1 p2 (mt r1.nil_iff.mp hx) (fun z => ⟨.ref a, H, I, rfl, q1 (r2.nil_iff.mp z)⟩)
    (fun z => Inv.newTup I (fun _ _ e => e) (r1.append r2) (by rw [List.length_append]; exact hz) (q2 (mt r2.nil_iff.mpr z))) hzz
/-- t[a:b], not the whole -/
theorem cut_X : SlR X (fun x lo hi H Q => ∃ a xs, x = .ref a ∧ SqT X.K H a xs ∧ ¬ (HT.sIx xs.length 0 lo = 0 ∧ HT.sIx xs.length xs.length hi = xs.length) ∧ NewT (cutV xs lo hi) Q H) := by
  rintro pins s σ H x v vl vu lo hi sl Q I rx hs pl pu ⟨a, xs, rfl, hx, hw, q⟩
  cases rx
  obtain ⟨us, r, p, hz⟩ := I.tuple hx
  have hl : us.toArray.size = xs.length := by rw [List.size_toArray, r.length]
  refine ⟨_, _, PyProof.Rows.slot_tuple_getitem.lookup, p.typeIs, HT.getItem_tuple_cut p hs pl pu (by rw [hl]; exact hw) ?_ (by rw [hl]; exact hz)⟩
  rw [hl]
  exact Inv.newTup I (fun _ _ e => e) ((r.drop _).take _) (Nat.le_trans (cutV_length xs lo hi) hz) q
/-- tuple(xs), xs a list -/
theorem tupL_X : CallR X (.type "tuple") (fun vs H Q => ∃ p ys, vs = [.ref p] ∧ SqL X.K H p ys ∧ NewT ys Q H) := by
  rintro pins s σ H vs us Q I r ⟨p, ys, rfl, hy, q⟩
  obtain ⟨u, rfl, ru⟩ := vals1 r
  cases ru
  obtain ⟨its, ri, pl, hz⟩ := I.list hy
  exact call_tuple_list pl.isList (fun h' kp => Inv.newTup I kp ri hz q) (by simp only [List.size_toArray, ← ri.length]; exact hz)
end
end Pv

set_option Elab.async false
set_option linter.all false
set_option maxRecDepth 100000
namespace Pv
open PySem PySem.Spec L2
open PyProof.Rows hiding St

/-! ### t[a:b], the whole of it: t itself -/
section
variable {prog : Program} {w : World} {A : Around} {E : Value → Shared → Prop} {s : Shared}
theorem getItem_tuple_whole {t sl : Addr} {items : Array Value} {vl vu : Value} {lo hi : Option Int} {Q : Value → Shared → Prop} (ht : IsTup s.heap t items) (hs : s.heap.IsSliceOf sl vl vu .none) (pl : IsPart vl lo) (pu : IsPart vu hi)
    (hw : HT.sIx items.size 0 lo = 0 ∧ HT.sIx items.size items.size hi = items.size) (h : Q (.ref t) s) : wpAny (model prog w) A (getItem (.ref t) (.ref sl)) Q E s := by
  obtain ⟨os, hos, hcs, hds⟩ := id hs
  have hTs : s.TypeIs (.ref sl) "slice" := ⟨os, hos, hcs⟩
  unfold getItem
  try with_reducible refine wpAny_holding ?_
  first | refine wpAny_bind (wpAny_pure ?_) | skip
  refine wpAny_bind (wpAny_sequenceKey ht.typeIs (by decide) ?_)
  refine wpAny_bind (wpAny_callSpecial?_slot (name := Str.ofString "__getitem__") ht.typeIs PyProof.Rows.slot_tuple_getitem
    (wpAny_call_entry PyProof.Rows.slot_tuple_getitem ht.typeIs entry_tuple_getitem ?_ (args_tuple_getitem _ _)))
  show wpAny _ _ (Builtin.Tuple.tupleItemsOf (.ref t) >>= _) _ _ s
  refine wpAny_bind (tupleItemsOf_ ht ?_)
  refine wpAny_bind (wpAny_typeOf hTs ?_)
  rw [if_pos (by decide)]
  refine wpAny_bind (HT.sliceApplied_gen hs pl pu ?_)
  have hyes : ((((HT.sIx items.size 0 lo : Nat) : Int) == 0 && (1 : Int) == 1 && (HT.sIx items.size items.size hi - HT.sIx items.size 0 lo) == items.size) = true) := by
    rw [hw.1, hw.2]
    simp
  show wpAny _ _ (if (((HT.sIx items.size 0 lo : Nat) : Int) == 0 && (1 : Int) == 1 && (HT.sIx items.size items.size hi - HT.sIx items.size 0 lo) == items.size) = true then _ else _) _ _ s
  rw [if_pos hyes]
  unfold Builtin.Tuple.tupleIsExact
  refine wpAny_bind (wpAny_bind (wpAny_typeOf ht.typeIs ?_))
  refine wpAny_pure ?_
  simp only [beq_self_eq_true, if_true]
  refine wpAny_bind (wpAny_rule ?_)
  exact wpAny_pure ⟨_, rfl, wpAny_pure h⟩
end
section
variable {X : Cx}
theorem sl_tupW : SlR X (fun x lo hi H Q => ∃ a xs, x = .ref a ∧ SqT X.K H a xs ∧ (HT.sIx xs.length 0 lo = 0 ∧ HT.sIx xs.length xs.length hi = xs.length) ∧ Q (.ref a) H) := by
  intro pins s σ H x v vl vu lo hi sl Q I rx hs pl pu h
  obtain ⟨a, xs, rfl, hx, hw, q⟩ := h
  cases rx
  obtain ⟨its, r, ht, hz⟩ := I.tuple hx
  have hlen : its.toArray.size = xs.length := by rw [List.size_toArray]; exact r.length.symm
  refine ⟨"tuple", _, PyProof.Rows.slot_tuple_getitem.lookup, ht.typeIs, ?_⟩
  exact getItem_tuple_whole ht hs pl pu (by rw [hlen]; exact hw) ⟨.ref a, H, I, rfl, q⟩
end
end Pv

set_option Elab.async false
set_option linter.all false
set_option maxRecDepth 100000
namespace Pv
open PySem PySem.Spec L2
open PyProof.Rows hiding St

section
variable {X : Cx} {W : WX} {cm : CM}
/-! ### + -/
def gAdd : PV → PV → Option RV
  | .int i, .int j => vI (i + j)
  | .tup ps, .tup qs => if ps.length + qs.length ≤ SZ then some (.tup (ps ++ qs), false) else none
  | .lst ps, .lst qs => if ps.length + qs.length ≤ SZ then some (.lst (ps ++ qs), true) else none
  | .str x, .str y => if x.length + y.length ≤ SZ then some (.str (x ++ y), false) else none
  | _, _ => none
theorem o_addG : OpOk X (binaryOp .Add) gAdd := .mk fun F H0 H ev σ x y p q r Q er rx ry e hq => by
  unfold gAdd at e
  split at e
  · have ex : x = .int _ := rx
    have ey : y = .int _ := ry
    subst ex ey
    cases e
    exact ⟨_, op_add, _, _, rfl, rfl, hq F _ H er.aft (rep_int (K := X.K) (F := F) (H := H))⟩
  · rename_i ps qs
    split at e
    · rename_i hz
      cases e
      have rx' : Rep X.K F H x (.tup ps) := rx
      have ry' : Rep X.K F H y (.tup qs) := ry
      unfold Rep at rx' ry'
      obtain ⟨a, xs, rfl, hx, r1⟩ := rx'
      obtain ⟨b, ys, rfl, hy, r2⟩ := ry'
      by_cases h0 : xs = []
      · subst h0
        have e0 : ps = [] := by
          cases ps with
          | nil => rfl
          | cons _ _ => have := r1.length; simp at this
        subst e0
        refine ⟨_, catT_nil, a, b, ys, rfl, rfl, hx.sqT, hy.sqT, hq F _ H er.aft ?_⟩
        show Rep X.K F H _ (.tup qs)
        unfold Rep
        exact ⟨b, ys, rfl, hy, r2⟩
      · refine ⟨_, cat_X, a, b, xs, ys, rfl, rfl, hx.sqT, hy.sqT, h0, by rw [r1.length, r2.length]; exact hz, fun z => ?_, fun z p o hp hc hd => ?_⟩
        · subst z
          have e0 : qs = [] := by
            cases qs with
            | nil => rfl
            | cons _ _ => have := r2.length; simp at this
          subst e0
          rw [List.append_nil] at hq
          refine hq F _ H er.aft ?_
          show Rep X.K F H _ (.tup ps)
          unfold Rep
          exact ⟨a, xs, rfl, hx, r1⟩
        · exact hq F _ _ (er.fresh hp) (er.newT hp hc hd (r1.append r2))
    · cases e
  · rename_i ps qs
    split at e
    · rename_i hz
      cases e
      obtain ⟨a, xs, rfl, hx, r1⟩ := rx
      obtain ⟨b, ys, rfl, hy, r2⟩ := ry
      refine ⟨_, op_cat, a, b, xs, ys, rfl, rfl, hx, hy, by rw [r1.length, r2.length]; exact hz, fun p hp => ?_⟩
      exact hq F _ _ (er.fresh hp) (er.newL (Same.refl _) hp (r1.append r2))
    · cases e
  · split at e
    · rename_i hz
      cases e
      have ex : x = .str _ := rx
      have ey : y = .str _ := ry
      subst ex ey
      exact ⟨_, op_add_str, _, _, rfl, rfl, hz, hq F _ H er.aft (rep_str (K := X.K) (F := F) (H := H))⟩
    · cases e
  · cases e

/-! ### t[i], t[a:b] -/
def sIxO (X : Cx) : R2 := fun x y H Q => ∀ (value slice : Expr) (pins : List (Addr × Obj)) (s : Shared) (σ : St) (v u : Value), L2.Inv X pins σ H s → L2.RelV x v → L2.RelV y u →
    subscripted slice false v u = operate [v, u] (getItem v u) → wpAny (model X.prog X.w) X.A (PyProof.Rows.subscriptTail value slice v u) (EP X pins σ Q) X.xe s
theorem sIxO_ok : IxR X (sIxO X) := fun value slice pins s σ H x y v u Q I rx ry h hs => h value slice pins s σ v u I rx ry hs
theorem sIxO_of {r : R2} {x y : V} {H : Hp} {Q : VK} (o : IxR X r) (h : r x y H Q) : sIxO X x y H Q := fun value slice pins s σ v u I rx ry hs => o value slice pins s σ H x y v u Q I rx ry h hs
def gIx : PV → PV → Option RV
  | .tup ps, .int i => (atI ps i).map fun p => (p, false)
  | .lst ps, .int i => (atI ps i).map fun p => (p, false)
  | .scr ns, .int i => (atI ns i).map fun n => (.int n, false)
  | _, _ => none
theorem RepL.atI {K : Fr} {F : FS} {H : Hp} {vs : List V} {ps : List PV} {i : Int} {p : PV} (h : RepL K F H vs ps) (e : L2.atI ps i = some p) : ∃ v, L2.atI vs i = some v ∧ Rep K F H v p := by
  unfold L2.atI at e ⊢
  rw [h.length]
  cases q : ixN ps.length i with
  | none => rw [q] at e; cases e
  | some j =>
    rw [q] at e
    exact h.get e
theorem atI_ints {ns : List Int} {i n : Int} (e : L2.atI ns i = some n) : L2.atI (ns.map V.int) i = some (.int n) := by
  unfold L2.atI at e ⊢
  rw [List.length_map]
  cases q : ixN ns.length i with
  | none => rw [q] at e; cases e
  | some j =>
    rw [q] at e
    simp only [Option.bind_some] at e ⊢
    rw [List.getElem?_map, e]; rfl
theorem res_bl {K : Fr} {F : FS} {H0 Hs H : Hp} {ev : SL} {σ : St} {b : Bool} : ResR K F H0 ev σ Hs H (.bl b, false) (.bl b) := by
  show Rep K F H _ _
  exact rep_bl
theorem res_int {K : Fr} {F : FS} {H0 Hs H : Hp} {ev : SL} {σ : St} {b : Int} : ResR K F H0 ev σ Hs H (.int b, false) (.int b) := by
  show Rep K F H _ _
  exact rep_int
theorem gIx_int {p q : PV} {r : RV} (e : gIx p q = some r) : ∃ i, q = .int i := by
  cases q with
  | int i => exact ⟨i, rfl⟩
  | _ => cases p <;> cases e
theorem ix_ok {F : FS} {H0 H : Hp} {ev : SL} {σ : St} {x y : V} {Q : VK} {i : Int} {r : RV} (ry : RepT X.K F H y (.int i)) {p : PV} (rx : RepT X.K F H x p) (e : gIx p (.int i) = some r)
    (hq : ∀ v, ResR X.K F H0 ev σ H H r v → Q v H) : sIxO X x y H Q := by
  have ey : y = .int _ := ry
  subst ey
  cases p with
  | tup ps =>
    have rx' : Rep X.K F H x (.tup ps) := rx
    unfold Rep at rx'
    obtain ⟨a, xs, rfl, hx, r1⟩ := rx'
    unfold gIx at e
    obtain ⟨p, e1, rfl⟩ := Option.map_eq_some_iff.mp e
    obtain ⟨v, e2, r2⟩ := r1.atI e1
    exact sIxO_of ix_tup ⟨a, xs, i, v, rfl, rfl, hx.sqT, e2, hq v r2⟩
  | lst ps =>
    obtain ⟨a, xs, rfl, hx, r1⟩ := rx
    unfold gIx at e
    obtain ⟨p, e1, rfl⟩ := Option.map_eq_some_iff.mp e
    obtain ⟨v, e2, r2⟩ := r1.atI e1
    exact sIxO_of ix_list ⟨a, xs, i, v, rfl, rfl, SqL.of hx, e2, hq v r2⟩
  | scr ns =>
    have rx' : Rep X.K F H x (.scr ns) := rx
    unfold Rep at rx'
    obtain ⟨a, rfl, hx⟩ := rx'
    unfold gIx at e
    obtain ⟨p, e1, rfl⟩ := Option.map_eq_some_iff.mp e
    exact sIxO_of ix_list ⟨a, _, i, _, rfl, rfl, hx.seq, atI_ints e1, hq _ res_int⟩
  | _ => cases e
theorem e_ix {a b : Expr} {ma mb : M PV} {pos : Pos} (ha : SP X W cm a ma) (hb : SP X W cm b mb) (hs : PlainIx b := by exact fun _ _ => rfl) : SE X W cm (.Subscript a b pos) (eOp gIx ma mb) := .mk' fun F H0 H ev σ Q r h => by
  refine sE_of (pe_ix sIxO_ok sE_pe sE_pe hs) ?_
  refine ha.go r (h.bnd.mono fun p ev1 F1 H1 a1 hh x rx => ?_)
  refine hb.go a1.er (hh.2.bnd.mono fun q ev2 F2 H2 a2 hh2 y ry => ?_)
  have h2 := hh2.2
  have rx2 := rx.mono a2.same a2.sub
  cases e : gIx p q with
  | none => rw [e] at h2; exact h2.elim
  | some z =>
    rw [e] at h2
    obtain ⟨i, rfl⟩ := gIx_int e
    exact ix_ok ry rx2 e fun v rv => Wt.ret a2.er h2 v (rv.later (a1.same.trans a2.same))
/-- a slice's part -/
structure SO (X : Cx) (W : WX) (cm : CM) (e : Option Expr) (m : M (Option Int)) : Prop where
  go : ∀ {F : FS} {H0 H : Hp} {ev : SL} {σ : St} {Q : Option Int → Hp → Prop}, ER X.K F H0 ev σ H → (Wt X.K W cm F H0 ev σ H m fun o _ F' H' => Q o H') →
    ∀ (pins : List (Addr × Obj)) (s : Shared), L2.Inv X pins σ H s → wpAny (model X.prog X.w) X.A (evalPart e X.env) (fun u s' => ∃ o H', L2.Inv X pins σ H' s' ∧ IsPart u o ∧ Q o H') X.xe s
def sPO (X : Cx) (e : Option Expr) : TO := fun σ H Q => ∀ (pins : List (Addr × Obj)) (s : Shared), L2.Inv X pins σ H s → wpAny (model X.prog X.w) X.A (evalPart e X.env) (fun u s' => ∃ o H', L2.Inv X pins σ H' s' ∧ IsPart u o ∧ Q o H') X.xe s
theorem sPO_ok {e : Option Expr} : PO X e (sPO X e) := ⟨fun pins s σ H Q I h => h pins s I⟩
theorem so_none : SO X W cm none (ret none) := ⟨fun {F H0 H ev σ Q} r h pins s I => po_none.run pins s σ H Q I (Wt.ret r h)⟩
def intOf : PV → M Int
  | .int i => ret i
  | _ => bad
def soInt (m : M PV) : M (Option Int) := bnd m fun p => match p with
  | .int i => ret (some i)
  | _ => bad
theorem so_some {e : Expr} {m : M PV} (he : SP X W cm e m) : SO X W cm (some e) (soInt m) := ⟨fun {F H0 H ev σ Q} r h pins s I => by
  refine (po_some (sE_pe (e := e))).run pins s σ H Q I ?_
  refine he.go r (h.bnd.mono fun p ev1 F1 H1 a1 ⟨n1, h1⟩ x rx => ?_)
  cases p with
  | int i =>
    have ex : x = .int i := rx
    exact ⟨i, ex, Wt.ret (P := fun o _ _ H' => Q o H') a1.er h1⟩
  | _ => exact h1.elim⟩
def cutP {α : Type} (xs : List α) (lo hi : Option Int) : List α := (xs.drop (HT.sIx xs.length 0 lo)).take (HT.sIx xs.length xs.length hi - HT.sIx xs.length 0 lo)
def gSl (p : PV) (lo hi : Option Int) : Option RV := match p with
  | .tup ps => some (.tup (cutP ps lo hi), false)
  | .lst ps => some (.lst (cutP ps lo hi), true)
  | _ => none
def eSl (a : M PV) (lo hi : M (Option Int)) : M RV := bnd a fun p => bnd lo fun l => bnd hi fun h => opt (gSl p l h)
def sSl (X : Cx) : V → Option Int → Option Int → Hp → VK → Prop := fun x lo hi H Q => ∀ (pins : List (Addr × Obj)) (s : Shared) (σ : St) (v vl vu : Value) (sl : Addr), L2.Inv X pins σ H s → L2.RelV x v → s.heap.IsSliceOf sl vl vu .none → IsPart vl lo → IsPart vu hi →
    ∃ T id, typeLookup (.type T) "__getitem__" = pure (some (.builtin id)) ∧ s.TypeIs v T ∧ wpAny (model X.prog X.w) X.A (getItem v (.ref sl)) (EP X pins σ Q) X.xe s
theorem sSl_ok : SlR X (sSl X) := fun pins s σ H x v vl vu lo hi sl Q I rx hs pl pu h => h pins s σ v vl vu sl I rx hs pl pu
theorem sSl_of {r : V → Option Int → Option Int → Hp → VK → Prop} {x : V} {lo hi : Option Int} {H : Hp} {Q : VK} (o : SlR X r) (h : r x lo hi H Q) : sSl X x lo hi H Q := fun pins s σ v vl vu sl I rx hs pl pu => o pins s σ H x v vl vu lo hi sl Q I rx hs pl pu h
theorem RepL.cut {K : Fr} {F : FS} {H : Hp} {vs : List V} {ps : List PV} {lo hi : Option Int} (h : RepL K F H vs ps) : RepL K F H (cutV vs lo hi) (cutP ps lo hi) := by
  unfold cutV cutP
  rw [h.length]
  exact (h.drop _).take _
theorem e_sl {a : Expr} {lo hi : Option Expr} {ma : M PV} {ml mh : M (Option Int)} {pos p2 : Pos} (ha : SP X W cm a ma) (hl : SO X W cm lo ml) (hh : SO X W cm hi mh) : SE X W cm (.Subscript a (.Slice lo hi none p2) pos) (eSl ma ml mh) := .mk' fun F H0 H ev σ Q r h => by
  refine sE_of (pe_slice sSl_ok sE_pe sPO_ok sPO_ok) ?_
  refine ha.go r (h.bnd.mono fun p ev1 F1 H1 a1 ⟨n1, h1⟩ x rx => ?_)
  refine hl.go a1.er (h1.bnd.mono fun l ev2 F2 H2 a2 ⟨n2, h2⟩ => ?_)
  refine hh.go a2.er (h2.bnd.mono fun u ev3 F3 H3 a3 ⟨n3, h3⟩ => ?_)
  have rx3 := (rx.mono a2.same a2.sub).mono a3.same a3.sub
  have s3 : Same H H3 := a1.same.trans (a2.same.trans a3.same)
  cases p with
  | tup ps =>
    have rx' : Rep X.K F3 H3 x (.tup ps) := rx3
    unfold Rep at rx'
    obtain ⟨a, xs, rfl, hx, r1⟩ := rx'
    by_cases hw : HT.sIx xs.length 0 l = 0 ∧ HT.sIx xs.length xs.length u = xs.length
    · refine sSl_of sl_tupW ⟨a, xs, rfl, hx.sqT, hw, ?_⟩
      have ec : cutP ps l u = ps := by
        unfold cutP
        rw [← r1.length, hw.1, hw.2, List.drop_zero, r1.length, Nat.sub_zero, List.take_length]
      have h4 : Wt X.K W cm F3 H0 ev3 σ H3 (ret ((PV.tup ps, false) : RV)) fun r ev' F' H' => ∀ v, ResR X.K F' H0 ev' σ H H' r v → Q v H' := by
        rw [← ec]
        exact h3
      refine Wt.ret a3.er h4 _ ?_
      show Rep X.K F3 H3 _ (.tup ps)
      unfold Rep
      exact ⟨a, xs, rfl, hx, r1⟩
    · refine sSl_of cut_X ⟨a, xs, rfl, hx.sqT, hw, fun p o hp hc hd => ?_⟩
      exact h3 F3 _ (a3.er.fresh hp) _ (a3.er.newT hp hc hd r1.cut)
  | lst ps =>
    obtain ⟨a, xs, rfl, hx, r1⟩ := rx3
    refine sSl_of sl_list ⟨a, xs, rfl, SqL.of hx, fun p hp => ?_⟩
    exact h3 F3 _ (a3.er.fresh hp) _ (a3.er.newL s3 hp r1.cut)
  | _ => exact h3.elim

/-! ### tests -/
def truP : PV → Option Bool
  | .non => some false
  | .bl b => some b
  | .int i => some (i != 0)
  | .tup ps => some (!ps.isEmpty)
  | .lst ps => some (!ps.isEmpty)
  | _ => none
theorem RepL.isEmpty {K : Fr} {F : FS} {H : Hp} {vs : List V} {ps : List PV} (h : RepL K F H vs ps) : vs.isEmpty = ps.isEmpty := by
  cases ps with
  | nil => rw [h.nil_inv]; rfl
  | cons p ps =>
    unfold RepL at h
    obtain ⟨x, r, rfl, _⟩ := h
    rfl
theorem RepT.tru {K : Fr} {F : FS} {H : Hp} {v : V} {p : PV} {b : Bool} (h : RepT K F H v p) (e : truP p = some b) : TruV K v H b := by
  cases p <;> unfold truP at e <;> cases e
  · have h' : v = .non := h; subst h'; rfl
  · have h' : v = .bl _ := h; subst h'; rfl
  · have h' : v = .int _ := h; subst h'; rfl
  · have h' : Rep K F H v (.tup _) := h
    unfold Rep at h'
    obtain ⟨a, xs, rfl, q, r⟩ := h'
    exact .inr (.inl ⟨xs, q.sqT, by rw [r.isEmpty]⟩)
  · obtain ⟨a, xs, rfl, q, r⟩ := h
    exact .inl ⟨xs, SqL.of q, by rw [r.isEmpty]⟩
def tTru (m : M PV) : M Bool := bnd m fun p => opt (truP p)
theorem t_val {e : Expr} {m : M PV} (s : SP X W cm e m) (he : ∀ whole, PySem.isTrue e X.env whole = (do let v ← whole; standAt e.pos; holding [v] (truthy v)) := by intro _; rfl) : ST X W cm e (tTru m) := .mk' fun F H0 H ev σ Q r h => by
  refine sT_of (pt_truth sE_pe he) ?_
  refine s.go r (h.bnd.mono fun p ev1 F1 H1 a1 ⟨n1, h1⟩ x rx => ?_)
  cases e1 : truP p with
  | none => rw [e1] at h1; exact h1.elim
  | some b => rw [e1] at h1; exact ⟨b, rx.tru e1, Wt.ret (P := fun b _ _ H' => Q b H') a1.er h1⟩
def blOf (m : M RV) : M Bool := bnd m fun r => match r.1 with
  | .bl b => ret b
  | _ => bad
theorem t_cmp {op : CmpOp} {g : PV → PV → Option RV} {a b : Expr} {ma mb : M PV} {pos : Pos} (ho : OpOk X (compareOp op) g) (ha : SP X W cm a ma) (hb : SP X W cm b mb) (hm : behindInMarks op b = false := by first | exact nomark _ | rfl) : ST X W cm (.Compare a [op] [b] pos) (blOf (eOp g ma mb)) := .mk' fun F H0 H ev σ Q r h => by
  refine sT_of (pt_cmpR sOp_ok sE_pe sE_pe hm) ?_
  refine op2 ho ha hb r (h.bnd.mono fun z ev1 F1 H1 a1 ⟨n1, h1⟩ v rv => ?_)
  obtain ⟨p, fr⟩ := z
  cases p with
  | bl b =>
    have e : v = .bl b := by
      have := rv.top
      exact this
    exact ⟨b, e, Wt.ret (P := fun b _ _ H' => Q b H') a1.er h1⟩
  | _ => exact h1.elim
def eChain (g g' : PV → PV → Option RV) (a b c : M PV) : M RV := bnd a fun x => bnd b fun y => bnd (opt (g x y)) fun r => match r.1 with
  | .bl true => bnd c fun z => opt (g' y z)
  | .bl false => ret (.bl false, false)
  | _ => bad
theorem op_opt {f : Value → Value → Sem Value} {g : PV → PV → Option RV} (ho : OpOk X f g) {F : FS} {H0 H : Hp} {ev : SL} {σ : St} {x y : V} {p q : PV} {Q : VK} {P : RV → SL → FS → Hp → Prop} (r : ER X.K F H0 ev σ H) (rx : RepT X.K F H x p) (ry : RepT X.K F H y q)
    (h : Wt X.K W cm F H0 ev σ H (opt (g p q)) P) (hP : ∀ z F' H' v, Aft X.K F H0 ev ev σ H F' H' → ResR X.K F' H0 ev σ H H' z v → P z ev F' H' → Q v H') : sOp X f x y H Q := by
  cases e : g p q with
  | none => rw [e] at h; exact h.elim
  | some z =>
    rw [e] at h
    exact ho F H0 H ev σ x y p q z Q r rx ry e fun F' v H' a rr => hP z F' H' v a rr (h F' H' a)
theorem chain2 {op op' : CmpOp} {g g' : PV → PV → Option RV} {a b c : Expr} {ma mb mc : M PV} (ho : OpOk X (compareOp op) g) (ho' : OpOk X (compareOp op') g') (ha : SP X W cm a ma) (hb : SP X W cm b mb) (hc : SP X W cm c mc) {F : FS} {H0 H : Hp} {ev : SL} {σ : St} {Q : VK} (r : ER X.K F H0 ev σ H)
    (h : Wt X.K W cm F H0 ev σ H (eChain g g' ma mb mc) fun r ev' F' H' => ∀ v, ResR X.K F' H0 ev' σ H H' r v → Q v H') : tChain (sOp X (compareOp op)) (sOp X (compareOp op')) (sE X a) (sE X b) (sE X c) σ H Q := by
  refine ha.go r (h.bnd.mono fun p ev1 F1 H1 a1 ⟨n1, h1⟩ x rx => ?_)
  refine hb.go a1.er (h1.bnd.mono fun q ev2 F2 H2 a2 ⟨n2, h2⟩ y ry => ?_)
  refine op_opt ho a2.er (rx.mono a2.same a2.sub) ry h2.bnd fun z F3 H3 v a3 rz ⟨n3, h3⟩ => ?_
  obtain ⟨p', fr⟩ := z
  cases p' with
  | bl k =>
    have e : v = .bl k := rz.top
    refine ⟨k, e, ?_⟩
    cases k with
    | true =>
      refine iteT ?_
      refine hc.go a3.er (h3.bnd.mono fun w ev4 F4 H4 a4 ⟨n4, h4⟩ u ru => ?_)
      refine op_opt ho' a4.er ((ry.mono a3.same a3.sub).mono a4.same a4.sub) ru h4 fun z F5 H5 v a5 rz hp => ?_
      exact hp v (rz.later (a1.same.trans (a2.same.trans (a3.same.trans a4.same))))
    | false => exact iteF (Wt.ret a3.er h3 _ res_bl)
  | _ => exact h3.elim
theorem e_chain {op op' : CmpOp} {g g' : PV → PV → Option RV} {a b c : Expr} {ma mb mc : M PV} {pos : Pos} (ho : OpOk X (compareOp op) g) (ho' : OpOk X (compareOp op') g') (ha : SP X W cm a ma) (hb : SP X W cm b mb) (hc : SP X W cm c mc)
    (hm : lastMarks [op, op'] [b, c] = false := by with_unfolding_all rfl) : SE X W cm (.Compare a [op, op'] [b, c] pos) (eChain g g' ma mb mc) := .mk' fun F H0 H ev σ Q r h =>
  sE_of (pe_chain sOp_ok sOp_ok sE_pe sE_pe sE_pe hm) (chain2 ho ho' ha hb hc r h)
theorem t_chain {op op' : CmpOp} {g g' : PV → PV → Option RV} {a b c : Expr} {ma mb mc : M PV} {pos : Pos} (ho : OpOk X (compareOp op) g) (ho' : OpOk X (compareOp op') g') (ha : SP X W cm a ma) (hb : SP X W cm b mb) (hc : SP X W cm c mc)
    (hm : lastMarks [op, op'] [b, c] = false := by with_unfolding_all rfl) : ST X W cm (.Compare a [op, op'] [b, c] pos) (blOf (eChain g g' ma mb mc)) := .mk' fun F H0 H ev σ Q r h => by
  refine sT_of (pt_chain sOp_ok sOp_ok sE_pe sE_pe sE_pe hm) ?_
  refine chain2 ho ho' ha hb hc r (h.bnd.mono fun z ev1 F1 H1 a1 ⟨n1, h1⟩ v rv => ?_)
  obtain ⟨p, fr⟩ := z
  cases p with
  | bl b => exact ⟨b, rv.top, Wt.ret (P := fun b _ _ H' => Q b H') a1.er h1⟩
  | _ => exact h1.elim
/-! ### not, and, or -/
def mNot (m : M Bool) : M Bool := bnd m fun b => ret (!b)
theorem t_not {a : Expr} {m : M Bool} {pos : Pos} (s : ST X W cm a m) : ST X W cm (.UnaryOp .Not a pos) (mNot m) := .mk' fun F H0 H ev σ Q r h => by
  refine sT_of (pt_not sT_pt) ?_
  exact s.go r (h.bnd.mono fun b ev1 F1 H1 a1 ⟨n1, h1⟩ => Wt.ret (P := fun b _ _ H' => Q b H') a1.er h1)
def sW (X : Cx) (e : Expr) : TT := fun σ H Q => ∀ (whole : Sem Value) (pins : List (Addr × Obj)) (s : Shared), L2.Inv X pins σ H s → wpAny (model X.prog X.w) X.A (PySem.isTrue e X.env whole) (TP X pins σ Q) X.xe s
theorem sW_pw {e : Expr} : PW X e (sW X e) := ⟨fun wh pins s σ H Q I h => h wh pins s I⟩
theorem sW_of {e : Expr} {t : TT} {σ : St} {H : Hp} {Q : Bool → Hp → Prop} (p : PW X e t) (h : t σ H Q) : sW X e σ H Q := fun wh pins s I => p.run wh pins s σ H Q I h
structure SW (X : Cx) (W : WX) (cm : CM) (e : Expr) (m : M Bool) : Prop where
  go : ∀ {F : FS} {H0 H : Hp} {ev : SL} {σ : St} {Q : Bool → Hp → Prop}, ER X.K F H0 ev σ H → (Wt X.K W cm F H0 ev σ H m fun b _ _ H' => Q b H') → sW X e σ H Q
theorem t_w {e : Expr} {m : M Bool} (s : SW X W cm e m) : ST X W cm e m := .mk' fun F H0 H ev σ Q r h => sT_of (PW.pt sW_pw) (s.go r h)
def mAnd (a b : M Bool) : M Bool := bnd a fun x => if x then b else ret false
def mOr (a b : M Bool) : M Bool := bnd a fun x => if x then ret true else b
theorem w_one {a : Expr} {m : M Bool} {pos : Pos} (s : ST X W cm a m) : SW X W cm (.BoolOp .And [a] pos) m := ⟨fun {F H0 H ev σ Q} r h => sW_of (pw_and1 sT_pt) (s.go r h)⟩
theorem w_oneO {a : Expr} {m : M Bool} {pos : Pos} (s : ST X W cm a m) : SW X W cm (.BoolOp .Or [a] pos) m := ⟨fun {F H0 H ev σ Q} r h => sW_of (pw_or1 sT_pt) (s.go r h)⟩
theorem w_and {a b : Expr} {rest : List Expr} {ma mb : M Bool} {pos : Pos} (s : ST X W cm a ma) (u : SW X W cm (.BoolOp .And (b :: rest) pos) mb) : SW X W cm (.BoolOp .And (a :: b :: rest) pos) (mAnd ma mb) := ⟨fun {F H0 H ev σ Q} r h => by
  refine sW_of (pw_and sT_pt sW_pw) ?_
  refine s.go r (h.bnd.mono fun k ev1 F1 H1 a1 ⟨n1, h1⟩ => ?_)
  cases k with
  | true => exact iteT (u.go a1.er h1)
  | false => exact iteF (Wt.ret (P := fun b _ _ H' => Q b H') a1.er h1)⟩
theorem w_or {a b : Expr} {rest : List Expr} {ma mb : M Bool} {pos : Pos} (s : ST X W cm a ma) (u : SW X W cm (.BoolOp .Or (b :: rest) pos) mb) : SW X W cm (.BoolOp .Or (a :: b :: rest) pos) (mOr ma mb) := ⟨fun {F H0 H ev σ Q} r h => by
  refine sW_of (pw_or sT_pt sW_pw) ?_
  refine s.go r (h.bnd.mono fun k ev1 F1 H1 a1 ⟨n1, h1⟩ => ?_)
  cases k with
  | true => exact iteT (Wt.ret (P := fun b _ _ H' => Q b H') a1.er h1)
  | false => exact iteF (u.go a1.er h1)⟩
/-- as values -/
def vAnd (a b : M RV) : M RV := bnd a fun r => match r.1 with
  | .bl true => b
  | .bl false => ret (.bl false, false)
  | _ => bad
def vOr (a b : M RV) : M RV := bnd a fun r => match r.1 with
  | .bl true => ret (.bl true, false)
  | .bl false => b
  | _ => bad
def vNot (a : M RV) : M RV := bnd a fun r => match r.1 with
  | .bl b => ret (.bl (!b), false)
  | _ => bad
theorem e_one {op : BoolOp} {a : Expr} {m : M RV} {pos : Pos} (s : SE X W cm a m) : SE X W cm (.BoolOp op [a] pos) m := .mk' fun F H0 H ev σ Q r h => sE_of (pe_one sE_pe) (s.go r h)
theorem e_and {a b : Expr} {rest : List Expr} {ma mb : M RV} {pos : Pos} (s : SE X W cm a ma) (u : SE X W cm (.BoolOp .And (b :: rest) pos) mb) : SE X W cm (.BoolOp .And (a :: b :: rest) pos) (vAnd ma mb) := .mk' fun F H0 H ev σ Q r h => by
  refine sE_of (pe_and sE_pe sE_pe) ?_
  refine s.go r (h.bnd.mono fun z ev1 F1 H1 a1 ⟨n1, h1⟩ v rv => ?_)
  obtain ⟨p, fr⟩ := z
  cases p with
  | bl k =>
    refine ⟨k, rv.top, ?_⟩
    cases k with
    | true => exact iteT (u.go a1.er (h1.mono fun z ev2 F2 H2 a2 hp v rv => hp v (rv.later a1.same)))
    | false => exact iteF (Wt.ret a1.er h1 _ res_bl)
  | _ => exact h1.elim
theorem e_or {a b : Expr} {rest : List Expr} {ma mb : M RV} {pos : Pos} (s : SE X W cm a ma) (u : SE X W cm (.BoolOp .Or (b :: rest) pos) mb) : SE X W cm (.BoolOp .Or (a :: b :: rest) pos) (vOr ma mb) := .mk' fun F H0 H ev σ Q r h => by
  refine sE_of (pe_or sE_pe sE_pe) ?_
  refine s.go r (h.bnd.mono fun z ev1 F1 H1 a1 ⟨n1, h1⟩ v rv => ?_)
  obtain ⟨p, fr⟩ := z
  cases p with
  | bl k =>
    refine ⟨k, rv.top, ?_⟩
    cases k with
    | true => exact iteT (Wt.ret a1.er h1 _ res_bl)
    | false => exact iteF (u.go a1.er (h1.mono fun z ev2 F2 H2 a2 hp v rv => hp v (rv.later a1.same)))
  | _ => exact h1.elim
theorem e_not {a : Expr} {m : M RV} {pos : Pos} (s : SE X W cm a m) : SE X W cm (.UnaryOp .Not a pos) (vNot m) := .mk' fun F H0 H ev σ Q r h => by
  refine sE_of (pe_not sE_pe) ?_
  refine s.go r (h.bnd.mono fun z ev1 F1 H1 a1 ⟨n1, h1⟩ v rv => ?_)
  obtain ⟨p, fr⟩ := z
  cases p with
  | bl k => exact ⟨k, rv.top, Wt.ret a1.er h1 _ res_bl⟩
  | _ => exact h1.elim
def vNeg (a : M PV) : M RV := bnd a fun p => match p with
  | .int i => ret (.int (-i), false)
  | _ => bad
theorem e_neg {a : Expr} {m : M PV} {pos : Pos} (s : SP X W cm a m) : SE X W cm (.UnaryOp .USub a pos) (vNeg m) := .mk' fun F H0 H ev σ Q r h => by
  refine sE_of (pe_un un_neg sE_pe) ?_
  refine s.go r (h.bnd.mono fun p ev1 F1 H1 a1 ⟨n1, h1⟩ v rv => ?_)
  cases p with
  | int i => exact ⟨i, rv, Wt.ret a1.er h1 _ res_int⟩
  | _ => exact h1.elim
def mIf (c : M Bool) (a b : M RV) : M RV := bnd c fun k => if k then a else b
theorem e_if {c a b : Expr} {mc : M Bool} {ma mb : M RV} {pos : Pos} (sc : ST X W cm c mc) (sa : SE X W cm a ma) (sb : SE X W cm b mb) : SE X W cm (.IfExp c a b pos) (mIf mc ma mb) := .mk' fun F H0 H ev σ Q r h => by
  refine sE_of (pe_ifExp sT_pt sE_pe sE_pe) ?_
  refine sc.go r (h.bnd.mono fun k ev1 F1 H1 a1 ⟨n1, h1⟩ => ?_)
  cases k with
  | true => exact iteT (sa.go a1.er (h1.mono fun z ev2 F2 H2 a2 hp v rv => hp v (rv.later a1.same)))
  | false => exact iteF (sb.go a1.er (h1.mono fun z ev2 F2 H2 a2 hp v rv => hp v (rv.later a1.same)))

/-! ### lists of expressions -/
def sA (X : Cx) (es : List Expr) : TA := fun σ H Q => ∀ (pos : Pos) (pins : List (Addr × Obj)) (s : Shared), L2.Inv X pins σ H s → wpAny (model X.prog X.w) X.A (spliced (backTo pos (starEach es X.env))) (AP X pins σ Q) X.xe s
theorem sA_pa {es : List Expr} : PA X es (sA X es) := ⟨fun pos pins s σ H Q I h => h pos pins s I⟩
theorem sA_of {es : List Expr} {t : TA} {σ : St} {H : Hp} {Q : List V → Hp → Prop} (p : PA X es t) (h : t σ H Q) : sA X es σ H Q := fun pos pins s I => p.run pos pins s σ H Q I h
/-- values that are kept -/
structure SA (X : Cx) (W : WX) (cm : CM) (es : List Expr) (m : M (List PV)) : Prop where
  go : ∀ {F : FS} {H0 H : Hp} {ev : SL} {σ : St} {Q : List V → Hp → Prop}, ER X.K F H0 ev σ H → (Wt X.K W cm F H0 ev σ H m fun ps ev' F' H' => ∀ F2 vs, Aft X.K F H0 ev ev' σ H F2 H' → RepL X.K F2 H' vs ps → Q vs H') → sA X es σ H Q
theorem a_nil : SA X W cm [] (ret []) := ⟨fun {F H0 H ev σ Q} r h => sA_of pa_nil (Wt.ret (P := fun ps ev' F' H' => ∀ F2 vs, Aft X.K F H0 ev ev' σ H F2 H' → RepL X.K F2 H' vs ps → Q vs H') r h F [] r.aft RepL.nil)⟩
def aCons (a : M RV) (r : M (List PV)) : M (List PV) := bnd a fun x => bnd r fun ps => ret (x.1 :: ps)
theorem Aft.of2 {K : Fr} {F F1 F2 : FS} {H0 H H1 : Hp} {ev ev1 : SL} {σ : St} (a : Aft K F H0 ev ev1 σ H F1 H1) (m : M (List PV)) : True := trivial
theorem a_cons {e : Expr} {es : List Expr} {m : M RV} {ms : M (List PV)} (s : SE X W cm e m) (u : SA X W cm es ms) (hs : starEach (e :: es) X.env = (false, eval e X.env) :: starEach es X.env := by rfl) : SA X W cm (e :: es) (aCons m ms) := ⟨fun {F H0 H ev σ Q} r h => by
  refine sA_of (pa_cons sE_pe sA_pa hs) ?_
  refine s.go r ?_
  unfold Wt at h ⊢
  unfold aCons Pv.bnd at h
  cases e1 : m ev with
  | bad => simp only [e1] at h
  | exc c ev1 => simp only [e1] at h; exact h
  | ok z ev1 =>
    simp only [e1] at h
    intro F1 H1 a1 v rv
    obtain ⟨G, aG, rG, _⟩ := rv.share a1
    refine u.go aG.er ?_
    unfold Wt
    cases e2 : ms ev1 with
    | bad => simp only [e2] at h
    | exc c ev2 => simp only [e2] at h; exact fun F2 H2 a2 => h F2 H2 (aG.trans a2)
    | ok ps ev2 =>
      simp only [e2, Pv.ret] at h
      intro F2 H2 a2 F3 vs a3 rs
      exact h F2 H2 (aG.trans a2) F3 (v :: vs) (aG.trans a3) (RepL.cons (rG.mono (.of a3.same) a3.sub) rs)⟩
def mTup (m : M (List PV)) : M RV := bnd m fun ps => if ps.length ≤ SZ then ret (.tup ps, false) else bad
def mLst (m : M (List PV)) : M RV := bnd m fun ps => if ps.length ≤ SZ then ret (.lst ps, true) else bad
theorem e_tup {es : List Expr} {k : Nat} {m : M (List PV)} {pos : Pos} (s : SA X W cm es m) : SE X W cm (.Tuple es k pos) (mTup m) := .mk' fun F H0 H ev σ Q r h => by
  refine sE_of (pe_tupX sA_pa) ?_
  refine s.go r ?_
  unfold Wt at h ⊢
  unfold mTup Pv.bnd at h
  cases e1 : m ev with
  | bad => simp only [e1] at h
  | exc c ev1 => simp only [e1] at h; exact h
  | ok ps ev1 =>
    simp only [e1] at h
    intro F1 H1 _ F2 vs a2 rs
    by_cases hz : ps.length ≤ SZ
    · rw [if_pos hz] at h
      refine ⟨by rw [rs.length]; exact hz, fun p o hp hc hd => ?_⟩
      exact h F2 _ (a2.trans (a2.er.fresh hp)) _ (a2.er.newT hp hc hd rs)
    · rw [if_neg hz] at h
      exact h.elim
theorem e_lst {es : List Expr} {m : M (List PV)} {pos : Pos} (s : SA X W cm es m) : SE X W cm (.List es pos) (mLst m) := .mk' fun F H0 H ev σ Q r h => by
  refine sE_of (pe_lst sA_pa) ?_
  refine s.go r ?_
  unfold Wt at h ⊢
  unfold mLst Pv.bnd at h
  cases e1 : m ev with
  | bad => simp only [e1] at h
  | exc c ev1 => simp only [e1] at h; exact h
  | ok ps ev1 =>
    simp only [e1] at h
    intro F1 H1 _ F2 vs a2 rs
    by_cases hz : ps.length ≤ SZ
    · rw [if_pos hz] at h
      refine ⟨by rw [rs.length]; exact hz, fun p hp => ?_⟩
      exact h F2 _ (a2.trans (a2.er.fresh hp)) _ (a2.er.newL a2.same hp rs)
    · rw [if_neg hz] at h
      exact h.elim
end
end Pv

set_option Elab.async false
set_option linter.all false
set_option maxRecDepth 100000
set_option maxHeartbeats 1000000

/-! ### sorted(t) of a tuple, of a list -/
namespace SrtO
open PySem PyProof.Rows Srt
section
variable {prog : Program} {w : World} {A : Around} {E : Value → Shared → Prop} {s : Shared}
theorem collect_sq {l : Addr} {vs : List Value} {o : Obj} {n : Nat} {T : String} {Q : List Value → Shared → Prop} (hT : T = "list" ∨ T = "tuple") (ho : s.heap.get? l = some o) (hc : o.cls = .type T) (hd : o.data = .seq vs.toArray n)
    (h : Q vs { s with heap := (s.heap.push (seqObj "list" #[] 0)).update s.heap.objs.size (Obj.mapSeq (· ++ vs.toArray)) }) (hsz : vs.length ≤ sizeLine) :
    wpAny (model prog w) A (collect (.ref l)) Q E s := by
  unfold collect
  refine wpAny_bind (wpAny_runValue (codeAny_builtin entry_proto_collect' ?_))
  show wpAny _ _ (do again (.builtin "list.__iadd__" ⟨[← newList [], .ref l], []⟩)) _ _ s
  refine wpAny_bind (wpAny_newList (wpAny_pure ⟨Code.quiet_builtin _ (by decide +kernel), codeAny_builtin entry_list_iadd' ?_⟩))
  show wpAny _ _ (Builtin.List.listExtendWith (.ref s.heap.objs.size) (.ref l) (.ref s.heap.objs.size)) _ _ { s with heap := s.heap.push (seqObj "list" #[] 0) }
  unfold Builtin.List.listExtendWith
  have ho' : (s.heap.push (seqObj "list" #[] 0)).get? l = some o := Heap.get?_push_of_some _ ho
  refine wpAny_bind (wpAny_typeOf (T := T) ⟨o, ho', hc⟩ ?_)
  have ht : (Builtin.List.listSameRef (.ref s.heap.objs.size) (.ref l) || Value.type T == Value.type "list" || Value.type T == Value.type "tuple") = true := by
    rcases hT with rfl | rfl <;> simp
  rw [if_pos ht]
  refine wpAny_bind (listItems_at ho' hd ?_)
  refine wpAny_bind (listItems_at (xs := #[]) (n := 0) (Heap.get?_push_size _ rfl) rfl ?_)
  rw [if_neg (by simp)]
  refine wpAny_bind (listUpdate_at (xs := #[]) (n := 0) (Heap.get?_push_size _ rfl) rfl ?_ (Nat.zero_le _) (by show (#[] ++ vs.toArray).size ≤ sizeLine + 1; simp only [Array.size_append, List.size_toArray, List.length_nil]; omega))
  refine wpAny_pure ?_
  show wpAny (model prog w) A (do
      let o ← load s.heap.objs.size
      match o.data with
      | .seq xs _ => pure xs.toList
      | _ => unsupported "internal:collect") Q E { s with heap := (s.heap.push (seqObj "list" #[] 0)).update s.heap.objs.size (Obj.mapSeq (· ++ vs.toArray)) }
  refine wpAny_bind (wpAny_load (get?_update_seq (Heap.get?_push_size _ rfl) _) ?_)
  show wpAny _ _ (pure ((#[] : Array Value) ++ vs.toArray).toList) Q E _
  rw [show ((#[] : Array Value) ++ vs.toArray).toList = vs by simp]
  exact wpAny_pure h
theorem sorted_ordT {l : Addr} {vs : List Value} {ltv : Value → Value → Bool} {Q : Value → Shared → Prop} (O : Swo ltv) (hl : IsTup s.heap l vs.toArray) (hz : vs.length ≤ sizeLine)
    (hS : 2 ≤ vs.length → ∀ (h₁ : Heap) (a : Addr), h₁.get? a = some (seqObj "list" vs.toArray 0) → (∀ b o, s.heap.get? b = some o → b ≠ a ∧ h₁.get? b = some o) → SortableO prog w A.in1.in1 { s with heap := h₁ } a vs ltv)
    (h : ∀ out : List Value, Srtd ltv out → Stb ltv out vs → Q (.ref (s.heap.objs.size + 1)) { s with heap := sortedAll s.heap vs out.toArray }) :
    wpAny (model prog w) A (call (.builtin "sorted") [.ref l]) Q E s := by
  refine Calls.call_function_entry kind_sorted plain_sorted entry_sorted (args_sorted1 _) ?_
  unfold Builtin.«sorted»
  refine wpAny_bind (m := checkCount "sorted" 1 1 _) (wpAny_pure ?_)
  obtain ⟨o, ho, hc, n, hd⟩ := hl
  refine wpAny_bind (collect_sq (.inr rfl) ho hc hd ?_ hz)
  refine wpAny_bind (wpAny_newList ?_ hz)
  have hsz : ((s.heap.push (seqObj "list" #[] 0)).update s.heap.objs.size (Obj.mapSeq (· ++ vs.toArray))).objs.size = s.heap.objs.size + 1 := by
    rw [Heap.size_update, size_push']
  have hoL : (((s.heap.push (seqObj "list" #[] 0)).update s.heap.objs.size (Obj.mapSeq (· ++ vs.toArray))).push (seqObj "list" vs.toArray 0)).get? (s.heap.objs.size + 1) = some (seqObj "list" vs.toArray 0) := by
    rw [← hsz]; exact Heap.get?_push_size _ rfl
  have keep : ∀ b o, s.heap.get? b = some o → b ≠ s.heap.objs.size + 1 ∧ (((s.heap.push (seqObj "list" #[] 0)).update s.heap.objs.size (Obj.mapSeq (· ++ vs.toArray))).push (seqObj "list" vs.toArray 0)).get? b = some o := fun b o q => by
    have hlt : b < s.heap.objs.size := Heap.lt_size q
    refine ⟨Nat.ne_of_lt (Nat.lt_succ_of_lt hlt), Heap.get?_push_of_some _ ?_⟩
    rw [Heap.get?_update_ne _ _ _ _ (Nat.ne_of_lt hlt)]
    exact Heap.get?_push_of_some _ q
  show wpAny _ _ _ _ _ { s with heap := ((s.heap.push (seqObj "list" #[] 0)).update s.heap.objs.size (Obj.mapSeq (· ++ vs.toArray))).push (seqObj "list" vs.toArray 0) }
  rw [hsz]
  refine wpAny_bind (wpAny_holding (wpAny_call_entry slot_list_sort ⟨_, hoL, rfl⟩ entry_list_sort (list_sort_ord O hoL hz (fun h2 => hS h2 _ _ hoL keep) fun out hs hb => ⟨_, rfl, ?_⟩) (args_list_sort _)))
  exact wpAny_pure ⟨_, rfl, h out hs hb⟩
end
end SrtO

namespace Pv
open PySem PySem.Spec L2
open PyProof.Rows hiding St

/-! ### ints in order -/
def ins (i : Int) : List Int → List Int
  | [] => [i]
  | j :: r => if i ≤ j then i :: j :: r else j :: ins i r
def isort : List Int → List Int
  | [] => []
  | i :: r => ins i (isort r)
theorem ins_perm (i : Int) : ∀ l : List Int, (ins i l).Perm (i :: l)
  | [] => .refl _
  | j :: r => by
    unfold ins
    split
    · exact .refl _
    · exact ((ins_perm i r).cons j).trans (.swap i j r)
theorem isort_perm : ∀ l : List Int, (isort l).Perm l
  | [] => .refl _
  | i :: r => (ins_perm i (isort r)).trans ((isort_perm r).cons i)
theorem ins_sorted (i : Int) : ∀ {l : List Int}, l.Pairwise (· ≤ ·) → (ins i l).Pairwise (· ≤ ·)
  | [], _ => by unfold ins; simp
  | j :: r, h => by
    obtain ⟨h1, h2⟩ := List.pairwise_cons.mp h
    unfold ins
    split
    · rename_i c
      refine List.pairwise_cons.mpr ⟨fun x hx => ?_, h⟩
      rcases List.mem_cons.mp hx with rfl | hx
      · exact c
      · have := h1 x hx; omega
    · rename_i c
      refine List.pairwise_cons.mpr ⟨fun x hx => ?_, ins_sorted i h2⟩
      rcases List.mem_cons.mp ((ins_perm i r).mem_iff.mp hx) with rfl | hx
      · omega
      · exact h1 x hx
theorem isort_sorted : ∀ l : List Int, (isort l).Pairwise (· ≤ ·)
  | [] => .nil
  | i :: r => ins_sorted i (isort_sorted r)
theorem sorted_uniq : ∀ {l m : List Int}, l.Perm m → l.Pairwise (· ≤ ·) → m.Pairwise (· ≤ ·) → l = m
  | [], m, p, _, _ => (List.nil_perm.mp p).symm
  | x :: l, [], p, _, _ => by have := p.length_eq; simp at this
  | x :: l, y :: m, p, hl, hm => by
    obtain ⟨a1, a2⟩ := List.pairwise_cons.mp hl
    obtain ⟨b1, b2⟩ := List.pairwise_cons.mp hm
    have e : x = y := by
      have h1 : x ∈ y :: m := p.mem_iff.mp List.mem_cons_self
      have h2 : y ∈ x :: l := p.mem_iff.mpr List.mem_cons_self
      have c1 : y ≤ x := by
        rcases List.mem_cons.mp h1 with e | h
        · omega
        · exact b1 x h
      have c2 : x ≤ y := by
        rcases List.mem_cons.mp h2 with e | h
        · omega
        · exact a1 y h
      omega
    subst e
    rw [sorted_uniq (List.Perm.cons_inv p) a2 b2]
theorem isort_of {l m : List Int} (p : m.Perm l) (h : m.Pairwise (· ≤ ·)) : m = isort l := sorted_uniq (p.trans (isort_perm l).symm) h (isort_sorted l)

section
variable {X : Cx}
theorem cr_sortedTI : CallR X (.builtin "sorted") (fun vs H Q => ∃ (a : Addr) (ns : List Int), vs = [V.ref a] ∧ SqT X.K H a (ns.map V.int) ∧
    ∀ (ns' : List Int) (p : Addr), ns'.Perm ns → ns'.Pairwise (· ≤ ·) → H p = none → Q (.ref p) (upd H p (.lst (ns'.map V.int)))) := by
  intro pins s σ H vs us Q I r h
  obtain ⟨a, ns, rfl, hs, q⟩ := h
  obtain ⟨its, rv, hl, hz⟩ := I.tuple hs
  rw [Vals.ref1 r]
  have hi := rv.ints
  refine SrtO.sorted_ordT SrtO.swo_int hl (by rw [← rv.length]; exact hz) (fun h2 h₁ a' _ _ => SrtO.ints_sortable hi h2) fun out h1 h2 => ?_
  obtain ⟨k1, k2, k3⟩ := SrtO.ints_out hi h1 h2
  obtain ⟨ep, he'⟩ := PyProof.Rows.sortedAll_at s.heap its out.toArray
  have hlen : ((out.map SrtO.iv).map V.int).length ≤ sizeLine := by
    rw [List.length_map, k2.length_eq]
    rw [List.length_map] at hz
    exact hz
  exact ⟨.ref _, upd H (s.heap.objs.size + 1) (.lst ((out.map SrtO.iv).map V.int)), I.laid (t' := s.toks) (fun _ _ => PyProof.Rows.sortedAll_old) (Nat.le_succ _) ⟨hlen, out, ep, vals_of_ints k1, he'⟩, rfl, q _ _ k2 k3 (I.hok.fresh (Nat.le_succ _))⟩
end

section
variable {X : Cx} {W : WX} {cm : CM}
/-! ### arguments looked at -/
def RepTL (K : Fr) (F : FS) (H : Hp) : List V → List PV → Prop
  | [], [] => True
  | v :: vs, p :: ps => RepT K F H v p ∧ RepTL K F H vs ps
  | _, _ => False
structure SK (X : Cx) (W : WX) (cm : CM) (es : List Expr) (m : M (List PV)) : Prop where
  go : ∀ {F : FS} {H0 H : Hp} {ev : SL} {σ : St} {Q : List V → Hp → Prop}, ER X.K F H0 ev σ H → (Wt X.K W cm F H0 ev σ H m fun ps ev' F' H' => ∀ vs, RepTL X.K F' H' vs ps → Q vs H') → sA X es σ H Q
theorem k_nil : SK X W cm [] (ret []) := ⟨fun {F H0 H ev σ Q} r h => sA_of pa_nil (Wt.ret (P := fun ps ev' F' H' => ∀ vs, RepTL X.K F' H' vs ps → Q vs H') r h [] trivial)⟩
def kCons (a : M PV) (r : M (List PV)) : M (List PV) := bnd a fun x => bnd r fun ps => ret (x :: ps)
theorem k_cons {e : Expr} {es : List Expr} {m : M PV} {ms : M (List PV)} (s : SP X W cm e m) (u : SK X W cm es ms) (hs : starEach (e :: es) X.env = (false, eval e X.env) :: starEach es X.env := by rfl) : SK X W cm (e :: es) (kCons m ms) := ⟨fun {F H0 H ev σ Q} r h => by
  refine sA_of (pa_cons sE_pe sA_pa hs) ?_
  refine s.go r (h.bnd.mono fun p ev1 F1 H1 a1 hh v rv => ?_)
  refine u.go a1.er (hh.2.bnd.mono fun ps ev2 F2 H2 a2 hh2 vs rs => ?_)
  exact Wt.ret (P := fun ps ev' F' H' => ∀ vs, RepTL X.K F' H' vs ps → Q vs H') a2.er hh2.2 (v :: vs) ⟨rv.mono a2.same a2.sub, rs⟩⟩
def sCl (X : Cx) (f : Value) : List V → Hp → VK → Prop := fun xs H Q => ∀ (pins : List (Addr × Obj)) (s : Shared) (σ : St) (us : List Value), L2.Inv X pins σ H s → Vals xs us → wpAny (model X.prog X.w) X.A (call f us) (EP X pins σ Q) X.xe s
theorem sCl_ok {f : Value} : CallR X f (sCl X f) := fun pins s σ H xs us Q I r h => h pins s σ us I r
theorem sCl_of {f : Value} {r : List V → Hp → VK → Prop} {xs : List V} {H : Hp} {Q : VK} (o : CallR X f r) (h : r xs H Q) : sCl X f xs H Q := fun pins s σ us I rv => o pins s σ H xs us Q I rv h
def CallOk (X : Cx) (f : Value) (g : List PV → Option RV) : Prop := ∀ (F : FS) (H0 H : Hp) (ev : SL) (σ : St) (vs : List V) (ps : List PV) (r : RV) (Q : VK), ER X.K F H0 ev σ H → RepTL X.K F H vs ps → g ps = some r →
  (∀ F' v H', Aft X.K F H0 ev ev σ H F' H' → ResR X.K F' H0 ev σ H H' r v → Q v H') → sCl X f vs H Q
def eCall (g : List PV → Option RV) (a : M (List PV)) : M RV := bnd a fun ps => opt (g ps)
theorem call2 {f : Value} {g : List PV → Option RV} (ho : CallOk X f g) {es : List Expr} {ma : M (List PV)} (ha : SK X W cm es ma) {F : FS} {H0 H : Hp} {ev : SL} {σ : St} {Q : VK} (r : ER X.K F H0 ev σ H)
    (h : Wt X.K W cm F H0 ev σ H (eCall g ma) fun r ev' F' H' => ∀ v, ResR X.K F' H0 ev' σ H H' r v → Q v H') : tCB (sCl X f) (sA X es) σ H Q := by
  refine ha.go r (h.bnd.mono fun ps ev1 F1 H1 a1 hh vs rs => ?_)
  have h2 := hh.2
  cases e : g ps with
  | none => rw [e] at h2; exact h2.elim
  | some z =>
    rw [e] at h2
    exact ho F1 H0 H1 ev1 σ vs ps z Q a1.er rs e fun F' v H' a3 rr => h2 F' H' a3 v (rr.later a1.same)
theorem e_callB {id : String} {x : Str} {p pos : Pos} {e : Expr} {es : List Expr} {g : List PV → Option RV} {ma : M (List PV)} (hc : CallOk X (.builtin id) g) (hm : X.mg x = none) (hv : bootBuiltins x = some (.builtin id)) (ha : SK X W cm (e :: es) ma) (hg : Gl X x := by rfl) (hn : x ≠ "__name__" := by decide) (hdb : (x == ("__debug__" : Str)) = false := by decide)
    (he : starEach (e :: es) X.env = (false, eval e X.env) :: starEach es X.env := by rfl) (hpl : (backTo pos (starEach es X.env)).any (·.1) = false := by rfl) : SE X W cm (.Call (.Name x p) (e :: es) [] pos) (eCall g ma) := .mk' fun F H0 H ev σ Q r h =>
  sE_of (pe_callB sCl_ok hg hm hv sA_pa hn hdb he hpl) (call2 hc ha r h)
theorem e_callTy {T : String} {x : Str} {p pos : Pos} {e : Expr} {es : List Expr} {g : List PV → Option RV} {ma : M (List PV)} (hc : CallOk X (.type T) g) (hm : X.mg x = none) (hv : bootBuiltins x = some (.type T)) (ha : SK X W cm (e :: es) ma) (hg : Gl X x := by rfl) (hn : x ≠ "__name__" := by decide) (hdb : (x == ("__debug__" : Str)) = false := by decide)
    (he : starEach (e :: es) X.env = (false, eval e X.env) :: starEach es X.env := by rfl) (hpl : (backTo pos (starEach es X.env)).any (·.1) = false := by rfl) : SE X W cm (.Call (.Name x p) (e :: es) [] pos) (eCall g ma) := .mk' fun F H0 H ev σ Q r h =>
  sE_of (pe_callTy sCl_ok hg hm hv sA_pa hn hdb he hpl) (call2 hc ha r h)
theorem RepTL.one {K : Fr} {F : FS} {H : Hp} {vs : List V} {p : PV} (h : RepTL K F H vs [p]) : ∃ v, vs = [v] ∧ RepT K F H v p := by
  cases vs with
  | nil => exact h.elim
  | cons v vs =>
    cases vs with
    | nil => exact ⟨v, rfl, h.1⟩
    | cons _ _ => exact h.2.elim
theorem RepTL.two {K : Fr} {F : FS} {H : Hp} {vs : List V} {p q : PV} (h : RepTL K F H vs [p, q]) : ∃ v w, vs = [v, w] ∧ RepT K F H v p ∧ RepT K F H w q := by
  cases vs with
  | nil => exact h.elim
  | cons v vs =>
    obtain ⟨w, rfl, h2⟩ := RepTL.one h.2
    exact ⟨v, w, rfl, h.1, h2⟩
/-! ### the built-ins -/
def gLen : List PV → Option RV
  | [p] => match items p with
    | some ps => vI ps.length
    | none => match p with
      | .str x => if x.length ≤ SZ then vI x.length else none
      | _ => none
  | _ => none
theorem c_len : CallOk X (.builtin "len") gLen := fun F H0 H ev σ vs ps r Q er rs e hq => by
  unfold gLen at e
  split at e
  · rename_i p
    obtain ⟨v, rfl, rv⟩ := rs.one
    split at e
    · rename_i ps hi
      cases e
      obtain ⟨a, xs, rfl, hs, rl⟩ := rv.items hi
      refine sCl_of call_len_seq ⟨a, xs, rfl, hs, hq F _ H er.aft ?_⟩
      rw [rl.length]
      exact res_int
    · split at e
      · split at e
        · rename_i hz
          cases e
          have ex : v = .str _ := rv
          subst ex
          exact sCl_of call_len_str ⟨_, rfl, hz, hq F _ H er.aft res_int⟩
        · cases e
      · cases e
  · cases e
def gList : List PV → Option RV
  | [p] => match items p with
    | some ps => some (.lst ps, true)
    | none => none
  | _ => none
theorem c_list : CallOk X (.type "list") gList := fun F H0 H ev σ vs ps r Q er rs e hq => by
  unfold gList at e
  split at e
  · rename_i p
    obtain ⟨v, rfl, rv⟩ := rs.one
    split at e
    · rename_i ps hi
      cases e
      obtain ⟨a, xs, rfl, hs, rl⟩ := rv.items hi
      exact sCl_of call_list_of ⟨a, xs, rfl, hs, fun l hl => hq F _ _ (er.fresh hl) (er.newL (Same.refl _) hl rl)⟩
    · cases e
  · cases e
def gTuple : List PV → Option RV
  | [.tup ps] => some (.tup ps, false)
  | [.lst ps] => some (.tup ps, false)
  | _ => none
theorem c_tuple : CallOk X (.type "tuple") gTuple := fun F H0 H ev σ vs ps r Q er rs e hq => by
  unfold gTuple at e
  split at e
  · rename_i ps
    obtain ⟨v, rfl, rv⟩ := rs.one
    cases e
    have rv' : Rep X.K F H v (.tup ps) := rv
    unfold Rep at rv'
    obtain ⟨a, xs, rfl, hx, rl⟩ := rv'
    refine sCl_of call_tuple_of ⟨a, xs, rfl, .inr ⟨hx.sqT, hq F _ H er.aft ?_⟩⟩
    exact rv
  · rename_i ps
    obtain ⟨v, rfl, rv⟩ := rs.one
    cases e
    obtain ⟨a, xs, rfl, hx, rl⟩ := rv
    exact sCl_of tupL_X ⟨a, xs, rfl, SqL.of hx, fun l o hl hc hd => hq F _ _ (er.fresh hl) (er.newT hl hc hd rl)⟩
  · cases e
def gInt : List PV → Option RV
  | [.int i] => vI i
  | [.bl b] => vI (if b then 1 else 0)
  | _ => none
theorem c_int : CallOk X (.type "int") gInt := fun F H0 H ev σ vs ps r Q er rs e hq => by
  unfold gInt at e
  split at e
  · obtain ⟨v, rfl, rv⟩ := rs.one
    cases e
    have ex : v = .int _ := rv
    subst ex
    exact sCl_of call_int1 (.inl ⟨_, rfl, hq F _ H er.aft res_int⟩)
  · obtain ⟨v, rfl, rv⟩ := rs.one
    cases e
    have ex : v = .bl _ := rv
    subst ex
    exact sCl_of call_int1 (.inr ⟨_, rfl, hq F _ H er.aft res_int⟩)
  · cases e
def gAbs : List PV → Option RV
  | [.int i] => vI (if i < 0 then -i else i)
  | _ => none
theorem c_abs : CallOk X (.builtin "abs") gAbs := fun F H0 H ev σ vs ps r Q er rs e hq => by
  unfold gAbs at e
  split at e
  · obtain ⟨v, rfl, rv⟩ := rs.one
    cases e
    have ex : v = .int _ := rv
    subst ex
    exact sCl_of call_abs ⟨_, rfl, hq F _ H er.aft res_int⟩
  · cases e
/-- a list's ints -/
def intsP : List PV → Option (List Int)
  | [] => some []
  | .int i :: ps => (intsP ps).map (i :: ·)
  | _ => none
theorem intsP_eq : ∀ {ps : List PV} {ns : List Int}, intsP ps = some ns → ps = ns.map .int
  | [], ns, e => by unfold intsP at e; cases e; rfl
  | .int i :: ps, ns, e => by
    unfold intsP at e
    obtain ⟨ms, e1, rfl⟩ := Option.map_eq_some_iff.mp e
    rw [intsP_eq e1]; rfl
  | .non :: _, _, e => by unfold intsP at e; cases e
  | .bl _ :: _, _, e => by unfold intsP at e; cases e
  | .str _ :: _, _, e => by unfold intsP at e; cases e
  | .tup _ :: _, _, e => by unfold intsP at e; cases e
  | .lst _ :: _, _, e => by unfold intsP at e; cases e
  | .opq _ :: _, _, e => by unfold intsP at e; cases e
  | .scr _ :: _, _, e => by unfold intsP at e; cases e
  | .itm _ :: _, _, e => by unfold intsP at e; cases e
theorem intsP_map : ∀ ns : List Int, intsP (ns.map .int) = some ns
  | [] => rfl
  | n :: ns => by rw [List.map_cons]; unfold intsP; rw [intsP_map ns]; rfl
def lmin : Int → List Int → Int
  | m, [] => m
  | m, i :: r => lmin (if i < m then i else m) r
def lmax : Int → List Int → Int
  | m, [] => m
  | m, i :: r => lmax (if i > m then i else m) r
theorem lmin_le : ∀ (r : List Int) (m : Int), lmin m r ≤ m ∧ (∀ y ∈ r, lmin m r ≤ y) ∧ (lmin m r = m ∨ lmin m r ∈ r)
  | [], m => ⟨Int.le_refl _, fun _ h => absurd h (by simp), Or.inl rfl⟩
  | i :: r, m => by
    unfold lmin
    obtain ⟨h1, h2, h3⟩ := lmin_le r (if i < m then i else m)
    by_cases c : i < m
    · rw [if_pos c] at h1 h2 h3 ⊢
      refine ⟨by omega, fun y hy => ?_, ?_⟩
      · rcases List.mem_cons.mp hy with rfl | hy
        · exact h1
        · exact h2 y hy
      · rcases h3 with h3 | h3
        · exact .inr (by rw [h3]; exact List.mem_cons_self)
        · exact .inr (List.mem_cons_of_mem _ h3)
    · rw [if_neg c] at h1 h2 h3 ⊢
      refine ⟨h1, fun y hy => ?_, ?_⟩
      · rcases List.mem_cons.mp hy with rfl | hy
        · omega
        · exact h2 y hy
      · rcases h3 with h3 | h3
        · exact .inl h3
        · exact .inr (List.mem_cons_of_mem _ h3)
theorem lmax_le : ∀ (r : List Int) (m : Int), m ≤ lmax m r ∧ (∀ y ∈ r, y ≤ lmax m r) ∧ (lmax m r = m ∨ lmax m r ∈ r)
  | [], m => ⟨Int.le_refl _, fun _ h => absurd h (by simp), Or.inl rfl⟩
  | i :: r, m => by
    unfold lmax
    obtain ⟨h1, h2, h3⟩ := lmax_le r (if i > m then i else m)
    by_cases c : i > m
    · rw [if_pos c] at h1 h2 h3 ⊢
      refine ⟨by omega, fun y hy => ?_, ?_⟩
      · rcases List.mem_cons.mp hy with rfl | hy
        · exact h1
        · exact h2 y hy
      · rcases h3 with h3 | h3
        · exact .inr (by rw [h3]; exact List.mem_cons_self)
        · exact .inr (List.mem_cons_of_mem _ h3)
    · rw [if_neg c] at h1 h2 h3 ⊢
      refine ⟨h1, fun y hy => ?_, ?_⟩
      · rcases List.mem_cons.mp hy with rfl | hy
        · omega
        · exact h2 y hy
      · rcases h3 with h3 | h3
        · exact .inl h3
        · exact .inr (List.mem_cons_of_mem _ h3)
def gMin : List PV → Option RV
  | [.int i, .int j] => vI (if j < i then j else i)
  | [.lst ps] => match intsP ps with
    | some (m :: r) => vI (lmin m r)
    | _ => none
  | _ => none
def gMax : List PV → Option RV
  | [.int i, .int j] => vI (if j > i then j else i)
  | [.lst ps] => match intsP ps with
    | some (m :: r) => vI (lmax m r)
    | _ => none
  | _ => none
theorem c_min (hc : X.calm = true) : CallOk X (.builtin "min") gMin := fun F H0 H ev σ vs ps r Q er rs e hq => by
  unfold gMin at e
  split at e
  · obtain ⟨v, w, rfl, rv, rw'⟩ := rs.two
    cases e
    have ex : v = .int _ := rv
    have ey : w = .int _ := rw'
    subst ex ey
    exact sCl_of (call_min2 hc) ⟨_, _, rfl, hq F _ H er.aft res_int⟩
  · obtain ⟨v, rfl, rv⟩ := rs.one
    split at e
    · rename_i m r hi
      cases e
      obtain ⟨a, xs, rfl, hx, rl⟩ := rv
      rw [intsP_eq hi] at rl
      have ex := rl.ints
      subst ex
      refine sCl_of (cr_min hc) ⟨a, m :: r, rfl, SqL.of hx, by simp, fun z hz hle => ?_⟩
      obtain ⟨h1, h2, h3⟩ := lmin_le r m
      have e1 : z = lmin m r := by
        have k1 : lmin m r ∈ m :: r := by
          rcases h3 with h3 | h3
          · rw [h3]; exact List.mem_cons_self
          · exact List.mem_cons_of_mem _ h3
        have k2 := hle _ k1
        have k3 : lmin m r ≤ z := by
          rcases List.mem_cons.mp hz with rfl | hz
          · exact h1
          · exact h2 z hz
        omega
      rw [e1]
      exact hq F _ H er.aft res_int
    · cases e
  · cases e
theorem c_max (hc : X.calm = true) : CallOk X (.builtin "max") gMax := fun F H0 H ev σ vs ps r Q er rs e hq => by
  unfold gMax at e
  split at e
  · obtain ⟨v, w, rfl, rv, rw'⟩ := rs.two
    cases e
    have ex : v = .int _ := rv
    have ey : w = .int _ := rw'
    subst ex ey
    exact sCl_of (call_max2 hc) ⟨_, _, rfl, hq F _ H er.aft res_int⟩
  · obtain ⟨v, rfl, rv⟩ := rs.one
    split at e
    · rename_i m r hi
      cases e
      obtain ⟨a, xs, rfl, hx, rl⟩ := rv
      rw [intsP_eq hi] at rl
      have ex := rl.ints
      subst ex
      refine sCl_of (cr_max hc) ⟨a, m :: r, rfl, SqL.of hx, by simp, fun z hz hle => ?_⟩
      obtain ⟨h1, h2, h3⟩ := lmax_le r m
      have e1 : z = lmax m r := by
        have k1 : lmax m r ∈ m :: r := by
          rcases h3 with h3 | h3
          · rw [h3]; exact List.mem_cons_self
          · exact List.mem_cons_of_mem _ h3
        have k2 := hle _ k1
        have k3 : z ≤ lmax m r := by
          rcases List.mem_cons.mp hz with rfl | hz
          · exact h1
          · exact h2 z hz
        omega
      rw [e1]
      exact hq F _ H er.aft res_int
    · cases e
  · cases e
def gSorted : List PV → Option RV
  | [.lst ps] => (intsP ps).map fun ns => (.lst ((isort ns).map .int), true)
  | [.tup ps] => (intsP ps).map fun ns => (.lst ((isort ns).map .int), true)
  | _ => none
theorem c_sorted : CallOk X (.builtin "sorted") gSorted := fun F H0 H ev σ vs ps r Q er rs e hq => by
  unfold gSorted at e
  split at e
  · obtain ⟨v, rfl, rv⟩ := rs.one
    obtain ⟨ns, hi, rfl⟩ := Option.map_eq_some_iff.mp e
    obtain ⟨a, xs, rfl, hx, rl⟩ := rv
    rw [intsP_eq hi] at rl
    have ex := rl.ints
    subst ex
    refine sCl_of cr_sortedI ⟨a, ns, rfl, SqL.of hx, fun ns' p h1 h2 hp => ?_⟩
    rw [isort_of h1 h2]
    exact hq F _ _ (er.fresh hp) (er.newL (Same.refl _) hp (RepL.of_ints _))
  · rename_i ps
    obtain ⟨v, rfl, rv⟩ := rs.one
    obtain ⟨ns, hi, rfl⟩ := Option.map_eq_some_iff.mp e
    have rv' : Rep X.K F H v (.tup ps) := rv
    unfold Rep at rv'
    obtain ⟨a, xs, rfl, hx, rl⟩ := rv'
    rw [intsP_eq hi] at rl
    have ex := rl.ints
    subst ex
    refine sCl_of cr_sortedTI ⟨a, ns, rfl, hx.sqT, fun ns' p h1 h2 hp => ?_⟩
    rw [isort_of h1 h2]
    exact hq F _ _ (er.fresh hp) (er.newL (Same.refl _) hp (RepL.of_ints _))
  · cases e
end
end Pv

set_option Elab.async false
set_option linter.all false
set_option maxRecDepth 100000
namespace Pv
open PySem PySem.Spec L2
open PyProof.Rows hiding St

/-! ### the program's own defs -/
inductive Rf where
  | ok (r : RV) | exc (c : Str) | bad
abbrev Fn := List PV → Rf
def spP (K : Fr) (cm : CM) (f : Fn) : Sp := fun vs H Q E => ∃ (F : FS) (ps : List PV), (∀ a, F a → H a ≠ none) ∧ RepL K F H vs ps ∧ match f ps with
  | .ok r => ∀ F' v H', Same H H' → (∀ a, F a → F' a) → (∀ a, F' a → F a ∨ H a = none) → (∀ a, F' a → H' a ≠ none) → ResR K F' H [] [] H H' r v → Q v H'
  | .exc c => ∀ H', Same H H' → E (cm c) none H'
  | .bad => False
/-- the def is called x and does f, within k calls -/
structure Cal (P : Program) (w : World) (K : Fr) (mg : Str → Option Value) (base : Heap) (cm : CM) (k : Nat) (x : Str) (f : Fn) : Prop where
  ex : ∃ (fa : Addr) (fd : FuncData) (ps : List Str), FnOk P w K mg base (L2.CX P w) k fa fd ps (spP K cm f) ∧ mg x = some (.ref fa) ∧ PySem.W.keepIn K (.ref fa) = true ∧ Binds K fd ps []
theorem Cal.mono {P : Program} {w : World} {K : Fr} {mg : Str → Option Value} {base : Heap} {cm : CM} {k j : Nat} {x : Str} {f : Fn} (c : Cal P w K mg base cm k x f) (h : k ≤ j) : Cal P w K mg base cm j x f := by
  obtain ⟨fa, fd, ps, a, b⟩ := c.ex
  exact ⟨fa, fd, ps, a.mono h, b⟩
/-- another function that says as much where it says anything -/
theorem Cal.imp {P : Program} {w : World} {K : Fr} {mg : Str → Option Value} {base : Heap} {cm : CM} {k : Nat} {x : Str} {f g : Fn} (c : Cal P w K mg base cm k x f) (h : ∀ ps, g ps ≠ .bad → f ps = g ps) : Cal P w K mg base cm k x g := by
  obtain ⟨fa, fd, ps, a, b⟩ := c.ex
  refine ⟨fa, fd, ps, a.imp fun vs H Q E q => ?_, b⟩
  obtain ⟨F, qs, h1, h2, h4⟩ := q
  refine ⟨F, qs, h1, h2, ?_⟩
  have hb : g qs ≠ .bad := fun z => by rw [z] at h4; exact h4
  rw [h qs hb]
  exact h4
def eFn (f : Fn) (m : M (List PV)) : M RV := fun ev => match m ev with
  | .ok ps ev' => match f ps with
    | .ok r => .ok r ev'
    | .exc c => .exc c ev'
    | .bad => .bad
  | .exc c ev' => .exc c ev'
  | .bad => .bad
section
variable {X : Cx} {W : WX} {cm : CM}
theorem ER.after {K : Fr} {F F' : FS} {H0 H H' : Hp} {ev : SL} {σ : St} (r : ER K F H0 ev σ H) (s : Same H H') (h1 : ∀ a, F a → F' a) (h2 : ∀ a, F' a → F a ∨ H a = none) (h3 : ∀ a, F' a → H' a ≠ none) : Aft K F H0 ev ev σ H F' H' :=
  ⟨h1, fun a h => (h2 a h).imp_right .inl, s, (r.later s).more h1 h3 (fun a o f => by
    obtain ⟨n1, n2, xs, e⟩ := r.ow o
    rcases h2 a f with h | h
    · exact n1 h
    · rw [e] at h; cases h), fun _ h => h⟩
theorem ResR.own {K : Fr} {F F' : FS} {H0 H H' H1 : Hp} {ev : SL} {σ : St} {r : RV} {v : V} (er : ER K F H0 ev σ H) (q : ResR K F' H1 [] [] H H' r v) : ResR K F' H0 ev σ H H' r v := by
  obtain ⟨p, fr⟩ := r
  cases fr with
  | false => exact q
  | true =>
    obtain ⟨a, xs, ps, e1, e2, e3, e4, e5, e6, _⟩ := q
    refine ⟨a, xs, ps, e1, e2, e3, e4, e5, e6, fun o => ?_⟩
    obtain ⟨_, _, ys, e⟩ := er.ow o
    rw [e6] at e; cases e
theorem e_call {k : Nat} {x : Str} {p pos : Pos} {e : Expr} {es : List Expr} {f : Fn} {ma : M (List PV)} (c : Cal X.prog X.w X.K X.mg X.base cm k x f) (hr : Room k X.A) (tk : Takes X W) (ha : SA X W cm (e :: es) ma) (hg : Gl X x := by rfl)
    (hdb : (x == ("__debug__" : Str)) = false := by decide)
    (he : starEach (e :: es) X.env = (false, eval e X.env) :: starEach es X.env := by rfl) (hpl : (backTo pos (starEach es X.env)).any (·.1) = false := by rfl) :
    SE X W cm (.Call (.Name x p) (e :: es) [] pos) (eFn f ma) := .mk' fun F H0 H ev σ Q r h => by
  obtain ⟨fa, fd, ps, FO, hm, hk, hb⟩ := c.ex
  refine sE_of (pe_callS (E := fun σ => L2.WE W σ) FO hr hg hm hk hb (fun σ => passAt tk σ) sA_pa hdb he hpl) ?_
  refine ha.go r ?_
  unfold Wt at h ⊢
  unfold eFn at h
  cases e1 : ma ev with
  | bad => simp only [e1] at h
  | exc c ev1 => simp only [e1] at h; exact h
  | ok qs ev1 =>
    simp only [e1] at h
    intro F1 H1 _ F2 vs a2 rs
    refine ⟨F2, qs, a2.er.dom, rs, ?_⟩
    cases e2 : f qs with
    | ok z =>
      simp only [e2] at h
      intro F' v H' s h1 h2 h3 q
      have a3 := a2.er.after s h1 h2 h3
      exact h F' H' (a2.trans a3) v ((ResR.own a2.er q).later a2.same)
    | exc c =>
      simp only [e2] at h
      intro H' s
      exact h F2 H' (a2.trans (a2.er.step s))
    | bad => simp only [e2] at h
end
end Pv

set_option Elab.async false
set_option linter.all false
set_option maxRecDepth 100000
namespace Pv
open PySem PySem.Spec L2
open PyProof.Rows hiding St

/-! ### statements -/
inductive Fl where
  | nx | rt (r : RV) | bk | ct
/-- where a statement begins: F0, H0 are the def's entry -/
structure BS (K : Fr) (F0 F : FS) (H0 : Hp) (ev : SL) (σ : St) (H : Hp) : Prop where
  er : ER K F H0 ev σ H
  sub : ∀ a, F0 a → F a
  base : ∀ a, F a → F0 a ∨ H0 a = none
/-- behind it -/
structure AS (K : Fr) (F0 F : FS) (H0 H : Hp) (F' : FS) (ev' : SL) (σ' : St) (H' : Hp) : Prop where
  bs : BS K F0 F' H0 ev' σ' H'
  sub : ∀ a, F a → F' a
  keep : Keep F H H'
section
variable {K : Fr} {F0 F F1 F2 : FS} {H0 H H1 H2 : Hp} {ev ev1 ev2 : SL} {σ σ1 σ2 : St}
theorem Keep.trans (a : Keep F H H1) (s : ∀ a, F a → F1 a) (b : Keep F1 H1 H2) : Keep F H H2 :=
  ⟨fun x xs h => b.tup _ _ (a.tup _ _ h), fun x o u h => b.frz _ _ _ (a.frz _ _ _ h), fun x o f h => b.lst _ _ (s _ f) (a.lst _ _ f h)⟩
theorem AS.trans (a : AS K F0 F H0 H F1 ev1 σ1 H1) (b : AS K F0 F1 H0 H1 F2 ev2 σ2 H2) : AS K F0 F H0 H F2 ev2 σ2 H2 :=
  ⟨b.bs, fun x h => b.sub x (a.sub x h), a.keep.trans a.sub b.keep⟩
theorem BS.as (b : BS K F0 F H0 ev σ H) : AS K F0 F H0 H F ev σ H := ⟨b, fun _ h => h, .refl⟩
/-- behind an expression -/
theorem BS.aft (b : BS K F0 F H0 ev σ H) (a : Aft K F H0 ev ev1 σ H F1 H1) : AS K F0 F H0 H F1 ev1 σ H1 :=
  ⟨⟨a.er, fun x h => a.sub x (b.sub x h), fun x h => by
    rcases a.grow x h with h | h | h
    · exact b.base x h
    · exact .inr (b.er.same.free h)
    · exact .inr (b.er.ow h).2.1⟩, a.sub, .of a.same⟩
end
/-- what a def hands back -/
def RetR (K : Fr) (F0 : FS) (H0 H' : Hp) (r : RV) (v : V) : Prop := ∃ F', (∀ a, F0 a → F' a) ∧ (∀ a, F' a → F0 a ∨ H0 a = none) ∧ (∀ a, F' a → H' a ≠ none) ∧ Same H0 H' ∧ ResR K F' H0 [] [] H0 H' r v
/-- what m wants of statements, from here -/
def Ws (K : Fr) (W : WX) (cm : CM) (F0 F : FS) (H0 : Hp) (D : Ends) (ev : SL) (σ : St) (H : Hp) (m : M Fl) : Prop := match m ev with
  | .ok .nx ev' => ∀ F' σ' H', AS K F0 F H0 H F' ev' σ' H' → D.nx σ' H'
  | .ok .bk ev' => ∀ F' σ' H', AS K F0 F H0 H F' ev' σ' H' → D.bk σ' H'
  | .ok .ct ev' => ∀ F' σ' H', AS K F0 F H0 H F' ev' σ' H' → D.ct σ' H'
  | .ok (.rt r) _ => ∀ v H', RetR K F0 H0 H' r v → D.rt v H'
  | .exc c ev' => ∀ F' σ' H', AS K F0 F H0 H F' ev' σ' H' → W (cm c) none σ' H'
  | .bad => False
theorem Ws.from {K : Fr} {W : WX} {cm : CM} {F0 F F1 : FS} {H0 H H1 : Hp} {D : Ends} {ev ev1 : SL} {σ σ1 : St} {m m1 : M Fl} (a : AS K F0 F H0 H F1 ev1 σ1 H1) (e : m ev = m1 ev1) (h : Ws K W cm F0 F H0 D ev σ H m) : Ws K W cm F0 F1 H0 D ev1 σ1 H1 m1 := by
  unfold Ws at h ⊢
  rw [e] at h
  cases q : m1 ev1 with
  | ok f ev' =>
    cases f with
    | nx => rw [q] at h; exact fun F' σ' H' b => h F' σ' H' (a.trans b)
    | bk => rw [q] at h; exact fun F' σ' H' b => h F' σ' H' (a.trans b)
    | ct => rw [q] at h; exact fun F' σ' H' b => h F' σ' H' (a.trans b)
    | rt r => rw [q] at h; exact h
  | exc c ev' => rw [q] at h; exact fun F' σ' H' b => h F' σ' H' (a.trans b)
  | bad => rw [q] at h; exact h
def sS (X : Cx) (st : Stmt) : TS := fun D σ H => ∀ (pins : List (Addr × Obj)) (s : Shared), L2.Inv X pins σ H s → wpAny (model X.prog X.w) X.A (exec st X.env) (L2.SP X pins D) X.xe s
def sSs (X : Cx) (st : List Stmt) : TS := fun D σ H => ∀ (pins : List (Addr × Obj)) (s : Shared), L2.Inv X pins σ H s → wpAny (model X.prog X.w) X.A (execs st X.env) (L2.SP X pins D) X.xe s
theorem sS_ps {X : Cx} {st : Stmt} : PS X st (sS X st) := ⟨fun pins s σ H D I h => h pins s I⟩
theorem sSs_ps {X : Cx} {st : List Stmt} : PSs X st (sSs X st) := ⟨fun pins s σ H D I h => h pins s I⟩
theorem sS_of {X : Cx} {st : Stmt} {t : TS} {D : Ends} {σ : St} {H : Hp} (p : PS X st t) (h : t D σ H) : sS X st D σ H := fun pins s I => p.run pins s σ H D I h
theorem sSs_of {X : Cx} {st : List Stmt} {t : TS} {D : Ends} {σ : St} {H : Hp} (p : PSs X st t) (h : t D σ H) : sSs X st D σ H := fun pins s I => p.run pins s σ H D I h
structure SS (X : Cx) (W : WX) (cm : CM) (st : Stmt) (m : M Fl) : Prop where
  go : ∀ {F0 F : FS} {H0 H : Hp} {ev : SL} {σ : St} {D : Ends}, BS X.K F0 F H0 ev σ H → Ws X.K W cm F0 F H0 D ev σ H m → sS X st D σ H
structure SB (X : Cx) (W : WX) (cm : CM) (st : List Stmt) (m : M Fl) : Prop where
  go : ∀ {F0 F : FS} {H0 H : Hp} {ev : SL} {σ : St} {D : Ends}, BS X.K F0 F H0 ev σ H → Ws X.K W cm F0 F H0 D ev σ H m → sSs X st D σ H
section
variable {X : Cx} {W : WX} {cm : CM}
/-- an expression, then the rest -/
def thenE {α : Type} (m : M α) (k : α → M Fl) : M Fl := bnd m k
theorem Ws.expr {K : Fr} {F0 F : FS} {H0 H : Hp} {D : Ends} {ev : SL} {σ : St} {α : Type} {m : M α} {k : α → M Fl} (b : BS K F0 F H0 ev σ H) (h : Ws K W cm F0 F H0 D ev σ H (bnd m k)) :
    Wt K W cm F H0 ev σ H m fun a ev1 F1 H1 => Aft K F H0 ev ev1 σ H F1 H1 ∧ Ws K W cm F0 F1 H0 D ev1 σ H1 (k a) := by
  unfold Ws Pv.bnd at h
  unfold Wt
  cases e : m ev with
  | ok r ev' =>
    simp only [e] at h
    exact fun F' H' a => ⟨a, Ws.from (σ := σ) (m := fun _ => k r ev') (ev := ev) (b.aft a) rfl (by unfold Ws; exact h)⟩
  | exc c ev' => simp only [e] at h; exact fun F' H' a => h F' σ H' (b.aft a)
  | bad => simp only [e] at h
theorem Ws.nx {K : Fr} {F0 F : FS} {H0 H : Hp} {D : Ends} {ev : SL} {σ : St} {m : M Fl} {ev' : SL} {F' : FS} {σ' : St} {H' : Hp} (h : Ws K W cm F0 F H0 D ev σ H m) (e : m ev = .ok .nx ev') (a : AS K F0 F H0 H F' ev' σ' H') : D.nx σ' H' := by
  unfold Ws at h
  rw [e] at h
  exact h F' σ' H' a
theorem Ws.not_bad {K : Fr} {F0 F : FS} {H0 H : Hp} {D : Ends} {ev : SL} {σ : St} {m : M Fl} (h : Ws K W cm F0 F H0 D ev σ H m) : m ev ≠ .bad := fun e => by
  unfold Ws at h
  rw [e] at h
  exact h
/-- blocks -/
def sq (a b : M Fl) : M Fl := fun ev => match a ev with
  | .ok .nx ev' => b ev'
  | r => r
theorem b_nil : SB X W cm [] (ret .nx) := ⟨fun {F0 F H0 H ev σ D} b h => sSs_of pss_nil (h.nx rfl b.as)⟩
theorem b_cons {st : Stmt} {rest : List Stmt} {m ms : M Fl} (s : SS X W cm st m) (u : SB X W cm rest ms) : SB X W cm (st :: rest) (sq m ms) := ⟨fun {F0 F H0 H ev σ D} b h => by
  refine sSs_of (pss_cons sS_ps sSs_ps) ?_
  show sS X st { D with nx := sSs X rest D } σ H
  refine s.go b ?_
  unfold Ws at h ⊢
  unfold sq at h
  cases e : m ev with
  | ok f ev' =>
    cases f with
    | nx =>
      simp only [e] at h
      exact fun F' σ' H' a => u.go a.bs (Ws.from (σ := σ) (m := fun _ => ms ev') (ev := ev) a rfl (by unfold Ws; exact h))
    | bk => simp only [e] at h; exact h
    | ct => simp only [e] at h; exact h
    | rt r => simp only [e] at h; exact h
  | exc c ev' => simp only [e] at h; exact h
  | bad => simp only [e] at h⟩
def mSk : M Fl := ret .nx
theorem s_pass {pos : Pos} : SS X W cm (.Pass pos) (ret .nx) := ⟨fun {F0 F H0 H ev σ D} b h => sS_of ps_pass (h.nx rfl b.as)⟩
theorem s_break {pos : Pos} : SS X W cm (.Break pos) (ret .bk) := ⟨fun {F0 F H0 H ev σ D} b h => sS_of ps_break (by unfold Ws Pv.ret at h; exact h F σ H b.as)⟩
theorem s_cont {pos : Pos} : SS X W cm (.Continue pos) (ret .ct) := ⟨fun {F0 F H0 H ev σ D} b h => sS_of ps_continue (by unfold Ws Pv.ret at h; exact h F σ H b.as)⟩
theorem s_expr {e : Expr} {m : M RV} {pos : Pos} (s : SE X W cm e m) (hs : swapsWith e none pos.line X.env = pure false := by rfl) : SS X W cm (.Expr e pos) (bnd m fun _ => ret .nx) := ⟨fun {F0 F H0 H ev σ D} b h => by
  refine sS_of (ps_expr sE_pe hs) ?_
  exact s.go b.er ((h.expr b).mono fun r ev1 F1 H1 a hh v rv => hh.2.nx rfl ((b.aft a).bs.as))⟩
/-- return -/
def mRet (r : RV) : M Fl := fun ev => .ok (.rt r) ev
theorem Ws.rt {K : Fr} {F0 F : FS} {H0 H : Hp} {D : Ends} {ev : SL} {σ : St} {m : M Fl} {ev' : SL} {r : RV} {v : V} {H' : Hp} (h : Ws K W cm F0 F H0 D ev σ H m) (e : m ev = .ok (.rt r) ev') (a : RetR K F0 H0 H' r v) : D.rt v H' := by
  unfold Ws at h
  rw [e] at h
  exact h v H' a
theorem BS.ret {K : Fr} {F0 F : FS} {H0 H : Hp} {ev : SL} {σ : St} {r : RV} {v : V} {Hs : Hp} (b : BS K F0 F H0 ev σ H) (s : Same H0 Hs) (q : ResR K F H0 ev σ Hs H r v) : RetR K F0 H0 H r v := by
  refine ⟨F, b.sub, b.base, b.er.dom, b.er.same, ?_⟩
  obtain ⟨p, fr⟩ := r
  cases fr with
  | false => exact q
  | true =>
    obtain ⟨a, xs, ps, e1, e2, e3, e4, e5, e6, e7⟩ := q
    exact ⟨a, xs, ps, e1, e2, e3, e4, e5, s.free e6, fun ⟨i, qs, z, _⟩ => by simp at z⟩
theorem s_ret {e : Expr} {m : M RV} {pos : Pos} (s : SE X W cm e m) : SS X W cm (.Return (some e) pos) (bnd m mRet) := ⟨fun {F0 F H0 H ev σ D} b h => by
  refine sS_of (ps_ret sE_pe) ?_
  exact s.go b.er ((h.expr b).mono fun r ev1 F1 H1 a hh v rv => hh.2.rt rfl ((b.aft a).bs.ret b.er.same rv))⟩
/-- return x, x an own list: it goes to the caller -/
def mRetV (i : Nat) : M Fl := fun ev => match ev[i]? with
  | some (.own ps) => .ok (.rt (.lst ps, true)) ev
  | some (.val p) => .ok (.rt (p, false)) ev
  | _ => .bad
theorem s_retV {i : Nat} {x : Str} {p pos : Pos} (hN : X.N[i]? = some x := by rfl) (hv : Vis X.env.scope x := by first | exact Or.inl rfl | exact Or.inr (Or.inl rfl) | exact Or.inr (Or.inr rfl)) (hd : (x == ("__debug__" : Str)) = false := by decide)
    (hcd : (x == ("__classdict__" : Str)) = false := by decide) : SS X W cm (.Return (some (.Name x p)) pos) (mRetV i) := ⟨fun {F0 F H0 H ev σ D} b h => by
  refine sS_of (ps_ret (pe_var hN hv hd hcd)) ?_
  unfold Ws mRetV at h
  cases e : ev[i]? with
  | none => simp only [e] at h
  | some sl =>
    cases sl with
    | no => simp only [e] at h
    | val q =>
      simp only [e] at h
      obtain ⟨o, e1, v, rfl, rq⟩ := b.er.slot i _ e
      exact ⟨v, e1, h v H (b.ret (Hs := H0) (Same.refl _) (r := (q, false)) rq)⟩
    | own ps =>
      simp only [e] at h
      obtain ⟨o, e1, a, xs, rfl, e2, rq, nf, e3⟩ := b.er.slot i _ e
      refine ⟨_, e1, h _ H ⟨F, b.sub, b.base, b.er.dom, b.er.same, a, xs, ps, rfl, rfl, e2, rq, nf, e3, fun ⟨i, qs, z, _⟩ => by simp at z⟩⟩⟩
theorem s_retN {pos : Pos} : SS X W cm (.Return none pos) (mRet (.non, false)) := ⟨fun {F0 F H0 H ev σ D} b h => by
  refine sS_of ps_retN ?_
  exact h.rt rfl (b.ret (Hs := H0) (Same.refl _) (show ResR X.K F H0 ev σ H0 H (.non, false) .non from rep_non (K := X.K) (F := F) (H := H)))⟩
/-- if -/
def mIfS (c : M Bool) (a b : M Fl) : M Fl := bnd c fun k => if k then a else b
theorem s_if {c : Expr} {a b : List Stmt} {mc : M Bool} {ma mb : M Fl} {pos : Pos} (sc : ST X W cm c mc) (sa : SB X W cm a ma) (sb : SB X W cm b mb) : SS X W cm (.If c a b pos) (mIfS mc ma mb) := ⟨fun {F0 F H0 H ev σ D} b h => by
  refine sS_of (ps_if sT_pt sSs_ps sSs_ps) ?_
  refine sc.go b.er ((h.expr b).mono fun k ev1 F1 H1 a hh => ?_)
  cases k with
  | true => exact iteT (sa.go (b.aft a).bs hh.2)
  | false => exact iteF (sb.go (b.aft a).bs hh.2)⟩

/-! ### stores into names -/
/-- a name gets a value -/
def setR (i : Nat) (r : RV) : M Fl := fun ev => if i < ev.length then .ok .nx (ev.set i (match r with
  | (.lst ps, true) => .own ps
  | (p, _) => .val p)) else .bad
theorem ER.store {K : Fr} {F : FS} {H0 H : Hp} {ev : SL} {σ : St} {i : Nat} {v : V} {p : PV} (r : ER K F H0 ev σ H) (hi : i < ev.length) (q : Rep K F H v p) : ER K F H0 (ev.set i (.val p)) (σ.set i (some v)) H where
  len := by rw [List.length_set, List.length_set]; exact r.len
  slot := fun j sl e => by
    by_cases hj : i = j
    · subst hj
      rw [List.getElem?_set_self hi] at e
      cases e
      exact ⟨some v, List.getElem?_set_self (by rw [← r.len]; exact hi), v, rfl, q⟩
    · rw [List.getElem?_set_ne hj] at e ⊢
      exact r.slot j sl e
  inj := fun j k a ps qs e1 e2 s1 s2 => by
    have nj : i ≠ j := fun z => by
      subst z
      rw [List.getElem?_set_self hi] at e1; cases e1
    have nk : i ≠ k := fun z => by
      subst z
      rw [List.getElem?_set_self hi] at e2; cases e2
    rw [List.getElem?_set_ne nj] at e1 s1
    rw [List.getElem?_set_ne nk] at e2 s2
    exact r.inj j k a ps qs e1 e2 s1 s2
  dom := r.dom
  same := r.same
theorem ER.storeO {K : Fr} {F : FS} {H0 H : Hp} {ev : SL} {σ : St} {i : Nat} {a : Addr} {xs : List V} {ps : List PV} (r : ER K F H0 ev σ H) (hi : i < ev.length) (e1 : H a = some (.lst xs)) (e2 : RepL K F H xs ps) (e3 : ¬ F a) (e4 : H0 a = none) (e5 : ¬ Ow ev σ a) :
    ER K F H0 (ev.set i (.own ps)) (σ.set i (some (.ref a))) H where
  len := by rw [List.length_set, List.length_set]; exact r.len
  slot := fun j sl e => by
    by_cases hj : i = j
    · subst hj
      rw [List.getElem?_set_self hi] at e
      cases e
      exact ⟨_, List.getElem?_set_self (by rw [← r.len]; exact hi), a, xs, rfl, e1, e2, e3, e4⟩
    · rw [List.getElem?_set_ne hj] at e ⊢
      exact r.slot j sl e
  inj := fun j k b qs rs f1 f2 s1 s2 => by
    have hiσ : i < σ.length := by rw [← r.len]; exact hi
    by_cases hj : i = j
    · by_cases hk : i = k
      · omega
      · subst hj
        rw [List.getElem?_set_self hiσ] at s1
        cases s1
        rw [List.getElem?_set_ne hk] at f2 s2
        exact absurd ⟨k, rs, f2, s2⟩ e5
    · rw [List.getElem?_set_ne hj] at f1 s1
      by_cases hk : i = k
      · subst hk
        rw [List.getElem?_set_self hiσ] at s2
        cases s2
        exact absurd ⟨j, qs, f1, s1⟩ e5
      · rw [List.getElem?_set_ne hk] at f2 s2
        exact r.inj j k b qs rs f1 f2 s1 s2
  dom := r.dom
  same := r.same
theorem BS.set {K : Fr} {F0 F : FS} {H0 H Hs : Hp} {ev : SL} {σ : St} {i : Nat} {r : RV} {v : V} {ev' : SL} (b : BS K F0 F H0 ev σ H) (s : Same H0 Hs) (q : ResR K F H0 ev σ Hs H r v) (e : setR i r ev = .ok .nx ev') : AS K F0 F H0 H F ev' (σ.set i (some v)) H := by
  unfold setR at e
  split at e
  · rename_i hi
    cases e
    refine ⟨⟨?_, b.sub, b.base⟩, fun _ h => h, .refl⟩
    obtain ⟨p, fr⟩ := r
    cases fr with
    | false =>
      have q' : Rep K F H v p := q
      cases p <;> exact b.er.store hi q'
    | true =>
      obtain ⟨a, xs, ps, rfl, rfl, e3, e4, e5, e6, e7⟩ := q
      exact b.er.storeO hi e3 e4 e5 (s.free e6) e7
  · cases e
theorem setR_nx {i : Nat} {r : RV} {ev : SL} (h : setR i r ev ≠ .bad) : ∃ ev', setR i r ev = .ok .nx ev' := by
  unfold setR at h ⊢
  split
  · exact ⟨_, rfl⟩
  · rename_i hi
    rw [if_neg hi] at h
    exact absurd rfl h
theorem s_set {i : Nat} {x : Str} {e : Expr} {m : M RV} {pos pos' : Pos} (hNd : X.N.Nodup) (s : SE X W cm e m) (hi : X.N[i]? = some x := by rfl) (hx : L2.Loc X.env.scope x := by first | exact Or.inl rfl | exact Or.inr rfl)
    (hs : swapsWith e (some (.Name x pos')) pos.line X.env = pure false := by rfl) (hf : X.fn x = true ∨ X.env.scope.names.lookup x = some .local := by first | exact .inl rfl | exact .inr rfl) : SS X W cm (.Assign [.Name x pos'] e pos) (bnd m (setR i)) := ⟨fun {F0 F H0 H ev σ D} b h => by
  refine sS_of (ps_set hNd hi hx sE_pe hs hf) ?_
  refine s.go b.er ((h.expr b).mono fun r ev1 F1 H1 a hh v rv => ?_)
  obtain ⟨ev', e1⟩ := setR_nx hh.2.not_bad
  exact hh.2.nx e1 ((b.aft a).bs.set b.er.same rv e1)⟩
theorem ow_store {ev : SL} {σ : St} {i : Nat} {p : PV} {v : Option V} {a : Addr} : Ow (ev.set i (.val p)) (σ.set i v) a → Ow ev σ a := fun ⟨j, ps, e1, e2⟩ => by
  rcases getElem?_set_some e1 with ⟨_, z⟩ | ⟨ne, z⟩
  · cases z
  · rw [List.getElem?_set_ne ne] at e2
    exact ⟨j, ps, z, e2⟩
/-- but for the slots js -/
def But (js : List Nat) (σ σ' : St) : Prop := σ'.length = σ.length ∧ ∀ j, j ∉ js → σ'[j]? = σ[j]?
structure SG (X : Cx) (W : WX) (tg : Expr) (t : PV → SL → Option SL) (js : List Nat) : Prop where
  go : ∀ {F0 F : FS} {H0 H : Hp} {ev ev' : SL} {σ : St} {v : V} {p : PV} {Q : St → Hp → Prop}, BS X.K F0 F H0 ev σ H → Rep X.K F H v p → t p ev = some ev' → (∀ σ', AS X.K F0 F H0 H F ev' σ' H → But js σ σ' → (∀ a, Ow ev' σ' a → Ow ev σ a) → Q σ' H) →
    ∀ (pins : List (Addr × Obj)) (s : Shared) (u : Value), L2.Inv X pins σ H s → RelV v u → wpAny (model X.prog X.w) X.A (assign tg X.env u) (fun _ s' => ∃ σ' H', L2.Inv X pins σ' H' s' ∧ Q σ' H') X.xe s
def tName (i : Nat) : PV → SL → Option SL := fun p ev => if i < ev.length then some (ev.set i (.val p)) else none
theorem g_name {i : Nat} {x : Str} {pos : Pos} (hNd : X.N.Nodup) (hi : X.N[i]? = some x := by rfl) (hx : L2.Loc X.env.scope x := by first | exact Or.inl rfl | exact Or.inr rfl) (hf : X.fn x = true ∨ X.env.scope.names.lookup x = some .local := by first | exact .inl rfl | exact .inr rfl) : SG X W (.Name x pos) (tName i) [i] :=
  ⟨fun {F0 F H0 H ev ev' σ v p Q} b q e h pins s u I r => by
    refine (pg_name hNd hi hx hf).run pins s σ H v u Q I r ?_
    unfold tName at e
    split at e
    · rename_i hl
      cases e
      exact h _ ⟨⟨b.er.store hl q, b.sub, b.base⟩, fun _ h => h, .refl⟩ ⟨by rw [List.length_set], fun j hj => List.getElem?_set_ne (fun z => hj (by simp [z]))⟩ (fun a => ow_store)
    · cases e⟩
/-- several names from a tuple -/
def tNames : List Nat → PV → SL → Option SL
  | is, .tup ps => tN2 is ps
  | is, .itm ps => tN2 is ps
  | _, _ => fun _ => none
where tN2 : List Nat → List PV → SL → Option SL
  | [], [], ev => some ev
  | i :: is, p :: ps, ev => (tName i p ev).bind (tN2 is ps)
  | _, _, _ => none
structure SGs (X : Cx) (W : WX) (ts : List Expr) (is : List Nat) : Prop where
  go : ∀ {F0 F : FS} {H0 H : Hp} {ev ev' : SL} {σ : St} {vs : List V} {ps : List PV} {Q : St → Hp → Prop}, BS X.K F0 F H0 ev σ H → RepL X.K F H vs ps → tNames.tN2 is ps ev = some ev' → (∀ σ', AS X.K F0 F H0 H F ev' σ' H → But is σ σ' → (∀ a, Ow ev' σ' a → Ow ev σ a) → Q σ' H) →
    ∃ t, PGs X ts t ∧ t vs σ H Q
theorem gs_nil : SGs X W [] [] := ⟨fun {F0 F H0 H ev ev' σ vs ps Q} b r e h => by
  cases ps with
  | nil =>
    unfold tNames.tN2 at e
    cases e
    exact ⟨_, pgs_nil, r.nil_inv, h σ b.as ⟨rfl, fun _ _ => rfl⟩ fun _ h => h⟩
  | cons p ps => unfold tNames.tN2 at e; cases e⟩
theorem gs_cons {i : Nat} {x : Str} {pos : Pos} {ts : List Expr} {is : List Nat} (hNd : X.N.Nodup) (u : SGs X W ts is) (hi : X.N[i]? = some x := by rfl) (hx : L2.Loc X.env.scope x := by first | exact Or.inl rfl | exact Or.inr rfl) (hf : X.fn x = true ∨ X.env.scope.names.lookup x = some .local := by first | exact .inl rfl | exact .inr rfl) : SGs X W (.Name x pos :: ts) (i :: is) :=
  ⟨fun {F0 F H0 H ev ev' σ vs ps Q} b r e h => by
    cases ps with
    | nil => unfold tNames.tN2 at e; cases e
    | cons p ps =>
      unfold RepL at r
      obtain ⟨y, ys, rfl, r1, r2⟩ := r
      unfold tNames.tN2 at e
      obtain ⟨ev1, e1, e2⟩ := Option.bind_eq_some_iff.mp e
      unfold tName at e1
      split at e1
      · rename_i hl
        cases e1
        have b1 : BS X.K F0 F H0 (ev.set i (.val p)) (σ.set i (some y)) H := ⟨b.er.store hl r1, b.sub, b.base⟩
        obtain ⟨t, ht, hq⟩ := u.go (Q := Q) b1 r2 e2 fun σ' a bt ho => h σ' ⟨a.bs, a.sub, a.keep⟩ ⟨bt.1.trans (by rw [List.length_set]), fun j hj => (bt.2 j fun z => hj (List.mem_cons_of_mem _ z)).trans (List.getElem?_set_ne fun z => hj (by simp [z]))⟩ fun a o => ow_store (ho a o)
        exact ⟨_, pgs_cons (pg_name hNd hi hx hf) ht, y, ys, rfl, hq⟩
      · cases e1⟩
end
end Pv

set_option Elab.async false
set_option linter.all false
set_option maxRecDepth 100000
namespace Pv
open PySem PySem.Spec L2
open PyProof.Rows hiding St

section
variable {X : Cx} {W : WX} {cm : CM}
/-! ### a, b = e -/
theorem g_names {ts : List Expr} {is : List Nat} {k : Nat} {pos : Pos} (hc : X.calm = true) (u : SGs X W ts is) (hl : (assignEach ts X.env).length = is.length := by rfl) (hf : List.findIdx? (fun x => x.fst) (assignEach ts X.env) = none := by rfl) : SG X W (.Tuple ts k pos) (tNames is) is :=
  ⟨fun {F0 F H0 H ev ev' σ v p Q} b q e h pins s w I r => by
    have len : ∀ (is : List Nat) (ps : List PV) (ev : SL) (e : tNames.tN2 is ps ev = some ev'), ps.length = is.length := by
      intro is
      induction is with
      | nil =>
        intro ps ev e
        cases ps with
        | nil => rfl
        | cons _ _ => unfold tNames.tN2 at e; cases e
      | cons i is ih =>
        intro ps ev e
        cases ps with
        | nil => unfold tNames.tN2 at e; cases e
        | cons p ps =>
          unfold tNames.tN2 at e
          obtain ⟨ev1, _, e2⟩ := Option.bind_eq_some_iff.mp e
          rw [List.length_cons, List.length_cons, ih _ _ e2]
    have main : ∀ (ps : List PV) (a : Addr) (xs : List V), v = .ref a → SqT X.K H a xs → RepL X.K F H xs ps → tNames.tN2 is ps ev = some ev' → wpAny (model X.prog X.w) X.A (assign (.Tuple ts k pos) X.env w) (fun _ s' => ∃ σ' H', L2.Inv X pins σ' H' s' ∧ Q σ' H') X.xe s := fun ps a xs ea hx rl e => by
      subst ea
      obtain ⟨t, ht, hq⟩ := u.go (Q := Q) b rl e h
      exact (pg_tup hc ht (n := is.length) hl hf).run pins s σ H (.ref a) w Q I r ⟨a, xs, rfl, hx, by rw [rl.length]; exact len is ps ev e, hq⟩
    cases p with
    | tup ps =>
      have q' : Rep X.K F H v (.tup ps) := q
      unfold Rep at q'
      obtain ⟨a, xs, ea, hx, rl⟩ := q'
      exact main ps a xs ea hx.sqT rl e
    | itm ps =>
      have q' : Rep X.K F H v (.itm ps) := q
      unfold Rep at q'
      obtain ⟨a, xs, ea, hx, rl⟩ := q'
      exact main ps a xs ea hx rl e
    | _ => unfold tNames at e; cases e⟩
def mTgt (t : PV → SL → Option SL) (p : PV) : M Fl := fun ev => match t p ev with
  | some ev' => .ok .nx ev'
  | none => .bad
def sG (X : Cx) (tg : Expr) : TG := fun v σ H Q => ∀ (pins : List (Addr × Obj)) (s : Shared) (u : Value), L2.Inv X pins σ H s → RelV v u → wpAny (model X.prog X.w) X.A (assign tg X.env u) (fun _ s' => ∃ σ' H', L2.Inv X pins σ' H' s' ∧ Q σ' H') X.xe s
theorem sG_pg {tg : Expr} : PG X tg (sG X tg) := ⟨fun pins s σ H v u Q I r h => h pins s u I r⟩
theorem s_unpack {ts : List Expr} {is : List Nat} {k : Nat} {tpos pos : Pos} {e : Expr} {m : M RV} (s : SE X W cm e m) (g : SG X W (.Tuple ts k tpos) (tNames is) is)
    (hs : swapsWithSole [.Tuple ts k tpos] e pos.line X.env = pure false := by rfl) (hw : swappedStores [.Tuple ts k tpos] e X.env = pure none := by rfl) (ha : List.map (fun x => x.snd) (assignEach [.Tuple ts k tpos] X.env) = [assign (.Tuple ts k tpos) X.env] := by rfl) : SS X W cm (.Assign [.Tuple ts k tpos] e pos) (bnd m fun r => mTgt (tNames is) r.1) := ⟨fun {F0 F H0 H ev σ D} b h => by
  refine sS_of (ps_asg sE_pe sG_pg hs hw ha) ?_
  refine s.go b.er ((h.expr b).mono fun r ev1 F1 H1 a hh v rv => ?_)
  obtain ⟨F2, a2, r2, f12⟩ := rv.share a
  have h2 := hh.2
  intro pins s' u I ru
  have h3 := h2.not_bad
  unfold mTgt at h3
  cases e1 : tNames is r.1 ev1 with
  | none => rw [e1] at h3; exact absurd rfl h3
  | some ev2 =>
    refine g.go (b.aft a2).bs r2 e1 (fun σ' as _ _ => ?_) pins s' u I ru
    exact h2.nx (F' := F2) (by unfold mTgt; rw [e1]) ⟨as.bs, f12, ⟨as.keep.tup, as.keep.frz, fun a o f => as.keep.lst a o (f12 a f)⟩⟩⟩

/-! ### x += e -/
def mAug (i : Nat) (m : M PV) : M Fl := fun ev => match ev[i]? with
  | some (.val (.int a)) => bnd m (fun p => match p with
    | .int b => setR i (.int (a + b), false)
    | _ => bad) ev
  | _ => .bad
theorem s_aug {i : Nat} {x : Str} {e : Expr} {m : M PV} {pos pos' : Pos} (hNd : X.N.Nodup) (s : Pv.SP X W cm e m) (hi : X.N[i]? = some x := by rfl) (hx : L2.Loc X.env.scope x := by first | exact Or.inl rfl | exact Or.inr rfl)
    (hf : X.fn x = true ∨ X.env.scope.names.lookup x = some .local := by first | exact .inl rfl | exact .inr rfl) : SS X W cm (.AugAssign (.Name x pos') .Add e pos) (mAug i m) := ⟨fun {F0 F H0 H ev σ D} b h => by
  refine sS_of (ps_aug hNd hi hx sE_pe ip_add hf) ?_
  have hb := h.not_bad
  unfold mAug at hb
  cases e0 : ev[i]? with
  | none => rw [e0] at hb; exact absurd rfl hb
  | some sl =>
    cases sl with
    | no => rw [e0] at hb; exact absurd rfl hb
    | own ps => rw [e0] at hb; exact absurd rfl hb
    | val q =>
      cases q with
      | int a =>
        obtain ⟨o, e1, v, rfl, rv⟩ := b.er.slot i _ e0
        have ev0 : v = .int a := rv
        subst ev0
        refine ⟨_, e1, ?_⟩
        have h1 : Ws X.K W cm F0 F H0 D ev σ H (bnd m fun p => match p with
            | .int b => setR i (.int (a + b), false)
            | _ => bad) := by
          unfold Ws mAug at h
          simp only [e0] at h
          unfold Ws
          exact h
        refine s.go b.er ((h1.expr b).mono fun p ev1 F1 H1 a1 hh y ry => ?_)
        have h2 := hh.2
        cases p with
        | int j =>
          obtain ⟨ev', e2⟩ := setR_nx h2.not_bad
          refine ⟨a, j, rfl, ry, ?_⟩
          exact h2.nx e2 ((b.aft a1).bs.set (Hs := H) b.er.same (r := (.int (a + j), false)) res_int e2)
        | _ => exact absurd rfl h2.not_bad
      | _ => rw [e0] at hb; exact absurd rfl hb⟩

/-! ### own lists changed in place -/
theorem ER.setOwn {K : Fr} {F : FS} {H0 H : Hp} {ev : SL} {σ : St} {i : Nat} {a : Addr} {ps qs : List PV} {ys : List V} (r : ER K F H0 ev σ H) (e : ev[i]? = some (.own ps)) (s : σ[i]? = some (some (.ref a))) (q : RepL K F H ys qs) :
    ER K F H0 (ev.set i (.own qs)) σ (upd H a (.lst ys)) ∧ Keep F H (upd H a (.lst ys)) := by
  obtain ⟨nf, h0, xs, ha⟩ := r.ow ⟨i, ps, e, s⟩
  have kp : Keep F H (upd H a (.lst ys)) := ⟨fun b zs h => by
      rw [upd_ne (fun z => by rw [z, ha] at h; cases h)]; exact h, fun b o u h => by
      rw [upd_ne (fun z => by rw [z, ha] at h; cases h)]; exact h, fun b o f h => by
      rw [upd_ne (fun z => by rw [z] at f; exact nf f)]; exact h⟩
  have hi : i < ev.length := (List.getElem?_eq_some_iff.mp e).1
  refine ⟨⟨by rw [List.length_set]; exact r.len, fun j sl ej => ?_, fun j k b rs ts e1 e2 s1 s2 => ?_, fun b f z => ?_, fun b o h => ?_⟩, kp⟩
  · rcases getElem?_set_some ej with ⟨z, rfl⟩ | ⟨ne, z⟩
    · subst z
      exact ⟨_, s, a, ys, rfl, upd_same, RepL.mono kp (fun _ h => h) qs q, nf, h0⟩
    · obtain ⟨o, e1, q1⟩ := r.slot j sl z
      refine ⟨o, e1, ?_⟩
      cases sl with
      | no => trivial
      | val p =>
        obtain ⟨v, e2, q2⟩ := q1
        exact ⟨v, e2, Rep.mono kp (fun _ h => h) p q2⟩
      | own rs =>
        obtain ⟨b, zs, e2, e3, q2, nf2, e4⟩ := q1
        refine ⟨b, zs, e2, ?_, RepL.mono kp (fun _ h => h) rs q2, nf2, e4⟩
        rw [upd_ne (fun w => by
          subst w
          exact ne (r.inj i j b ps rs e z s (by rw [e1, e2])))]
        exact e3
  · have old : ∀ {l : Nat} {us : List PV}, (ev.set i (.own qs))[l]? = some (.own us) → ∃ us', ev[l]? = some (.own us') := fun {l us} z => by
      rcases getElem?_set_some z with ⟨w, _⟩ | ⟨_, w⟩
      · subst w; exact ⟨ps, e⟩
      · exact ⟨us, w⟩
    obtain ⟨u1, z1⟩ := old e1
    obtain ⟨u2, z2⟩ := old e2
    exact r.inj j k b u1 u2 z1 z2 s1 s2
  · by_cases w : b = a
    · subst w; exact nf f
    · rw [upd_ne w] at z
      exact r.dom b f z
  · have w : b ≠ a := fun w => by
      rw [w, h0] at h; cases h
    rw [upd_ne w]
    exact r.same b o h
theorem BS.setOwn {K : Fr} {F0 F : FS} {H0 H : Hp} {ev : SL} {σ : St} {i : Nat} {a : Addr} {ps qs : List PV} {ys : List V} (b : BS K F0 F H0 ev σ H) (e : ev[i]? = some (.own ps)) (s : σ[i]? = some (some (.ref a))) (q : RepL K F H ys qs) :
    AS K F0 F H0 H F (ev.set i (.own qs)) σ (upd H a (.lst ys)) :=
  let ⟨e1, e2⟩ := b.er.setOwn e s q
  ⟨⟨e1, b.sub, b.base⟩, fun _ h => h, e2⟩
/-- an owned list's method: what it makes of the items -/
def mMet (i : Nat) (m : M (List PV)) (g : List PV → List PV → Option (List PV)) : M Fl := fun ev => match ev[i]? with
  | some (.own _) => bnd m (fun as ev1 => match ev1[i]? with
    | some (.own ps) => match g ps as with
      | some qs => .ok .nx (ev1.set i (.own qs))
      | none => .bad
    | _ => .bad) ev
  | _ => .bad
def MetOk (X : Cx) (id : String) (g : List PV → List PV → Option (List PV)) : Prop := ∀ (F : FS) (H : Hp) (a : Addr) (xs vs : List V) (ps as qs : List PV), H a = some (.lst xs) → RepL X.K F H xs ps → RepL X.K F H vs as → g ps as = some qs →
  ∃ (r : V → List V → Hp → VK → Prop) (ys : List V) (z : V), MtR X id r ∧ RepL X.K F H ys qs ∧ ∀ Q : VK, Q z (upd H a (.lst ys)) → r (.ref a) vs H Q
def sMt (X : Cx) (id : String) : V → List V → Hp → VK → Prop := fun x xs H Q => ∀ (pins : List (Addr × Obj)) (s : Shared) (σ : St) (v : Value) (us : List Value), L2.Inv X pins σ H s → RelV x v → Vals xs us → wpAny (model X.prog X.w) X.A (call (.builtin id) (v :: us)) (EP X pins σ Q) X.xe s
theorem sMt_ok {id : String} : MtR X id (sMt X id) := fun pins s σ H x xs v us Q I rx rs h => h pins s σ v us I rx rs
theorem sMt_of {id : String} {r : V → List V → Hp → VK → Prop} {x : V} {xs : List V} {H : Hp} {Q : VK} (o : MtR X id r) (h : r x xs H Q) : sMt X id x xs H Q := fun pins s σ v us I rx rs => o pins s σ H x xs v us Q I rx rs h
theorem own_of {K : Fr} {F F' : FS} {H0 H H' : Hp} {ev ev' : SL} {σ : St} {i : Nat} {ps : List PV} {a : Addr} (b : ER K F H0 ev σ H) (h : Aft K F H0 ev ev' σ H F' H') (e : ev'[i]? = some (.own ps)) (s : σ[i]? = some (some (.ref a))) : ∃ xs, H' a = some (.lst xs) ∧ RepL K F' H' xs ps := by
  obtain ⟨o, e1, c, xs, e2, e3, q, _⟩ := h.er.slot i _ e
  rw [s] at e1; cases e1; cases e2
  exact ⟨xs, e3, q⟩
theorem s_met {i : Nat} {x name : Str} {id : String} {e : Expr} {es : List Expr} {m : M (List PV)} {g : List PV → List PV → Option (List PV)} {p apos cpos pos : Pos} (slot : PySem.Slot "list" name id) (hty : typeOf (Value.builtin id) = pure (Value.type "method_descriptor")) (hg : MetOk X id g)
    (ha : SA X W cm (e :: es) m) (hi : X.N[i]? = some x := by rfl) (hv : Vis X.env.scope x := by first | exact Or.inl rfl | exact Or.inr (Or.inl rfl) | exact Or.inr (Or.inr rfl)) (hd : (x == ("__debug__" : Str)) = false := by decide) (hcd : (x == ("__classdict__" : Str)) = false := by decide)
    (hbase : attributeBase (.Name x p) name X.env (eval (.Name x p) X.env) = eval (.Name x p) X.env := by rfl)
    (hfew : ((((backTo cpos (starEach (e :: es) X.env)).all fun x => !x.fst) && (backToKw cpos (keywordEach [] X.env)).all fun x => x.fst.isSome) && decide (((e :: es).length + ([] : List Keyword).length + if ([] : List Keyword).isEmpty = true then 0 else 1) < 30)) = true := by rfl)
    (hline : (apos.endLine == cpos.line) = true := by rfl) (hst : starEach (e :: es) X.env = (false, eval e X.env) :: starEach es X.env := by rfl) (hpl : ((backTo cpos (starEach es X.env)).any fun x => x.fst) = false := by rfl)
    (hs : swapsWith (.Call (.Attribute (.Name x p) name apos) (e :: es) [] cpos) none pos.line X.env = pure false := by rfl) :
    SS X W cm (.Expr (.Call (.Attribute (.Name x p) name apos) (e :: es) [] cpos) pos) (mMet i m g) := ⟨fun {F0 F H0 H ev σ D} b h => by
  refine sS_of (ps_expr (pe_bm PySem.F.plainAttrs_list slot hty sMt_ok (pe_var hi hv hd hcd) sA_pa hbase hfew hline hst hpl) hs) ?_
  have hb := h.not_bad
  unfold mMet at hb
  cases e0 : ev[i]? with
  | none => rw [e0] at hb; exact absurd rfl hb
  | some sl =>
    cases sl with
    | no => rw [e0] at hb; exact absurd rfl hb
    | val q => rw [e0] at hb; exact absurd rfl hb
    | own ps0 =>
      obtain ⟨o, e1, a, xs0, rfl, e2, q0, nf, e3⟩ := b.er.slot i _ e0
      refine ⟨_, e1, .inl ⟨rfl, xs0, SqL.of e2⟩, ?_⟩
      have h1 : Ws X.K W cm F0 F H0 D ev σ H (bnd m fun as ev1 => match ev1[i]? with
          | some (.own ps) => match g ps as with
            | some qs => .ok .nx (ev1.set i (.own qs))
            | none => .bad
          | _ => .bad) := by
        unfold Ws mMet at h
        simp only [e0] at h
        unfold Ws
        exact h
      refine ha.go b.er ?_
      unfold Wt
      have hw := h1
      unfold Ws Pv.bnd at hw
      cases em : m ev with
      | bad => simp only [em] at hw
      | exc c ev1 => simp only [em] at hw; exact fun F' H' a' => hw F' σ H' (b.aft a')
      | ok as ev1 =>
        simp only [em] at hw
        intro F1 H1 _ F2 vs a2 rs
        cases e5 : ev1[i]? with
        | none => simp only [e5] at hw
        | some sl =>
          cases sl with
          | no => simp only [e5] at hw
          | val q => simp only [e5] at hw
          | own ps =>
            simp only [e5] at hw
            cases e6 : g ps as with
            | none => simp only [e6] at hw
            | some qs =>
              simp only [e6] at hw
              obtain ⟨xs, hx, rx⟩ := own_of b.er a2 e5 e1
              obtain ⟨r, ys, z, o1, o2, o3⟩ := hg F2 H1 a xs vs ps as qs hx rx rs e6
              refine sMt_of o1 (o3 _ ?_)
              exact hw F2 σ _ ((b.aft a2).trans ((b.aft a2).bs.setOwn e5 e1 o2))⟩
def gAppend : List PV → List PV → Option (List PV)
  | ps, [p] => if ps.length < SZ then some (ps ++ [p]) else none
  | _, _ => none
theorem RepL.one {K : Fr} {F : FS} {H : Hp} {vs : List V} {p : PV} (h : RepL K F H vs [p]) : ∃ v, vs = [v] ∧ Rep K F H v p := by
  unfold RepL at h
  obtain ⟨x, r, rfl, h1, h2⟩ := h
  exact ⟨x, by rw [h2.nil_inv], h1⟩
theorem k_append : MetOk X "list.append" gAppend := fun F H a xs vs ps as qs hx rx rs e => by
  unfold gAppend at e
  split at e
  · rename_i p
    split at e
    · rename_i hz
      cases e
      obtain ⟨v, rfl, rv⟩ := rs.one
      exact ⟨_, xs ++ [v], _, mt_append, rx.append (RepL.cons rv RepL.nil), fun Q hq => ⟨a, xs, v, rfl, rfl, hx, by rw [rx.length]; exact hz, hq⟩⟩
    · cases e
  · cases e
def gExtend : List PV → List PV → Option (List PV)
  | ps, [.lst qs] => if ps.length + qs.length ≤ SZ then some (ps ++ qs) else none
  | _, _ => none
theorem k_extend : MetOk X "list.extend" gExtend := fun F H a xs vs ps as qs hx rx rs e => by
  unfold gExtend at e
  split at e
  · rename_i qs'
    split at e
    · rename_i hz
      cases e
      obtain ⟨v, rfl, rv⟩ := rs.one
      unfold Rep at rv
      obtain ⟨c, ys, rfl, ⟨_, hy⟩, ry⟩ := rv
      exact ⟨_, xs ++ ys, _, mt_extend, rx.append ry, fun Q hq => ⟨a, c, xs, ys, rfl, rfl, hx, hy, by rw [rx.length, ry.length]; exact hz, hq⟩⟩
    · cases e
  · cases e
end
end Pv

set_option Elab.async false
set_option linter.all false
set_option maxRecDepth 100000
namespace Pv
open PySem PySem.Spec L2
open PyProof.Rows hiding St

section
variable {X : Cx} {W : WX} {cm : CM}
/-! ### x.append(y.pop(e)) -/
def mAppPop (i j : Nat) (m : M PV) : M Fl := fun ev => match ev[i]?, ev[j]? with
  | some (.own _), some (.own _) => if i = j then .bad else bnd m (fun p ev1 => match ev1[i]?, ev1[j]?, p with
    | some (.own ps), some (.own qs), .int k => if -(2 ^ 63) ≤ k ∧ k < 2 ^ 63 ∧ ps.length < SZ then match seqIndex? k qs.length with
      | some n => match qs[n]? with
        | some q => .ok .nx ((ev1.set j (.own (qs.eraseIdx n))).set i (.own (ps ++ [q])))
        | none => .bad
      | none => .bad
      else .bad
    | _, _, _ => .bad) ev
  | _, _ => .bad
theorem s_appPop {i j : Nat} {x y : Str} {e : Expr} {m : M PV} {p p2 apos apos2 cpos cpos2 pos : Pos} (ha : Pv.SP X W cm e m) (hi : X.N[i]? = some x := by rfl) (hj : X.N[j]? = some y := by rfl)
    (hv : Vis X.env.scope x := by first | exact Or.inl rfl | exact Or.inr (Or.inl rfl) | exact Or.inr (Or.inr rfl)) (hd : (x == ("__debug__" : Str)) = false := by decide) (hcd : (x == ("__classdict__" : Str)) = false := by decide)
    (hv2 : Vis X.env.scope y := by first | exact Or.inl rfl | exact Or.inr (Or.inl rfl) | exact Or.inr (Or.inr rfl)) (hd2 : (y == ("__debug__" : Str)) = false := by decide) (hcd2 : (y == ("__classdict__" : Str)) = false := by decide)
    (hbase : attributeBase (.Name x p) "append" X.env (eval (.Name x p) X.env) = eval (.Name x p) X.env := by rfl)
    (hfew : ((((backTo cpos (starEach [Expr.Call (.Attribute (.Name y p2) "pop" apos2) [e] [] cpos2] X.env)).all fun x => !x.fst) && (backToKw cpos (keywordEach [] X.env)).all fun x => x.fst.isSome) && decide (([Expr.Call (.Attribute (.Name y p2) "pop" apos2) [e] [] cpos2].length + ([] : List Keyword).length + if ([] : List Keyword).isEmpty = true then 0 else 1) < 30)) = true := by rfl)
    (hline : (apos.endLine == cpos.line) = true := by rfl) (hst : starEach [Expr.Call (.Attribute (.Name y p2) "pop" apos2) [e] [] cpos2] X.env = (false, eval (Expr.Call (.Attribute (.Name y p2) "pop" apos2) [e] [] cpos2) X.env) :: starEach [] X.env := by rfl)
    (hbase2 : attributeBase (.Name y p2) "pop" X.env (eval (.Name y p2) X.env) = eval (.Name y p2) X.env := by rfl)
    (hfew2 : ((((backTo cpos2 (starEach [e] X.env)).all fun x => !x.fst) && (backToKw cpos2 (keywordEach [] X.env)).all fun x => x.fst.isSome) && decide (([e].length + ([] : List Keyword).length + if ([] : List Keyword).isEmpty = true then 0 else 1) < 30)) = true := by rfl)
    (hline2 : (apos2.endLine == cpos2.line) = true := by rfl) (hst2 : starEach [e] X.env = (false, eval e X.env) :: starEach [] X.env := by rfl)
    (hs : swapsWith (.Call (.Attribute (.Name x p) "append" apos) [Expr.Call (.Attribute (.Name y p2) "pop" apos2) [e] [] cpos2] [] cpos) none pos.line X.env = pure false := by rfl) :
    SS X W cm (.Expr (.Call (.Attribute (.Name x p) "append" apos) [Expr.Call (.Attribute (.Name y p2) "pop" apos2) [e] [] cpos2] [] cpos) pos) (mAppPop i j m) := ⟨fun {F0 F H0 H ev σ D} b h => by
  refine sS_of (ps_expr (pe_bm PySem.F.plainAttrs_list PySem.F.slot_list_append PySem.F.type_list_append mt_append (pe_var hi hv hd hcd)
    (pa_cons (pe_bm PySem.F.plainAttrs_list PySem.F.slot_list_pop PySem.F.type_list_pop mt_popAt (pe_var hj hv2 hd2 hcd2) (pa_cons sE_pe pa_nil hst2) hbase2 hfew2 hline2 hst2 rfl) pa_nil hst) hbase hfew hline hst rfl) hs) ?_
  have hb := h.not_bad
  unfold mAppPop at hb
  split at hb
  rotate_left
  · exact absurd rfl hb
  rename_i ps0 qs0 e0 f0
  split at hb
  · exact absurd rfl hb
  rename_i nij
  obtain ⟨o, e1, a, xs0, rfl, e2, q0, nf, e3⟩ := b.er.slot i _ e0
  obtain ⟨o2, g1, c, ys0, rfl, g2, q1, nf2, g3⟩ := b.er.slot j _ f0
  refine ⟨_, e1, .inl ⟨rfl, xs0, SqL.of e2⟩, _, g1, .inl ⟨rfl, ys0, SqL.of g2⟩, ?_⟩
  have nac : a ≠ c := fun z => nij (b.er.inj i j a _ _ e0 f0 e1 (by rw [g1, z]))
  have h1 : Ws X.K W cm F0 F H0 D ev σ H (bnd m fun p ev1 => match ev1[i]?, ev1[j]?, p with
      | some (.own ps), some (.own qs), .int k => if -(2 ^ 63) ≤ k ∧ k < 2 ^ 63 ∧ ps.length < SZ then match seqIndex? k qs.length with
        | some n => match qs[n]? with
          | some q => .ok .nx ((ev1.set j (.own (qs.eraseIdx n))).set i (.own (ps ++ [q])))
          | none => .bad
        | none => .bad
        else .bad
      | _, _, _ => .bad) := by
    unfold Ws mAppPop at h
    simp only [e0, f0, if_neg nij] at h
    unfold Ws
    exact h
  refine ha.go b.er ((h1.expr b).mono fun pv ev1 F1 H1 a1 hh v rv => ?_)
  have h2 := hh.2
  have hb2 := h2.not_bad
  split at hb2
  rotate_left
  · exact absurd rfl hb2
  rename_i ps qs k s1 s2
  split at hb2
  rotate_left
  · exact absurd rfl hb2
  rename_i hk
  split at hb2
  rotate_left
  · exact absurd rfl hb2
  rename_i n hn
  split at hb2
  rotate_left
  · exact absurd rfl hb2
  rename_i q hq
  have ek : v = .int k := rv
  subst ek
  obtain ⟨xs, hx, rx⟩ := own_of b.er a1 s1 e1
  obtain ⟨ys, hy, ry⟩ := own_of b.er a1 s2 g1
  obtain ⟨w, hw, rw'⟩ := ry.get hq
  refine ⟨c, ys, k, n, w, rfl, rfl, hy, hk.1, hk.2.1, by rw [ry.length]; exact hn, hw, ?_⟩
  have m1 := (b.aft a1).bs.setOwn s2 g1 (ry.eraseIdx n)
  have t1 : (ev1.set j (.own (qs.eraseIdx n)))[i]? = some (.own ps) := by
    rw [List.getElem?_set_ne (fun z => nij z.symm)]
    exact s1
  obtain ⟨o3, u1, a3, xs3, u2, u3, u4, _⟩ := m1.bs.er.slot i _ t1
  rw [e1] at u1; cases u1
  cases u2
  have exs : xs3 = xs := by
    rw [upd_ne nac, hx] at u3
    cases u3
    rfl
  subst exs
  have rq : Rep X.K F1 (upd H1 c (.lst (ys.eraseIdx n))) w q := Rep.mono m1.keep (fun _ h => h) q rw'
  have m2 := m1.bs.setOwn t1 e1 (u4.append (RepL.cons rq RepL.nil))
  refine ⟨a, xs3, w, rfl, rfl, u3, by rw [u4.length]; exact hk.2.2, ?_⟩
  refine h2.nx (F' := F1) ?_ (m1.trans m2)
  simp only [s1, s2, if_pos hk, hn, hq]⟩

/-! ### loops -/
/-- what a for walks -/
def ItOk (K : Fr) (F : FS) (H : Hp) (J : It) (ps : List PV) : Prop := ∀ (i : Nat) (F2 : FS) (H2 : Hp), (∀ a, F a → F2 a) → Keep F H H2 → (i = ps.length → J.stop i H2) ∧ (∀ p, ps[i]? = some p → J.go i H2 ∧ ∀ x H3, J.yld i H2 x H3 → Same H2 H3 ∧ Rep K F2 H3 x p)
structure SI (X : Cx) (W : WX) (cm : CM) (tg iter : Expr) (m : M (List PV)) : Prop where
  ex : ∃ wi, PI X tg iter wi ∧ ∀ {F : FS} {H0 H : Hp} {ev : SL} {σ : St} {R : It → Hp → Prop}, ER X.K F H0 ev σ H → (Wt X.K W cm F H0 ev σ H m fun ps ev' F' H' => ∀ J F2, Aft X.K F H0 ev ev' σ H F2 H' → (∀ a, F' a → F2 a) → ItOk X.K F2 H' J ps → R J H') → wi σ H R
theorem itl_ok {K : Fr} {F : FS} {H : Hp} {a : Addr} {xs : List V} {ps : List PV} (f : F a) (hx : H a = some (.lst xs)) (r : RepL K F H xs ps) : ItOk K F H (Itl K a) ps := fun i F2 H2 s k => by
  have hx2 : SqL K H2 a xs := SqL.of (k.lst _ _ f hx)
  refine ⟨fun e => ⟨xs, hx2, by rw [r.length, e]; exact Nat.le_refl _⟩, fun p hp => ?_⟩
  obtain ⟨v, hv, rv⟩ := r.get hp
  refine ⟨⟨xs, v, hx2, hv⟩, fun x H3 y => ?_⟩
  obtain ⟨e, y⟩ := y
  subst e
  have e2 : v = x := Option.some.inj (hv.symm.trans (y xs hx2))
  subst e2
  exact ⟨Same.refl _, Rep.mono k s p rv⟩
theorem itt_ok {K : Fr} {F : FS} {H : Hp} {a : Addr} {xs : List V} {ps : List PV} (hx : TpX K H a xs) (r : RepL K F H xs ps) : ItOk K F H (Itt K a) ps := fun i F2 H2 s k => by
  have hx2 : SqT K H2 a xs := (k.tpX hx).sqT
  refine ⟨fun e => ⟨xs, hx2, by rw [r.length, e]; exact Nat.le_refl _⟩, fun p hp => ?_⟩
  obtain ⟨v, hv, rv⟩ := r.get hp
  refine ⟨⟨xs, v, hx2, hv⟩, fun x H3 y => ?_⟩
  obtain ⟨e, y⟩ := y
  subst e
  have e2 : v = x := Option.some.inj (hv.symm.trans (y xs hx2))
  subst e2
  exact ⟨Same.refl _, Rep.mono k s p rv⟩
def mLstOf (m : M RV) : M (List PV) := bnd m fun r => match r.1 with
  | .lst ps => ret ps
  | _ => bad
def mTupOf (m : M RV) : M (List PV) := bnd m fun r => match r.1 with
  | .tup ps => ret ps
  | _ => bad
theorem i_list {tg e : Expr} {m : M RV} (s : SE X W cm e m) : SI X W cm tg e (mLstOf m) := ⟨_, pi_list sE_pe, fun {F H0 H ev σ R} r h => by
  refine s.go r (h.bnd.mono fun z ev1 F1 H1 a1 hh v rv => ?_)
  obtain ⟨F2, a2, r2, f12⟩ := rv.share a1
  have h2 := hh.2
  cases e1 : z.1 with
  | lst ps =>
    simp only [e1] at h2
    rw [e1] at r2
    unfold Rep at r2
    obtain ⟨a, xs, rfl, ⟨f, hx⟩, rl⟩ := r2
    exact ⟨a, rfl, ⟨xs, SqL.of hx⟩, Wt.ret (P := fun ps ev' F' H' => ∀ J F2, Aft X.K F H0 ev ev' σ H F2 H' → (∀ a, F' a → F2 a) → ItOk X.K F2 H' J ps → R J H') a1.er h2 _ F2 a2 f12 (itl_ok f hx rl)⟩
  | _ => simp only [e1] at h2; exact h2.elim⟩
theorem i_tup {tg e : Expr} {m : M RV} (s : SE X W cm e m) : SI X W cm tg e (mTupOf m) := ⟨_, pi_tup sE_pe, fun {F H0 H ev σ R} r h => by
  refine s.go r (h.bnd.mono fun z ev1 F1 H1 a1 hh v rv => ?_)
  obtain ⟨F2, a2, r2, f12⟩ := rv.share a1
  have h2 := hh.2
  cases e1 : z.1 with
  | tup ps =>
    simp only [e1] at h2
    rw [e1] at r2
    unfold Rep at r2
    obtain ⟨a, xs, rfl, hx, rl⟩ := r2
    exact ⟨a, rfl, ⟨xs, hx.sqT⟩, Wt.ret (P := fun ps ev' F' H' => ∀ J F2, Aft X.K F H0 ev ev' σ H F2 H' → (∀ a, F' a → F2 a) → ItOk X.K F2 H' J ps → R J H') a1.er h2 _ F2 a2 f12 (itt_ok hx rl)⟩
  | _ => simp only [e1] at h2; exact h2.elim⟩
def rgP (lo : Int) (n : Nat) : List PV := (List.range n).map fun i => .int (lo + (i : Nat))
theorem itr_ok {K : Fr} {F : FS} {H : Hp} {lo : Int} {n : Nat} : ItOk K F H (Itr lo n) (rgP lo n) := fun i F2 H2 s k => by
  unfold rgP
  refine ⟨fun e => by rw [List.length_map, List.length_range] at e; exact Nat.le_of_eq e.symm, fun p hp => ?_⟩
  have hi : i < n := by
    have := (List.getElem?_eq_some_iff.mp hp).1
    rwa [List.length_map, List.length_range] at this
  refine ⟨hi, fun x H3 y => ?_⟩
  obtain ⟨rfl, rfl⟩ := y
  rw [List.getElem?_map, List.getElem?_range hi] at hp
  cases hp
  exact ⟨Same.refl _, rep_int⟩
def okR (i : Int) : Bool := decide (-(2 ^ 62) ≤ i ∧ i < 2 ^ 62)
def mRng1 (m : M (List PV)) : M (List PV) := bnd m fun ps => match ps with
  | [.int j] => if okR j then ret (rgP 0 j.toNat) else bad
  | _ => bad
def mRng2 (m : M (List PV)) : M (List PV) := bnd m fun ps => match ps with
  | [.int i, .int j] => if okR i && okR j then ret (rgP i (j - i).toNat) else bad
  | _ => bad
theorem i_range1 {tg a : Expr} {m : M (List PV)} {p pos : Pos} (hm : X.mg "range" = none) (s : SK X W cm [a] m) (hg : Gl X "range" := by rfl) (hs : starEach [a] X.env = [(false, eval a X.env)] := by rfl) : SI X W cm tg (.Call (.Name "range" p) [a] [] pos) (mRng1 m) := ⟨_, pi_range1 hg hm sA_pa hs, fun {F H0 H ev σ R} r h => by
  refine s.go r (h.bnd.mono fun ps ev1 F1 H1 a1 hh vs rs => ?_)
  have h2 := hh.2
  split at h2
  · rename_i j
    obtain ⟨v, rfl, rv⟩ := rs.one
    have ev0 : v = .int j := rv
    subst ev0
    split at h2
    · rename_i c
      unfold okR at c
      have c' := of_decide_eq_true c
      exact ⟨j, rfl, c'.1, c'.2, Wt.ret (P := fun ps ev' F' H' => ∀ J F2, Aft X.K F H0 ev ev' σ H F2 H' → (∀ a, F' a → F2 a) → ItOk X.K F2 H' J ps → R J H') a1.er h2 _ F1 a1 (fun _ h => h) itr_ok⟩
    · exact h2.elim
  · exact h2.elim⟩
theorem i_range2 {tg a b : Expr} {m : M (List PV)} {p pos : Pos} (hm : X.mg "range" = none) (s : SK X W cm [a, b] m) (hg : Gl X "range" := by rfl) (hs : starEach [a, b] X.env = [(false, eval a X.env), (false, eval b X.env)] := by rfl) (hs2 : starEach [b] X.env = [(false, eval b X.env)] := by rfl) : SI X W cm tg (.Call (.Name "range" p) [a, b] [] pos) (mRng2 m) := ⟨_, pi_range2 hg hm sA_pa hs hs2, fun {F H0 H ev σ R} r h => by
  refine s.go r (h.bnd.mono fun ps ev1 F1 H1 a1 hh vs rs => ?_)
  have h2 := hh.2
  split at h2
  · rename_i i j
    obtain ⟨v, w, rfl, rv, rw'⟩ := rs.two
    have ev0 : v = .int i := rv
    have ev1 : w = .int j := rw'
    subst ev0 ev1
    split at h2
    · rename_i c
      rw [Bool.and_eq_true] at c
      unfold okR at c
      have c1 := of_decide_eq_true c.1
      have c2 := of_decide_eq_true c.2
      exact ⟨i, j, rfl, ⟨c1.1, c1.2, c2.1, c2.2⟩, Wt.ret (P := fun ps ev' F' H' => ∀ J F2, Aft X.K F H0 ev ev' σ H F2 H' → (∀ a, F' a → F2 a) → ItOk X.K F2 H' J ps → R J H') a1.er h2 _ F1 a1 (fun _ h => h) itr_ok⟩
    · exact h2.elim
  · exact h2.elim⟩
def loop (t : PV → SL → Option SL) (mb : M Fl) : List PV → M Fl
  | [] => ret .nx
  | p :: ps => fun ev => match t p ev with
    | none => .bad
    | some ev1 => match mb ev1 with
      | .ok .nx ev2 => loop t mb ps ev2
      | .ok .ct ev2 => loop t mb ps ev2
      | .ok .bk ev2 => .ok .nx ev2
      | .ok (.rt r) ev2 => .ok (.rt r) ev2
      | .exc c ev2 => .exc c ev2
      | .bad => .bad
theorem s_for {tg iter : Expr} {body : List Stmt} {mi : M (List PV)} {t : PV → SL → Option SL} {mb : M Fl} {pos : Pos} {js : List Nat} (hp : PassesOwn (model X.prog X.w) X.A X.env X.xe) (hc : X.calm = true) (si : SI X W cm tg iter mi) (sg : SG X W tg t js) (sb : SB X W cm body mb)
    (hs : ∀ x, foldedSetIterable iter X.env x = pure x := by intro _; rfl) : SS X W cm (.For tg iter body [] pos) (bnd mi (loop t mb)) := ⟨fun {F0 F H0 H ev σ D} b h => by
  obtain ⟨wi, hpi, hwi⟩ := si.ex
  refine sS_of (ps_for hp hc hpi sG_pg sSs_ps hs) ?_
  refine hwi b.er ((h.expr b).mono fun ps ev1 F1 H1 a1 hh J F2 a2 f12 it => ?_)
  have hl : Ws X.K W cm F0 F2 H0 D ev1 σ H1 (loop t mb ps) := by
    have h2 := hh.2
    unfold Ws at h2 ⊢
    have up : ∀ {F' ev' σ' H'}, AS X.K F0 F2 H0 H1 F' ev' σ' H' → AS X.K F0 F1 H0 H1 F' ev' σ' H' := fun {F' ev' σ' H'} a => ⟨a.bs, fun x h => a.sub x (f12 x h), ⟨a.keep.tup, a.keep.frz, fun x o f => a.keep.lst x o (f12 x f)⟩⟩
    cases q : loop t mb ps ev1 with
    | ok f ev' =>
      cases f with
      | nx => rw [q] at h2; exact fun F' σ' H' a => h2 F' σ' H' (up a)
      | bk => rw [q] at h2; exact fun F' σ' H' a => h2 F' σ' H' (up a)
      | ct => rw [q] at h2; exact fun F' σ' H' a => h2 F' σ' H' (up a)
      | rt r => rw [q] at h2; exact h2
    | exc c ev' => rw [q] at h2; exact fun F' σ' H' a => h2 F' σ' H' (up a)
    | bad => rw [q] at h2; exact h2
  have b2 := (b.aft a2).bs
  refine ⟨fun i n σ' H' => n = ps.length - i ∧ i ≤ ps.length ∧ ∃ F' ev', BS X.K F0 F' H0 ev' σ' H' ∧ (∀ a, F2 a → F' a) ∧ Keep F2 H1 H' ∧ Ws X.K W cm F0 F' H0 D ev' σ' H' (loop t mb (ps.drop i)), ⟨ps.length, by simp, Nat.zero_le _, F2, ev1, b2, fun _ h => h, .refl, hl⟩, ?_⟩
  rintro i n σ' H' ⟨rfl, hi, F', ev', bs, f2, kp, hw⟩
  by_cases e : i = ps.length
  · refine .inl ⟨(it i F' H' f2 kp).1 e, ?_⟩
    rw [e, List.drop_length] at hw
    exact hw.nx rfl bs.as
  · have hlt : i < ps.length := by omega
    have ed : ps.drop i = ps[i] :: ps.drop (i + 1) := List.drop_eq_getElem_cons hlt
    rw [ed] at hw
    obtain ⟨go, yl⟩ := (it i F' H' f2 kp).2 ps[i] (List.getElem?_eq_getElem hlt)
    have hb := hw.not_bad
    unfold loop at hb
    cases e1 : t ps[i] ev' with
    | none => simp only [e1] at hb; exact absurd rfl hb
    | some ev2 =>
      refine .inr ⟨go, fun σ3 H3 => ∃ F3 ev3, BS X.K F0 F3 H0 ev3 σ3 H3 ∧ (∀ a, F2 a → F3 a) ∧ Keep F2 H1 H3 ∧ Ws X.K W cm F0 F3 H0 D ev3 σ3 H3 (loop t mb (ps.drop (i + 1))), fun σ3 H3 ⟨F3, ev3, x1, x2, x3, x4⟩ => ⟨_, by omega, rfl, hlt, F3, ev3, x1, x2, x3, x4⟩, fun x H4 y => ?_⟩
      obtain ⟨s4, r4⟩ := yl x H4 y
      have b4 : BS X.K F0 F' H0 ev' σ' H4 := ⟨bs.er.later s4, bs.sub, bs.base⟩
      have as4 : AS X.K F0 F' H0 H' F' ev' σ' H4 := ⟨b4, fun _ h => h, .of s4⟩
      intro pins s u I ru
      refine sg.go b4 r4 e1 (fun σ5 a5 _ _ => ?_) pins s u I ru
      -- the body
      have a6 : AS X.K F0 F' H0 H' F' ev2 σ5 H4 := as4.trans a5
      refine sb.go a5.bs ?_
      unfold Ws
      unfold Ws loop at hw
      simp only [e1] at hw
      have next : ∀ {ev7 : SL} {F7 : FS} {σ7 : St} {H7 : Hp}, AS X.K F0 F' H0 H4 F7 ev7 σ7 H7 → Ws X.K W cm F0 F' H0 D ev' σ' H' (fun _ => loop t mb (ps.drop (i + 1)) ev7) →
          ∃ F3 ev3, BS X.K F0 F3 H0 ev3 σ7 H7 ∧ (∀ a, F2 a → F3 a) ∧ Keep F2 H1 H7 ∧ Ws X.K W cm F0 F3 H0 D ev3 σ7 H7 (loop t mb (ps.drop (i + 1))) := fun {ev7 F7 σ7 H7} a7 w7 =>
        ⟨F7, ev7, a7.bs, fun a h => a7.sub a (f2 a h), kp.trans f2 ((as4.keep).trans (fun _ h => h) a7.keep), Ws.from (σ := σ') (m := fun _ => loop t mb (ps.drop (i + 1)) ev7) (ev := ev') (as4.trans a7) rfl w7⟩
      cases q : mb ev2 with
      | ok f ev7 =>
        cases f with
        | nx => simp only [q] at hw; exact fun F7 σ7 H7 a7 => next a7 (by unfold Ws; exact hw)
        | ct => simp only [q] at hw; exact fun F7 σ7 H7 a7 => next a7 (by unfold Ws; exact hw)
        | bk => simp only [q] at hw; exact fun F7 σ7 H7 a7 => hw F7 σ7 H7 (as4.trans a7)
        | rt r => simp only [q] at hw; exact hw
      | exc c ev7 => simp only [q] at hw; exact fun F7 σ7 H7 a7 => hw F7 σ7 H7 (as4.trans a7)
      | bad => simp only [q] at hw⟩
end
end Pv

set_option Elab.async false
set_option linter.all false
set_option maxRecDepth 100000
namespace Pv
open PySem PySem.Spec L2
open PyProof.Rows hiding St

section
variable {X : Cx} {W : WX} {cm : CM}
/-! ### raise -/
def mRaise (c : Str) : M Fl := fun ev => .exc c ev
/-- the class named x is known, its exceptions can be made -/
structure ExK (K : Fr) (mg : Str → Option Value) (cm : CM) (x : Str) : Prop where
  ex : ∃ (C : Addr), cm x = .ref C ∧ mg x = some (.ref C) ∧ PySem.W.excIn K C [.type "ValueError", .type "Exception", .type "BaseException", .type "object"] "ValueError.__new__" = true ∧ PySem.W.keepIn K (.ref C) = true ∧ PySem.W.subIn K (.ref C) (.type "BaseException") = some true ∧ PySem.W.typeIn K (.ref C) = some (.type "type")
theorem s_raise {x m : Str} {j : Nat} {p p2 pos pos' : Pos} (hc : X.calm = true) (tk : Takes X W) (c : ExK X.K X.mg cm x) (hg : Gl X x := by rfl) (hd : (x == ("__debug__" : Str)) = false := by decide) :
    SS X W cm (.Raise (some (.Call (.Name x p) [.Constant (.str m) j p2] [] pos)) none pos') (mRaise x) := ⟨fun {F0 F H0 H ev σ D} b h => by
  obtain ⟨C, e, hm, h1, h2, h3, h4⟩ := c.ex
  refine sS_of (ps_raise hc tk (pmk_own PySem.F.excBase_ValueError h1 hm h2 (raises_own h3 h4) hg hd)) ?_
  unfold Ws mRaise at h
  have h5 := h F σ H b.as
  rw [e] at h5
  exact h5⟩
/-! ### while -/
def whil (mc : M Bool) (mb : M Fl) : Nat → M Fl
  | 0 => fun _ => .bad
  | n + 1 => bnd mc fun k => if k then (fun ev => match mb ev with
      | .ok .nx ev2 => whil mc mb n ev2
      | .ok .ct ev2 => whil mc mb n ev2
      | .ok .bk ev2 => .ok .nx ev2
      | .ok (.rt r) ev2 => .ok (.rt r) ev2
      | .exc c ev2 => .exc c ev2
      | .bad => .bad) else ret .nx
theorem s_while (n : Nat) {c : Expr} {body : List Stmt} {mc : M Bool} {mb : M Fl} {pos : Pos} (hp : PassesOwn (model X.prog X.w) X.A X.env X.xe) (sc : ST X W cm c mc) (sb : SB X W cm body mb) : SS X W cm (.While c body [] pos) (whil mc mb n) := ⟨fun {F0 F H0 H ev σ D} b h => by
  refine sS_of (ps_while hp sT_pt sSs_ps) ?_
  refine ⟨fun k σ' H' => ∃ F' ev', BS X.K F0 F' H0 ev' σ' H' ∧ Ws X.K W cm F0 F' H0 D ev' σ' H' (whil mc mb k), ⟨n, F, ev, b, h⟩, ?_⟩
  rintro k σ' H' ⟨F', ev', bs, hw⟩
  cases k with
  | zero => exact absurd rfl hw.not_bad
  | succ k =>
    unfold whil at hw
    refine sc.go bs.er ((hw.expr bs).mono fun z ev1 F1 H1 a1 hh => ?_)
    have h2 := hh.2
    cases z with
    | false => exact iteF (h2.nx rfl (bs.aft a1).bs.as)
    | true =>
      refine iteT ⟨fun σ3 H3 => ∃ F3 ev3, BS X.K F0 F3 H0 ev3 σ3 H3 ∧ Ws X.K W cm F0 F3 H0 D ev3 σ3 H3 (whil mc mb k), fun σ3 H3 q => ⟨k, by omega, q⟩, ?_⟩
      have b1 := (bs.aft a1).bs
      refine sb.go b1 ?_
      unfold Ws
      unfold Ws at h2
      simp only [if_true] at h2
      have next : ∀ {ev7 : SL} {F7 : FS} {σ7 : St} {H7 : Hp}, AS X.K F0 F1 H0 H1 F7 ev7 σ7 H7 → Ws X.K W cm F0 F1 H0 D ev1 σ' H1 (fun _ => whil mc mb k ev7) →
          ∃ F3 ev3, BS X.K F0 F3 H0 ev3 σ7 H7 ∧ Ws X.K W cm F0 F3 H0 D ev3 σ7 H7 (whil mc mb k) := fun {ev7 F7 σ7 H7} a7 w7 =>
        ⟨F7, ev7, a7.bs, Ws.from (σ := σ') (m := fun _ => whil mc mb k ev7) (ev := ev1) a7 rfl w7⟩
      cases q : mb ev1 with
      | ok f ev7 =>
        cases f with
        | nx => simp only [q] at h2; exact fun F7 σ7 H7 a7 => next a7 (by unfold Ws; exact h2)
        | ct => simp only [q] at h2; exact fun F7 σ7 H7 a7 => next a7 (by unfold Ws; exact h2)
        | bk => simp only [q] at h2; exact h2
        | rt r => simp only [q] at h2; exact h2
      | exc c ev7 => simp only [q] at h2; exact h2
      | bad => simp only [q] at h2⟩
/-! ### try: .. except C as e: .. -/
/-- what an except clause does with an exception of class d: the suite is told of the address 0, whatever it is -/
def mTry (mb : M Fl) (is : Str → Option Bool) (i : Nat) (ms : Str → Addr → M Fl) : M Fl := fun ev => match mb ev with
  | .exc d ev1 => match is d with
    | some true => if i < ev1.length then (match ms d 0 (ev1.set i (.val (.opq (.ref 0)))) with
      | .ok f ev2 => .ok f (ev2.set i .no)
      | .exc _ _ => .bad
      | .bad => .bad) else .bad
    | some false => .exc d ev1
    | none => .bad
  | r => r
/-- the address does not matter -/
def Nat0 (i : Nat) (m : Addr → M Fl) : Prop := ∀ (a : Addr) (ev ev2 : SL) (f : Fl), m 0 (ev.set i (.val (.opq (.ref 0)))) = .ok f ev2 → ∃ ev3, m a (ev.set i (.val (.opq (.ref a)))) = .ok f ev3 ∧ ev3.set i .no = ev2.set i .no
theorem ER.forget {K : Fr} {F : FS} {H0 H : Hp} {ev : SL} {σ : St} {i : Nat} {o : Option V} (r : ER K F H0 ev σ H) (hi : i < ev.length) : ER K F H0 (ev.set i .no) (σ.set i o) H where
  len := by rw [List.length_set, List.length_set]; exact r.len
  slot := fun j sl e => by
    by_cases hj : i = j
    · subst hj
      rw [List.getElem?_set_self hi] at e
      cases e
      exact ⟨o, List.getElem?_set_self (by rw [← r.len]; exact hi), trivial⟩
    · rw [List.getElem?_set_ne hj] at e ⊢
      exact r.slot j sl e
  inj := fun j k a ps qs e1 e2 s1 s2 => by
    have nj : i ≠ j := fun z => by
      subst z
      rw [List.getElem?_set_self hi] at e1; cases e1
    have nk : i ≠ k := fun z => by
      subst z
      rw [List.getElem?_set_self hi] at e2; cases e2
    rw [List.getElem?_set_ne nj] at e1 s1
    rw [List.getElem?_set_ne nk] at e2 s2
    exact r.inj j k a ps qs e1 e2 s1 s2
  dom := r.dom
  same := r.same
theorem s_tryAs {x n : Str} {cv : Value} {i : Nat} {body suite : List Stmt} {b0 : Stmt} {np pos pos' : Pos} {mb : M Fl} {is : Str → Option Bool} {ms : Str → Addr → M Fl} (hs : X.stack = X.env :: X.outer) (hf : X.env.frame = some X.env.locals) (hNd : X.N.Nodup) (hn : Names X x cv) (tk : Takes X W)
    (his : ∀ d k, is d = some k → PySem.W.exmOne X.K (cm d) cv = some k)
    (sb : ∀ (W' : WX) (pn : List (Addr × Obj)) (xe : Value → Shared → Prop), Takes (X.tr pn xe) W' → PassesOwn (model X.prog X.w) X.A X.env xe → SB (X.tr pn xe) W' cm body mb)
    (su : ∀ (d : Str) (a : Addr) (oe : Obj) (pn : List (Addr × Obj)), is d = some true → Zc (cm d) none oe → (∃ vs, oe.data = .fields vs) → SB (X.suite a ((a, oe) :: pn)) (fun _ _ _ _ => False) cm (b0 :: suite) (ms d a)) (hn0 : ∀ d, is d = some true → Nat0 i (ms d))
    (hi : X.N[i]? = some n := by rfl) (hk : X.env.kindOf n = some NameKind.local := by rfl) :
    SS X W cm (.Try body [.ExceptHandler (some (.Name x np)) (some n) (b0 :: suite) pos'] [] [] pos) (mTry mb is i ms) := ⟨fun {F0 F H0 H ev σ D} b h => by
  refine sS_of (ps_try_as (tb := fun W' D σ H => ∀ (pn : List (Addr × Obj)) (xe : Value → Shared → Prop), Takes (X.tr pn xe) W' → PassesOwn (model X.prog X.w) X.A X.env xe → sSs (X.tr pn xe) body D σ H)
    (ts := fun a cls d D σ H => ∀ (oe : Obj) (pn : List (Addr × Obj)), Zc cls d oe → (∃ vs, oe.data = Data.fields vs) → sSs (X.suite a ((a, oe) :: pn)) (b0 :: suite) D σ H) hs hf hNd hi hk hn tk
    (fun W' pn xe t hp => ⟨fun pins s σ H D I q => q pn xe t hp pins s I⟩) (fun a oe cls d pn z v => ⟨fun pins s σ H D I q => q oe pn z v pins s I⟩)) ?_
  intro pn xe t hp
  refine (sb _ pn xe t hp).go (X := X.tr pn xe) b ?_
  unfold Ws
  unfold Ws mTry at h
  cases e : mb ev with
  | ok f ev1 =>
    rw [e] at h
    cases f <;> exact h
  | bad => rw [e] at h; exact h
  | exc d ev1 =>
    simp only [e] at h
    intro F1 σ1 H1 a1
    cases e2 : is d with
    | none => simp only [e2] at h
    | some k =>
      refine ⟨k, his d k e2, fun ek a na oe pn2 z v => ?_, fun ek => ?_⟩
      · subst ek
        simp only [e2] at h
        by_cases hl : i < ev1.length
        · rw [if_pos hl] at h
          have b2 : BS X.K F0 F1 H0 (ev1.set i (.val (.opq (.ref a)))) (σ1.set i (some (.ref a))) H1 := ⟨a1.bs.er.store hl (by unfold Rep; rfl), a1.bs.sub, a1.bs.base⟩
          have a2 : AS X.K F0 F H0 H F1 (ev1.set i (.val (.opq (.ref a)))) (σ1.set i (some (.ref a))) H1 := ⟨b2, a1.sub, a1.keep⟩
          refine (su d a oe pn2 e2 z v).go (X := X.suite a ((a, oe) :: pn2)) b2 ?_
          have fin : ∀ {F3 ev3 σ3 H3}, AS X.K F0 F1 H0 H1 F3 ev3 σ3 H3 → AS X.K F0 F H0 H F3 (ev3.set i .no) (σ3.set i none) H3 := fun {F3 ev3 σ3 H3} a3 => by
            have a4 := a2.trans a3
            by_cases hl3 : i < ev3.length
            · exact ⟨⟨a3.bs.er.forget hl3, a3.bs.sub, a3.bs.base⟩, a4.sub, a4.keep⟩
            · rw [List.set_eq_of_length_le (Nat.le_of_not_lt hl3), List.set_eq_of_length_le (by rw [← a3.bs.er.len]; exact Nat.le_of_not_lt hl3)]
              exact a4
          unfold Ws
          cases e3 : ms d 0 (ev1.set i (.val (.opq (.ref 0)))) with
          | ok f ev3 =>
            simp only [e3] at h
            obtain ⟨ev4, e4, e5⟩ := hn0 d e2 a ev1 ev3 f e3
            rw [e4]
            rw [← e5] at h
            cases f with
            | nx => exact fun F3 σ3 H3 a3 => h F3 _ H3 (fin a3)
            | bk => exact fun F3 σ3 H3 a3 => h F3 _ H3 (fin a3)
            | ct => exact fun F3 σ3 H3 a3 => h F3 _ H3 (fin a3)
            | rt r => exact h
          | exc c ev3 => simp only [e3] at h
          | bad => simp only [e3] at h
        · rw [if_neg hl] at h; exact h.elim
      · subst ek
        simp only [e2] at h
        exact h F1 σ1 H1 a1⟩
def mTryO (mb : M Fl) (is : Str → Option Bool) (ms : Str → M Fl) : M Fl := fun ev => match mb ev with
  | .exc d ev1 => match is d with
    | some true => (match ms d ev1 with
      | .ok f ev2 => .ok f ev2
      | .exc _ _ => .bad
      | .bad => .bad)
    | some false => .exc d ev1
    | none => .bad
  | r => r
theorem s_tryOnly {x : Str} {cv : Value} {body suite : List Stmt} {b0 : Stmt} {np pos pos' : Pos} {mb : M Fl} {is : Str → Option Bool} {ms : Str → M Fl} (hs : X.stack = X.env :: X.outer) (hf : X.env.frame = some X.env.locals) (hn : Names X x cv) (tk : Takes X W)
    (his : ∀ d k, is d = some k → PySem.W.exmOne X.K (cm d) cv = some k)
    (sb : ∀ (W' : WX) (pn : List (Addr × Obj)) (xe : Value → Shared → Prop), Takes (X.tr pn xe) W' → PassesOwn (model X.prog X.w) X.A X.env xe → SB (X.tr pn xe) W' cm body mb)
    (su : ∀ (d : Str) (a : Addr) (oe : Obj) (pn : List (Addr × Obj)), is d = some true → Zc (cm d) none oe → (∃ vs, oe.data = .fields vs) → SB (X.suite a ((a, oe) :: pn)) (fun _ _ _ _ => False) cm (b0 :: suite) (ms d)) :
    SS X W cm (.Try body [.ExceptHandler (some (.Name x np)) none (b0 :: suite) pos'] [] [] pos) (mTryO mb is ms) := ⟨fun {F0 F H0 H ev σ D} b h => by
  refine sS_of (ps_try_only (tb := fun W' D σ H => ∀ (pn : List (Addr × Obj)) (xe : Value → Shared → Prop), Takes (X.tr pn xe) W' → PassesOwn (model X.prog X.w) X.A X.env xe → sSs (X.tr pn xe) body D σ H)
    (ts := fun a cls d D σ H => ∀ (oe : Obj) (pn : List (Addr × Obj)), Zc cls d oe → (∃ vs, oe.data = Data.fields vs) → sSs (X.suite a ((a, oe) :: pn)) (b0 :: suite) D σ H) hs hf hn tk
    (fun W' pn xe t hp => ⟨fun pins s σ H D I q => q pn xe t hp pins s I⟩) (fun a oe cls d pn z v => ⟨fun pins s σ H D I q => q oe pn z v pins s I⟩)) ?_
  intro pn xe t hp
  refine (sb _ pn xe t hp).go (X := X.tr pn xe) b ?_
  unfold Ws
  unfold Ws mTryO at h
  cases e : mb ev with
  | ok f ev1 =>
    rw [e] at h
    cases f <;> exact h
  | bad => rw [e] at h; exact h
  | exc d ev1 =>
    simp only [e] at h
    intro F1 σ1 H1 a1
    cases e2 : is d with
    | none => simp only [e2] at h
    | some k =>
      refine ⟨k, his d k e2, fun ek a na oe pn2 z v => ?_, fun ek => ?_⟩
      · subst ek
        simp only [e2] at h
        refine (su d a oe pn2 e2 z v).go (X := X.suite a ((a, oe) :: pn2)) a1.bs ?_
        unfold Ws
        cases e3 : ms d ev1 with
        | ok f ev3 =>
          simp only [e3] at h
          cases f with
          | nx => exact fun F3 σ3 H3 a3 => h F3 σ3 H3 (a1.trans a3)
          | bk => exact fun F3 σ3 H3 a3 => h F3 σ3 H3 (a1.trans a3)
          | ct => exact fun F3 σ3 H3 a3 => h F3 σ3 H3 (a1.trans a3)
          | rt r => exact h
        | exc c ev3 => simp only [e3] at h
        | bad => simp only [e3] at h
      · subst ek
        simp only [e2] at h
        exact h F1 σ1 H1 a1⟩

/-! ### a def -/
def runB (m : M Fl) (ev : SL) : Rf := match m ev with
  | .ok .nx _ => .ok (.non, false)
  | .ok (.rt r) _ => .ok r
  | .ok _ _ => .bad
  | .exc c _ => .exc c
  | .bad => .bad
/-- the slots at the start -/
def ev0 (n : Nat) (ps : List PV) : SL := ps.map .val ++ List.replicate (n - ps.length) .no
def runF (n k : Nat) (m : M Fl) : Fn := fun ps => if ps.length = k ∧ k ≤ n then runB m (ev0 n ps) else .bad
theorem start_er {K : Fr} {F : FS} {H : Hp} {N : List Str} {vs : List V} {ps : List PV} (d : ∀ a, F a → H a ≠ none) (r : RepL K F H vs ps) (hl : ps.length ≤ N.length) : ER K F H (ev0 N.length ps) (L2.start N vs) H where
  len := by
    unfold ev0 L2.start
    rw [List.length_append, List.length_append, List.length_map, List.length_map, List.length_replicate, List.length_replicate, r.length]
  slot := fun i sl e => by
    unfold ev0 at e
    unfold L2.start
    by_cases hi : i < ps.length
    · rw [List.getElem?_append_left (by rw [List.length_map]; exact hi), List.getElem?_map, List.getElem?_eq_getElem hi] at e
      cases e
      obtain ⟨v, e1, e2⟩ := r.get (List.getElem?_eq_getElem hi)
      refine ⟨some v, ?_, v, rfl, e2⟩
      rw [List.getElem?_append_left (by rw [List.length_map, r.length]; exact hi), List.getElem?_map, e1]
      rfl
    · rw [List.getElem?_append_right (by rw [List.length_map]; exact Nat.le_of_not_lt hi)] at e
      have hb := (List.getElem?_eq_some_iff.mp e).1
      rw [List.length_replicate] at hb
      rw [List.getElem?_replicate_of_lt hb] at e
      cases e
      rw [List.length_map] at hb
      refine ⟨none, ?_, trivial⟩
      rw [List.getElem?_append_right (by rw [List.length_map, r.length]; exact Nat.le_of_not_lt hi), List.length_map, List.getElem?_replicate_of_lt (by rw [r.length]; exact hb)]
  inj := fun i j a qs rs e1 _ _ _ => by
    unfold ev0 at e1
    by_cases hi : i < ps.length
    · rw [List.getElem?_append_left (by rw [List.length_map]; exact hi), List.getElem?_map, List.getElem?_eq_getElem hi] at e1
      cases e1
    · rw [List.getElem?_append_right (by rw [List.length_map]; exact Nat.le_of_not_lt hi)] at e1
      have hb := (List.getElem?_eq_some_iff.mp e1).1
      rw [List.length_replicate] at hb
      rw [List.getElem?_replicate_of_lt hb] at e1
      cases e1
  dom := d
  same := Same.refl _
/-- a def's body -/
theorem def_fn {P : Program} {w : World} {K : Fr} {mg : Str → Option Value} {base : Heap} {x qual : Str} {st : Stmt} {f : Addr} {fd : FuncData} {N ps : List Str} {k : Nat} {m : M Fl} (F : Fun K x qual st f fd) (S : FnScope N ps (defScope st))
    (body : ∀ (cdv : Value) (A : Around) (outer : List Env) (s : Shared) (H : Hp) (E : XK), Room k (A.deeper (PyProof.Rows.envOfC qual (defScope st) s.heap.objs.size f cdv)) →
      SB (cxOf (L2.CX P w) P w K mg base N qual (defScope st) f cdv A outer s H E) (fun cls d _ H => E cls d H) cm (defBody st) m) (hle : ps.length ≤ N.length) :
    FnOk P w K mg base (L2.CX P w) (k + 1) f fd ps (spP K cm (runF N.length ps.length m)) := by
  refine F.okX S (fun vs H Q E h => ?_) (fun cdv A outer s H vs Q E hr h => ?_)
  · obtain ⟨G, qs, _, r, h⟩ := h
    unfold runF at h
    by_cases c : qs.length = ps.length ∧ ps.length ≤ N.length
    · rw [r.length]
      exact c.1
    · rw [if_neg c] at h; exact h.elim
  · obtain ⟨G, qs, d, r, h⟩ := h
    unfold runF at h
    by_cases c : qs.length = ps.length ∧ ps.length ≤ N.length
    · rw [if_pos c] at h
      refine ⟨_, sSs_ps, ?_⟩
      have er := start_er (N := N) d r (by rw [c.1]; exact c.2)
      refine (body cdv A outer s H E hr).go (F0 := G) ⟨er, fun _ h => h, fun _ h => .inl h⟩ ?_
      unfold runB at h
      unfold Ws
      cases e : m (ev0 N.length qs) with
      | ok fl ev1 =>
        cases fl with
        | nx =>
          simp only [e] at h
          intro F' σ' H' a
          refine h F' .non H' a.bs.er.same a.bs.sub a.bs.base a.bs.er.dom ?_
          show Rep K F' H' .non .non
          exact rep_non
        | rt r =>
          simp only [e] at h
          intro v H' ⟨F', h1, h2, h3, h4, h5⟩
          exact h F' v H' h4 h1 h2 h3 h5
        | bk => simp only [e] at h
        | ct => simp only [e] at h
      | exc c ev1 =>
        simp only [e] at h
        intro F' σ' H' a
        exact h H' a.bs.er.same
      | bad => simp only [e] at h
    · rw [if_neg c] at h; exact h.elim
/-- a def's body -/
theorem def_ok {P : Program} {w : World} {K : Fr} {mg : Str → Option Value} {base : Heap} {x qual : Str} {st : Stmt} {f : Addr} {fd : FuncData} {N ps : List Str} {k : Nat} {m : M Fl} (F : Fun K x qual st f fd) (S : FnScope N ps (defScope st)) (hg : mg x = some (.ref f)) (hb : Binds K fd ps [])
    (body : ∀ (cdv : Value) (A : Around) (outer : List Env) (s : Shared) (H : Hp) (E : XK), Room k (A.deeper (PyProof.Rows.envOfC qual (defScope st) s.heap.objs.size f cdv)) →
      SB (cxOf (L2.CX P w) P w K mg base N qual (defScope st) f cdv A outer s H E) (fun cls d _ H => E cls d H) cm (defBody st) m) (hle : ps.length ≤ N.length) :
    Cal P w K mg base cm (k + 1) x (runF N.length ps.length m) :=
  ⟨f, fd, ps, def_fn F S body hle, hg, F.kp, hb⟩
end
end Pv

set_option Elab.async false
set_option linter.all false
set_option maxRecDepth 100000
namespace Pv
open PySem PySem.Spec L2
open PyProof.Rows hiding St

section
variable {X : Cx} {W : WX} {cm : CM}
/-! ### comprehensions -/
/-- the slots of its own names: as they were -/
def wipeE (ev : SL) : List Nat → SL
  | [] => ev
  | v :: vs => (wipeE ev vs).set v .no
def back (ev0 ev : SL) : List Nat → SL
  | [] => ev
  | v :: vs => (back ev0 ev vs).set v (match ev0[v]? with
    | some (.val p) => .val p
    | _ => .no)
theorem wipeE_len (ev : SL) : ∀ vs : List Nat, (wipeE ev vs).length = ev.length
  | [] => rfl
  | v :: vs => by unfold wipeE; rw [List.length_set, wipeE_len ev vs]
theorem ER.weaken {K : Fr} {F : FS} {H0 H : Hp} {ev ev' : SL} {σ σ' : St} (r : ER K F H0 ev σ H) (hl : ev'.length = ev.length) (hs : σ'.length = σ.length)
    (h : ∀ (i : Nat) s, ev'[i]? = some s → s = .no ∨ (ev[i]? = some s ∧ σ'[i]? = σ[i]?)) : ER K F H0 ev' σ' H where
  len := by rw [hl, hs, r.len]
  slot := fun i s e => by
    rcases h i s e with rfl | ⟨e1, e2⟩
    · have : i < σ'.length := by rw [hs, ← r.len, ← hl]; exact (List.getElem?_eq_some_iff.mp e).1
      exact ⟨_, List.getElem?_eq_getElem this, trivial⟩
    · obtain ⟨o, e3, q⟩ := r.slot i s e1
      exact ⟨o, by rw [e2]; exact e3, q⟩
  inj := fun i j a ps qs e1 e2 s1 s2 => by
    rcases h i _ e1 with z | ⟨f1, g1⟩
    · cases z
    rcases h j _ e2 with z | ⟨f2, g2⟩
    · cases z
    exact r.inj i j a ps qs f1 f2 (by rw [← g1]; exact s1) (by rw [← g2]; exact s2)
  dom := r.dom
  same := r.same
theorem wipeE_get {ev : SL} {i : Nat} {s : Slot} : ∀ {vs : List Nat}, (wipeE ev vs)[i]? = some s → s = .no ∨ (ev[i]? = some s ∧ i ∉ vs)
  | [], h => .inr ⟨h, by simp⟩
  | v :: vs, h => by
    unfold wipeE at h
    rcases getElem?_set_some h with ⟨_, e⟩ | ⟨ne, e⟩
    · exact .inl e
    · rcases wipeE_get e with e | ⟨e1, e2⟩
      · exact .inl e
      · exact .inr ⟨e1, fun z => by
          rcases List.mem_cons.mp z with z | z
          · exact ne z.symm
          · exact e2 z⟩
theorem wipe_get {σ : St} {i : Nat} : ∀ {vs : List Nat}, i ∉ vs → (wipe σ vs)[i]? = σ[i]?
  | [], _ => rfl
  | v :: vs, h => by
    unfold wipe
    rw [List.getElem?_set_ne (fun z => h (by rw [z]; exact List.mem_cons_self))]
    exact wipe_get fun z => h (List.mem_cons_of_mem _ z)
theorem ER.wiped {K : Fr} {F : FS} {H0 H : Hp} {ev : SL} {σ : St} (r : ER K F H0 ev σ H) (vs : List Nat) : ER K F H0 (wipeE ev vs) (wipe σ vs) H :=
  r.weaken (wipeE_len ev vs) (wipe_length σ vs) fun i s e => by
    rcases wipeE_get e with e | ⟨e1, e2⟩
    · exact .inl e
    · exact .inr ⟨e1, wipe_get e2⟩
/-- one turn: the item, the tests, the element -/
def turn (t : PV → SL → Option SL) (mt : M Bool) (me : M RV) (p : PV) : M (Option PV) := fun ev => match t p ev with
  | none => .bad
  | some ev1 => bnd mt (fun k => if k then bnd me fun r => ret (some r.1) else ret none) ev1
def compr (t : PV → SL → Option SL) (mt : M Bool) (me : M RV) (vs : List Nat) : List PV → List PV → M (List PV)
  | acc, [] => ret acc
  | acc, p :: ps => fun ev => match turn t mt me p ev with
    | .ok (some q) ev1 => if acc.length < SZ then compr t mt me vs (acc ++ [q]) ps (wipeE ev1 vs) else .bad
    | .ok none ev1 => compr t mt me vs acc ps (wipeE ev1 vs)
    | _ => .bad
def mComp (mi : M (List PV)) (t : PV → SL → Option SL) (mt : M Bool) (me : M RV) (vs : List Nat) : M RV := bnd mi fun ps ev1 => match compr t mt me vs [] ps (wipeE ev1 vs) with
  | .ok qs ev2 => .ok (.lst qs, true) (back ev1 ev2 vs)
  | _ => .bad
/-- the block's context, whatever it is -/
abbrev Blk (X : Cx) (scope : Scope) (P : Cx → Prop) : Prop := ∀ (s : Shared) (H : Hp) (C : Addr) (cl : List (Str × Addr)) (fp : List Addr), P (X.blk s H scope (compEnvC scope cl C X.env) fp)
abbrev W0 : WX := fun _ _ _ _ => False
/-- tests of a comprehension -/
structure STs (X : Cx) (W : WX) (cm : CM) (es : List Expr) (m : M Bool) : Prop where
  go : ∀ {F : FS} {H0 H : Hp} {ev : SL} {σ : St} {Q : Bool → Hp → Prop}, ER X.K F H0 ev σ H → (Wt X.K W cm F H0 ev σ H m fun b _ _ H' => Q b H') → ∃ t, PTs X es t ∧ t σ H Q
theorem ts_nil : STs X W cm [] (ret true) := ⟨fun {F H0 H ev σ Q} r h => ⟨_, pts_nil, Wt.ret (P := fun b _ _ H' => Q b H') r h⟩⟩
theorem ts_one {c : Expr} {m : M Bool} (s : ST X W cm c m) : STs X W cm [c] m := ⟨fun {F H0 H ev σ Q} r h => ⟨_, pts_one sT_pt, s.go r h⟩⟩
def sTs (X : Cx) (es : List Expr) : TT := fun σ H Q => ∃ t, PTs X es t ∧ t σ H Q
theorem sTs_pt {es : List Expr} : PTs X es (sTs X es) := ⟨fun pins s σ H Q I h => by
  obtain ⟨t, p, q⟩ := h
  exact p.run pins s σ H Q I q⟩
theorem wipe_but {js vs : List Nat} {σ σ' : St} (h : But js σ σ') (hj : ∀ j ∈ js, j ∈ vs) : wipe σ' vs = wipe σ vs := by
  have e : ∀ (vs : List Nat), (∀ j, j ∉ vs → σ'[j]? = σ[j]?) → wipe σ' vs = wipe σ vs := by
    intro vs hv
    apply List.ext_getElem?
    intro i
    by_cases hi : i ∈ vs
    · have hl : (wipe σ' vs).length = (wipe σ vs).length := by rw [wipe_length, wipe_length]; exact h.1
      have none_at : ∀ (τ : St) (vs : List Nat), i ∈ vs → i < τ.length → (wipe τ vs)[i]? = some none := by
        intro τ vs
        induction vs with
        | nil => intro z; cases z
        | cons v vs ih =>
          intro z hl
          unfold wipe
          by_cases e : v = i
          · subst e
            rw [List.getElem?_set_self (by rw [wipe_length]; exact hl)]
          · rw [List.getElem?_set_ne e]
            rcases List.mem_cons.mp z with z | z
            · exact absurd z.symm e
            · exact ih z hl
      by_cases hb : i < σ.length
      · rw [none_at σ' vs hi (by rw [h.1]; exact hb), none_at σ vs hi hb]
      · rw [List.getElem?_eq_none (by rw [wipe_length, h.1]; exact Nat.le_of_not_lt hb), List.getElem?_eq_none (by rw [wipe_length]; exact Nat.le_of_not_lt hb)]
    · rw [wipe_get hi, wipe_get hi]
      exact hv i hi
  exact e vs fun j hj' => h.2 j fun z => hj' (hj j z)
theorem wipe_wipe {σ : St} (vs : List Nat) : wipe (wipe σ vs) vs = wipe σ vs := by
  apply List.ext_getElem?
  intro i
  cases q : (wipe σ vs)[i]? with
  | none =>
    have := List.getElem?_eq_none_iff.mp q
    exact List.getElem?_eq_none (by rw [wipe_length]; exact this)
  | some o =>
    by_cases hi : i ∈ vs
    · have none_at : ∀ (τ : St) (vs : List Nat), i ∈ vs → i < τ.length → (wipe τ vs)[i]? = some none := by
        intro τ vs
        induction vs with
        | nil => intro z; cases z
        | cons v vs ih =>
          intro z hl
          unfold wipe
          by_cases e : v = i
          · subst e
            rw [List.getElem?_set_self (by rw [wipe_length]; exact hl)]
          · rw [List.getElem?_set_ne e]
            rcases List.mem_cons.mp z with z | z
            · exact absurd z.symm e
            · exact ih z hl
      have hl : i < (wipe σ vs).length := (List.getElem?_eq_some_iff.mp q).1
      rw [none_at (wipe σ vs) vs hi hl]
      rw [none_at σ vs hi (by rw [wipe_length] at hl; exact hl)] at q
      exact q
    · rw [wipe_get hi]; exact q
/-- the list D of a comprehension beside the slots -/
theorem ER.side {K : Fr} {F : FS} {H0 H : Hp} {ev : SL} {σ : St} {D : Addr} {xs : List V} (r : ER K F H0 ev σ H) (nf : ¬ F D) (h0 : H0 D = none) (no : ¬ Ow ev σ D) (hD : ∃ ys, H D = some (.lst ys)) : ER K F H0 ev σ (upd H D (.lst xs)) ∧ Keep F H (upd H D (.lst xs)) := by
  obtain ⟨ys, hy⟩ := hD
  have kp : Keep F H (upd H D (.lst xs)) := ⟨fun b zs h => by
      rw [upd_ne (fun z => by rw [z, hy] at h; cases h)]; exact h, fun b o u h => by
      rw [upd_ne (fun z => by rw [z, hy] at h; cases h)]; exact h, fun b o f h => by
      rw [upd_ne (fun z => by rw [z] at f; exact nf f)]; exact h⟩
  refine ⟨⟨r.len, fun i sl e => ?_, r.inj, fun b f z => ?_, fun b o h => ?_⟩, kp⟩
  · obtain ⟨o, e1, q⟩ := r.slot i sl e
    refine ⟨o, e1, ?_⟩
    cases sl with
    | no => trivial
    | val p =>
      obtain ⟨v, e2, q⟩ := q
      exact ⟨v, e2, Rep.mono kp (fun _ h => h) p q⟩
    | own ps =>
      obtain ⟨a, zs, e2, e3, q, nf', e4⟩ := q
      refine ⟨a, zs, e2, ?_, RepL.mono kp (fun _ h => h) ps q, nf', e4⟩
      rw [upd_ne (fun w => by
        subst w
        exact no ⟨i, ps, e, by rw [e1, e2]⟩)]
      exact e3
  · by_cases w : b = D
    · subst w; exact nf f
    · rw [upd_ne w] at z
      exact r.dom b f z
  · have w : b ≠ D := fun w => by
      rw [w, h0] at h; cases h
    rw [upd_ne w]
    exact r.same b o h
def cG (X : Cx) (scope : Scope) (tg : Expr) : TG := fun v σ H Q => ∀ (s : Shared) (H1 : Hp) (C : Addr) (cl : List (Str × Addr)) (fp : List Addr), sG (X.blk s H1 scope (compEnvC scope cl C X.env) fp) tg v σ H Q
def cT (X : Cx) (scope : Scope) (ifs : List Expr) : TT := fun σ H Q => ∀ (s : Shared) (H1 : Hp) (C : Addr) (cl : List (Str × Addr)) (fp : List Addr), sTs (X.blk s H1 scope (compEnvC scope cl C X.env) fp) ifs σ H Q
def cE (X : Cx) (scope : Scope) (elt : Expr) : TE := fun σ H Q => ∀ (s : Shared) (H1 : Hp) (C : Addr) (cl : List (Str × Addr)) (fp : List Addr), sE (X.blk s H1 scope (compEnvC scope cl C X.env) fp) elt σ H Q
theorem comp_core {elt tg : Expr} {ifs : List Expr} {scope : Scope} {vs js : List Nat} {mi : M (List PV)} {t : PV → SL → Option SL} {mt : M Bool} {me : M RV} {wi : TI}
    (hg : Blk X scope fun Y => SG Y W0 tg t js) (ht : Blk X scope fun Y => STs Y W0 cm ifs mt) (he : Blk X scope fun Y => SE Y W0 cm elt me) (hj : ∀ j ∈ js, j ∈ vs)
    (hwi : ∀ {F : FS} {H0 H : Hp} {ev : SL} {σ : St} {R : It → Hp → Prop}, ER X.K F H0 ev σ H → (Wt X.K W cm F H0 ev σ H mi fun ps ev' F' H' => ∀ J F2, Aft X.K F H0 ev ev' σ H F2 H' → (∀ a, F' a → F2 a) → ItOk X.K F2 H' J ps → R J H') → wi σ H R)
    {F : FS} {H0 H : Hp} {ev : SL} {σ : St} {Q : VK} (r : ER X.K F H0 ev σ H)
    (h : Wt X.K W cm F H0 ev σ H (mComp mi t mt me vs) fun r ev' F' H' => ∀ v, ResR X.K F' H0 ev' σ H H' r v → Q v H') :
    tLc wi (cG X scope tg)
      (cT X scope ifs)
      (cE X scope elt) vs σ H Q := by
  refine hwi r ?_
  unfold Wt
  unfold Wt mComp Pv.bnd at h
  cases em : mi ev with
  | bad => simp only [em] at h
  | exc c ev1 => simp only [em] at h; exact h
  | ok ps ev1 =>
  simp only [em] at h
  intro F1 H1 _ J F2 a2 _ it D hD
  cases eq : compr t mt me vs [] ps (wipeE ev1 vs) with
  | bad => simp only [eq] at h
  | exc c evf => simp only [eq] at h
  | ok qs evf =>
  simp only [eq] at h
  have hD0 : H0 D = none := a2.er.same.free hD
  have nFD : ¬ F2 D := fun f => a2.er.dom D f hD
  have nOD : ¬ Ow ev1 σ D := fun o => by
    obtain ⟨_, _, xs, e⟩ := a2.er.ow o
    rw [hD] at e; cases e
  have owW : ∀ a, Ow (wipeE ev1 vs) (wipe σ vs) a → Ow ev1 σ a := fun a ⟨i, zs, e1, e2⟩ => by
    rcases wipeE_get e1 with z | ⟨z, n⟩
    · cases z
    · exact ⟨i, zs, z, by rw [← wipe_get n]; exact e2⟩
  refine ⟨fun i n H' => n = ps.length - i ∧ i ≤ ps.length ∧ ∃ F' ev' acc accV, ER X.K F' H0 ev' (wipe σ vs) H' ∧ (∀ a, F2 a → F' a) ∧ Same H1 H' ∧ ¬ F' D ∧ H' D = some (.lst accV) ∧ RepL X.K F' H' accV acc ∧
    (∀ a, F' a → F2 a ∨ H1 a = none ∨ Ow (wipeE ev1 vs) (wipe σ vs) a) ∧ (∀ a, Ow ev' (wipe σ vs) a → Ow (wipeE ev1 vs) (wipe σ vs) a) ∧ compr t mt me vs acc (ps.drop i) ev' = .ok qs evf, ?_, ?_⟩
  · exact ⟨ps.length, by simp, Nat.zero_le _, F2, wipeE ev1 vs, [], [], (a2.er.wiped vs).later (same_upd hD), fun _ h => h, same_upd hD, nFD, upd_same, RepL.nil, fun _ h => .inl h, fun _ h => h, eq⟩
  · rintro i n H' ⟨rfl, hi, F', ev', acc, accV, er, f2, s1, nF, hDl, ra, gr, ow, hc⟩
    by_cases e : i = ps.length
    · refine .inl ⟨(it i F' H' f2 (.of s1)).1 e, ?_⟩
      rw [e, List.drop_length] at hc
      unfold compr Pv.ret at hc
      have e8 : acc = qs := by injection hc
      have e9 : ev' = evf := by injection hc
      rw [← e8, ← e9] at h
      have backlen : ∀ vs : List Nat, (back ev1 ev' vs).length = ev'.length := by
        intro vs
        induction vs with
        | nil => rfl
        | cons v vs ih => unfold back; rw [List.length_set, ih]
      have backget : ∀ (vs : List Nat) (i : Nat) (s : Slot), (back ev1 ev' vs)[i]? = some s → (i ∉ vs ∧ ev'[i]? = some s) ∨ s = .no ∨ ∃ p, s = .val p ∧ ev1[i]? = some (.val p) := by
        intro vs
        induction vs with
        | nil => intro i s h; exact .inl ⟨by simp, h⟩
        | cons v vs ih =>
          intro i s h
          unfold back at h
          rcases getElem?_set_some h with ⟨z, e⟩ | ⟨ne, e⟩
          · subst z
            split at e
            · rename_i p hp; exact .inr (.inr ⟨p, e, hp⟩)
            · exact .inr (.inl e)
          · rcases ih i s e with ⟨z1, z2⟩ | z
            · exact .inl ⟨fun z => (List.mem_cons.mp z).elim (fun z => ne z.symm) z1, z2⟩
            · exact .inr z
      have ow1 : ∀ a, Ow (back ev1 ev' vs) σ a → Ow ev' (wipe σ vs) a := fun a ⟨i, zs, e1, e2⟩ => by
        rcases backget vs i _ e1 with ⟨z1, z2⟩ | z | ⟨p, z, _⟩
        · exact ⟨i, zs, z2, by rw [wipe_get z1]; exact e2⟩
        · cases z
        · cases z
      have erB : ER X.K F' H0 (back ev1 ev' vs) σ H' := by
        refine ⟨by rw [backlen, er.len, wipe_length], fun i s e => ?_, fun i j a us ws e1 e2 s1 s2 => ?_, er.dom, er.same⟩
        · rcases backget vs i s e with ⟨z1, z2⟩ | z | ⟨p, z, z2⟩
          · obtain ⟨o, e1, q⟩ := er.slot i s z2
            exact ⟨o, by rw [← wipe_get z1]; exact e1, q⟩
          · subst z
            have : i < σ.length := by
              have h1 := (List.getElem?_eq_some_iff.mp e).1
              rw [backlen, er.len, wipe_length] at h1
              exact h1
            exact ⟨_, List.getElem?_eq_getElem this, trivial⟩
          · subst z
            obtain ⟨o, e1, v, e2, q⟩ := a2.er.slot i _ z2
            exact ⟨o, e1, v, e2, Rep.mono (.of s1) f2 p q⟩
        · rcases backget vs i _ e1 with ⟨z1, z2⟩ | z | ⟨p, z, _⟩
          · rcases backget vs j _ e2 with ⟨y1, y2⟩ | y | ⟨p, y, _⟩
            · exact er.inj i j a us ws z2 y2 (by rw [wipe_get z1]; exact s1) (by rw [wipe_get y1]; exact s2)
            · cases y
            · cases y
          · cases z
          · cases z
      refine h F' H' ⟨fun a h => f2 a (a2.sub a h), fun a h => ?_, a2.same.trans s1, erB, fun a h => a2.ow a (owW a (ow a (ow1 a h)))⟩ (.ref D) ⟨D, accV, acc, rfl, rfl, hDl, ra, nF, a2.same.free hD, fun o => nOD (owW D (ow D (ow1 D o)))⟩
      rcases gr a h with h | h | h
      · exact a2.grow a h
      · exact .inr (.inl (a2.same.free h))
      · exact .inr (.inr (a2.ow a (owW a h)))
    · have hlt : i < ps.length := by omega
      have ed : ps.drop i = ps[i] :: ps.drop (i + 1) := List.drop_eq_getElem_cons hlt
      rw [ed] at hc
      obtain ⟨go, yl⟩ := (it i F' H' f2 (.of s1)).2 ps[i] (List.getElem?_eq_getElem hlt)
      refine .inr ⟨go, fun H3 => ∃ F3 ev3 acc3 accV3, ER X.K F3 H0 ev3 (wipe σ vs) H3 ∧ (∀ a, F2 a → F3 a) ∧ Same H1 H3 ∧ ¬ F3 D ∧ H3 D = some (.lst accV3) ∧ RepL X.K F3 H3 accV3 acc3 ∧
        (∀ a, F3 a → F2 a ∨ H1 a = none ∨ Ow (wipeE ev1 vs) (wipe σ vs) a) ∧ (∀ a, Ow ev3 (wipe σ vs) a → Ow (wipeE ev1 vs) (wipe σ vs) a) ∧ compr t mt me vs acc3 (ps.drop (i + 1)) ev3 = .ok qs evf, fun H3 q => ⟨_, by omega, rfl, hlt, q⟩, fun x H4 y => ?_⟩
      obtain ⟨s4, r4⟩ := yl x H4 y
      unfold compr turn at hc
      cases e1 : t ps[i] ev' with
      | none => simp only [e1] at hc; cases hc
      | some ev2 =>
      simp only [e1] at hc
      have er4 := er.later s4
      intro s H9 C cl fp pins st u I ru
      refine (hg s H9 C cl fp).go (F0 := F') ⟨er4, fun _ h => h, fun _ h => .inl h⟩ r4 e1 (fun σ2 a5 bt ho => ?_) pins st u I ru
      have er5 : ER X.K F' H0 ev2 σ2 H4 := a5.bs.er
      have wσ : wipe σ2 vs = wipe σ vs := (wipe_but bt hj).trans (wipe_wipe vs)
      refine ⟨wσ, fun s H9 C cl fp => ?_⟩
      unfold Pv.bnd at hc
      cases e2 : mt ev2 with
      | bad => simp only [e2] at hc; cases hc
      | exc c ev3 => simp only [e2] at hc; cases hc
      | ok k ev3 =>
      simp only [e2] at hc
      refine (ht s H9 C cl fp).go er5 ?_
      unfold Wt
      rw [e2]
      intro F5 H5 a6
      have s5 : Same H1 H5 := s1.trans (s4.trans a6.same)
      have d5 : H5 D = some (.lst accV) := a6.same _ _ (s4 _ _ hDl)
      have oD : ∀ {a}, Ow ev2 σ2 a → Ow (wipeE ev1 vs) (wipe σ vs) a := fun {a} o => ow a (ho a o)
      have nO : ¬ Ow ev2 σ2 D := fun o => nOD (owW D (oD o))
      have nF5 : ¬ F5 D := fun f => by
        rcases a6.grow D f with z | z | z
        · exact nF z
        · rw [s4 _ _ hDl] at z; cases z
        · exact nO z
      have gr5 : ∀ a, F5 a → F2 a ∨ H1 a = none ∨ Ow (wipeE ev1 vs) (wipe σ vs) a := fun a f => by
        rcases a6.grow a f with z | z | z
        · exact gr a z
        · exact .inr (.inl (s1.free (s4.free z)))
        · exact .inr (.inr (oD z))
      have f5 : ∀ a, F2 a → F5 a := fun a f => a6.sub a (f2 a f)
      have ra5 : RepL X.K F5 H5 accV acc := RepL.mono (.of (s4.trans a6.same)) a6.sub acc ra
      have owE : ∀ {ev7 : SL} a, Ow (wipeE ev7 vs) (wipe σ vs) a → (∀ a, Ow ev7 σ2 a → Ow ev2 σ2 a) → Ow (wipeE ev1 vs) (wipe σ vs) a := fun {ev7} a ⟨i, zs, z1, z2⟩ hh => by
        rcases wipeE_get z1 with z | ⟨z, n⟩
        · cases z
        · refine oD (hh a ⟨i, zs, z, ?_⟩)
          rw [← wσ, wipe_get n] at z2
          exact z2
      cases k with
      | false =>
        simp only [Bool.false_eq_true, if_false, Pv.ret] at hc
        refine iteF ⟨F5, wipeE ev3 vs, acc, accV, ?_, f5, s5, nF5, d5, ra5, gr5, fun a o => owE a o a6.ow, hc⟩
        rw [← wσ]
        exact a6.er.wiped vs
      | true =>
        simp only [if_true] at hc
        refine iteT ?_
        intro s H9 C cl fp
        cases e3 : me ev3 with
        | bad => simp only [e3] at hc; cases hc
        | exc c ev4 => simp only [e3] at hc; cases hc
        | ok z ev4 =>
        simp only [e3, Pv.ret] at hc
        refine (he s H9 C cl fp).go a6.er ?_
        unfold Wt
        rw [e3]
        intro F6 H6 a7 v rv
        obtain ⟨F7, a8, r8, _⟩ := rv.share a7
        by_cases hz : acc.length < SZ
        · rw [if_pos hz] at hc
          have d6 : H6 D = some (.lst accV) := a8.same _ _ d5
          have nF7 : ¬ F7 D := fun f => by
            rcases a8.grow D f with z | z | z
            · exact nF5 z
            · rw [d5] at z; cases z
            · exact nO (a6.ow D z)
          have ra7 : RepL X.K F7 H6 accV acc := RepL.mono (.of a8.same) a8.sub acc ra5
          have erW : ER X.K F7 H0 (wipeE ev4 vs) (wipe σ vs) H6 := by
            rw [← wσ]
            exact a8.er.wiped vs
          have noW : ¬ Ow (wipeE ev4 vs) (wipe σ vs) D := fun o => nOD (owW D (owE D o fun a o => a6.ow a (a8.ow a o)))
          obtain ⟨erD, kD⟩ := erW.side (xs := accV ++ [v]) nF7 hD0 noW ⟨_, d6⟩
          refine ⟨accV, d6, by rw [ra7.length]; exact hz, F7, wipeE ev4 vs, acc ++ [z.1], accV ++ [v], erD, fun a f => a8.sub a (f5 a f), fun b o hb => ?_, nF7, upd_same, RepL.mono kD (fun _ h => h) _ (ra7.append (RepL.cons r8 RepL.nil)), fun a f => ?_, fun a o => owE a o fun a o => a6.ow a (a8.ow a o), hc⟩
          · rw [upd_ne (ne_of_none hb hD)]
            exact a8.same _ _ (s5 _ _ hb)
          · rcases a8.grow a f with z | z | z
            · exact gr5 a z
            · exact .inr (.inl (s5.free z))
            · exact .inr (.inr (oD (a6.ow a z)))
        · rw [if_neg hz] at hc; cases hc
/-- [e for x in xs if t] as a value -/
theorem e_comp {elt tg iter : Expr} {ifs : List Expr} {scope : Scope} {own : List (Str × Nat)} {pos : Pos} {js : List Nat} {mi : M (List PV)} {t : PV → SL → Option SL} {mt : M Bool} {me : M RV} (hc : X.calm = true) (hNd : X.N.Nodup) (ok : BlkOk X.N X.env.scope scope own)
    (si : SI X W cm tg iter mi) (hg : Blk X scope fun Y => SG Y W0 tg t js) (ht : Blk X scope fun Y => STs Y W0 cm ifs mt) (he : Blk X scope fun Y => SE Y W0 cm elt me) (hj : ∀ j ∈ js, j ∈ own.map (·.2) := by decide)
    (hs : ∀ x, foldedSetIterable iter X.env x = pure x := by intro _; rfl) : SE X W cm (.ListComp elt [⟨tg, iter, ifs, 0⟩] scope pos) (mComp mi t mt me (own.map (·.2))) := .mk' fun F H0 H ev σ Q r h => by
  obtain ⟨wi, hpi, hwi⟩ := si.ex
  refine sE_of (pe_lc (g := cG X scope tg) (tt := cT X scope ifs) (te := cE X scope elt) hc hNd hpi ok (fun s H C cl fp => ⟨fun pins s' σ H' v u Q' I ru q => q s H C cl fp pins s' u I ru⟩)
    (fun s H C cl fp => ⟨fun pins s' σ H' Q' I q => sTs_pt.run pins s' σ H' Q' I (q s H C cl fp)⟩)
    (fun s H C cl fp => ⟨fun pins s' σ H' Q' I q => q s H C cl fp pins s' I⟩) hs) ?_
  exact comp_core hg ht he hj hwi r h
/-- y = [e for x in xs if t] -/
theorem s_setComp {i : Nat} {y : Str} {py : Pos} {elt tg iter : Expr} {ifs : List Expr} {scope : Scope} {own : List (Str × Nat)} {pos spos : Pos} {js : List Nat} {mi : M (List PV)} {t : PV → SL → Option SL} {mt : M Bool} {me : M RV} (hc : X.calm = true) (hNd : X.N.Nodup)
    (hsw : swapsWith (.ListComp elt [⟨tg, iter, ifs, 0⟩] scope pos) (some (.Name y py)) spos.line X.env = pure true) (ok : BlkOk X.N X.env.scope scope own)
    (si : SI X W cm tg iter mi) (hg : Blk X scope fun Y => SG Y W0 tg t js) (ht : Blk X scope fun Y => STs Y W0 cm ifs mt) (he : Blk X scope fun Y => SE Y W0 cm elt me) (hj : ∀ j ∈ js, j ∈ own.map (·.2) := by decide)
    (hy : X.N[i]? = some y := by rfl) (hyl : X.env.scope.names.lookup y = some .local := by rfl)
    (hs : ∀ x, foldedSetIterable iter X.env x = pure x := by intro _; rfl) : SS X W cm (.Assign [.Name y py] (.ListComp elt [⟨tg, iter, ifs, 0⟩] scope pos) spos) (bnd (mComp mi t mt me (own.map (·.2))) (setR i)) := ⟨fun {F0 F H0 H ev σ D} b h => by
  obtain ⟨wi, hpi, hwi⟩ := si.ex
  refine sS_of (ps_setLc (g := cG X scope tg) (tt := cT X scope ifs) (te := cE X scope elt) hc hNd hy hyl hsw hpi ok (fun s H C cl fp => ⟨fun pins s' σ H' v u Q' I ru q => q s H C cl fp pins s' u I ru⟩)
    (fun s H C cl fp => ⟨fun pins s' σ H' Q' I q => sTs_pt.run pins s' σ H' Q' I (q s H C cl fp)⟩)
    (fun s H C cl fp => ⟨fun pins s' σ H' Q' I q => q s H C cl fp pins s' I⟩) hs) ?_
  refine comp_core hg ht he hj hwi b.er ((h.expr b).mono fun r ev1 F1 H1 a hh v rv => ?_)
  obtain ⟨ev', e1⟩ := setR_nx hh.2.not_bad
  exact hh.2.nx e1 ((b.aft a).bs.set b.er.same rv e1)⟩
end
end Pv

set_option Elab.async false
set_option linter.all false
set_option maxRecDepth 100000
namespace Pv
open PySem PySem.Spec L2
open PyProof.Rows hiding St

section
variable {X : Cx} {W : WX} {cm : CM}
/-! ### isinstance(x, T), T a built-in type -/
def tyP : PV → Option String
  | .non => some "NoneType" | .bl _ => some "bool" | .int _ => some "int" | .str _ => some "str" | .tup _ => some "tuple" | .lst _ => some "list"
  | _ => none
theorem RepT.ty {K : Fr} {F : FS} {H : Hp} {v : V} {p : PV} {t : String} (r : RepT K F H v p) (e : tyP p = some t) : TyX K H v (.type t) := by
  cases p with
  | non => cases e; have r' : v = .non := r; subst r'; exact .base .non
  | bl b => cases e; have r' : v = .bl b := r; subst r'; exact .base (.bl b)
  | int b => cases e; have r' : v = .int b := r; subst r'; exact .base (.int b)
  | str b => cases e; have r' : v = .str b := r; subst r'; exact .base (.str b)
  | lst ps =>
    cases e
    obtain ⟨a, xs, rfl, h, _⟩ := r
    exact .base (.lst h)
  | tup ps =>
    cases e
    have r' : Rep K F H v (.tup ps) := r
    unfold Rep at r'
    obtain ⟨a, xs, rfl, h, _⟩ := r'
    rcases h with ⟨o, h, _⟩ | ⟨o, its, n, h1, h2, _⟩
    · exact .fTuple h
    · exact .kTuple h1 h2
  | _ => cases e
def mIsi (T : String) (m : M PV) : M RV := bnd m fun p => match tyP p with
  | some t => match kitB t T with
    | some b => ret (.bl b, false)
    | none => bad
  | none => bad
theorem e_isi {T : String} {x : Str} {e : Expr} {m : M PV} {p p2 pos : Pos} (hm : X.mg "isinstance" = none) (hmT : X.mg x = none) (hvT : bootBuiltins x = some (.type T)) (s : Pv.SP X W cm e m) (hg : Gl X "isinstance" := by rfl) (hgT : Gl X x := by rfl) (hn : x ≠ "__name__" := by decide) (hd : (x == ("__debug__" : Str)) = false := by decide)
    (he : starEach [e, .Name x p2] X.env = (false, eval e X.env) :: starEach [.Name x p2] X.env := by rfl) (he2 : starEach [.Name x p2] X.env = (false, eval (.Name x p2) X.env) :: starEach [] X.env := by rfl) (hpl : (backTo pos (starEach [.Name x p2] X.env)).any (·.1) = false := by rfl) :
    SE X W cm (.Call (.Name "isinstance" p) [e, .Name x p2] [] pos) (mIsi T m) := .mk' fun F H0 H ev σ Q r h => by
  refine sE_of (pe_callB call_isi hg hm PyProof.Rows.boot_isinstance (pa_cons sE_pe (pa_cons (pe_bltn (v := .ty T) hgT hmT hvT rfl hn hd) pa_nil he2) he) (by decide) (by decide) he hpl) ?_
  refine s.go r (h.bnd.mono fun q ev1 F1 H1 a1 hh v rv => ?_)
  have h2 := hh.2
  cases e1 : tyP q with
  | none => simp only [e1] at h2; exact h2.elim
  | some t =>
    simp only [e1] at h2
    cases e2 : kitB t T with
    | none => simp only [e2] at h2; exact h2.elim
    | some b =>
      simp only [e2] at h2
      exact ⟨v, .ty T, .type t, .type T, b, rfl, .ty T, rv.ty e1, kit_ty e2, Wt.ret a1.er h2 _ res_bl⟩
/-! ### e is an exception that is handled: isinstance(e, C) -/
def mIsE (i : Nat) (b : Bool) (a : Addr) : M RV := fun ev => match ev[i]? with
  | some (.val (.opq v)) => if v = .ref a then .ok (.bl b, false) ev else .bad
  | _ => .bad
/-- the class named, as a value -/
inductive ClsN (X : Cx) (x : Str) : Value → Prop where
  | own (C : Addr) : X.mg x = some (.ref C) → ClsN X x (.ref C)
  | ty (T : String) : X.mg x = none → bootBuiltins x = some (.type T) → x ≠ "__name__" → ClsN X x (.type T)
theorem ClsN.pe {x : Str} {c : Value} {p : Pos} (k : ClsN X x c) (hg : Gl X x) (hd : (x == ("__debug__" : Str)) = false) : ∃ v, PE X (.Name x p) (tC v) ∧ ∀ u, RelV v u → u = c := by
  cases k with
  | own C hm => exact ⟨.ref C, pe_glob hg hm rfl hd, fun u r => r⟩
  | ty T hm hv hn => exact ⟨.ty T, pe_bltn hg hm hv rfl hn hd, fun u r => r⟩
theorem e_isE {a D : Addr} {oe : Obj} {pn : List (Addr × Obj)} {i : Nat} {n x : Str} {cv : Value} {b : Bool} {p p1 p2 pos : Pos} (C : ExcC X.K D) (hz : Zc (.ref D) none oe) (hf : ∃ vs, oe.data = .fields vs) (hm : X.mg "isinstance" = none) (hc : ClsN X x cv) (hk : PySem.W.kitOne X.K (.ref D) cv = some b)
    (hi : X.N[i]? = some n := by rfl) (hv : Vis X.env.scope n := by first | exact Or.inl rfl | exact Or.inr (Or.inl rfl) | exact Or.inr (Or.inr rfl)) (hdn : (n == ("__debug__" : Str)) = false := by decide) (hcd : (n == ("__classdict__" : Str)) = false := by decide)
    (hg : Gl X "isinstance" := by rfl) (hgC : Gl X x := by rfl) (hd : (x == ("__debug__" : Str)) = false := by decide)
    (he : starEach [.Name n p1, .Name x p2] X.env = (false, eval (.Name n p1) X.env) :: starEach [.Name x p2] X.env := by rfl) (he2 : starEach [.Name x p2] X.env = (false, eval (.Name x p2) X.env) :: starEach [] X.env := by rfl) (hpl : (backTo pos (starEach [.Name x p2] X.env)).any (·.1) = false := by rfl) :
    SE (X.suite a ((a, oe) :: pn)) W cm (.Call (.Name "isinstance" p) [.Name n p1, .Name x p2] [] pos) (mIsE i b a) := .mk' fun F H0 H ev σ Q r h => by
  have hcS : ClsN (X.suite a ((a, oe) :: pn)) x cv := by
    cases hc with
    | own C hm => exact .own C hm
    | ty T hm hv hn => exact .ty T hm hv hn
  obtain ⟨cV, hp, hu⟩ := hcS.pe (p := p2) hgC hd
  refine sE_of (pe_callB (X := X.suite a ((a, oe) :: pn)) (call_isE C hz hf) hg hm PyProof.Rows.boot_isinstance (pa_cons (pe_var hi hv hdn hcd) (pa_cons hp pa_nil he2) he) (by decide) (by decide) he hpl) ?_
  unfold Wt mIsE at h
  cases e : ev[i]? with
  | none => simp only [e] at h
  | some sl =>
    cases sl with
    | no => simp only [e] at h
    | own ps => simp only [e] at h
    | val q =>
      cases q with
      | opq v =>
        simp only [e] at h
        by_cases c : v = .ref a
        · simp only [if_pos c] at h
          obtain ⟨o, e1, w, rfl, q⟩ := r.slot i _ e
          unfold Rep at q
          refine ⟨w, e1, cV, cv, b, by rw [q, c], hu, hk, ?_⟩
          exact h F H r.aft _ res_bl
        · simp only [if_neg c] at h
      | _ => simp only [e] at h

/-! ### a dict of the module, its keys written texts -/
/-- the dict at x: what it says of a text -/
structure KD (X : Cx) (x : Str) (d : Str → Option Int) : Prop where
  ex : ∃ (a : Addr) (es : Array DictEntry) (n : Nat), X.mg x = some (.ref a) ∧ KDict X.K X.w a es n ∧ ∀ z : Str, (d z = none → PySem.W.nsIn X.K a z = some none) ∧ ∀ i, d z = some i → ∃ t, PySem.W.nsIn X.K a z = some (some (.int i t))
def mKdIn (neg : Bool) (d : Str → Option Int) (m : M PV) : M RV := bnd m fun p => match p with
  | .str z => ret (.bl (xor neg (d z).isSome), false)
  | _ => bad
theorem e_kdIn {x : Str} {d : Str → Option Int} {e : Expr} {m : M PV} {p pos : Pos} (k : KD X x d) (s : Pv.SP X W cm e m) (hg : Gl X x := by rfl) (hd : (x == ("__debug__" : Str)) = false := by decide) : SE X W cm (.Compare e [.In] [.Name x p] pos) (mKdIn false d m) := .mk' fun F H0 H ev σ Q r h => by
  obtain ⟨a, es, n, hm, K, hz⟩ := k.ex
  refine sE_of (pe_cmpR (op_in_kd K) sE_pe (pe_glob (v := .ref a) hg hm rfl hd) rfl) ?_
  refine s.go r (h.bnd.mono fun q ev1 F1 H1 a1 hh v rv => ?_)
  have h2 := hh.2
  cases q with
  | str z =>
    have e1 : v = .str z := rv
    cases e2 : d z with
    | none =>
      have h3 := Wt.ret a1.er h2 (.bl (xor false (d z).isSome)) res_bl
      rw [e2] at h3
      exact ⟨z, none, e1, rfl, (hz z).1 e2, h3⟩
    | some i =>
      obtain ⟨t, e3⟩ := (hz z).2 i e2
      have h3 := Wt.ret a1.er h2 (.bl (xor false (d z).isSome)) res_bl
      rw [e2] at h3
      exact ⟨z, _, e1, rfl, e3, h3⟩
  | _ => exact h2.elim
theorem t_kdNotIn {x : Str} {d : Str → Option Int} {e : Expr} {m : M PV} {p pos : Pos} (k : KD X x d) (s : Pv.SP X W cm e m) (hg : Gl X x := by rfl) (hd : (x == ("__debug__" : Str)) = false := by decide) : ST X W cm (.Compare e [.NotIn] [.Name x p] pos) (blOf (mKdIn true d m)) := .mk' fun F H0 H ev σ Q r h => by
  obtain ⟨a, es, n, hm, K, hz⟩ := k.ex
  refine sT_of (pt_cmpR (op_notIn_kd K) sE_pe (pe_glob (v := .ref a) hg hm rfl hd) rfl) ?_
  refine s.go r (h.bnd.bnd.mono fun q ev1 F1 H1 a1 hh v rv => ?_)
  have h2 := hh.2
  cases q with
  | str z =>
    have e1 : v = .str z := rv
    have h3 := (Wt.ret (P := fun (r : RV) ev' F' H' => Aft X.K F H0 ev ev' σ H F' H' ∧ Wt X.K W cm F' H0 ev' σ H' (match r.1 with
      | .bl b => ret b
      | _ => bad) fun b _ _ H' => Q b H') a1.er h2).2
    have h4 := Wt.ret (P := fun b _ _ H' => Q b H') a1.er h3
    cases e2 : d z with
    | none =>
      rw [e2] at h4
      exact ⟨z, none, e1, rfl, (hz z).1 e2, true, rfl, h4⟩
    | some i =>
      obtain ⟨t, e3⟩ := (hz z).2 i e2
      rw [e2] at h4
      exact ⟨z, _, e1, rfl, e3, false, rfl, h4⟩
  | _ => exact h2.elim
end
end Pv

set_option Elab.async false
set_option linter.all false
set_option maxRecDepth 100000
namespace Pv
open PySem PySem.Spec L2
open PyProof.Rows hiding St

section
variable {X : Cx} {W : WX} {cm : CM}
/-! ### D[k], D a dict of the module -/
def mKdIx (d : Str → Option Int) (m : M PV) : M RV := bnd m fun p => match p with
  | .str z => match d z with
    | some i => ret (.int i, false)
    | none => bad
  | _ => bad
theorem e_kdIx {x : Str} {d : Str → Option Int} {e : Expr} {m : M PV} {p pos : Pos} (k : KD X x d) (s : Pv.SP X W cm e m) (hg : Gl X x := by rfl) (hd : (x == ("__debug__" : Str)) = false := by decide) (hs : PlainIx e := by exact fun _ _ => rfl) : SE X W cm (.Subscript (.Name x p) e pos) (mKdIx d m) := .mk' fun F H0 H ev σ Q r h => by
  obtain ⟨a, es, n, hm, K, hz⟩ := k.ex
  refine sE_of (pe_ix ix_kdict (pe_glob (v := .ref a) hg hm rfl hd) sE_pe hs) ?_
  refine s.go r (h.bnd.mono fun q ev1 F1 H1 a1 hh v rv => ?_)
  have h2 := hh.2
  cases q with
  | str z =>
    have e1 : v = .str z := rv
    cases e2 : d z with
    | none => simp only [e2] at h2; exact h2.elim
    | some i =>
      simp only [e2] at h2
      obtain ⟨t, e3⟩ := (hz z).2 i e2
      exact ⟨a, z, .int i, rfl, e1, ⟨es, n, _, K.at_, K.lit, e3, ⟨t, rfl⟩⟩, Wt.ret a1.er h2 _ res_int⟩
  | _ => exact h2.elim

/-! ### tuple(range(..)), list(range(..)) -/
def mRg1 (m : M PV) : M (Int × Int) := bnd m fun p => match p with
  | .int j => ret (0, j)
  | _ => bad
def mRg2 (m m2 : M PV) : M (Int × Int) := bnd m fun p => bnd m2 fun q => match p, q with
  | .int i, .int j => ret (i, j)
  | _, _ => bad
def okRg (r : Int × Int) : Bool := okR r.1 && okR r.2 && decide ((r.2 - r.1).toNat ≤ SZ)
def mLstRg (m : M (Int × Int)) : M RV := bnd m fun r => if okRg r then ret (.lst (rgP r.1 (r.2 - r.1).toNat), true) else bad
def mTupRg (m : M (Int × Int)) : M RV := bnd m fun r => if okRg r then ret (.tup (rgP r.1 (r.2 - r.1).toNat), false) else bad
structure SR (X : Cx) (W : WX) (cm : CM) (e : Expr) (m : M (Int × Int)) : Prop where
  ex : ∃ t, PRg X e t ∧ ∀ {F : FS} {H0 H : Hp} {ev : SL} {σ : St} {Q : Int → Int → Hp → Prop}, ER X.K F H0 ev σ H → (Wt X.K W cm F H0 ev σ H m fun r _ _ H' => Q r.1 r.2 H') → t σ H Q
theorem r_1 {a : Expr} {m : M PV} {p pos : Pos} (hm : X.mg "range" = none) (s : Pv.SP X W cm a m) (hg : Gl X "range" := by rfl) (na : starEach [a] X.env = (false, eval a X.env) :: starEach [] X.env := by rfl) : SR X W cm (.Call (.Name "range" p) [a] [] pos) (mRg1 m) := ⟨_, prg_1 hg hm sE_pe na, fun {F H0 H ev σ Q} r h => by
  refine s.go r (h.bnd.mono fun q ev1 F1 H1 a1 hh v rv => ?_)
  have h2 := hh.2
  cases q with
  | int j => exact ⟨j, rv, Wt.ret (P := fun (r : Int × Int) _ _ H' => Q r.1 r.2 H') a1.er h2⟩
  | _ => exact h2.elim⟩
theorem r_2 {a b : Expr} {m m2 : M PV} {p pos : Pos} (hm : X.mg "range" = none) (s : Pv.SP X W cm a m) (s2 : Pv.SP X W cm b m2) (hg : Gl X "range" := by rfl) (na : starEach [a, b] X.env = (false, eval a X.env) :: starEach [b] X.env := by rfl) (nb : starEach [b] X.env = (false, eval b X.env) :: starEach [] X.env := by rfl) (hp : (backTo pos (starEach [b] X.env)).any (·.1) = false := by rfl) :
    SR X W cm (.Call (.Name "range" p) [a, b] [] pos) (mRg2 m m2) := ⟨_, prg_2 hg hm sE_pe sE_pe na nb hp, fun {F H0 H ev σ Q} r h => by
  refine s.go r (h.bnd.mono fun q ev1 F1 H1 a1 hh v rv => ?_)
  refine s2.go a1.er (hh.2.bnd.mono fun q2 ev2 F2 H2 a2 hh2 w rw' => ?_)
  have h2 := hh2.2
  cases q with
  | int i =>
    cases q2 with
    | int j => exact ⟨i, j, rv, rw', Wt.ret (P := fun (r : Int × Int) _ _ H' => Q r.1 r.2 H') a2.er h2⟩
    | _ => exact h2.elim
  | _ => cases q2 <;> exact h2.elim⟩
theorem rgV_rep {K : Fr} {F : FS} {H : Hp} (a b : Int) : RepL K F H (rgV a b) (rgP a (b - a).toNat) := by
  have e1 : rgV a b = ((List.range (b - a).toNat).map fun i => a + (i : Nat)).map V.int := by
    unfold rgV
    rw [List.map_map]
    rfl
  have e2 : rgP a (b - a).toNat = ((List.range (b - a).toNat).map fun i => a + (i : Nat)).map PV.int := by
    unfold rgP
    rw [List.map_map]
    rfl
  rw [e1, e2]
  exact RepL.of_ints _
theorem okRg_ok {r : Int × Int} (h : okRg r = true) : RgOk r.1 r.2 := by
  unfold okRg okR at h
  simp only [Bool.and_eq_true, decide_eq_true_eq] at h
  exact ⟨h.1.1.1, h.1.1.2, h.1.2.1, h.1.2.2, h.2⟩
theorem e_lstRg {e : Expr} {m : M (Int × Int)} {p pos : Pos} (hc : X.calm = true) (hm : X.mg "list" = none) (s : SR X W cm e m) (hg : Gl X "list" := by rfl) (na : starEach [e] X.env = (false, eval e X.env) :: starEach [] X.env := by rfl) : SE X W cm (.Call (.Name "list" p) [e] [] pos) (mLstRg m) := .mk' fun F H0 H ev σ Q r h => by
  obtain ⟨t, ht, hq⟩ := s.ex
  refine sE_of (pe_listRg hc hg hm ht na) ?_
  refine hq r (h.bnd.mono fun q ev1 F1 H1 a1 hh => ?_)
  have h2 := hh.2
  by_cases c : okRg q = true
  · rw [if_pos c] at h2
    refine ⟨okRg_ok c, fun l hl => ?_⟩
    exact h2 F1 _ (a1.er.fresh hl) _ (a1.er.newL a1.same hl (rgV_rep _ _))
  · rw [if_neg c] at h2
    exact h2.elim
theorem vals_rgX {us : List Value} {a b : Int} (h : Vals (rgV a b) us) : True := trivial
/-- tuple(range(..)): the object is known -/
theorem tupRg_X {e : Expr} {te : L2.St → Hp → (Int → Int → Hp → Prop) → Prop} {p pos : Pos} (hc : X.calm = true) (hg : Gl X "tuple") (hm : X.mg "tuple" = none) (he : PRg X e te) (na : starEach [e] X.env = (false, eval e X.env) :: starEach [] X.env) :
    PE X (.Call (.Name "tuple" p) [e] [] pos) (fun σ H Q => te σ H fun a b H1 => RgOk a b ∧ NewT (rgV a b) Q H1) := ⟨fun pins s σ H Q I h => by
  refine Call_ (ld_blt I hg hm boot_tuple (PyProof.Rows.callWith_type1 (args_cons (thn (he pins s σ H _ I h) fun x s1 z => ?_) na) na))
  obtain ⟨r, a, b, t, u, v, H1, ex, hr, J, ok, q⟩ := z
  refine args_nil ?_
  subst ex
  have hc1 := ok.2.2.2.2
  refine call_tuple_range (n := (b - a).toNat) (J.ok.hd hc) hr (small_one ok.1 ok.2.1 ok.2.2.1 ok.2.2.2.1) (rangeSize_nat a b) hc1 fun h' tk acc hk hi => ?_
  obtain ⟨us, rfl⟩ : ∃ us : List Value, acc = us.toArray := ⟨acc.toList, by simp⟩
  exact Inv.newTup J hk (by simpa using vals_rg hi) (by unfold rgV; rw [List.length_map, List.length_range]; exact hc1) q⟩
theorem e_tupRg {e : Expr} {m : M (Int × Int)} {p pos : Pos} (hc : X.calm = true) (hm : X.mg "tuple" = none) (s : SR X W cm e m) (hg : Gl X "tuple" := by rfl) (na : starEach [e] X.env = (false, eval e X.env) :: starEach [] X.env := by rfl) : SE X W cm (.Call (.Name "tuple" p) [e] [] pos) (mTupRg m) := .mk' fun F H0 H ev σ Q r h => by
  obtain ⟨t, ht, hq⟩ := s.ex
  refine sE_of (tupRg_X hc hg hm ht na) ?_
  refine hq r (h.bnd.mono fun q ev1 F1 H1 a1 hh => ?_)
  have h2 := hh.2
  by_cases c : okRg q = true
  · rw [if_pos c] at h2
    refine ⟨okRg_ok c, fun l o hl h3 h4 => ?_⟩
    exact h2 F1 _ (a1.er.fresh hl) _ (a1.er.newT hl h3 h4 (rgV_rep _ _))
  · rw [if_neg c] at h2
    exact h2.elim

/-! ### len(set(xs)) of a list of ints -/
def dedup : List Int → List Int := fun ns => ns.foldl (fun σ k => if σ.any (· == k) then σ else σ ++ [k]) []
theorem lenSet_X {a : Expr} {ta : TE} {p p2 q pos : Pos} (hc : X.calm = true) (hg : Gl X "len") (hm : X.mg "len" = none) (hg2 : Gl X "set") (hm2 : X.mg "set" = none) (ha : PE X a ta) (na : starEach [a] X.env = (false, eval a X.env) :: starEach [] X.env) :
    PE X (.Call (.Name "len" p) [.Call (.Name "set" p2) [a] [] q] [] pos) (fun σ H Q => ta σ H fun x H1 => ∃ (l : Addr) (ns : List Int), x = .ref l ∧ SqL X.K H1 l (ns.map V.int) ∧ ns.length ≤ 1000 ∧ Q (.int ((dedup ns).length : Nat)) H1) := ⟨fun pins s σ H Q I h => by
  refine Call_ (ld_blt I hg hm boot_len (PyProof.Rows.callWith_builtin1 (args_cons ?_ rfl) rfl rfl))
  refine Call_ (ld_blt I hg2 hm2 boot_set (PyProof.Rows.callWith_type1 (args_cons (thn (ha.run pins s σ H _ I h) fun v s1 z => args_nil ?_) na) na rfl))
  obtain ⟨x, H1, J, r, l, ns, rfl, hq, hl, q1⟩ := z
  cases r
  obtain ⟨its, ri, pl, -⟩ := J.list hq
  have hlen : its.toArray.size = ns.length := by rw [List.size_toArray, ← ri.length, List.length_map]
  have ef : PyProof.Rows.firstMet (fun i => ns.getD i 0) its.toArray.size = dedup ns := by
    unfold PyProof.Rows.firstMet
    rw [hlen]
    have : (List.range ns.length).map (fun i => ns.getD i 0) = ns := by
      apply List.ext_getElem
      · rw [List.length_map, List.length_range]
      · intro i h1 h2
        simp only [List.getElem_map, List.getElem_range, List.getD_eq_getElem?_getD]
        rw [List.getElem?_eq_getElem h2]
        rfl
    rw [this]
    rfl
  have hle : (dedup ns).length ≤ ns.length := by
    rw [← ef, hlen]
    exact PyProof.Rows.firstMet_length_le _ _
  refine call_set_list (J.ok.hd hc) pl.isList (by simpa using ri.ints) (by rw [hlen]; unfold scanBound; omega) fun h' tk hS hk => args_nil ?_
  rw [ef] at hS
  obtain ⟨o, es, ep, t, ho, hex, hd, _, _, _, hf, hn⟩ := hS
  have J2 : L2.Inv X pins σ H1 { s1 with heap := h', toks := tk } := J.kept fun b o e => hk b o (Heap.lt_size e) e
  exact call_len_set ho hex hd hf (by rw [hn]; omega) ⟨.int ((dedup ns).length : Nat), H1, J2.tok _, ⟨_, by rw [hn]⟩, q1⟩⟩
def mLenSet (m : M PV) : M RV := bnd m fun p => match p with
  | .lst ps => match intsP ps with
    | some ns => if ns.length ≤ 1000 then ret (.int ((dedup ns).length : Nat), false) else bad
    | none => bad
  | _ => bad
theorem e_lenSet {a : Expr} {m : M PV} {p p2 q pos : Pos} (hc : X.calm = true) (hm : X.mg "len" = none) (hm2 : X.mg "set" = none) (s : Pv.SP X W cm a m) (hg : Gl X "len" := by rfl) (hg2 : Gl X "set" := by rfl) (na : starEach [a] X.env = (false, eval a X.env) :: starEach [] X.env := by rfl) :
    SE X W cm (.Call (.Name "len" p) [.Call (.Name "set" p2) [a] [] q] [] pos) (mLenSet m) := .mk' fun F H0 H ev σ Q r h => by
  refine sE_of (lenSet_X hc hg hm hg2 hm2 sE_pe na) ?_
  refine s.go r (h.bnd.mono fun q ev1 F1 H1 a1 hh v rv => ?_)
  have h2 := hh.2
  cases q with
  | lst ps =>
    cases e : intsP ps with
    | none => simp only [e] at h2; exact h2.elim
    | some ns =>
      simp only [e] at h2
      obtain ⟨l, xs, rfl, hx, rl⟩ := rv
      rw [intsP_eq e] at rl
      have ex := rl.ints
      subst ex
      by_cases c : ns.length ≤ 1000
      · rw [if_pos c] at h2
        exact ⟨l, ns, rfl, SqL.of hx, c, Wt.ret a1.er h2 _ res_int⟩
      · rw [if_neg c] at h2; exact h2.elim
  | _ => exact h2.elim

/-! ### t.index(x) of ints -/
theorem pe_bmT {o e : Expr} {es : List Expr} {to : TE} {t : TA} {name : Str} {apos cpos : Pos} {id : String} {r : V → List V → Hp → VK → Prop} (slot : PySem.Slot "tuple" name id) (hty : typeOf (Value.builtin id) = pure (Value.type "method_descriptor")) (hm : MtR X id r) (ho : PE X o to) (ha : PA X (e :: es) t)
    (hbase : attributeBase o name X.env (eval o X.env) = eval o X.env)
    (hfew : ((((backTo cpos (starEach (e :: es) X.env)).all fun x => !x.fst) && (backToKw cpos (keywordEach [] X.env)).all fun x => x.fst.isSome) && decide (((e :: es).length + ([] : List Keyword).length + if ([] : List Keyword).isEmpty = true then 0 else 1) < 30)) = true)
    (hline : (apos.endLine == cpos.line) = true) (hs : starEach (e :: es) X.env = (false, eval e X.env) :: starEach es X.env) (hpl : ((backTo cpos (starEach es X.env)).any fun x => x.fst) = false) :
    PE X (.Call (.Attribute o name apos) (e :: es) [] cpos) (fun σ H Q => to σ H fun x H1 => (∃ p xs, x = .ref p ∧ TpX X.K H1 p xs) ∧ t σ H1 fun vs H2 => r x vs H2 Q) := ⟨fun pins s σ H Q I h =>
  wpAny_Call_method_late hbase hfew hline rfl (thn (ho.run pins s σ H _ I h) fun v s1 z => by
    obtain ⟨x, H1, J, rx, ⟨p, xs, rfl, hx⟩, q1⟩ := z
    cases rx
    have hob : ∃ ob, s1.heap.get? p = some ob ∧ ob.cls = .type "tuple" ∧ ob.dict = none := by
      rcases hx with ⟨o, h, h1, h2⟩ | ⟨o, its, n, h1, h2, h3, _⟩
      · exact ⟨o, (J.hok p _ h).1, h1, h2⟩
      · exact ⟨o, J.kIn p o h1, h2, h3⟩
    obtain ⟨ob, g1, g2, g3⟩ := hob
    refine ⟨"tuple", id, PySem.F.plainAttrs_tuple, slot, hty, ⟨ob, g1, g2⟩, fun a e => ?_, ?_⟩
    · cases e; exact ⟨ob, g1, g3⟩
    · have hA := ha.run cpos pins s1 σ H1 _ J q1
      rw [hs] at hA ⊢
      refine Calls.callWith_builtin (by show (false || (backTo cpos (starEach es X.env)).any (·.1)) = false; rw [hpl]; rfl) (Calls.evalArgs_plain (thn hA fun us s2 z => ?_))
      obtain ⟨vs, H2, J2, r2, q2⟩ := z
      exact hm pins s2 σ H2 (.ref p) vs (.ref p) us Q J2 rfl r2 q2)⟩
theorem mt_tupIx : MtR X "tuple.index" (fun x vs H Q => ∃ (p : Addr) (ns : List Int) (k : Int), x = .ref p ∧ vs = [.int k] ∧ SqT X.K H p (ns.map V.int) ∧ k ∈ ns ∧ Q (.int (ns.idxOf k : Nat)) H) := by
  rintro pins s σ H x vs v us Q I rx rs ⟨p, ns, k, rfl, rfl, hq, hk, q⟩
  cases rx
  obtain ⟨u, rfl, t, rfl⟩ := vals1 rs
  obtain ⟨its, ri, pl, -⟩ := I.tuple hq
  exact SeqAt.tuple_index_ints pl ri.ints hk ⟨.int (ns.idxOf k : Nat), H, I.tok _, ⟨_, rfl⟩, q⟩
theorem mt_lstIx : MtR X "list.index" (fun x vs H Q => ∃ (p : Addr) (ns : List Int) (k : Int), x = .ref p ∧ vs = [.int k] ∧ SqL X.K H p (ns.map V.int) ∧ k ∈ ns ∧ Q (.int (ns.idxOf k : Nat)) H) := by
  rintro pins s σ H x vs v us Q I rx rs ⟨p, ns, k, rfl, rfl, hq, hk, q⟩
  cases rx
  obtain ⟨u, rfl, t, rfl⟩ := vals1 rs
  obtain ⟨its, ri, pl, hz⟩ := I.list hq
  exact SeqAt.list_index_ints pl.isList ri.ints (by rwa [List.length_map] at hz) hk ⟨.int (ns.idxOf k : Nat), H, I.tok _, ⟨_, rfl⟩, q⟩
def gIndexT : PV → PV → Option RV
  | .tup ps, .int k => match intsP ps with
    | some ns => if k ∈ ns then vI (ns.idxOf k : Nat) else none
    | none => none
  | _, _ => none
def gIndexL : PV → PV → Option RV
  | .lst ps, .int k => match intsP ps with
    | some ns => if k ∈ ns then vI (ns.idxOf k : Nat) else none
    | none => none
  | _, _ => none
theorem gIndexT_ok {p q : PV} {r : RV} (e : gIndexT p q = some r) : ∃ (ns : List Int) (k : Int), p = .tup (ns.map .int) ∧ q = .int k ∧ k ∈ ns ∧ r = (.int (ns.idxOf k : Nat), false) := by
  unfold gIndexT at e
  split at e
  · split at e
    · rename_i ns hi
      split at e
      · rename_i c
        cases e
        exact ⟨ns, _, by rw [intsP_eq hi], rfl, c, rfl⟩
      · cases e
    · cases e
  · cases e
theorem gIndexL_ok {p q : PV} {r : RV} (e : gIndexL p q = some r) : ∃ (ns : List Int) (k : Int), p = .lst (ns.map .int) ∧ q = .int k ∧ k ∈ ns ∧ r = (.int (ns.idxOf k : Nat), false) := by
  unfold gIndexL at e
  split at e
  · split at e
    · rename_i ns hi
      split at e
      · rename_i c
        cases e
        exact ⟨ns, _, by rw [intsP_eq hi], rfl, c, rfl⟩
      · cases e
    · cases e
  · cases e
/-- only tuples pass -/
def onlyT (m : M PV) : M PV := bnd m fun p => match p with
  | .tup ps => ret (.tup ps)
  | _ => bad
def onlyL (m : M PV) : M PV := bnd m fun p => match p with
  | .lst ps => ret (.lst ps)
  | _ => bad
theorem e_indexT {o e : Expr} {mo me : M PV} {apos cpos : Pos} (so : Pv.SP X W cm o mo) (se : Pv.SP X W cm e me)
    (hbase : attributeBase o "index" X.env (eval o X.env) = eval o X.env := by rfl)
    (hfew : ((((backTo cpos (starEach [e] X.env)).all fun x => !x.fst) && (backToKw cpos (keywordEach [] X.env)).all fun x => x.fst.isSome) && decide (([e].length + ([] : List Keyword).length + if ([] : List Keyword).isEmpty = true then 0 else 1) < 30)) = true := by rfl)
    (hline : (apos.endLine == cpos.line) = true := by rfl) (hs : starEach [e] X.env = (false, eval e X.env) :: starEach [] X.env := by rfl) : SE X W cm (.Call (.Attribute o "index" apos) [e] [] cpos) (eOp gIndexT (onlyT mo) me) := .mk' fun F H0 H ev σ Q r h => by
  refine sE_of (pe_bmT PySem.F.slot_tuple_index PySem.F.type_tuple_index sMt_ok sE_pe (pa_cons sE_pe pa_nil hs) hbase hfew hline hs rfl) ?_
  refine so.go r (h.bnd.bnd.mono fun p ev1 F1 H1 a1 hh x rx => ?_)
  have h2 := hh.2
  cases p with
  | tup ps =>
    have h3 := (h2 F1 H1 a1.er.aft).2
    have rx' : Rep X.K F1 H1 x (.tup ps) := rx
    unfold Rep at rx'
    obtain ⟨a, xs, ea, hx, rl⟩ := rx'
    refine ⟨⟨a, xs, ea, hx⟩, ?_⟩
    refine se.go a1.er (h3.bnd.mono fun q ev2 F2 H2 a2 hh2 y ry => ?_)
    have h4 := hh2.2
    show sMt X "tuple.index" x [y] H2 Q
    cases eg : gIndexT (.tup ps) q with
    | none => rw [eg] at h4; exact h4.elim
    | some z =>
      rw [eg] at h4
      obtain ⟨ns, k, e1, rfl, hk, rfl⟩ := gIndexT_ok eg
      cases e1
      have ey : y = .int k := ry
      subst ey ea
      have rl2 := rl.ints
      subst rl2
      exact sMt_of mt_tupIx ⟨a, ns, k, rfl, rfl, SqT.same a2.same hx.sqT, hk, Wt.ret a2.er h4 _ res_int⟩
  | _ => exact h2.elim
theorem e_indexL {o e : Expr} {mo me : M PV} {apos cpos : Pos} (so : Pv.SP X W cm o mo) (se : Pv.SP X W cm e me)
    (hbase : attributeBase o "index" X.env (eval o X.env) = eval o X.env := by rfl)
    (hfew : ((((backTo cpos (starEach [e] X.env)).all fun x => !x.fst) && (backToKw cpos (keywordEach [] X.env)).all fun x => x.fst.isSome) && decide (([e].length + ([] : List Keyword).length + if ([] : List Keyword).isEmpty = true then 0 else 1) < 30)) = true := by rfl)
    (hline : (apos.endLine == cpos.line) = true := by rfl) (hs : starEach [e] X.env = (false, eval e X.env) :: starEach [] X.env := by rfl) : SE X W cm (.Call (.Attribute o "index" apos) [e] [] cpos) (eOp gIndexL (onlyL mo) me) := .mk' fun F H0 H ev σ Q r h => by
  refine sE_of (pe_bm PySem.F.plainAttrs_list PySem.F.slot_list_index PySem.F.type_list_index sMt_ok sE_pe (pa_cons sE_pe pa_nil hs) hbase hfew hline hs rfl) ?_
  refine so.go r (h.bnd.bnd.mono fun p ev1 F1 H1 a1 hh x rx => ?_)
  have h2 := hh.2
  cases p with
  | lst ps =>
    have h3 := (h2 F1 H1 a1.er.aft).2
    obtain ⟨a, xs, ea, hx, rl⟩ := rx
    refine ⟨by rw [ea]; exact .inl ⟨rfl, xs, SqL.of hx⟩, ?_⟩
    refine se.go a1.er (h3.bnd.mono fun q ev2 F2 H2 a2 hh2 y ry => ?_)
    have h4 := hh2.2
    show sMt X "list.index" x [y] H2 Q
    cases eg : gIndexL (.lst ps) q with
    | none => rw [eg] at h4; exact h4.elim
    | some z =>
      rw [eg] at h4
      obtain ⟨ns, k, e1, rfl, hk, rfl⟩ := gIndexL_ok eg
      cases e1
      have ey : y = .int k := ry
      subst ey ea
      have rl2 := rl.ints
      subst rl2
      exact sMt_of mt_lstIx ⟨a, ns, k, rfl, rfl, SqL.of (a2.same _ _ hx), hk, Wt.ret a2.er h4 _ res_int⟩
  | _ => exact h2.elim

/-! ### (*xs, ..) -/
def aStar (a : M RV) (r : M (List PV)) : M (List PV) := bnd a fun x => match x.1 with
  | .lst ps => bnd r fun qs => ret (ps ++ qs)
  | .tup ps => bnd r fun qs => ret (ps ++ qs)
  | _ => bad
theorem a_star {e : Expr} {es : List Expr} {m : M RV} {ms : M (List PV)} {p : Pos} (s : SE X W cm e m) (u : SA X W cm es ms) (hs : starEach (.Starred e p :: es) X.env = (true, eval e X.env) :: starEach es X.env := by rfl) : SA X W cm (.Starred e p :: es) (aStar m ms) := ⟨fun {F H0 H ev σ Q} r h => by
  refine sA_of (StX.pa_star sE_pe sA_pa hs) ?_
  refine s.go r ?_
  unfold Wt at h ⊢
  unfold aStar Pv.bnd at h
  cases e1 : m ev with
  | bad => simp only [e1] at h
  | exc c ev1 => simp only [e1] at h; exact h
  | ok z ev1 =>
    simp only [e1] at h
    intro F1 H1 a1 v rv
    obtain ⟨G, aG, rG, _⟩ := rv.share a1
    have fin : ∀ (ps : List PV) (a : Addr) (xs : List V), v = .ref a → (SqT X.K H1 a xs ∨ SqL X.K H1 a xs) → RepL X.K G H1 xs ps → (∀ c ev2, ms ev1 = .exc c ev2 → ∀ (F' : FS) (H' : Hp), Aft X.K F H0 ev ev2 σ H F' H' → W (cm c) none σ H') → ms ev1 ≠ .bad →
        (∀ qs ev2, ms ev1 = .ok qs ev2 → ∀ (F' : FS) (H' : Hp), Aft X.K F H0 ev ev2 σ H F' H' → ∀ (F2 : FS) (vs : List V), Aft X.K F H0 ev ev2 σ H F2 H' → RepL X.K F2 H' vs (ps ++ qs) → Q vs H') → StX.tStar X.K (fun _ H Q => Q v H) (sA X es) σ H1 Q := fun ps a xs ea hx rl hx2 hb hk => by
      refine ⟨a, xs, ea, hx, ?_⟩
      refine u.go aG.er ?_
      unfold Wt
      cases e2 : ms ev1 with
      | bad => exact hb e2
      | exc c ev2 => exact fun F2 H2 a2 => hx2 c ev2 e2 F2 H2 (aG.trans a2)
      | ok qs ev2 =>
        intro F2 H2 a2 F3 vs a3 rs
        exact hk qs ev2 e2 F2 H2 (aG.trans a2) F3 (xs ++ vs) (aG.trans a3) ((RepL.mono (.of a3.same) a3.sub ps rl).append rs)
    obtain ⟨p, fr⟩ := z
    cases p with
    | lst ps =>
      unfold Rep at rG
      obtain ⟨a, xs, ea, hx, rl⟩ := rG
      refine fin ps a xs ea (.inr (SqL.of hx.2)) rl (fun c ev2 e2 => ?_) (fun e2 => ?_) (fun qs ev2 e2 => ?_)
      · simp only [e2] at h; exact h
      · simp only [e2] at h
      · simp only [e2, Pv.ret] at h; exact h
    | tup ps =>
      unfold Rep at rG
      obtain ⟨a, xs, ea, hx, rl⟩ := rG
      refine fin ps a xs ea (.inl hx.sqT) rl (fun c ev2 e2 => ?_) (fun e2 => ?_) (fun qs ev2 e2 => ?_)
      · simp only [e2] at h; exact h
      · simp only [e2] at h
      · simp only [e2, Pv.ret] at h; exact h
    | _ => exact h.elim⟩
end
end Pv

set_option Elab.async false
set_option linter.all false
set_option maxRecDepth 100000
namespace Pv
open PySem PySem.Spec L2
open PyProof.Rows hiding St

section
variable {X : Cx} {W : WX} {cm : CM}
/-! ### for x in a list or a tuple -/
def mSeq (m : M RV) : M (List PV) := bnd m fun r => match r.1 with
  | .lst ps => ret ps
  | .tup ps => ret ps
  | _ => bad
theorem pi_or {tg iter : Expr} {a b : TI} (h1 : PI X tg iter a) (h2 : PI X tg iter b) : PI X tg iter (fun σ H R => a σ H R ∨ b σ H R) := ⟨fun pins s σ H R I h => by
  rcases h with h | h
  · exact h1.run pins s σ H R I h
  · exact h2.run pins s σ H R I h⟩
theorem i_seq {tg e : Expr} {m : M RV} (s : SE X W cm e m) : SI X W cm tg e (mSeq m) := by
  obtain ⟨w1, p1, q1⟩ := (i_list (tg := tg) s).ex
  obtain ⟨w2, p2, q2⟩ := (i_tup (tg := tg) s).ex
  refine ⟨_, pi_or p1 p2, fun {F H0 H ev σ R} r h => ?_⟩
  by_cases c : ∃ ps fr ev', m ev = .ok (.tup ps, fr) ev'
  · obtain ⟨ps, fr, ev', e1⟩ := c
    refine .inr (q2 r ?_)
    unfold Wt mTupOf Pv.bnd at ⊢
    unfold Wt mSeq Pv.bnd at h
    simp only [e1] at h ⊢
    exact h
  · refine .inl (q1 r ?_)
    unfold Wt mLstOf Pv.bnd at ⊢
    unfold Wt mSeq Pv.bnd at h
    cases e1 : m ev with
    | bad => simp only [e1] at h
    | exc c ev1 => simp only [e1] at h ⊢; exact h
    | ok z ev1 =>
      simp only [e1] at h ⊢
      obtain ⟨p, fr⟩ := z
      cases p with
      | tup ps => exact absurd ⟨ps, fr, ev1, e1⟩ c
      | _ => exact h
/-! ### t.index(x) -/
def mIndex (mo me : M PV) : M RV := bnd mo fun p => match p with
  | .tup ps => bnd me fun q => opt (gIndexT (.tup ps) q)
  | .lst ps => bnd me fun q => opt (gIndexL (.lst ps) q)
  | _ => bad
theorem e_index {o e : Expr} {mo me : M PV} {apos cpos : Pos} (so : Pv.SP X W cm o mo) (se : Pv.SP X W cm e me)
    (hbase : attributeBase o "index" X.env (eval o X.env) = eval o X.env := by rfl)
    (hfew : ((((backTo cpos (starEach [e] X.env)).all fun x => !x.fst) && (backToKw cpos (keywordEach [] X.env)).all fun x => x.fst.isSome) && decide (([e].length + ([] : List Keyword).length + if ([] : List Keyword).isEmpty = true then 0 else 1) < 30)) = true := by rfl)
    (hline : (apos.endLine == cpos.line) = true := by rfl) (hs : starEach [e] X.env = (false, eval e X.env) :: starEach [] X.env := by rfl) : SE X W cm (.Call (.Attribute o "index" apos) [e] [] cpos) (mIndex mo me) := .mk' fun F H0 H ev σ Q r h => by
  by_cases c : ∃ ps ev', mo ev = .ok (.tup ps) ev'
  · obtain ⟨ps, ev', e1⟩ := c
    refine (e_indexT (apos := apos) (cpos := cpos) so se hbase hfew hline hs).go r ?_
    unfold Wt eOp onlyT Pv.bnd at ⊢
    unfold Wt mIndex Pv.bnd at h
    simp only [e1, Pv.ret] at h ⊢
    exact h
  · refine (e_indexL (apos := apos) (cpos := cpos) so se hbase hfew hline hs).go r ?_
    unfold Wt eOp onlyL Pv.bnd at ⊢
    unfold Wt mIndex Pv.bnd at h
    cases e1 : mo ev with
    | bad => simp only [e1] at h
    | exc c ev1 => simp only [e1] at h ⊢; exact h
    | ok z ev1 =>
      simp only [e1] at h ⊢
      cases z with
      | tup ps => exact absurd ⟨ps, ev1, e1⟩ c
      | lst ps => simp only [Pv.ret]; exact h
      | _ => exact h
/-! ### what is never called -/
theorem cal_bad {P : Program} {w : World} {K : Fr} {mg : Str → Option Value} {base : Heap} {x qual : Str} {st : Stmt} {f : Addr} {fd : FuncData} {ps : List Str} (F : Fun K x qual st f fd) (hg : mg x = some (.ref f)) (hb : Binds K fd ps []) :
    Cal P w K mg base cm 0 x (fun _ => .bad) := by
  have no : ∀ vs H Q E, ¬ spP K cm (fun _ => Rf.bad) vs H Q E := fun vs H Q E h => by
    obtain ⟨_, _, _, _, h⟩ := h
    exact h
  exact ⟨f, fd, ps, ⟨fun vs H Q E h => absurd h (no vs H Q E), fun A outer s H args us vs Q E _ _ _ _ h => absurd h (no vs H Q E)⟩, hg, F.kp, hb⟩
end
/-- a dict of the module, whatever the place -/
structure KD0 (w : World) (K : Fr) (mg : Str → Option Value) (x : Str) (d : Str → Option Int) : Prop where
  ex : ∃ (a : Addr) (es : Array DictEntry) (n : Nat), mg x = some (.ref a) ∧ KDict K w a es n ∧ ∀ z : Str, (d z = none → PySem.W.nsIn K a z = some none) ∧ ∀ i, d z = some i → ∃ t, PySem.W.nsIn K a z = some (some (.int i t))
theorem KD0.kd {X : Cx} {w : World} {K : Fr} {mg : Str → Option Value} {x : Str} {d : Str → Option Int} (h : KD0 w K mg x d) (e1 : X.w = w := by rfl) (e2 : X.K = K := by rfl) (e3 : X.mg = mg := by rfl) : KD X x d := by
  subst e1 e2 e3
  exact ⟨h.ex⟩
end Pv

set_option Elab.async false
set_option linter.all false
set_option maxRecDepth 100000
namespace Pv
open PySem PySem.Spec L2
open PyProof.Rows hiding St

/-! ### the program's top: what its names stand for -/
theorem fun_of {K : Fr} {x qual : Str} {st : Stmt} {f : Addr} {fd : FuncData} (F : FunD K x qual (defArgs st) (defBody st) (defScope st) [] [] f fd) : Fun K x qual st f fd := by
  obtain ⟨oc, od, dV, kV, doc, pm, an, cdv, ct, osl, h1, h2, h3, h4, h5⟩ := F.ex
  rcases h4 with ⟨_, h4⟩ | ⟨h4, _⟩
  · subst h4
    exact ⟨⟨oc, od, kV, doc, pm, an, cdv, ct, osl, h1, h2, h3⟩, F.kp⟩
  · exact absurd rfl h4
/-- classes by names -/
def cmK (K : Fr) : CM := fun x => .ref (He.ga K x)
theorem exK_of {K : Fr} {h : Heap} {mg : Str → Option Value} (X : K.In h) (G : h.Ns mainGlobals mg) {x : Str} (c : (He.Fa.exc x).ok K = true) (g : (He.Fa.glo x).ok K = true) : ExK K mg (cmK K) x := by
  obtain ⟨h1, h2, h3, h4⟩ := He.exc_ok c
  exact ⟨_, rfl, He.glo_ok X G g, h1, h2, h3, h4⟩
/-- a class of the module -/
structure ClN (K : Fr) (mg : Str → Option Value) (cm : CM) (x : Str) : Prop where
  ex : ∃ C, cm x = .ref C ∧ mg x = some (.ref C)
theorem ClN.of {K : Fr} {h : Heap} {mg : Str → Option Value} (X : K.In h) (G : h.Ns mainGlobals mg) {x : Str} (g : (He.Fa.glo x).ok K = true) : ClN K mg (cmK K) x := ⟨_, rfl, He.glo_ok X G g⟩
theorem ClN.names {X : Cx} {cm : CM} {x : Str} (h : ClN X.K X.mg cm x) (hg : Gl X x := by rfl) (hd : (x == ("__debug__" : Str)) = false := by decide) : Names X x (cm x) := by
  obtain ⟨C, e1, e2⟩ := h.ex
  exact ⟨hg, hd, .inl (by rw [e1]; exact e2)⟩
theorem ClN.cls {X : Cx} {cm : CM} {x : Str} (h : ClN X.K X.mg cm x) : ClsN X x (cm x) := by
  obtain ⟨C, e1, e2⟩ := h.ex
  rw [e1]
  exact .own C e2
def excCB (K : Fr) (x : Str) : Bool := decide (PySem.W.findIn K (.ref (He.ga K x)) "__getattribute__" = some (some (.builtin "BaseException.__getattribute__"))) && (decide (PySem.W.findIn K (.ref (He.ga K x)) "__getattr__" = some none) && (decide (PySem.W.subIn K (.ref (He.ga K x)) (.type "BaseException") = some true) && (PySem.W.hasDictIn K (He.ga K x) &&
  (decide (PySem.W.findIn K (.ref (He.ga K x)) "__class__" = some (some (.builtin "object.__class__"))) && (decide (PySem.W.specialIn K (.builtin "object.__class__") "__get__" = some (some (.builtin "getset_descriptor.__get__"))) && (decide (PySem.W.takesIn K (.builtin "object.__class__") = some true) && decide (PySem.W.mroIn K (He.ga K x) (.type "object") = some true)))))))
theorem excCB_ok {K : Fr} {x : Str} (h : excCB K x = true) : ExcC K (He.ga K x) := by
  unfold excCB at h
  simp only [Bool.and_eq_true, decide_eq_true_eq] at h
  obtain ⟨h1, h2, h3, h4, h5, h6, h7, h8⟩ := h
  exact ⟨h1, h2, h3, h4, h5, h6, h7, h8⟩
/-- what isinstance says of an exception of class d -/
structure IsN (K : Fr) (cm : CM) (d : Str) (c : Value) (b : Bool) : Prop where
  ex : ∃ D, cm d = .ref D ∧ ExcC K D ∧ PySem.W.kitOne K (.ref D) c = some b
def isNB (K : Fr) (d : Str) (c : Fr → Value) (b : Bool) : Bool := excCB K d && decide (PySem.W.kitOne K (.ref (He.ga K d)) (c K) = some b)
theorem IsN.of {K : Fr} {d : Str} {c : Fr → Value} {b : Bool} (h : isNB K d c b = true) : IsN K (cmK K) d (c K) b := by
  unfold isNB at h
  rw [Bool.and_eq_true, decide_eq_true_eq] at h
  exact ⟨_, rfl, excCB_ok h.1, h.2⟩
section
variable {X : Cx} {W : WX} {cm : CM}
theorem e_isN {a : Addr} {d : Str} {oe : Obj} {pn : List (Addr × Obj)} {i : Nat} {n x : Str} {c : Value} {b : Bool} {p p1 p2 pos : Pos} (C : IsN X.K cm d c b) (hz : Zc (cm d) none oe) (hf : ∃ vs, oe.data = .fields vs) (hm : X.mg "isinstance" = none) (hc : ClsN X x c)
    (hi : X.N[i]? = some n := by rfl) (hv : Vis X.env.scope n := by first | exact Or.inl rfl | exact Or.inr (Or.inl rfl) | exact Or.inr (Or.inr rfl)) (hdn : (n == ("__debug__" : Str)) = false := by decide) (hcd : (n == ("__classdict__" : Str)) = false := by decide)
    (hg : Gl X "isinstance" := by rfl) (hgC : Gl X x := by rfl) (hd : (x == ("__debug__" : Str)) = false := by decide)
    (he : starEach [.Name n p1, .Name x p2] X.env = (false, eval (.Name n p1) X.env) :: starEach [.Name x p2] X.env := by rfl) (he2 : starEach [.Name x p2] X.env = (false, eval (.Name x p2) X.env) :: starEach [] X.env := by rfl) (hpl : (backTo pos (starEach [.Name x p2] X.env)).any (·.1) = false := by rfl) :
    SE (X.suite a ((a, oe) :: pn)) W cm (.Call (.Name "isinstance" p) [.Name n p1, .Name x p2] [] pos) (mIsE i b a) := by
  obtain ⟨D, e, h1, h2⟩ := C.ex
  rw [e] at hz
  exact e_isE h1 hz hf hm hc h2 hi hv hdn hcd hg hgC hd he he2 hpl
end
/-! ### a suite that does not tell the exception's address -/
def Sm {α : Type} (i : Nat) (m : Addr → M α) : Prop := ∀ (a : Addr) (ev ev2 : SL) (x : α), m 0 (ev.set i (.val (.opq (.ref 0)))) = .ok x ev2 → ∃ ev3 : SL, ev2 = ev3.set i (.val (.opq (.ref 0))) ∧ m a (ev.set i (.val (.opq (.ref a)))) = .ok x (ev3.set i (.val (.opq (.ref a))))
theorem Sm.nat0 {i : Nat} {m : Addr → M Fl} (h : Sm i m) : Nat0 i m := fun a ev ev2 f e => by
  obtain ⟨ev3, e1, e2⟩ := h a ev ev2 f e
  refine ⟨_, e2, ?_⟩
  rw [e1, List.set_set, List.set_set]
theorem sm_ret {α : Type} {i : Nat} {x : α} : Sm i (fun _ => ret x) := fun a ev ev2 y e => by
  unfold ret at e ⊢
  cases e
  exact ⟨ev, rfl, rfl⟩
theorem sm_bad {α : Type} {i : Nat} : Sm (α := α) i (fun _ => bad) := fun a ev ev2 y e => by cases e
theorem sm_bnd {α β : Type} {i : Nat} {m : Addr → M α} {f : Addr → α → M β} (h1 : Sm i m) (h2 : ∀ x, Sm i (fun a => f a x)) : Sm i (fun a => bnd (m a) (f a)) := fun a ev ev2 y e => by
  unfold bnd at e ⊢
  cases e1 : m 0 (ev.set i (.val (.opq (.ref 0)))) with
  | bad => simp only [e1] at e; cases e
  | exc c ev1 => simp only [e1] at e; cases e
  | ok x ev1 =>
    simp only [e1] at e
    obtain ⟨ev3, q1, q2⟩ := h1 a ev ev1 x e1
    rw [q1] at e
    obtain ⟨ev4, q3, q4⟩ := h2 x a ev3 ev2 y e
    simp only [q2]
    exact ⟨ev4, q3, q4⟩
theorem sm_sq {i : Nat} {m n : Addr → M Fl} (h1 : Sm i m) (h2 : Sm i n) : Sm i (fun a => sq (m a) (n a)) := fun a ev ev2 y e => by
  unfold sq at e ⊢
  cases e1 : m 0 (ev.set i (.val (.opq (.ref 0)))) with
  | bad => simp only [e1] at e; cases e
  | exc c ev1 => simp only [e1] at e; cases e
  | ok x ev1 =>
    obtain ⟨ev3, q1, q2⟩ := h1 a ev ev1 x e1
    simp only [e1] at e
    simp only [q2]
    cases x with
    | nx =>
      simp only at e ⊢
      rw [q1] at e
      exact h2 a ev3 ev2 y e
    | _ =>
      cases e
      exact ⟨ev3, q1, rfl⟩
theorem sm_var {i j : Nat} (h : j ≠ i) : Sm i (fun _ => eVar j) := fun a ev ev2 y e => by
  unfold eVar at e ⊢
  dsimp only at e ⊢
  rw [List.getElem?_set_ne (fun z => h z.symm)] at e ⊢
  cases e1 : ev[j]? with
  | none => rw [e1] at e; cases e
  | some sl =>
    cases sl with
    | no => rw [e1] at e; cases e
    | val p => rw [e1] at e; cases e; exact ⟨ev, rfl, rfl⟩
    | own ps =>
      rw [e1] at e; cases e
      exact ⟨ev.set j (.val (.lst ps)), by rw [List.set_comm _ _ h], by simp only; rw [List.set_comm _ _ h]⟩
theorem sm_isE {i : Nat} {b : Bool} : Sm i (fun a => mIsE i b a) := fun a ev ev2 y e => by
  unfold mIsE at e ⊢
  dsimp only at e ⊢
  by_cases hl : i < ev.length
  · rw [List.getElem?_set_self hl] at e ⊢
    simp only [if_true] at e ⊢
    cases e
    exact ⟨ev, rfl, rfl⟩
  · rw [List.getElem?_eq_none (by rw [List.length_set]; omega)] at e
    cases e
theorem sm_mRet {i : Nat} {r : RV} : Sm i (fun _ => mRet r) := sm_ret
theorem sm_vAnd {i : Nat} {m n : Addr → M RV} (h1 : Sm i m) (h2 : Sm i n) : Sm i (fun a => vAnd (m a) (n a)) := sm_bnd h1 fun r => by
  obtain ⟨p, fr⟩ := r
  cases p with
  | bl b => cases b with
    | true => exact h2
    | false => exact sm_ret
  | _ => exact sm_bad
theorem sm_vNot {i : Nat} {m : Addr → M RV} (h1 : Sm i m) : Sm i (fun a => vNot (m a)) := sm_bnd h1 fun r => by
  obtain ⟨p, fr⟩ := r
  cases p with
  | bl b => exact sm_ret
  | _ => exact sm_bad
section
variable {X : Cx} {W : WX} {cm : CM}
/-! ### comprehensions, the slots written out -/
theorem e_compV {N : List Str} {sc : Scope} {vs : List Nat} (own : List (Str × Nat)) {elt tg iter : Expr} {ifs : List Expr} {scope : Scope} {pos : Pos} {js : List Nat} {mi : M (List PV)} {t : PV → SL → Option SL} {mt : M Bool} {me : M RV} (hc : X.calm = true) (hNd : X.N.Nodup) (ok : blkC N sc scope own = true)
    (si : SI X W cm tg iter mi) (hg : Blk X scope fun Y => SG Y W0 tg t js) (ht : Blk X scope fun Y => STs Y W0 cm ifs mt) (he : Blk X scope fun Y => SE Y W0 cm elt me) (hj : ∀ j ∈ js, j ∈ own.map (·.2) := by decide) (hvs : own.map (·.2) = vs := by rfl) (eN : X.N = N := by rfl) (eS : X.env.scope = sc := by rfl)
    (hs : ∀ x, foldedSetIterable iter X.env x = pure x := by intro _; rfl) : SE X W cm (.ListComp elt [⟨tg, iter, ifs, 0⟩] scope pos) (mComp mi t mt me vs) := by
  subst hvs eN eS
  exact e_comp hc hNd (blkOk_by ok) si hg ht he hj hs
theorem s_setCompV {N : List Str} {sc : Scope} {vs : List Nat} (own : List (Str × Nat)) {i : Nat} {y : Str} {py : Pos} {elt tg iter : Expr} {ifs : List Expr} {scope : Scope} {pos spos : Pos} {js : List Nat} {mi : M (List PV)} {t : PV → SL → Option SL} {mt : M Bool} {me : M RV} (hc : X.calm = true) (hNd : X.N.Nodup)
    (hsw : swapsWith (.ListComp elt [⟨tg, iter, ifs, 0⟩] scope pos) (some (.Name y py)) spos.line X.env = pure true) (ok : blkC N sc scope own = true)
    (si : SI X W cm tg iter mi) (hg : Blk X scope fun Y => SG Y W0 tg t js) (ht : Blk X scope fun Y => STs Y W0 cm ifs mt) (he : Blk X scope fun Y => SE Y W0 cm elt me) (hj : ∀ j ∈ js, j ∈ own.map (·.2) := by decide) (hvs : own.map (·.2) = vs := by rfl) (eN : X.N = N := by rfl) (eS : X.env.scope = sc := by rfl)
    (hy : X.N[i]? = some y := by rfl) (hyl : X.env.scope.names.lookup y = some .local := by rfl)
    (hs : ∀ x, foldedSetIterable iter X.env x = pure x := by intro _; rfl) : SS X W cm (.Assign [.Name y py] (.ListComp elt [⟨tg, iter, ifs, 0⟩] scope pos) spos) (bnd (mComp mi t mt me vs) (setR i)) := by
  subst hvs eN eS
  exact s_setComp hc hNd hsw (blkOk_by ok) si hg ht he hj hy hyl hs
end
/-! ### a dict of the top: texts to ints -/
def dOf (kvs : List (Str × Int)) : Str → Option Int := fun z => (kvs.find? fun q => q.1 == z).map (·.2)
def entOf (e : DictEntry) : Option (Str × Int) := match e.key, e.val with
  | .str x _, .int i _ => some (x, i)
  | _, _ => none
def dictIs (K : Fr) (a : Addr) (kvs : List (Str × Int)) : Bool := match K.lookup a with
  | some ⟨_, _, .dict es _, _⟩ => decide (es.toList.map entOf = kvs.map some)
  | _ => false
theorem dictIs_find : ∀ {es : List DictEntry} {kvs : List (Str × Int)}, es.map entOf = kvs.map some → ∀ z : Str, (dOf kvs z = none → es.find? (fun x => x.key.isStr z) = none) ∧ ∀ i, dOf kvs z = some i → ∃ e t, es.find? (fun x => x.key.isStr z) = some e ∧ e.val = .int i t
  | [], [], _, z => ⟨fun _ => rfl, fun i e => by cases e⟩
  | e :: es, [], h, z => by cases h
  | [], q :: kvs, h, z => by cases h
  | e :: es, q :: kvs, h, z => by
    rw [List.map_cons, List.map_cons] at h
    injection h with h1 h2
    obtain ⟨i1, i2⟩ := dictIs_find h2 z
    unfold entOf at h1
    split at h1
    · rename_i x t i u ek ev
      cases h1
      unfold dOf at i1 i2 ⊢
      rw [List.find?_cons, List.find?_cons, ek]
      have es : (Value.str x t).isStr z = (x == z) := rfl
      rw [es]
      cases c : x == z with
      | true => exact ⟨fun e => (by cases e), fun j e => (by cases e; exact ⟨_, u, rfl, ev⟩)⟩
      | false => exact ⟨i1, i2⟩
    · cases h1
theorem dictIs_no : ∀ {es : List DictEntry} {kvs : List (Str × Int)}, es.map entOf = kvs.map some → (es.any fun x => x.refKey) = false
  | [], [], _ => rfl
  | e :: es, [], h => by cases h
  | [], q :: kvs, h => by cases h
  | e :: es, q :: kvs, h => by
    rw [List.map_cons, List.map_cons] at h
    injection h with h1 h2
    rw [List.any_cons, dictIs_no h2, Bool.or_false]
    unfold entOf at h1
    split at h1
    · rename_i x t i u ek ev
      unfold DictEntry.refKey
      rw [ek]
    · cases h1
theorem kd0_of {w : World} {K : Fr} {h : Heap} {mg : Str → Option Value} {x : Str} {kvs : List (Str × Int)} (X : K.In h) (G : h.Ns mainGlobals mg) (g : (He.Fa.glo x).ok K = true) (t : ∃ es n, KDict K w (He.ga K x) es n) (c : dictIs K (He.ga K x) kvs = true) : KD0 w K mg x (dOf kvs) := by
  obtain ⟨es, n, D⟩ := t
  refine ⟨_, es, n, He.glo_ok X G g, D, fun z => ?_⟩
  unfold dictIs at c
  rw [D.at_] at c
  have c := of_decide_eq_true c
  obtain ⟨h1, h2⟩ := dictIs_find c z
  have h3 := dictIs_no c
  constructor
  · intro e
    unfold PySem.W.nsIn
    rw [D.at_]
    simp only [h1 e, h3]
    rfl
  · intro i e
    obtain ⟨e0, t, q1, q2⟩ := h2 i e
    refine ⟨t, ?_⟩
    unfold PySem.W.nsIn
    rw [D.at_]
    simp only [q1, q2]
end Pv

set_option Elab.async false
set_option linter.all false
set_option maxRecDepth 100000
namespace Pv
open PySem PySem.Spec L2
open PyProof.Rows hiding St
/-- the end of a law -/
theorem walk_law {l : PySem.W.OpenLaw} {n k : Nat} {q : Program} {loose : List Str} {XP : (Str → Option Value) → Heap → Prop} {YP : World → Heap → Prop} {d : DefRec} {x : Str}
    (hn : l.most = some n) (hn2 : n ≤ sizeLine) (hdf : d.params.defaults = []) (hr : Room k callerA)
    (F : ∀ (w : World) (mg : Str → Option Value) (fa : Addr) (h : Heap), YP w h → h.Ns mainGlobals mg → mg d.name = some (.ref fa) →
      ∃ (K : Fr) (fd : FuncData) (f : Fn) (cm : CM), K.In h ∧ (∀ (s : Shared) (u : Value), BindsTo s fd ⟨[u], []⟩ [(x, u)]) ∧
        (∀ ns : List Int, ns.length ≤ n → f [.scr ns] = .ok (.bl true, false)) ∧
        ∀ base : Heap, K.In base → base.Ns mainGlobals mg → FnOk l.prog w K mg base (L2.CX l.prog w) k fa fd [x] (spP K cm f))
    (hCX : ∀ (w : World) (H : Hp) (s : Shared) (e : Value) (s' : Shared), L2.CX l.prog w [] H s (fun _ _ _ => False) e s' → False) :
    PySem.W.WalkO q loose XP YP l.row.toRowW d [] (fun f vs => PySem.call f vs) := by
  refine Att.attach_call hn hdf fun w s₀ s₁ mg mb fa o pm cd doc a vs ns G Y ho hd hcd hmg hobj hints hlen hg => ?_
  obtain ⟨K, fd, f, cm, KX, hb, hsp, hF⟩ := F w mg fa _ Y G.T.g hmg
  refine law_call KX G.T.g G.T.b G.T.builtins G.T.nolimit hg hobj hints (Nat.le_trans hlen hn2) hr hF hb (fun H hO hS => ?_) fun H e s' => hCX w H s₁ e s'
  refine ⟨fun y => H y ≠ none, [.scr ns], fun _ h => h, RepL.cons ?_ RepL.nil, ?_⟩
  · unfold Rep
    refine ⟨a, rfl, ?_⟩
    rcases hS with h | h
    · refine .inl ⟨?_, h⟩
      rcases h with h | ⟨u, h⟩ <;> rw [h] <;> exact fun z => nomatch z
    · exact .inr h
  · rw [hsp ns hlen]
    intro F' v H' _ _ _ _ q
    have e : v = .bl true := q
    exact e
end Pv

set_option Elab.async false
set_option linter.all false
set_option maxRecDepth 100000
namespace Pv
open PySem PySem.Spec L2
open PyProof.Rows hiding St
/-! ### the combinators at a state: rules for simp, none touches a suite that is not run yet -/
section
variable {α β : Type} {ev : SL}
@[simp] theorem bnd_ap {m : M α} {f : α → M β} : bnd m f ev = match m ev with
  | .ok a ev' => f a ev'
  | .exc c ev' => .exc c ev'
  | .bad => .bad := rfl
@[simp] theorem ret_ap {a : α} : ret a ev = .ok a ev := rfl
@[simp] theorem bad_ap : (bad : M α) ev = .bad := rfl
@[simp] theorem look_ap {m : M RV} : look m ev = bnd m (fun r => ret r.1) ev := rfl
@[simp] theorem eVar_ap {i : Nat} : eVar i ev = match ev[i]? with
  | some (.val p) => .ok (p, false) ev
  | some (.own ps) => .ok (.lst ps, false) (ev.set i (.val (.lst ps)))
  | _ => .bad := rfl
@[simp] theorem pVar_ap {i : Nat} : pVar i ev = match ev[i]? with
  | some (.val p) => .ok p ev
  | some (.own ps) => .ok (.lst ps) ev
  | _ => .bad := by unfold pVar; rfl
@[simp] theorem eC_ap {p : PV} : eC p ev = .ok (p, false) ev := rfl
@[simp] theorem opt_some_ap {a : α} : opt (some a) ev = .ok a ev := rfl
@[simp] theorem opt_none_ap : opt (none : Option α) ev = .bad := rfl
@[simp] theorem eOp_ap {g : PV → PV → Option RV} {a b : M PV} : eOp g a b ev = bnd a (fun x => bnd b fun y => opt (g x y)) ev := rfl
@[simp] theorem eChain_ap {g g' : PV → PV → Option RV} {a b c : M PV} : eChain g g' a b c ev = bnd a (fun x => bnd b fun y => bnd (opt (g x y)) fun r => match r.1 with
  | .bl true => bnd c fun z => opt (g' y z)
  | .bl false => ret (.bl false, false)
  | _ => bad) ev := rfl
@[simp] theorem mRet_ap {r : RV} : mRet r ev = .ok (.rt r) ev := rfl
@[simp] theorem mRetV_ap {i : Nat} : mRetV i ev = match ev[i]? with
  | some (.own ps) => .ok (.rt (.lst ps, true)) ev
  | some (.val p) => .ok (.rt (p, false)) ev
  | _ => .bad := rfl
theorem setR_ap {i : Nat} {r : RV} : setR i r ev = if i < ev.length then .ok .nx (ev.set i (match r with
  | (.lst ps, true) => .own ps
  | (p, _) => .val p)) else .bad := rfl
@[simp] theorem setR_f {i : Nat} {p : PV} : setR i (p, false) ev = if i < ev.length then .ok .nx (ev.set i (.val p)) else .bad := by
  rw [setR_ap]; cases p <;> rfl
@[simp] theorem setR_t {i : Nat} {ps : List PV} : setR i (.lst ps, true) ev = if i < ev.length then .ok .nx (ev.set i (.own ps)) else .bad := rfl
@[simp] theorem mIfS_ap {c : M Bool} {a b : M Fl} : mIfS c a b ev = bnd c (fun k => if k then a else b) ev := rfl
@[simp] theorem mIf_ap {c : M Bool} {a b : M RV} : mIf c a b ev = bnd c (fun k => if k then a else b) ev := rfl
@[simp] theorem mNot_ap {m : M Bool} : mNot m ev = bnd m (fun b => ret (!b)) ev := rfl
@[simp] theorem mAnd_ap {a b : M Bool} : mAnd a b ev = bnd a (fun x => if x then b else ret false) ev := rfl
@[simp] theorem mOr_ap {a b : M Bool} : mOr a b ev = bnd a (fun x => if x then ret true else b) ev := rfl
@[simp] theorem vAnd_ap {a b : M RV} : vAnd a b ev = bnd a (fun r => match r.1 with
  | .bl true => b
  | .bl false => ret (.bl false, false)
  | _ => bad) ev := rfl
@[simp] theorem vOr_ap {a b : M RV} : vOr a b ev = bnd a (fun r => match r.1 with
  | .bl true => ret (.bl true, false)
  | .bl false => b
  | _ => bad) ev := rfl
@[simp] theorem vNot_ap {a : M RV} : vNot a ev = bnd a (fun r => match r.1 with
  | .bl b => ret (.bl (!b), false)
  | _ => bad) ev := rfl
@[simp] theorem blOf_ap {m : M RV} : blOf m ev = bnd m (fun r => match r.1 with
  | .bl b => ret b
  | _ => bad) ev := rfl
@[simp] theorem tTru_ap {m : M PV} : tTru m ev = bnd m (fun p => opt (truP p)) ev := rfl
@[simp] theorem kCons_ap {a : M PV} {r : M (List PV)} : kCons a r ev = bnd a (fun x => bnd r fun ps => ret (x :: ps)) ev := rfl
@[simp] theorem aCons_ap {a : M RV} {r : M (List PV)} : aCons a r ev = bnd a (fun x => bnd r fun ps => ret (x.1 :: ps)) ev := rfl
@[simp] theorem eCall_ap {g : List PV → Option RV} {a : M (List PV)} : eCall g a ev = bnd a (fun ps => opt (g ps)) ev := rfl
@[simp] theorem mTup_ap {m : M (List PV)} : mTup m ev = bnd m (fun ps => if ps.length ≤ SZ then ret (.tup ps, false) else bad) ev := rfl
@[simp] theorem mLst_ap {m : M (List PV)} : mLst m ev = bnd m (fun ps => if ps.length ≤ SZ then ret (.lst ps, true) else bad) ev := rfl
@[simp] theorem eFn_ap {f : Fn} {m : M (List PV)} : eFn f m ev = match m ev with
  | .ok ps ev' => (match f ps with
    | .ok r => .ok r ev'
    | .exc c => .exc c ev'
    | .bad => .bad)
  | .exc c ev' => .exc c ev'
  | .bad => .bad := rfl
@[simp] theorem mRaise_ap {c : Str} : mRaise c ev = .exc c ev := rfl
@[simp] theorem mTgt_ap {t : PV → SL → Option SL} {p : PV} : mTgt t p ev = match t p ev with
  | some ev' => .ok .nx ev'
  | none => .bad := rfl
@[simp] theorem tName_ap {i : Nat} {p : PV} : tName i p ev = if i < ev.length then some (ev.set i (.val p)) else none := rfl
@[simp] theorem tNames_tup {is : List Nat} {ps : List PV} : tNames is (.tup ps) ev = tNames.tN2 is ps ev := rfl
@[simp] theorem tN2_nil : tNames.tN2 [] [] ev = some ev := rfl
@[simp] theorem tN2_cons {i : Nat} {is : List Nat} {p : PV} {ps : List PV} : tNames.tN2 (i :: is) (p :: ps) ev = (tName i p ev).bind (tNames.tN2 is ps) := rfl
@[simp] theorem sq_ap {a b : M Fl} : sq a b ev = match a ev with
  | .ok .nx ev' => b ev'
  | r => r := rfl
@[simp] theorem mKdIn_ap {neg : Bool} {d : Str → Option Int} {m : M PV} : mKdIn neg d m ev = bnd m (fun p => match p with
  | .str z => ret (.bl (xor neg (d z).isSome), false)
  | _ => bad) ev := rfl
@[simp] theorem mKdIx_ap {d : Str → Option Int} {m : M PV} : mKdIx d m ev = bnd m (fun p => match p with
  | .str z => match d z with
    | some i => ret (.int i, false)
    | none => bad
  | _ => bad) ev := rfl
@[simp] theorem mIsi_ap {T : String} {m : M PV} : mIsi T m ev = bnd m (fun p => match tyP p with
  | some t => match kitB t T with
    | some b => ret (.bl b, false)
    | none => bad
  | none => bad) ev := rfl
@[simp] theorem mLenSet_ap {m : M PV} : mLenSet m ev = bnd m (fun p => match p with
  | .lst ps => match intsP ps with
    | some ns => if ns.length ≤ 1000 then ret (.int ((dedup ns).length : Nat), false) else bad
    | none => bad
  | _ => bad) ev := rfl
@[simp] theorem mMet_ap {i : Nat} {m : M (List PV)} {g : List PV → List PV → Option (List PV)} : mMet i m g ev = match ev[i]? with
  | some (.own _) => bnd m (fun as ev1 => match ev1[i]? with
    | some (.own ps) => match g ps as with
      | some qs => .ok .nx (ev1.set i (.own qs))
      | none => .bad
    | _ => .bad) ev
  | _ => .bad := rfl
@[simp] theorem mSeq_ap {m : M RV} : mSeq m ev = bnd m (fun r => match r.1 with
  | .lst ps => ret ps
  | .tup ps => ret ps
  | _ => bad) ev := rfl
@[simp] theorem mRng1_ap {m : M (List PV)} : mRng1 m ev = bnd m (fun ps => match ps with
  | [.int j] => if okR j then ret (rgP 0 j.toNat) else bad
  | _ => bad) ev := rfl
@[simp] theorem mRng2_ap {m : M (List PV)} : mRng2 m ev = bnd m (fun ps => match ps with
  | [.int i, .int j] => if okR i && okR j then ret (rgP i (j - i).toNat) else bad
  | _ => bad) ev := rfl
@[simp] theorem mComp_ap {mi : M (List PV)} {t : PV → SL → Option SL} {mt : M Bool} {me : M RV} {vs : List Nat} : mComp mi t mt me vs ev = bnd mi (fun ps ev1 => match compr t mt me vs [] ps (wipeE ev1 vs) with
  | .ok qs ev2 => .ok (.lst qs, true) (back ev1 ev2 vs)
  | _ => .bad) ev := rfl
@[simp] theorem eSl_ap {a : M PV} {lo hi : M (Option Int)} : eSl a lo hi ev = bnd a (fun p => bnd lo fun l => bnd hi fun h => opt (gSl p l h)) ev := rfl
@[simp] theorem soInt_ap {m : M PV} : soInt m ev = bnd m (fun p => match p with
  | .int i => ret (some i)
  | _ => bad) ev := rfl
@[simp] theorem mRg1_ap {m : M PV} : mRg1 m ev = bnd m (fun p => (match p with
  | .int j => ret ((0 : Int), j)
  | _ => bad : M (Int × Int))) ev := rfl
@[simp] theorem mTupRg_ap {m : M (Int × Int)} : mTupRg m ev = bnd m (fun r => if okRg r then ret (.tup (rgP r.1 (r.2 - r.1).toNat), false) else bad) ev := rfl
@[simp] theorem mLstRg_ap {m : M (Int × Int)} : mLstRg m ev = bnd m (fun r => if okRg r then ret (.lst (rgP r.1 (r.2 - r.1).toNat), true) else bad) ev := rfl
@[simp] theorem mAppPop_ap {i j : Nat} {m : M PV} : mAppPop i j m ev = match ev[i]?, ev[j]? with
  | some (.own _), some (.own _) => if i = j then .bad else bnd m (fun p ev1 => match ev1[i]?, ev1[j]?, p with
    | some (.own ps), some (.own qs), .int k => if -(2 ^ 63) ≤ k ∧ k < 2 ^ 63 ∧ ps.length < SZ then match seqIndex? k qs.length with
      | some n => match qs[n]? with
        | some q => .ok .nx ((ev1.set j (.own (qs.eraseIdx n))).set i (.own (ps ++ [q])))
        | none => .bad
      | none => .bad
      else .bad
    | _, _, _ => .bad) ev
  | _, _ => .bad := rfl
@[simp] theorem mTry_ap {mb : M Fl} {is : Str → Option Bool} {i : Nat} {ms : Str → Addr → M Fl} : mTry mb is i ms ev = match mb ev with
  | .exc d ev1 => (match is d with
    | some true => if i < ev1.length then (match ms d 0 (ev1.set i (.val (.opq (.ref 0)))) with
      | .ok f ev2 => .ok f (ev2.set i .no)
      | .exc _ _ => .bad
      | .bad => .bad) else .bad
    | some false => .exc d ev1
    | none => .bad)
  | r => r := rfl
@[simp] theorem mIsE_ap {i : Nat} {b : Bool} {a : Addr} : mIsE i b a ev = match ev[i]? with
  | some (.val (.opq v)) => if v = .ref a then .ok (.bl b, false) ev else .bad
  | _ => .bad := rfl
@[simp] theorem runF_ap {n k : Nat} {m : M Fl} {ps : List PV} : runF n k m ps = if ps.length = k ∧ k ≤ n then runB m (ev0 n ps) else .bad := rfl
@[simp] theorem runB_ap {m : M Fl} : runB m ev = match m ev with
  | .ok .nx _ => .ok (.non, false)
  | .ok (.rt r) _ => .ok r
  | .ok _ _ => .bad
  | .exc c _ => .exc c
  | .bad => .bad := rfl
@[simp] theorem loop_nil {t : PV → SL → Option SL} {mb : M Fl} : loop t mb [] ev = .ok .nx ev := rfl
end
/-! ### values -/
@[simp] theorem aSub_ii {i j : Int} : aSub (.int i) (.int j) = some (.int (i - j), false) := rfl
@[simp] theorem aMul_ii {i j : Int} : aMul (.int i) (.int j) = if smallI i || smallI j then some (.int (i * j), false) else none := rfl
@[simp] theorem aDiv_ii {i j : Int} : aDiv (.int i) (.int j) = if 0 < j ∧ j < 1073741824 then some (.int (i / j), false) else none := rfl
@[simp] theorem aMod_ii {i j : Int} : aMod (.int i) (.int j) = if 0 < j then some (.int (i % j), false) else none := rfl
@[simp] theorem aPow_ii {i j : Int} : aPow (.int i) (.int j) = if 0 ≤ j ∧ j ≤ 1000000 ∧ i.natAbs < 2 ^ 64 then some (.int (i ^ j.toNat), false) else none := rfl
@[simp] theorem cLt_ii {i j : Int} : cLt (.int i) (.int j) = some (.bl (decide (i < j)), false) := rfl
@[simp] theorem cLe_ii {i j : Int} : cLe (.int i) (.int j) = some (.bl (decide (i ≤ j)), false) := rfl
@[simp] theorem cGt_ii {i j : Int} : cGt (.int i) (.int j) = some (.bl (decide (j < i)), false) := rfl
@[simp] theorem cGe_ii {i j : Int} : cGe (.int i) (.int j) = some (.bl (decide (j ≤ i)), false) := rfl
@[simp] theorem gAdd_ii {i j : Int} : gAdd (.int i) (.int j) = some (.int (i + j), false) := rfl
@[simp] theorem gAdd_tt {ps qs : List PV} : gAdd (.tup ps) (.tup qs) = if ps.length + qs.length ≤ SZ then some (.tup (ps ++ qs), false) else none := rfl
@[simp] theorem gAdd_ll {ps qs : List PV} : gAdd (.lst ps) (.lst qs) = if ps.length + qs.length ≤ SZ then some (.lst (ps ++ qs), true) else none := rfl
@[simp] theorem gEq_ii {n : Bool} {i j : Int} : gEq n (.int i) (.int j) = some (.bl (xor n (decide (i = j))), false) := rfl
@[simp] theorem gEq_ss {n : Bool} {i j : Str} : gEq n (.str i) (.str j) = some (.bl (xor n (decide (i = j))), false) := rfl
@[simp] theorem gIx_t {ps : List PV} {i : Int} : gIx (.tup ps) (.int i) = (atI ps i).map fun p => (p, false) := rfl
@[simp] theorem gIx_l {ps : List PV} {i : Int} : gIx (.lst ps) (.int i) = (atI ps i).map fun p => (p, false) := rfl
@[simp] theorem gIx_s {ns : List Int} {i : Int} : gIx (.scr ns) (.int i) = (atI ns i).map fun p => (.int p, false) := rfl
@[simp] theorem gSl_t {ps : List PV} {lo hi : Option Int} : gSl (.tup ps) lo hi = some (.tup (cutP ps lo hi), false) := rfl
@[simp] theorem gSl_l {ps : List PV} {lo hi : Option Int} : gSl (.lst ps) lo hi = some (.lst (cutP ps lo hi), true) := rfl
@[simp] theorem gLen_t {ps : List PV} : gLen [.tup ps] = some (.int ps.length, false) := rfl
@[simp] theorem gLen_l {ps : List PV} : gLen [.lst ps] = some (.int ps.length, false) := rfl
@[simp] theorem gLen_s {ns : List Int} : gLen [.scr ns] = some (.int ns.length, false) := by
  show some (PV.int ((ns.map PV.int).length : Nat), false) = _
  rw [List.length_map]
@[simp] theorem gList_t {ps : List PV} : gList [.tup ps] = some (.lst ps, true) := rfl
@[simp] theorem gList_l {ps : List PV} : gList [.lst ps] = some (.lst ps, true) := rfl
@[simp] theorem gTuple_t {ps : List PV} : gTuple [.tup ps] = some (.tup ps, false) := rfl
@[simp] theorem gTuple_l {ps : List PV} : gTuple [.lst ps] = some (.tup ps, false) := rfl
@[simp] theorem gInt_i {i : Int} : gInt [.int i] = some (.int i, false) := rfl
@[simp] theorem gInt_b {b : Bool} : gInt [.bl b] = some (.int (if b then 1 else 0), false) := rfl
@[simp] theorem gSorted_l {ps : List PV} : gSorted [.lst ps] = (intsP ps).map fun ns => (.lst ((isort ns).map .int), true) := rfl
@[simp] theorem gSorted_t {ps : List PV} : gSorted [.tup ps] = (intsP ps).map fun ns => (.lst ((isort ns).map .int), true) := rfl
@[simp] theorem gAppend_1 {ps : List PV} {p : PV} : gAppend ps [p] = if ps.length < SZ then some (ps ++ [p]) else none := rfl
@[simp] theorem gExtend_1 {ps qs : List PV} : gExtend ps [.lst qs] = if ps.length + qs.length ≤ SZ then some (ps ++ qs) else none := rfl
@[simp] theorem kit_int : kitB "int" "int" = some true := by decide +kernel
@[simp] theorem kit_tuple : kitB "tuple" "int" = some false := by decide +kernel
@[simp] theorem ty_int {i : Int} : tyP (.int i) = some "int" := rfl
@[simp] theorem ty_tup {ps : List PV} : tyP (.tup ps) = some "tuple" := rfl
@[simp] theorem tru_bl {b : Bool} : truP (.bl b) = some b := rfl
@[simp] theorem intsP_map' {ns : List Int} : intsP (ns.map .int) = some ns := intsP_map ns
@[simp] theorem ev0_eq {n : Nat} {ps : List PV} : ev0 n ps = ps.map .val ++ List.replicate (n - ps.length) .no := rfl
@[simp] theorem SZ_eq : SZ = 16777216 := rfl
@[simp] theorem smallI_eq {i : Int} : smallI i = decide (-(2 ^ 64) < i ∧ i < 2 ^ 64) := rfl
@[simp] theorem vI_eq {i : Int} : vI i = some (.int i, false) := rfl
@[simp] theorem vB_eq {b : Bool} : vB b = some (.bl b, false) := rfl
end Pv

set_option Elab.async false
set_option linter.all false
set_option maxRecDepth 100000
namespace Pv
open PySem PySem.Spec L2
open PyProof.Rows hiding St
/-! ### == of ints in tuples, in lists -/
theorem isDs_ints : ∀ ns : List Int, isDs (ns.map .int) = true
  | [] => rfl
  | n :: ns => by rw [List.map_cons]; unfold isDs isD; rw [isDs_ints ns]; rfl
theorem toDs_ints : ∀ ns : List Int, toDs (ns.map .int) = ns.map PyData.int
  | [] => rfl
  | n :: ns => by rw [List.map_cons, List.map_cons]; unfold toDs toD; rw [toDs_ints ns]
theorem lay_ints : ∀ ns : List Int, PyData.canLayAll0 (ns.map PyData.int) = true
  | [] => by unfold PyData.canLayAll0; rfl
  | n :: ns => by rw [List.map_cons]; unfold PyData.canLayAll0 PyData.canLay0; rw [lay_ints ns]; rfl
theorem depth_ints : ∀ ns : List Int, PyData.depthAll (ns.map PyData.int) = 0
  | [] => by unfold PyData.depthAll; rfl
  | n :: ns => by rw [List.map_cons]; unfold PyData.depthAll PyData.depth; rw [depth_ints ns]; rfl
theorem eqv_ints : ∀ a b : List Int, PyData.eqvAll (a.map PyData.int) (b.map PyData.int) = decide (a = b)
  | [], [] => by unfold PyData.eqvAll; rfl
  | [], y :: ys => by rw [List.map_cons, List.map_nil]; unfold PyData.eqvAll; simp
  | x :: xs, [] => by rw [List.map_cons, List.map_nil]; unfold PyData.eqvAll; simp
  | x :: xs, y :: ys => by
    rw [List.map_cons, List.map_cons]
    unfold PyData.eqvAll PyData.eqv
    rw [eqv_ints xs ys]
    by_cases h : x = y <;> by_cases h2 : xs = ys <;> simp [h, h2]
theorem okD_tupI (ns : List Int) : okD (.tup (ns.map .int)) = true := by
  unfold okD isD toD SeqAt.shaped PyData.canLay0 PyData.depth
  rw [isDs_ints, toDs_ints, lay_ints, depth_ints]
  rfl
theorem okD_lstI (ns : List Int) : okD (.lst (ns.map .int)) = true := by
  unfold okD isD toD SeqAt.shaped PyData.canLay0 PyData.depth
  rw [isDs_ints, toDs_ints, lay_ints, depth_ints]
  rfl
theorem gEq_tupI (n : Bool) (a b : List Int) : gEq n (.tup (a.map .int)) (.tup (b.map .int)) = some (.bl (xor n (decide (a = b))), false) := by
  unfold gEq
  simp only [okD_tupI, Bool.and_self, if_true]
  unfold toD PyData.eqv
  rw [toDs_ints, toDs_ints, eqv_ints]
  rfl
theorem gEq_lstI (n : Bool) (a b : List Int) : gEq n (.lst (a.map .int)) (.lst (b.map .int)) = some (.bl (xor n (decide (a = b))), false) := by
  unfold gEq
  simp only [okD_lstI, Bool.and_self, if_true]
  unfold toD PyData.eqv
  rw [toDs_ints, toDs_ints, eqv_ints]
  rfl
/-- the numbers lo .. lo + n - 1 -/
def upTo (lo : Int) (n : Nat) : List Int := (List.range n).map fun i => lo + (i : Nat)
theorem rgP_eq (lo : Int) (n : Nat) : rgP lo n = (upTo lo n).map .int := by
  unfold rgP upTo
  rw [List.map_map]
  rfl
theorem upTo_len (lo : Int) (n : Nat) : (upTo lo n).length = n := by unfold upTo; simp
/-! ### == of a value and itself -/
mutual
theorem eqv_self : ∀ d : PyData, PyData.canLay0 d = true → PyData.eqv d d = true
  | .none, _ => by unfold PyData.eqv; rfl
  | .bool _, _ => by unfold PyData.eqv; simp
  | .int _, _ => by unfold PyData.eqv; simp
  | .str _, _ => by unfold PyData.eqv; simp
  | .list xs, h => by unfold PyData.canLay0 at h; unfold PyData.eqv; exact eqv_selfs xs h
  | .tuple xs, h => by unfold PyData.canLay0 at h; unfold PyData.eqv; exact eqv_selfs xs h
  | .dict _, h => by unfold PyData.canLay0 at h; cases h
theorem eqv_selfs : ∀ ds : List PyData, PyData.canLayAll0 ds = true → PyData.eqvAll ds ds = true
  | [], _ => by unfold PyData.eqvAll; rfl
  | d :: ds, h => by
    unfold PyData.canLayAll0 at h
    rw [Bool.and_eq_true] at h
    unfold PyData.eqvAll
    rw [eqv_self d h.1, eqv_selfs ds h.2]
    rfl
end
theorem gEq_self {p : PV} (n : Bool) (h : okD p = true) : gEq n p p = some (.bl (!n), false) := by
  have h0 := h
  unfold okD SeqAt.shaped at h0
  simp only [Bool.and_eq_true] at h0
  have e := eqv_self (toD p) h0.2.1
  unfold gEq
  split
  · simp
  · simp
  · simp
  · rw [h, e]
    cases n <;> rfl
/-! ### a comprehension over names alone -/
theorem compr_id {v : Nat} : ∀ (ps acc : List PV) (ev : SL), ev[v]? = some .no → acc.length + ps.length ≤ SZ → compr (tName v) (ret true) (eVar v) [v] acc ps ev = .ok (acc ++ ps) ev
  | [], acc, ev, _, _ => by rw [compr]; simp
  | p :: ps, acc, ev, h, hz => by
    have hl : v < ev.length := (List.getElem?_eq_some_iff.mp h).1
    rw [List.length_cons] at hz
    have e1 : wipeE (ev.set v (.val p)) [v] = ev := by
      show (ev.set v (.val p)).set v .no = ev
      rw [List.set_set]
      apply List.ext_getElem?
      intro i
      by_cases hi : v = i
      · subst hi; rw [List.getElem?_set_self hl, h]
      · rw [List.getElem?_set_ne hi]
    have e2 : turn (tName v) (ret true) (eVar v) p ev = .ok (some p) (ev.set v (.val p)) := by
      unfold turn
      simp [hl]
    rw [compr]
    simp only [e2]
    rw [if_pos (by omega), e1, compr_id ps (acc ++ [p]) ev h (by rw [List.length_append, List.length_singleton]; omega)]
    simp
/-! ### loops by an invariant -/
theorem loop_inv {t : PV → SL → Option SL} {mb : M Fl} {I : Nat → SL → Prop} {Q : SL → Prop} : ∀ {ps : List PV} (k : Nat) {ev : SL}, (∀ j p ev, ps[j]? = some p → I (k + j) ev → ∃ ev1, t p ev = some ev1 ∧ ((∃ ev2, mb ev1 = .ok .nx ev2 ∧ I (k + j + 1) ev2) ∨ (∃ ev2, mb ev1 = .ok .bk ev2 ∧ Q ev2))) → I k ev →
    ∃ ev', loop t mb ps ev = .ok .nx ev' ∧ (I (k + ps.length) ev' ∨ Q ev')
  | [], k, ev, _, h => ⟨ev, rfl, .inl h⟩
  | p :: ps, k, ev, st, h => by
    obtain ⟨ev1, e1, r⟩ := st 0 p ev rfl h
    rcases r with ⟨ev2, e2, h2⟩ | ⟨ev2, e2, h2⟩
    · obtain ⟨ev', e3, h3⟩ := loop_inv (ps := ps) (k + 1) (ev := ev2) (fun j q ev z hI => by
        have := st (j + 1) q ev z (by rw [show k + (j + 1) = k + 1 + j by omega]; exact hI)
        rw [show k + (j + 1) + 1 = k + 1 + j + 1 by omega] at this
        exact this) (by simpa using h2)
      refine ⟨ev', ?_, ?_⟩
      · rw [loop]
        simp only [e1, e2, e3]
      · rw [List.length_cons, show k + (ps.length + 1) = k + 1 + ps.length by omega]
        exact h3
    · refine ⟨ev2, ?_, .inr h2⟩
      rw [loop]
      simp only [e1, e2]
theorem rgP_get {lo : Int} {n j : Nat} {p : PV} (h : (rgP lo n)[j]? = some p) : j < n ∧ p = .int (lo + (j : Nat)) := by
  have hj : j < n := by
    have := (List.getElem?_eq_some_iff.mp h).1
    unfold rgP at this
    rwa [List.length_map, List.length_range] at this
  unfold rgP at h
  rw [List.getElem?_map, List.getElem?_range hj] at h
  cases h
  exact ⟨hj, rfl⟩
theorem rgP_len (lo : Int) (n : Nat) : (rgP lo n).length = n := by unfold rgP; simp
/-! ### blocks, step by step -/
theorem sq_nx {a b : M Fl} {ev ev' : SL} (h : a ev = .ok .nx ev') : sq a b ev = b ev' := by unfold sq; rw [h]
theorem sq_rt {a b : M Fl} {ev ev' : SL} {r : RV} (h : a ev = .ok (.rt r) ev') : sq a b ev = .ok (.rt r) ev' := by unfold sq; rw [h]
theorem sq_bk {a b : M Fl} {ev ev' : SL} (h : a ev = .ok .bk ev') : sq a b ev = .ok .bk ev' := by unfold sq; rw [h]
theorem sq_exc {a b : M Fl} {ev ev' : SL} {c : Str} (h : a ev = .exc c ev') : sq a b ev = .exc c ev' := by unfold sq; rw [h]
theorem bnd_ok {α β : Type} {m : M α} {f : α → M β} {ev ev' : SL} {a : α} (h : m ev = .ok a ev') : bnd m f ev = f a ev' := by unfold bnd; rw [h]
theorem bnd_exc {α β : Type} {m : M α} {f : α → M β} {ev ev' : SL} {c : Str} (h : m ev = .exc c ev') : bnd m f ev = .exc c ev' := by unfold bnd; rw [h]
theorem if_t {c : M Bool} {a b : M Fl} {ev ev' : SL} (h : c ev = .ok true ev') : mIfS c a b ev = a ev' := by unfold mIfS; rw [bnd_ok h]; rfl
theorem if_f {c : M Bool} {a b : M Fl} {ev ev' : SL} (h : c ev = .ok false ev') : mIfS c a b ev = b ev' := by unfold mIfS; rw [bnd_ok h]; rfl
theorem runF_ok {n k : Nat} {m : M Fl} {ps : List PV} {r : RV} {ev' : SL} (h : m (ev0 n ps) = .ok (.rt r) ev') (hk : ps.length = k) (hn : k ≤ n) : runF n k m ps = .ok r := by
  unfold runF
  rw [if_pos ⟨hk, hn⟩]
  unfold runB
  rw [h]
theorem runF_exc {n k : Nat} {m : M Fl} {ps : List PV} {c : Str} {ev' : SL} (h : m (ev0 n ps) = .exc c ev') (hk : ps.length = k) (hn : k ≤ n) : runF n k m ps = .exc c := by
  unfold runF
  rw [if_pos ⟨hk, hn⟩]
  unfold runB
  rw [h]
theorem comp_ok {mi : M (List PV)} {t : PV → SL → Option SL} {mt : M Bool} {me : M RV} {vs : List Nat} {ev ev1 ev2 : SL} {ps qs : List PV} (h : mi ev = .ok ps ev1) (hc : compr t mt me vs [] ps (wipeE ev1 vs) = .ok qs ev2) : mComp mi t mt me vs ev = .ok (.lst qs, true) (back ev1 ev2 vs) := by
  unfold mComp
  rw [bnd_ok h]
  simp only [hc]
end Pv

set_option Elab.async false
set_option linter.all false
set_option maxRecDepth 100000
namespace Pv
open PySem PySem.Spec L2
open PyProof.Rows hiding St
section
variable {X : Cx} {W : WX} {cm : CM}
/-! ### xs[::-1] -/
def mRev (m : M PV) : M RV := bnd m fun p => match p with
  | .lst ps => ret (.lst ps.reverse, true)
  | _ => bad
theorem e_revL {e : Expr} {m : M PV} {k : Nat} {p1 p2 p3 pos : Pos} (s : Pv.SP X W cm e m) : SE X W cm (.Subscript e (.Slice none none (some (.UnaryOp .USub (.Constant (.int 1) k p1) p2)) p3) pos) (mRev m) := .mk' fun F H0 H ev σ Q r h => by
  refine sE_of (pe_revL sE_pe) ?_
  refine s.go r (h.bnd.mono fun q ev1 F1 H1 a1 hh v rv => ?_)
  have h2 := hh.2
  cases q with
  | lst ps =>
    obtain ⟨a, xs, rfl, hx, rl⟩ := rv
    refine ⟨a, xs, rfl, SqL.of hx, fun l hl => ?_⟩
    exact h2 F1 _ (a1.er.fresh hl) _ (a1.er.newL a1.same hl rl.reverse)
  | _ => exact h2.elim
/-! ### xs.insert(i, y) -/
def gInsert : List PV → List PV → Option (List PV)
  | ps, [.int i, p] => if ps.length < SZ ∧ 0 ≤ i ∧ i < 2 ^ 63 then some (ps.take i.toNat ++ [p] ++ ps.drop i.toNat) else none
  | _, _ => none
theorem k_insert : MetOk X "list.insert" gInsert := fun F H a xs vs ps as qs hx rx rs e => by
  unfold gInsert at e
  split at e
  · rename_i i p
    split at e
    · rename_i hz
      cases e
      unfold RepL at rs
      obtain ⟨y, ys, rfl, r1, r2⟩ := rs
      obtain ⟨v, rfl, rv⟩ := r2.one
      unfold Rep at r1
      subst r1
      exact ⟨_, xs.take i.toNat ++ [v] ++ xs.drop i.toNat, _, mt_insert, ((rx.take _).append (RepL.cons rv RepL.nil)).append (rx.drop _), fun Q hq => ⟨a, xs, i, v, rfl, rfl, hx, by rw [rx.length]; exact hz.1, hz.2.1, hz.2.2, hq⟩⟩
    · cases e
  · cases e
/-! ### xs.reverse() -/
def mRevS (i : Nat) : M Fl := fun ev => match ev[i]? with
  | some (.own ps) => .ok .nx (ev.set i (.own ps.reverse))
  | _ => .bad
theorem s_rev {i : Nat} {x : Str} {p apos cpos pos : Pos} (hi : X.N[i]? = some x := by rfl) (hv : Vis X.env.scope x := by first | exact Or.inl rfl | exact Or.inr (Or.inl rfl) | exact Or.inr (Or.inr rfl)) (hd : (x == ("__debug__" : Str)) = false := by decide) (hcd : (x == ("__classdict__" : Str)) = false := by decide)
    (hbase : attributeBase (.Name x p) "reverse" X.env (eval (.Name x p) X.env) = eval (.Name x p) X.env := by rfl) (hline : (apos.endLine == cpos.line) = true := by rfl)
    (hs : swapsWith (.Call (.Attribute (.Name x p) "reverse" apos) [] [] cpos) none pos.line X.env = pure false := by rfl) :
    SS X W cm (.Expr (.Call (.Attribute (.Name x p) "reverse" apos) [] [] cpos) pos) (mRevS i) := ⟨fun {F0 F H0 H ev σ D} b h => by
  refine sS_of (ps_expr (pe_bm0 PySem.F.plainAttrs_list PySem.F.slot_list_reverse PySem.F.type_list_reverse mt_reverse (pe_var hi hv hd hcd) hbase hline) hs) ?_
  have hb := h.not_bad
  unfold mRevS at hb
  split at hb
  rotate_left
  · exact absurd rfl hb
  rename_i ps e0
  obtain ⟨o, e1, a, xs, rfl, e2, q0, nf, e3⟩ := b.er.slot i _ e0
  refine ⟨_, e1, .inl ⟨rfl, xs, SqL.of e2⟩, ?_⟩
  have m1 := b.setOwn e0 e1 q0.reverse
  refine ⟨a, xs, rfl, rfl, e2, ?_⟩
  exact h.nx (by unfold mRevS; rw [e0]) m1⟩
end
end Pv

set_option Elab.async false
set_option linter.all false
set_option maxRecDepth 100000
namespace Pv
open PySem PySem.Spec L2
open PyProof.Rows hiding St
/-! ### comprehensions of one name, whatever its tests and element -/
theorem wipe_one {v : Nat} {ev : SL} {s : Slot} (h : ev[v]? = some .no) : wipeE (ev.set v s) [v] = ev := by
  show (ev.set v s).set v .no = ev
  rw [List.set_set]
  apply List.ext_getElem?
  intro i
  by_cases hi : v = i
  · subst hi; rw [List.getElem?_set_self (List.getElem?_eq_some_iff.mp h).1, h]
  · rw [List.getElem?_set_ne hi]
theorem compr_fm {v : Nat} {mt : M Bool} {me : M RV} {f : PV → Option PV} : ∀ (ps acc : List PV) (ev : SL), ev[v]? = some .no → (∀ p ∈ ps, turn (tName v) mt me p ev = .ok (f p) (ev.set v (.val p))) → acc.length + ps.length ≤ SZ → compr (tName v) mt me [v] acc ps ev = .ok (acc ++ ps.filterMap f) ev
  | [], acc, ev, _, _, _ => by rw [compr]; simp
  | p :: ps, acc, ev, h, hm, hz => by
    rw [List.length_cons] at hz
    have h1 := hm p (by simp)
    rw [compr]
    simp only [h1]
    cases c : f p with
    | none =>
      simp only
      rw [wipe_one h, compr_fm ps acc ev h (fun q hq => hm q (by simp [hq])) (by omega), List.filterMap_cons, c]
    | some q =>
      simp only
      rw [if_pos (by omega), wipe_one h, compr_fm ps (acc ++ [q]) ev h (fun q hq => hm q (by simp [hq])) (by rw [List.length_append, List.length_singleton]; omega), List.filterMap_cons, c]
      simp
theorem turn_fil {v : Nat} {mt : M Bool} {p : PV} {ev : SL} {b : Bool} (h : ev[v]? = some .no) (hm : mt (ev.set v (.val p)) = .ok b (ev.set v (.val p))) : turn (tName v) mt (eVar v) p ev = .ok (if b then some p else none) (ev.set v (.val p)) := by
  have hl : v < ev.length := (List.getElem?_eq_some_iff.mp h).1
  unfold turn
  cases b <;> simp [hl, hm]
theorem turn_map {v : Nat} {me : M RV} {p q : PV} {fr : Bool} {ev : SL} (h : ev[v]? = some .no) (hm : me (ev.set v (.val p)) = .ok (q, fr) (ev.set v (.val p))) : turn (tName v) (ret true) me p ev = .ok (some q) (ev.set v (.val p)) := by
  have hl : v < ev.length := (List.getElem?_eq_some_iff.mp h).1
  unfold turn
  simp [hl, hm]
theorem fm_fil (P : Int → Bool) : ∀ l : List Int, (l.map PV.int).filterMap (fun p => match p with
    | .int i => if P i then some (PV.int i) else none
    | _ => none) = (l.filter P).map .int
  | [] => rfl
  | i :: l => by
    rw [List.map_cons, List.filterMap_cons, List.filter_cons, fm_fil P l]
    dsimp only
    by_cases c : P i = true
    · rw [if_pos c, if_pos c]; rfl
    · rw [if_neg c, if_neg c]
/-- of ints, by a test -/
theorem compr_int {v : Nat} {mt : M Bool} {P : Int → Bool} (l : List Int) (ev : SL) (h : ev[v]? = some .no) (hm : ∀ i ∈ l, mt (ev.set v (.val (.int i))) = .ok (P i) (ev.set v (.val (.int i)))) (hz : l.length ≤ SZ) : compr (tName v) mt (eVar v) [v] [] (l.map .int) ev = .ok ((l.filter P).map .int) ev := by
  rw [compr_fm (f := fun p => match p with
    | .int i => if P i then some (PV.int i) else none
    | _ => none) (l.map .int) [] ev h (fun p hp => by
      obtain ⟨i, hi, rfl⟩ := List.mem_map.mp hp
      exact turn_fil h (hm i hi)) (by rw [List.length_nil, List.length_map]; omega), List.nil_append, fm_fil]
/-! ### in, of ints -/
theorem inP_int (i : Int) : ∀ l : List Int, inP (.int i) (l.map .int) = decide (i ∈ l)
  | [] => by simp [inP, inV]
  | j :: l => by
    have e := inP_int i l
    unfold inP inV at e ⊢
    rw [List.map_cons, List.map_cons, List.any_cons, e]
    have : eqV (toV (.int j)) (toV (.int i)) = (j == i) := rfl
    rw [this]
    by_cases h : j = i
    · rw [h, beq_self_eq_true, Bool.true_or, decide_eq_true (List.mem_cons_self)]
    · rw [beq_eq_false_iff_ne.mpr h, Bool.false_or]
      by_cases c : i ∈ l
      · rw [decide_eq_true c, decide_eq_true (List.mem_cons_of_mem _ c)]
      · rw [decide_eq_false c, decide_eq_false (fun z => (List.mem_cons.mp z).elim (fun y => h y.symm) c)]
theorem flat_ints : ∀ l : List Int, (l.map PV.int).all flatP = true
  | [] => rfl
  | i :: l => by rw [List.map_cons, List.all_cons, flat_ints l]; rfl
theorem gIn_tup (n : Bool) (i : Int) (l : List Int) : gIn n (.int i) (.tup (l.map .int)) = some (.bl (xor n (decide (i ∈ l))), false) := by
  show (if (flatP (.int i) && (l.map PV.int).all flatP) = true then vB (xor n (inP (.int i) (l.map .int))) else none) = _
  rw [flat_ints, inP_int]
  rfl
theorem gIn_lst (n : Bool) (i : Int) (l : List Int) : gIn n (.int i) (.lst (l.map .int)) = some (.bl (xor n (decide (i ∈ l))), false) := by
  show (if (flatP (.int i) && (l.map PV.int).all flatP) = true then vB (xor n (inP (.int i) (l.map .int))) else none) = _
  rw [flat_ints, inP_int]
  rfl
end Pv

set_option linter.all false
/-! Starts in a line and around a ring. -/
namespace Ring
def one (b : Bool) : Nat := if b then 1 else 0
/-- how many stretches of true begin in the list, behind p -/
def ls : Bool → List Bool → Nat
  | _, [] => 0
  | p, x :: r => one (x && !p) + ls x r
def lastOr : Bool → List Bool → Bool
  | p, [] => p
  | _, x :: r => lastOr x r
theorem ls_app : ∀ (p : Bool) (a c : List Bool), ls p (a ++ c) = ls p a + ls (lastOr p a) c
  | p, [], c => by simp [ls, lastOr]
  | p, x :: a, c => by rw [List.cons_append, ls, ls, lastOr, ls_app x a c, Nat.add_assoc]
theorem turns : ∀ (p : Bool) (b : List Bool), ls p b + one p = ls (!p) (b.map not) + one (lastOr p b)
  | p, [] => by simp [ls, lastOr]
  | p, x :: r => by
    have := turns x r
    rw [List.map_cons, ls, ls, lastOr]
    cases x <;> cases p <;> simp [one] at this ⊢ <;> omega
theorem ls_le (b : List Bool) : ls true b ≤ ls false b ∧ ls false b ≤ ls true b + 1 := by
  cases b with
  | nil => simp [ls]
  | cons x r => cases x <;> simp [ls, one] <;> omega
theorem lastOr_any {p q : Bool} {b : List Bool} (h : b ≠ []) : lastOr p b = lastOr q b := by
  cases b with
  | nil => exact absurd rfl h
  | cons x r => rfl
/-- a stretch of true or of false in the line: at most one start around -/
theorem ring_iff {b : List Bool} (h : b ≠ []) : (ls false b ≤ 1 ∨ ls false (b.map not) ≤ 1) ↔ ls (lastOr false b) b ≤ 1 := by
  have t2 := turns true b
  have e := lastOr_any (p := true) (q := false) h
  have l := ls_le b
  simp only [Bool.not_true, one, if_true] at t2
  rw [e] at t2
  cases c : lastOr false b with
  | true =>
    rw [c] at t2
    simp only [if_true] at t2
    omega
  | false =>
    rw [c] at t2
    simp only [Bool.false_eq_true, if_false] at t2
    omega
/-- the places at which something begins -/
theorem starts_eq : ∀ (b : List Bool) (p : Bool), ((List.range b.length).filter fun k => b.getD k false && !(if k = 0 then p else b.getD (k - 1) false)).length = ls p b
  | [], p => rfl
  | x :: r, p => by
    have ih := starts_eq r x
    rw [List.length_cons, List.range_succ_eq_map, List.filter_cons, ls, ← ih]
    have e : (List.filter (fun k => (x :: r).getD k false && !(if k = 0 then p else (x :: r).getD (k - 1) false)) (List.map Nat.succ (List.range r.length))).length = (List.filter (fun k => r.getD k false && !(if k = 0 then x else r.getD (k - 1) false)) (List.range r.length)).length := by
      rw [List.filter_map, List.length_map]
      congr 1
      refine List.filter_congr fun k hk => ?_
      simp only [Function.comp]
      cases k with
      | zero => simp
      | succ k => simp
    by_cases c : ((x :: r).getD 0 false && !(if 0 = 0 then p else (x :: r).getD (0 - 1) false)) = true
    · rw [if_pos c, List.length_cons, e]
      have : (x && !p) = true := by simpa using c
      rw [this, one, if_pos rfl]
      omega
    · rw [if_neg c, e]
      have : (x && !p) = false := by simpa using c
      rw [this, one, if_neg (by simp)]
      omega
theorem ls_zero : ∀ {c : List Bool}, ls false c = 0 → ∀ x ∈ c, x = false
  | [], _ => by simp
  | true :: r, h => by simp [ls, one] at h
  | false :: r, h => by
    have h2 : ls false r = 0 := by simpa [ls, one] using h
    intro x hx
    rcases List.mem_cons.mp hx with rfl | hx
    · rfl
    · exact ls_zero h2 x hx
theorem ls_false : ∀ (p : Bool) {c : List Bool}, (∀ x ∈ c, x = false) → ls p c = 0
  | _, [], _ => rfl
  | p, x :: r, h => by
    have hx := h x (by simp)
    subst hx
    rw [ls, ls_false false fun y hy => h y (by simp [hy])]
    simp [one]
theorem ls_true : ∀ {c : List Bool}, (∀ x ∈ c, x = true) → ls true c = 0
  | [], _ => rfl
  | x :: r, h => by
    have hx := h x (by simp)
    subst hx
    rw [ls, ls_true fun y hy => h y (by simp [hy])]
    simp [one]
/-- from a true to a true: one start exactly if all are true -/
theorem full_iff {r : List Bool} (h : lastOr true r = true) : ls false (true :: r) ≤ 1 ↔ ∀ x ∈ true :: r, x = true := by
  have t := turns true r
  rw [h] at t
  simp only [Bool.not_true, one, if_true] at t
  have e : ls false (true :: r) = 1 + ls true r := by simp [ls, one]
  rw [e]
  constructor
  · intro q
    have z : ls false (r.map not) = 0 := by omega
    intro x hx
    rcases List.mem_cons.mp hx with rfl | hx
    · rfl
    · have := ls_zero z (!x) (List.mem_map.mpr ⟨x, hx, rfl⟩)
      cases x <;> simp at this ⊢
  · intro q
    have := ls_true (c := r) fun x hx => q x (by simp [hx])
    omega
/-- falses around change nothing -/
theorem ls_mid {a s c : List Bool} (ha : ∀ x ∈ a, x = false) (hc : ∀ x ∈ c, x = false) : ls false (a ++ s ++ c) = ls false s := by
  have l0 : ∀ {a : List Bool}, (∀ x ∈ a, x = false) → lastOr false a = false := by
    intro a
    induction a with
    | nil => intro _; rfl
    | cons x r ih =>
      intro h
      have hx := h x (by simp)
      subst hx
      rw [lastOr]
      exact ih fun y hy => h y (by simp [hy])
  rw [List.append_assoc, ls_app, ls_false false ha, l0 ha, Nat.zero_add, ls_app, ls_false _ hc, Nat.add_zero]
/-- the count of true -/
theorem count_all : ∀ (s : List Bool), (s.filter id).length = s.length ↔ ∀ x ∈ s, x = true
  | [] => by simp
  | true :: r => by simp [count_all r]
  | false :: r => by
    have := List.length_filter_le id r
    simp
    omega
theorem lastOr_end : ∀ (p : Bool) (a : List Bool) (x : Bool), lastOr p (a ++ [x]) = x
  | _, [], _ => rfl
  | _, y :: a, x => by rw [List.cons_append, lastOr, lastOr_end y a x]
theorem idx_at : ∀ {o : List Int} {i : Nat}, o.Nodup → (h : i < o.length) → o.idxOf o[i] = i
  | x :: o, 0, _, _ => by simp
  | x :: o, i + 1, n, h => by
    have n2 := List.nodup_cons.mp n
    have hi : i < o.length := by simpa using h
    have ne : x ≠ o[i] := fun z => n2.1 (z ▸ List.getElem_mem hi)
    have ih := idx_at n2.2 hi
    simp only [List.getElem_cons_succ]
    rw [List.idxOf_cons]
    have : (x == o[i]) = false := by simpa using ne
    rw [this, ih]
    rfl
/-- the stretch from the first to the last place is as long as the set exactly if one stretch begins -/
theorem tog_iff {o l : List Int} (no : o.Nodup) (nl : l.Nodup) (sub : ∀ t ∈ l, t ∈ o) {f e : Nat} (hfe : f ≤ e) (he : e < o.length) (hf : o[f]'(by omega) ∈ l) (hE : o[e] ∈ l) (hall : ∀ t ∈ l, f ≤ o.idxOf t ∧ o.idxOf t ≤ e) :
    ((o.drop f).take (e + 1 - f)).length = l.length ↔ ls false (o.map fun t => decide (t ∈ l)) ≤ 1 := by
  have dec : o = o.take f ++ (o.drop f).take (e + 1 - f) ++ o.drop (e + 1) := by
    have h1 : o.drop (e + 1) = (o.drop f).drop (e + 1 - f) := by rw [List.drop_drop]; congr 1; omega
    rw [h1, List.append_assoc, List.take_append_drop, List.take_append_drop]
  have nA : ∀ t ∈ o.take f, t ∉ l := fun t ht hl => by
    obtain ⟨i, hi, rfl⟩ := List.mem_iff_getElem.mp ht
    rw [List.length_take] at hi
    have := (hall _ hl).1
    rw [List.getElem_take, idx_at no (by omega)] at this
    omega
  have nC : ∀ t ∈ o.drop (e + 1), t ∉ l := fun t ht hl => by
    obtain ⟨i, hi, rfl⟩ := List.mem_iff_getElem.mp ht
    rw [List.length_drop] at hi
    have := (hall _ hl).2
    rw [List.getElem_drop, idx_at no (by omega)] at this
    omega
  have nS : ∀ t ∈ l, t ∈ (o.drop f).take (e + 1 - f) := fun t ht => by
    have h := sub t ht
    rw [dec] at h
    rcases List.mem_append.mp h with h | h
    · rcases List.mem_append.mp h with h | h
      · exact absurd ht (nA t h)
      · exact h
    · exact absurd ht (nC t h)
  have S1 : (o.drop f).take (e + 1 - f) = o[f]'(by omega) :: (o.drop (f + 1)).take (e - f) := by
    rw [List.drop_eq_getElem_cons (by omega : f < o.length), show e + 1 - f = (e - f) + 1 by omega, List.take_succ_cons]
  have S2 : (o.drop f).take (e + 1 - f) = (o.drop f).take (e - f) ++ [o[e]] := by
    rw [show e + 1 - f = (e - f) + 1 by omega, List.take_succ, List.getElem?_drop, show f + (e - f) = e by omega, List.getElem?_eq_getElem he]
    rfl
  have nodS : ((o.drop f).take (e + 1 - f)).Nodup := by
    have := no
    rw [dec] at this
    exact (List.nodup_append.mp (List.nodup_append.mp this).1).2.1
  have cnt : (((o.drop f).take (e + 1 - f)).filter fun t => decide (t ∈ l)).length = l.length := by
    refine List.Perm.length_eq ((List.perm_ext_iff_of_nodup (nodS.sublist List.filter_sublist) nl).mpr fun t => ?_)
    rw [List.mem_filter, decide_eq_true_eq]
    exact ⟨fun h => h.2, fun h => ⟨nS t h, h⟩⟩
  generalize (o.drop f).take (e + 1 - f) = S at *
  have bS : (S.map fun t => decide (t ∈ l)) = true :: ((o.drop (f + 1)).take (e - f)).map fun t => decide (t ∈ l) := by
    rw [S1, List.map_cons, decide_eq_true hf]
  have lst : lastOr true (((o.drop (f + 1)).take (e - f)).map fun t => decide (t ∈ l)) = true := by
    have h1 : lastOr false (S.map fun t => decide (t ∈ l)) = true := by
      rw [S2, List.map_append, List.map_cons, List.map_nil, lastOr_end, decide_eq_true hE]
    rw [bS, lastOr] at h1
    exact h1
  have key : ls false (o.map fun t => decide (t ∈ l)) = ls false (S.map fun t => decide (t ∈ l)) := by
    have h := congrArg (List.map fun t => decide (t ∈ l)) dec
    rw [List.map_append, List.map_append] at h
    rw [h]
    refine ls_mid (fun x hx => ?_) (fun x hx => ?_)
    · obtain ⟨t, ht, rfl⟩ := List.mem_map.mp hx
      exact decide_eq_false (nA t ht)
    · obtain ⟨t, ht, rfl⟩ := List.mem_map.mp hx
      exact decide_eq_false (nC t ht)
  rw [key, bS, full_iff lst, ← bS, ← count_all, List.filter_map, List.length_map, List.length_map, ← cnt]
  show S.length = (S.filter fun t => decide (t ∈ l)).length ↔ (S.filter fun t => decide (t ∈ l)).length = S.length
  exact eq_comm
end Ring

set_option Elab.async false
set_option linter.all false
set_option maxRecDepth 100000
set_option maxHeartbeats 4000000
namespace K14
open Pv PySem PySem.Spec L2
open PyProof.Rows hiding St
def topS (i : Nat) : Stmt := PySem.Challenge.pw_unpartedrows_k14_sets_around_a_ring.main.body.getD i (.Pass ⟨0, 0, 0, 0⟩)
structure Top (w : World) (K : Fr) (mg : Str → Option Value) (cm : CM) : Prop where
  b_bool : mg "bool" = none
  b_int : mg "int" = none
  b_isinstance : mg "isinstance" = none
  b_len : mg "len" = none
  b_list : mg "list" = none
  b_max : mg "max" = none
  b_min : mg "min" = none
  b_range : mg "range" = none
  b_sorted : mg "sorted" = none
  b_tuple : mg "tuple" = none
  i_MOST_THINGS : ∃ t, mg "MOST_THINGS" = some (.int 24 t)
  i_MOST_SETS : ∃ t, mg "MOST_SETS" = some (.int 40 t)
  x_InvalidOrder : ExK K mg cm "InvalidOrder"
  x_InvalidTable : ExK K mg cm "InvalidTable"
  N_InvalidOrder : ClN K mg cm "InvalidOrder"
  m_InvalidOrder_InvalidOrder : PySem.W.exmOne K (cm "InvalidOrder") (cm "InvalidOrder") = some true
  m_InvalidTable_InvalidOrder : PySem.W.exmOne K (cm "InvalidTable") (cm "InvalidOrder") = some false
  m_UnpartedError_InvalidOrder : PySem.W.exmOne K (cm "UnpartedError") (cm "InvalidOrder") = some false
section
variable {P : Program} {w : World} {K : Fr} {mg : Str → Option Value} {base : Heap} {cm : CM} {f : Addr} {fd : FuncData}
/-! ### is_number_of_things -/
theorem sc_is_number_of_things : FnScope ["n"] ["n"] (defScope (topS 7)) := ⟨rfl, rfl, rfl, by decide +kernel, rfl, by decide +kernel, by decide +kernel⟩
def st_is_number_of_things : M Fl := sq (bnd (eChain cLe cLe (look (eC (.int 1))) (pVar 0) (look (eC (.int 24)))) mRet) (ret .nx)
def fn_is_number_of_things : Fn := runF 1 1 st_is_number_of_things
theorem ok_is_number_of_things (T : Top w K mg cm) (F : Fun K "is_number_of_things" "is_number_of_things" (topS 7) f fd) (hg : mg "is_number_of_things" = some (.ref f)) (hb : Binds K fd ["n"] []) : Cal P w K mg base cm 1 "is_number_of_things" fn_is_number_of_things := by
  refine def_ok (k := 0) (m := st_is_number_of_things) F sc_is_number_of_things hg hb ?_ (by decide)
  intro cdv A outer s H E hr
  have tk : L2.Takes (cxOf (L2.CX P w) P w K mg base ["n"] "is_number_of_things" (defScope (topS 7)) f cdv A outer s H E) (fun cls d _ H => E cls d H) := takes_of rfl rfl rfl rfl
  have hp : PassesOwn (model P w) (cxOf (L2.CX P w) P w K mg base ["n"] "is_number_of_things" (defScope (topS 7)) f cdv A outer s H E).A (cxOf (L2.CX P w) P w K mg base ["n"] "is_number_of_things" (defScope (topS 7)) f cdv A outer s H E).env (cxOf (L2.CX P w) P w K mg base ["n"] "is_number_of_things" (defScope (topS 7)) f cdv A outer s H E).xe := passes_of rfl
  exact b_cons (s_ret (e_chain o_le o_le (SE.look (e_int)) (p_var (i := 0)) (SE.look (e_gint T.i_MOST_THINGS.choose_spec)))) (b_nil)
/-! ### check_set -/
theorem sc_check_set : FnScope ["n", "chosen", "thing"] ["n", "chosen"] (defScope (topS 8)) := ⟨rfl, rfl, rfl, by decide +kernel, rfl, by decide +kernel, by decide +kernel⟩
def st_check_set : M Fl := sq (mIfS (mNot (tTru (look (eFn fn_is_number_of_things (aCons (eVar 0) (ret [])))))) (sq (mRaise "InvalidTable") (ret .nx)) (ret .nx)) (sq (mIfS (blOf (eOp (gEq true) (look (eCall gList (kCons (pVar 1) (ret [])))) (look (mComp (mRng1 (kCons (pVar 0) (ret []))) (tName 2) (blOf (eOp (gIn false) (pVar 2) (pVar 1))) (eVar 2) [2])))) (sq (mRaise "InvalidTable") (ret .nx)) (ret .nx)) (sq (mRetV 1) (ret .nx)))
def fn_check_set : Fn := runF 3 2 st_check_set
theorem ok_check_set (T : Top w K mg cm) (F : Fun K "check_set" "check_set" (topS 8) f fd) (hg : mg "check_set" = some (.ref f)) (hb : Binds K fd ["n", "chosen"] []) (c_is_number_of_things : Cal P w K mg base cm 1 "is_number_of_things" fn_is_number_of_things) : Cal P w K mg base cm 2 "check_set" fn_check_set := by
  refine def_ok (k := 1) (m := st_check_set) F sc_check_set hg hb ?_ (by decide)
  intro cdv A outer s H E hr
  have tk : L2.Takes (cxOf (L2.CX P w) P w K mg base ["n", "chosen", "thing"] "check_set" (defScope (topS 8)) f cdv A outer s H E) (fun cls d _ H => E cls d H) := takes_of rfl rfl rfl rfl
  have hp : PassesOwn (model P w) (cxOf (L2.CX P w) P w K mg base ["n", "chosen", "thing"] "check_set" (defScope (topS 8)) f cdv A outer s H E).A (cxOf (L2.CX P w) P w K mg base ["n", "chosen", "thing"] "check_set" (defScope (topS 8)) f cdv A outer s H E).env (cxOf (L2.CX P w) P w K mg base ["n", "chosen", "thing"] "check_set" (defScope (topS 8)) f cdv A outer s H E).xe := passes_of rfl
  have c_is_number_of_things : Cal P w K mg base cm 1 "is_number_of_things" fn_is_number_of_things := c_is_number_of_things.mono (by omega)
  exact b_cons (s_if (t_not (t_val (SE.look (e_call c_is_number_of_things hr tk (a_cons (e_var (i := 0)) (a_nil)))))) (b_cons (s_raise rfl tk T.x_InvalidTable) (b_nil)) (b_nil)) (b_cons (s_if (t_cmp (o_ne hr.units) (SE.look (e_callTy c_list T.b_list PyProof.Rows.boot_list (k_cons (p_var (i := 1)) (k_nil)))) (SE.look (e_compV (N := ["n", "chosen", "thing"]) (sc := defScope (topS 8)) (vs := [2]) [("thing", 2)] rfl sc_check_set.nd (by decide +kernel) (i_range1 T.b_range (k_cons (p_var (i := 0)) (k_nil))) (fun _ _ _ _ _ => g_name (i := 2) sc_check_set.nd) (fun _ _ _ _ _ => ts_one (t_cmp o_in (p_var (i := 2)) (p_var (i := 1)))) (fun _ _ _ _ _ => e_var (i := 2))))) (b_cons (s_raise rfl tk T.x_InvalidTable) (b_nil)) (b_nil)) (b_cons (s_retV (i := 1)) (b_nil)))
/-! ### check_table -/
theorem sc_check_table : FnScope ["n", "sets", "chosen"] ["n", "sets"] (defScope (topS 9)) := ⟨rfl, rfl, rfl, by decide +kernel, rfl, by decide +kernel, by decide +kernel⟩
def st_check_table : M Fl := sq (mIfS (mNot (tTru (look (eFn fn_is_number_of_things (aCons (eVar 0) (ret [])))))) (sq (mRaise "InvalidTable") (ret .nx)) (ret .nx)) (sq (mIfS (blOf (eOp cGt (look (eCall gLen (kCons (pVar 1) (ret [])))) (look (eC (.int 40))))) (sq (mRaise "InvalidTable") (ret .nx)) (ret .nx)) (sq (bnd (mSeq (eVar 1)) (loop (tName 2) (sq (bnd (eFn fn_check_set (aCons (eVar 0) (aCons (eVar 2) (ret [])))) fun _ => ret .nx) (ret .nx)))) (sq (mRetV 1) (ret .nx))))
def fn_check_table : Fn := runF 3 2 st_check_table
theorem ok_check_table (T : Top w K mg cm) (F : Fun K "check_table" "check_table" (topS 9) f fd) (hg : mg "check_table" = some (.ref f)) (hb : Binds K fd ["n", "sets"] []) (c_is_number_of_things : Cal P w K mg base cm 1 "is_number_of_things" fn_is_number_of_things) (c_check_set : Cal P w K mg base cm 2 "check_set" fn_check_set) : Cal P w K mg base cm 3 "check_table" fn_check_table := by
  refine def_ok (k := 2) (m := st_check_table) F sc_check_table hg hb ?_ (by decide)
  intro cdv A outer s H E hr
  have tk : L2.Takes (cxOf (L2.CX P w) P w K mg base ["n", "sets", "chosen"] "check_table" (defScope (topS 9)) f cdv A outer s H E) (fun cls d _ H => E cls d H) := takes_of rfl rfl rfl rfl
  have hp : PassesOwn (model P w) (cxOf (L2.CX P w) P w K mg base ["n", "sets", "chosen"] "check_table" (defScope (topS 9)) f cdv A outer s H E).A (cxOf (L2.CX P w) P w K mg base ["n", "sets", "chosen"] "check_table" (defScope (topS 9)) f cdv A outer s H E).env (cxOf (L2.CX P w) P w K mg base ["n", "sets", "chosen"] "check_table" (defScope (topS 9)) f cdv A outer s H E).xe := passes_of rfl
  have c_is_number_of_things : Cal P w K mg base cm 2 "is_number_of_things" fn_is_number_of_things := c_is_number_of_things.mono (by omega)
  have c_check_set : Cal P w K mg base cm 2 "check_set" fn_check_set := c_check_set.mono (by omega)
  exact b_cons (s_if (t_not (t_val (SE.look (e_call c_is_number_of_things hr tk (a_cons (e_var (i := 0)) (a_nil)))))) (b_cons (s_raise rfl tk T.x_InvalidTable) (b_nil)) (b_nil)) (b_cons (s_if (t_cmp o_gt (SE.look (e_callB c_len T.b_len PySem.boot_len (k_cons (p_var (i := 1)) (k_nil)))) (SE.look (e_gint T.i_MOST_SETS.choose_spec))) (b_cons (s_raise rfl tk T.x_InvalidTable) (b_nil)) (b_nil)) (b_cons (s_for hp rfl (i_seq (e_var (i := 1))) (g_name (i := 2) sc_check_table.nd) (b_cons (s_expr (e_call c_check_set hr tk (a_cons (e_var (i := 0)) (a_cons (e_var (i := 2)) (a_nil))))) (b_nil))) (b_cons (s_retV (i := 1)) (b_nil))))
/-! ### check_order -/
theorem sc_check_order : FnScope ["n", "order"] ["n", "order"] (defScope (topS 10)) := ⟨rfl, rfl, rfl, by decide +kernel, rfl, by decide +kernel, by decide +kernel⟩
def st_check_order : M Fl := sq (mIfS (mNot (tTru (look (eFn fn_is_number_of_things (aCons (eVar 0) (ret [])))))) (sq (mRaise "InvalidOrder") (ret .nx)) (ret .nx)) (sq (mIfS (blOf (eOp (gEq true) (look (eCall gSorted (kCons (pVar 1) (ret [])))) (look (mLstRg (mRg1 (pVar 0)))))) (sq (mRaise "InvalidOrder") (ret .nx)) (ret .nx)) (sq (mRetV 1) (ret .nx)))
def fn_check_order : Fn := runF 2 2 st_check_order
theorem ok_check_order (T : Top w K mg cm) (F : Fun K "check_order" "check_order" (topS 10) f fd) (hg : mg "check_order" = some (.ref f)) (hb : Binds K fd ["n", "order"] []) (c_is_number_of_things : Cal P w K mg base cm 1 "is_number_of_things" fn_is_number_of_things) : Cal P w K mg base cm 2 "check_order" fn_check_order := by
  refine def_ok (k := 1) (m := st_check_order) F sc_check_order hg hb ?_ (by decide)
  intro cdv A outer s H E hr
  have tk : L2.Takes (cxOf (L2.CX P w) P w K mg base ["n", "order"] "check_order" (defScope (topS 10)) f cdv A outer s H E) (fun cls d _ H => E cls d H) := takes_of rfl rfl rfl rfl
  have hp : PassesOwn (model P w) (cxOf (L2.CX P w) P w K mg base ["n", "order"] "check_order" (defScope (topS 10)) f cdv A outer s H E).A (cxOf (L2.CX P w) P w K mg base ["n", "order"] "check_order" (defScope (topS 10)) f cdv A outer s H E).env (cxOf (L2.CX P w) P w K mg base ["n", "order"] "check_order" (defScope (topS 10)) f cdv A outer s H E).xe := passes_of rfl
  have c_is_number_of_things : Cal P w K mg base cm 1 "is_number_of_things" fn_is_number_of_things := c_is_number_of_things.mono (by omega)
  exact b_cons (s_if (t_not (t_val (SE.look (e_call c_is_number_of_things hr tk (a_cons (e_var (i := 0)) (a_nil)))))) (b_cons (s_raise rfl tk T.x_InvalidOrder) (b_nil)) (b_nil)) (b_cons (s_if (t_cmp (o_ne hr.units) (SE.look (e_callB c_sorted T.b_sorted PyProof.Rows.boot_sorted (k_cons (p_var (i := 1)) (k_nil)))) (SE.look (e_lstRg rfl T.b_list (r_1 T.b_range (p_var (i := 0)))))) (b_cons (s_raise rfl tk T.x_InvalidOrder) (b_nil)) (b_nil)) (b_cons (s_retV (i := 1)) (b_nil)))
/-! ### stretch_of -/
theorem sc_stretch_of : FnScope ["order", "chosen", "places", "thing"] ["order", "chosen"] (defScope (topS 11)) := ⟨rfl, rfl, rfl, by decide +kernel, rfl, by decide +kernel, by decide +kernel⟩
def st_stretch_of : M Fl := sq (bnd (eFn fn_check_order (aCons (eCall gLen (kCons (pVar 0) (ret []))) (aCons (eVar 0) (ret [])))) fun _ => ret .nx) (sq (bnd (eFn fn_check_set (aCons (eCall gLen (kCons (pVar 0) (ret []))) (aCons (eVar 1) (ret [])))) fun _ => ret .nx) (sq (mIfS (mNot (tTru (pVar 1))) (sq (bnd (eC .non) mRet) (ret .nx)) (ret .nx)) (sq (bnd (mComp (mSeq (eVar 1)) (tName 3) (ret true) (mIndex (pVar 0) (pVar 3)) [3]) (setR 2)) (sq (bnd (mTup (aCons (eCall gMin (kCons (pVar 2) (ret []))) (aCons (eCall gMax (kCons (pVar 2) (ret []))) (ret [])))) mRet) (ret .nx)))))
def fn_stretch_of : Fn := runF 4 2 st_stretch_of
theorem ok_stretch_of (T : Top w K mg cm) (F : Fun K "stretch_of" "stretch_of" (topS 11) f fd) (hg : mg "stretch_of" = some (.ref f)) (hb : Binds K fd ["order", "chosen"] []) (c_check_set : Cal P w K mg base cm 2 "check_set" fn_check_set) (c_check_order : Cal P w K mg base cm 2 "check_order" fn_check_order) : Cal P w K mg base cm 3 "stretch_of" fn_stretch_of := by
  refine def_ok (k := 2) (m := st_stretch_of) F sc_stretch_of hg hb ?_ (by decide)
  intro cdv A outer s H E hr
  have tk : L2.Takes (cxOf (L2.CX P w) P w K mg base ["order", "chosen", "places", "thing"] "stretch_of" (defScope (topS 11)) f cdv A outer s H E) (fun cls d _ H => E cls d H) := takes_of rfl rfl rfl rfl
  have hp : PassesOwn (model P w) (cxOf (L2.CX P w) P w K mg base ["order", "chosen", "places", "thing"] "stretch_of" (defScope (topS 11)) f cdv A outer s H E).A (cxOf (L2.CX P w) P w K mg base ["order", "chosen", "places", "thing"] "stretch_of" (defScope (topS 11)) f cdv A outer s H E).env (cxOf (L2.CX P w) P w K mg base ["order", "chosen", "places", "thing"] "stretch_of" (defScope (topS 11)) f cdv A outer s H E).xe := passes_of rfl
  have c_check_set : Cal P w K mg base cm 2 "check_set" fn_check_set := c_check_set.mono (by omega)
  have c_check_order : Cal P w K mg base cm 2 "check_order" fn_check_order := c_check_order.mono (by omega)
  exact b_cons (s_expr (e_call c_check_order hr tk (a_cons (e_callB c_len T.b_len PySem.boot_len (k_cons (p_var (i := 0)) (k_nil))) (a_cons (e_var (i := 0)) (a_nil))))) (b_cons (s_expr (e_call c_check_set hr tk (a_cons (e_callB c_len T.b_len PySem.boot_len (k_cons (p_var (i := 0)) (k_nil))) (a_cons (e_var (i := 1)) (a_nil))))) (b_cons (s_if (t_not (t_val (p_var (i := 1)))) (b_cons (s_ret (e_non)) (b_nil)) (b_nil)) (b_cons (s_setCompV (i := 2) (N := ["order", "chosen", "places", "thing"]) (sc := defScope (topS 11)) (vs := [3]) [("thing", 3)] rfl sc_stretch_of.nd rfl (by decide +kernel) (i_seq (e_var (i := 1))) (fun _ _ _ _ _ => g_name (i := 3) sc_stretch_of.nd) (fun _ _ _ _ _ => ts_nil) (fun _ _ _ _ _ => e_index (p_var (i := 0)) (p_var (i := 3)))) (b_cons (s_ret (e_tup (a_cons (e_callB (c_min rfl) T.b_min PyProof.Rows.boot_min (k_cons (p_var (i := 2)) (k_nil))) (a_cons (e_callB (c_max rfl) T.b_max PyProof.Rows.boot_max (k_cons (p_var (i := 2)) (k_nil))) (a_nil))))) (b_nil)))))
/-! ### spanned -/
theorem sc_spanned : FnScope ["order", "chosen", "stretch", "first", "last"] ["order", "chosen"] (defScope (topS 12)) := ⟨rfl, rfl, rfl, by decide +kernel, rfl, by decide +kernel, by decide +kernel⟩
def st_spanned : M Fl := sq (bnd (eFn fn_stretch_of (aCons (eVar 0) (aCons (eVar 1) (ret [])))) (setR 2)) (sq (mIfS (blOf (eOp (gIs false) (pVar 2) (look (eC .non)))) (sq (bnd (mTup (ret [])) mRet) (ret .nx)) (ret .nx)) (sq (bnd (eVar 2) fun r => mTgt (tNames [3, 4]) r.1) (sq (bnd (eCall gTuple (kCons (look (eCall gSorted (kCons (look (eSl (pVar 0) (soInt (pVar 3)) (soInt (look (eOp gAdd (pVar 4) (look (eC (.int 1)))))))) (ret [])))) (ret []))) mRet) (ret .nx))))
def fn_spanned : Fn := runF 5 2 st_spanned
theorem ok_spanned (T : Top w K mg cm) (F : Fun K "spanned" "spanned" (topS 12) f fd) (hg : mg "spanned" = some (.ref f)) (hb : Binds K fd ["order", "chosen"] []) (c_stretch_of : Cal P w K mg base cm 3 "stretch_of" fn_stretch_of) : Cal P w K mg base cm 4 "spanned" fn_spanned := by
  refine def_ok (k := 3) (m := st_spanned) F sc_spanned hg hb ?_ (by decide)
  intro cdv A outer s H E hr
  have tk : L2.Takes (cxOf (L2.CX P w) P w K mg base ["order", "chosen", "stretch", "first", "last"] "spanned" (defScope (topS 12)) f cdv A outer s H E) (fun cls d _ H => E cls d H) := takes_of rfl rfl rfl rfl
  have hp : PassesOwn (model P w) (cxOf (L2.CX P w) P w K mg base ["order", "chosen", "stretch", "first", "last"] "spanned" (defScope (topS 12)) f cdv A outer s H E).A (cxOf (L2.CX P w) P w K mg base ["order", "chosen", "stretch", "first", "last"] "spanned" (defScope (topS 12)) f cdv A outer s H E).env (cxOf (L2.CX P w) P w K mg base ["order", "chosen", "stretch", "first", "last"] "spanned" (defScope (topS 12)) f cdv A outer s H E).xe := passes_of rfl
  have c_stretch_of : Cal P w K mg base cm 3 "stretch_of" fn_stretch_of := c_stretch_of.mono (by omega)
  exact b_cons (s_set (i := 2) sc_spanned.nd (e_call c_stretch_of hr tk (a_cons (e_var (i := 0)) (a_cons (e_var (i := 1)) (a_nil))))) (b_cons (s_if (t_cmp o_is (p_var (i := 2)) (SE.look (e_non))) (b_cons (s_ret (e_tup (a_nil))) (b_nil)) (b_nil)) (b_cons (s_unpack (e_var (i := 2)) (g_names rfl (gs_cons (i := 3) sc_spanned.nd (gs_cons (i := 4) sc_spanned.nd (gs_nil))))) (b_cons (s_ret (e_callTy c_tuple T.b_tuple PyProof.Rows.boot_tuple (k_cons (SE.look (e_callB c_sorted T.b_sorted PyProof.Rows.boot_sorted (k_cons (SE.look (e_sl (p_var (i := 0)) (so_some (p_var (i := 3))) (so_some (SE.look (e_bin o_addG (p_var (i := 4)) (SE.look (e_int))))))) (k_nil)))) (k_nil)))) (b_nil))))
/-! ### stands_together -/
theorem sc_stands_together : FnScope ["order", "chosen"] ["order", "chosen"] (defScope (topS 13)) := ⟨rfl, rfl, rfl, by decide +kernel, rfl, by decide +kernel, by decide +kernel⟩
def st_stands_together : M Fl := sq (bnd (eOp (gEq false) (look (eCall gLen (kCons (look (eFn fn_spanned (aCons (eVar 0) (aCons (eVar 1) (ret []))))) (ret [])))) (look (eCall gLen (kCons (pVar 1) (ret []))))) mRet) (ret .nx)
def fn_stands_together : Fn := runF 2 2 st_stands_together
theorem ok_stands_together (T : Top w K mg cm) (F : Fun K "stands_together" "stands_together" (topS 13) f fd) (hg : mg "stands_together" = some (.ref f)) (hb : Binds K fd ["order", "chosen"] []) (c_spanned : Cal P w K mg base cm 4 "spanned" fn_spanned) : Cal P w K mg base cm 5 "stands_together" fn_stands_together := by
  refine def_ok (k := 4) (m := st_stands_together) F sc_stands_together hg hb ?_ (by decide)
  intro cdv A outer s H E hr
  have tk : L2.Takes (cxOf (L2.CX P w) P w K mg base ["order", "chosen"] "stands_together" (defScope (topS 13)) f cdv A outer s H E) (fun cls d _ H => E cls d H) := takes_of rfl rfl rfl rfl
  have hp : PassesOwn (model P w) (cxOf (L2.CX P w) P w K mg base ["order", "chosen"] "stands_together" (defScope (topS 13)) f cdv A outer s H E).A (cxOf (L2.CX P w) P w K mg base ["order", "chosen"] "stands_together" (defScope (topS 13)) f cdv A outer s H E).env (cxOf (L2.CX P w) P w K mg base ["order", "chosen"] "stands_together" (defScope (topS 13)) f cdv A outer s H E).xe := passes_of rfl
  have c_spanned : Cal P w K mg base cm 4 "spanned" fn_spanned := c_spanned.mono (by omega)
  exact b_cons (s_ret (e_cmp (o_eq hr.units) (SE.look (e_callB c_len T.b_len PySem.boot_len (k_cons (SE.look (e_call c_spanned hr tk (a_cons (e_var (i := 0)) (a_cons (e_var (i := 1)) (a_nil))))) (k_nil)))) (SE.look (e_callB c_len T.b_len PySem.boot_len (k_cons (p_var (i := 1)) (k_nil)))))) (b_nil)
/-! ### others_of -/
theorem sc_others_of : FnScope ["n", "chosen", "thing"] ["n", "chosen"] (defScope (topS 15)) := ⟨rfl, rfl, rfl, by decide +kernel, rfl, by decide +kernel, by decide +kernel⟩
def st_others_of : M Fl := sq (bnd (eCall gTuple (kCons (look (mComp (mRng1 (kCons (pVar 0) (ret []))) (tName 2) (blOf (eOp (gIn true) (pVar 2) (pVar 1))) (eVar 2) [2])) (ret []))) mRet) (ret .nx)
def fn_others_of : Fn := runF 3 2 st_others_of
theorem ok_others_of (T : Top w K mg cm) (F : Fun K "others_of" "others_of" (topS 15) f fd) (hg : mg "others_of" = some (.ref f)) (hb : Binds K fd ["n", "chosen"] []) : Cal P w K mg base cm 1 "others_of" fn_others_of := by
  refine def_ok (k := 0) (m := st_others_of) F sc_others_of hg hb ?_ (by decide)
  intro cdv A outer s H E hr
  have tk : L2.Takes (cxOf (L2.CX P w) P w K mg base ["n", "chosen", "thing"] "others_of" (defScope (topS 15)) f cdv A outer s H E) (fun cls d _ H => E cls d H) := takes_of rfl rfl rfl rfl
  have hp : PassesOwn (model P w) (cxOf (L2.CX P w) P w K mg base ["n", "chosen", "thing"] "others_of" (defScope (topS 15)) f cdv A outer s H E).A (cxOf (L2.CX P w) P w K mg base ["n", "chosen", "thing"] "others_of" (defScope (topS 15)) f cdv A outer s H E).env (cxOf (L2.CX P w) P w K mg base ["n", "chosen", "thing"] "others_of" (defScope (topS 15)) f cdv A outer s H E).xe := passes_of rfl
  exact b_cons (s_ret (e_callTy c_tuple T.b_tuple PyProof.Rows.boot_tuple (k_cons (SE.look (e_compV (N := ["n", "chosen", "thing"]) (sc := defScope (topS 15)) (vs := [2]) [("thing", 2)] rfl sc_others_of.nd (by decide +kernel) (i_range1 T.b_range (k_cons (p_var (i := 0)) (k_nil))) (fun _ _ _ _ _ => g_name (i := 2) sc_others_of.nd) (fun _ _ _ _ _ => ts_one (t_cmp o_notIn (p_var (i := 2)) (p_var (i := 1)))) (fun _ _ _ _ _ => e_var (i := 2)))) (k_nil)))) (b_nil)
/-! ### check_order_around -/
theorem sc_check_order_around : FnScope ["n", "order"] ["n", "order"] (defScope (topS 16)) := ⟨rfl, rfl, rfl, by decide +kernel, rfl, by decide +kernel, by decide +kernel⟩
def st_check_order_around : M Fl := sq (bnd (eFn fn_check_order (aCons (eVar 0) (aCons (eVar 1) (ret [])))) fun _ => ret .nx) (sq (mIfS (blOf (eOp (gEq true) (look (eOp gIx (pVar 1) (look (eC (.int 0))))) (look (eC (.int 0))))) (sq (mRaise "InvalidOrder") (ret .nx)) (ret .nx)) (sq (mRetV 1) (ret .nx)))
def fn_check_order_around : Fn := runF 2 2 st_check_order_around
theorem ok_check_order_around (T : Top w K mg cm) (F : Fun K "check_order_around" "check_order_around" (topS 16) f fd) (hg : mg "check_order_around" = some (.ref f)) (hb : Binds K fd ["n", "order"] []) (c_check_order : Cal P w K mg base cm 2 "check_order" fn_check_order) : Cal P w K mg base cm 3 "check_order_around" fn_check_order_around := by
  refine def_ok (k := 2) (m := st_check_order_around) F sc_check_order_around hg hb ?_ (by decide)
  intro cdv A outer s H E hr
  have tk : L2.Takes (cxOf (L2.CX P w) P w K mg base ["n", "order"] "check_order_around" (defScope (topS 16)) f cdv A outer s H E) (fun cls d _ H => E cls d H) := takes_of rfl rfl rfl rfl
  have hp : PassesOwn (model P w) (cxOf (L2.CX P w) P w K mg base ["n", "order"] "check_order_around" (defScope (topS 16)) f cdv A outer s H E).A (cxOf (L2.CX P w) P w K mg base ["n", "order"] "check_order_around" (defScope (topS 16)) f cdv A outer s H E).env (cxOf (L2.CX P w) P w K mg base ["n", "order"] "check_order_around" (defScope (topS 16)) f cdv A outer s H E).xe := passes_of rfl
  have c_check_order : Cal P w K mg base cm 2 "check_order" fn_check_order := c_check_order.mono (by omega)
  exact b_cons (s_expr (e_call c_check_order hr tk (a_cons (e_var (i := 0)) (a_cons (e_var (i := 1)) (a_nil))))) (b_cons (s_if (t_cmp (o_ne hr.units) (SE.look (e_ix (p_var (i := 1)) (SE.look (e_int)))) (SE.look (e_int))) (b_cons (s_raise rfl tk T.x_InvalidOrder) (b_nil)) (b_nil)) (b_cons (s_retV (i := 1)) (b_nil)))
/-! ### stands_around -/
theorem sc_stands_around : FnScope ["order", "chosen", "n"] ["order", "chosen"] (defScope (topS 17)) := ⟨rfl, rfl, rfl, by decide +kernel, rfl, by decide +kernel, by decide +kernel⟩
def st_stands_around : M Fl := sq (bnd (eCall gLen (kCons (pVar 0) (ret []))) (setR 2)) (sq (bnd (eFn fn_check_order_around (aCons (eVar 2) (aCons (eVar 0) (ret [])))) fun _ => ret .nx) (sq (bnd (vOr (eFn fn_stands_together (aCons (eVar 0) (aCons (eVar 1) (ret [])))) (eFn fn_stands_together (aCons (eVar 0) (aCons (eFn fn_others_of (aCons (eVar 2) (aCons (eVar 1) (ret [])))) (ret []))))) mRet) (ret .nx)))
def fn_stands_around : Fn := runF 3 2 st_stands_around
theorem ok_stands_around (T : Top w K mg cm) (F : Fun K "stands_around" "stands_around" (topS 17) f fd) (hg : mg "stands_around" = some (.ref f)) (hb : Binds K fd ["order", "chosen"] []) (c_stands_together : Cal P w K mg base cm 5 "stands_together" fn_stands_together) (c_others_of : Cal P w K mg base cm 1 "others_of" fn_others_of) (c_check_order_around : Cal P w K mg base cm 3 "check_order_around" fn_check_order_around) : Cal P w K mg base cm 6 "stands_around" fn_stands_around := by
  refine def_ok (k := 5) (m := st_stands_around) F sc_stands_around hg hb ?_ (by decide)
  intro cdv A outer s H E hr
  have tk : L2.Takes (cxOf (L2.CX P w) P w K mg base ["order", "chosen", "n"] "stands_around" (defScope (topS 17)) f cdv A outer s H E) (fun cls d _ H => E cls d H) := takes_of rfl rfl rfl rfl
  have hp : PassesOwn (model P w) (cxOf (L2.CX P w) P w K mg base ["order", "chosen", "n"] "stands_around" (defScope (topS 17)) f cdv A outer s H E).A (cxOf (L2.CX P w) P w K mg base ["order", "chosen", "n"] "stands_around" (defScope (topS 17)) f cdv A outer s H E).env (cxOf (L2.CX P w) P w K mg base ["order", "chosen", "n"] "stands_around" (defScope (topS 17)) f cdv A outer s H E).xe := passes_of rfl
  have c_stands_together : Cal P w K mg base cm 5 "stands_together" fn_stands_together := c_stands_together.mono (by omega)
  have c_others_of : Cal P w K mg base cm 5 "others_of" fn_others_of := c_others_of.mono (by omega)
  have c_check_order_around : Cal P w K mg base cm 5 "check_order_around" fn_check_order_around := c_check_order_around.mono (by omega)
  exact b_cons (s_set (i := 2) sc_stands_around.nd (e_callB c_len T.b_len PySem.boot_len (k_cons (p_var (i := 0)) (k_nil)))) (b_cons (s_expr (e_call c_check_order_around hr tk (a_cons (e_var (i := 2)) (a_cons (e_var (i := 0)) (a_nil))))) (b_cons (s_ret (e_or (e_call c_stands_together hr tk (a_cons (e_var (i := 0)) (a_cons (e_var (i := 1)) (a_nil)))) (e_one (e_call c_stands_together hr tk (a_cons (e_var (i := 0)) (a_cons (e_call c_others_of hr tk (a_cons (e_var (i := 2)) (a_cons (e_var (i := 1)) (a_nil)))) (a_nil))))))) (b_nil)))
/-! ### opened_table -/
theorem sc_opened_table : FnScope ["n", "sets", "opened", "chosen"] ["n", "sets"] (defScope (topS 18)) := ⟨rfl, rfl, rfl, by decide +kernel, rfl, by decide +kernel, by decide +kernel⟩
def st_opened_table : M Fl := sq (bnd (eFn fn_check_table (aCons (eVar 0) (aCons (eVar 1) (ret [])))) fun _ => ret .nx) (sq (bnd (mComp (mSeq (eVar 1)) (tName 3) (ret true) (mIf (blOf (eOp (gIn false) (look (eC (.int 0))) (pVar 3))) (eFn fn_others_of (aCons (eVar 0) (aCons (eVar 3) (ret [])))) (eVar 3)) [3]) (setR 2)) (sq (bnd (mTup (aStar (eVar 2) (aCons (mTupRg (mRg2 (look (eC (.int 1))) (pVar 0))) (ret [])))) mRet) (ret .nx)))
def fn_opened_table : Fn := runF 4 2 st_opened_table
theorem ok_opened_table (T : Top w K mg cm) (F : Fun K "opened_table" "opened_table" (topS 18) f fd) (hg : mg "opened_table" = some (.ref f)) (hb : Binds K fd ["n", "sets"] []) (c_check_table : Cal P w K mg base cm 3 "check_table" fn_check_table) (c_others_of : Cal P w K mg base cm 1 "others_of" fn_others_of) : Cal P w K mg base cm 4 "opened_table" fn_opened_table := by
  refine def_ok (k := 3) (m := st_opened_table) F sc_opened_table hg hb ?_ (by decide)
  intro cdv A outer s H E hr
  have tk : L2.Takes (cxOf (L2.CX P w) P w K mg base ["n", "sets", "opened", "chosen"] "opened_table" (defScope (topS 18)) f cdv A outer s H E) (fun cls d _ H => E cls d H) := takes_of rfl rfl rfl rfl
  have hp : PassesOwn (model P w) (cxOf (L2.CX P w) P w K mg base ["n", "sets", "opened", "chosen"] "opened_table" (defScope (topS 18)) f cdv A outer s H E).A (cxOf (L2.CX P w) P w K mg base ["n", "sets", "opened", "chosen"] "opened_table" (defScope (topS 18)) f cdv A outer s H E).env (cxOf (L2.CX P w) P w K mg base ["n", "sets", "opened", "chosen"] "opened_table" (defScope (topS 18)) f cdv A outer s H E).xe := passes_of rfl
  have c_check_table : Cal P w K mg base cm 3 "check_table" fn_check_table := c_check_table.mono (by omega)
  have c_others_of : Cal P w K mg base cm 3 "others_of" fn_others_of := c_others_of.mono (by omega)
  exact b_cons (s_expr (e_call c_check_table hr tk (a_cons (e_var (i := 0)) (a_cons (e_var (i := 1)) (a_nil))))) (b_cons (s_setCompV (i := 2) (N := ["n", "sets", "opened", "chosen"]) (sc := defScope (topS 18)) (vs := [3]) [("chosen", 3)] rfl sc_opened_table.nd rfl (by decide +kernel) (i_seq (e_var (i := 1))) (fun _ _ _ _ _ => g_name (i := 3) sc_opened_table.nd) (fun _ _ _ _ _ => ts_nil) (fun _ _ _ _ _ => e_if (t_cmp o_in (SE.look (e_int)) (p_var (i := 3))) (e_call c_others_of hr L2.takes0 (a_cons (e_var (i := 0)) (a_cons (e_var (i := 3)) (a_nil)))) (e_var (i := 3)))) (b_cons (s_ret (e_tup (a_star (e_var (i := 2)) (a_cons (e_tupRg rfl T.b_tuple (r_2 T.b_range (SE.look (e_int)) (p_var (i := 0)))) (a_nil))))) (b_nil)))
/-! ### _law_cell -/
theorem sc__law_cell : FnScope ["script", "k"] ["script", "k"] (defScope (topS 20)) := ⟨rfl, rfl, rfl, by decide +kernel, rfl, by decide +kernel, by decide +kernel⟩
def st__law_cell : M Fl := sq (mIfS (blOf (eOp cLt (pVar 1) (look (eCall gLen (kCons (pVar 0) (ret [])))))) (sq (bnd (eOp gIx (pVar 0) (pVar 1)) mRet) (ret .nx)) (ret .nx)) (sq (bnd (eC (.int 0)) mRet) (ret .nx))
def fn__law_cell : Fn := runF 2 2 st__law_cell
theorem ok__law_cell (T : Top w K mg cm) (F : Fun K "_law_cell" "_law_cell" (topS 20) f fd) (hg : mg "_law_cell" = some (.ref f)) (hb : Binds K fd ["script", "k"] []) : Cal P w K mg base cm 1 "_law_cell" fn__law_cell := by
  refine def_ok (k := 0) (m := st__law_cell) F sc__law_cell hg hb ?_ (by decide)
  intro cdv A outer s H E hr
  have tk : L2.Takes (cxOf (L2.CX P w) P w K mg base ["script", "k"] "_law_cell" (defScope (topS 20)) f cdv A outer s H E) (fun cls d _ H => E cls d H) := takes_of rfl rfl rfl rfl
  have hp : PassesOwn (model P w) (cxOf (L2.CX P w) P w K mg base ["script", "k"] "_law_cell" (defScope (topS 20)) f cdv A outer s H E).A (cxOf (L2.CX P w) P w K mg base ["script", "k"] "_law_cell" (defScope (topS 20)) f cdv A outer s H E).env (cxOf (L2.CX P w) P w K mg base ["script", "k"] "_law_cell" (defScope (topS 20)) f cdv A outer s H E).xe := passes_of rfl
  exact b_cons (s_if (t_cmp o_lt (p_var (i := 1)) (SE.look (e_callB c_len T.b_len PySem.boot_len (k_cons (p_var (i := 0)) (k_nil))))) (b_cons (s_ret (e_ix (p_var (i := 0)) (p_var (i := 1)))) (b_nil)) (b_nil)) (b_cons (s_ret (e_int)) (b_nil))
/-! ### _law_digits -/
theorem sc__law_digits : FnScope ["cell", "sizes", "row", "size"] ["cell", "sizes"] (defScope (topS 21)) := ⟨rfl, rfl, rfl, by decide +kernel, rfl, by decide +kernel, by decide +kernel⟩
def st__law_digits : M Fl := sq (bnd (mLst (ret [])) (setR 2)) (sq (bnd (mSeq (eVar 1)) (loop (tName 3) (sq (mMet 2 (aCons (eOp aMod (look (eCall gInt (kCons (pVar 0) (ret [])))) (pVar 3)) (ret [])) gAppend) (sq (bnd (eOp aDiv (pVar 0) (pVar 3)) (setR 0)) (ret .nx))))) (sq (mRetV 2) (ret .nx)))
def fn__law_digits : Fn := runF 4 2 st__law_digits
theorem ok__law_digits (T : Top w K mg cm) (F : Fun K "_law_digits" "_law_digits" (topS 21) f fd) (hg : mg "_law_digits" = some (.ref f)) (hb : Binds K fd ["cell", "sizes"] []) : Cal P w K mg base cm 1 "_law_digits" fn__law_digits := by
  refine def_ok (k := 0) (m := st__law_digits) F sc__law_digits hg hb ?_ (by decide)
  intro cdv A outer s H E hr
  have tk : L2.Takes (cxOf (L2.CX P w) P w K mg base ["cell", "sizes", "row", "size"] "_law_digits" (defScope (topS 21)) f cdv A outer s H E) (fun cls d _ H => E cls d H) := takes_of rfl rfl rfl rfl
  have hp : PassesOwn (model P w) (cxOf (L2.CX P w) P w K mg base ["cell", "sizes", "row", "size"] "_law_digits" (defScope (topS 21)) f cdv A outer s H E).A (cxOf (L2.CX P w) P w K mg base ["cell", "sizes", "row", "size"] "_law_digits" (defScope (topS 21)) f cdv A outer s H E).env (cxOf (L2.CX P w) P w K mg base ["cell", "sizes", "row", "size"] "_law_digits" (defScope (topS 21)) f cdv A outer s H E).xe := passes_of rfl
  exact b_cons (s_set (i := 2) sc__law_digits.nd (e_lst (a_nil))) (b_cons (s_for hp rfl (i_seq (e_var (i := 1))) (g_name (i := 3) sc__law_digits.nd) (b_cons (s_met (i := 2) PySem.F.slot_list_append PySem.F.type_list_append k_append (a_cons (e_bin o_mod (SE.look (e_callTy c_int T.b_int PyProof.Rows.boot_int (k_cons (p_var (i := 0)) (k_nil)))) (p_var (i := 3))) (a_nil))) (b_cons (s_set (i := 0) sc__law_digits.nd (e_bin o_div (p_var (i := 0)) (p_var (i := 3)))) (b_nil)))) (b_cons (s_retV (i := 2)) (b_nil)))
/-! ### _law_rich -/
theorem sc__law_rich : FnScope ["cell", "low", "high"] ["cell"] (defScope (topS 22)) := ⟨rfl, rfl, rfl, by decide +kernel, rfl, by decide +kernel, by decide +kernel⟩
def st__law_rich : M Fl := sq (mIfS (blOf (eOp cGe (pVar 0) (look (eOp aPow (look (eC (.int 10))) (look (eC (.int 18))))))) (sq (mRetV 0) (ret .nx)) (ret .nx)) (sq (bnd (eOp aMod (look (eCall gInt (kCons (look (eOp gAdd (look (eOp aMul (pVar 0) (look (eC (.int 48271))))) (look (eC (.int 11))))) (ret [])))) (look (eC (.int 2147483647)))) (setR 1)) (sq (bnd (eOp aMod (look (eCall gInt (kCons (look (eOp gAdd (look (eOp gAdd (look (eOp aMul (pVar 1) (look (eC (.int 69621))))) (look (eOp aDiv (pVar 0) (look (eC (.int 7))))))) (look (eC (.int 5))))) (ret [])))) (look (eC (.int 2147483629)))) (setR 2)) (sq (bnd (eOp gAdd (look (eOp aMul (pVar 1) (look (eC (.int 2147483629))))) (pVar 2)) mRet) (ret .nx))))
def fn__law_rich : Fn := runF 3 1 st__law_rich
theorem ok__law_rich (T : Top w K mg cm) (F : Fun K "_law_rich" "_law_rich" (topS 22) f fd) (hg : mg "_law_rich" = some (.ref f)) (hb : Binds K fd ["cell"] []) : Cal P w K mg base cm 1 "_law_rich" fn__law_rich := by
  refine def_ok (k := 0) (m := st__law_rich) F sc__law_rich hg hb ?_ (by decide)
  intro cdv A outer s H E hr
  have tk : L2.Takes (cxOf (L2.CX P w) P w K mg base ["cell", "low", "high"] "_law_rich" (defScope (topS 22)) f cdv A outer s H E) (fun cls d _ H => E cls d H) := takes_of rfl rfl rfl rfl
  have hp : PassesOwn (model P w) (cxOf (L2.CX P w) P w K mg base ["cell", "low", "high"] "_law_rich" (defScope (topS 22)) f cdv A outer s H E).A (cxOf (L2.CX P w) P w K mg base ["cell", "low", "high"] "_law_rich" (defScope (topS 22)) f cdv A outer s H E).env (cxOf (L2.CX P w) P w K mg base ["cell", "low", "high"] "_law_rich" (defScope (topS 22)) f cdv A outer s H E).xe := passes_of rfl
  exact b_cons (s_if (t_cmp o_ge (p_var (i := 0)) (SE.look (e_bin o_pow (SE.look (e_int)) (SE.look (e_int))))) (b_cons (s_retV (i := 0)) (b_nil)) (b_nil)) (b_cons (s_set (i := 1) sc__law_rich.nd (e_bin o_mod (SE.look (e_callTy c_int T.b_int PyProof.Rows.boot_int (k_cons (SE.look (e_bin o_addG (SE.look (e_bin o_mul (p_var (i := 0)) (SE.look (e_int)))) (SE.look (e_int)))) (k_nil)))) (SE.look (e_int)))) (b_cons (s_set (i := 2) sc__law_rich.nd (e_bin o_mod (SE.look (e_callTy c_int T.b_int PyProof.Rows.boot_int (k_cons (SE.look (e_bin o_addG (SE.look (e_bin o_addG (SE.look (e_bin o_mul (p_var (i := 1)) (SE.look (e_int)))) (SE.look (e_bin o_div (p_var (i := 0)) (SE.look (e_int)))))) (SE.look (e_int)))) (k_nil)))) (SE.look (e_int)))) (b_cons (s_ret (e_bin o_addG (SE.look (e_bin o_mul (p_var (i := 1)) (SE.look (e_int)))) (p_var (i := 2)))) (b_nil))))
/-! ### _law_is_bool -/
theorem sc__law_is_bool : FnScope ["actual", "due"] ["actual", "due"] (defScope (topS 23)) := ⟨rfl, rfl, rfl, by decide +kernel, rfl, by decide +kernel, by decide +kernel⟩
def st__law_is_bool : M Fl := sq (bnd (vAnd (mIsi "bool" (pVar 0)) (eOp (gEq false) (pVar 0) (pVar 1))) mRet) (ret .nx)
def fn__law_is_bool : Fn := runF 2 2 st__law_is_bool
theorem ok__law_is_bool (T : Top w K mg cm) (F : Fun K "_law_is_bool" "_law_is_bool" (topS 23) f fd) (hg : mg "_law_is_bool" = some (.ref f)) (hb : Binds K fd ["actual", "due"] []) : Cal P w K mg base cm 1 "_law_is_bool" fn__law_is_bool := by
  refine def_ok (k := 0) (m := st__law_is_bool) F sc__law_is_bool hg hb ?_ (by decide)
  intro cdv A outer s H E hr
  have tk : L2.Takes (cxOf (L2.CX P w) P w K mg base ["actual", "due"] "_law_is_bool" (defScope (topS 23)) f cdv A outer s H E) (fun cls d _ H => E cls d H) := takes_of rfl rfl rfl rfl
  have hp : PassesOwn (model P w) (cxOf (L2.CX P w) P w K mg base ["actual", "due"] "_law_is_bool" (defScope (topS 23)) f cdv A outer s H E).A (cxOf (L2.CX P w) P w K mg base ["actual", "due"] "_law_is_bool" (defScope (topS 23)) f cdv A outer s H E).env (cxOf (L2.CX P w) P w K mg base ["actual", "due"] "_law_is_bool" (defScope (topS 23)) f cdv A outer s H E).xe := passes_of rfl
  exact b_cons (s_ret (e_and (e_isi T.b_isinstance T.b_bool PyProof.Rows.boot_bool (p_var (i := 0))) (e_one (e_cmp (o_eq hr.units) (p_var (i := 0)) (p_var (i := 1)))))) (b_nil)
/-! ### _law_order -/
theorem sc__law_order : FnScope ["cell", "n", "left", "rest", "order", "k", "thing"] ["cell", "n"] (defScope (topS 24)) := ⟨rfl, rfl, rfl, by decide +kernel, rfl, by decide +kernel, by decide +kernel⟩
def st__law_order : M Fl := sq (bnd (mComp (mRng1 (kCons (pVar 1) (ret []))) (tName 6) (ret true) (eVar 6) [6]) (setR 2)) (sq (bnd (eFn fn__law_rich (aCons (eVar 0) (ret []))) (setR 3)) (sq (bnd (mLst (ret [])) (setR 4)) (sq (bnd (mRng1 (kCons (pVar 1) (ret []))) (loop (tName 5) (sq (mAppPop 4 2 (look (eOp aMod (look (eCall gInt (kCons (pVar 3) (ret [])))) (look (eOp aSub (pVar 1) (pVar 5)))))) (sq (bnd (eOp aDiv (pVar 3) (look (eOp aSub (pVar 1) (pVar 5)))) (setR 3)) (sq (mIfS (blOf (eOp (gEq false) (pVar 3) (look (eC (.int 0))))) (sq (bnd (eFn fn__law_rich (aCons (eOp gAdd (look (eOp gAdd (pVar 0) (pVar 5))) (look (eC (.int 1)))) (ret []))) (setR 3)) (ret .nx)) (ret .nx)) (ret .nx)))))) (sq (bnd (eCall gTuple (kCons (pVar 4) (ret []))) mRet) (ret .nx)))))
def fn__law_order : Fn := runF 7 2 st__law_order
theorem ok__law_order (T : Top w K mg cm) (F : Fun K "_law_order" "_law_order" (topS 24) f fd) (hg : mg "_law_order" = some (.ref f)) (hb : Binds K fd ["cell", "n"] []) (c__law_rich : Cal P w K mg base cm 1 "_law_rich" fn__law_rich) : Cal P w K mg base cm 2 "_law_order" fn__law_order := by
  refine def_ok (k := 1) (m := st__law_order) F sc__law_order hg hb ?_ (by decide)
  intro cdv A outer s H E hr
  have tk : L2.Takes (cxOf (L2.CX P w) P w K mg base ["cell", "n", "left", "rest", "order", "k", "thing"] "_law_order" (defScope (topS 24)) f cdv A outer s H E) (fun cls d _ H => E cls d H) := takes_of rfl rfl rfl rfl
  have hp : PassesOwn (model P w) (cxOf (L2.CX P w) P w K mg base ["cell", "n", "left", "rest", "order", "k", "thing"] "_law_order" (defScope (topS 24)) f cdv A outer s H E).A (cxOf (L2.CX P w) P w K mg base ["cell", "n", "left", "rest", "order", "k", "thing"] "_law_order" (defScope (topS 24)) f cdv A outer s H E).env (cxOf (L2.CX P w) P w K mg base ["cell", "n", "left", "rest", "order", "k", "thing"] "_law_order" (defScope (topS 24)) f cdv A outer s H E).xe := passes_of rfl
  have c__law_rich : Cal P w K mg base cm 1 "_law_rich" fn__law_rich := c__law_rich.mono (by omega)
  exact b_cons (s_setCompV (i := 2) (N := ["cell", "n", "left", "rest", "order", "k", "thing"]) (sc := defScope (topS 24)) (vs := [6]) [("thing", 6)] rfl sc__law_order.nd rfl (by decide +kernel) (i_range1 T.b_range (k_cons (p_var (i := 1)) (k_nil))) (fun _ _ _ _ _ => g_name (i := 6) sc__law_order.nd) (fun _ _ _ _ _ => ts_nil) (fun _ _ _ _ _ => e_var (i := 6))) (b_cons (s_set (i := 3) sc__law_order.nd (e_call c__law_rich hr tk (a_cons (e_var (i := 0)) (a_nil)))) (b_cons (s_set (i := 4) sc__law_order.nd (e_lst (a_nil))) (b_cons (s_for hp rfl (i_range1 T.b_range (k_cons (p_var (i := 1)) (k_nil))) (g_name (i := 5) sc__law_order.nd) (b_cons (s_appPop (i := 4) (j := 2) (SE.look (e_bin o_mod (SE.look (e_callTy c_int T.b_int PyProof.Rows.boot_int (k_cons (p_var (i := 3)) (k_nil)))) (SE.look (e_bin o_sub (p_var (i := 1)) (p_var (i := 5))))))) (b_cons (s_set (i := 3) sc__law_order.nd (e_bin o_div (p_var (i := 3)) (SE.look (e_bin o_sub (p_var (i := 1)) (p_var (i := 5)))))) (b_cons (s_if (t_cmp (o_eq hr.units) (p_var (i := 3)) (SE.look (e_int))) (b_cons (s_set (i := 3) sc__law_order.nd (e_call c__law_rich hr tk (a_cons (e_bin o_addG (SE.look (e_bin o_addG (p_var (i := 0)) (p_var (i := 5)))) (SE.look (e_int))) (a_nil)))) (b_nil)) (b_nil)) (b_nil))))) (b_cons (s_ret (e_callTy c_tuple T.b_tuple PyProof.Rows.boot_tuple (k_cons (p_var (i := 4)) (k_nil)))) (b_nil)))))
/-! ### _law_set -/
theorem sc__law_set : FnScope ["cell", "n", "bits", "thing"] ["cell", "n"] (defScope (topS 25)) := ⟨rfl, rfl, rfl, by decide +kernel, rfl, by decide +kernel, by decide +kernel⟩
def st__law_set : M Fl := sq (bnd (eFn fn__law_rich (aCons (eVar 0) (ret []))) (setR 2)) (sq (bnd (eCall gTuple (kCons (look (mComp (mRng1 (kCons (pVar 1) (ret []))) (tName 3) (blOf (eOp (gEq false) (look (eOp aMod (look (eCall gInt (kCons (look (eOp aDiv (look (eOp aDiv (pVar 2) (look (eOp gAdd (pVar 3) (look (eC (.int 1))))))) (look (eOp gAdd (look (eC (.int 1))) (look (eOp aMul (pVar 3) (pVar 3))))))) (ret [])))) (look (eC (.int 2))))) (look (eC (.int 1))))) (eVar 3) [3])) (ret []))) mRet) (ret .nx))
def fn__law_set : Fn := runF 4 2 st__law_set
theorem ok__law_set (T : Top w K mg cm) (F : Fun K "_law_set" "_law_set" (topS 25) f fd) (hg : mg "_law_set" = some (.ref f)) (hb : Binds K fd ["cell", "n"] []) (c__law_rich : Cal P w K mg base cm 1 "_law_rich" fn__law_rich) : Cal P w K mg base cm 2 "_law_set" fn__law_set := by
  refine def_ok (k := 1) (m := st__law_set) F sc__law_set hg hb ?_ (by decide)
  intro cdv A outer s H E hr
  have tk : L2.Takes (cxOf (L2.CX P w) P w K mg base ["cell", "n", "bits", "thing"] "_law_set" (defScope (topS 25)) f cdv A outer s H E) (fun cls d _ H => E cls d H) := takes_of rfl rfl rfl rfl
  have hp : PassesOwn (model P w) (cxOf (L2.CX P w) P w K mg base ["cell", "n", "bits", "thing"] "_law_set" (defScope (topS 25)) f cdv A outer s H E).A (cxOf (L2.CX P w) P w K mg base ["cell", "n", "bits", "thing"] "_law_set" (defScope (topS 25)) f cdv A outer s H E).env (cxOf (L2.CX P w) P w K mg base ["cell", "n", "bits", "thing"] "_law_set" (defScope (topS 25)) f cdv A outer s H E).xe := passes_of rfl
  have c__law_rich : Cal P w K mg base cm 1 "_law_rich" fn__law_rich := c__law_rich.mono (by omega)
  exact b_cons (s_set (i := 2) sc__law_set.nd (e_call c__law_rich hr tk (a_cons (e_var (i := 0)) (a_nil)))) (b_cons (s_ret (e_callTy c_tuple T.b_tuple PyProof.Rows.boot_tuple (k_cons (SE.look (e_compV (N := ["cell", "n", "bits", "thing"]) (sc := defScope (topS 25)) (vs := [3]) [("thing", 3)] rfl sc__law_set.nd (by decide +kernel) (i_range1 T.b_range (k_cons (p_var (i := 1)) (k_nil))) (fun _ _ _ _ _ => g_name (i := 3) sc__law_set.nd) (fun _ _ _ _ _ => ts_one (t_cmp (o_eq hr.units) (SE.look (e_bin o_mod (SE.look (e_callTy c_int T.b_int PyProof.Rows.boot_int (k_cons (SE.look (e_bin o_div (SE.look (e_bin o_div (p_var (i := 2)) (SE.look (e_bin o_addG (p_var (i := 3)) (SE.look (e_int)))))) (SE.look (e_bin o_addG (SE.look (e_int)) (SE.look (e_bin o_mul (p_var (i := 3)) (p_var (i := 3)))))))) (k_nil)))) (SE.look (e_int)))) (SE.look (e_int)))) (fun _ _ _ _ _ => e_var (i := 3)))) (k_nil)))) (b_nil))
/-! ### _law_stretch -/
theorem sc__law_stretch : FnScope ["cell", "order", "d", "low", "high"] ["cell", "order"] (defScope (topS 26)) := ⟨rfl, rfl, rfl, by decide +kernel, rfl, by decide +kernel, by decide +kernel⟩
def st__law_stretch : M Fl := sq (bnd (eFn fn__law_digits (aCons (eFn fn__law_rich (aCons (eVar 0) (ret []))) (aCons (mLst (aCons (eCall gLen (kCons (pVar 1) (ret []))) (aCons (eCall gLen (kCons (pVar 1) (ret []))) (ret [])))) (ret [])))) (setR 2)) (sq (bnd (eCall gMin (kCons (look (eOp gIx (pVar 2) (look (eC (.int 0))))) (kCons (look (eOp gIx (pVar 2) (look (eC (.int 1))))) (ret [])))) (setR 3)) (sq (bnd (eCall gMax (kCons (look (eOp gIx (pVar 2) (look (eC (.int 0))))) (kCons (look (eOp gIx (pVar 2) (look (eC (.int 1))))) (ret [])))) (setR 4)) (sq (bnd (eCall gTuple (kCons (look (eCall gSorted (kCons (look (eSl (pVar 1) (soInt (pVar 3)) (soInt (look (eOp gAdd (pVar 4) (look (eC (.int 1)))))))) (ret [])))) (ret []))) mRet) (ret .nx))))
def fn__law_stretch : Fn := runF 5 2 st__law_stretch
theorem ok__law_stretch (T : Top w K mg cm) (F : Fun K "_law_stretch" "_law_stretch" (topS 26) f fd) (hg : mg "_law_stretch" = some (.ref f)) (hb : Binds K fd ["cell", "order"] []) (c__law_digits : Cal P w K mg base cm 1 "_law_digits" fn__law_digits) (c__law_rich : Cal P w K mg base cm 1 "_law_rich" fn__law_rich) : Cal P w K mg base cm 2 "_law_stretch" fn__law_stretch := by
  refine def_ok (k := 1) (m := st__law_stretch) F sc__law_stretch hg hb ?_ (by decide)
  intro cdv A outer s H E hr
  have tk : L2.Takes (cxOf (L2.CX P w) P w K mg base ["cell", "order", "d", "low", "high"] "_law_stretch" (defScope (topS 26)) f cdv A outer s H E) (fun cls d _ H => E cls d H) := takes_of rfl rfl rfl rfl
  have hp : PassesOwn (model P w) (cxOf (L2.CX P w) P w K mg base ["cell", "order", "d", "low", "high"] "_law_stretch" (defScope (topS 26)) f cdv A outer s H E).A (cxOf (L2.CX P w) P w K mg base ["cell", "order", "d", "low", "high"] "_law_stretch" (defScope (topS 26)) f cdv A outer s H E).env (cxOf (L2.CX P w) P w K mg base ["cell", "order", "d", "low", "high"] "_law_stretch" (defScope (topS 26)) f cdv A outer s H E).xe := passes_of rfl
  have c__law_digits : Cal P w K mg base cm 1 "_law_digits" fn__law_digits := c__law_digits.mono (by omega)
  have c__law_rich : Cal P w K mg base cm 1 "_law_rich" fn__law_rich := c__law_rich.mono (by omega)
  exact b_cons (s_set (i := 2) sc__law_stretch.nd (e_call c__law_digits hr tk (a_cons (e_call c__law_rich hr tk (a_cons (e_var (i := 0)) (a_nil))) (a_cons (e_lst (a_cons (e_callB c_len T.b_len PySem.boot_len (k_cons (p_var (i := 1)) (k_nil))) (a_cons (e_callB c_len T.b_len PySem.boot_len (k_cons (p_var (i := 1)) (k_nil))) (a_nil)))) (a_nil))))) (b_cons (s_set (i := 3) sc__law_stretch.nd (e_callB (c_min rfl) T.b_min PyProof.Rows.boot_min (k_cons (SE.look (e_ix (p_var (i := 2)) (SE.look (e_int)))) (k_cons (SE.look (e_ix (p_var (i := 2)) (SE.look (e_int)))) (k_nil))))) (b_cons (s_set (i := 4) sc__law_stretch.nd (e_callB (c_max rfl) T.b_max PyProof.Rows.boot_max (k_cons (SE.look (e_ix (p_var (i := 2)) (SE.look (e_int)))) (k_cons (SE.look (e_ix (p_var (i := 2)) (SE.look (e_int)))) (k_nil))))) (b_cons (s_ret (e_callTy c_tuple T.b_tuple PyProof.Rows.boot_tuple (k_cons (SE.look (e_callB c_sorted T.b_sorted PyProof.Rows.boot_sorted (k_cons (SE.look (e_sl (p_var (i := 1)) (so_some (p_var (i := 3))) (so_some (SE.look (e_bin o_addG (p_var (i := 4)) (SE.look (e_int))))))) (k_nil)))) (k_nil)))) (b_nil))))
/-! ### _law_table -/
theorem sc__law_table : FnScope ["script", "at", "n", "order", "sets", "k", "cell"] ["script", "at", "n", "order"] (defScope (topS 27)) := ⟨rfl, rfl, rfl, by decide +kernel, rfl, by decide +kernel, by decide +kernel⟩
def st__law_table : M Fl := sq (bnd (mLst (ret [])) (setR 4)) (sq (bnd (mRng1 (kCons (look (eC (.int 8))) (ret []))) (loop (tName 5) (sq (mIfS (blOf (eOp cLt (look (eOp gAdd (pVar 1) (pVar 5))) (look (eCall gLen (kCons (pVar 0) (ret [])))))) (sq (bnd (eOp gAdd (look (eFn fn__law_cell (aCons (eVar 0) (aCons (eOp gAdd (pVar 1) (pVar 5)) (ret []))))) (pVar 5)) (setR 6)) (sq (mIfS (blOf (eOp (gEq false) (look (eOp aMod (look (eCall gInt (kCons (pVar 6) (ret [])))) (look (eC (.int 8))))) (look (eC (.int 3))))) (sq (mMet 4 (aCons (eFn fn__law_set (aCons (eOp aDiv (pVar 6) (look (eC (.int 8)))) (aCons (eVar 2) (ret [])))) (ret [])) gAppend) (ret .nx)) (sq (mMet 4 (aCons (eFn fn__law_stretch (aCons (eOp aDiv (pVar 6) (look (eC (.int 8)))) (aCons (eVar 3) (ret [])))) (ret [])) gAppend) (ret .nx))) (ret .nx))) (ret .nx)) (ret .nx)))) (sq (bnd (eCall gTuple (kCons (pVar 4) (ret []))) mRet) (ret .nx)))
def fn__law_table : Fn := runF 7 4 st__law_table
theorem ok__law_table (T : Top w K mg cm) (F : Fun K "_law_table" "_law_table" (topS 27) f fd) (hg : mg "_law_table" = some (.ref f)) (hb : Binds K fd ["script", "at", "n", "order"] []) (c__law_cell : Cal P w K mg base cm 1 "_law_cell" fn__law_cell) (c__law_set : Cal P w K mg base cm 2 "_law_set" fn__law_set) (c__law_stretch : Cal P w K mg base cm 2 "_law_stretch" fn__law_stretch) : Cal P w K mg base cm 3 "_law_table" fn__law_table := by
  refine def_ok (k := 2) (m := st__law_table) F sc__law_table hg hb ?_ (by decide)
  intro cdv A outer s H E hr
  have tk : L2.Takes (cxOf (L2.CX P w) P w K mg base ["script", "at", "n", "order", "sets", "k", "cell"] "_law_table" (defScope (topS 27)) f cdv A outer s H E) (fun cls d _ H => E cls d H) := takes_of rfl rfl rfl rfl
  have hp : PassesOwn (model P w) (cxOf (L2.CX P w) P w K mg base ["script", "at", "n", "order", "sets", "k", "cell"] "_law_table" (defScope (topS 27)) f cdv A outer s H E).A (cxOf (L2.CX P w) P w K mg base ["script", "at", "n", "order", "sets", "k", "cell"] "_law_table" (defScope (topS 27)) f cdv A outer s H E).env (cxOf (L2.CX P w) P w K mg base ["script", "at", "n", "order", "sets", "k", "cell"] "_law_table" (defScope (topS 27)) f cdv A outer s H E).xe := passes_of rfl
  have c__law_cell : Cal P w K mg base cm 2 "_law_cell" fn__law_cell := c__law_cell.mono (by omega)
  have c__law_set : Cal P w K mg base cm 2 "_law_set" fn__law_set := c__law_set.mono (by omega)
  have c__law_stretch : Cal P w K mg base cm 2 "_law_stretch" fn__law_stretch := c__law_stretch.mono (by omega)
  exact b_cons (s_set (i := 4) sc__law_table.nd (e_lst (a_nil))) (b_cons (s_for hp rfl (i_range1 T.b_range (k_cons (SE.look (e_int)) (k_nil))) (g_name (i := 5) sc__law_table.nd) (b_cons (s_if (t_cmp o_lt (SE.look (e_bin o_addG (p_var (i := 1)) (p_var (i := 5)))) (SE.look (e_callB c_len T.b_len PySem.boot_len (k_cons (p_var (i := 0)) (k_nil))))) (b_cons (s_set (i := 6) sc__law_table.nd (e_bin o_addG (SE.look (e_call c__law_cell hr tk (a_cons (e_var (i := 0)) (a_cons (e_bin o_addG (p_var (i := 1)) (p_var (i := 5))) (a_nil))))) (p_var (i := 5)))) (b_cons (s_if (t_cmp (o_eq hr.units) (SE.look (e_bin o_mod (SE.look (e_callTy c_int T.b_int PyProof.Rows.boot_int (k_cons (p_var (i := 6)) (k_nil)))) (SE.look (e_int)))) (SE.look (e_int))) (b_cons (s_met (i := 4) PySem.F.slot_list_append PySem.F.type_list_append k_append (a_cons (e_call c__law_set hr tk (a_cons (e_bin o_div (p_var (i := 6)) (SE.look (e_int))) (a_cons (e_var (i := 2)) (a_nil)))) (a_nil))) (b_nil)) (b_cons (s_met (i := 4) PySem.F.slot_list_append PySem.F.type_list_append k_append (a_cons (e_call c__law_stretch hr tk (a_cons (e_bin o_div (p_var (i := 6)) (SE.look (e_int))) (a_cons (e_var (i := 3)) (a_nil)))) (a_nil))) (b_nil))) (b_nil))) (b_nil)) (b_nil))) (b_cons (s_ret (e_callTy c_tuple T.b_tuple PyProof.Rows.boot_tuple (k_cons (p_var (i := 4)) (k_nil)))) (b_nil)))
/-! ### _law_is_arc -/
theorem sc__law_is_arc : FnScope ["order", "chosen", "told", "starts", "thing", "place"] ["order", "chosen"] (defScope (topS 28)) := ⟨rfl, rfl, rfl, by decide +kernel, rfl, by decide +kernel, by decide +kernel⟩
def st__law_is_arc : M Fl := sq (bnd (mComp (mSeq (eVar 0)) (tName 4) (ret true) (eCall gInt (kCons (look (eOp (gIn false) (pVar 4) (pVar 1))) (ret []))) [4]) (setR 2)) (sq (bnd (eCall gLen (kCons (look (mComp (mRng1 (kCons (look (eCall gLen (kCons (pVar 2) (ret [])))) (ret []))) (tName 5) (mAnd (blOf (eOp (gEq false) (look (eOp gIx (pVar 2) (pVar 5))) (look (eC (.int 1))))) (blOf (eOp (gEq false) (look (eOp gIx (pVar 2) (look (eOp aSub (pVar 5) (look (eC (.int 1))))))) (look (eC (.int 0)))))) (eVar 5) [5])) (ret []))) (setR 3)) (sq (bnd (eOp cLt (pVar 3) (look (eC (.int 2)))) mRet) (ret .nx)))
def fn__law_is_arc : Fn := runF 6 2 st__law_is_arc
theorem ok__law_is_arc (T : Top w K mg cm) (F : Fun K "_law_is_arc" "_law_is_arc" (topS 28) f fd) (hg : mg "_law_is_arc" = some (.ref f)) (hb : Binds K fd ["order", "chosen"] []) : Cal P w K mg base cm 1 "_law_is_arc" fn__law_is_arc := by
  refine def_ok (k := 0) (m := st__law_is_arc) F sc__law_is_arc hg hb ?_ (by decide)
  intro cdv A outer s H E hr
  have tk : L2.Takes (cxOf (L2.CX P w) P w K mg base ["order", "chosen", "told", "starts", "thing", "place"] "_law_is_arc" (defScope (topS 28)) f cdv A outer s H E) (fun cls d _ H => E cls d H) := takes_of rfl rfl rfl rfl
  have hp : PassesOwn (model P w) (cxOf (L2.CX P w) P w K mg base ["order", "chosen", "told", "starts", "thing", "place"] "_law_is_arc" (defScope (topS 28)) f cdv A outer s H E).A (cxOf (L2.CX P w) P w K mg base ["order", "chosen", "told", "starts", "thing", "place"] "_law_is_arc" (defScope (topS 28)) f cdv A outer s H E).env (cxOf (L2.CX P w) P w K mg base ["order", "chosen", "told", "starts", "thing", "place"] "_law_is_arc" (defScope (topS 28)) f cdv A outer s H E).xe := passes_of rfl
  exact b_cons (s_set (i := 2) sc__law_is_arc.nd (e_compV (N := ["order", "chosen", "told", "starts", "thing", "place"]) (sc := defScope (topS 28)) (vs := [4]) [("thing", 4)] rfl sc__law_is_arc.nd (by decide +kernel) (i_seq (e_var (i := 0))) (fun _ _ _ _ _ => g_name (i := 4) sc__law_is_arc.nd) (fun _ _ _ _ _ => ts_nil) (fun _ _ _ _ _ => e_callTy c_int T.b_int PyProof.Rows.boot_int (k_cons (SE.look (e_cmp o_in (p_var (i := 4)) (p_var (i := 1)))) (k_nil))))) (b_cons (s_set (i := 3) sc__law_is_arc.nd (e_callB c_len T.b_len PySem.boot_len (k_cons (SE.look (e_compV (N := ["order", "chosen", "told", "starts", "thing", "place"]) (sc := defScope (topS 28)) (vs := [5]) [("place", 5)] rfl sc__law_is_arc.nd (by decide +kernel) (i_range1 T.b_range (k_cons (SE.look (e_callB c_len T.b_len PySem.boot_len (k_cons (p_var (i := 2)) (k_nil)))) (k_nil))) (fun _ _ _ _ _ => g_name (i := 5) sc__law_is_arc.nd) (fun _ _ _ _ _ => ts_one (t_w (w_and (t_cmp (o_eq hr.units) (SE.look (e_ix (p_var (i := 2)) (p_var (i := 5)))) (SE.look (e_int))) (w_one (t_cmp (o_eq hr.units) (SE.look (e_ix (p_var (i := 2)) (SE.look (e_bin o_sub (p_var (i := 5)) (SE.look (e_int)))))) (SE.look (e_int))))))) (fun _ _ _ _ _ => e_var (i := 5)))) (k_nil)))) (b_cons (s_ret (e_cmp o_lt (p_var (i := 3)) (SE.look (e_int)))) (b_nil)))
/-! ### law -/
theorem sc_law : FnScope ["script", "d", "n", "drawn", "at", "order", "ring", "start", "chosen", "sets", "told", "due", "one", "thing"] ["script"] (defScope (topS 29)) := ⟨rfl, rfl, rfl, by decide +kernel, rfl, by decide +kernel, by decide +kernel⟩
def is_law : Str → Option Bool := fun d => if d = "UnpartedError" then some false else if d = "InvalidTable" then some false else if d = "InvalidOrder" then some true else none
theorem is_law_ok (T : Top w K mg cm) : ∀ d k, is_law d = some k → PySem.W.exmOne K (cm d) (cm "InvalidOrder") = some k := fun d k h => by
  unfold is_law at h
  split at h
  · rename_i e; subst e; cases h; exact T.m_UnpartedError_InvalidOrder
  split at h
  · rename_i e; subst e; cases h; exact T.m_InvalidTable_InvalidOrder
  split at h
  · rename_i e; subst e; cases h; exact T.m_InvalidOrder_InvalidOrder
  cases h
theorem is_law_one {d : Str} (h : is_law d = some true) : d = "InvalidOrder" := by
  unfold is_law at h
  split at h
  · cases h
  split at h
  · cases h
  split at h
  · assumption
  cases h
def st_law : M Fl := sq (bnd (eFn fn__law_digits (aCons (eFn fn__law_rich (aCons (eFn fn__law_cell (aCons (eVar 0) (aCons (eC (.int 0)) (ret [])))) (ret []))) (aCons (mLst (aCons (eC (.int 24)) (aCons (eC (.int 2)) (aCons (eC (.int 3)) (aCons (eC (.int 24)) (aCons (eC (.int 24)) (ret []))))))) (ret [])))) (setR 1)) (sq (bnd (eOp gAdd (look (eC (.int 1))) (look (eOp gIx (look (mLst (aCons (eOp gIx (pVar 1) (look (eC (.int 0)))) (aCons (eOp aMod (look (eCall gInt (kCons (look (eOp gIx (pVar 1) (look (eC (.int 0))))) (ret [])))) (look (eC (.int 7)))) (ret []))))) (look (eOp gIx (pVar 1) (look (eC (.int 1)))))))) (setR 2)) (sq (bnd (eFn fn__law_order (aCons (eFn fn__law_cell (aCons (eVar 0) (aCons (eC (.int 1)) (ret [])))) (aCons (eVar 2) (ret [])))) (setR 3)) (sq (bnd (mIndex (pVar 3) (look (eC (.int 0)))) (setR 4)) (sq (bnd (eOp gAdd (look (eSl (pVar 3) (soInt (pVar 4)) (ret none))) (look (eSl (pVar 3) (ret none) (soInt (pVar 4))))) (setR 5)) (sq (bnd (eOp gAdd (pVar 5) (pVar 5)) (setR 6)) (sq (bnd (eOp aMod (look (eCall gInt (kCons (look (eOp gIx (pVar 1) (look (eC (.int 3))))) (ret [])))) (pVar 2)) (setR 7)) (sq (bnd (eCall gTuple (kCons (look (eCall gSorted (kCons (look (eSl (pVar 6) (soInt (pVar 7)) (soInt (look (eOp gAdd (pVar 7) (look (eOp aMod (look (eCall gInt (kCons (look (eOp gIx (pVar 1) (look (eC (.int 4))))) (ret [])))) (pVar 2)))))))) (ret [])))) (ret []))) (setR 8)) (sq (mIfS (blOf (eOp (gEq false) (look (eOp gIx (pVar 1) (look (eC (.int 2))))) (look (eC (.int 0))))) (sq (bnd (eFn fn__law_set (aCons (eFn fn__law_cell (aCons (eVar 0) (aCons (eC (.int 2)) (ret [])))) (aCons (eVar 2) (ret [])))) (setR 8)) (ret .nx)) (ret .nx)) (sq (mIfS (mNot (tTru (look (eFn fn__law_is_bool (aCons (eFn fn_stands_around (aCons (eVar 5) (aCons (eVar 8) (ret [])))) (aCons (eFn fn__law_is_arc (aCons (eVar 5) (aCons (eVar 8) (ret [])))) (ret []))))))) (sq (bnd (eC (.bl false)) mRet) (ret .nx)) (ret .nx)) (sq (bnd (eOp gAdd (look (eFn fn__law_table (aCons (eVar 0) (aCons (eC (.int 4)) (aCons (eVar 2) (aCons (eVar 3) (ret []))))))) (look (mTup (aCons (eVar 8) (ret []))))) (setR 9)) (sq (bnd (eFn fn_opened_table (aCons (eVar 2) (aCons (eVar 9) (ret [])))) (setR 10)) (sq (bnd (mLst (ret [])) (setR 11)) (sq (bnd (mSeq (eVar 9)) (loop (tName 12) (sq (mIfS (blOf (eOp (gIn false) (look (eC (.int 0))) (pVar 12))) (sq (mMet 11 (aCons (eCall gTuple (kCons (look (mComp (mRng1 (kCons (pVar 2) (ret []))) (tName 13) (blOf (eOp (gIn true) (pVar 13) (pVar 12))) (eVar 13) [13])) (ret []))) (ret [])) gAppend) (ret .nx)) (sq (mMet 11 (aCons (eVar 12) (ret [])) gAppend) (ret .nx))) (ret .nx)))) (sq (mIfS (blOf (eOp (gEq true) (pVar 10) (look (eOp gAdd (look (eCall gTuple (kCons (pVar 11) (ret [])))) (look (mTup (aCons (eCall gTuple (kCons (look (mComp (mRng2 (kCons (look (eC (.int 1))) (kCons (pVar 2) (ret [])))) (tName 13) (ret true) (eVar 13) [13])) (ret []))) (ret [])))))))) (sq (bnd (eC (.bl false)) mRet) (ret .nx)) (ret .nx)) (sq (mIfS (blOf (eOp (gEq false) (pVar 2) (look (eC (.int 1))))) (sq (bnd (eC (.bl true)) mRet) (ret .nx)) (ret .nx)) (sq (mTryO (sq (bnd (eFn fn_stands_around (aCons (eOp gAdd (look (eSl (pVar 5) (soInt (look (eC (.int 1)))) (ret none))) (look (eSl (pVar 5) (ret none) (soInt (look (eC (.int 1))))))) (aCons (eVar 8) (ret [])))) fun _ => ret .nx) (ret .nx)) is_law (fun _ => sq (bnd (eC (.bl true)) mRet) (ret .nx))) (sq (bnd (eC (.bl false)) mRet) (ret .nx))))))))))))))))))
def fn_law : Fn := runF 14 1 st_law
theorem ok_law (T : Top w K mg cm) (F : Fun K "law" "law" (topS 29) f fd) (c_stands_around : Cal P w K mg base cm 6 "stands_around" fn_stands_around) (c_opened_table : Cal P w K mg base cm 4 "opened_table" fn_opened_table) (c__law_cell : Cal P w K mg base cm 1 "_law_cell" fn__law_cell) (c__law_digits : Cal P w K mg base cm 1 "_law_digits" fn__law_digits) (c__law_rich : Cal P w K mg base cm 1 "_law_rich" fn__law_rich) (c__law_is_bool : Cal P w K mg base cm 1 "_law_is_bool" fn__law_is_bool) (c__law_order : Cal P w K mg base cm 2 "_law_order" fn__law_order) (c__law_set : Cal P w K mg base cm 2 "_law_set" fn__law_set) (c__law_table : Cal P w K mg base cm 3 "_law_table" fn__law_table) (c__law_is_arc : Cal P w K mg base cm 1 "_law_is_arc" fn__law_is_arc) : FnOk P w K mg base (L2.CX P w) 7 f fd ["script"] (spP K cm fn_law) := by
  refine def_fn (k := 6) (m := st_law) F sc_law ?_ (by decide)
  intro cdv A outer s H E hr
  have tk : L2.Takes (cxOf (L2.CX P w) P w K mg base ["script", "d", "n", "drawn", "at", "order", "ring", "start", "chosen", "sets", "told", "due", "one", "thing"] "law" (defScope (topS 29)) f cdv A outer s H E) (fun cls d _ H => E cls d H) := takes_of rfl rfl rfl rfl
  have hp : PassesOwn (model P w) (cxOf (L2.CX P w) P w K mg base ["script", "d", "n", "drawn", "at", "order", "ring", "start", "chosen", "sets", "told", "due", "one", "thing"] "law" (defScope (topS 29)) f cdv A outer s H E).A (cxOf (L2.CX P w) P w K mg base ["script", "d", "n", "drawn", "at", "order", "ring", "start", "chosen", "sets", "told", "due", "one", "thing"] "law" (defScope (topS 29)) f cdv A outer s H E).env (cxOf (L2.CX P w) P w K mg base ["script", "d", "n", "drawn", "at", "order", "ring", "start", "chosen", "sets", "told", "due", "one", "thing"] "law" (defScope (topS 29)) f cdv A outer s H E).xe := passes_of rfl
  have c_stands_around : Cal P w K mg base cm 6 "stands_around" fn_stands_around := c_stands_around.mono (by omega)
  have c_opened_table : Cal P w K mg base cm 6 "opened_table" fn_opened_table := c_opened_table.mono (by omega)
  have c__law_cell : Cal P w K mg base cm 6 "_law_cell" fn__law_cell := c__law_cell.mono (by omega)
  have c__law_digits : Cal P w K mg base cm 6 "_law_digits" fn__law_digits := c__law_digits.mono (by omega)
  have c__law_rich : Cal P w K mg base cm 6 "_law_rich" fn__law_rich := c__law_rich.mono (by omega)
  have c__law_is_bool : Cal P w K mg base cm 6 "_law_is_bool" fn__law_is_bool := c__law_is_bool.mono (by omega)
  have c__law_order : Cal P w K mg base cm 6 "_law_order" fn__law_order := c__law_order.mono (by omega)
  have c__law_set : Cal P w K mg base cm 6 "_law_set" fn__law_set := c__law_set.mono (by omega)
  have c__law_table : Cal P w K mg base cm 6 "_law_table" fn__law_table := c__law_table.mono (by omega)
  have c__law_is_arc : Cal P w K mg base cm 6 "_law_is_arc" fn__law_is_arc := c__law_is_arc.mono (by omega)
  exact b_cons (s_set (i := 1) sc_law.nd (e_call c__law_digits hr tk (a_cons (e_call c__law_rich hr tk (a_cons (e_call c__law_cell hr tk (a_cons (e_var (i := 0)) (a_cons (e_int) (a_nil)))) (a_nil))) (a_cons (e_lst (a_cons (e_int) (a_cons (e_int) (a_cons (e_int) (a_cons (e_int) (a_cons (e_int) (a_nil))))))) (a_nil))))) (b_cons (s_set (i := 2) sc_law.nd (e_bin o_addG (SE.look (e_int)) (SE.look (e_ix (SE.look (e_lst (a_cons (e_ix (p_var (i := 1)) (SE.look (e_int))) (a_cons (e_bin o_mod (SE.look (e_callTy c_int T.b_int PyProof.Rows.boot_int (k_cons (SE.look (e_ix (p_var (i := 1)) (SE.look (e_int)))) (k_nil)))) (SE.look (e_int))) (a_nil))))) (SE.look (e_ix (p_var (i := 1)) (SE.look (e_int)))))))) (b_cons (s_set (i := 3) sc_law.nd (e_call c__law_order hr tk (a_cons (e_call c__law_cell hr tk (a_cons (e_var (i := 0)) (a_cons (e_int) (a_nil)))) (a_cons (e_var (i := 2)) (a_nil))))) (b_cons (s_set (i := 4) sc_law.nd (e_index (p_var (i := 3)) (SE.look (e_int)))) (b_cons (s_set (i := 5) sc_law.nd (e_bin o_addG (SE.look (e_sl (p_var (i := 3)) (so_some (p_var (i := 4))) so_none)) (SE.look (e_sl (p_var (i := 3)) so_none (so_some (p_var (i := 4))))))) (b_cons (s_set (i := 6) sc_law.nd (e_bin o_addG (p_var (i := 5)) (p_var (i := 5)))) (b_cons (s_set (i := 7) sc_law.nd (e_bin o_mod (SE.look (e_callTy c_int T.b_int PyProof.Rows.boot_int (k_cons (SE.look (e_ix (p_var (i := 1)) (SE.look (e_int)))) (k_nil)))) (p_var (i := 2)))) (b_cons (s_set (i := 8) sc_law.nd (e_callTy c_tuple T.b_tuple PyProof.Rows.boot_tuple (k_cons (SE.look (e_callB c_sorted T.b_sorted PyProof.Rows.boot_sorted (k_cons (SE.look (e_sl (p_var (i := 6)) (so_some (p_var (i := 7))) (so_some (SE.look (e_bin o_addG (p_var (i := 7)) (SE.look (e_bin o_mod (SE.look (e_callTy c_int T.b_int PyProof.Rows.boot_int (k_cons (SE.look (e_ix (p_var (i := 1)) (SE.look (e_int)))) (k_nil)))) (p_var (i := 2))))))))) (k_nil)))) (k_nil)))) (b_cons (s_if (t_cmp (o_eq hr.units) (SE.look (e_ix (p_var (i := 1)) (SE.look (e_int)))) (SE.look (e_int))) (b_cons (s_set (i := 8) sc_law.nd (e_call c__law_set hr tk (a_cons (e_call c__law_cell hr tk (a_cons (e_var (i := 0)) (a_cons (e_int) (a_nil)))) (a_cons (e_var (i := 2)) (a_nil))))) (b_nil)) (b_nil)) (b_cons (s_if (t_not (t_val (SE.look (e_call c__law_is_bool hr tk (a_cons (e_call c_stands_around hr tk (a_cons (e_var (i := 5)) (a_cons (e_var (i := 8)) (a_nil)))) (a_cons (e_call c__law_is_arc hr tk (a_cons (e_var (i := 5)) (a_cons (e_var (i := 8)) (a_nil)))) (a_nil))))))) (b_cons (s_ret (e_bl)) (b_nil)) (b_nil)) (b_cons (s_set (i := 9) sc_law.nd (e_bin o_addG (SE.look (e_call c__law_table hr tk (a_cons (e_var (i := 0)) (a_cons (e_int) (a_cons (e_var (i := 2)) (a_cons (e_var (i := 3)) (a_nil))))))) (SE.look (e_tup (a_cons (e_var (i := 8)) (a_nil)))))) (b_cons (s_set (i := 10) sc_law.nd (e_call c_opened_table hr tk (a_cons (e_var (i := 2)) (a_cons (e_var (i := 9)) (a_nil))))) (b_cons (s_set (i := 11) sc_law.nd (e_lst (a_nil))) (b_cons (s_for hp rfl (i_seq (e_var (i := 9))) (g_name (i := 12) sc_law.nd) (b_cons (s_if (t_cmp o_in (SE.look (e_int)) (p_var (i := 12))) (b_cons (s_met (i := 11) PySem.F.slot_list_append PySem.F.type_list_append k_append (a_cons (e_callTy c_tuple T.b_tuple PyProof.Rows.boot_tuple (k_cons (SE.look (e_compV (N := ["script", "d", "n", "drawn", "at", "order", "ring", "start", "chosen", "sets", "told", "due", "one", "thing"]) (sc := defScope (topS 29)) (vs := [13]) [("thing", 13)] rfl sc_law.nd (by decide +kernel) (i_range1 T.b_range (k_cons (p_var (i := 2)) (k_nil))) (fun _ _ _ _ _ => g_name (i := 13) sc_law.nd) (fun _ _ _ _ _ => ts_one (t_cmp o_notIn (p_var (i := 13)) (p_var (i := 12)))) (fun _ _ _ _ _ => e_var (i := 13)))) (k_nil))) (a_nil))) (b_nil)) (b_cons (s_met (i := 11) PySem.F.slot_list_append PySem.F.type_list_append k_append (a_cons (e_var (i := 12)) (a_nil))) (b_nil))) (b_nil))) (b_cons (s_if (t_cmp (o_ne hr.units) (p_var (i := 10)) (SE.look (e_bin o_addG (SE.look (e_callTy c_tuple T.b_tuple PyProof.Rows.boot_tuple (k_cons (p_var (i := 11)) (k_nil)))) (SE.look (e_tup (a_cons (e_callTy c_tuple T.b_tuple PyProof.Rows.boot_tuple (k_cons (SE.look (e_compV (N := ["script", "d", "n", "drawn", "at", "order", "ring", "start", "chosen", "sets", "told", "due", "one", "thing"]) (sc := defScope (topS 29)) (vs := [13]) [("thing", 13)] rfl sc_law.nd (by decide +kernel) (i_range2 T.b_range (k_cons (SE.look (e_int)) (k_cons (p_var (i := 2)) (k_nil)))) (fun _ _ _ _ _ => g_name (i := 13) sc_law.nd) (fun _ _ _ _ _ => ts_nil) (fun _ _ _ _ _ => e_var (i := 13)))) (k_nil))) (a_nil))))))) (b_cons (s_ret (e_bl)) (b_nil)) (b_nil)) (b_cons (s_if (t_cmp (o_eq hr.units) (p_var (i := 2)) (SE.look (e_int))) (b_cons (s_ret (e_bl)) (b_nil)) (b_nil)) (b_cons (s_tryOnly rfl rfl T.N_InvalidOrder.names tk (is_law_ok T) (fun _ _ _ tk hp => b_cons (s_expr (e_call c_stands_around hr tk (a_cons (e_bin o_addG (SE.look (e_sl (p_var (i := 5)) (so_some (SE.look (e_int))) so_none)) (SE.look (e_sl (p_var (i := 5)) so_none (so_some (SE.look (e_int)))))) (a_cons (e_var (i := 8)) (a_nil))))) (b_nil)) (fun _ _ _ _ hd _ _ => b_cons (s_ret (e_bl)) (b_nil))) (b_cons (s_ret (e_bl)) (b_nil))))))))))))))))))
end
def D_is_number_of_things : He.DefD := ⟨("is_number_of_things", none), "is_number_of_things", "is_number_of_things", defArgs (topS 7), defBody (topS 7), defScope (topS 7), [], []⟩
def D_check_set : He.DefD := ⟨("check_set", none), "check_set", "check_set", defArgs (topS 8), defBody (topS 8), defScope (topS 8), [], []⟩
def D_check_table : He.DefD := ⟨("check_table", none), "check_table", "check_table", defArgs (topS 9), defBody (topS 9), defScope (topS 9), [], []⟩
def D_check_order : He.DefD := ⟨("check_order", none), "check_order", "check_order", defArgs (topS 10), defBody (topS 10), defScope (topS 10), [], []⟩
def D_stretch_of : He.DefD := ⟨("stretch_of", none), "stretch_of", "stretch_of", defArgs (topS 11), defBody (topS 11), defScope (topS 11), [], []⟩
def D_spanned : He.DefD := ⟨("spanned", none), "spanned", "spanned", defArgs (topS 12), defBody (topS 12), defScope (topS 12), [], []⟩
def D_stands_together : He.DefD := ⟨("stands_together", none), "stands_together", "stands_together", defArgs (topS 13), defBody (topS 13), defScope (topS 13), [], []⟩
def D_others_of : He.DefD := ⟨("others_of", none), "others_of", "others_of", defArgs (topS 15), defBody (topS 15), defScope (topS 15), [], []⟩
def D_check_order_around : He.DefD := ⟨("check_order_around", none), "check_order_around", "check_order_around", defArgs (topS 16), defBody (topS 16), defScope (topS 16), [], []⟩
def D_stands_around : He.DefD := ⟨("stands_around", none), "stands_around", "stands_around", defArgs (topS 17), defBody (topS 17), defScope (topS 17), [], []⟩
def D_opened_table : He.DefD := ⟨("opened_table", none), "opened_table", "opened_table", defArgs (topS 18), defBody (topS 18), defScope (topS 18), [], []⟩
def D__law_cell : He.DefD := ⟨("_law_cell", none), "_law_cell", "_law_cell", defArgs (topS 20), defBody (topS 20), defScope (topS 20), [], []⟩
def D__law_digits : He.DefD := ⟨("_law_digits", none), "_law_digits", "_law_digits", defArgs (topS 21), defBody (topS 21), defScope (topS 21), [], []⟩
def D__law_rich : He.DefD := ⟨("_law_rich", none), "_law_rich", "_law_rich", defArgs (topS 22), defBody (topS 22), defScope (topS 22), [], []⟩
def D__law_is_bool : He.DefD := ⟨("_law_is_bool", none), "_law_is_bool", "_law_is_bool", defArgs (topS 23), defBody (topS 23), defScope (topS 23), [], []⟩
def D__law_order : He.DefD := ⟨("_law_order", none), "_law_order", "_law_order", defArgs (topS 24), defBody (topS 24), defScope (topS 24), [], []⟩
def D__law_set : He.DefD := ⟨("_law_set", none), "_law_set", "_law_set", defArgs (topS 25), defBody (topS 25), defScope (topS 25), [], []⟩
def D__law_stretch : He.DefD := ⟨("_law_stretch", none), "_law_stretch", "_law_stretch", defArgs (topS 26), defBody (topS 26), defScope (topS 26), [], []⟩
def D__law_table : He.DefD := ⟨("_law_table", none), "_law_table", "_law_table", defArgs (topS 27), defBody (topS 27), defScope (topS 27), [], []⟩
def D__law_is_arc : He.DefD := ⟨("_law_is_arc", none), "_law_is_arc", "_law_is_arc", defArgs (topS 28), defBody (topS 28), defScope (topS 28), [], []⟩
def D_law : He.DefD := ⟨("law", none), "law", "law", defArgs (topS 29), defBody (topS 29), defScope (topS 29), [], []⟩
def fnL : List He.DefD := [D_is_number_of_things, D_check_set, D_check_table, D_check_order, D_stretch_of, D_spanned, D_stands_together, D_others_of, D_check_order_around, D_stands_around, D_opened_table, D__law_cell, D__law_digits, D__law_rich, D__law_is_bool, D__law_order, D__law_set, D__law_stretch, D__law_table, D__law_is_arc, D_law]
def faL : List He.Fa := [.glo "is_number_of_things", .glo "check_set", .glo "check_table", .glo "check_order", .glo "stretch_of", .glo "spanned", .glo "stands_together", .glo "others_of", .glo "check_order_around", .glo "stands_around", .glo "opened_table", .glo "_law_cell", .glo "_law_digits", .glo "_law_rich", .glo "_law_is_bool", .glo "_law_order", .glo "_law_set", .glo "_law_stretch", .glo "_law_table", .glo "_law_is_arc", .glo "law", .free "bool", .free "int", .free "isinstance", .free "len", .free "list", .free "max", .free "min", .free "range", .free "sorted", .free "tuple", .int "MOST_THINGS" 24, .int "MOST_SETS" 40, .exc "InvalidOrder", .exc "InvalidTable", .glo "InvalidOrder", .glo "InvalidTable", .glo "UnpartedError", .exm "InvalidOrder" "InvalidOrder" true, .exm "InvalidTable" "InvalidOrder" false, .exm "UnpartedError" "InvalidOrder" false]
def tsL : List He.Tab := []
def exL (K : Fr) : Bool := true
abbrev R : PySem.W.OpenRow := PySem.W.OpenLaw.row PySem.Challenge.rw_unpartedrows_k14_sets_around_a_ring
abbrev qv : Program := PySem.W.view R.prog [29]
abbrev hk : PySem.W.Hook := He.hookX 5 faL fnL tsL [] exL
def ob (s : PySem.W.SharedT) : He.AlX := He.obsX 5 faL fnL tsL [] exL (HandSHeadRun.getT s)
theorem ob_eq (s : PySem.W.SharedT) : ob s = hk.obs s.abs := He.obsX_eq (HandSHeadRun.getT_eq s)
def looseL : List PySem.Str := ["UnpartedError", "InvalidTable", "InvalidOrder", "MOST_THINGS", "MOST_SETS", "is_number_of_things", "check_set", "check_table", "check_order", "stretch_of", "spanned", "stands_together", "others_of", "check_order_around", "stands_around", "opened_table", "_law_cell", "_law_digits", "_law_rich", "_law_is_bool", "_law_order", "_law_set", "_law_stretch", "_law_table", "_law_is_arc"]
theorem top_of {w : World} {K : Fr} {h : Heap} {mg : Str → Option Value} (X : K.In h) (G : h.Ns mainGlobals mg) (c : He.SaysX faL fnL tsL [] exL w h K) : Top w K mg (cmK K) := by
  have hx := c.more
  unfold exL at hx
  simp only [Bool.and_eq_true] at hx
  exact { b_bool := He.free_ok X G (c.t.d.fact 21 (f := .free "bool") rfl), b_int := He.free_ok X G (c.t.d.fact 22 (f := .free "int") rfl), b_isinstance := He.free_ok X G (c.t.d.fact 23 (f := .free "isinstance") rfl), b_len := He.free_ok X G (c.t.d.fact 24 (f := .free "len") rfl), b_list := He.free_ok X G (c.t.d.fact 25 (f := .free "list") rfl), b_max := He.free_ok X G (c.t.d.fact 26 (f := .free "max") rfl), b_min := He.free_ok X G (c.t.d.fact 27 (f := .free "min") rfl), b_range := He.free_ok X G (c.t.d.fact 28 (f := .free "range") rfl), b_sorted := He.free_ok X G (c.t.d.fact 29 (f := .free "sorted") rfl), b_tuple := He.free_ok X G (c.t.d.fact 30 (f := .free "tuple") rfl), i_MOST_THINGS := He.int_ok X G (c.t.d.fact 31 (f := .int "MOST_THINGS" 24) rfl), i_MOST_SETS := He.int_ok X G (c.t.d.fact 32 (f := .int "MOST_SETS" 40) rfl), x_InvalidOrder := exK_of X G (c.t.d.fact 33 (f := .exc "InvalidOrder") rfl) (c.t.d.fact 35 (f := .glo "InvalidOrder") rfl), x_InvalidTable := exK_of X G (c.t.d.fact 34 (f := .exc "InvalidTable") rfl) (c.t.d.fact 36 (f := .glo "InvalidTable") rfl), N_InvalidOrder := ClN.of X G (c.t.d.fact 35 (f := .glo "InvalidOrder") rfl), m_InvalidOrder_InvalidOrder := He.exm_ok (c.t.d.fact 38 (f := .exm "InvalidOrder" "InvalidOrder" true) rfl), m_InvalidTable_InvalidOrder := He.exm_ok (c.t.d.fact 39 (f := .exm "InvalidTable" "InvalidOrder" false) rfl), m_UnpartedError_InvalidOrder := He.exm_ok (c.t.d.fact 40 (f := .exm "UnpartedError" "InvalidOrder" false) rfl) }
theorem facts {P : Program} {w : World} {K : Fr} {h : Heap} {mg : Str → Option Value} {fa : Addr} (X : K.In h) (G : h.Ns mainGlobals mg) (hfa : mg ("law" : Str) = some (.ref fa)) (c : He.SaysX faL fnL tsL [] exL w h K) :
    ∃ fd : FuncData, (∀ (s : Shared) (v : Value), BindsTo s fd ⟨[v], []⟩ [("script", v)]) ∧ ∀ base : Heap, FnOk P w K mg base (L2.CX P w) 7 fa fd ["script"] (spP K (cmK K) fn_law) := by
  have T := top_of X G c
  obtain ⟨fd_is_number_of_things, F0_is_number_of_things⟩ := c.t.d.def_ 0 (d := D_is_number_of_things) rfl
  have F_is_number_of_things : Fun K "is_number_of_things" "is_number_of_things" (topS 7) (He.ga K "is_number_of_things") fd_is_number_of_things := fun_of F0_is_number_of_things
  have g_is_number_of_things : mg "is_number_of_things" = some (.ref (He.ga K "is_number_of_things")) := He.glo_ok X G (c.t.d.fact 0 (f := .glo "is_number_of_things") rfl)
  have b_is_number_of_things : Binds K fd_is_number_of_things ["n"] [] := F_is_number_of_things.binds (ps := ["n"]) fun _ _ _ _ _ _ us hl => match us, hl with | [_], _ => rfl
  obtain ⟨fd_check_set, F0_check_set⟩ := c.t.d.def_ 1 (d := D_check_set) rfl
  have F_check_set : Fun K "check_set" "check_set" (topS 8) (He.ga K "check_set") fd_check_set := fun_of F0_check_set
  have g_check_set : mg "check_set" = some (.ref (He.ga K "check_set")) := He.glo_ok X G (c.t.d.fact 1 (f := .glo "check_set") rfl)
  have b_check_set : Binds K fd_check_set ["n", "chosen"] [] := F_check_set.binds (ps := ["n", "chosen"]) fun _ _ _ _ _ _ us hl => match us, hl with | [_, _], _ => rfl
  obtain ⟨fd_check_table, F0_check_table⟩ := c.t.d.def_ 2 (d := D_check_table) rfl
  have F_check_table : Fun K "check_table" "check_table" (topS 9) (He.ga K "check_table") fd_check_table := fun_of F0_check_table
  have g_check_table : mg "check_table" = some (.ref (He.ga K "check_table")) := He.glo_ok X G (c.t.d.fact 2 (f := .glo "check_table") rfl)
  have b_check_table : Binds K fd_check_table ["n", "sets"] [] := F_check_table.binds (ps := ["n", "sets"]) fun _ _ _ _ _ _ us hl => match us, hl with | [_, _], _ => rfl
  obtain ⟨fd_check_order, F0_check_order⟩ := c.t.d.def_ 3 (d := D_check_order) rfl
  have F_check_order : Fun K "check_order" "check_order" (topS 10) (He.ga K "check_order") fd_check_order := fun_of F0_check_order
  have g_check_order : mg "check_order" = some (.ref (He.ga K "check_order")) := He.glo_ok X G (c.t.d.fact 3 (f := .glo "check_order") rfl)
  have b_check_order : Binds K fd_check_order ["n", "order"] [] := F_check_order.binds (ps := ["n", "order"]) fun _ _ _ _ _ _ us hl => match us, hl with | [_, _], _ => rfl
  obtain ⟨fd_stretch_of, F0_stretch_of⟩ := c.t.d.def_ 4 (d := D_stretch_of) rfl
  have F_stretch_of : Fun K "stretch_of" "stretch_of" (topS 11) (He.ga K "stretch_of") fd_stretch_of := fun_of F0_stretch_of
  have g_stretch_of : mg "stretch_of" = some (.ref (He.ga K "stretch_of")) := He.glo_ok X G (c.t.d.fact 4 (f := .glo "stretch_of") rfl)
  have b_stretch_of : Binds K fd_stretch_of ["order", "chosen"] [] := F_stretch_of.binds (ps := ["order", "chosen"]) fun _ _ _ _ _ _ us hl => match us, hl with | [_, _], _ => rfl
  obtain ⟨fd_spanned, F0_spanned⟩ := c.t.d.def_ 5 (d := D_spanned) rfl
  have F_spanned : Fun K "spanned" "spanned" (topS 12) (He.ga K "spanned") fd_spanned := fun_of F0_spanned
  have g_spanned : mg "spanned" = some (.ref (He.ga K "spanned")) := He.glo_ok X G (c.t.d.fact 5 (f := .glo "spanned") rfl)
  have b_spanned : Binds K fd_spanned ["order", "chosen"] [] := F_spanned.binds (ps := ["order", "chosen"]) fun _ _ _ _ _ _ us hl => match us, hl with | [_, _], _ => rfl
  obtain ⟨fd_stands_together, F0_stands_together⟩ := c.t.d.def_ 6 (d := D_stands_together) rfl
  have F_stands_together : Fun K "stands_together" "stands_together" (topS 13) (He.ga K "stands_together") fd_stands_together := fun_of F0_stands_together
  have g_stands_together : mg "stands_together" = some (.ref (He.ga K "stands_together")) := He.glo_ok X G (c.t.d.fact 6 (f := .glo "stands_together") rfl)
  have b_stands_together : Binds K fd_stands_together ["order", "chosen"] [] := F_stands_together.binds (ps := ["order", "chosen"]) fun _ _ _ _ _ _ us hl => match us, hl with | [_, _], _ => rfl
  obtain ⟨fd_others_of, F0_others_of⟩ := c.t.d.def_ 7 (d := D_others_of) rfl
  have F_others_of : Fun K "others_of" "others_of" (topS 15) (He.ga K "others_of") fd_others_of := fun_of F0_others_of
  have g_others_of : mg "others_of" = some (.ref (He.ga K "others_of")) := He.glo_ok X G (c.t.d.fact 7 (f := .glo "others_of") rfl)
  have b_others_of : Binds K fd_others_of ["n", "chosen"] [] := F_others_of.binds (ps := ["n", "chosen"]) fun _ _ _ _ _ _ us hl => match us, hl with | [_, _], _ => rfl
  obtain ⟨fd_check_order_around, F0_check_order_around⟩ := c.t.d.def_ 8 (d := D_check_order_around) rfl
  have F_check_order_around : Fun K "check_order_around" "check_order_around" (topS 16) (He.ga K "check_order_around") fd_check_order_around := fun_of F0_check_order_around
  have g_check_order_around : mg "check_order_around" = some (.ref (He.ga K "check_order_around")) := He.glo_ok X G (c.t.d.fact 8 (f := .glo "check_order_around") rfl)
  have b_check_order_around : Binds K fd_check_order_around ["n", "order"] [] := F_check_order_around.binds (ps := ["n", "order"]) fun _ _ _ _ _ _ us hl => match us, hl with | [_, _], _ => rfl
  obtain ⟨fd_stands_around, F0_stands_around⟩ := c.t.d.def_ 9 (d := D_stands_around) rfl
  have F_stands_around : Fun K "stands_around" "stands_around" (topS 17) (He.ga K "stands_around") fd_stands_around := fun_of F0_stands_around
  have g_stands_around : mg "stands_around" = some (.ref (He.ga K "stands_around")) := He.glo_ok X G (c.t.d.fact 9 (f := .glo "stands_around") rfl)
  have b_stands_around : Binds K fd_stands_around ["order", "chosen"] [] := F_stands_around.binds (ps := ["order", "chosen"]) fun _ _ _ _ _ _ us hl => match us, hl with | [_, _], _ => rfl
  obtain ⟨fd_opened_table, F0_opened_table⟩ := c.t.d.def_ 10 (d := D_opened_table) rfl
  have F_opened_table : Fun K "opened_table" "opened_table" (topS 18) (He.ga K "opened_table") fd_opened_table := fun_of F0_opened_table
  have g_opened_table : mg "opened_table" = some (.ref (He.ga K "opened_table")) := He.glo_ok X G (c.t.d.fact 10 (f := .glo "opened_table") rfl)
  have b_opened_table : Binds K fd_opened_table ["n", "sets"] [] := F_opened_table.binds (ps := ["n", "sets"]) fun _ _ _ _ _ _ us hl => match us, hl with | [_, _], _ => rfl
  obtain ⟨fd__law_cell, F0__law_cell⟩ := c.t.d.def_ 11 (d := D__law_cell) rfl
  have F__law_cell : Fun K "_law_cell" "_law_cell" (topS 20) (He.ga K "_law_cell") fd__law_cell := fun_of F0__law_cell
  have g__law_cell : mg "_law_cell" = some (.ref (He.ga K "_law_cell")) := He.glo_ok X G (c.t.d.fact 11 (f := .glo "_law_cell") rfl)
  have b__law_cell : Binds K fd__law_cell ["script", "k"] [] := F__law_cell.binds (ps := ["script", "k"]) fun _ _ _ _ _ _ us hl => match us, hl with | [_, _], _ => rfl
  obtain ⟨fd__law_digits, F0__law_digits⟩ := c.t.d.def_ 12 (d := D__law_digits) rfl
  have F__law_digits : Fun K "_law_digits" "_law_digits" (topS 21) (He.ga K "_law_digits") fd__law_digits := fun_of F0__law_digits
  have g__law_digits : mg "_law_digits" = some (.ref (He.ga K "_law_digits")) := He.glo_ok X G (c.t.d.fact 12 (f := .glo "_law_digits") rfl)
  have b__law_digits : Binds K fd__law_digits ["cell", "sizes"] [] := F__law_digits.binds (ps := ["cell", "sizes"]) fun _ _ _ _ _ _ us hl => match us, hl with | [_, _], _ => rfl
  obtain ⟨fd__law_rich, F0__law_rich⟩ := c.t.d.def_ 13 (d := D__law_rich) rfl
  have F__law_rich : Fun K "_law_rich" "_law_rich" (topS 22) (He.ga K "_law_rich") fd__law_rich := fun_of F0__law_rich
  have g__law_rich : mg "_law_rich" = some (.ref (He.ga K "_law_rich")) := He.glo_ok X G (c.t.d.fact 13 (f := .glo "_law_rich") rfl)
  have b__law_rich : Binds K fd__law_rich ["cell"] [] := F__law_rich.binds (ps := ["cell"]) fun _ _ _ _ _ _ us hl => match us, hl with | [_], _ => rfl
  obtain ⟨fd__law_is_bool, F0__law_is_bool⟩ := c.t.d.def_ 14 (d := D__law_is_bool) rfl
  have F__law_is_bool : Fun K "_law_is_bool" "_law_is_bool" (topS 23) (He.ga K "_law_is_bool") fd__law_is_bool := fun_of F0__law_is_bool
  have g__law_is_bool : mg "_law_is_bool" = some (.ref (He.ga K "_law_is_bool")) := He.glo_ok X G (c.t.d.fact 14 (f := .glo "_law_is_bool") rfl)
  have b__law_is_bool : Binds K fd__law_is_bool ["actual", "due"] [] := F__law_is_bool.binds (ps := ["actual", "due"]) fun _ _ _ _ _ _ us hl => match us, hl with | [_, _], _ => rfl
  obtain ⟨fd__law_order, F0__law_order⟩ := c.t.d.def_ 15 (d := D__law_order) rfl
  have F__law_order : Fun K "_law_order" "_law_order" (topS 24) (He.ga K "_law_order") fd__law_order := fun_of F0__law_order
  have g__law_order : mg "_law_order" = some (.ref (He.ga K "_law_order")) := He.glo_ok X G (c.t.d.fact 15 (f := .glo "_law_order") rfl)
  have b__law_order : Binds K fd__law_order ["cell", "n"] [] := F__law_order.binds (ps := ["cell", "n"]) fun _ _ _ _ _ _ us hl => match us, hl with | [_, _], _ => rfl
  obtain ⟨fd__law_set, F0__law_set⟩ := c.t.d.def_ 16 (d := D__law_set) rfl
  have F__law_set : Fun K "_law_set" "_law_set" (topS 25) (He.ga K "_law_set") fd__law_set := fun_of F0__law_set
  have g__law_set : mg "_law_set" = some (.ref (He.ga K "_law_set")) := He.glo_ok X G (c.t.d.fact 16 (f := .glo "_law_set") rfl)
  have b__law_set : Binds K fd__law_set ["cell", "n"] [] := F__law_set.binds (ps := ["cell", "n"]) fun _ _ _ _ _ _ us hl => match us, hl with | [_, _], _ => rfl
  obtain ⟨fd__law_stretch, F0__law_stretch⟩ := c.t.d.def_ 17 (d := D__law_stretch) rfl
  have F__law_stretch : Fun K "_law_stretch" "_law_stretch" (topS 26) (He.ga K "_law_stretch") fd__law_stretch := fun_of F0__law_stretch
  have g__law_stretch : mg "_law_stretch" = some (.ref (He.ga K "_law_stretch")) := He.glo_ok X G (c.t.d.fact 17 (f := .glo "_law_stretch") rfl)
  have b__law_stretch : Binds K fd__law_stretch ["cell", "order"] [] := F__law_stretch.binds (ps := ["cell", "order"]) fun _ _ _ _ _ _ us hl => match us, hl with | [_, _], _ => rfl
  obtain ⟨fd__law_table, F0__law_table⟩ := c.t.d.def_ 18 (d := D__law_table) rfl
  have F__law_table : Fun K "_law_table" "_law_table" (topS 27) (He.ga K "_law_table") fd__law_table := fun_of F0__law_table
  have g__law_table : mg "_law_table" = some (.ref (He.ga K "_law_table")) := He.glo_ok X G (c.t.d.fact 18 (f := .glo "_law_table") rfl)
  have b__law_table : Binds K fd__law_table ["script", "at", "n", "order"] [] := F__law_table.binds (ps := ["script", "at", "n", "order"]) fun _ _ _ _ _ _ us hl => match us, hl with | [_, _, _, _], _ => rfl
  obtain ⟨fd__law_is_arc, F0__law_is_arc⟩ := c.t.d.def_ 19 (d := D__law_is_arc) rfl
  have F__law_is_arc : Fun K "_law_is_arc" "_law_is_arc" (topS 28) (He.ga K "_law_is_arc") fd__law_is_arc := fun_of F0__law_is_arc
  have g__law_is_arc : mg "_law_is_arc" = some (.ref (He.ga K "_law_is_arc")) := He.glo_ok X G (c.t.d.fact 19 (f := .glo "_law_is_arc") rfl)
  have b__law_is_arc : Binds K fd__law_is_arc ["order", "chosen"] [] := F__law_is_arc.binds (ps := ["order", "chosen"]) fun _ _ _ _ _ _ us hl => match us, hl with | [_, _], _ => rfl
  obtain ⟨fd_law, F0_law⟩ := c.t.d.def_ 20 (d := D_law) rfl
  have F_law : Fun K "law" "law" (topS 29) (He.ga K "law") fd_law := fun_of F0_law
  have g_law : mg "law" = some (.ref (He.ga K "law")) := He.glo_ok X G (c.t.d.fact 20 (f := .glo "law") rfl)
  have b_law : Binds K fd_law ["script"] [] := F_law.binds (ps := ["script"]) fun _ _ _ _ _ _ us hl => match us, hl with | [_], _ => rfl
  have e := hfa.symm.trans g_law
  cases e
  refine ⟨fd_law, fun s v => FunD.bindsA (ps := ["script"]) F0_law (fun _ _ _ _ _ _ us hl => match us, hl with | [_], _ => rfl) s [v] rfl, fun base => ?_⟩
  have c_is_number_of_things := ok_is_number_of_things (P := P) (base := base) T F_is_number_of_things g_is_number_of_things b_is_number_of_things
  have c_check_set := ok_check_set (P := P) (base := base) T F_check_set g_check_set b_check_set c_is_number_of_things
  have c_check_table := ok_check_table (P := P) (base := base) T F_check_table g_check_table b_check_table c_is_number_of_things c_check_set
  have c_check_order := ok_check_order (P := P) (base := base) T F_check_order g_check_order b_check_order c_is_number_of_things
  have c_stretch_of := ok_stretch_of (P := P) (base := base) T F_stretch_of g_stretch_of b_stretch_of c_check_set c_check_order
  have c_spanned := ok_spanned (P := P) (base := base) T F_spanned g_spanned b_spanned c_stretch_of
  have c_stands_together := ok_stands_together (P := P) (base := base) T F_stands_together g_stands_together b_stands_together c_spanned
  have c_others_of := ok_others_of (P := P) (base := base) T F_others_of g_others_of b_others_of
  have c_check_order_around := ok_check_order_around (P := P) (base := base) T F_check_order_around g_check_order_around b_check_order_around c_check_order
  have c_stands_around := ok_stands_around (P := P) (base := base) T F_stands_around g_stands_around b_stands_around c_stands_together c_others_of c_check_order_around
  have c_opened_table := ok_opened_table (P := P) (base := base) T F_opened_table g_opened_table b_opened_table c_check_table c_others_of
  have c__law_cell := ok__law_cell (P := P) (base := base) T F__law_cell g__law_cell b__law_cell
  have c__law_digits := ok__law_digits (P := P) (base := base) T F__law_digits g__law_digits b__law_digits
  have c__law_rich := ok__law_rich (P := P) (base := base) T F__law_rich g__law_rich b__law_rich
  have c__law_is_bool := ok__law_is_bool (P := P) (base := base) T F__law_is_bool g__law_is_bool b__law_is_bool
  have c__law_order := ok__law_order (P := P) (base := base) T F__law_order g__law_order b__law_order c__law_rich
  have c__law_set := ok__law_set (P := P) (base := base) T F__law_set g__law_set b__law_set c__law_rich
  have c__law_stretch := ok__law_stretch (P := P) (base := base) T F__law_stretch g__law_stretch b__law_stretch c__law_digits c__law_rich
  have c__law_table := ok__law_table (P := P) (base := base) T F__law_table g__law_table b__law_table c__law_cell c__law_set c__law_stretch
  have c__law_is_arc := ok__law_is_arc (P := P) (base := base) T F__law_is_arc g__law_is_arc b__law_is_arc
  have c_law := ok_law (P := P) (base := base) T F_law c_stands_around c_opened_table c__law_cell c__law_digits c__law_rich c__law_is_bool c__law_order c__law_set c__law_table c__law_is_arc
  exact c_law
end K14

set_option Elab.async false
set_option linter.all false
set_option maxRecDepth 100000
namespace K14
open Pv PySem PySem.Spec L2
open PyProof.Rows hiding St
/-! ### sets and orders -/
theorem num_ok (n : Int) : fn_is_number_of_things [.int n] = .ok (.bl (decide (1 ≤ n ∧ n ≤ 24)), false) := by
  unfold fn_is_number_of_things st_is_number_of_things
  by_cases h : 1 ≤ n <;> by_cases h2 : n ≤ 24 <;> simp [h, h2]
theorem okR_mid {z : Int} (h : -5 ≤ z) (h2 : z ≤ 100) : okR z = true := by
  unfold okR
  simp only [decide_eq_true_eq]
  omega
theorem rng1_ok {m : M (List PV)} {ev ev' : SL} {z : Int} (h : m ev = .ok [.int z] ev') (hz : okR z = true) : mRng1 m ev = .ok (rgP 0 z.toNat) ev' := by
  simp only [mRng1_ap, bnd_ap, h, hz, if_true, ret_ap]
def isSet (n : Int) (l : List Int) : Bool := decide (1 ≤ n ∧ n ≤ 24) && decide (l = (Pv.upTo 0 n.toNat).filter fun i => decide (i ∈ l))
def isOrder (n : Int) (l : List Int) : Bool := decide (1 ≤ n ∧ n ≤ 24) && decide (isort l = Pv.upTo 0 n.toNat)
theorem set_ok (n : Int) (l : List Int) : fn_check_set [.int n, .tup (l.map .int)] = if isSet n l then .ok (.tup (l.map .int), false) else .exc "InvalidTable" := by
  have e0 := num_ok n
  unfold isSet fn_check_set st_check_set
  by_cases c : 1 ≤ n ∧ n ≤ 24
  · have hr := okR_mid (z := n) (by omega) (by omega)
    have hc : compr (tName 2) (blOf (eOp (gIn false) (pVar 2) (pVar 1))) (eVar 2) [2] [] (rgP 0 n.toNat) [.val (.int n), .val (.tup (l.map .int)), .no] = .ok (((Pv.upTo 0 n.toNat).filter fun i => decide (i ∈ l)).map .int) [.val (.int n), .val (.tup (l.map .int)), .no] := by
      rw [rgP_eq]
      exact compr_int _ _ rfl (fun i _ => by simp [gIn_tup]) (by rw [upTo_len, SZ]; omega)
    have h2 : mComp (mRng1 (kCons (pVar 0) (Pv.ret []))) (tName 2) (blOf (eOp (gIn false) (pVar 2) (pVar 1))) (eVar 2) [2] [.val (.int n), .val (.tup (l.map .int)), .no] = .ok (.lst (((Pv.upTo 0 n.toNat).filter fun i => decide (i ∈ l)).map .int), true) [.val (.int n), .val (.tup (l.map .int)), .no] :=
      comp_ok (rng1_ok (ev' := [.val (.int n), .val (.tup (l.map .int)), .no]) (by simp) hr) hc
    by_cases q : l = (Pv.upTo 0 n.toNat).filter fun i => decide (i ∈ l)
    · rw [if_pos (by rw [decide_eq_true c, decide_eq_true q]; rfl)]
      have e := gEq_lstI true l ((Pv.upTo 0 n.toNat).filter fun i => decide (i ∈ l))
      rw [decide_eq_true q] at e
      simp [-mComp_ap, e0, c, h2, e]
    · rw [if_neg (by rw [decide_eq_true c, decide_eq_false q]; simp)]
      have e := gEq_lstI true l ((Pv.upTo 0 n.toNat).filter fun i => decide (i ∈ l))
      rw [decide_eq_false q] at e
      simp [-mComp_ap, e0, c, h2, e]
  · rw [if_neg (by rw [decide_eq_false c]; simp)]
    simp [e0, c]
theorem order_is (n : Int) (l : List Int) : fn_check_order [.int n, .tup (l.map .int)] = if isOrder n l then .ok (.tup (l.map .int), false) else .exc "InvalidOrder" := by
  have e0 := num_ok n
  unfold isOrder fn_check_order st_check_order
  by_cases c : 1 ≤ n ∧ n ≤ 24
  · have e1 : okRg (0, n) = true := by
      unfold okRg okR
      simp only [Bool.and_eq_true, decide_eq_true_eq]
      have : SZ = 16777216 := rfl
      omega
    have e := gEq_lstI true (isort l) (Pv.upTo 0 n.toNat)
    by_cases q : isort l = Pv.upTo 0 n.toNat
    · rw [if_pos (by rw [decide_eq_true c, decide_eq_true q]; rfl)]
      rw [decide_eq_true q] at e
      simp [e0, c, e1, rgP_eq, e]
    · rw [if_neg (by rw [decide_eq_true c, decide_eq_false q]; simp)]
      rw [decide_eq_false q] at e
      simp [e0, c, e1, rgP_eq, e]
  · rw [if_neg (by rw [decide_eq_false c]; simp)]
    simp [e0, c]
theorem compr_mapI {v : Nat} {me : M RV} {g : Int → Int} {fr : Bool} (l : List Int) (ev : SL) (h : ev[v]? = some .no) (hm : ∀ i ∈ l, me (ev.set v (.val (.int i))) = .ok (.int (g i), fr) (ev.set v (.val (.int i)))) (hz : l.length ≤ SZ) : compr (tName v) (Pv.ret true) me [v] [] (l.map .int) ev = .ok ((l.map g).map .int) ev := by
  have fm : ∀ l : List Int, (l.map PV.int).filterMap (fun p => match p with
    | .int i => some (PV.int (g i))
    | _ => none) = (l.map g).map .int := by
    intro l
    induction l with
    | nil => rfl
    | cons i l ih => rw [List.map_cons, List.filterMap_cons, ih]; rfl
  rw [compr_fm (f := fun p => match p with
    | .int i => some (PV.int (g i))
    | _ => none) (l.map .int) [] ev h (fun p hp => by
      obtain ⟨i, hi, rfl⟩ := List.mem_map.mp hp
      exact turn_map h (hm i hi)) (by rw [List.length_nil, List.length_map]; omega), List.nil_append, fm]
/-! ### where a set stands in an order -/
def places (o l : List Int) : List Int := l.map fun t => ((o.idxOf t : Nat) : Int)
theorem set_mem {n : Int} {l : List Int} (h : isSet n l = true) {t : Int} (ht : t ∈ l) : t ∈ Pv.upTo 0 n.toNat := by
  unfold isSet at h
  simp only [Bool.and_eq_true, decide_eq_true_eq] at h
  rw [h.2] at ht
  exact (List.mem_filter.mp ht).1
theorem order_perm {n : Int} {l : List Int} (h : isOrder n l = true) : l.Perm (Pv.upTo 0 n.toNat) := by
  unfold isOrder at h
  simp only [Bool.and_eq_true, decide_eq_true_eq] at h
  rw [← h.2]
  exact (isort_perm l).symm
theorem set_len {n : Int} {l : List Int} (h : isSet n l = true) : l.length ≤ 24 := by
  have h' := h
  unfold isSet at h'
  simp only [Bool.and_eq_true, decide_eq_true_eq] at h'
  have := List.length_filter_le (fun i => decide (i ∈ l)) (Pv.upTo 0 n.toNat)
  rw [← h'.2, upTo_len] at this
  omega
theorem gMin_l (p : Int) (ps : List Int) : gMin [.lst ((p :: ps).map .int)] = some (.int (lmin p ps), false) := by
  show (match intsP ((p :: ps).map .int) with
    | some (m :: r) => vI (lmin m r)
    | _ => none) = _
  rw [intsP_map]
  rfl
theorem gMax_l (p : Int) (ps : List Int) : gMax [.lst ((p :: ps).map .int)] = some (.int (lmax p ps), false) := by
  show (match intsP ((p :: ps).map .int) with
    | some (m :: r) => vI (lmax m r)
    | _ => none) = _
  rw [intsP_map]
  rfl
def stretchV : List Int → PV
  | [] => .non
  | p :: ps => .tup [.int (lmin p ps), .int (lmax p ps)]
theorem stretch_ok (o l : List Int) (ho : isOrder o.length o = true) (hl : isSet o.length l = true) : fn_stretch_of [.tup (o.map .int), .tup (l.map .int)] = .ok (stretchV (places o l), false) := by
  have e1 := order_is o.length o
  have e2 := set_ok o.length l
  rw [if_pos ho] at e1
  rw [if_pos hl] at e2
  have hlen := set_len hl
  have mem : ∀ t ∈ l, t ∈ o := fun t ht => (order_perm ho).mem_iff.mpr (set_mem hl ht)
  have hc : compr (tName 3) (Pv.ret true) (mIndex (pVar 0) (pVar 3)) [3] [] (l.map .int) [.val (.tup (o.map .int)), .val (.tup (l.map .int)), .no, .no] = .ok ((places o l).map .int) [.val (.tup (o.map .int)), .val (.tup (l.map .int)), .no, .no] :=
    compr_mapI (fr := false) l _ rfl (fun t ht => by
      have hm := mem t ht
      have : gIndexT (.tup (o.map .int)) (.int t) = some (.int (o.idxOf t : Nat), false) := by
        unfold gIndexT
        simp only [intsP_map, if_pos hm]
        rfl
      unfold mIndex
      simp [this]) (by rw [SZ]; omega)
  have h3 : mComp (mSeq (eVar 1)) (tName 3) (Pv.ret true) (mIndex (pVar 0) (pVar 3)) [3] [.val (.tup (o.map .int)), .val (.tup (l.map .int)), .no, .no] = .ok (.lst ((places o l).map .int), true) [.val (.tup (o.map .int)), .val (.tup (l.map .int)), .no, .no] :=
    comp_ok (ps := l.map .int) (ev1 := [.val (.tup (o.map .int)), .val (.tup (l.map .int)), .no, .no]) (by simp) hc
  have a1 : ∀ F : Fn, F [.int o.length, .tup (o.map .int)] = .ok (.tup (o.map .int), false) → bnd (eFn F (aCons (eCall gLen (kCons (pVar 0) (Pv.ret []))) (aCons (eVar 0) (Pv.ret [])))) (fun _ => Pv.ret Fl.nx) [.val (.tup (o.map .int)), .val (.tup (l.map .int)), .no, .no] = .ok .nx [.val (.tup (o.map .int)), .val (.tup (l.map .int)), .no, .no] := fun F h => by simp [h]
  have a2 : ∀ F : Fn, F [.int o.length, .tup (l.map .int)] = .ok (.tup (l.map .int), false) → bnd (eFn F (aCons (eCall gLen (kCons (pVar 0) (Pv.ret []))) (aCons (eVar 1) (Pv.ret [])))) (fun _ => Pv.ret Fl.nx) [.val (.tup (o.map .int)), .val (.tup (l.map .int)), .no, .no] = .ok .nx [.val (.tup (o.map .int)), .val (.tup (l.map .int)), .no, .no] := fun F h => by simp [h]
  unfold fn_stretch_of st_stretch_of
  cases l with
  | nil =>
    refine runF_ok (ev' := [.val (.tup (o.map .int)), .val (.tup ([].map .int)), .no, .no]) ?_ rfl (by decide)
    refine (sq_nx (a1 _ e1)).trans ?_
    refine (sq_nx (a2 _ e2)).trans ?_
    refine sq_rt ?_
    simp [truP, stretchV, places]
  | cons t ts =>
    refine runF_ok (ev' := [.val (.tup (o.map .int)), .val (.tup ((t :: ts).map .int)), .own ((places o (t :: ts)).map .int), .no]) ?_ rfl (by decide)
    refine (sq_nx (a1 _ e1)).trans ?_
    refine (sq_nx (a2 _ e2)).trans ?_
    refine (sq_nx (ev' := [.val (.tup (o.map .int)), .val (.tup ((t :: ts).map .int)), .no, .no]) (by simp [truP])).trans ?_
    refine (sq_nx (ev' := [.val (.tup (o.map .int)), .val (.tup ((t :: ts).map .int)), .own ((places o (t :: ts)).map .int), .no]) ((bnd_ok h3).trans rfl)).trans ?_
    refine sq_rt ?_
    have hp : places o (t :: ts) = ((o.idxOf t : Nat) : Int) :: places o ts := rfl
    rw [hp]
    have m1 := gMin_l ((o.idxOf t : Nat) : Int) (places o ts)
    have m2 := gMax_l ((o.idxOf t : Nat) : Int) (places o ts)
    rw [stretchV]
    generalize (((o.idxOf t : Nat) : Int) :: places o ts).map PV.int = L at *
    simp [m1, m2]
theorem cut_map (xs : List Int) (lo hi : Option Int) : cutP (xs.map PV.int) lo hi = (cutP xs lo hi).map .int := by
  unfold cutP
  rw [List.length_map, ← List.map_drop, ← List.map_take]
def spanL (o : List Int) : List Int → List Int
  | [] => []
  | p :: ps => isort (cutP o (some (lmin p ps)) (some (lmax p ps + 1)))
theorem spanned_ok (o l : List Int) (ho : isOrder o.length o = true) (hl : isSet o.length l = true) : fn_spanned [.tup (o.map .int), .tup (l.map .int)] = .ok (.tup ((spanL o (places o l)).map .int), false) := by
  have e1 := stretch_ok o l ho hl
  have a1 : ∀ (F : Fn) (v : PV), (∀ ps, v ≠ .lst ps) → F [.tup (o.map .int), .tup (l.map .int)] = .ok (v, false) → bnd (eFn F (aCons (eVar 0) (aCons (eVar 1) (Pv.ret [])))) (setR 2) [.val (.tup (o.map .int)), .val (.tup (l.map .int)), .no, .no, .no] = .ok .nx [.val (.tup (o.map .int)), .val (.tup (l.map .int)), .val v, .no, .no] := fun F v ne h => by cases v <;> simp [h] at ne ⊢
  unfold fn_spanned st_spanned
  cases hp : places o l with
  | nil =>
    rw [hp, stretchV] at e1
    refine runF_ok (ev' := [.val (.tup (o.map .int)), .val (.tup (l.map .int)), .val .non, .no, .no]) ?_ rfl (by decide)
    refine (sq_nx (a1 _ .non (fun _ z => nomatch z) e1)).trans ?_
    refine sq_rt ?_
    have hi : gIs false .non .non = some (.bl true, false) := rfl
    rw [if_t (ev' := [.val (.tup (o.map .int)), .val (.tup (l.map .int)), .val .non, .no, .no]) (by simp [hi])]
    simp [spanL]
  | cons p ps =>
    rw [hp, stretchV] at e1
    refine runF_ok (ev' := [.val (.tup (o.map .int)), .val (.tup (l.map .int)), .val (.tup [.int (lmin p ps), .int (lmax p ps)]), .val (.int (lmin p ps)), .val (.int (lmax p ps))]) ?_ rfl (by decide)
    refine (sq_nx (a1 _ (.tup [.int (lmin p ps), .int (lmax p ps)]) (fun _ z => nomatch z) e1)).trans ?_
    have hi : gIs false (.tup [.int (lmin p ps), .int (lmax p ps)]) .non = some (.bl false, false) := rfl
    refine (sq_nx (ev' := [.val (.tup (o.map .int)), .val (.tup (l.map .int)), .val (.tup [.int (lmin p ps), .int (lmax p ps)]), .no, .no]) (by simp [hi])).trans ?_
    refine (sq_nx (ev' := [.val (.tup (o.map .int)), .val (.tup (l.map .int)), .val (.tup [.int (lmin p ps), .int (lmax p ps)]), .val (.int (lmin p ps)), .val (.int (lmax p ps))]) (by simp)).trans ?_
    refine sq_rt ?_
    have ec := cut_map o (some (lmin p ps)) (some (lmax p ps + 1))
    rw [spanL]
    generalize cutP o (some (lmin p ps)) (some (lmax p ps + 1)) = C at *
    simp [ec]
theorem isort_len (l : List Int) : (isort l).length = l.length := (isort_perm l).length_eq
def tog (o l : List Int) : Bool := decide ((spanL o (places o l)).length = l.length)
theorem together_ok (o l : List Int) (ho : isOrder o.length o = true) (hl : isSet o.length l = true) : fn_stands_together [.tup (o.map .int), .tup (l.map .int)] = .ok (.bl (tog o l), false) := by
  have e1 := spanned_ok o l ho hl
  have a1 : ∀ (F : Fn), F [.tup (o.map .int), .tup (l.map .int)] = .ok (.tup ((spanL o (places o l)).map .int), false) → runF 2 2 (sq (bnd (eOp (gEq false) (look (eCall gLen (kCons (look (eFn F (aCons (eVar 0) (aCons (eVar 1) (Pv.ret []))))) (Pv.ret [])))) (look (eCall gLen (kCons (pVar 1) (Pv.ret []))))) mRet) (Pv.ret .nx)) [.tup (o.map .int), .tup (l.map .int)] = .ok (.bl (tog o l), false) := fun F h => by
    unfold tog
    generalize spanL o (places o l) = S at *
    by_cases c : S.length = l.length
    · simp [h, c]
    · have c' : ¬ (S.length : Int) = (l.length : Int) := by omega
      simp [h, c, c']
  exact a1 _ e1
end K14

set_option Elab.async false
set_option linter.all false
set_option maxRecDepth 100000
namespace K14
open Pv PySem PySem.Spec L2
open PyProof.Rows hiding St
/-! ### the other things; around a ring -/
def others (n : Int) (l : List Int) : List Int := (Pv.upTo 0 n.toNat).filter fun i => !decide (i ∈ l)
theorem others_ok (n : Int) (l : List Int) (h0 : 0 ≤ n) (h : n ≤ 24) : fn_others_of [.int n, .tup (l.map .int)] = .ok (.tup ((others n l).map .int), false) := by
  have hc : compr (tName 2) (blOf (eOp (gIn true) (pVar 2) (pVar 1))) (eVar 2) [2] [] (rgP 0 n.toNat) [.val (.int n), .val (.tup (l.map .int)), .no] = .ok ((others n l).map .int) [.val (.int n), .val (.tup (l.map .int)), .no] := by
    rw [rgP_eq]
    exact compr_int _ _ rfl (fun i _ => by simp [gIn_tup]) (by rw [upTo_len, SZ]; omega)
  have h2 : mComp (mRng1 (kCons (pVar 0) (Pv.ret []))) (tName 2) (blOf (eOp (gIn true) (pVar 2) (pVar 1))) (eVar 2) [2] [.val (.int n), .val (.tup (l.map .int)), .no] = .ok (.lst ((others n l).map .int), true) [.val (.int n), .val (.tup (l.map .int)), .no] :=
    comp_ok (rng1_ok (ev' := [.val (.int n), .val (.tup (l.map .int)), .no]) (by simp) (okR_mid (by omega) (by omega))) hc
  unfold fn_others_of st_others_of
  generalize (others n l).map PV.int = L at *
  simp [-mComp_ap, h2]
theorem others_set {n : Int} (l : List Int) (h : 1 ≤ n ∧ n ≤ 24) : isSet n (others n l) = true := by
  unfold isSet
  rw [decide_eq_true h, Bool.true_and, decide_eq_true_eq]
  unfold others
  refine List.filter_congr fun i hi => ?_
  by_cases c : i ∈ l
  · rw [decide_eq_true c]
    have : ¬ i ∈ List.filter (fun i => !decide (i ∈ l)) (Pv.upTo 0 n.toNat) := fun z => by
      have := (List.mem_filter.mp z).2
      rw [decide_eq_true c] at this
      cases this
    rw [decide_eq_false this]
    rfl
  · rw [decide_eq_false c]
    have : i ∈ List.filter (fun i => !decide (i ∈ l)) (Pv.upTo 0 n.toNat) := List.mem_filter.mpr ⟨hi, by rw [decide_eq_false c]; rfl⟩
    rw [decide_eq_true this]
    rfl
theorem order_size {o : List Int} (h : isOrder o.length o = true) : 1 ≤ (o.length : Int) ∧ (o.length : Int) ≤ 24 := by
  unfold isOrder at h
  simp only [Bool.and_eq_true, decide_eq_true_eq] at h
  exact h.1
theorem head_ok (i : Int) (o : List Int) (ho : isOrder ((i :: o).length : Nat) (i :: o) = true) : fn_check_order_around [.int ((i :: o).length : Nat), .tup ((i :: o).map .int)] = if i = 0 then .ok (.tup ((i :: o).map .int), false) else .exc "InvalidOrder" := by
  have e1 := order_is ((i :: o).length : Nat) (i :: o)
  rw [if_pos ho] at e1
  generalize (((i :: o).length : Nat) : Int) = n at *
  rw [List.map_cons] at e1 ⊢
  generalize o.map PV.int = O at *
  have a1 : ∀ F : Fn, F [.int n, .tup (.int i :: O)] = .ok (.tup (.int i :: O), false) → bnd (eFn F (aCons (eVar 0) (aCons (eVar 1) (Pv.ret [])))) (fun _ => Pv.ret Fl.nx) [.val (.int n), .val (.tup (.int i :: O))] = .ok .nx [.val (.int n), .val (.tup (.int i :: O))] := fun F h => by simp [h]
  have at0 : ∀ i : Int, atI (PV.int i :: O) 0 = some (.int i) := fun i => by
    have : atI (PV.int i :: O) ((0 : Nat) : Int) = some (.int i) := atI_nat rfl
    exact this
  unfold fn_check_order_around st_check_order_around
  by_cases c : i = 0
  · rw [if_pos c]
    refine runF_ok (ev' := [.val (.int n), .val (.tup (.int i :: O))]) ?_ rfl (by decide)
    refine (sq_nx (a1 _ e1)).trans ?_
    subst c
    simp [at0]
  · rw [if_neg c]
    refine runF_exc (ev' := [.val (.int n), .val (.tup (.int i :: O))]) ?_ rfl (by decide)
    refine (sq_nx (a1 _ e1)).trans ?_
    simp [at0, c]
theorem around_ok (o l : List Int) (ho : isOrder o.length o = true) (hl : isSet o.length l = true) (h0 : ∃ o', o = 0 :: o') : fn_stands_around [.tup (o.map .int), .tup (l.map .int)] = .ok (.bl (tog o l || tog o (others o.length l)), false) := by
  obtain ⟨h1, h2⟩ := order_size ho
  have e1 : fn_check_order_around [.int o.length, .tup (o.map .int)] = .ok (.tup (o.map .int), false) := by
    obtain ⟨o', rfl⟩ := h0
    have := head_ok 0 o' ho
    rw [if_pos rfl] at this
    exact this
  have e2 := together_ok o l ho hl
  have e3 := others_ok o.length l (by omega) h2
  have e4 := together_ok o (others o.length l) ho (others_set l ⟨h1, h2⟩)
  generalize tog o l = A at *
  generalize tog o (others o.length l) = B at *
  have a1 : ∀ (F1 F2 F3 : Fn), F1 [.int o.length, .tup (o.map .int)] = .ok (.tup (o.map .int), false) → F2 [.tup (o.map .int), .tup (l.map .int)] = .ok (.bl A, false) → F2 [.tup (o.map .int), .tup ((others o.length l).map .int)] = .ok (.bl B, false) → F3 [.int o.length, .tup (l.map .int)] = .ok (.tup ((others o.length l).map .int), false) →
      runF 3 2 (sq (bnd (eCall gLen (kCons (pVar 0) (Pv.ret []))) (setR 2)) (sq (bnd (eFn F1 (aCons (eVar 2) (aCons (eVar 0) (Pv.ret [])))) fun _ => Pv.ret .nx) (sq (bnd (vOr (eFn F2 (aCons (eVar 0) (aCons (eVar 1) (Pv.ret [])))) (eFn F2 (aCons (eVar 0) (aCons (eFn F3 (aCons (eVar 2) (aCons (eVar 1) (Pv.ret [])))) (Pv.ret []))))) mRet) (Pv.ret .nx)))) [.tup (o.map .int), .tup (l.map .int)] = .ok (.bl (A || B), false) := fun F1 F2 F3 q1 q2 q3 q4 => by
    cases A with
    | true => simp [q1, q2]
    | false => simp [q1, q2, q3, q4]
  exact a1 _ _ _ e1 e2 e4 e3
end K14

set_option Elab.async false
set_option linter.all false
set_option maxRecDepth 100000
namespace K14
open Pv PySem PySem.Spec L2
open PyProof.Rows hiding St
theorem tog_eq {o l : List Int} (no : o.Nodup) (nl : l.Nodup) (sub : ∀ t ∈ l, t ∈ o) : tog o l = decide (Ring.ls false (o.map fun t => decide (t ∈ l)) ≤ 1) := by
  unfold tog
  cases l with
  | nil =>
    have : Ring.ls false (o.map fun t => decide (t ∈ ([] : List Int))) = 0 := Ring.ls_false _ fun x hx => by
      obtain ⟨t, _, rfl⟩ := List.mem_map.mp hx
      simp
    rw [this]
    rfl
  | cons t ts =>
    have hp : places o (t :: ts) = ((o.idxOf t : Nat) : Int) :: places o ts := rfl
    obtain ⟨a1, a2, a3⟩ := lmin_le (places o ts) ((o.idxOf t : Nat) : Int)
    obtain ⟨b1, b2, b3⟩ := lmax_le (places o ts) ((o.idxOf t : Nat) : Int)
    rw [hp, spanL]
    generalize hm : lmin ((o.idxOf t : Nat) : Int) (places o ts) = m at *
    generalize hM : lmax ((o.idxOf t : Nat) : Int) (places o ts) = M at *
    have at_ : ∀ z : Int, (z = ((o.idxOf t : Nat) : Int) ∨ z ∈ places o ts) → ∃ s ∈ t :: ts, z = ((o.idxOf s : Nat) : Int) := fun z hz => by
      rcases hz with h | h
      · exact ⟨t, by simp, h⟩
      · obtain ⟨s, hs, rfl⟩ := List.mem_map.mp h
        exact ⟨s, by simp [hs], rfl⟩
    obtain ⟨s1, q1, r1⟩ := at_ m a3
    obtain ⟨s2, q2, r2⟩ := at_ M b3
    have i1 := List.idxOf_lt_length_of_mem (sub s1 q1)
    have i2 := List.idxOf_lt_length_of_mem (sub s2 q2)
    have g1 : o[o.idxOf s1] = s1 := List.getElem_idxOf i1
    have g2 : o[o.idxOf s2] = s2 := List.getElem_idxOf i2
    have all : ∀ s ∈ t :: ts, o.idxOf s1 ≤ o.idxOf s ∧ o.idxOf s ≤ o.idxOf s2 := fun s hs => by
      rcases List.mem_cons.mp hs with rfl | hs
      · omega
      · have h1 := a2 _ (List.mem_map.mpr ⟨s, hs, rfl⟩ : ((o.idxOf s : Nat) : Int) ∈ places o ts)
        have h2 := b2 _ (List.mem_map.mpr ⟨s, hs, rfl⟩ : ((o.idxOf s : Nat) : Int) ∈ places o ts)
        omega
    have key := Ring.tog_iff no nl sub (f := o.idxOf s1) (e := o.idxOf s2) ((all s1 q1).2) i2 (by rw [g1]; exact q1) (by rw [g2]; exact q2) all
    have hc : cutP o (some m) (some (M + 1)) = (o.drop (o.idxOf s1)).take (o.idxOf s2 + 1 - o.idxOf s1) := by
      unfold cutP
      rw [r1, r2, show (((o.idxOf s2 : Nat) : Int) + 1) = ((o.idxOf s2 + 1 : Nat) : Int) by omega, HT.sIx_nat, HT.sIx_nat, Nat.min_eq_left (by omega), Nat.min_eq_left (by omega)]
    rw [isort_len, hc]
    exact decide_eq_decide.mpr key
end K14

set_option Elab.async false
set_option linter.all false
set_option maxRecDepth 100000
namespace K14
open Pv PySem PySem.Spec L2
open PyProof.Rows hiding St
/-! ### _law_is_arc -/
def hot (b : Bool) : Int := if b then 1 else 0
def mem (l : List Int) (o : List Int) : List Bool := o.map fun t => decide (t ∈ l)
/-- what stands at a place of a list of zeros and ones, around -/
theorem hot_at {B : List Bool} {k : Nat} (h : k < B.length) : atI ((B.map hot).map PV.int) (k : Int) = some (.int (hot (B.getD k false))) := atI_nat (by
  rw [List.getElem?_map, List.getElem?_map, List.getElem?_eq_getElem h, List.getD_eq_getElem?_getD, List.getElem?_eq_getElem h]
  rfl)
theorem last_snoc (p : Bool) (B : List Bool) (h : B ≠ []) : ∃ C, B = C ++ [Ring.lastOr p B] := by
  refine ⟨B.dropLast, ?_⟩
  have e := List.dropLast_concat_getLast h
  have : Ring.lastOr p B = B.getLast h := by
    conv => lhs; rw [← e]
    exact Ring.lastOr_end _ _ _
  rw [this, e]
theorem hot_prev {B : List Bool} {k : Nat} (h : k < B.length) : atI ((B.map hot).map PV.int) ((k : Int) - 1) = some (.int (hot (if k = 0 then Ring.lastOr false B else B.getD (k - 1) false))) := by
  by_cases c : k = 0
  · subst c
    rw [if_pos rfl]
    obtain ⟨C, hC⟩ := last_snoc false B (fun z => by rw [z] at h; simp at h)
    generalize Ring.lastOr false B = x at *
    subst hC
    rw [List.map_append, List.map_append]
    exact atI_last _ _
  · rw [if_neg c, show ((k : Int) - 1) = ((k - 1 : Nat) : Int) by omega]
    exact hot_at (by omega)
theorem hot_one (b : Bool) : decide (hot b = 1) = b := by cases b <;> rfl
theorem hot_zero (b : Bool) : decide (hot b = 0) = !b := by cases b <;> rfl
def arcT : M Bool := mAnd (blOf (eOp (gEq false) (look (eOp gIx (pVar 2) (pVar 5))) (look (eC (.int 1))))) (blOf (eOp (gEq false) (look (eOp gIx (pVar 2) (look (eOp aSub (pVar 5) (look (eC (.int 1))))))) (look (eC (.int 0)))))
theorem arcT_ok {v w : PV} {B : List Bool} {s3 s4 : Pv.Slot} {k : Nat} (h : k < B.length) : arcT [.val v, .val w, .own ((B.map hot).map .int), s3, s4, .val (.int k)] = .ok (B.getD k false && !(if k = 0 then Ring.lastOr false B else B.getD (k - 1) false)) [.val v, .val w, .own ((B.map hot).map .int), s3, s4, .val (.int k)] := by
  have e1 := hot_at h
  have e2 := hot_prev h
  unfold arcT
  generalize (B.map hot).map PV.int = L at *
  generalize (if k = 0 then Ring.lastOr false B else B.getD (k - 1) false) = y at *
  generalize B.getD k false = x at *
  have h1 := hot_one x
  have h2 := hot_zero y
  cases x with
  | false =>
    have : ¬ hot false = 1 := by decide
    simp [e1, this]
  | true =>
    have : hot true = 1 := rfl
    simp [e1, e2, this, h2]
theorem count_ok (B : List Bool) : ((Pv.upTo 0 B.length).filter fun i => B.getD i.toNat false && !(if i.toNat = 0 then Ring.lastOr false B else B.getD (i.toNat - 1) false)).length = Ring.ls (Ring.lastOr false B) B := by
  rw [← Ring.starts_eq]
  unfold Pv.upTo
  rw [List.filter_map, List.length_map]
  congr 1
  refine List.filter_congr fun k hk => ?_
  simp only [Function.comp, Int.zero_add, Int.toNat_natCast]
end K14

set_option Elab.async false
set_option linter.all false
set_option maxRecDepth 100000
namespace K14
open Pv PySem PySem.Spec L2
open PyProof.Rows hiding St
theorem len3 {m : M RV} {s0 s1 s2 s4 s5 : Pv.Slot} {F : List Int} (h : m [s0, s1, s2, .no, s4, s5] = .ok (.lst (F.map .int), true) [s0, s1, s2, .no, s4, s5]) : bnd (eCall gLen (kCons (look m) (Pv.ret []))) (setR 3) [s0, s1, s2, .no, s4, s5] = .ok .nx [s0, s1, s2, .val (.int (F.length : Nat)), s4, s5] := by
  simp [h]
theorem arc_ok (o l : List Int) (h : o.length ≤ 24) : fn__law_is_arc [.tup (o.map .int), .tup (l.map .int)] = .ok (.bl (decide (Ring.ls (Ring.lastOr false (mem l o)) (mem l o) < 2)), false) := by
  have hB : (mem l o).length = o.length := by unfold mem; rw [List.length_map]
  have c1 : compr (tName 4) (Pv.ret true) (eCall gInt (kCons (look (eOp (gIn false) (pVar 4) (pVar 1))) (Pv.ret []))) [4] [] (o.map .int) [.val (.tup (o.map .int)), .val (.tup (l.map .int)), .no, .no, .no, .no] = .ok (((mem l o).map hot).map .int) [.val (.tup (o.map .int)), .val (.tup (l.map .int)), .no, .no, .no, .no] := by
    have e : (mem l o).map hot = o.map fun t => hot (decide (t ∈ l)) := by unfold mem; rw [List.map_map]; rfl
    rw [e]
    exact compr_mapI (fr := false) o _ rfl (fun t _ => by
      simp [gIn_tup]
      by_cases q : t ∈ l <;> simp [q, hot]) (by rw [SZ]; omega)
  have m1 : mComp (mSeq (eVar 0)) (tName 4) (Pv.ret true) (eCall gInt (kCons (look (eOp (gIn false) (pVar 4) (pVar 1))) (Pv.ret []))) [4] [.val (.tup (o.map .int)), .val (.tup (l.map .int)), .no, .no, .no, .no] = .ok (.lst (((mem l o).map hot).map .int), true) [.val (.tup (o.map .int)), .val (.tup (l.map .int)), .no, .no, .no, .no] :=
    comp_ok (ps := o.map .int) (ev1 := [.val (.tup (o.map .int)), .val (.tup (l.map .int)), .no, .no, .no, .no]) (by simp) c1
  have hlen : (((mem l o).map hot).map PV.int).length = (mem l o).length := by rw [List.length_map, List.length_map]
  have c2 : compr (tName 5) arcT (eVar 5) [5] [] (rgP 0 (mem l o).length) [.val (.tup (o.map .int)), .val (.tup (l.map .int)), .own (((mem l o).map hot).map .int), .no, .no, .no] = .ok (((Pv.upTo 0 (mem l o).length).filter fun i => (mem l o).getD i.toNat false && !(if i.toNat = 0 then Ring.lastOr false (mem l o) else (mem l o).getD (i.toNat - 1) false)).map .int) [.val (.tup (o.map .int)), .val (.tup (l.map .int)), .own (((mem l o).map hot).map .int), .no, .no, .no] := by
    rw [rgP_eq]
    refine compr_int _ _ rfl (fun i hi => ?_) (by rw [upTo_len, SZ]; omega)
    unfold Pv.upTo at hi
    obtain ⟨k, hk, rfl⟩ := List.mem_map.mp hi
    rw [List.mem_range] at hk
    have := arcT_ok (v := .tup (o.map .int)) (w := .tup (l.map .int)) (s3 := .no) (s4 := .no) hk
    rw [Int.zero_add, Int.toNat_natCast]
    exact this
  have r1 : mRng1 (kCons (look (eCall gLen (kCons (pVar 2) (Pv.ret [])))) (Pv.ret [])) [.val (.tup (o.map .int)), .val (.tup (l.map .int)), .own (((mem l o).map hot).map .int), .no, .no, .no] = .ok (rgP 0 (mem l o).length) [.val (.tup (o.map .int)), .val (.tup (l.map .int)), .own (((mem l o).map hot).map .int), .no, .no, .no] := by
    have q := rng1_ok (m := kCons (look (eCall gLen (kCons (pVar 2) (Pv.ret [])))) (Pv.ret [])) (ev := [.val (.tup (o.map .int)), .val (.tup (l.map .int)), .own (((mem l o).map hot).map .int), .no, .no, .no]) (ev' := [.val (.tup (o.map .int)), .val (.tup (l.map .int)), .own (((mem l o).map hot).map .int), .no, .no, .no]) (z := ((mem l o).length : Nat)) (by rw [← hlen]; generalize ((mem l o).map hot).map PV.int = L; simp) (okR_mid (by omega) (by omega))
    rw [Int.toNat_natCast] at q
    exact q
  have m2 := comp_ok r1 c2 (t := tName 5) (mt := arcT) (me := eVar 5) (vs := [5])
  have hk : back [.val (.tup (o.map .int)), .val (.tup (l.map .int)), .own (((mem l o).map hot).map .int), .no, .no, .no] [.val (.tup (o.map .int)), .val (.tup (l.map .int)), .own (((mem l o).map hot).map .int), .no, .no, .no] [5] = [.val (.tup (o.map .int)), .val (.tup (l.map .int)), .own (((mem l o).map hot).map .int), .no, .no, .no] := rfl
  rw [hk] at m2
  have m3 := len3 m2
  rw [count_ok] at m3
  unfold fn__law_is_arc st__law_is_arc
  refine runF_ok (ev' := [.val (.tup (o.map .int)), .val (.tup (l.map .int)), .own (((mem l o).map hot).map .int), .val (.int (Ring.ls (Ring.lastOr false (mem l o)) (mem l o) : Nat)), .no, .no]) ?_ rfl (by decide)
  refine (sq_nx (ev' := [.val (.tup (o.map .int)), .val (.tup (l.map .int)), .own (((mem l o).map hot).map .int), .no, .no, .no]) ((bnd_ok m1).trans rfl)).trans ?_
  refine (sq_nx m3).trans ?_
  refine sq_rt ?_
  generalize Ring.ls (Ring.lastOr false (mem l o)) (mem l o) = N at *
  by_cases c : N < 2
  · have : (N : Int) < 2 := by omega
    simp [c, this]
  · have : ¬ (N : Int) < 2 := by omega
    simp [c, this]
end K14

set_option Elab.async false
set_option linter.all false
set_option maxRecDepth 100000
namespace K14
open Pv PySem PySem.Spec L2
open PyProof.Rows hiding St
theorem upTo_pair (n : Nat) : (Pv.upTo 0 n).Pairwise (· < ·) := by
  unfold Pv.upTo
  rw [List.pairwise_map]
  refine List.Pairwise.imp ?_ List.pairwise_lt_range
  intro a b h
  omega
theorem upTo_nodup (n : Nat) : (Pv.upTo 0 n).Nodup := (upTo_pair n).imp fun h => by omega
theorem set_nodup {n : Int} {l : List Int} (h : isSet n l = true) : l.Nodup := by
  unfold isSet at h
  simp only [Bool.and_eq_true, decide_eq_true_eq] at h
  rw [h.2]
  exact (upTo_nodup _).sublist List.filter_sublist
/-- both ways of 4.1: the set or the others stand together exactly if at most one stretch begins around -/
theorem arc_eq {o l : List Int} (ho : isOrder o.length o = true) (hl : isSet o.length l = true) : (tog o l || tog o (others o.length l)) = decide (Ring.ls (Ring.lastOr false (mem l o)) (mem l o) < 2) := by
  obtain ⟨h1, h2⟩ := order_size ho
  have hP := order_perm ho
  have no : o.Nodup := hP.nodup_iff.mpr (upTo_nodup _)
  have hl2 := others_set l ⟨h1, h2⟩
  have s1 : ∀ t ∈ l, t ∈ o := fun t ht => hP.mem_iff.mpr (set_mem hl ht)
  have s2 : ∀ t ∈ others o.length l, t ∈ o := fun t ht => hP.mem_iff.mpr (set_mem hl2 ht)
  rw [tog_eq no (set_nodup hl) s1, tog_eq no (set_nodup hl2) s2]
  have e : (o.map fun t => decide (t ∈ others o.length l)) = (mem l o).map not := by
    unfold mem
    rw [List.map_map]
    refine List.map_congr_left fun t ht => ?_
    have hu := hP.mem_iff.mp ht
    show decide (t ∈ others o.length l) = !decide (t ∈ l)
    by_cases c : t ∈ l
    · rw [decide_eq_true c, decide_eq_false]
      · rfl
      · intro z
        have := (List.mem_filter.mp z).2
        rw [decide_eq_true c] at this
        cases this
    · rw [decide_eq_false c, decide_eq_true]
      · rfl
      · exact List.mem_filter.mpr ⟨hu, by rw [decide_eq_false c]; rfl⟩
  rw [e]
  have ne : mem l o ≠ [] := fun z => by
    have := congrArg List.length z
    unfold mem at this
    rw [List.length_map, List.length_nil] at this
    omega
  have key := Ring.ring_iff ne
  show (decide (Ring.ls false (mem l o) ≤ 1) || decide (Ring.ls false ((mem l o).map not) ≤ 1)) = _
  rw [← Bool.decide_or]
  exact decide_eq_decide.mpr (key.trans Nat.lt_succ_iff.symm)
end K14

set_option Elab.async false
set_option linter.all false
set_option maxRecDepth 100000
namespace K14
open Pv PySem PySem.Spec L2
open PyProof.Rows hiding St
theorem rich_ok (c : Int) : ∃ r : Int, fn__law_rich [.int c] = .ok (.int r, false) := by
  unfold fn__law_rich st__law_rich
  by_cases h : (1000000000000000000 : Int) ≤ c
  · exact ⟨c, by simp [h]⟩
  · refine ⟨_, by simp [h]; rfl⟩
theorem cell_ok (ns : List Int) (k : Nat) : ∃ r : Int, fn__law_cell [.scr ns, .int k] = .ok (.int r, false) := by
  unfold fn__law_cell st__law_cell
  by_cases h : k < ns.length
  · refine ⟨ns[k], ?_⟩
    simp [h, atI_nat]
  · refine ⟨0, ?_⟩
    simp [h]
/-! ### _law_order -/
theorem rich_ex (c : Int) : ∃ r : Int, fn__law_rich [.int c] = .ok (.int r, false) := rich_ok c
noncomputable def richV (c : Int) : Int := (rich_ex c).choose
theorem rich_eq (c : Int) : fn__law_rich [.int c] = .ok (.int (richV c), false) := (rich_ex c).choose_spec
theorem okR_small {n : Nat} (h : n ≤ 1000) : okR (n : Int) = true := by
  unfold okR
  simp only [decide_eq_true_eq]
  omega
theorem rng1_nat {m : M (List PV)} {ev ev' : SL} {n : Nat} (h : m ev = .ok [.int n] ev') (hn : n ≤ 1000) : mRng1 m ev = .ok (rgP 0 n) ev' := by
  have e := rng1_ok h (okR_small hn)
  rw [Int.toNat_natCast] at e
  exact e
theorem erase_perm : ∀ (L : List Int) (i : Nat) (h : i < L.length), (L[i] :: L.eraseIdx i).Perm L
  | x :: L, 0, _ => .refl _
  | x :: L, i + 1, h => by
    have := erase_perm L i (by simpa using h)
    exact (List.Perm.swap x _ _).trans (this.cons x)
theorem map_eraseIdx : ∀ (L : List Int) (i : Nat), (L.map PV.int).eraseIdx i = (L.eraseIdx i).map .int
  | [], i => by simp
  | x :: L, 0 => rfl
  | x :: L, i + 1 => by simp [map_eraseIdx L i]
def ordB : M Fl := sq (mAppPop 4 2 (look (eOp aMod (look (eCall gInt (kCons (pVar 3) (Pv.ret [])))) (look (eOp aSub (pVar 1) (pVar 5)))))) (sq (bnd (eOp aDiv (pVar 3) (look (eOp aSub (pVar 1) (pVar 5)))) (setR 3)) (sq (mIfS (blOf (eOp (gEq false) (pVar 3) (look (eC (.int 0))))) (sq (bnd (eFn fn__law_rich (aCons (eOp gAdd (look (eOp gAdd (pVar 0) (pVar 5))) (look (eC (.int 1)))) (Pv.ret []))) (setR 3)) (Pv.ret .nx)) (Pv.ret .nx)) (Pv.ret .nx)))
def ordS (c : Int) (n : Nat) (L O : List Int) (r : Int) (s5 : Pv.Slot) : SL := [.val (.int c), .val (.int n), .own (L.map .int), .val (.int r), .own (O.map .int), s5, .no]
theorem ord_step (c : Int) (n j : Nat) (L O : List Int) (r : Int) (hj : j < n) (hn : n ≤ 25) (hL : L.length = n - j) (hO : O.length = j) :
    ∃ (i : Nat) (h : i < L.length) (r' : Int), ordB (ordS c n L O r (.val (.int j))) = .ok .nx (ordS c n (L.eraseIdx i) (O ++ [L[i]]) r' (.val (.int j))) := by
  have hpos : (0 : Int) < (n : Int) - (j : Int) := by omega
  have hlt := Int.emod_lt_of_pos r hpos
  have hge := Int.emod_nonneg r (show (n : Int) - (j : Int) ≠ 0 by omega)
  obtain ⟨i, hi⟩ : ∃ i : Nat, r % ((n : Int) - (j : Int)) = (i : Int) := ⟨(r % ((n : Int) - (j : Int))).toNat, by omega⟩
  have hiL : i < L.length := by omega
  have hs : seqIndex? (i : Int) L.length = some i := by
    unfold seqIndex?
    simp
    omega
  have hd : (n : Int) - (j : Int) < 1073741824 := by omega
  have hget : (L.map PV.int)[i]? = some (.int L[i]) := by rw [List.getElem?_map, List.getElem?_eq_getElem hiL]; rfl
  have hjn : (j : Int) < n := by omega
  have b1 : -(9223372036854775808 : Int) ≤ (i : Int) := by omega
  have b2 : (i : Int) < 9223372036854775808 := by omega
  have b3 : O.length < 16777216 := by omega
  unfold ordB ordS
  by_cases h0 : r / ((n : Int) - (j : Int)) = 0
  · refine ⟨i, hiL, richV (c + j + 1), ?_⟩
    simp [hjn, hi, b1, b2, b3, hs, hiL, hd, h0, rich_eq, map_eraseIdx]
  · refine ⟨i, hiL, r / ((n : Int) - (j : Int)), ?_⟩
    simp [hjn, hi, b1, b2, b3, hs, hiL, hd, h0, rich_eq, map_eraseIdx]

theorem ord_loop (c : Int) (n : Nat) (hn : n ≤ 25) (r : Int) : ∃ (O : List Int) (r' : Int) (s5 : Pv.Slot), loop (tName 5) ordB (rgP 0 n) (ordS c n (upTo 0 n) [] r .no) = .ok .nx (ordS c n [] O r' s5) ∧ O.Perm (upTo 0 n) := by
  obtain ⟨ev', e1, e2⟩ := loop_inv (t := tName 5) (mb := ordB) (ps := rgP 0 n) (I := fun k ev => ∃ (L O : List Int) (r : Int) (s5 : Pv.Slot), ev = ordS c n L O r s5 ∧ L.length = n - k ∧ O.length = k ∧ (O ++ L).Perm (upTo 0 n)) (Q := fun _ => False) 0 (ev := ordS c n (upTo 0 n) [] r .no)
    (fun j p ev hp hI => by
      obtain ⟨hj, rfl⟩ := rgP_get hp
      obtain ⟨L, O, r, s5, rfl, hL, hO, hP⟩ := hI
      simp only [Nat.zero_add] at hL hO ⊢
      obtain ⟨i, hi, r', e⟩ := ord_step c n j L O r hj hn hL hO
      refine ⟨ordS c n L O r (.val (.int j)), ?_, .inl ⟨_, e, L.eraseIdx i, O ++ [L[i]], r', _, rfl, ?_, ?_, ?_⟩⟩
      · rw [Int.zero_add]; rfl
      · rw [List.length_eraseIdx_of_lt hi]; omega
      · rw [List.length_append, List.length_singleton, hO]
      · rw [List.append_assoc, List.singleton_append]
        exact ((erase_perm L i hi).append_left O).trans hP)
    ⟨upTo 0 n, [], r, .no, rfl, by rw [upTo_len]; omega, rfl, by simp⟩
  rcases e2 with ⟨L, O, r', s5, rfl, hL, hO, hP⟩ | h
  · rw [rgP_len] at hL
    have hL0 : L = [] := List.eq_nil_of_length_eq_zero (by omega)
    subst hL0
    exact ⟨O, r', s5, e1, by simpa using hP⟩
  · exact h.elim
theorem order_ok (c : Int) (n : Nat) (hn : n ≤ 25) : ∃ o : List Int, fn__law_order [.int c, .int n] = .ok (.tup (o.map .int), false) ∧ o.Perm (upTo 0 n) := by
  obtain ⟨O, r', s5, e, hP⟩ := ord_loop c n hn (richV c)
  refine ⟨O, ?_, hP⟩
  have hcomp : compr (tName 6) (Pv.ret true) (eVar 6) [6] [] (rgP 0 n) [.val (.int c), .val (.int n), .no, .no, .no, .no, .no] = .ok ((upTo 0 n).map .int) [.val (.int c), .val (.int n), .no, .no, .no, .no, .no] := by
    have hsz : ([] : List PV).length + (rgP 0 n).length ≤ SZ := by
      rw [rgP_len, List.length_nil, SZ]; omega
    rw [compr_id (rgP 0 n) [] _ rfl hsz, rgP_eq, List.nil_append]
  unfold fn__law_order st__law_order
  refine runF_ok (ev' := ordS c n [] O r' s5) ?_ rfl (by decide)
  show sq _ _ [.val (.int c), .val (.int n), .no, .no, .no, .no, .no] = _
  rw [sq_nx (ev' := [.val (.int c), .val (.int n), .own ((upTo 0 n).map .int), .no, .no, .no, .no]) (by
    refine (bnd_ok (comp_ok (rng1_nat (n := n) (ev' := [.val (.int c), .val (.int n), .no, .no, .no, .no, .no]) ?_ (by omega)) hcomp)).trans ?_
    · simp
    · rfl)]
  rw [sq_nx (ev' := [.val (.int c), .val (.int n), .own ((upTo 0 n).map .int), .val (.int (richV c)), .no, .no, .no]) (by simp [rich_eq])]
  rw [sq_nx (ev' := ordS c n (upTo 0 n) [] (richV c) .no) (by simp; rfl)]
  rw [sq_nx (ev' := ordS c n [] O r' s5) (by
    refine (bnd_ok (rng1_nat (n := n) (ev' := ordS c n (upTo 0 n) [] (richV c) .no) ?_ (by omega))).trans ?_
    · unfold ordS; simp
    · exact e)]
  exact sq_rt (by unfold ordS; simp)


/-! ### _law_set -/
def bit (r i : Int) : Bool := decide (r / (i + 1) / (1 + i * i) % 2 = 1)
end K14

set_option Elab.async false
set_option linter.all false
set_option maxRecDepth 100000
namespace K14
open Pv PySem PySem.Spec L2
open PyProof.Rows hiding St
/-! ### sets made of a range -/
theorem filter_set {n : Int} (h : 1 ≤ n ∧ n ≤ 24) (P : Int → Bool) : isSet n ((Pv.upTo 0 n.toNat).filter P) = true := by
  unfold isSet
  rw [decide_eq_true h, Bool.true_and, decide_eq_true_eq]
  refine List.filter_congr fun i hi => ?_
  by_cases c : P i = true
  · rw [c, decide_eq_true (List.mem_filter.mpr ⟨hi, c⟩)]
  · rw [Bool.not_eq_true] at c
    rw [c, decide_eq_false fun z => by
      have := (List.mem_filter.mp z).2
      rw [c] at this
      cases this]
/-- sorted things of a range, none twice -/
theorem isort_set {n : Int} (h : 1 ≤ n ∧ n ≤ 24) {s : List Int} (ns : s.Nodup) (hs : ∀ t ∈ s, t ∈ Pv.upTo 0 n.toNat) : isSet n (isort s) = true := by
  have e : isort s = (Pv.upTo 0 n.toNat).filter fun i => decide (i ∈ s) := by
    refine (isort_of ?_ ?_).symm
    · exact (List.perm_ext_iff_of_nodup ((upTo_nodup _).sublist List.filter_sublist) ns).mpr fun t => by
        rw [List.mem_filter, decide_eq_true_eq]
        exact ⟨fun z => z.2, fun z => ⟨hs t z, z⟩⟩
    · exact ((upTo_pair _).imp fun h => by omega).sublist List.filter_sublist
  rw [e]
  exact filter_set h _
/-! ### _law_set -/
def setT : M Bool := blOf (eOp (gEq false) (look (eOp aMod (look (eCall gInt (kCons (look (eOp aDiv (look (eOp aDiv (pVar 2) (look (eOp gAdd (pVar 3) (look (eC (.int 1))))))) (look (eOp gAdd (look (eC (.int 1))) (look (eOp aMul (pVar 3) (pVar 3))))))) (Pv.ret [])))) (look (eC (.int 2))))) (look (eC (.int 1))))
theorem setT_ok {c n r i : Int} (h : 0 ≤ i) (h2 : i < 100) : setT [.val (.int c), .val (.int n), .val (.int r), .val (.int i)] = .ok (bit r i) [.val (.int c), .val (.int n), .val (.int r), .val (.int i)] := by
  have q0 : 0 ≤ i * i := Int.mul_nonneg h h
  have q1 : i * i ≤ 99 * 99 := Int.mul_le_mul (by omega) (by omega) h (by omega)
  have a1 : 0 < i + 1 ∧ i + 1 < 1073741824 := by omega
  have a2 : 0 < 1 + i * i ∧ 1 + i * i < 1073741824 := by omega
  have a3 : (smallI i || smallI i) = true := by
    unfold smallI
    rw [decide_eq_true (by omega)]
    rfl
  unfold setT bit
  have m : aMul (.int i) (.int i) = some (.int (i * i), false) := by rw [aMul_ii, if_pos a3]
  have d1 : aDiv (.int r) (.int (i + 1)) = some (.int (r / (i + 1)), false) := by rw [aDiv_ii, if_pos a1]
  have d2 : aDiv (.int (r / (i + 1))) (.int (1 + i * i)) = some (.int (r / (i + 1) / (1 + i * i)), false) := by rw [aDiv_ii, if_pos a2]
  simp [-aMul_ii, -aDiv_ii, m, d1, d2]
noncomputable def drawnSet (c n : Int) : List Int := (Pv.upTo 0 n.toNat).filter (bit (richV c))
theorem lawset_ok (c n : Int) (h0 : 0 ≤ n) (h : n ≤ 24) : fn__law_set [.int c, .int n] = .ok (.tup ((drawnSet c n).map .int), false) := by
  have hc : compr (tName 3) setT (eVar 3) [3] [] (rgP 0 n.toNat) [.val (.int c), .val (.int n), .val (.int (richV c)), .no] = .ok ((drawnSet c n).map .int) [.val (.int c), .val (.int n), .val (.int (richV c)), .no] := by
    rw [rgP_eq]
    refine compr_int _ _ rfl (fun i hi => ?_) (by rw [upTo_len, SZ]; omega)
    unfold Pv.upTo at hi
    obtain ⟨k, hk, rfl⟩ := List.mem_map.mp hi
    rw [List.mem_range] at hk
    exact setT_ok (by omega) (by omega)
  have h2 : mComp (mRng1 (kCons (pVar 1) (Pv.ret []))) (tName 3) setT (eVar 3) [3] [.val (.int c), .val (.int n), .val (.int (richV c)), .no] = .ok (.lst ((drawnSet c n).map .int), true) [.val (.int c), .val (.int n), .val (.int (richV c)), .no] :=
    comp_ok (rng1_ok (ev' := [.val (.int c), .val (.int n), .val (.int (richV c)), .no]) (by simp) (okR_mid (by omega) (by omega))) hc
  have h3 : ∀ (m : M RV) (L : List PV), m [.val (.int c), .val (.int n), .val (.int (richV c)), .no] = .ok (.lst L, true) [.val (.int c), .val (.int n), .val (.int (richV c)), .no] → sq (bnd (eCall gTuple (kCons (look m) (Pv.ret []))) mRet) (Pv.ret .nx) [.val (.int c), .val (.int n), .val (.int (richV c)), .no] = .ok (.rt (.tup L, false)) [.val (.int c), .val (.int n), .val (.int (richV c)), .no] := fun m L h => by simp [h]
  have h4 : ∀ F : Fn, F [.int c] = .ok (.int (richV c), false) → bnd (eFn F (aCons (eVar 0) (Pv.ret []))) (setR 2) [.val (.int c), .val (.int n), .no, .no] = .ok .nx [.val (.int c), .val (.int n), .val (.int (richV c)), .no] := fun F h => by simp [h]
  unfold fn__law_set st__law_set
  refine runF_ok (ev' := [.val (.int c), .val (.int n), .val (.int (richV c)), .no]) ?_ rfl (by decide)
  exact (sq_nx (h4 _ (rich_eq c))).trans (h3 _ _ h2)
end K14

set_option Elab.async false
set_option linter.all false
set_option maxRecDepth 100000
namespace K14
open Pv PySem PySem.Spec L2
open PyProof.Rows hiding St
/-! ### _law_digits, _law_stretch -/
theorem digits2 (c a b : Int) (ha : 0 < a ∧ a < 1073741824) (hb : 0 < b ∧ b < 1073741824) : fn__law_digits [.int c, .lst [.int a, .int b]] = .ok (.lst [.int (c % a), .int (c / a % b)], true) := by
  unfold fn__law_digits st__law_digits
  simp [loop, ha, hb]
theorem digits5 (c : Int) : fn__law_digits [.int c, .lst [.int 24, .int 2, .int 3, .int 24, .int 24]] = .ok (.lst [.int (c % 24), .int (c / 24 % 2), .int (c / 24 / 2 % 3), .int (c / 24 / 2 / 3 % 24), .int (c / 24 / 2 / 3 / 24 % 24)], true) := by
  unfold fn__law_digits st__law_digits
  simp [loop]
theorem p0 {p : PV} {q : List PV} : atI (p :: q) 0 = some p := by
  have : atI (p :: q) ((0 : Nat) : Int) = some p := atI_nat rfl
  exact this
theorem p1 {p r : PV} {q : List PV} : atI (p :: r :: q) 1 = some r := by
  have : atI (p :: r :: q) ((1 : Nat) : Int) = some r := atI_nat rfl
  exact this
theorem cut_sub (o : List Int) (lo hi : Option Int) : (cutP o lo hi).Sublist o := by
  unfold cutP
  exact (List.take_sublist _ _).trans (List.drop_sublist _ _)
theorem stretch_lem (c : Int) (o : List Int) (h1 : 1 ≤ o.length) (h : o.length ≤ 24) : ∃ S : List Int, fn__law_stretch [.int c, .tup (o.map .int)] = .ok (.tup ((isort S).map .int), false) ∧ S.Sublist o := by
  have d := digits2 (richV c) o.length o.length (by omega) (by omega)
  generalize richV c % (o.length : Int) = x at d
  generalize richV c / (o.length : Int) % (o.length : Int) = y at d
  refine ⟨cutP o (some (if y < x then y else x)) (some ((if y > x then y else x) + 1)), ?_, cut_sub _ _ _⟩
  have a1 : ∀ (Fd Fr : Fn), Fr [.int c] = .ok (.int (richV c), false) → Fd [.int (richV c), .lst [.int o.length, .int o.length]] = .ok (.lst [.int x, .int y], true) → bnd (eFn Fd (aCons (eFn Fr (aCons (eVar 0) (Pv.ret []))) (aCons (mLst (aCons (eCall gLen (kCons (pVar 1) (Pv.ret []))) (aCons (eCall gLen (kCons (pVar 1) (Pv.ret []))) (Pv.ret [])))) (Pv.ret [])))) (setR 2) [.val (.int c), .val (.tup (o.map .int)), .no, .no, .no] = .ok .nx [.val (.int c), .val (.tup (o.map .int)), .own [.int x, .int y], .no, .no] := fun Fd Fr q1 q2 => by simp [q1, q2]
  have gm : gMin [.int x, .int y] = some (.int (if y < x then y else x), false) := rfl
  have gM : gMax [.int x, .int y] = some (.int (if y > x then y else x), false) := rfl
  unfold fn__law_stretch st__law_stretch
  generalize (if y < x then y else x) = lo at *
  generalize (if y > x then y else x) = hi at *
  have ec := cut_map o (some lo) (some (hi + 1))
  refine runF_ok (ev' := [.val (.int c), .val (.tup (o.map .int)), .own [.int x, .int y], .val (.int lo), .val (.int hi)]) ?_ rfl (by decide)
  refine (sq_nx (a1 _ _ (rich_eq c) d)).trans ?_
  refine (sq_nx (ev' := [.val (.int c), .val (.tup (o.map .int)), .own [.int x, .int y], .val (.int lo), .no]) (by simp [p0, p1, gm])).trans ?_
  refine (sq_nx (ev' := [.val (.int c), .val (.tup (o.map .int)), .own [.int x, .int y], .val (.int lo), .val (.int hi)]) (by simp [p0, p1, gM])).trans ?_
  refine sq_rt ?_
  generalize cutP o (some lo) (some (hi + 1)) = C at *
  simp [ec]
end K14

set_option Elab.async false
set_option linter.all false
set_option maxRecDepth 100000
namespace K14
open Pv PySem PySem.Spec L2
open PyProof.Rows hiding St
/-! ### _law_table -/
def tabV (T : List (List Int)) : List PV := T.map fun s => .tup (s.map .int)
def tabB (Fc Fs Fr : Fn) : M Fl := sq (mIfS (blOf (eOp cLt (look (eOp gAdd (pVar 1) (pVar 5))) (look (eCall gLen (kCons (pVar 0) (Pv.ret [])))))) (sq (bnd (eOp gAdd (look (eFn Fc (aCons (eVar 0) (aCons (eOp gAdd (pVar 1) (pVar 5)) (Pv.ret []))))) (pVar 5)) (setR 6)) (sq (mIfS (blOf (eOp (gEq false) (look (eOp aMod (look (eCall gInt (kCons (pVar 6) (Pv.ret [])))) (look (eC (.int 8))))) (look (eC (.int 3))))) (sq (mMet 4 (aCons (eFn Fs (aCons (eOp aDiv (pVar 6) (look (eC (.int 8)))) (aCons (eVar 2) (Pv.ret [])))) (Pv.ret [])) gAppend) (Pv.ret .nx)) (sq (mMet 4 (aCons (eFn Fr (aCons (eOp aDiv (pVar 6) (look (eC (.int 8)))) (aCons (eVar 3) (Pv.ret [])))) (Pv.ret [])) gAppend) (Pv.ret .nx))) (Pv.ret .nx))) (Pv.ret .nx)) (Pv.ret .nx)
def tabS (ns : List Int) (a : Nat) (n : Int) (o : List Int) (T : List (List Int)) (s5 s6 : Pv.Slot) : SL := [.val (.scr ns), .val (.int a), .val (.int n), .val (.tup (o.map .int)), .own (tabV T), s5, s6]
theorem tab_step {Fc Fs Fr : Fn} {ns : List Int} {a : Nat} {n : Int} {o : List Int} {Ok : List Int → Prop} (hc : ∀ k : Nat, ∃ r : Int, Fc [.scr ns, .int k] = .ok (.int r, false)) (hs : ∀ c : Int, ∃ s, Fs [.int c, .int n] = .ok (.tup (s.map .int), false) ∧ Ok s) (hr : ∀ c : Int, ∃ s, Fr [.int c, .tup (o.map .int)] = .ok (.tup (s.map .int), false) ∧ Ok s)
    (T : List (List Int)) (hT : T.length ≤ 100) (j : Nat) (s6 : Pv.Slot) : ∃ T' s6', tabB Fc Fs Fr (tabS ns a n o T (.val (.int j)) s6) = .ok .nx (tabS ns a n o T' (.val (.int j)) s6') ∧ (T' = T ∨ ∃ s, Ok s ∧ T' = T ++ [s]) := by
  unfold tabB tabS
  have hl : (tabV T).length < 16777216 := by unfold tabV; rw [List.length_map]; omega
  by_cases c : a + j < ns.length
  · obtain ⟨r, e⟩ := hc (a + j)
    have e' : Fc [.scr ns, .int ((a : Int) + (j : Int))] = .ok (.int r, false) := e
    have c' : (a : Int) + (j : Int) < (ns.length : Int) := by omega
    obtain ⟨s, es, ks⟩ := hs ((r + j) / 8)
    obtain ⟨t, et, kt⟩ := hr ((r + j) / 8)
    by_cases q : (r + j) % 8 = 3
    · refine ⟨T ++ [s], .val (.int (r + j)), ?_, .inr ⟨s, ks, rfl⟩⟩
      have ea : tabV (T ++ [s]) = tabV T ++ [.tup (s.map .int)] := by unfold tabV; rw [List.map_append]; rfl
      rw [ea]
      generalize tabV T = V at *
      generalize o.map PV.int = O at *
      generalize s.map PV.int = W at *
      simp [c', e', q, es, hl]
    · refine ⟨T ++ [t], .val (.int (r + j)), ?_, .inr ⟨t, kt, rfl⟩⟩
      have ea : tabV (T ++ [t]) = tabV T ++ [.tup (t.map .int)] := by unfold tabV; rw [List.map_append]; rfl
      rw [ea]
      generalize tabV T = V at *
      generalize o.map PV.int = O at *
      generalize t.map PV.int = W at *
      simp [c', e', q, et, hl]
  · have c' : ¬ (a : Int) + (j : Int) < (ns.length : Int) := by omega
    refine ⟨T, s6, ?_, .inl rfl⟩
    simp [c']
theorem tab_loop {Fc Fs Fr : Fn} {ns : List Int} {a : Nat} {n : Int} {o : List Int} {Ok : List Int → Prop} (hc : ∀ k : Nat, ∃ r : Int, Fc [.scr ns, .int k] = .ok (.int r, false)) (hs : ∀ c : Int, ∃ s, Fs [.int c, .int n] = .ok (.tup (s.map .int), false) ∧ Ok s) (hr : ∀ c : Int, ∃ s, Fr [.int c, .tup (o.map .int)] = .ok (.tup (s.map .int), false) ∧ Ok s) :
    ∃ (T : List (List Int)) (s5 s6 : Pv.Slot), loop (tName 5) (tabB Fc Fs Fr) (rgP 0 8) (tabS ns a n o [] .no .no) = .ok .nx (tabS ns a n o T s5 s6) ∧ T.length ≤ 8 ∧ ∀ s ∈ T, Ok s := by
  obtain ⟨ev', e1, e2⟩ := loop_inv (t := tName 5) (mb := tabB Fc Fs Fr) (ps := rgP 0 8) (I := fun k ev => k ≤ 8 ∧ ∃ (T : List (List Int)) (s5 s6 : Pv.Slot), ev = tabS ns a n o T s5 s6 ∧ T.length ≤ k ∧ ∀ s ∈ T, Ok s) (Q := fun _ => False) 0 (ev := tabS ns a n o [] .no .no)
    (fun j p ev hp hI => by
      obtain ⟨hj, rfl⟩ := rgP_get hp
      obtain ⟨hk, T, s5, s6, rfl, hT, hO⟩ := hI
      obtain ⟨T', s6', e, hT'⟩ := tab_step (a := a) hc hs hr T (by omega) j s6
      refine ⟨tabS ns a n o T (.val (.int j)) s6, by rw [Int.zero_add]; rfl, .inl ⟨_, e, by omega, T', _, s6', rfl, ?_, ?_⟩⟩
      · rcases hT' with rfl | ⟨s, _, rfl⟩
        · omega
        · rw [List.length_append, List.length_singleton]; omega
      · rcases hT' with rfl | ⟨s, ks, rfl⟩
        · exact hO
        · intro t ht
          rcases List.mem_append.mp ht with ht | ht
          · exact hO t ht
          · rw [List.mem_singleton] at ht
            rw [ht]; exact ks)
    ⟨by omega, [], .no, .no, rfl, Nat.le_refl _, fun s hs => by cases hs⟩
  rcases e2 with ⟨_, T, s5, s6, rfl, hT, hO⟩ | h
  · rw [rgP_len] at hT
    exact ⟨T, s5, s6, e1, by omega, hO⟩
  · exact h.elim
theorem table_lem (ns : List Int) (a : Nat) (n : Nat) (o : List Int) (h1 : 1 ≤ n) (h : n ≤ 24) (ho : o.Perm (Pv.upTo 0 n)) : ∃ T : List (List Int), fn__law_table [.scr ns, .int a, .int n, .tup (o.map .int)] = .ok (.tup (tabV T), false) ∧ T.length ≤ 8 ∧ ∀ s ∈ T, isSet n s = true := by
  have ol : o.length = n := by rw [ho.length_eq, upTo_len]
  have hn : 1 ≤ (n : Int) ∧ (n : Int) ≤ 24 := by omega
  obtain ⟨T, s5, s6, e, hT, hO⟩ := tab_loop (Fc := fn__law_cell) (Fs := fn__law_set) (Fr := fn__law_stretch) (ns := ns) (a := a) (n := n) (o := o) (Ok := fun s => isSet n s = true) (fun k => cell_ok ns k)
    (fun c => ⟨_, lawset_ok c n (by omega) (by omega), by unfold drawnSet; exact filter_set hn _⟩)
    (fun c => by
      obtain ⟨S, eS, hS⟩ := stretch_lem c o (by omega) (by omega)
      refine ⟨_, eS, isort_set hn ((ho.nodup_iff.mpr (upTo_nodup _)).sublist hS) fun t ht => ?_⟩
      rw [Int.toNat_natCast]
      exact ho.mem_iff.mp (hS.subset ht))
  refine ⟨T, ?_, hT, hO⟩
  have key : ∀ ev : SL, mRng1 (kCons (look (eC (.int 8))) (Pv.ret [])) ev = .ok (rgP 0 8) ev := fun ev => rng1_nat (n := 8) rfl (by omega)
  generalize rgP 0 8 = q at e key
  unfold fn__law_table st__law_table
  refine runF_ok (ev' := tabS ns a n o T s5 s6) ?_ rfl (by decide)
  refine (sq_nx (ev' := tabS ns a n o [] .no .no) (by unfold tabS; generalize o.map PV.int = O; simp [tabV])).trans ?_
  refine (sq_nx (ev' := tabS ns a n o T s5 s6) ((bnd_ok (key _)).trans e)).trans ?_
  refine sq_rt ?_
  unfold tabS
  generalize o.map PV.int = O
  generalize tabV T = V
  simp
end K14

set_option Elab.async false
set_option linter.all false
set_option maxRecDepth 100000
namespace K14
open Pv PySem PySem.Spec L2
open PyProof.Rows hiding St
/-! ### check_table, opened_table -/
def ctB (F : Fn) : M Fl := sq (bnd (eFn F (aCons (eVar 0) (aCons (eVar 2) (Pv.ret [])))) fun _ => Pv.ret .nx) (Pv.ret .nx)
theorem ct_loop {F : Fn} {n : Int} {v : PV} : ∀ (T : List (List Int)) (s2 : Pv.Slot), (∀ s ∈ T, F [.int n, .tup (s.map .int)] = .ok (.tup (s.map .int), false)) → ∃ s2', loop (tName 2) (ctB F) (tabV T) [.val (.int n), .val v, s2] = .ok .nx [.val (.int n), .val v, s2']
  | [], s2, _ => ⟨s2, rfl⟩
  | t :: T, s2, h => by
    obtain ⟨s2', e⟩ := ct_loop (F := F) (n := n) (v := v) T (.val (.tup (t.map .int))) fun s hs => h s (by simp [hs])
    refine ⟨s2', ?_⟩
    have h1 := h t (by simp)
    have ea : tabV (t :: T) = .tup (t.map .int) :: tabV T := rfl
    have eb : ctB F [.val (.int n), .val v, .val (.tup (t.map .int))] = .ok .nx [.val (.int n), .val v, .val (.tup (t.map .int))] := by
      unfold ctB
      generalize t.map PV.int = W at *
      simp [h1]
    have et : tName 2 (.tup (t.map .int)) [.val (.int n), .val v, s2] = some [.val (.int n), .val v, .val (.tup (t.map .int))] := rfl
    rw [ea, loop]
    simp only [et, eb, e]
theorem table_ok (n : Int) (T : List (List Int)) (h : 1 ≤ n ∧ n ≤ 24) (hT : T.length ≤ 40) (hs : ∀ s ∈ T, isSet n s = true) : fn_check_table [.int n, .tup (tabV T)] = .ok (.tup (tabV T), false) := by
  have e0 := num_ok n
  rw [decide_eq_true h] at e0
  obtain ⟨s2', e⟩ := ct_loop (F := fn_check_set) (n := n) (v := .tup (tabV T)) T .no fun s q => by rw [set_ok, if_pos (hs s q)]
  have hl : ¬ (40 : Int) < ((tabV T).length : Int) := by unfold tabV; rw [List.length_map]; omega
  unfold fn_check_table st_check_table
  refine runF_ok (ev' := [.val (.int n), .val (.tup (tabV T)), s2']) ?_ rfl (by decide)
  have a1 : ∀ F : Fn, F [.int n] = .ok (.bl true, false) → mIfS (mNot (tTru (look (eFn F (aCons (eVar 0) (Pv.ret [])))))) (sq (mRaise "InvalidTable") (Pv.ret .nx)) (Pv.ret .nx) [.val (.int n), .val (.tup (tabV T)), .no] = .ok .nx [.val (.int n), .val (.tup (tabV T)), .no] := fun F q => by
    generalize tabV T = V
    simp [q]
  refine (sq_nx (a1 _ e0)).trans ?_
  refine (sq_nx (ev' := [.val (.int n), .val (.tup (tabV T)), .no]) (by generalize tabV T = V at *; simp [hl])).trans ?_
  refine (sq_nx (ev' := [.val (.int n), .val (.tup (tabV T)), s2']) ((bnd_ok (ev' := [.val (.int n), .val (.tup (tabV T)), .no]) (a := tabV T) (by generalize tabV T = V; simp)).trans e)).trans ?_
  refine sq_rt ?_
  generalize tabV T = V
  simp
def opn (n : Int) (s : List Int) : List Int := if 0 ∈ s then others n s else s
theorem compr_tab {v : Nat} {me : M RV} {g : List Int → List Int} {ev : SL} (h : ev[v]? = some .no) : ∀ (T : List (List Int)) (acc : List PV), (∀ s ∈ T, me (ev.set v (.val (.tup (s.map .int)))) = .ok (.tup ((g s).map .int), false) (ev.set v (.val (.tup (s.map .int))))) → acc.length + T.length ≤ SZ → compr (tName v) (Pv.ret true) me [v] acc (tabV T) ev = .ok (acc ++ tabV (T.map g)) ev
  | [], acc, _, _ => by
    have : tabV [] = [] := rfl
    rw [this, compr, List.map_nil, this, List.append_nil]
    rfl
  | t :: T, acc, hm, hz => by
    rw [List.length_cons] at hz
    have ea : tabV (t :: T) = .tup (t.map .int) :: tabV T := rfl
    have eb : tabV ((t :: T).map g) = .tup ((g t).map .int) :: tabV (T.map g) := rfl
    have h1 := turn_map h (hm t (by simp))
    rw [ea, compr]
    simp only [h1]
    rw [if_pos (by omega), wipe_one h, compr_tab (g := g) h T (acc ++ [PV.tup ((g t).map PV.int)]) (fun s hs => hm s (by simp [hs])) (by rw [List.length_append, List.length_singleton]; omega), eb, List.append_assoc]
    rfl
end K14

set_option Elab.async false
set_option linter.all false
set_option maxRecDepth 100000
namespace K14
open Pv PySem PySem.Spec L2
open PyProof.Rows hiding St
theorem opened_ok (n : Int) (T : List (List Int)) (h : 1 ≤ n ∧ n ≤ 24) (hT : T.length ≤ 40) (hs : ∀ s ∈ T, isSet n s = true) : fn_opened_table [.int n, .tup (tabV T)] = .ok (.tup (tabV (T.map (opn n) ++ [Pv.upTo 1 (n - 1).toNat])), false) := by
  have e1 := table_ok n T h hT hs
  have a1 : ∀ F : Fn, F [.int n, .tup (tabV T)] = .ok (.tup (tabV T), false) → bnd (eFn F (aCons (eVar 0) (aCons (eVar 1) (Pv.ret [])))) (fun _ => Pv.ret Fl.nx) [.val (.int n), .val (.tup (tabV T)), .no, .no] = .ok .nx [.val (.int n), .val (.tup (tabV T)), .no, .no] := fun F q => by
    generalize tabV T = V at *
    simp [q]
  have hm : ∀ s ∈ T, (mIf (blOf (eOp (gIn false) (look (eC (.int 0))) (pVar 3))) (eFn fn_others_of (aCons (eVar 0) (aCons (eVar 3) (Pv.ret [])))) (eVar 3)) [.val (.int n), .val (.tup (tabV T)), .no, .val (.tup (s.map .int))] = .ok (.tup ((opn n s).map .int), false) [.val (.int n), .val (.tup (tabV T)), .no, .val (.tup (s.map .int))] := fun s _ => by
    have e2 := others_ok n s (by omega) h.2
    have q : ∀ F : Fn, F [.int n, .tup (s.map .int)] = .ok (.tup ((others n s).map .int), false) → (mIf (blOf (eOp (gIn false) (look (eC (.int 0))) (pVar 3))) (eFn F (aCons (eVar 0) (aCons (eVar 3) (Pv.ret [])))) (eVar 3)) [.val (.int n), .val (.tup (tabV T)), .no, .val (.tup (s.map .int))] = .ok (.tup ((opn n s).map .int), false) [.val (.int n), .val (.tup (tabV T)), .no, .val (.tup (s.map .int))] := fun F q => by
      generalize tabV T = V at *
      have g := gIn_tup false 0 s
      unfold opn
      by_cases c : (0 : Int) ∈ s
      · rw [if_pos c]
        rw [decide_eq_true c] at g
        generalize s.map PV.int = W at *
        generalize (others n s).map PV.int = O at *
        simp [g, q]
      · rw [if_neg c]
        rw [decide_eq_false c] at g
        generalize s.map PV.int = W at *
        simp [g]
    exact q _ e2
  have hc := compr_tab (v := 3) (g := opn n) (ev := [.val (.int n), .val (.tup (tabV T)), .no, .no]) rfl T [] hm (by rw [List.length_nil, SZ]; omega)
  rw [List.nil_append] at hc
  have h2 : ∀ me : M RV, compr (tName 3) (Pv.ret true) me [3] [] (tabV T) [.val (.int n), .val (.tup (tabV T)), .no, .no] = .ok (tabV (T.map (opn n))) [.val (.int n), .val (.tup (tabV T)), .no, .no] → mComp (mSeq (eVar 1)) (tName 3) (Pv.ret true) me [3] [.val (.int n), .val (.tup (tabV T)), .no, .no] = .ok (.lst (tabV (T.map (opn n))), true) [.val (.int n), .val (.tup (tabV T)), .no, .no] := fun me q => by
    refine comp_ok (ps := tabV T) (ev1 := [.val (.int n), .val (.tup (tabV T)), .no, .no]) ?_ q
    generalize tabV T = V
    simp
  unfold fn_opened_table st_opened_table
  refine runF_ok (ev' := [.val (.int n), .val (.tup (tabV T)), .val (.lst (tabV (T.map (opn n)))), .no]) ?_ rfl (by decide)
  refine (sq_nx (a1 _ e1)).trans ?_
  refine (sq_nx (ev' := [.val (.int n), .val (.tup (tabV T)), .own (tabV (T.map (opn n))), .no]) ((bnd_ok (h2 _ hc)).trans rfl)).trans ?_
  refine sq_rt ?_
  have er : okRg (1, n) = true := by
    unfold okRg okR
    simp only [Bool.and_eq_true, decide_eq_true_eq]
    have : SZ = 16777216 := rfl
    omega
  have el : (tabV (T.map (opn n))).length + 1 ≤ 16777216 := by unfold tabV; rw [List.length_map, List.length_map]; omega
  have ea : tabV (T.map (opn n) ++ [Pv.upTo 1 (n - 1).toNat]) = tabV (T.map (opn n)) ++ [.tup (rgP 1 (n - 1).toNat)] := by
    unfold tabV
    rw [List.map_append, List.map_cons, List.map_nil, rgP_eq]
  rw [ea]
  generalize tabV T = V
  generalize tabV (T.map (opn n)) = U at *
  have hr : mRg2 (look (eC (.int 1))) (pVar 0) [.val (.int n), .val (.tup V), .val (.lst U), .no] = .ok ((1 : Int), n) [.val (.int n), .val (.tup V), .val (.lst U), .no] := rfl
  simp [aStar, er, el, hr]
end K14


set_option Elab.async false
set_option linter.all false
set_option maxRecDepth 100000
namespace K14
open Pv PySem PySem.Spec L2
open PyProof.Rows hiding St
def l1 (F_law_digits F_law_rich F_law_cell : Fn) : M Fl := bnd (eFn F_law_digits (aCons (eFn F_law_rich (aCons (eFn F_law_cell (aCons (eVar 0) (aCons (eC (.int 0)) (Pv.ret [])))) (Pv.ret []))) (aCons (mLst (aCons (eC (.int 24)) (aCons (eC (.int 2)) (aCons (eC (.int 3)) (aCons (eC (.int 24)) (aCons (eC (.int 24)) (Pv.ret []))))))) (Pv.ret [])))) (setR 1)
def l2 : M Fl := bnd (eOp gAdd (look (eC (.int 1))) (look (eOp gIx (look (mLst (aCons (eOp gIx (pVar 1) (look (eC (.int 0)))) (aCons (eOp aMod (look (eCall gInt (kCons (look (eOp gIx (pVar 1) (look (eC (.int 0))))) (Pv.ret [])))) (look (eC (.int 7)))) (Pv.ret []))))) (look (eOp gIx (pVar 1) (look (eC (.int 1)))))))) (setR 2)
def l3 (F_law_order F_law_cell : Fn) : M Fl := bnd (eFn F_law_order (aCons (eFn F_law_cell (aCons (eVar 0) (aCons (eC (.int 1)) (Pv.ret [])))) (aCons (eVar 2) (Pv.ret [])))) (setR 3)
def l4 : M Fl := bnd (mIndex (pVar 3) (look (eC (.int 0)))) (setR 4)
def l5 : M Fl := bnd (eOp gAdd (look (eSl (pVar 3) (soInt (pVar 4)) (Pv.ret none))) (look (eSl (pVar 3) (Pv.ret none) (soInt (pVar 4))))) (setR 5)
def l6 : M Fl := bnd (eOp gAdd (pVar 5) (pVar 5)) (setR 6)
def l7 : M Fl := bnd (eOp aMod (look (eCall gInt (kCons (look (eOp gIx (pVar 1) (look (eC (.int 3))))) (Pv.ret [])))) (pVar 2)) (setR 7)
def l8 : M Fl := bnd (eCall gTuple (kCons (look (eCall gSorted (kCons (look (eSl (pVar 6) (soInt (pVar 7)) (soInt (look (eOp gAdd (pVar 7) (look (eOp aMod (look (eCall gInt (kCons (look (eOp gIx (pVar 1) (look (eC (.int 4))))) (Pv.ret [])))) (pVar 2)))))))) (Pv.ret [])))) (Pv.ret []))) (setR 8)
def l9 (F_law_set F_law_cell : Fn) : M Fl := mIfS (blOf (eOp (gEq false) (look (eOp gIx (pVar 1) (look (eC (.int 2))))) (look (eC (.int 0))))) (sq (bnd (eFn F_law_set (aCons (eFn F_law_cell (aCons (eVar 0) (aCons (eC (.int 2)) (Pv.ret [])))) (aCons (eVar 2) (Pv.ret [])))) (setR 8)) (Pv.ret .nx)) (Pv.ret .nx)
def l10 (F_law_is_bool Fstands_around F_law_is_arc : Fn) : M Fl := mIfS (mNot (tTru (look (eFn F_law_is_bool (aCons (eFn Fstands_around (aCons (eVar 5) (aCons (eVar 8) (Pv.ret [])))) (aCons (eFn F_law_is_arc (aCons (eVar 5) (aCons (eVar 8) (Pv.ret [])))) (Pv.ret []))))))) (sq (bnd (eC (.bl false)) mRet) (Pv.ret .nx)) (Pv.ret .nx)
def l11 (F_law_table : Fn) : M Fl := bnd (eOp gAdd (look (eFn F_law_table (aCons (eVar 0) (aCons (eC (.int 4)) (aCons (eVar 2) (aCons (eVar 3) (Pv.ret []))))))) (look (mTup (aCons (eVar 8) (Pv.ret []))))) (setR 9)
def l12 (Fopened_table : Fn) : M Fl := bnd (eFn Fopened_table (aCons (eVar 2) (aCons (eVar 9) (Pv.ret [])))) (setR 10)
def l13 : M Fl := bnd (mLst (Pv.ret [])) (setR 11)
def l14 : M Fl := bnd (mSeq (eVar 9)) (loop (tName 12) (sq (mIfS (blOf (eOp (gIn false) (look (eC (.int 0))) (pVar 12))) (sq (mMet 11 (aCons (eCall gTuple (kCons (look (mComp (mRng1 (kCons (pVar 2) (Pv.ret []))) (tName 13) (blOf (eOp (gIn true) (pVar 13) (pVar 12))) (eVar 13) [13])) (Pv.ret []))) (Pv.ret [])) gAppend) (Pv.ret .nx)) (sq (mMet 11 (aCons (eVar 12) (Pv.ret [])) gAppend) (Pv.ret .nx))) (Pv.ret .nx)))
def l15 : M Fl := mIfS (blOf (eOp (gEq true) (pVar 10) (look (eOp gAdd (look (eCall gTuple (kCons (pVar 11) (Pv.ret [])))) (look (mTup (aCons (eCall gTuple (kCons (look (mComp (mRng2 (kCons (look (eC (.int 1))) (kCons (pVar 2) (Pv.ret [])))) (tName 13) (Pv.ret true) (eVar 13) [13])) (Pv.ret []))) (Pv.ret [])))))))) (sq (bnd (eC (.bl false)) mRet) (Pv.ret .nx)) (Pv.ret .nx)
def l16 : M Fl := mIfS (blOf (eOp (gEq false) (pVar 2) (look (eC (.int 1))))) (sq (bnd (eC (.bl true)) mRet) (Pv.ret .nx)) (Pv.ret .nx)
def l17 (Fstands_around : Fn) : M Fl := mTryO (sq (bnd (eFn Fstands_around (aCons (eOp gAdd (look (eSl (pVar 5) (soInt (look (eC (.int 1)))) (Pv.ret none))) (look (eSl (pVar 5) (Pv.ret none) (soInt (look (eC (.int 1))))))) (aCons (eVar 8) (Pv.ret [])))) fun _ => Pv.ret .nx) (Pv.ret .nx)) is_law (fun _ => sq (bnd (eC (.bl true)) mRet) (Pv.ret .nx))
def l18 : M Fl := bnd (eC (.bl false)) mRet
/-! ### the stages of law -/
section
variable {ns : List Int} {A B C D E n k : Int} {dr o r c : List PV}
def D5 (A B C D E : Int) : List PV := [.int A, .int B, .int C, .int D, .int E]
theorem d5_0 : atI (D5 A B C D E) 0 = some (.int A) := p0
theorem d5_1 : atI (D5 A B C D E) 1 = some (.int B) := p1
theorem d5_2 : atI (D5 A B C D E) 2 = some (.int C) := (atI_nat rfl : atI (D5 A B C D E) ((2 : Nat) : Int) = _)
theorem d5_3 : atI (D5 A B C D E) 3 = some (.int D) := (atI_nat rfl : atI (D5 A B C D E) ((3 : Nat) : Int) = _)
theorem d5_4 : atI (D5 A B C D E) 4 = some (.int E) := (atI_nat rfl : atI (D5 A B C D E) ((4 : Nat) : Int) = _)
theorem l1_ok {Fd Fr Fc : Fn} {c r : Int} (h1 : Fc [.scr ns, .int 0] = .ok (.int c, false)) (h2 : Fr [.int c] = .ok (.int r, false)) (h3 : Fd [.int r, .lst [.int 24, .int 2, .int 3, .int 24, .int 24]] = .ok (.lst (D5 A B C D E), true)) :
    l1 Fd Fr Fc [.val (.scr ns), .no, .no, .no, .no, .no, .no, .no, .no, .no, .no, .no, .no, .no] = .ok .nx [.val (.scr ns), .own (D5 A B C D E), .no, .no, .no, .no, .no, .no, .no, .no, .no, .no, .no, .no] := by
  unfold l1
  simp [h1, h2, h3]
theorem l2_ok (hB : 0 ≤ B) (hB2 : B < 2) : l2 [.val (.scr ns), .own (D5 A B C D E), .no, .no, .no, .no, .no, .no, .no, .no, .no, .no, .no, .no] = .ok .nx [.val (.scr ns), .own (D5 A B C D E), .val (.int (1 + if B = 0 then A else A % 7)), .no, .no, .no, .no, .no, .no, .no, .no, .no, .no, .no] := by
  unfold l2
  have : B = 0 ∨ B = 1 := by omega
  rcases this with h | h
  · subst h
    simp [d5_0, d5_1, p0]
  · subst h
    simp [d5_0, d5_1, p1]
theorem l3_ok {Fo Fc : Fn} {c : Int} (h1 : Fc [.scr ns, .int 1] = .ok (.int c, false)) (h2 : Fo [.int c, .int n] = .ok (.tup dr, false)) :
    l3 Fo Fc [.val (.scr ns), .own (D5 A B C D E), .val (.int n), .no, .no, .no, .no, .no, .no, .no, .no, .no, .no, .no] = .ok .nx [.val (.scr ns), .own (D5 A B C D E), .val (.int n), .val (.tup dr), .no, .no, .no, .no, .no, .no, .no, .no, .no, .no] := by
  unfold l3
  simp [h1, h2]
theorem l4_ok (h : gIndexT (.tup dr) (.int 0) = some (.int k, false)) : l4 [.val (.scr ns), .own (D5 A B C D E), .val (.int n), .val (.tup dr), .no, .no, .no, .no, .no, .no, .no, .no, .no, .no] = .ok .nx [.val (.scr ns), .own (D5 A B C D E), .val (.int n), .val (.tup dr), .val (.int k), .no, .no, .no, .no, .no, .no, .no, .no, .no] := by
  unfold l4 mIndex
  simp [h]
theorem l5_ok (h : cutP dr (some k) none ++ cutP dr none (some k) = o) (hl : o.length ≤ 24) : l5 [.val (.scr ns), .own (D5 A B C D E), .val (.int n), .val (.tup dr), .val (.int k), .no, .no, .no, .no, .no, .no, .no, .no, .no] = .ok .nx [.val (.scr ns), .own (D5 A B C D E), .val (.int n), .val (.tup dr), .val (.int k), .val (.tup o), .no, .no, .no, .no, .no, .no, .no, .no] := by
  unfold l5
  have hz : (cutP dr (some k) none).length + (cutP dr none (some k)).length ≤ 16777216 := by rw [← List.length_append, h]; omega
  simp [h, hz]
theorem l6_ok (hl : o.length ≤ 24) : l6 [.val (.scr ns), .own (D5 A B C D E), .val (.int n), .val (.tup dr), .val (.int k), .val (.tup o), .no, .no, .no, .no, .no, .no, .no, .no] = .ok .nx [.val (.scr ns), .own (D5 A B C D E), .val (.int n), .val (.tup dr), .val (.int k), .val (.tup o), .val (.tup (o ++ o)), .no, .no, .no, .no, .no, .no, .no] := by
  unfold l6
  have hz : o.length + o.length ≤ 16777216 := by omega
  simp [hz]
theorem l7_ok (hn : 0 < n) : l7 [.val (.scr ns), .own (D5 A B C D E), .val (.int n), .val (.tup dr), .val (.int k), .val (.tup o), .val (.tup r), .no, .no, .no, .no, .no, .no, .no] = .ok .nx [.val (.scr ns), .own (D5 A B C D E), .val (.int n), .val (.tup dr), .val (.int k), .val (.tup o), .val (.tup r), .val (.int (D % n)), .no, .no, .no, .no, .no, .no] := by
  unfold l7
  simp [d5_3, hn]
theorem l8_ok {s : Int} {x : List Int} (hn : 0 < n) (h : intsP (cutP r (some s) (some (s + E % n))) = some x) : l8 [.val (.scr ns), .own (D5 A B C D E), .val (.int n), .val (.tup dr), .val (.int k), .val (.tup o), .val (.tup r), .val (.int s), .no, .no, .no, .no, .no, .no] = .ok .nx [.val (.scr ns), .own (D5 A B C D E), .val (.int n), .val (.tup dr), .val (.int k), .val (.tup o), .val (.tup r), .val (.int s), .val (.tup ((isort x).map .int)), .no, .no, .no, .no, .no] := by
  unfold l8
  skip
  simp [d5_4, hn, h]
end
end K14

set_option Elab.async false
set_option linter.all false
set_option maxRecDepth 100000
namespace K14
open Pv PySem PySem.Spec L2
open PyProof.Rows hiding St
section
variable {ns : List Int} {A B C D E n k s : Int} {dr o r c T U : List PV}
theorem bool_ok (a b : Bool) : fn__law_is_bool [.bl a, .bl b] = .ok (.bl (decide (a = b)), false) := by
  have kb : kitB "bool" "bool" = some true := by decide +kernel
  have ty : tyP (.bl a) = some "bool" := rfl
  have ge : gEq false (.bl a) (.bl b) = some (.bl (decide (a = b)), false) := by
    show vB (xor false (decide (a = b))) = _
    rw [Bool.false_xor]; rfl
  unfold fn__law_is_bool st__law_is_bool
  simp [kb, ty, ge]
theorem l9_ok {Fs Fc : Fn} {c0 : Int} {c' : List PV} (h1 : Fc [.scr ns, .int 2] = .ok (.int c0, false)) (h2 : Fs [.int c0, .int n] = .ok (.tup c', false)) : l9 Fs Fc [.val (.scr ns), .own (D5 A B C D E), .val (.int n), .val (.tup dr), .val (.int k), .val (.tup o), .val (.tup r), .val (.int s), .val (.tup c), .no, .no, .no, .no, .no] = .ok .nx [.val (.scr ns), .own (D5 A B C D E), .val (.int n), .val (.tup dr), .val (.int k), .val (.tup o), .val (.tup r), .val (.int s), .val (.tup (if C = 0 then c' else c)), .no, .no, .no, .no, .no] := by
  unfold l9
  by_cases h : C = 0
  · simp [d5_2, h, h1, h2]
  · simp [d5_2, h]
theorem l10_ok {Fb Fs Fa : Fn} {a b : Bool} (h1 : Fs [.tup o, .tup c] = .ok (.bl a, false)) (h2 : Fa [.tup o, .tup c] = .ok (.bl b, false)) (h3 : Fb [.bl a, .bl b] = .ok (.bl true, false)) : l10 Fb Fs Fa [.val (.scr ns), .own (D5 A B C D E), .val (.int n), .val (.tup dr), .val (.int k), .val (.tup o), .val (.tup r), .val (.int s), .val (.tup c), .no, .no, .no, .no, .no] = .ok .nx [.val (.scr ns), .own (D5 A B C D E), .val (.int n), .val (.tup dr), .val (.int k), .val (.tup o), .val (.tup r), .val (.int s), .val (.tup c), .no, .no, .no, .no, .no] := by
  unfold l10
  simp [h1, h2, h3]
theorem l11_ok {Ft : Fn} (h1 : Ft [.scr ns, .int 4, .int n, .tup dr] = .ok (.tup T, false)) (hT : T.length ≤ 8) : l11 Ft [.val (.scr ns), .own (D5 A B C D E), .val (.int n), .val (.tup dr), .val (.int k), .val (.tup o), .val (.tup r), .val (.int s), .val (.tup c), .no, .no, .no, .no, .no] = .ok .nx [.val (.scr ns), .own (D5 A B C D E), .val (.int n), .val (.tup dr), .val (.int k), .val (.tup o), .val (.tup r), .val (.int s), .val (.tup c), .val (.tup (T ++ [.tup c])), .no, .no, .no, .no] := by
  have hz : T.length + 1 ≤ 16777216 := by omega
  unfold l11
  simp [h1, hz]
theorem l12_ok {Fo : Fn} (h1 : Fo [.int n, .tup T] = .ok (.tup U, false)) : l12 Fo [.val (.scr ns), .own (D5 A B C D E), .val (.int n), .val (.tup dr), .val (.int k), .val (.tup o), .val (.tup r), .val (.int s), .val (.tup c), .val (.tup T), .no, .no, .no, .no] = .ok .nx [.val (.scr ns), .own (D5 A B C D E), .val (.int n), .val (.tup dr), .val (.int k), .val (.tup o), .val (.tup r), .val (.int s), .val (.tup c), .val (.tup T), .val (.tup U), .no, .no, .no] := by
  unfold l12
  simp [h1]
theorem l13_ok : l13 [.val (.scr ns), .own (D5 A B C D E), .val (.int n), .val (.tup dr), .val (.int k), .val (.tup o), .val (.tup r), .val (.int s), .val (.tup c), .val (.tup T), .val (.tup U), .no, .no, .no] = .ok .nx [.val (.scr ns), .own (D5 A B C D E), .val (.int n), .val (.tup dr), .val (.int k), .val (.tup o), .val (.tup r), .val (.int s), .val (.tup c), .val (.tup T), .val (.tup U), .own [], .no, .no] := by
  unfold l13
  simp
def dueB : M Fl := sq (mIfS (blOf (eOp (gIn false) (look (eC (.int 0))) (pVar 12))) (sq (mMet 11 (aCons (eCall gTuple (kCons (look (mComp (mRng1 (kCons (pVar 2) (Pv.ret []))) (tName 13) (blOf (eOp (gIn true) (pVar 13) (pVar 12))) (eVar 13) [13])) (Pv.ret []))) (Pv.ret [])) gAppend) (Pv.ret .nx)) (sq (mMet 11 (aCons (eVar 12) (Pv.ret [])) gAppend) (Pv.ret .nx))) (Pv.ret .nx)
theorem due_step {V : List PV} (s0 s1 s3 s4 s5 s6 s7 s8 s9 s10 : Pv.Slot) (h : 1 ≤ n ∧ n ≤ 24) (S : List Int) (hV : V.length ≤ 1000) : dueB [s0, s1, .val (.int n), s3, s4, s5, s6, s7, s8, s9, s10, .own V, .val (.tup (S.map .int)), .no] = .ok .nx [s0, s1, .val (.int n), s3, s4, s5, s6, s7, s8, s9, s10, .own (V ++ [.tup ((opn n S).map .int)]), .val (.tup (S.map .int)), .no] := by
  have hz : V.length < 16777216 := by omega
  have g := gIn_tup false 0 S
  unfold dueB opn
  by_cases c : (0 : Int) ∈ S
  · rw [decide_eq_true c] at g
    rw [if_pos c]
    have hc : compr (tName 13) (blOf (eOp (gIn true) (pVar 13) (pVar 12))) (eVar 13) [13] [] (rgP 0 n.toNat) [s0, s1, .val (.int n), s3, s4, s5, s6, s7, s8, s9, s10, .own V, .val (.tup (S.map .int)), .no] = .ok ((others n S).map .int) [s0, s1, .val (.int n), s3, s4, s5, s6, s7, s8, s9, s10, .own V, .val (.tup (S.map .int)), .no] := by
      rw [rgP_eq]
      exact compr_int _ _ rfl (fun i _ => by simp [gIn_tup]) (by rw [upTo_len, SZ]; omega)
    have h2 : mComp (mRng1 (kCons (pVar 2) (Pv.ret []))) (tName 13) (blOf (eOp (gIn true) (pVar 13) (pVar 12))) (eVar 13) [13] [s0, s1, .val (.int n), s3, s4, s5, s6, s7, s8, s9, s10, .own V, .val (.tup (S.map .int)), .no] = .ok (.lst ((others n S).map .int), true) [s0, s1, .val (.int n), s3, s4, s5, s6, s7, s8, s9, s10, .own V, .val (.tup (S.map .int)), .no] :=
      comp_ok (rng1_ok (ev' := [s0, s1, .val (.int n), s3, s4, s5, s6, s7, s8, s9, s10, .own V, .val (.tup (S.map .int)), .no]) (by simp) (okR_mid (by omega) (by omega))) hc
    have q : ∀ m : M RV, m [s0, s1, .val (.int n), s3, s4, s5, s6, s7, s8, s9, s10, .own V, .val (.tup (S.map .int)), .no] = .ok (.lst ((others n S).map .int), true) [s0, s1, .val (.int n), s3, s4, s5, s6, s7, s8, s9, s10, .own V, .val (.tup (S.map .int)), .no] → sq (mIfS (blOf (eOp (gIn false) (look (eC (.int 0))) (pVar 12))) (sq (mMet 11 (aCons (eCall gTuple (kCons (look m) (Pv.ret []))) (Pv.ret [])) gAppend) (Pv.ret .nx)) (sq (mMet 11 (aCons (eVar 12) (Pv.ret [])) gAppend) (Pv.ret .nx))) (Pv.ret .nx) [s0, s1, .val (.int n), s3, s4, s5, s6, s7, s8, s9, s10, .own V, .val (.tup (S.map .int)), .no] = .ok .nx [s0, s1, .val (.int n), s3, s4, s5, s6, s7, s8, s9, s10, .own (V ++ [.tup ((others n S).map .int)]), .val (.tup (S.map .int)), .no] := fun m hm => by
      generalize S.map PV.int = W at *
      generalize (others n S).map PV.int = O at *
      simp [g, hm, hz]
    exact q _ h2
  · rw [decide_eq_false c] at g
    rw [if_neg c]
    generalize S.map PV.int = W at *
    simp [-mComp_ap, g, hz]
theorem due_loop (s0 s1 s3 s4 s5 s6 s7 s8 s9 s10 : Pv.Slot) (h : 1 ≤ n ∧ n ≤ 24) : ∀ (S : List (List Int)) (V : List PV) (s12 : Pv.Slot), V.length + S.length ≤ 1000 → ∃ s12', loop (tName 12) dueB (tabV S) [s0, s1, .val (.int n), s3, s4, s5, s6, s7, s8, s9, s10, .own V, s12, .no] = .ok .nx [s0, s1, .val (.int n), s3, s4, s5, s6, s7, s8, s9, s10, .own (V ++ tabV (S.map (opn n))), s12', .no]
  | [], V, s12, _ => ⟨s12, by show Pv.R.ok _ _ = _; rw [show tabV (([] : List (List Int)).map (opn n)) = [] from rfl, List.append_nil]⟩
  | t :: S, V, s12, hz => by
    rw [List.length_cons] at hz
    obtain ⟨s12', e⟩ := due_loop s0 s1 s3 s4 s5 s6 s7 s8 s9 s10 h S (V ++ [.tup ((opn n t).map .int)]) (.val (.tup (t.map .int))) (by rw [List.length_append, List.length_singleton]; omega)
    refine ⟨s12', ?_⟩
    have ea : tabV (t :: S) = .tup (t.map .int) :: tabV S := rfl
    have et : tName 12 (.tup (t.map .int)) [s0, s1, .val (.int n), s3, s4, s5, s6, s7, s8, s9, s10, .own V, s12, .no] = some [s0, s1, .val (.int n), s3, s4, s5, s6, s7, s8, s9, s10, .own V, .val (.tup (t.map .int)), .no] := rfl
    have eb := due_step (n := n) (V := V) s0 s1 s3 s4 s5 s6 s7 s8 s9 s10 h t (by omega)
    rw [ea, loop]
    simp only [et, eb, e]
    rw [show tabV ((t :: S).map (opn n)) = .tup ((opn n t).map .int) :: tabV (S.map (opn n)) from rfl, List.append_assoc]
    rfl
theorem l14_ok (h : 1 ≤ n ∧ n ≤ 24) (S : List (List Int)) (hS : S.length ≤ 40) : ∃ s12, l14 [.val (.scr ns), .own (D5 A B C D E), .val (.int n), .val (.tup dr), .val (.int k), .val (.tup o), .val (.tup r), .val (.int s), .val (.tup c), .val (.tup (tabV S)), .val (.tup U), .own [], .no, .no] = .ok .nx [.val (.scr ns), .own (D5 A B C D E), .val (.int n), .val (.tup dr), .val (.int k), .val (.tup o), .val (.tup r), .val (.int s), .val (.tup c), .val (.tup (tabV S)), .val (.tup U), .own (tabV (S.map (opn n))), s12, .no] := by
  obtain ⟨s12, e⟩ := due_loop (n := n) (.val (.scr ns)) (.own (D5 A B C D E)) (.val (.tup dr)) (.val (.int k)) (.val (.tup o)) (.val (.tup r)) (.val (.int s)) (.val (.tup c)) (.val (.tup (tabV S))) (.val (.tup U)) h S [] .no (by rw [List.length_nil]; omega)
  rw [List.nil_append] at e
  refine ⟨s12, ?_⟩
  show bnd (mSeq (eVar 9)) (loop (tName 12) dueB) _ = _
  refine (bnd_ok (a := tabV S) (ev' := [.val (.scr ns), .own (D5 A B C D E), .val (.int n), .val (.tup dr), .val (.int k), .val (.tup o), .val (.tup r), .val (.int s), .val (.tup c), .val (.tup (tabV S)), .val (.tup U), .own [], .no, .no]) ?_).trans e
  generalize tabV S = V
  simp
theorem l15_ok {s12 : Pv.Slot} {V : List PV} (h : 1 ≤ n ∧ n ≤ 24) (hV : V.length ≤ 40) (hU : gEq true (.tup U) (.tup (V ++ [.tup ((Pv.upTo 1 (n - 1).toNat).map .int)])) = some (.bl false, false)) :
    ∃ s11, l15 [.val (.scr ns), .own (D5 A B C D E), .val (.int n), .val (.tup dr), .val (.int k), .val (.tup o), .val (.tup r), .val (.int s), .val (.tup c), .val (.tup T), .val (.tup U), .own V, s12, .no] = .ok .nx [.val (.scr ns), .own (D5 A B C D E), .val (.int n), .val (.tup dr), .val (.int k), .val (.tup o), .val (.tup r), .val (.int s), .val (.tup c), .val (.tup T), .val (.tup U), s11, s12, .no] := by
  have key : ∀ s11 : Pv.Slot, mComp (mRng2 (kCons (look (eC (.int 1))) (kCons (pVar 2) (Pv.ret [])))) (tName 13) (Pv.ret true) (eVar 13) [13] [.val (.scr ns), .own (D5 A B C D E), .val (.int n), .val (.tup dr), .val (.int k), .val (.tup o), .val (.tup r), .val (.int s), .val (.tup c), .val (.tup T), .val (.tup U), s11, s12, .no] = .ok (.lst ((Pv.upTo 1 (n - 1).toNat).map .int), true) [.val (.scr ns), .own (D5 A B C D E), .val (.int n), .val (.tup dr), .val (.int k), .val (.tup o), .val (.tup r), .val (.int s), .val (.tup c), .val (.tup T), .val (.tup U), s11, s12, .no] := fun s11 => by
    refine comp_ok (ps := rgP 1 (n - 1).toNat) (ev1 := [.val (.scr ns), .own (D5 A B C D E), .val (.int n), .val (.tup dr), .val (.int k), .val (.tup o), .val (.tup r), .val (.int s), .val (.tup c), .val (.tup T), .val (.tup U), s11, s12, .no]) (ev2 := [.val (.scr ns), .own (D5 A B C D E), .val (.int n), .val (.tup dr), .val (.int k), .val (.tup o), .val (.tup r), .val (.int s), .val (.tup c), .val (.tup T), .val (.tup U), s11, s12, .no]) ?_ ?_
    · have r1 : okR 1 = true := by decide
      have r2 : okR n = true := okR_mid (by omega) (by omega)
      simp [r1, r2]
    · rw [compr_id (rgP 1 (n - 1).toNat) [] _ rfl (by rw [rgP_len, List.length_nil, SZ]; omega), rgP_eq, List.nil_append]
      rfl
  have hz : V.length + 1 ≤ 16777216 := by omega
  unfold l15
  generalize (Pv.upTo 1 (n - 1).toNat).map PV.int = Y at *
  refine ⟨.own V, (if_f (ev' := [.val (.scr ns), .own (D5 A B C D E), .val (.int n), .val (.tup dr), .val (.int k), .val (.tup o), .val (.tup r), .val (.int s), .val (.tup c), .val (.tup T), .val (.tup U), .own V, s12, .no]) ?_).trans rfl⟩
  simp [-mComp_ap, key, hz, hU]
end
end K14

set_option Elab.async false
set_option linter.all false
set_option maxRecDepth 100000
namespace K14
open Pv PySem PySem.Spec L2
open PyProof.Rows hiding St
/-! ### cuts -/
theorem cut_pre {α : Type} (xs : List α) (a : Nat) (h : a ≤ xs.length) : cutP xs none (some (a : Int)) = xs.take a := by
  unfold cutP
  rw [HT.sIx_nat, HT.sIx_none, Nat.min_eq_left h]
  rfl
theorem cut_suf {α : Type} (xs : List α) (a : Nat) : cutP xs (some (a : Int)) none = xs.drop a := by
  unfold cutP
  rw [HT.sIx_nat, HT.sIx_none]
  by_cases c : a ≤ xs.length
  · rw [Nat.min_eq_left c, List.take_of_length_le (by rw [List.length_drop]; omega)]
  · rw [Nat.min_eq_right (by omega), List.drop_of_length_le (Nat.le_refl _), List.drop_of_length_le (by omega), List.take_nil]
theorem cut_mid {α : Type} (xs : List α) (a k : Nat) (h : a ≤ xs.length) : cutP xs (some (a : Int)) (some ((a : Int) + (k : Int))) = (xs.drop a).take k := by
  unfold cutP
  rw [show ((a : Int) + (k : Int)) = ((a + k : Nat) : Int) by omega, HT.sIx_nat, HT.sIx_nat, Nat.min_eq_left h]
  by_cases c : a + k ≤ xs.length
  · rw [Nat.min_eq_left c, Nat.add_sub_cancel_left]
  · rw [Nat.min_eq_right (by omega), List.take_of_length_le (by rw [List.length_drop]; omega), List.take_of_length_le (by rw [List.length_drop]; omega)]
/-! ### tables may be compared -/
theorem toDs_tab : ∀ T : List (List Int), isDs (tabV T) = true ∧ PyData.canLayAll0 (toDs (tabV T)) = true ∧ PyData.depthAll (toDs (tabV T)) ≤ 1
  | [] => by
    unfold tabV
    rw [List.map_nil]
    unfold isDs toDs PyData.canLayAll0 PyData.depthAll
    exact ⟨rfl, rfl, by omega⟩
  | t :: T => by
    obtain ⟨h1, h2, h3⟩ := toDs_tab T
    rw [show tabV (t :: T) = .tup (t.map .int) :: tabV T from rfl]
    unfold isDs toDs PyData.canLayAll0 PyData.depthAll
    unfold isD toD PyData.canLay0 PyData.depth
    rw [h1, h2, isDs_ints, toDs_ints, lay_ints, depth_ints]
    exact ⟨rfl, rfl, by omega⟩
theorem okD_tab (T : List (List Int)) : okD (.tup (tabV T)) = true := by
  obtain ⟨h1, h2, h3⟩ := toDs_tab T
  unfold okD isD toD SeqAt.shaped PyData.canLay0 PyData.depth
  rw [h1, h2, decide_eq_true (by omega)]
  rfl
/-! ### an order around that does not begin with 0 -/
theorem around_exc (i : Int) (o l : List Int) (ho : isOrder ((i :: o).length : Nat) (i :: o) = true) (hi : i ≠ 0) : fn_stands_around [.tup ((i :: o).map .int), .tup (l.map .int)] = .exc "InvalidOrder" := by
  have e1 := head_ok i o ho
  rw [if_neg hi] at e1
  generalize hL : (i :: o).map PV.int = L at *
  have hz : (((i :: o).length : Nat) : Int) = (L.length : Int) := by rw [← hL, List.length_map]
  rw [hz] at e1
  have a1 : ∀ (F1 F2 F3 : Fn), F1 [.int L.length, .tup L] = .exc "InvalidOrder" →
      runF 3 2 (sq (bnd (eCall gLen (kCons (pVar 0) (Pv.ret []))) (setR 2)) (sq (bnd (eFn F1 (aCons (eVar 2) (aCons (eVar 0) (Pv.ret [])))) fun _ => Pv.ret .nx) (sq (bnd (vOr (eFn F2 (aCons (eVar 0) (aCons (eVar 1) (Pv.ret [])))) (eFn F2 (aCons (eVar 0) (aCons (eFn F3 (aCons (eVar 2) (aCons (eVar 1) (Pv.ret [])))) (Pv.ret []))))) mRet) (Pv.ret .nx)))) [.tup L, .tup (l.map .int)] = .exc "InvalidOrder" := fun F1 F2 F3 q1 => by
    generalize l.map PV.int = l' at *
    simp [q1]
  exact a1 _ _ _ e1
section
variable {ns : List Int} {A B C D E n k s : Int} {dr o r c T U : List PV}
theorem l16_one {s11 s12 : Pv.Slot} (h : n = 1) : l16 [.val (.scr ns), .own (D5 A B C D E), .val (.int n), .val (.tup dr), .val (.int k), .val (.tup o), .val (.tup r), .val (.int s), .val (.tup c), .val (.tup T), .val (.tup U), s11, s12, .no] = .ok (.rt (.bl true, false)) [.val (.scr ns), .own (D5 A B C D E), .val (.int n), .val (.tup dr), .val (.int k), .val (.tup o), .val (.tup r), .val (.int s), .val (.tup c), .val (.tup T), .val (.tup U), s11, s12, .no] := by
  unfold l16
  simp [h]
theorem l16_ne {s11 s12 : Pv.Slot} (h : n ≠ 1) : l16 [.val (.scr ns), .own (D5 A B C D E), .val (.int n), .val (.tup dr), .val (.int k), .val (.tup o), .val (.tup r), .val (.int s), .val (.tup c), .val (.tup T), .val (.tup U), s11, s12, .no] = .ok .nx [.val (.scr ns), .own (D5 A B C D E), .val (.int n), .val (.tup dr), .val (.int k), .val (.tup o), .val (.tup r), .val (.int s), .val (.tup c), .val (.tup T), .val (.tup U), s11, s12, .no] := by
  unfold l16
  simp [h]
theorem isl : is_law "InvalidOrder" = some true := by decide +kernel
theorem l17_ok {s11 s12 : Pv.Slot} {F : Fn} {o' : List PV} (h1 : cutP o (some 1) none ++ cutP o none (some 1) = o') (hl : o'.length ≤ 24) (h : F [.tup o', .tup c] = .exc "InvalidOrder") : l17 F [.val (.scr ns), .own (D5 A B C D E), .val (.int n), .val (.tup dr), .val (.int k), .val (.tup o), .val (.tup r), .val (.int s), .val (.tup c), .val (.tup T), .val (.tup U), s11, s12, .no] = .ok (.rt (.bl true, false)) [.val (.scr ns), .own (D5 A B C D E), .val (.int n), .val (.tup dr), .val (.int k), .val (.tup o), .val (.tup r), .val (.int s), .val (.tup c), .val (.tup T), .val (.tup U), s11, s12, .no] := by
  have hz : (cutP o (some 1) none).length + (cutP o none (some 1)).length ≤ 16777216 := by rw [← List.length_append, h1]; omega
  have hI := isl
  unfold l17 mTryO
  generalize is_law = I at *
  simp [h1, hz, h, hI]
end
theorem law_true (ns : List Int) (h : ns.length ≤ 63) : fn_law [.scr ns] = .ok (.bl true, false) := by
  obtain ⟨c0, e0⟩ : ∃ r : Int, fn__law_cell [.scr ns, .int 0] = .ok (.int r, false) := cell_ok ns 0
  obtain ⟨c1, e1⟩ : ∃ r : Int, fn__law_cell [.scr ns, .int 1] = .ok (.int r, false) := cell_ok ns 1
  obtain ⟨c2, e2⟩ : ∃ r : Int, fn__law_cell [.scr ns, .int 2] = .ok (.int r, false) := cell_ok ns 2
  have d0 := digits5 (richV c0)
  have a1 := Int.emod_nonneg (richV c0) (show (24 : Int) ≠ 0 by omega)
  have a2 := Int.emod_lt_of_pos (richV c0) (show (0 : Int) < 24 by omega)
  have b1 := Int.emod_nonneg (richV c0 / 24) (show (2 : Int) ≠ 0 by omega)
  have b2 := Int.emod_lt_of_pos (richV c0 / 24) (show (0 : Int) < 2 by omega)
  generalize richV c0 % 24 = A at *
  generalize richV c0 / 24 % 2 = B at *
  generalize richV c0 / 24 / 2 % 3 = C at *
  generalize richV c0 / 24 / 2 / 3 % 24 = D at *
  generalize richV c0 / 24 / 2 / 3 / 24 % 24 = E at *
  have hn0 : 1 ≤ (1 + if B = 0 then A else A % 7) ∧ (1 + if B = 0 then A else A % 7) ≤ 24 := by
    split <;> omega
  have t2 := l2_ok (ns := ns) (A := A) (C := C) (D := D) (E := E) b1 b2
  generalize (1 + if B = 0 then A else A % 7) = z at *
  obtain ⟨n, rfl⟩ : ∃ n : Nat, z = (n : Int) := ⟨z.toNat, by omega⟩
  obtain ⟨dr, ed, hP⟩ := order_ok c1 n (by omega)
  have hdl : dr.length = n := by rw [hP.length_eq, upTo_len]
  have h0 : (0 : Int) ∈ dr := hP.mem_iff.mpr (by
    unfold Pv.upTo
    exact List.mem_map.mpr ⟨0, List.mem_range.mpr (by omega), rfl⟩)
  have hk := List.idxOf_lt_length_of_mem h0
  have hg0 : dr[dr.idxOf 0] = 0 := List.getElem_idxOf hk
  have ek : gIndexT (.tup (dr.map .int)) (.int 0) = some (.int (dr.idxOf 0 : Nat), false) := by
    unfold gIndexT
    simp only [intsP_map, if_pos h0]
    rfl
  generalize dr.idxOf 0 = k at *
  -- the ring read on from 0
  have ho1 : dr.drop k = 0 :: dr.drop (k + 1) := by rw [List.drop_eq_getElem_cons hk, hg0]
  obtain ⟨o, ho⟩ : ∃ o, o = dr.drop k ++ dr.take k := ⟨_, rfl⟩
  have hoP : o.Perm dr := by
    rw [ho]
    refine List.perm_append_comm.trans ?_
    rw [List.take_append_drop]
  have hoP2 : o.Perm (Pv.upTo 0 n) := hoP.trans hP
  have hol : o.length = n := by rw [hoP2.length_eq, upTo_len]
  have hh : o = 0 :: (dr.drop (k + 1) ++ dr.take k) := by rw [ho, ho1, List.cons_append]
  have hoN : o.Nodup := hoP2.nodup_iff.mpr (upTo_nodup _)
  have isO : ∀ q : List Int, q.Perm (Pv.upTo 0 n) → isOrder q.length q = true := fun q hq => by
    have ql : q.length = n := by rw [hq.length_eq, upTo_len]
    unfold isOrder
    rw [ql, decide_eq_true (by omega), Int.toNat_natCast, decide_eq_true]
    · rfl
    · exact (isort_of hq.symm ((upTo_pair n).imp fun h => by omega)).symm
  have eo : cutP (dr.map PV.int) (some (k : Int)) none ++ cutP (dr.map PV.int) none (some (k : Int)) = o.map .int := by
    rw [cut_suf, cut_pre _ _ (by rw [List.length_map]; omega), ho, List.map_append, List.map_drop, List.map_take]
  -- the chosen set
  have s1 := Int.emod_nonneg D (show (n : Int) ≠ 0 by omega)
  have s2 := Int.emod_lt_of_pos D (show (0 : Int) < n by omega)
  have m1 := Int.emod_nonneg E (show (n : Int) ≠ 0 by omega)
  have m2 := Int.emod_lt_of_pos E (show (0 : Int) < n by omega)
  obtain ⟨s, hs⟩ : ∃ s : Nat, D % (n : Int) = (s : Int) := ⟨(D % (n : Int)).toNat, by omega⟩
  obtain ⟨m, hm⟩ : ∃ m : Nat, E % (n : Int) = (m : Int) := ⟨(E % (n : Int)).toNat, by omega⟩
  obtain ⟨x, hx⟩ : ∃ x, x = ((o ++ o).drop s).take m := ⟨_, rfl⟩
  have hxs : x.Sublist (o.drop s ++ o.take s) := by
    have : (o ++ o).drop s = (o.drop s ++ o.take s) ++ o.drop s := by
      rw [List.drop_append_of_le_length (by omega), List.append_assoc, List.take_append_drop]
    rw [hx, this, List.take_append_of_le_length (by rw [List.length_append, List.length_drop, List.length_take]; omega)]
    exact List.take_sublist _ _
  have hrP : (o.drop s ++ o.take s).Perm o := by
    refine List.perm_append_comm.trans ?_
    rw [List.take_append_drop]
  have hxN : x.Nodup := (hrP.nodup_iff.mpr hoN).sublist hxs
  have hxm : ∀ t ∈ x, t ∈ Pv.upTo 0 ((n : Int)).toNat := fun t ht => by
    rw [Int.toNat_natCast]
    exact hoP2.mem_iff.mp (hrP.mem_iff.mp (hxs.subset ht))
  have ex : intsP (cutP (o.map PV.int ++ o.map PV.int) (some (s : Int)) (some ((s : Int) + E % (n : Int)))) = some x := by
    rw [hm, cut_mid _ _ _ (by rw [List.length_append, List.length_map]; omega), ← List.map_append, ← List.map_drop, ← List.map_take, ← hx]
    exact intsP_map _
  have xS : isSet n (isort x) = true := isort_set (by omega) hxN hxm
  obtain ⟨ch, hch, eC⟩ : ∃ ch : List Int, isSet n ch = true ∧ (if C = 0 then (drawnSet c2 n).map PV.int else (isort x).map PV.int) = ch.map PV.int := by
    by_cases c : C = 0
    · exact ⟨drawnSet c2 n, by unfold drawnSet; exact filter_set (by omega) _, by rw [if_pos c]⟩
    · exact ⟨isort x, xS, by rw [if_neg c]⟩
  have eset := lawset_ok c2 n (by omega) (by omega)
  have hcl : isSet (o.length : Nat) ch = true := by rw [hol]; exact hch
  have eA := around_ok o ch (isO o hoP2) hcl ⟨_, hh⟩
  have eB := arc_ok o ch (by omega)
  rw [arc_eq (isO o hoP2) hcl] at eA
  obtain ⟨T, eT, hT, hTs⟩ := table_lem ns 4 n dr (by omega) (by omega) hP
  have eT' : fn__law_table [.scr ns, .int 4, .int n, .tup (dr.map .int)] = .ok (.tup (tabV T), false) := eT
  have hlT : (tabV T).length ≤ 8 := by unfold tabV; rw [List.length_map]; exact hT
  have eU := opened_ok n (T ++ [ch]) (by omega) (by rw [List.length_append, List.length_singleton]; omega) (fun t ht => by
    rcases List.mem_append.mp ht with ht | ht
    · exact hTs t ht
    · rw [List.mem_singleton] at ht
      rw [ht]; exact hch)
  have etab : tabV (T ++ [ch]) = tabV T ++ [.tup (ch.map .int)] := by unfold tabV; rw [List.map_append]; rfl
  obtain ⟨s12, e14⟩ := l14_ok (ns := ns) (A := A) (B := B) (C := C) (D := D) (E := E) (n := n) (k := (k : Int)) (s := (s : Int)) (dr := dr.map .int) (o := o.map .int) (r := o.map .int ++ o.map .int) (c := ch.map .int) (U := tabV ((T ++ [ch]).map (opn n) ++ [Pv.upTo 1 ((n : Int) - 1).toNat])) (by omega) (T ++ [ch]) (by rw [List.length_append, List.length_singleton]; omega)
  have eapp : tabV ((T ++ [ch]).map (opn n) ++ [Pv.upTo 1 ((n : Int) - 1).toNat]) = tabV ((T ++ [ch]).map (opn n)) ++ [.tup ((Pv.upTo 1 ((n : Int) - 1).toNat).map .int)] := by unfold tabV; rw [List.map_append]; rfl
  obtain ⟨s11, e15⟩ := l15_ok (ns := ns) (A := A) (B := B) (C := C) (D := D) (E := E) (n := n) (k := (k : Int)) (s := (s : Int)) (dr := dr.map .int) (o := o.map .int) (r := o.map .int ++ o.map .int) (c := ch.map .int) (T := tabV (T ++ [ch])) (U := tabV ((T ++ [ch]).map (opn n) ++ [Pv.upTo 1 ((n : Int) - 1).toNat])) (s12 := s12) (V := tabV ((T ++ [ch]).map (opn n))) (by omega) (by unfold tabV; rw [List.length_map, List.length_map, List.length_append, List.length_singleton]; omega) (by
    rw [← eapp]
    exact gEq_self true (okD_tab _))
  have end_ : ∃ ev', sq l16 (sq (l17 fn_stands_around) (sq l18 (Pv.ret .nx))) [.val (.scr ns), .own (D5 A B C D E), .val (.int n), .val (.tup (dr.map .int)), .val (.int (k : Int)), .val (.tup (o.map .int)), .val (.tup (o.map .int ++ o.map .int)), .val (.int (s : Int)), .val (.tup (ch.map .int)), .val (.tup (tabV (T ++ [ch]))), .val (.tup (tabV ((T ++ [ch]).map (opn n) ++ [Pv.upTo 1 ((n : Int) - 1).toNat]))), s11, s12, .no] = .ok (.rt (.bl true, false)) ev' := by
    by_cases c : (n : Int) = 1
    · exact ⟨_, sq_rt (l16_one c)⟩
    · refine ⟨_, (sq_nx (l16_ne c)).trans (sq_rt (l17_ok (o' := (o.drop 1 ++ o.take 1).map .int) ?_ ?_ ?_))⟩
      · rw [show (1 : Int) = ((1 : Nat) : Int) by rfl, cut_suf, cut_pre _ _ (by rw [List.length_map]; omega), List.map_append, List.map_drop, List.map_take]
      · rw [List.length_map, List.length_append, List.length_drop, List.length_take]; omega
      · have hP1 : (o.drop 1 ++ o.take 1).Perm o := by
          refine List.perm_append_comm.trans ?_
          rw [List.take_append_drop]
        have hO := isO _ (hP1.trans hoP2)
        have hN1 := hP1.nodup_iff.mpr hoN
        generalize dr.drop (k + 1) ++ dr.take k = t at hh
        subst hh
        cases t with
        | nil => rw [List.length_singleton] at hol; omega
        | cons i t =>
          have e : (0 :: i :: t).drop 1 ++ (0 :: i :: t).take 1 = i :: (t ++ [0]) := rfl
          rw [e] at hO hN1 ⊢
          refine around_exc i (t ++ [0]) ch hO fun hi => ?_
          subst hi
          exact (List.nodup_cons.mp hN1).1 (by simp)
  obtain ⟨ev', e17⟩ := end_
  unfold fn_law st_law
  refine runF_ok (ev' := ev') ?_ rfl (by decide)
  refine (sq_nx (l1_ok (ns := ns) (A := A) (B := B) (C := C) (D := D) (E := E) e0 (rich_eq c0) d0)).trans ?_
  refine (sq_nx t2).trans ?_
  refine (sq_nx (l3_ok e1 ed)).trans ?_
  refine (sq_nx (l4_ok ek)).trans ?_
  refine (sq_nx (l5_ok eo (by rw [List.length_map]; omega))).trans ?_
  refine (sq_nx (l6_ok (by rw [List.length_map]; omega))).trans ?_
  refine (sq_nx (l7_ok (by omega))).trans ?_
  rw [hs]
  refine (sq_nx (l8_ok (by omega) ex)).trans ?_
  refine (sq_nx (l9_ok e2 eset)).trans ?_
  rw [eC]
  refine (sq_nx (l10_ok eA eB (by rw [bool_ok]; simp))).trans ?_
  refine (sq_nx (l11_ok eT' hlT)).trans ?_
  rw [← etab]
  refine (sq_nx (l12_ok eU)).trans ?_
  refine (sq_nx l13_ok).trans ?_
  refine (sq_nx e14).trans ?_
  refine (sq_nx e15).trans ?_
  exact e17
end K14

set_option Elab.async false
set_option linter.all false
set_option maxRecDepth 100000
set_option maxHeartbeats 0
namespace K14
open Pv PySem PySem.Spec PySem.W L2
open PyProof.Rows hiding St
theorem run (w : World) : HandSHeadRun.RunEq R qv hk ob 4000 looseL w := fun os => by kernel_rfl
end K14
open PySem PySem.W PySem.Calls PyProof.Rows
theorem PySem.Challenge.cw_unpartedrows_k14_sets_around_a_ring_holds : PySem.Challenge.rw_unpartedrows_k14_sets_around_a_ring.Holds := by
  w_on; o_law
  refine HandSHeadRun.head_any (r := OpenLaw.row PySem.Challenge.rw_unpartedrows_k14_sets_around_a_ring) (q := K14.qv) (H := K14.hk) (ob := K14.ob) (M := 4000) (loose := K14.looseL) (d := HandSHeadRun.topDef (OpenLaw.row PySem.Challenge.rw_unpartedrows_k14_sets_around_a_ring).prog 29) (kwd := []) K14.ob_eq
    (by kernel_rfl) (fun s => by kernel_rfl) K14.run (by kernel_rfl) (by kernel_rfl) (by kernel_rfl) (by rfl) (by first | assumption | decide +kernel) (by decide +kernel) ⟨rfl, rfl, rfl, rfl, rfl, by decide +kernel⟩ ?hw ?hc
  case hw => w_witness2
  case hc =>
    refine Pv.walk_law (l := PySem.Challenge.rw_unpartedrows_k14_sets_around_a_ring) (n := 63) (k := 7) (x := "script") rfl (by decide) (by kernel_rfl) ⟨rfl, by decide, by decide⟩ ?F (fun w H s e s' ⟨_, _, _, _, _, _, _, _, _, _, _, _, h⟩ => h)
    intro w mg fa h Y G hmg0
    obtain ⟨K, KX, c⟩ := Y
    have hmg : mg ("law" : PySem.Str) = some (.ref fa) := by
      have e : (HandSHeadRun.topDef (OpenLaw.row PySem.Challenge.rw_unpartedrows_k14_sets_around_a_ring).prog 29).name = ("law" : PySem.Str) := by kernel_rfl
      rw [← e]
      exact hmg0
    obtain ⟨fd, hb, hF⟩ := K14.facts (P := (PySem.Challenge.rw_unpartedrows_k14_sets_around_a_ring).prog) (w := w) KX G hmg c
    exact ⟨K, fd, K14.fn_law, Pv.cmK K, KX, hb, K14.law_true, fun base _ _ => hF base⟩
