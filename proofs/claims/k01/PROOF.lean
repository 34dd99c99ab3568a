import PyProof.Rows.All
import HandS.HotCalls
import HandS.ForExc
import HandS.ForMost
import HandS.Style
import HandS.CallSlots
import HandS.TryOnly
import HandS.SortInts
import HandS.Wide
import HandS.TupMul
import HandS.Conv
import HandS.SortKw
import HandS.IsInst
import HandS.ExcIs
import HandS.More
import KE.KIndexOf
import HandS.Star
import HandS.Zip
import HandS.HeadHook4
import HandS.HeadEnd
import HandS.Head2
import HandS.SetFor
import HandS.ExcValue
import KE.KSortKeyAny
import HandS.Rev
import HandS.Iter
import KE.GoesEnum
import HandS.TupSets
import HandS.SortOrd
import HandS.SortRule
import HandS.Gcd
import KE.KMathGC
import HandS.WideBits
import HandS.TupAny
import PyProof.ZipIter
import PyProof.CallType
import PyProof.MeetsIn
import PyProof.Walk
import PyProof.WalkLemmas
import PyProof.RangeIter
import PyProof.RulesTry
import PyProof.TupleOfSeq
import HandS.TupLe
import HandS.FltList
import Wide.All
import OpenK.AllK
import Wide.FinOn
import KE.KStateDown
import Lean
import PySem.Challenge.RW_unpartedrows_k01_sets_tables_and_orders
set_option Elab.async false
set_option linter.all false
set_option maxRecDepth 100000
namespace Pv
open PySem PySem.Spec L2

/-! ### pure values -/
inductive PV where
  | non | bl (b : Bool) | int (i : Int) | str (x : Str) | tup (xs : List PV) | lst (xs : List PV) | opq (v : V) | scr (ns : List Int) | itm (xs : List PV)

abbrev Fr := PySem.W.Frag
abbrev FS := Addr → Prop

/-- a list that is read as shared: known to stand still, or written -/
def RdL (K : Fr) (F : FS) (H : Hp) (a : Addr) (xs : List V) : Prop :=
  (F a ∧ Rd H a (.lst xs)) ∨ ∃ (o : Obj) (its : Array Value) (n : Nat), K.lookup a = some o ∧ o.cls = .type "list" ∧ o.dict = none ∧ o.data = .seq its n ∧ its.size ≤ sizeLine ∧ Vals xs its.toList

/-- a tuple that is read: its object is known (no dict of its own) -/
def TpX (K : Fr) (H : Hp) (a : Addr) (xs : List V) : Prop :=
  (∃ o : Obj, H a = some (.frz o (.tup xs)) ∧ o.cls = .type "tuple" ∧ o.dict = none) ∨ ∃ (o : Obj) (its : Array Value) (n : Nat), K.lookup a = some o ∧ o.cls = .type "tuple" ∧ o.dict = none ∧ o.data = .seq its n ∧ its.size ≤ sizeLine ∧ Vals xs its.toList
theorem TpX.sqT {K : Fr} {H : Hp} {a : Addr} {xs : List V} (h : TpX K H a xs) : SqT K H a xs := by
  rcases h with ⟨o, h, _⟩ | ⟨o, its, n, h1, h2, _, h3⟩
  · exact .inl (.inr ⟨o, h⟩)
  · exact .inr ⟨o, its, n, h1, h2, h3⟩
mutual
def Rep (K : Fr) (F : FS) (H : Hp) : V → PV → Prop
  | v, .non => v = .non
  | v, .bl b => v = .bl b
  | v, .int i => v = .int i
  | v, .str x => v = .str x
  | v, .tup ps => ∃ a xs, v = .ref a ∧ TpX K H a xs ∧ RepL K F H xs ps
  | v, .itm ps => ∃ a xs, v = .ref a ∧ SqT K H a xs ∧ RepL K F H xs ps
  | v, .lst ps => ∃ a xs, v = .ref a ∧ (F a ∧ H a = some (.lst xs)) ∧ RepL K F H xs ps
  | v, .opq u => v = u
  | v, .scr ns => ∃ a, v = .ref a ∧ RdL K F H a (ns.map V.int)
def RepL (K : Fr) (F : FS) (H : Hp) : List V → List PV → Prop
  | vs, [] => vs = []
  | vs, p :: ps => ∃ x r, vs = x :: r ∧ Rep K F H x p ∧ RepL K F H r ps
end

section
variable {K : Fr} {F F' : FS} {H H' : Hp}
theorem RdL.seq {a : Addr} {xs : List V} (h : RdL K F H a xs) : SqL K H a xs := by
  rcases h with ⟨_, h⟩ | h
  · exact .inl h
  · exact .inr h
theorem Rd.same {a : Addr} {o : HO} (s : Same H H') (h : Rd H a o) : Rd H' a o := by
  rcases h with h | ⟨u, h⟩
  · exact .inl (s _ _ h)
  · exact .inr ⟨u, s _ _ h⟩
theorem SqT.same {a : Addr} {xs : List V} (s : Same H H') (h : SqT K H a xs) : SqT K H' a xs := by
  rcases h with h | h
  · exact .inl (Rd.same s h)
  · exact .inr h
/-- what keeps a reading -/
structure Keep (F : FS) (H H' : Hp) : Prop where
  tup : ∀ a xs, H a = some (.tup xs) → H' a = some (.tup xs)
  frz : ∀ a o u, H a = some (.frz o u) → H' a = some (.frz o u)
  lst : ∀ a o, F a → H a = some o → H' a = some o
theorem Keep.of (s : Same H H') : Keep F H H' := ⟨fun _ _ h => s _ _ h, fun _ _ _ h => s _ _ h, fun _ _ _ h => s _ _ h⟩
theorem Keep.refl : Keep F H H := ⟨fun _ _ h => h, fun _ _ _ h => h, fun _ _ _ h => h⟩
theorem Keep.sqT {a : Addr} {xs : List V} (k : Keep F H H') (h : SqT K H a xs) : SqT K H' a xs := by
  rcases h with (h | ⟨o, h⟩) | h
  · exact .inl (.inl (k.tup _ _ h))
  · exact .inl (.inr ⟨o, k.frz _ _ _ h⟩)
  · exact .inr h
theorem Keep.tpX {a : Addr} {xs : List V} (k : Keep F H H') (h : TpX K H a xs) : TpX K H' a xs := by
  rcases h with ⟨o, h, z⟩ | h
  · exact .inl ⟨o, k.frz _ _ _ h, z⟩
  · exact .inr h
theorem Keep.rdL {a : Addr} {xs : List V} (k : Keep F H H') (s : ∀ a, F a → F' a) (h : RdL K F H a xs) : RdL K F' H' a xs := by
  rcases h with ⟨f, h | ⟨o, h⟩⟩ | h
  · exact .inl ⟨s _ f, .inl (k.lst _ _ f h)⟩
  · exact .inl ⟨s _ f, .inr ⟨o, k.lst _ _ f h⟩⟩
  · exact .inr h
mutual
theorem Rep.mono (k : Keep F H H') (s : ∀ a, F a → F' a) : ∀ {v : V} (p : PV), Rep K F H v p → Rep K F' H' v p
  | _, .non, h => h
  | _, .bl _, h => h
  | _, .int _, h => h
  | _, .str _, h => h
  | _, .opq _, h => h
  | _, .tup ps, h => by
    unfold Rep at h ⊢
    obtain ⟨a, xs, e, q, r⟩ := h
    exact ⟨a, xs, e, k.tpX q, RepL.mono k s ps r⟩
  | _, .itm ps, h => by
    unfold Rep at h ⊢
    obtain ⟨a, xs, e, q, r⟩ := h
    exact ⟨a, xs, e, k.sqT q, RepL.mono k s ps r⟩
  | _, .lst ps, h => by
    unfold Rep at h ⊢
    obtain ⟨a, xs, e, q, r⟩ := h
    exact ⟨a, xs, e, ⟨s _ q.1, k.lst _ _ q.1 q.2⟩, RepL.mono k s ps r⟩
  | _, .scr ns, h => by
    unfold Rep at h ⊢
    obtain ⟨a, e, q⟩ := h
    exact ⟨a, e, k.rdL s q⟩
theorem RepL.mono (k : Keep F H H') (s : ∀ a, F a → F' a) : ∀ {vs : List V} (ps : List PV), RepL K F H vs ps → RepL K F' H' vs ps
  | _, [], h => h
  | _, p :: ps, h => by
    unfold RepL at h ⊢
    obtain ⟨x, r, e, h1, h2⟩ := h
    exact ⟨x, r, e, Rep.mono k s p h1, RepL.mono k s ps h2⟩
end
theorem RepL.length : ∀ {vs : List V} {ps : List PV}, RepL K F H vs ps → vs.length = ps.length
  | vs, [], h => by unfold RepL at h; rw [h]; rfl
  | vs, p :: ps, h => by
    unfold RepL at h
    obtain ⟨x, r, e, _, h2⟩ := h
    rw [e, List.length_cons, List.length_cons, RepL.length h2]
theorem RepL.nil : RepL K F H [] [] := by unfold RepL; rfl
theorem RepL.cons {v : V} {vs : List V} {p : PV} {ps : List PV} (h : Rep K F H v p) (r : RepL K F H vs ps) : RepL K F H (v :: vs) (p :: ps) := by
  unfold RepL; exact ⟨v, vs, rfl, h, r⟩
theorem RepL.cons_inv {v : V} {vs : List V} {p : PV} {ps : List PV} (h : RepL K F H (v :: vs) (p :: ps)) : Rep K F H v p ∧ RepL K F H vs ps := by
  unfold RepL at h
  obtain ⟨x, r, e, h1, h2⟩ := h
  cases e
  exact ⟨h1, h2⟩
theorem RepL.nil_inv {vs : List V} (h : RepL K F H vs []) : vs = [] := by unfold RepL at h; exact h
theorem RepL.get : ∀ {vs : List V} {ps : List PV} {i : Nat} {p : PV}, RepL K F H vs ps → ps[i]? = some p → ∃ v, vs[i]? = some v ∧ Rep K F H v p
  | _, [], i, p, _, e => by simp at e
  | vs, q :: ps, 0, p, h, e => by
    unfold RepL at h
    obtain ⟨x, r, rfl, h1, h2⟩ := h
    simp at e; subst e
    exact ⟨x, rfl, h1⟩
  | vs, q :: ps, i + 1, p, h, e => by
    unfold RepL at h
    obtain ⟨x, r, rfl, h1, h2⟩ := h
    obtain ⟨v, e1, e2⟩ := RepL.get (i := i) h2 (by simpa using e)
    exact ⟨v, by simpa using e1, e2⟩
theorem RepL.append : ∀ {vs ws : List V} {ps qs : List PV}, RepL K F H vs ps → RepL K F H ws qs → RepL K F H (vs ++ ws) (ps ++ qs)
  | vs, ws, [], qs, h, h' => by rw [RepL.nil_inv h]; exact h'
  | vs, ws, p :: ps, qs, h, h' => by
    unfold RepL at h
    obtain ⟨x, r, rfl, h1, h2⟩ := h
    exact RepL.cons h1 (RepL.append h2 h')
theorem RepL.take : ∀ {vs : List V} {ps : List PV} (n : Nat), RepL K F H vs ps → RepL K F H (vs.take n) (ps.take n)
  | vs, ps, 0, h => by simp; exact RepL.nil
  | vs, [], n + 1, h => by rw [RepL.nil_inv h]; simp; exact RepL.nil
  | vs, p :: ps, n + 1, h => by
    unfold RepL at h
    obtain ⟨x, r, rfl, h1, h2⟩ := h
    simp only [List.take_succ_cons]
    exact RepL.cons h1 (RepL.take n h2)
theorem RepL.drop : ∀ {vs : List V} {ps : List PV} (n : Nat), RepL K F H vs ps → RepL K F H (vs.drop n) (ps.drop n)
  | vs, ps, 0, h => by simpa using h
  | vs, [], n + 1, h => by rw [RepL.nil_inv h]; simp; exact RepL.nil
  | vs, p :: ps, n + 1, h => by
    unfold RepL at h
    obtain ⟨x, r, rfl, h1, h2⟩ := h
    simp only [List.drop_succ_cons]
    exact RepL.drop n h2
theorem RepL.reverse : ∀ {vs : List V} {ps : List PV}, RepL K F H vs ps → RepL K F H vs.reverse ps.reverse
  | vs, [], h => by rw [RepL.nil_inv h]; exact RepL.nil
  | vs, p :: ps, h => by
    unfold RepL at h
    obtain ⟨x, r, rfl, h1, h2⟩ := h
    rw [List.reverse_cons, List.reverse_cons]
    exact RepL.append (RepL.reverse h2) (RepL.cons h1 RepL.nil)
theorem RepL.eraseIdx : ∀ {vs : List V} {ps : List PV} (n : Nat), RepL K F H vs ps → RepL K F H (vs.eraseIdx n) (ps.eraseIdx n)
  | vs, [], n, h => by rw [RepL.nil_inv h]; simp; exact RepL.nil
  | vs, p :: ps, 0, h => by
    unfold RepL at h
    obtain ⟨x, r, rfl, h1, h2⟩ := h
    exact h2
  | vs, p :: ps, n + 1, h => by
    unfold RepL at h
    obtain ⟨x, r, rfl, h1, h2⟩ := h
    exact RepL.cons h1 (RepL.eraseIdx n h2)
theorem RepL.set {q : PV} {w : V} (hw : Rep K F H w q) : ∀ {vs : List V} {ps : List PV} (n : Nat), RepL K F H vs ps → RepL K F H (vs.set n w) (ps.set n q)
  | vs, [], n, h => by rw [RepL.nil_inv h]; simp; exact RepL.nil
  | vs, p :: ps, 0, h => by
    unfold RepL at h
    obtain ⟨x, r, rfl, h1, h2⟩ := h
    exact RepL.cons hw h2
  | vs, p :: ps, n + 1, h => by
    unfold RepL at h
    obtain ⟨x, r, rfl, h1, h2⟩ := h
    exact RepL.cons h1 (RepL.set hw n h2)
theorem RepL.ints : ∀ {vs : List V} {ns : List Int}, RepL K F H vs (ns.map .int) → vs = ns.map V.int
  | vs, [], h => RepL.nil_inv h
  | vs, n :: ns, h => by
    rw [List.map_cons] at h
    unfold RepL at h
    obtain ⟨x, r, rfl, h1, h2⟩ := h
    unfold Rep at h1
    rw [h1, RepL.ints h2]; rfl
theorem RepL.bls : ∀ {vs : List V} {ns : List Bool}, RepL K F H vs (ns.map .bl) → vs = ns.map V.bl
  | vs, [], h => RepL.nil_inv h
  | vs, n :: ns, h => by
    rw [List.map_cons] at h
    unfold RepL at h
    obtain ⟨x, r, rfl, h1, h2⟩ := h
    unfold Rep at h1
    rw [h1, RepL.bls h2]; rfl
theorem RepL.of_ints : ∀ (ns : List Int), RepL K F H (ns.map V.int) (ns.map .int)
  | [] => RepL.nil
  | n :: ns => RepL.cons (by unfold Rep; rfl) (RepL.of_ints ns)
end

/-! ### the slots -/
inductive Slot where
  | no | val (p : PV) | own (ps : List PV)
abbrev SL := List Slot
def SlotR (K : Fr) (F : FS) (H0 H : Hp) : Slot → Option V → Prop
  | .no, _ => True
  | .val p, o => ∃ v, o = some v ∧ Rep K F H v p
  | .own ps, o => ∃ a xs, o = some (.ref a) ∧ H a = some (.lst xs) ∧ RepL K F H xs ps ∧ ¬ F a ∧ H0 a = none
/-- the slots' meaning: H0 is the heap at the def's entry -/
structure ER (K : Fr) (F : FS) (H0 : Hp) (ev : SL) (σ : St) (H : Hp) : Prop where
  len : ev.length = σ.length
  slot : ∀ (i : Nat) s, ev[i]? = some s → ∃ o, σ[i]? = some o ∧ SlotR K F H0 H s o
  inj : ∀ (i j : Nat) (a : Addr) (ps qs : List PV), ev[i]? = some (.own ps) → ev[j]? = some (.own qs) → σ[i]? = some (some (.ref a)) → σ[j]? = some (some (.ref a)) → i = j
  dom : ∀ a, F a → H a ≠ none
  same : Same H0 H
/-- a is the list of an owning slot -/
def Ow (ev : SL) (σ : St) (a : Addr) : Prop := ∃ (i : Nat) (ps : List PV), ev[i]? = some (.own ps) ∧ σ[i]? = some (some (.ref a))
theorem ER.ow {K : Fr} {F : FS} {H0 H : Hp} {ev : SL} {σ : St} {a : Addr} (R : ER K F H0 ev σ H) (o : Ow ev σ a) : ¬ F a ∧ H0 a = none ∧ ∃ xs, H a = some (.lst xs) := by
  obtain ⟨i, ps, e, s⟩ := o
  obtain ⟨o, so, b, xs, e1, e2, _, e3, e4⟩ := R.slot i _ e
  rw [s] at so
  cases so
  cases e1
  exact ⟨e3, e4, xs, e2⟩

/-- a result: a value, and whether it is a list that nothing else knows -/
abbrev RV := PV × Bool
def ResR (K : Fr) (F : FS) (H0 : Hp) (ev : SL) (σ : St) (Hs H : Hp) : RV → V → Prop
  | (p, false), v => Rep K F H v p
  | (p, true), v => ∃ a xs ps, v = .ref a ∧ p = .lst ps ∧ H a = some (.lst xs) ∧ RepL K F H xs ps ∧ ¬ F a ∧ Hs a = none ∧ ¬ Ow ev σ a
/-- behind an expression -/
def Grow (F F' : FS) (H : Hp) (ev : SL) (σ : St) : Prop := ∀ a, F' a → F a ∨ H a = none ∨ Ow ev σ a
structure Aft (K : Fr) (F : FS) (H0 : Hp) (ev ev' : SL) (σ : St) (H : Hp) (F' : FS) (H' : Hp) : Prop where
  sub : ∀ a, F a → F' a
  grow : Grow F F' H ev σ
  same : Same H H'
  er : ER K F' H0 ev' σ H'
  ow : ∀ a, Ow ev' σ a → Ow ev σ a

inductive R (α : Type) where
  | ok (a : α) (ev : SL) | exc (c : Str) (ev : SL) | bad
abbrev M (α : Type) := SL → R α
def ret {α : Type} (a : α) : M α := fun ev => .ok a ev
def bnd {α β : Type} (m : M α) (f : α → M β) : M β := fun ev => match m ev with
  | .ok a ev' => f a ev'
  | .exc c ev' => .exc c ev'
  | .bad => .bad
def bad {α : Type} : M α := fun _ => .bad

/-- the semantic reading -/
def sE (X : Cx) (e : Expr) : TE := fun σ H Q => ∀ (pins : List (Addr × Obj)) (s : Shared), L2.Inv X pins σ H s → wpAny (model X.prog X.w) X.A (eval e X.env) (EP X pins σ Q) X.xe s
theorem sE_pe {X : Cx} {e : Expr} : PE X e (sE X e) := ⟨fun pins s σ H Q I h => h pins s I⟩
theorem sE_of {X : Cx} {e : Expr} {t : TE} {σ : St} {H : Hp} {Q : VK} (p : PE X e t) (h : t σ H Q) : sE X e σ H Q := fun pins s I => p.run pins s σ H Q I h

/-- classes of exceptions by name -/
abbrev CM := Str → Value

/-- e is described by m -/
structure SE (X : Cx) (W : WX) (cm : CM) (e : Expr) (m : M RV) : Prop where
  run : ∀ (F : FS) (H0 : Hp) (ev : SL) (σ : St) (H : Hp) (Q : VK), ER X.K F H0 ev σ H →
    (match m ev with
      | .ok r ev' => ∀ F' v H', Aft X.K F H0 ev ev' σ H F' H' → ResR X.K F' H0 ev' σ H H' r v → Q v H'
      | .exc c ev' => ∀ F' H', Aft X.K F H0 ev ev' σ H F' H' → W (cm c) none σ H'
      | .bad => False) → sE X e σ H Q
/-- e as a test -/
def sT (X : Cx) (e : Expr) : TT := fun σ H Q => ∀ (pins : List (Addr × Obj)) (s : Shared), L2.Inv X pins σ H s → wpAny (model X.prog X.w) X.A (PySem.isTrue e X.env (eval e X.env)) (TP X pins σ Q) X.xe s
theorem sT_pt {X : Cx} {e : Expr} : PT X e (sT X e) := ⟨fun pins s σ H Q I h => h pins s I⟩
theorem sT_of {X : Cx} {e : Expr} {t : TT} {σ : St} {H : Hp} {Q : Bool → Hp → Prop} (p : PT X e t) (h : t σ H Q) : sT X e σ H Q := fun pins s I => p.run pins s σ H Q I h
structure ST (X : Cx) (W : WX) (cm : CM) (e : Expr) (m : M Bool) : Prop where
  run : ∀ (F : FS) (H0 : Hp) (ev : SL) (σ : St) (H : Hp) (Q : Bool → Hp → Prop), ER X.K F H0 ev σ H →
    (match m ev with
      | .ok b ev' => ∀ F' H', Aft X.K F H0 ev ev' σ H F' H' → Q b H'
      | .exc c ev' => ∀ F' H', Aft X.K F H0 ev ev' σ H F' H' → W (cm c) none σ H'
      | .bad => False) → sT X e σ H Q

section
variable {K : Fr} {F F1 F2 : FS} {H0 H H1 H2 : Hp} {ev ev1 ev2 : SL} {σ : St}
theorem ER.aft (r : ER K F H0 ev σ H) : Aft K F H0 ev ev σ H F H := ⟨fun _ h => h, fun _ h => .inl h, Same.refl _, r, fun _ h => h⟩
theorem Aft.trans (a : Aft K F H0 ev ev1 σ H F1 H1) (b : Aft K F1 H0 ev1 ev2 σ H1 F2 H2) : Aft K F H0 ev ev2 σ H F2 H2 where
  sub := fun x h => b.sub x (a.sub x h)
  grow := fun x h => by
    rcases b.grow x h with h | h | h
    · exact a.grow x h
    · exact .inr (.inl (a.same.free h))
    · exact .inr (.inr (a.ow x h))
  same := a.same.trans b.same
  er := b.er
  ow := fun x h => a.ow x (b.ow x h)
/-- more is known to stand still -/
theorem ER.more (r : ER K F H0 ev σ H) (hs : ∀ a, F a → F1 a) (hd : ∀ a, F1 a → H a ≠ none) (ho : ∀ a, Ow ev σ a → ¬ F1 a) : ER K F1 H0 ev σ H where
  len := r.len
  slot := fun i s e => by
    obtain ⟨o, e1, q⟩ := r.slot i s e
    refine ⟨o, e1, ?_⟩
    cases s with
    | no => trivial
    | val p =>
      obtain ⟨v, e2, q⟩ := q
      exact ⟨v, e2, Rep.mono .refl hs p q⟩
    | own ps =>
      obtain ⟨a, xs, e2, e3, q, nf, e4⟩ := q
      exact ⟨a, xs, e2, e3, RepL.mono .refl hs ps q, ho a ⟨i, ps, e, by rw [e1, e2]⟩, e4⟩
  inj := r.inj
  dom := hd
  same := r.same
/-- a result that is not kept apart -/
theorem ResR.share {r : RV} {v : V} (a : Aft K F H0 ev ev1 σ H F1 H1) (q : ResR K F1 H0 ev1 σ H H1 r v) : ∃ F2, Aft K F H0 ev ev1 σ H F2 H1 ∧ Rep K F2 H1 v r.1 ∧ ∀ y, F1 y → F2 y := by
  obtain ⟨p, fr⟩ := r
  cases fr with
  | false => exact ⟨F1, a, q, fun _ h => h⟩
  | true =>
    obtain ⟨x, xs, ps, rfl, rfl, h, r, nf, hx, now⟩ := q
    refine ⟨fun y => F1 y ∨ y = x, ⟨fun y h => .inl (a.sub y h), fun y hy => ?_, a.same, ?_, a.ow⟩, ?_, fun y h => .inl h⟩
    · rcases hy with hy | hy
      · exact a.grow y hy
      · exact .inr (.inl (by rw [hy]; exact hx))
    · refine a.er.more (fun y h => .inl h) (fun y hy => ?_) (fun y hy hh => ?_)
      · rcases hy with hy | hy
        · exact a.er.dom y hy
        · rw [hy, h]; exact fun z => nomatch z
      · rcases hh with hh | hh
        · exact (a.er.ow hy).1 hh
        · rw [hh] at hy; exact now hy
    · show Rep K _ H1 _ (.lst ps)
      unfold Rep
      exact ⟨x, xs, rfl, ⟨.inr rfl, h⟩, RepL.mono .refl (fun y h => .inl h) ps r⟩
end
end Pv

set_option Elab.async false
set_option linter.all false
set_option maxRecDepth 100000
namespace Pv
open PySem PySem.Spec L2

/-- what m wants, from here -/
def Wt (K : Fr) (W : WX) (cm : CM) (F : FS) (H0 : Hp) (ev : SL) (σ : St) (H : Hp) {α : Type} (m : M α) (P : α → SL → FS → Hp → Prop) : Prop := match m ev with
  | .ok r ev' => ∀ F' H', Aft K F H0 ev ev' σ H F' H' → P r ev' F' H'
  | .exc c ev' => ∀ F' H', Aft K F H0 ev ev' σ H F' H' → W (cm c) none σ H'
  | .bad => False
section
variable {K : Fr} {W : WX} {cm : CM} {F F1 : FS} {H0 H H1 : Hp} {ev ev1 : SL} {σ : St} {α β : Type}
theorem Wt.from {m : M α} {P : α → SL → FS → Hp → Prop} (a : Aft K F H0 ev ev1 σ H F1 H1) (h : match m ev1 with
    | .ok r ev' => ∀ F' H', Aft K F H0 ev ev' σ H F' H' → P r ev' F' H'
    | .exc c ev' => ∀ F' H', Aft K F H0 ev ev' σ H F' H' → W (cm c) none σ H'
    | .bad => False) : Wt K W cm F1 H0 ev1 σ H1 m P := by
  unfold Wt
  cases e : m ev1 with
  | ok r ev' => rw [e] at h; exact fun F' H' b => h F' H' (a.trans b)
  | exc c ev' => rw [e] at h; exact fun F' H' b => h F' H' (a.trans b)
  | bad => rw [e] at h; exact h
theorem Wt.bnd {m : M α} {f : α → M β} {P : β → SL → FS → Hp → Prop} (h : Wt K W cm F H0 ev σ H (bnd m f) P) :
    Wt K W cm F H0 ev σ H m fun a ev1 F1 H1 => Aft K F H0 ev ev1 σ H F1 H1 ∧ Wt K W cm F1 H0 ev1 σ H1 (f a) P := by
  unfold Wt Pv.bnd at h
  unfold Wt
  cases e : m ev with
  | ok r ev' =>
    simp only [e] at h
    exact fun F' H' b => ⟨b, Wt.from b h⟩
  | exc c ev' => simp only [e] at h; exact h
  | bad => simp only [e] at h
theorem Wt.ret {a : α} {P : α → SL → FS → Hp → Prop} (r : ER K F H0 ev σ H) (h : Wt K W cm F H0 ev σ H (ret a) P) : P a ev F H := h F H r.aft
theorem Wt.mono {m : M α} {P P' : α → SL → FS → Hp → Prop} (h : Wt K W cm F H0 ev σ H m P) (hp : ∀ a ev' F' H', Aft K F H0 ev ev' σ H F' H' → P a ev' F' H' → P' a ev' F' H') : Wt K W cm F H0 ev σ H m P' := by
  unfold Wt at h ⊢
  cases e : m ev with
  | ok r ev' => rw [e] at h; exact fun F' H' b => hp _ _ _ _ b (h F' H' b)
  | exc c ev' => rw [e] at h; exact h
  | bad => rw [e] at h; exact h
end
theorem SE.go {X : Cx} {W : WX} {cm : CM} {e : Expr} {m : M RV} (s : SE X W cm e m) {F : FS} {H0 H : Hp} {ev : SL} {σ : St} {Q : VK} (r : ER X.K F H0 ev σ H)
    (h : Wt X.K W cm F H0 ev σ H m fun r ev' F' H' => ∀ v, ResR X.K F' H0 ev' σ H H' r v → Q v H') : sE X e σ H Q := by
  refine s.run F H0 ev σ H Q r ?_
  unfold Wt at h
  cases e : m ev with
  | ok r ev' => rw [e] at h; exact fun F' v H' b q => h F' H' b v q
  | exc c ev' => rw [e] at h; exact h
  | bad => rw [e] at h; exact h
theorem SE.mk' {X : Cx} {W : WX} {cm : CM} {e : Expr} {m : M RV} (s : ∀ (F : FS) (H0 H : Hp) (ev : SL) (σ : St) (Q : VK), ER X.K F H0 ev σ H →
    (Wt X.K W cm F H0 ev σ H m fun r ev' F' H' => ∀ v, ResR X.K F' H0 ev' σ H H' r v → Q v H') → sE X e σ H Q) : SE X W cm e m := ⟨fun F H0 ev σ H Q r h => by
  refine s F H0 H ev σ Q r ?_
  unfold Wt
  cases e : m ev with
  | ok r ev' => rw [e] at h; exact fun F' H' b v q => h F' v H' b q
  | exc c ev' => rw [e] at h; exact h
  | bad => rw [e] at h; exact h⟩
theorem ST.go {X : Cx} {W : WX} {cm : CM} {e : Expr} {m : M Bool} (s : ST X W cm e m) {F : FS} {H0 H : Hp} {ev : SL} {σ : St} {Q : Bool → Hp → Prop} (r : ER X.K F H0 ev σ H)
    (h : Wt X.K W cm F H0 ev σ H m fun b _ _ H' => Q b H') : sT X e σ H Q := by
  refine s.run F H0 ev σ H Q r ?_
  unfold Wt at h
  cases e : m ev with
  | ok r ev' => rw [e] at h; exact h
  | exc c ev' => rw [e] at h; exact h
  | bad => rw [e] at h; exact h
theorem ST.mk' {X : Cx} {W : WX} {cm : CM} {e : Expr} {m : M Bool} (s : ∀ (F : FS) (H0 H : Hp) (ev : SL) (σ : St) (Q : Bool → Hp → Prop), ER X.K F H0 ev σ H →
    (Wt X.K W cm F H0 ev σ H m fun b _ _ H' => Q b H') → sT X e σ H Q) : ST X W cm e m := ⟨fun F H0 ev σ H Q r h => by
  refine s F H0 H ev σ Q r ?_
  unfold Wt
  cases e : m ev with
  | ok r ev' => rw [e] at h; exact h
  | exc c ev' => rw [e] at h; exact h
  | bad => rw [e] at h; exact h⟩

/-! ### looking at a value -/
/-- what a value reads as, its own list perhaps one that is still changed -/
def RepT (K : Fr) (F : FS) (H : Hp) (v : V) : PV → Prop
  | .lst ps => ∃ a xs, v = .ref a ∧ H a = some (.lst xs) ∧ RepL K F H xs ps
  | p => Rep K F H v p
theorem RepT.of {K : Fr} {F : FS} {H : Hp} {v : V} : ∀ {p : PV}, Rep K F H v p → RepT K F H v p
  | .non, h => h
  | .bl _, h => h
  | .int _, h => h
  | .str _, h => h
  | .tup _, h => h
  | .itm _, h => h
  | .opq _, h => h
  | .lst ps, h => by
    unfold Rep at h
    obtain ⟨a, xs, e, q, r⟩ := h
    exact ⟨a, xs, e, q.2, r⟩
  | .scr _, h => h
theorem RepT.mono {K : Fr} {F F' : FS} {H H' : Hp} {v : V} (s : Same H H') (f : ∀ a, F a → F' a) : ∀ {p : PV}, RepT K F H v p → RepT K F' H' v p
  | .non, h => h
  | .bl _, h => h
  | .int _, h => h
  | .str _, h => h
  | .tup ps, h => Rep.mono (.of s) f (.tup ps) h
  | .itm ps, h => Rep.mono (.of s) f (.itm ps) h
  | .opq _, h => h
  | .lst ps, h => by
    obtain ⟨a, xs, e, q, r⟩ := h
    exact ⟨a, xs, e, s _ _ q, RepL.mono (.of s) f ps r⟩
  | .scr ns, h => Rep.mono (.of s) f (.scr ns) h
theorem ResR.top {K : Fr} {F : FS} {H0 H Hs : Hp} {ev : SL} {σ : St} {r : RV} {v : V} (q : ResR K F H0 ev σ Hs H r v) : RepT K F H v r.1 := by
  obtain ⟨p, fr⟩ := r
  cases fr with
  | false => exact RepT.of q
  | true =>
    obtain ⟨a, xs, ps, rfl, rfl, h, r, _⟩ := q
    exact ⟨a, xs, rfl, h, r⟩
/-- e, looked at -/
structure SP (X : Cx) (W : WX) (cm : CM) (e : Expr) (m : M PV) : Prop where
  go : ∀ {F : FS} {H0 H : Hp} {ev : SL} {σ : St} {Q : VK}, ER X.K F H0 ev σ H →
    (Wt X.K W cm F H0 ev σ H m fun p _ F' H' => ∀ v, RepT X.K F' H' v p → Q v H') → sE X e σ H Q
def look (m : M RV) : M PV := bnd m fun r => ret r.1
theorem SE.look {X : Cx} {W : WX} {cm : CM} {e : Expr} {m : M RV} (s : SE X W cm e m) : SP X W cm e (look m) := ⟨fun {F H0 H ev σ Q} r h => by
  refine s.go r (h.bnd.mono fun a ev' F' H' b ⟨_, h'⟩ v q => ?_)
  exact Wt.ret (P := fun p _ F' H' => ∀ v, RepT X.K F' H' v p → Q v H') b.er h' v q.top⟩

section
variable {X : Cx} {W : WX} {cm : CM}
/-! ### names, constants -/
def eVar (i : Nat) : M RV := fun ev => match ev[i]? with
  | some (.val p) => .ok (p, false) ev
  | some (.own ps) => .ok (.lst ps, false) (ev.set i (.val (.lst ps)))
  | _ => .bad
def pVar (i : Nat) : M PV := fun ev => match ev[i]? with
  | some (.val p) => .ok p ev
  | some (.own ps) => .ok (.lst ps) ev
  | _ => .bad
theorem getElem?_set_some {α : Type} {l : List α} {i j : Nat} {a b : α} (h : (l.set i a)[j]? = some b) : (i = j ∧ b = a) ∨ (i ≠ j ∧ l[j]? = some b) := by
  by_cases e : i = j
  · subst e
    rw [List.getElem?_set] at h
    simp only [if_true] at h
    split at h
    · exact .inl ⟨rfl, (Option.some.inj h).symm⟩
    · cases h
  · rw [List.getElem?_set_ne e] at h
    exact .inr ⟨e, h⟩
/-- an owned list is given away -/
theorem ER.freeze {K : Fr} {F : FS} {H0 H : Hp} {ev : SL} {σ : St} {i : Nat} {ps : List PV} {a : Addr} (r : ER K F H0 ev σ H) (e : ev[i]? = some (.own ps)) (s : σ[i]? = some (some (.ref a))) :
    Aft K F H0 ev (ev.set i (.val (.lst ps))) σ H (fun x => F x ∨ x = a) H ∧ Rep K (fun x => F x ∨ x = a) H (.ref a) (.lst ps) := by
  obtain ⟨nf, h0, xs, ha⟩ := r.ow ⟨i, ps, e, s⟩
  have rl : RepL K F H xs ps := by
    obtain ⟨o, e1, b, ys, e2, e3, q, _⟩ := r.slot i _ e
    rw [s] at e1; cases e1; cases e2
    rw [ha] at e3; cases e3
    exact q
  have rp : Rep K (fun x => F x ∨ x = a) H (.ref a) (.lst ps) := by
    unfold Rep
    exact ⟨a, xs, rfl, ⟨.inr rfl, ha⟩, RepL.mono .refl (fun _ h => .inl h) ps rl⟩
  have ow' : ∀ x, Ow (ev.set i (.val (.lst ps))) σ x → Ow ev σ x ∧ x ≠ a := fun x ⟨j, qs, e1, e2⟩ => by
    rcases getElem?_set_some e1 with ⟨_, z⟩ | ⟨ne, z⟩
    · cases z
    · refine ⟨⟨j, qs, z, e2⟩, fun z' => ?_⟩
      subst z'
      exact ne (r.inj i j x ps qs e z s e2)
  refine ⟨⟨fun _ h => .inl h, fun x hx => ?_, Same.refl _, ?_, fun x h => (ow' x h).1⟩, rp⟩
  · rcases hx with hx | hx
    · exact .inl hx
    · exact .inr (.inr ⟨i, ps, e, by rw [hx]; exact s⟩)
  · refine ⟨by rw [List.length_set]; exact r.len, fun j sl ej => ?_, fun j k b qs rs e1 e2 s1 s2 => ?_, fun x hx => ?_, r.same⟩
    · rcases getElem?_set_some ej with ⟨z, rfl⟩ | ⟨ne, z⟩
      · subst z
        exact ⟨_, s, .ref a, rfl, rp⟩
      · obtain ⟨o, e1, q⟩ := r.slot j sl z
        refine ⟨o, e1, ?_⟩
        cases sl with
        | no => trivial
        | val p =>
          obtain ⟨v, e2, q⟩ := q
          exact ⟨v, e2, Rep.mono .refl (fun _ h => .inl h) p q⟩
        | own qs =>
          obtain ⟨b, ys, e2, e3, q, nf', e4⟩ := q
          refine ⟨b, ys, e2, e3, RepL.mono .refl (fun _ h => .inl h) qs q, fun hb => ?_, e4⟩
          rcases hb with hb | hb
          · exact nf' hb
          · subst hb
            exact ne (r.inj i j b ps qs e z s (by rw [e1, e2]))
    · rcases getElem?_set_some e1 with ⟨_, z⟩ | ⟨_, z1⟩
      · cases z
      · rcases getElem?_set_some e2 with ⟨_, z⟩ | ⟨_, z2⟩
        · cases z
        · exact r.inj j k b qs rs z1 z2 s1 s2
    · rcases hx with hx | hx
      · exact r.dom x hx
      · rw [hx, ha]; exact fun z => nomatch z
theorem e_var {i : Nat} {x : Str} {pos : Pos} (hN : X.N[i]? = some x := by rfl) (hv : Vis X.env.scope x := by first | exact Or.inl rfl | exact Or.inr (Or.inl rfl) | exact Or.inr (Or.inr rfl)) (hd : (x == ("__debug__" : Str)) = false := by decide)
    (hcd : (x == ("__classdict__" : Str)) = false := by decide) : SE X W cm (.Name x pos) (eVar i) := .mk' fun F H0 H ev σ Q r h => by
  refine sE_of (pe_var hN hv hd hcd) ?_
  unfold Wt eVar at h
  cases e : ev[i]? with
  | none => simp only [e] at h
  | some sl =>
    cases sl with
    | no => simp only [e] at h
    | val p =>
      simp only [e] at h
      obtain ⟨o, e1, v, rfl, q⟩ := r.slot i _ e
      exact ⟨v, e1, h F H r.aft v q⟩
    | own ps =>
      simp only [e] at h
      obtain ⟨o, e1, a, xs, rfl, _⟩ := r.slot i _ e
      obtain ⟨a1, a2⟩ := r.freeze e e1
      exact ⟨_, e1, h _ H a1 _ a2⟩
theorem p_var {i : Nat} {x : Str} {pos : Pos} (hN : X.N[i]? = some x := by rfl) (hv : Vis X.env.scope x := by first | exact Or.inl rfl | exact Or.inr (Or.inl rfl) | exact Or.inr (Or.inr rfl)) (hd : (x == ("__debug__" : Str)) = false := by decide)
    (hcd : (x == ("__classdict__" : Str)) = false := by decide) : SP X W cm (.Name x pos) (pVar i) := ⟨fun {F H0 H ev σ Q} r h => by
  refine sE_of (pe_var hN hv hd hcd) ?_
  unfold Wt pVar at h
  cases e : ev[i]? with
  | none => simp only [e] at h
  | some sl =>
    cases sl with
    | no => simp only [e] at h
    | val p =>
      simp only [e] at h
      obtain ⟨o, e1, v, rfl, q⟩ := r.slot i _ e
      exact ⟨v, e1, h F H r.aft v (.of q)⟩
    | own ps =>
      simp only [e] at h
      obtain ⟨o, e1, a, xs, rfl, e2, q, _⟩ := r.slot i _ e
      exact ⟨_, e1, h F H r.aft _ ⟨a, xs, rfl, e2, q⟩⟩⟩
def eC (p : PV) : M RV := ret (p, false)
theorem e_cst {e : Expr} {p : PV} {v : V} (he : PE X e (tC v)) (hp : ∀ F H, Rep X.K F H v p) : SE X W cm e (eC p) := .mk' fun F H0 H ev σ Q r h => sE_of he (Wt.ret r h v (hp F H))
theorem e_int {i : Int} {j : Nat} {pos : Pos} : SE X W cm (.Constant (.int i) j pos) (eC (.int i)) := e_cst pe_int fun _ _ => by unfold Rep; rfl
theorem e_bl {b : Bool} {j : Nat} {pos : Pos} : SE X W cm (.Constant (.bool b) j pos) (eC (.bl b)) := e_cst pe_bl fun _ _ => by unfold Rep; rfl
theorem e_non {j : Nat} {pos : Pos} : SE X W cm (.Constant .none j pos) (eC .non) := e_cst pe_non fun _ _ => by unfold Rep; rfl
theorem e_str {x : Str} {j : Nat} {pos : Pos} : SE X W cm (.Constant (.str x) j pos) (eC (.str x)) := e_cst pe_str fun _ _ => by unfold Rep; rfl
/-- a module's int, text -/
theorem e_gint {x : Str} {i : Int} {t : Tok} {pos : Pos} (hm : X.mg x = some (.int i t)) (hg : Gl X x := by rfl) (hd : (x == ("__debug__" : Str)) = false := by decide) : SE X W cm (.Name x pos) (eC (.int i)) :=
  e_cst (pe_glob hg hm (v := .int i) ⟨_, rfl⟩ hd) fun _ _ => by unfold Rep; rfl
theorem e_gstr {x y : Str} {t : Tok} {pos : Pos} (hm : X.mg x = some (.str y t)) (hg : Gl X x := by rfl) (hd : (x == ("__debug__" : Str)) = false := by decide) : SE X W cm (.Name x pos) (eC (.str y)) :=
  e_cst (pe_glob hg hm (v := .str y) ⟨_, rfl⟩ hd) fun _ _ => by unfold Rep; rfl

/-! ### operators -/
def sOp (X : Cx) (f : Value → Value → Sem Value) : R2 := fun x y H Q => ∀ (pins : List (Addr × Obj)) (s : Shared) (σ : St) (v u : Value), L2.Inv X pins σ H s → L2.RelV x v → L2.RelV y u → wpAny (model X.prog X.w) X.A (f v u) (EP X pins σ Q) X.xe s
theorem sOp_ok {f : Value → Value → Sem Value} : OpR X f (sOp X f) := fun pins s σ H x y v u Q I rx ry h => h pins s σ v u I rx ry
theorem sOp_of {f : Value → Value → Sem Value} {r : R2} {x y : V} {H : Hp} {Q : VK} (o : OpR X f r) (h : r x y H Q) : sOp X f x y H Q := fun pins s σ v u I rx ry => o pins s σ H x y v u Q I rx ry h
/-- an operator by pure values -/
def OpOk (X : Cx) (f : Value → Value → Sem Value) (g : PV → PV → Option RV) : Prop := ∀ (F : FS) (H0 H : Hp) (ev : SL) (σ : St) (x y : V) (p q : PV) (r : RV) (Q : VK), ER X.K F H0 ev σ H → RepT X.K F H x p → RepT X.K F H y q → g p q = some r →
  (∀ F' v H', Aft X.K F H0 ev ev σ H F' H' → ResR X.K F' H0 ev σ H H' r v → Q v H') → sOp X f x y H Q
def opt {α : Type} : Option α → M α
  | some a => ret a
  | none => bad
def eOp (g : PV → PV → Option RV) (a b : M PV) : M RV := bnd a fun x => bnd b fun y => opt (g x y)
theorem ResR.later {K : Fr} {F : FS} {H0 H Hs Hs' : Hp} {ev : SL} {σ : St} {r : RV} {v : V} (s : Same Hs' Hs) (q : ResR K F H0 ev σ Hs H r v) : ResR K F H0 ev σ Hs' H r v := by
  obtain ⟨p, fr⟩ := r
  cases fr with
  | false => exact q
  | true =>
    obtain ⟨a, xs, ps, e1, e2, h, r, nf, n, o⟩ := q
    exact ⟨a, xs, ps, e1, e2, h, r, nf, s.free n, o⟩
theorem op2 {f : Value → Value → Sem Value} {g : PV → PV → Option RV} (ho : OpOk X f g) {a b : Expr} {ma mb : M PV} (ha : SP X W cm a ma) (hb : SP X W cm b mb) {F : FS} {H0 H : Hp} {ev : SL} {σ : St} {Q : VK} (r : ER X.K F H0 ev σ H)
    (h : Wt X.K W cm F H0 ev σ H (eOp g ma mb) fun r ev' F' H' => ∀ v, ResR X.K F' H0 ev' σ H H' r v → Q v H') : tOp (sOp X f) (sE X a) (sE X b) σ H Q := by
  refine ha.go r (h.bnd.mono fun p ev1 F1 H1 a1 ⟨_, h1⟩ x rx => ?_)
  refine hb.go a1.er (h1.bnd.mono fun q ev2 F2 H2 a2 ⟨_, h2⟩ y ry => ?_)
  cases e : g p q with
  | none => rw [e] at h2; exact h2.elim
  | some z =>
    rw [e] at h2
    refine ho F2 H0 H2 ev2 σ x y p q z Q a2.er (rx.mono a2.same a2.sub) ry e fun F' v H' a3 rr => ?_
    exact h2 F' H' a3 v (rr.later (a1.same.trans a2.same))
theorem e_bin {op : Operator} {g : PV → PV → Option RV} {a b : Expr} {ma mb : M PV} {pos : Pos} (ho : OpOk X (binaryOp op) g) (ha : SP X W cm a ma) (hb : SP X W cm b mb) : SE X W cm (.BinOp a op b pos) (eOp g ma mb) := .mk' fun F H0 H ev σ Q r h =>
  sE_of (pe_op sOp_ok sE_pe sE_pe) (op2 ho ha hb r h)
theorem e_cmp {op : CmpOp} {g : PV → PV → Option RV} {a b : Expr} {ma mb : M PV} {pos : Pos} (ho : OpOk X (compareOp op) g) (ha : SP X W cm a ma) (hb : SP X W cm b mb) (hm : behindInMarks op b = false := by first | exact nomark _ | rfl) : SE X W cm (.Compare a [op] [b] pos) (eOp g ma mb) := .mk' fun F H0 H ev σ Q r h =>
  sE_of (pe_cmpR sOp_ok sE_pe sE_pe hm) (op2 ho ha hb r h)
/-- the operators -/
theorem OpOk.pure {f : Value → Value → Sem Value} {g : PV → PV → Option RV} (h : ∀ (F : FS) (H : Hp) (x y : V) (p q : PV) (r : RV), RepT X.K F H x p → RepT X.K F H y q → g p q = some r → ∃ (z : V) (rr : R2), OpR X f rr ∧ (∀ Q : VK, Q z H → rr x y H Q) ∧ r.2 = false ∧ Rep X.K F H z r.1) : OpOk X f g :=
  fun F H0 H ev σ x y p q r Q er rx ry e hq => by
    obtain ⟨z, rr, o, h1, h2, h3⟩ := h F H x y p q r rx ry e
    refine sOp_of o (h1 Q (hq F z H er.aft ?_))
    obtain ⟨r1, r2⟩ := r
    simp only at h2 h3
    rw [h2]
    exact h3
def vI (i : Int) : Option RV := some (.int i, false)
def vB (b : Bool) : Option RV := some (.bl b, false)
def gII (g : Int → Int → Option RV) : PV → PV → Option RV
  | .int i, .int j => g i j
  | _, _ => none
theorem OpOk.ii {f : Value → Value → Sem Value} {C : Int → Int → Prop} {z : Int → Int → V} {g : Int → Int → Option RV} (o : OpR X f fun x y H Q => ∃ i j, x = .int i ∧ y = .int j ∧ C i j ∧ Q (z i j) H)
    (hg : ∀ i j r, g i j = some r → C i j ∧ r.2 = false ∧ ∀ F H, Rep X.K F H (z i j) r.1) : OpOk X f (gII g) := .pure fun F H x y p q r rx ry e => by
  unfold gII at e
  split at e
  · rename_i i j
    have ex : x = .int i := rx
    have ey : y = .int j := ry
    subst ex ey
    obtain ⟨c, n, rp⟩ := hg i j r e
    exact ⟨z i j, _, o, fun Q hq => ⟨i, j, rfl, rfl, c, hq⟩, n, rp F H⟩
  · cases e
theorem OpR.free {f : Value → Value → Sem Value} {z : Int → Int → V} (o : OpR X f (rI0 z)) : OpR X f fun x y H Q => ∃ i j, x = .int i ∧ y = .int j ∧ True ∧ Q (z i j) H :=
  fun pins s σ H x y v u Q I rx ry ⟨i, j, a, b, _, h⟩ => o pins s σ H x y v u Q I rx ry ⟨i, j, a, b, h⟩
def aAdd : PV → PV → Option RV := gII fun i j => vI (i + j)
def aSub : PV → PV → Option RV := gII fun i j => vI (i - j)
/-- a product: one factor below 2^64 in size -/
def smallI (i : Int) : Bool := decide (-(2 ^ 64) < i ∧ i < 2 ^ 64)
def aMul : PV → PV → Option RV := gII fun i j => if smallI i || smallI j then vI (i * j) else none
def aDiv : PV → PV → Option RV := gII fun i j => if 0 < j ∧ j < 1073741824 then vI (i / j) else none
def aMod : PV → PV → Option RV := gII fun i j => if 0 < j then vI (i % j) else none
def aPow : PV → PV → Option RV := gII fun i j => if 0 ≤ j ∧ j ≤ 1000000 ∧ i.natAbs < 2 ^ 64 then vI (i ^ j.toNat) else none
theorem o_add : OpOk X (binaryOp .Add) aAdd := .ii (OpR.free op_add) fun i j r e => by cases e; exact ⟨trivial, rfl, fun _ _ => by unfold Rep; rfl⟩
theorem o_sub : OpOk X (binaryOp .Sub) aSub := .ii (OpR.free op_sub) fun i j r e => by cases e; exact ⟨trivial, rfl, fun _ _ => by unfold Rep; rfl⟩
theorem o_mul : OpOk X (binaryOp .Mult) aMul := .ii op_mul fun i j r e => by
  split at e
  · rename_i c
    cases e
    refine ⟨?_, rfl, fun _ _ => by unfold Rep; rfl⟩
    rw [Bool.or_eq_true] at c
    unfold smallI at c
    rcases c with c | c
    · exact .inl (of_decide_eq_true c)
    · exact .inr (of_decide_eq_true c)
  · cases e
theorem o_div : OpOk X (binaryOp .FloorDiv) aDiv := .ii op_fdiv fun i j r e => by
  split at e
  · rename_i c
    cases e
    exact ⟨⟨by have := c.1; omega, by have := c.2; omega⟩, rfl, fun _ _ => by unfold Rep; rfl⟩
  · cases e
theorem o_mod : OpOk X (binaryOp .Mod) aMod := .ii op_mod fun i j r e => by
  split at e
  · rename_i c
    cases e
    exact ⟨c, rfl, fun _ _ => by unfold Rep; rfl⟩
  · cases e
theorem o_pow : OpOk X (binaryOp .Pow) aPow := .ii op_pow fun i j r e => by
  split at e
  · rename_i c
    cases e
    exact ⟨c, rfl, fun _ _ => by unfold Rep; rfl⟩
  · cases e
def cLt : PV → PV → Option RV := gII fun i j => vB (decide (i < j))
def cLe : PV → PV → Option RV := gII fun i j => vB (decide (i ≤ j))
def cGt : PV → PV → Option RV := gII fun i j => vB (decide (j < i))
def cGe : PV → PV → Option RV := gII fun i j => vB (decide (j ≤ i))
theorem o_lt : OpOk X (compareOp .Lt) cLt := .ii (OpR.free op_lt) fun i j r e => by cases e; exact ⟨trivial, rfl, fun _ _ => by unfold Rep; rfl⟩
theorem o_le : OpOk X (compareOp .LtE) cLe := .ii (OpR.free op_le) fun i j r e => by cases e; exact ⟨trivial, rfl, fun _ _ => by unfold Rep; rfl⟩
theorem o_gt : OpOk X (compareOp .Gt) cGt := .ii (OpR.free op_gt) fun i j r e => by cases e; exact ⟨trivial, rfl, fun _ _ => by unfold Rep; rfl⟩
theorem o_ge : OpOk X (compareOp .GtE) cGe := .ii (OpR.free op_ge) fun i j r e => by cases e; exact ⟨trivial, rfl, fun _ _ => by unfold Rep; rfl⟩
end
end Pv

set_option Elab.async false
set_option linter.all false
set_option maxRecDepth 100000
namespace Pv
open PySem PySem.Spec L2
open PyProof.Rows hiding St

section
variable {K : Fr} {F F' : FS} {H0 H H' Hs : Hp} {ev : SL} {σ : St}
/-- the heap grows -/
theorem ER.later (r : ER K F H0 ev σ H) (s : Same H H') : ER K F H0 ev σ H' where
  len := r.len
  slot := fun i sl e => by
    obtain ⟨o, e1, q⟩ := r.slot i sl e
    refine ⟨o, e1, ?_⟩
    cases sl with
    | no => trivial
    | val p =>
      obtain ⟨v, e2, q⟩ := q
      exact ⟨v, e2, Rep.mono (.of s) (fun _ h => h) p q⟩
    | own ps =>
      obtain ⟨a, xs, e2, e3, q, nf, e4⟩ := q
      exact ⟨a, xs, e2, s _ _ e3, RepL.mono (.of s) (fun _ h => h) ps q, nf, e4⟩
  inj := r.inj
  dom := fun a f z => r.dom a f (s.free z)
  same := r.same.trans s
theorem ER.step (r : ER K F H0 ev σ H) (s : Same H H') : Aft K F H0 ev ev σ H F H' := ⟨fun _ h => h, fun _ h => .inl h, s, r.later s, fun _ h => h⟩
theorem same_upd {p : Addr} {o : HO} (h : H p = none) : Same H (upd H p o) := fun b x e => by
  rw [upd_ne (ne_of_none e h)]
  exact e
theorem ER.fresh (r : ER K F H0 ev σ H) {p : Addr} {o : HO} (h : H p = none) : Aft K F H0 ev ev σ H F (upd H p o) := r.step (same_upd h)
/-- a new tuple -/
def NewT (xs : List V) (Q : VK) (H : Hp) : Prop := ∀ (p : Addr) (o : Obj), H p = none → o.cls = .type "tuple" → o.dict = none → Q (.ref p) (upd H p (.frz o (.tup xs)))
theorem ER.newT (r : ER K F H0 ev σ H) {p : Addr} {o : Obj} {xs : List V} {ps : List PV} (h : H p = none) (hc : o.cls = .type "tuple") (hd : o.dict = none) (q : RepL K F H xs ps) : ResR K F H0 ev σ Hs (upd H p (.frz o (.tup xs))) (.tup ps, false) (.ref p) := by
  show Rep K F _ _ _
  unfold Rep
  exact ⟨p, xs, rfl, .inl ⟨o, upd_same, hc, hd⟩, RepL.mono (.of (same_upd h)) (fun _ h => h) ps q⟩
theorem ER.newL (r : ER K F H0 ev σ H) (s : Same Hs H) {p : Addr} {xs : List V} {ps : List PV} (h : H p = none) (q : RepL K F H xs ps) : ResR K F H0 ev σ Hs (upd H p (.lst xs)) (.lst ps, true) (.ref p) := by
  refine ⟨p, xs, ps, rfl, rfl, upd_same, RepL.mono (.of (same_upd h)) (fun _ h => h) ps q, fun f => r.dom p f h, s.free h, fun o => ?_⟩
  obtain ⟨_, _, ys, e⟩ := r.ow o
  rw [h] at e; cases e
/-- a result of an operator that makes something new -/
theorem OpOk.mk {X : Cx} {f : Value → Value → Sem Value} {g : PV → PV → Option RV} (h : ∀ (F : FS) (H0 H : Hp) (ev : SL) (σ : St) (x y : V) (p q : PV) (r : RV) (Q : VK), ER X.K F H0 ev σ H → RepT X.K F H x p → RepT X.K F H y q → g p q = some r →
    (∀ F' v H', Aft X.K F H0 ev ev σ H F' H' → ResR X.K F' H0 ev σ H H' r v → Q v H') → ∃ rr : R2, OpR X f rr ∧ rr x y H Q) : OpOk X f g := fun F H0 H ev σ x y p q r Q er rx ry e hq => by
  obtain ⟨rr, o, hh⟩ := h F H0 H ev σ x y p q r Q er rx ry e hq
  exact sOp_of o hh
end

/-! ### flat values -/
def flatP : PV → Bool
  | .non => true | .bl _ => true | .int _ => true | .str _ => true
  | _ => false
def toV : PV → V
  | .bl b => .bl b | .int i => .int i | .str x => .str x | .opq v => v
  | _ => .non
theorem flat_toV {K : Fr} {F : FS} {H : Hp} {v : V} : ∀ {p : PV}, flatP p = true → RepT K F H v p → v = toV p ∧ flatV v = true
  | .non, _, h => by have h' : v = .non := h; subst h'; exact ⟨rfl, rfl⟩
  | .bl _, _, h => by have h' : v = .bl _ := h; subst h'; exact ⟨rfl, rfl⟩
  | .int _, _, h => by have h' : v = .int _ := h; subst h'; exact ⟨rfl, rfl⟩
  | .str _, _, h => by have h' : v = .str _ := h; subst h'; exact ⟨rfl, rfl⟩
  | .tup _, h, _ => nomatch h
  | .itm _, h, _ => nomatch h
  | .lst _, h, _ => nomatch h
  | .opq _, h, _ => nomatch h
  | .scr _, h, _ => nomatch h
theorem flat_toVs {K : Fr} {F : FS} {H : Hp} : ∀ {vs : List V} {ps : List PV}, ps.all flatP = true → RepL K F H vs ps → vs = ps.map toV ∧ vs.all flatV = true
  | vs, [], _, h => by rw [h.nil_inv]; exact ⟨rfl, rfl⟩
  | vs, p :: ps, f, h => by
    unfold RepL at h
    obtain ⟨x, r, rfl, h1, h2⟩ := h
    rw [List.all_cons, Bool.and_eq_true] at f
    obtain ⟨e1, e2⟩ := flat_toV f.1 (.of h1)
    obtain ⟨e3, e4⟩ := flat_toVs f.2 h2
    exact ⟨by rw [List.map_cons, ← e1, ← e3], by rw [List.all_cons, e2, e4]; rfl⟩

/-! ### data -/
mutual
def isD : PV → Bool
  | .opq _ => false
  | .scr _ => false
  | .itm _ => false
  | .tup ps => isDs ps
  | .lst ps => isDs ps
  | _ => true
def isDs : List PV → Bool
  | [] => true
  | p :: ps => isD p && isDs ps
end
mutual
def toD : PV → PyData
  | .non => .none | .bl b => .bool b | .int i => .int i | .str x => .str x | .tup ps => .tuple (toDs ps) | .lst ps => .list (toDs ps) | .opq _ => .none | .scr _ => .none | .itm _ => .none
def toDs : List PV → List PyData
  | [] => []
  | p :: ps => toD p :: toDs ps
end
mutual
theorem Rep.dp {K : Fr} {F : FS} {H : Hp} : ∀ {v : V} (p : PV), isD p = true → Rep K F H v p → Dp K H v (toD p)
  | v, .non, _, h => by unfold Rep at h; subst h; exact .non
  | v, .bl b, _, h => by unfold Rep at h; subst h; exact .bl b
  | v, .int i, _, h => by unfold Rep at h; subst h; exact .int i
  | v, .str x, _, h => by unfold Rep at h; subst h; exact .str x
  | v, .opq _, d, _ => by unfold isD at d; cases d
  | v, .scr _, d, _ => by unfold isD at d; cases d
  | v, .itm _, d, _ => by unfold isD at d; cases d
  | v, .tup ps, d, h => by
    unfold Rep at h
    unfold isD at d
    obtain ⟨a, xs, rfl, q, r⟩ := h
    exact .tup q.sqT (RepL.dp ps d r)
  | v, .lst ps, d, h => by
    unfold Rep at h
    unfold isD at d
    obtain ⟨a, xs, rfl, q, r⟩ := h
    exact .lst (SqL.of q.2) (RepL.dp ps d r)
theorem RepL.dp {K : Fr} {F : FS} {H : Hp} : ∀ {vs : List V} (ps : List PV), isDs ps = true → RepL K F H vs ps → DpAll K H vs (toDs ps)
  | vs, [], _, h => by rw [h.nil_inv]; exact .nil
  | vs, p :: ps, d, h => by
    unfold RepL at h
    obtain ⟨x, r, rfl, h1, h2⟩ := h
    unfold isDs at d
    rw [Bool.and_eq_true] at d
    exact .cons (Rep.dp p d.1 h1) (RepL.dp ps d.2 h2)
end
theorem RepT.dp {K : Fr} {F : FS} {H : Hp} {v : V} : ∀ (p : PV), isD p = true → RepT K F H v p → Dp K H v (toD p)
  | .lst ps, d, h => by
    unfold isD at d
    obtain ⟨a, xs, rfl, q, r⟩ := h
    exact .lst (SqL.of q) (RepL.dp ps d r)
  | .non, d, h => Rep.dp (F := F) .non d h
  | .bl b, d, h => Rep.dp (F := F) (.bl b) d h
  | .int b, d, h => Rep.dp (F := F) (.int b) d h
  | .str b, d, h => Rep.dp (F := F) (.str b) d h
  | .tup b, d, h => Rep.dp (F := F) (.tup b) d h
  | .opq b, d, h => Rep.dp (F := F) (.opq b) d h
  | .scr b, d, h => Rep.dp (F := F) (.scr b) d h
  | .itm b, d, h => Rep.dp (F := F) (.itm b) d h
/-- data that may be compared -/
def okD (p : PV) : Bool := isD p && SeqAt.shaped (toD p)
def gEq (neg : Bool) : PV → PV → Option RV
  | .int i, .int j => vB (xor neg (decide (i = j)))
  | .bl i, .bl j => vB (xor neg (decide (i = j)))
  | .str i, .str j => vB (xor neg (decide (i = j)))
  | p, q => if okD p && okD q then vB (xor neg (PyData.eqv (toD p) (toD q))) else none

section
variable {X : Cx} {W : WX} {cm : CM}
theorem rep_bl {K : Fr} {F : FS} {H : Hp} {b : Bool} : Rep K F H (.bl b) (.bl b) := by unfold Rep; rfl
theorem rep_int {K : Fr} {F : FS} {H : Hp} {b : Int} : Rep K F H (.int b) (.int b) := by unfold Rep; rfl
theorem rep_str {K : Fr} {F : FS} {H : Hp} {b : Str} : Rep K F H (.str b) (.str b) := by unfold Rep; rfl
theorem rep_non {K : Fr} {F : FS} {H : Hp} : Rep K F H .non .non := by unfold Rep; rfl
theorem o_eq (hu : X.A.units + 64 < cLine) : OpOk X (compareOp .Eq) (gEq false) := .pure fun F H x y p q r rx ry e => by
  unfold gEq at e
  split at e
  · have ex : x = .int _ := rx
    have ey : y = .int _ := ry
    subst ex ey
    cases e
    refine ⟨.bl _, _, op_eq, fun Q hq => ⟨rfl, hq⟩, rfl, ?_⟩
    rw [Bool.false_xor, show (decide (V.int _ = V.int _)) = _ from dec_int, Bool.beq_eq_decide_eq]
    exact rep_bl
  · have ex : x = .bl _ := rx
    have ey : y = .bl _ := ry
    subst ex ey
    cases e
    refine ⟨.bl _, _, op_eq, fun Q hq => ⟨rfl, hq⟩, rfl, ?_⟩
    rw [Bool.false_xor, show (decide (V.bl _ = V.bl _)) = _ from dec_bl, Bool.beq_eq_decide_eq]
    exact rep_bl
  · have ex : x = .str _ := rx
    have ey : y = .str _ := ry
    subst ex ey
    cases e
    refine ⟨.bl _, _, op_eq, fun Q hq => ⟨rfl, hq⟩, rfl, ?_⟩
    rw [Bool.false_xor, show (decide (V.str _ = V.str _)) = _ from dec_str, Bool.beq_eq_decide_eq]
    exact rep_bl
  · split at e
    · rename_i c
      cases e
      unfold okD at c
      simp only [Bool.and_eq_true] at c
      refine ⟨.bl _, _, op_eqD hu, fun Q hq => ⟨_, _, rx.dp p c.1.1, ry.dp q c.2.1, c.1.2, c.2.2, hq⟩, rfl, ?_⟩
      rw [Bool.false_xor]
      exact rep_bl
    · cases e
theorem o_ne (hu : X.A.units + 64 < cLine) : OpOk X (compareOp .NotEq) (gEq true) := .pure fun F H x y p q r rx ry e => by
  unfold gEq at e
  split at e
  · have ex : x = .int _ := rx
    have ey : y = .int _ := ry
    subst ex ey
    cases e
    refine ⟨.bl _, _, op_ne, fun Q hq => ⟨rfl, hq⟩, rfl, ?_⟩
    rw [Bool.true_xor, show (decide (V.int _ = V.int _)) = _ from dec_int, Bool.beq_eq_decide_eq]
    exact rep_bl
  · have ex : x = .bl _ := rx
    have ey : y = .bl _ := ry
    subst ex ey
    cases e
    refine ⟨.bl _, _, op_ne, fun Q hq => ⟨rfl, hq⟩, rfl, ?_⟩
    rw [Bool.true_xor, show (decide (V.bl _ = V.bl _)) = _ from dec_bl, Bool.beq_eq_decide_eq]
    exact rep_bl
  · have ex : x = .str _ := rx
    have ey : y = .str _ := ry
    subst ex ey
    cases e
    refine ⟨.bl _, _, op_ne, fun Q hq => ⟨rfl, hq⟩, rfl, ?_⟩
    rw [Bool.true_xor, show (decide (V.str _ = V.str _)) = _ from dec_str, Bool.beq_eq_decide_eq]
    exact rep_bl
  · split at e
    · rename_i c
      cases e
      unfold okD at c
      simp only [Bool.and_eq_true] at c
      refine ⟨.bl _, _, op_neD hu, fun Q hq => ⟨_, _, rx.dp p c.1.1, ry.dp q c.2.1, c.1.2, c.2.2, hq⟩, rfl, ?_⟩
      rw [Bool.true_xor]
      exact rep_bl
    · cases e
/-- the items of a list or tuple -/
def items : PV → Option (List PV)
  | .lst ps => some ps | .tup ps => some ps | .scr ns => some (ns.map .int)
  | _ => none
theorem RepT.items {K : Fr} {F : FS} {H : Hp} {v : V} {p : PV} {ps : List PV} (h : RepT K F H v p) (e : items p = some ps) : ∃ a xs, v = .ref a ∧ (SqL K H a xs ∨ SqT K H a xs) ∧ RepL K F H xs ps := by
  cases p <;> unfold Pv.items at e <;> cases e
  · have h' : Rep K F H v (.tup ps) := h
    unfold Rep at h'
    obtain ⟨a, xs, rfl, q, r⟩ := h'
    exact ⟨a, xs, rfl, .inr q.sqT, r⟩
  · obtain ⟨a, xs, rfl, q, r⟩ := h
    exact ⟨a, xs, rfl, .inl (SqL.of q), r⟩
  · have h' : Rep K F H v (.scr _) := h
    unfold Rep at h'
    obtain ⟨a, rfl, q⟩ := h'
    exact ⟨a, _, rfl, .inl q.seq, RepL.of_ints _⟩
def inP (p : PV) (ps : List PV) : Bool := inV (toV p) (ps.map toV)
def gIn (neg : Bool) (p q : PV) : Option RV := match items q with
  | some ps => if flatP p && ps.all flatP then vB (xor neg (inP p ps)) else none
  | none => none
theorem o_in : OpOk X (compareOp .In) (gIn false) := .pure fun F H x y p q r rx ry e => by
  unfold gIn at e
  split at e
  · rename_i ps hi
    split at e
    · rename_i c
      cases e
      rw [Bool.and_eq_true] at c
      obtain ⟨a, xs, rfl, hq, rl⟩ := ry.items hi
      obtain ⟨e1, f1⟩ := flat_toV c.1 rx
      obtain ⟨e2, f2⟩ := flat_toVs c.2 rl
      refine ⟨.bl _, _, op_in_seq, fun Q hq' => ⟨a, xs, rfl, hq, f1, f2, hq'⟩, rfl, ?_⟩
      rw [e1, e2, Bool.false_xor]
      exact rep_bl
    · cases e
  · cases e
theorem o_notIn : OpOk X (compareOp .NotIn) (gIn true) := .pure fun F H x y p q r rx ry e => by
  unfold gIn at e
  split at e
  · rename_i ps hi
    split at e
    · rename_i c
      cases e
      rw [Bool.and_eq_true] at c
      obtain ⟨a, xs, rfl, hq, rl⟩ := ry.items hi
      obtain ⟨e1, f1⟩ := flat_toV c.1 rx
      obtain ⟨e2, f2⟩ := flat_toVs c.2 rl
      refine ⟨.bl _, _, op_notIn_seq, fun Q hq' => ⟨a, xs, rfl, hq, f1, f2, hq'⟩, rfl, ?_⟩
      rw [e1, e2, Bool.true_xor]
      exact rep_bl
    · cases e
  · cases e
def isNon : PV → Bool
  | .non => true
  | _ => false
theorem RepT.non_iff {K : Fr} {F : FS} {H : Hp} {v : V} : ∀ {p : PV}, (∀ u, p ≠ .opq u) → RepT K F H v p → decide (v = V.non) = isNon p
  | .non, _, h => by have h' : v = .non := h; subst h'; rfl
  | .bl _, _, h => by have h' : v = .bl _ := h; subst h'; rfl
  | .int _, _, h => by have h' : v = .int _ := h; subst h'; rfl
  | .str _, _, h => by have h' : v = .str _ := h; subst h'; rfl
  | .opq u, n, _ => absurd rfl (n u)
  | .tup ps, _, h => by
    have h' : Rep K F H v (.tup ps) := h
    unfold Rep at h'
    obtain ⟨a, xs, rfl, _⟩ := h'
    rfl
  | .lst ps, _, h => by
    obtain ⟨a, xs, rfl, _⟩ := h
    rfl
  | .itm ps, _, h => by
    have h' : Rep K F H v (.itm ps) := h
    unfold Rep at h'
    obtain ⟨a, xs, rfl, _⟩ := h'
    rfl
  | .scr ns, _, h => by
    have h' : Rep K F H v (.scr ns) := h
    unfold Rep at h'
    obtain ⟨a, rfl, _⟩ := h'
    rfl
def isOpq : PV → Bool
  | .opq _ => true
  | _ => false
def gIs (neg : Bool) (p q : PV) : Option RV := if isOpq p then none else if isNon q then vB (xor neg (isNon p)) else none
theorem isNon_eq : ∀ {q : PV}, isNon q = true → q = .non
  | .non, _ => rfl
  | .bl _, h => nomatch h
  | .int _, h => nomatch h
  | .str _, h => nomatch h
  | .opq _, h => nomatch h
  | .tup _, h => nomatch h
  | .lst _, h => nomatch h
  | .scr _, h => nomatch h
  | .itm _, h => nomatch h
theorem o_is : OpOk X (compareOp .Is) (gIs false) := .pure fun F H x y p q r rx ry e => by
  unfold gIs at e
  split at e
  · cases e
  · rename_i hp
    split at e
    · rename_i c
      cases e
      have eq := isNon_eq c
      subst eq
      have ey : y = .non := ry
      subst ey
      refine ⟨.bl _, _, op_isN, fun Q hq => ⟨rfl, hq⟩, rfl, ?_⟩
      rw [RepT.non_iff (fun u z => hp (by rw [z]; rfl)) rx, Bool.false_xor]
      exact rep_bl
    · cases e
theorem o_isNot : OpOk X (compareOp .IsNot) (gIs true) := .pure fun F H x y p q r rx ry e => by
  unfold gIs at e
  split at e
  · cases e
  · rename_i hp
    split at e
    · rename_i c
      cases e
      have eq := isNon_eq c
      subst eq
      have ey : y = .non := ry
      subst ey
      refine ⟨.bl _, _, op_notN, fun Q hq => ⟨rfl, hq⟩, rfl, ?_⟩
      rw [RepT.non_iff (fun u z => hp (by rw [z]; rfl)) rx, Bool.true_xor]
      exact rep_bl
    · cases e

/-! ### sums of lists, tuples, texts -/
def SZ : Nat := 16777216
theorem sz_eq : sizeLine = SZ := rfl
/-- t + u of tuples, the left one empty -/
theorem catT_nil : OpR X (binaryOp .Add) (fun x y H Q => ∃ a b ys, x = .ref a ∧ y = .ref b ∧ SqT X.K H a [] ∧ SqT X.K H b ys ∧ Q (.ref b) H) := by
  intro pins s σ H x y v u Q I rx ry h
  obtain ⟨a, b, ys, rfl, rfl, ha, hb, q⟩ := h
  cases rx
  cases ry
  obtain ⟨its, r1, p1, _⟩ := I.tuple ha
  obtain ⟨its2, r2, p2, _⟩ := I.tuple hb
  cases r1
  obtain ⟨⟨cls, dd, data, sl⟩, ho, hc, n, hd⟩ := id p1
  obtain ⟨⟨cls2, dd2, data2, sl2⟩, ho2, hc2, n2, hd2⟩ := id p2
  simp only at hc hd hc2 hd2
  subst hc hd hc2 hd2
  refine concat_meets ⟨_, ho, rfl⟩ ⟨_, ho2, rfl⟩ noFill_tuple_add seq_tuple_add PySem.F.slot_tuple_add PySem.F.entry_tuple_add (PySem.F.args_tuple_add_2 _ _)
    (tuple_addW0 a b #[] its2.toArray n n2 dd dd2 sl sl2 rfl) ⟨ho, ho2, ?_⟩
  exact ⟨.ref b, H, I, rfl, q⟩
/-- the object of a new tuple -/
abbrev tupO (us : List Value) : Obj := { cls := .type "tuple", data := .seq us.toArray }
theorem Inv.newTup {pins : List (Addr × Obj)} {σ : St} {H : Hp} {s : Shared} {us : List Value} {xs : List V} {Q : VK} {h' : Heap} {t' : Nat} (I : L2.Inv X pins σ H s) (k : ∀ b o, s.heap.get? b = some o → h'.get? b = some o) (r : Vals xs us) (hz : xs.length ≤ sizeLine) (h : NewT xs Q H) :
    EP X pins σ Q (.ref h'.objs.size) { s with heap := h'.push (tupO us), toks := t' } := by
  have J : L2.Inv X pins σ H { s with heap := h' } := I.kept (t' := s.toks) k
  have hn : H h'.objs.size = none := J.hok.fresh (Nat.le_refl _)
  exact ⟨.ref h'.objs.size, _, J.laid (o := .frz (tupO us) (.tup xs)) (t' := t') (fun b o e => Heap.get?_push_of_some _ e) (Nat.le_refl _) ⟨Heap.get?_push_size _ rfl, hz, us, r, ⟨_, Heap.get?_push_size _ rfl, rfl, _, rfl⟩⟩, rfl, h _ _ hn rfl rfl⟩
/-- (a, b, ..) -/
theorem pe_tupX {es : List Expr} {k : Nat} {pos : Pos} {t : TA} (h : PA X es t) : PE X (.Tuple es k pos) (fun σ H Q => t σ H fun xs H1 => xs.length ≤ sizeLine ∧ NewT xs Q H1) := ⟨fun pins s σ H Q I hq =>
  wpAny_Tuple_spliced (thn (h.run pos pins s σ H _ I hq) fun us s1 z => match z with
    | ⟨xs, H1, J, r, hz, q⟩ => ⟨by rw [← r.length]; exact hz, Inv.newTup J (fun _ _ e => e) r hz q⟩)⟩
/-- t + u, t not empty -/
theorem cat_X : OpR X (binaryOp .Add) (fun x y H Q => ∃ a b xs ys, x = .ref a ∧ y = .ref b ∧ SqT X.K H a xs ∧ SqT X.K H b ys ∧ xs ≠ [] ∧ xs.length + ys.length ≤ sizeLine ∧ (ys = [] → Q (.ref a) H) ∧ (ys ≠ [] → NewT (xs ++ ys) Q H)) := by
  rintro pins s σ H x y v u Q I rx ry ⟨a, b, xs, ys, rfl, rfl, ha, hb, hx, hz, q1, q2⟩
  cases rx; cases ry
  obtain ⟨l1, r1, p1, -⟩ := I.tuple ha
  obtain ⟨l2, r2, p2, -⟩ := I.tuple hb
  have hzz : l1.length + l2.length ≤ sizeLine := by rw [← r1.length, ← r2.length]; exact hz
  exact HT.cat_tup p1 p2 (mt r1.nil_iff.mp hx) (fun z => ⟨.ref a, H, I, rfl, q1 (r2.nil_iff.mp z)⟩)
    (fun z => Inv.newTup I (fun _ _ e => e) (r1.append r2) (by rw [List.length_append]; exact hz) (q2 (mt r2.nil_iff.mpr z))) hzz
/-- t[a:b], not the whole -/
theorem cut_X : SlR X (fun x lo hi H Q => ∃ a xs, x = .ref a ∧ SqT X.K H a xs ∧ ¬ (HT.sIx xs.length 0 lo = 0 ∧ HT.sIx xs.length xs.length hi = xs.length) ∧ NewT (cutV xs lo hi) Q H) := by
  rintro pins s σ H x v vl vu lo hi sl Q I rx hs pl pu ⟨a, xs, rfl, hx, hw, q⟩
  cases rx
  obtain ⟨us, r, p, hz⟩ := I.tuple hx
  have hl : us.toArray.size = xs.length := by rw [List.size_toArray, r.length]
  refine ⟨_, _, PyProof.Rows.slot_tuple_getitem.lookup, p.typeIs, HT.getItem_tuple_cut p hs pl pu (by rw [hl]; exact hw) ?_ (by rw [hl]; exact hz)⟩
  rw [hl]
  exact Inv.newTup I (fun _ _ e => e) ((r.drop _).take _) (Nat.le_trans (cutV_length xs lo hi) hz) q
/-- tuple(xs), xs a list -/
theorem tupL_X : CallR X (.type "tuple") (fun vs H Q => ∃ p ys, vs = [.ref p] ∧ SqL X.K H p ys ∧ NewT ys Q H) := by
  rintro pins s σ H vs us Q I r ⟨p, ys, rfl, hy, q⟩
  obtain ⟨u, rfl, ru⟩ := vals1 r
  cases ru
  obtain ⟨its, ri, pl, hz⟩ := I.list hy
  exact call_tuple_list pl.isList (fun h' kp => Inv.newTup I kp ri hz q) (by simp only [List.size_toArray, ← ri.length]; exact hz)
end
end Pv

set_option Elab.async false
set_option linter.all false
set_option maxRecDepth 100000
namespace Pv
open PySem PySem.Spec L2
open PyProof.Rows hiding St

/-! ### t[a:b], the whole of it: t itself -/
section
variable {prog : Program} {w : World} {A : Around} {E : Value → Shared → Prop} {s : Shared}
theorem getItem_tuple_whole {t sl : Addr} {items : Array Value} {vl vu : Value} {lo hi : Option Int} {Q : Value → Shared → Prop} (ht : IsTup s.heap t items) (hs : s.heap.IsSliceOf sl vl vu .none) (pl : IsPart vl lo) (pu : IsPart vu hi)
    (hw : HT.sIx items.size 0 lo = 0 ∧ HT.sIx items.size items.size hi = items.size) (h : Q (.ref t) s) : wpAny (model prog w) A (getItem (.ref t) (.ref sl)) Q E s := by
  obtain ⟨os, hos, hcs, hds⟩ := id hs
  have hTs : s.TypeIs (.ref sl) "slice" := ⟨os, hos, hcs⟩
  unfold getItem
  try with_reducible refine wpAny_holding ?_
  first | refine wpAny_bind (wpAny_pure ?_) | skip
  refine wpAny_bind (wpAny_sequenceKey ht.typeIs (by decide) ?_)
  refine wpAny_bind (wpAny_callSpecial?_slot (name := Str.ofString "__getitem__") ht.typeIs PyProof.Rows.slot_tuple_getitem
    (wpAny_call_entry PyProof.Rows.slot_tuple_getitem ht.typeIs entry_tuple_getitem ?_ (args_tuple_getitem _ _)))
  show wpAny _ _ (Builtin.Tuple.tupleItemsOf (.ref t) >>= _) _ _ s
  refine wpAny_bind (tupleItemsOf_ ht ?_)
  refine wpAny_bind (wpAny_typeOf hTs ?_)
  rw [if_pos (by decide)]
  refine wpAny_bind (HT.sliceApplied_gen hs pl pu ?_)
  have hyes : ((((HT.sIx items.size 0 lo : Nat) : Int) == 0 && (1 : Int) == 1 && (HT.sIx items.size items.size hi - HT.sIx items.size 0 lo) == items.size) = true) := by
    rw [hw.1, hw.2]
    simp
  show wpAny _ _ (if (((HT.sIx items.size 0 lo : Nat) : Int) == 0 && (1 : Int) == 1 && (HT.sIx items.size items.size hi - HT.sIx items.size 0 lo) == items.size) = true then _ else _) _ _ s
  rw [if_pos hyes]
  unfold Builtin.Tuple.tupleIsExact
  refine wpAny_bind (wpAny_bind (wpAny_typeOf ht.typeIs ?_))
  refine wpAny_pure ?_
  simp only [beq_self_eq_true, if_true]
  refine wpAny_bind (wpAny_rule ?_)
  exact wpAny_pure ⟨_, rfl, wpAny_pure h⟩
end
section
variable {X : Cx}
theorem sl_tupW : SlR X (fun x lo hi H Q => ∃ a xs, x = .ref a ∧ SqT X.K H a xs ∧ (HT.sIx xs.length 0 lo = 0 ∧ HT.sIx xs.length xs.length hi = xs.length) ∧ Q (.ref a) H) := by
  intro pins s σ H x v vl vu lo hi sl Q I rx hs pl pu h
  obtain ⟨a, xs, rfl, hx, hw, q⟩ := h
  cases rx
  obtain ⟨its, r, ht, hz⟩ := I.tuple hx
  have hlen : its.toArray.size = xs.length := by rw [List.size_toArray]; exact r.length.symm
  refine ⟨"tuple", _, PyProof.Rows.slot_tuple_getitem.lookup, ht.typeIs, ?_⟩
  exact getItem_tuple_whole ht hs pl pu (by rw [hlen]; exact hw) ⟨.ref a, H, I, rfl, q⟩
end
end Pv

set_option Elab.async false
set_option linter.all false
set_option maxRecDepth 100000
namespace Pv
open PySem PySem.Spec L2
open PyProof.Rows hiding St

section
variable {X : Cx} {W : WX} {cm : CM}
/-! ### + -/
def gAdd : PV → PV → Option RV
  | .int i, .int j => vI (i + j)
  | .tup ps, .tup qs => if ps.length + qs.length ≤ SZ then some (.tup (ps ++ qs), false) else none
  | .lst ps, .lst qs => if ps.length + qs.length ≤ SZ then some (.lst (ps ++ qs), true) else none
  | .str x, .str y => if x.length + y.length ≤ SZ then some (.str (x ++ y), false) else none
  | _, _ => none
theorem o_addG : OpOk X (binaryOp .Add) gAdd := .mk fun F H0 H ev σ x y p q r Q er rx ry e hq => by
  unfold gAdd at e
  split at e
  · have ex : x = .int _ := rx
    have ey : y = .int _ := ry
    subst ex ey
    cases e
    exact ⟨_, op_add, _, _, rfl, rfl, hq F _ H er.aft (rep_int (K := X.K) (F := F) (H := H))⟩
  · rename_i ps qs
    split at e
    · rename_i hz
      cases e
      have rx' : Rep X.K F H x (.tup ps) := rx
      have ry' : Rep X.K F H y (.tup qs) := ry
      unfold Rep at rx' ry'
      obtain ⟨a, xs, rfl, hx, r1⟩ := rx'
      obtain ⟨b, ys, rfl, hy, r2⟩ := ry'
      by_cases h0 : xs = []
      · subst h0
        have e0 : ps = [] := by
          cases ps with
          | nil => rfl
          | cons _ _ => have := r1.length; simp at this
        subst e0
        refine ⟨_, catT_nil, a, b, ys, rfl, rfl, hx.sqT, hy.sqT, hq F _ H er.aft ?_⟩
        show Rep X.K F H _ (.tup qs)
        unfold Rep
        exact ⟨b, ys, rfl, hy, r2⟩
      · refine ⟨_, cat_X, a, b, xs, ys, rfl, rfl, hx.sqT, hy.sqT, h0, by rw [r1.length, r2.length]; exact hz, fun z => ?_, fun z p o hp hc hd => ?_⟩
        · subst z
          have e0 : qs = [] := by
            cases qs with
            | nil => rfl
            | cons _ _ => have := r2.length; simp at this
          subst e0
          rw [List.append_nil] at hq
          refine hq F _ H er.aft ?_
          show Rep X.K F H _ (.tup ps)
          unfold Rep
          exact ⟨a, xs, rfl, hx, r1⟩
        · exact hq F _ _ (er.fresh hp) (er.newT hp hc hd (r1.append r2))
    · cases e
  · rename_i ps qs
    split at e
    · rename_i hz
      cases e
      obtain ⟨a, xs, rfl, hx, r1⟩ := rx
      obtain ⟨b, ys, rfl, hy, r2⟩ := ry
      refine ⟨_, op_cat, a, b, xs, ys, rfl, rfl, hx, hy, by rw [r1.length, r2.length]; exact hz, fun p hp => ?_⟩
      exact hq F _ _ (er.fresh hp) (er.newL (Same.refl _) hp (r1.append r2))
    · cases e
  · split at e
    · rename_i hz
      cases e
      have ex : x = .str _ := rx
      have ey : y = .str _ := ry
      subst ex ey
      exact ⟨_, op_add_str, _, _, rfl, rfl, hz, hq F _ H er.aft (rep_str (K := X.K) (F := F) (H := H))⟩
    · cases e
  · cases e

/-! ### t[i], t[a:b] -/
def sIxO (X : Cx) : R2 := fun x y H Q => ∀ (value slice : Expr) (pins : List (Addr × Obj)) (s : Shared) (σ : St) (v u : Value), L2.Inv X pins σ H s → L2.RelV x v → L2.RelV y u →
    subscripted slice false v u = operate [v, u] (getItem v u) → wpAny (model X.prog X.w) X.A (PyProof.Rows.subscriptTail value slice v u) (EP X pins σ Q) X.xe s
theorem sIxO_ok : IxR X (sIxO X) := fun value slice pins s σ H x y v u Q I rx ry h hs => h value slice pins s σ v u I rx ry hs
theorem sIxO_of {r : R2} {x y : V} {H : Hp} {Q : VK} (o : IxR X r) (h : r x y H Q) : sIxO X x y H Q := fun value slice pins s σ v u I rx ry hs => o value slice pins s σ H x y v u Q I rx ry h hs
def gIx : PV → PV → Option RV
  | .tup ps, .int i => (atI ps i).map fun p => (p, false)
  | .lst ps, .int i => (atI ps i).map fun p => (p, false)
  | .scr ns, .int i => (atI ns i).map fun n => (.int n, false)
  | _, _ => none
theorem RepL.atI {K : Fr} {F : FS} {H : Hp} {vs : List V} {ps : List PV} {i : Int} {p : PV} (h : RepL K F H vs ps) (e : L2.atI ps i = some p) : ∃ v, L2.atI vs i = some v ∧ Rep K F H v p := by
  unfold L2.atI at e ⊢
  rw [h.length]
  cases q : ixN ps.length i with
  | none => rw [q] at e; cases e
  | some j =>
    rw [q] at e
    exact h.get e
theorem atI_ints {ns : List Int} {i n : Int} (e : L2.atI ns i = some n) : L2.atI (ns.map V.int) i = some (.int n) := by
  unfold L2.atI at e ⊢
  rw [List.length_map]
  cases q : ixN ns.length i with
  | none => rw [q] at e; cases e
  | some j =>
    rw [q] at e
    simp only [Option.bind_some] at e ⊢
    rw [List.getElem?_map, e]; rfl
theorem res_bl {K : Fr} {F : FS} {H0 Hs H : Hp} {ev : SL} {σ : St} {b : Bool} : ResR K F H0 ev σ Hs H (.bl b, false) (.bl b) := by
  show Rep K F H _ _
  exact rep_bl
theorem res_int {K : Fr} {F : FS} {H0 Hs H : Hp} {ev : SL} {σ : St} {b : Int} : ResR K F H0 ev σ Hs H (.int b, false) (.int b) := by
  show Rep K F H _ _
  exact rep_int
theorem gIx_int {p q : PV} {r : RV} (e : gIx p q = some r) : ∃ i, q = .int i := by
  cases q with
  | int i => exact ⟨i, rfl⟩
  | _ => cases p <;> cases e
theorem ix_ok {F : FS} {H0 H : Hp} {ev : SL} {σ : St} {x y : V} {Q : VK} {i : Int} {r : RV} (ry : RepT X.K F H y (.int i)) {p : PV} (rx : RepT X.K F H x p) (e : gIx p (.int i) = some r)
    (hq : ∀ v, ResR X.K F H0 ev σ H H r v → Q v H) : sIxO X x y H Q := by
  have ey : y = .int _ := ry
  subst ey
  cases p with
  | tup ps =>
    have rx' : Rep X.K F H x (.tup ps) := rx
    unfold Rep at rx'
    obtain ⟨a, xs, rfl, hx, r1⟩ := rx'
    unfold gIx at e
    obtain ⟨p, e1, rfl⟩ := Option.map_eq_some_iff.mp e
    obtain ⟨v, e2, r2⟩ := r1.atI e1
    exact sIxO_of ix_tup ⟨a, xs, i, v, rfl, rfl, hx.sqT, e2, hq v r2⟩
  | lst ps =>
    obtain ⟨a, xs, rfl, hx, r1⟩ := rx
    unfold gIx at e
    obtain ⟨p, e1, rfl⟩ := Option.map_eq_some_iff.mp e
    obtain ⟨v, e2, r2⟩ := r1.atI e1
    exact sIxO_of ix_list ⟨a, xs, i, v, rfl, rfl, SqL.of hx, e2, hq v r2⟩
  | scr ns =>
    have rx' : Rep X.K F H x (.scr ns) := rx
    unfold Rep at rx'
    obtain ⟨a, rfl, hx⟩ := rx'
    unfold gIx at e
    obtain ⟨p, e1, rfl⟩ := Option.map_eq_some_iff.mp e
    exact sIxO_of ix_list ⟨a, _, i, _, rfl, rfl, hx.seq, atI_ints e1, hq _ res_int⟩
  | _ => cases e
theorem e_ix {a b : Expr} {ma mb : M PV} {pos : Pos} (ha : SP X W cm a ma) (hb : SP X W cm b mb) (hs : PlainIx b := by exact fun _ _ => rfl) : SE X W cm (.Subscript a b pos) (eOp gIx ma mb) := .mk' fun F H0 H ev σ Q r h => by
  refine sE_of (pe_ix sIxO_ok sE_pe sE_pe hs) ?_
  refine ha.go r (h.bnd.mono fun p ev1 F1 H1 a1 hh x rx => ?_)
  refine hb.go a1.er (hh.2.bnd.mono fun q ev2 F2 H2 a2 hh2 y ry => ?_)
  have h2 := hh2.2
  have rx2 := rx.mono a2.same a2.sub
  cases e : gIx p q with
  | none => rw [e] at h2; exact h2.elim
  | some z =>
    rw [e] at h2
    obtain ⟨i, rfl⟩ := gIx_int e
    exact ix_ok ry rx2 e fun v rv => Wt.ret a2.er h2 v (rv.later (a1.same.trans a2.same))
/-- a slice's part -/
structure SO (X : Cx) (W : WX) (cm : CM) (e : Option Expr) (m : M (Option Int)) : Prop where
  go : ∀ {F : FS} {H0 H : Hp} {ev : SL} {σ : St} {Q : Option Int → Hp → Prop}, ER X.K F H0 ev σ H → (Wt X.K W cm F H0 ev σ H m fun o _ F' H' => Q o H') →
    ∀ (pins : List (Addr × Obj)) (s : Shared), L2.Inv X pins σ H s → wpAny (model X.prog X.w) X.A (evalPart e X.env) (fun u s' => ∃ o H', L2.Inv X pins σ H' s' ∧ IsPart u o ∧ Q o H') X.xe s
def sPO (X : Cx) (e : Option Expr) : TO := fun σ H Q => ∀ (pins : List (Addr × Obj)) (s : Shared), L2.Inv X pins σ H s → wpAny (model X.prog X.w) X.A (evalPart e X.env) (fun u s' => ∃ o H', L2.Inv X pins σ H' s' ∧ IsPart u o ∧ Q o H') X.xe s
theorem sPO_ok {e : Option Expr} : PO X e (sPO X e) := ⟨fun pins s σ H Q I h => h pins s I⟩
theorem so_none : SO X W cm none (ret none) := ⟨fun {F H0 H ev σ Q} r h pins s I => po_none.run pins s σ H Q I (Wt.ret r h)⟩
def intOf : PV → M Int
  | .int i => ret i
  | _ => bad
def soInt (m : M PV) : M (Option Int) := bnd m fun p => match p with
  | .int i => ret (some i)
  | _ => bad
theorem so_some {e : Expr} {m : M PV} (he : SP X W cm e m) : SO X W cm (some e) (soInt m) := ⟨fun {F H0 H ev σ Q} r h pins s I => by
  refine (po_some (sE_pe (e := e))).run pins s σ H Q I ?_
  refine he.go r (h.bnd.mono fun p ev1 F1 H1 a1 ⟨n1, h1⟩ x rx => ?_)
  cases p with
  | int i =>
    have ex : x = .int i := rx
    exact ⟨i, ex, Wt.ret (P := fun o _ _ H' => Q o H') a1.er h1⟩
  | _ => exact h1.elim⟩
def cutP {α : Type} (xs : List α) (lo hi : Option Int) : List α := (xs.drop (HT.sIx xs.length 0 lo)).take (HT.sIx xs.length xs.length hi - HT.sIx xs.length 0 lo)
def gSl (p : PV) (lo hi : Option Int) : Option RV := match p with
  | .tup ps => some (.tup (cutP ps lo hi), false)
  | .lst ps => some (.lst (cutP ps lo hi), true)
  | _ => none
def eSl (a : M PV) (lo hi : M (Option Int)) : M RV := bnd a fun p => bnd lo fun l => bnd hi fun h => opt (gSl p l h)
def sSl (X : Cx) : V → Option Int → Option Int → Hp → VK → Prop := fun x lo hi H Q => ∀ (pins : List (Addr × Obj)) (s : Shared) (σ : St) (v vl vu : Value) (sl : Addr), L2.Inv X pins σ H s → L2.RelV x v → s.heap.IsSliceOf sl vl vu .none → IsPart vl lo → IsPart vu hi →
    ∃ T id, typeLookup (.type T) "__getitem__" = pure (some (.builtin id)) ∧ s.TypeIs v T ∧ wpAny (model X.prog X.w) X.A (getItem v (.ref sl)) (EP X pins σ Q) X.xe s
theorem sSl_ok : SlR X (sSl X) := fun pins s σ H x v vl vu lo hi sl Q I rx hs pl pu h => h pins s σ v vl vu sl I rx hs pl pu
theorem sSl_of {r : V → Option Int → Option Int → Hp → VK → Prop} {x : V} {lo hi : Option Int} {H : Hp} {Q : VK} (o : SlR X r) (h : r x lo hi H Q) : sSl X x lo hi H Q := fun pins s σ v vl vu sl I rx hs pl pu => o pins s σ H x v vl vu lo hi sl Q I rx hs pl pu h
theorem RepL.cut {K : Fr} {F : FS} {H : Hp} {vs : List V} {ps : List PV} {lo hi : Option Int} (h : RepL K F H vs ps) : RepL K F H (cutV vs lo hi) (cutP ps lo hi) := by
  unfold cutV cutP
  rw [h.length]
  exact (h.drop _).take _
theorem e_sl {a : Expr} {lo hi : Option Expr} {ma : M PV} {ml mh : M (Option Int)} {pos p2 : Pos} (ha : SP X W cm a ma) (hl : SO X W cm lo ml) (hh : SO X W cm hi mh) : SE X W cm (.Subscript a (.Slice lo hi none p2) pos) (eSl ma ml mh) := .mk' fun F H0 H ev σ Q r h => by
  refine sE_of (pe_slice sSl_ok sE_pe sPO_ok sPO_ok) ?_
  refine ha.go r (h.bnd.mono fun p ev1 F1 H1 a1 ⟨n1, h1⟩ x rx => ?_)
  refine hl.go a1.er (h1.bnd.mono fun l ev2 F2 H2 a2 ⟨n2, h2⟩ => ?_)
  refine hh.go a2.er (h2.bnd.mono fun u ev3 F3 H3 a3 ⟨n3, h3⟩ => ?_)
  have rx3 := (rx.mono a2.same a2.sub).mono a3.same a3.sub
  have s3 : Same H H3 := a1.same.trans (a2.same.trans a3.same)
  cases p with
  | tup ps =>
    have rx' : Rep X.K F3 H3 x (.tup ps) := rx3
    unfold Rep at rx'
    obtain ⟨a, xs, rfl, hx, r1⟩ := rx'
    by_cases hw : HT.sIx xs.length 0 l = 0 ∧ HT.sIx xs.length xs.length u = xs.length
    · refine sSl_of sl_tupW ⟨a, xs, rfl, hx.sqT, hw, ?_⟩
      have ec : cutP ps l u = ps := by
        unfold cutP
        rw [← r1.length, hw.1, hw.2, List.drop_zero, r1.length, Nat.sub_zero, List.take_length]
      have h4 : Wt X.K W cm F3 H0 ev3 σ H3 (ret ((PV.tup ps, false) : RV)) fun r ev' F' H' => ∀ v, ResR X.K F' H0 ev' σ H H' r v → Q v H' := by
        rw [← ec]
        exact h3
      refine Wt.ret a3.er h4 _ ?_
      show Rep X.K F3 H3 _ (.tup ps)
      unfold Rep
      exact ⟨a, xs, rfl, hx, r1⟩
    · refine sSl_of cut_X ⟨a, xs, rfl, hx.sqT, hw, fun p o hp hc hd => ?_⟩
      exact h3 F3 _ (a3.er.fresh hp) _ (a3.er.newT hp hc hd r1.cut)
  | lst ps =>
    obtain ⟨a, xs, rfl, hx, r1⟩ := rx3
    refine sSl_of sl_list ⟨a, xs, rfl, SqL.of hx, fun p hp => ?_⟩
    exact h3 F3 _ (a3.er.fresh hp) _ (a3.er.newL s3 hp r1.cut)
  | _ => exact h3.elim

/-! ### tests -/
def truP : PV → Option Bool
  | .non => some false
  | .bl b => some b
  | .int i => some (i != 0)
  | .tup ps => some (!ps.isEmpty)
  | .lst ps => some (!ps.isEmpty)
  | _ => none
theorem RepL.isEmpty {K : Fr} {F : FS} {H : Hp} {vs : List V} {ps : List PV} (h : RepL K F H vs ps) : vs.isEmpty = ps.isEmpty := by
  cases ps with
  | nil => rw [h.nil_inv]; rfl
  | cons p ps =>
    unfold RepL at h
    obtain ⟨x, r, rfl, _⟩ := h
    rfl
theorem RepT.tru {K : Fr} {F : FS} {H : Hp} {v : V} {p : PV} {b : Bool} (h : RepT K F H v p) (e : truP p = some b) : TruV K v H b := by
  cases p <;> unfold truP at e <;> cases e
  · have h' : v = .non := h; subst h'; rfl
  · have h' : v = .bl _ := h; subst h'; rfl
  · have h' : v = .int _ := h; subst h'; rfl
  · have h' : Rep K F H v (.tup _) := h
    unfold Rep at h'
    obtain ⟨a, xs, rfl, q, r⟩ := h'
    exact .inr (.inl ⟨xs, q.sqT, by rw [r.isEmpty]⟩)
  · obtain ⟨a, xs, rfl, q, r⟩ := h
    exact .inl ⟨xs, SqL.of q, by rw [r.isEmpty]⟩
def tTru (m : M PV) : M Bool := bnd m fun p => opt (truP p)
theorem t_val {e : Expr} {m : M PV} (s : SP X W cm e m) (he : ∀ whole, PySem.isTrue e X.env whole = (do let v ← whole; standAt e.pos; holding [v] (truthy v)) := by intro _; rfl) : ST X W cm e (tTru m) := .mk' fun F H0 H ev σ Q r h => by
  refine sT_of (pt_truth sE_pe he) ?_
  refine s.go r (h.bnd.mono fun p ev1 F1 H1 a1 ⟨n1, h1⟩ x rx => ?_)
  cases e1 : truP p with
  | none => rw [e1] at h1; exact h1.elim
  | some b => rw [e1] at h1; exact ⟨b, rx.tru e1, Wt.ret (P := fun b _ _ H' => Q b H') a1.er h1⟩
def blOf (m : M RV) : M Bool := bnd m fun r => match r.1 with
  | .bl b => ret b
  | _ => bad
theorem t_cmp {op : CmpOp} {g : PV → PV → Option RV} {a b : Expr} {ma mb : M PV} {pos : Pos} (ho : OpOk X (compareOp op) g) (ha : SP X W cm a ma) (hb : SP X W cm b mb) (hm : behindInMarks op b = false := by first | exact nomark _ | rfl) : ST X W cm (.Compare a [op] [b] pos) (blOf (eOp g ma mb)) := .mk' fun F H0 H ev σ Q r h => by
  refine sT_of (pt_cmpR sOp_ok sE_pe sE_pe hm) ?_
  refine op2 ho ha hb r (h.bnd.mono fun z ev1 F1 H1 a1 ⟨n1, h1⟩ v rv => ?_)
  obtain ⟨p, fr⟩ := z
  cases p with
  | bl b =>
    have e : v = .bl b := by
      have := rv.top
      exact this
    exact ⟨b, e, Wt.ret (P := fun b _ _ H' => Q b H') a1.er h1⟩
  | _ => exact h1.elim
def eChain (g g' : PV → PV → Option RV) (a b c : M PV) : M RV := bnd a fun x => bnd b fun y => bnd (opt (g x y)) fun r => match r.1 with
  | .bl true => bnd c fun z => opt (g' y z)
  | .bl false => ret (.bl false, false)
  | _ => bad
theorem op_opt {f : Value → Value → Sem Value} {g : PV → PV → Option RV} (ho : OpOk X f g) {F : FS} {H0 H : Hp} {ev : SL} {σ : St} {x y : V} {p q : PV} {Q : VK} {P : RV → SL → FS → Hp → Prop} (r : ER X.K F H0 ev σ H) (rx : RepT X.K F H x p) (ry : RepT X.K F H y q)
    (h : Wt X.K W cm F H0 ev σ H (opt (g p q)) P) (hP : ∀ z F' H' v, Aft X.K F H0 ev ev σ H F' H' → ResR X.K F' H0 ev σ H H' z v → P z ev F' H' → Q v H') : sOp X f x y H Q := by
  cases e : g p q with
  | none => rw [e] at h; exact h.elim
  | some z =>
    rw [e] at h
    exact ho F H0 H ev σ x y p q z Q r rx ry e fun F' v H' a rr => hP z F' H' v a rr (h F' H' a)
theorem chain2 {op op' : CmpOp} {g g' : PV → PV → Option RV} {a b c : Expr} {ma mb mc : M PV} (ho : OpOk X (compareOp op) g) (ho' : OpOk X (compareOp op') g') (ha : SP X W cm a ma) (hb : SP X W cm b mb) (hc : SP X W cm c mc) {F : FS} {H0 H : Hp} {ev : SL} {σ : St} {Q : VK} (r : ER X.K F H0 ev σ H)
    (h : Wt X.K W cm F H0 ev σ H (eChain g g' ma mb mc) fun r ev' F' H' => ∀ v, ResR X.K F' H0 ev' σ H H' r v → Q v H') : tChain (sOp X (compareOp op)) (sOp X (compareOp op')) (sE X a) (sE X b) (sE X c) σ H Q := by
  refine ha.go r (h.bnd.mono fun p ev1 F1 H1 a1 ⟨n1, h1⟩ x rx => ?_)
  refine hb.go a1.er (h1.bnd.mono fun q ev2 F2 H2 a2 ⟨n2, h2⟩ y ry => ?_)
  refine op_opt ho a2.er (rx.mono a2.same a2.sub) ry h2.bnd fun z F3 H3 v a3 rz ⟨n3, h3⟩ => ?_
  obtain ⟨p', fr⟩ := z
  cases p' with
  | bl k =>
    have e : v = .bl k := rz.top
    refine ⟨k, e, ?_⟩
    cases k with
    | true =>
      refine iteT ?_
      refine hc.go a3.er (h3.bnd.mono fun w ev4 F4 H4 a4 ⟨n4, h4⟩ u ru => ?_)
      refine op_opt ho' a4.er ((ry.mono a3.same a3.sub).mono a4.same a4.sub) ru h4 fun z F5 H5 v a5 rz hp => ?_
      exact hp v (rz.later (a1.same.trans (a2.same.trans (a3.same.trans a4.same))))
    | false => exact iteF (Wt.ret a3.er h3 _ res_bl)
  | _ => exact h3.elim
theorem e_chain {op op' : CmpOp} {g g' : PV → PV → Option RV} {a b c : Expr} {ma mb mc : M PV} {pos : Pos} (ho : OpOk X (compareOp op) g) (ho' : OpOk X (compareOp op') g') (ha : SP X W cm a ma) (hb : SP X W cm b mb) (hc : SP X W cm c mc)
    (hm : lastMarks [op, op'] [b, c] = false := by with_unfolding_all rfl) : SE X W cm (.Compare a [op, op'] [b, c] pos) (eChain g g' ma mb mc) := .mk' fun F H0 H ev σ Q r h =>
  sE_of (pe_chain sOp_ok sOp_ok sE_pe sE_pe sE_pe hm) (chain2 ho ho' ha hb hc r h)
theorem t_chain {op op' : CmpOp} {g g' : PV → PV → Option RV} {a b c : Expr} {ma mb mc : M PV} {pos : Pos} (ho : OpOk X (compareOp op) g) (ho' : OpOk X (compareOp op') g') (ha : SP X W cm a ma) (hb : SP X W cm b mb) (hc : SP X W cm c mc)
    (hm : lastMarks [op, op'] [b, c] = false := by with_unfolding_all rfl) : ST X W cm (.Compare a [op, op'] [b, c] pos) (blOf (eChain g g' ma mb mc)) := .mk' fun F H0 H ev σ Q r h => by
  refine sT_of (pt_chain sOp_ok sOp_ok sE_pe sE_pe sE_pe hm) ?_
  refine chain2 ho ho' ha hb hc r (h.bnd.mono fun z ev1 F1 H1 a1 ⟨n1, h1⟩ v rv => ?_)
  obtain ⟨p, fr⟩ := z
  cases p with
  | bl b => exact ⟨b, rv.top, Wt.ret (P := fun b _ _ H' => Q b H') a1.er h1⟩
  | _ => exact h1.elim
/-! ### not, and, or -/
def mNot (m : M Bool) : M Bool := bnd m fun b => ret (!b)
theorem t_not {a : Expr} {m : M Bool} {pos : Pos} (s : ST X W cm a m) : ST X W cm (.UnaryOp .Not a pos) (mNot m) := .mk' fun F H0 H ev σ Q r h => by
  refine sT_of (pt_not sT_pt) ?_
  exact s.go r (h.bnd.mono fun b ev1 F1 H1 a1 ⟨n1, h1⟩ => Wt.ret (P := fun b _ _ H' => Q b H') a1.er h1)
def sW (X : Cx) (e : Expr) : TT := fun σ H Q => ∀ (whole : Sem Value) (pins : List (Addr × Obj)) (s : Shared), L2.Inv X pins σ H s → wpAny (model X.prog X.w) X.A (PySem.isTrue e X.env whole) (TP X pins σ Q) X.xe s
theorem sW_pw {e : Expr} : PW X e (sW X e) := ⟨fun wh pins s σ H Q I h => h wh pins s I⟩
theorem sW_of {e : Expr} {t : TT} {σ : St} {H : Hp} {Q : Bool → Hp → Prop} (p : PW X e t) (h : t σ H Q) : sW X e σ H Q := fun wh pins s I => p.run wh pins s σ H Q I h
structure SW (X : Cx) (W : WX) (cm : CM) (e : Expr) (m : M Bool) : Prop where
  go : ∀ {F : FS} {H0 H : Hp} {ev : SL} {σ : St} {Q : Bool → Hp → Prop}, ER X.K F H0 ev σ H → (Wt X.K W cm F H0 ev σ H m fun b _ _ H' => Q b H') → sW X e σ H Q
theorem t_w {e : Expr} {m : M Bool} (s : SW X W cm e m) : ST X W cm e m := .mk' fun F H0 H ev σ Q r h => sT_of (PW.pt sW_pw) (s.go r h)
def mAnd (a b : M Bool) : M Bool := bnd a fun x => if x then b else ret false
def mOr (a b : M Bool) : M Bool := bnd a fun x => if x then ret true else b
theorem w_one {a : Expr} {m : M Bool} {pos : Pos} (s : ST X W cm a m) : SW X W cm (.BoolOp .And [a] pos) m := ⟨fun {F H0 H ev σ Q} r h => sW_of (pw_and1 sT_pt) (s.go r h)⟩
theorem w_oneO {a : Expr} {m : M Bool} {pos : Pos} (s : ST X W cm a m) : SW X W cm (.BoolOp .Or [a] pos) m := ⟨fun {F H0 H ev σ Q} r h => sW_of (pw_or1 sT_pt) (s.go r h)⟩
theorem w_and {a b : Expr} {rest : List Expr} {ma mb : M Bool} {pos : Pos} (s : ST X W cm a ma) (u : SW X W cm (.BoolOp .And (b :: rest) pos) mb) : SW X W cm (.BoolOp .And (a :: b :: rest) pos) (mAnd ma mb) := ⟨fun {F H0 H ev σ Q} r h => by
  refine sW_of (pw_and sT_pt sW_pw) ?_
  refine s.go r (h.bnd.mono fun k ev1 F1 H1 a1 ⟨n1, h1⟩ => ?_)
  cases k with
  | true => exact iteT (u.go a1.er h1)
  | false => exact iteF (Wt.ret (P := fun b _ _ H' => Q b H') a1.er h1)⟩
theorem w_or {a b : Expr} {rest : List Expr} {ma mb : M Bool} {pos : Pos} (s : ST X W cm a ma) (u : SW X W cm (.BoolOp .Or (b :: rest) pos) mb) : SW X W cm (.BoolOp .Or (a :: b :: rest) pos) (mOr ma mb) := ⟨fun {F H0 H ev σ Q} r h => by
  refine sW_of (pw_or sT_pt sW_pw) ?_
  refine s.go r (h.bnd.mono fun k ev1 F1 H1 a1 ⟨n1, h1⟩ => ?_)
  cases k with
  | true => exact iteT (Wt.ret (P := fun b _ _ H' => Q b H') a1.er h1)
  | false => exact iteF (u.go a1.er h1)⟩
/-- as values -/
def vAnd (a b : M RV) : M RV := bnd a fun r => match r.1 with
  | .bl true => b
  | .bl false => ret (.bl false, false)
  | _ => bad
def vOr (a b : M RV) : M RV := bnd a fun r => match r.1 with
  | .bl true => ret (.bl true, false)
  | .bl false => b
  | _ => bad
def vNot (a : M RV) : M RV := bnd a fun r => match r.1 with
  | .bl b => ret (.bl (!b), false)
  | _ => bad
theorem e_one {op : BoolOp} {a : Expr} {m : M RV} {pos : Pos} (s : SE X W cm a m) : SE X W cm (.BoolOp op [a] pos) m := .mk' fun F H0 H ev σ Q r h => sE_of (pe_one sE_pe) (s.go r h)
theorem e_and {a b : Expr} {rest : List Expr} {ma mb : M RV} {pos : Pos} (s : SE X W cm a ma) (u : SE X W cm (.BoolOp .And (b :: rest) pos) mb) : SE X W cm (.BoolOp .And (a :: b :: rest) pos) (vAnd ma mb) := .mk' fun F H0 H ev σ Q r h => by
  refine sE_of (pe_and sE_pe sE_pe) ?_
  refine s.go r (h.bnd.mono fun z ev1 F1 H1 a1 ⟨n1, h1⟩ v rv => ?_)
  obtain ⟨p, fr⟩ := z
  cases p with
  | bl k =>
    refine ⟨k, rv.top, ?_⟩
    cases k with
    | true => exact iteT (u.go a1.er (h1.mono fun z ev2 F2 H2 a2 hp v rv => hp v (rv.later a1.same)))
    | false => exact iteF (Wt.ret a1.er h1 _ res_bl)
  | _ => exact h1.elim
theorem e_or {a b : Expr} {rest : List Expr} {ma mb : M RV} {pos : Pos} (s : SE X W cm a ma) (u : SE X W cm (.BoolOp .Or (b :: rest) pos) mb) : SE X W cm (.BoolOp .Or (a :: b :: rest) pos) (vOr ma mb) := .mk' fun F H0 H ev σ Q r h => by
  refine sE_of (pe_or sE_pe sE_pe) ?_
  refine s.go r (h.bnd.mono fun z ev1 F1 H1 a1 ⟨n1, h1⟩ v rv => ?_)
  obtain ⟨p, fr⟩ := z
  cases p with
  | bl k =>
    refine ⟨k, rv.top, ?_⟩
    cases k with
    | true => exact iteT (Wt.ret a1.er h1 _ res_bl)
    | false => exact iteF (u.go a1.er (h1.mono fun z ev2 F2 H2 a2 hp v rv => hp v (rv.later a1.same)))
  | _ => exact h1.elim
theorem e_not {a : Expr} {m : M RV} {pos : Pos} (s : SE X W cm a m) : SE X W cm (.UnaryOp .Not a pos) (vNot m) := .mk' fun F H0 H ev σ Q r h => by
  refine sE_of (pe_not sE_pe) ?_
  refine s.go r (h.bnd.mono fun z ev1 F1 H1 a1 ⟨n1, h1⟩ v rv => ?_)
  obtain ⟨p, fr⟩ := z
  cases p with
  | bl k => exact ⟨k, rv.top, Wt.ret a1.er h1 _ res_bl⟩
  | _ => exact h1.elim
def vNeg (a : M PV) : M RV := bnd a fun p => match p with
  | .int i => ret (.int (-i), false)
  | _ => bad
theorem e_neg {a : Expr} {m : M PV} {pos : Pos} (s : SP X W cm a m) : SE X W cm (.UnaryOp .USub a pos) (vNeg m) := .mk' fun F H0 H ev σ Q r h => by
  refine sE_of (pe_un un_neg sE_pe) ?_
  refine s.go r (h.bnd.mono fun p ev1 F1 H1 a1 ⟨n1, h1⟩ v rv => ?_)
  cases p with
  | int i => exact ⟨i, rv, Wt.ret a1.er h1 _ res_int⟩
  | _ => exact h1.elim
def mIf (c : M Bool) (a b : M RV) : M RV := bnd c fun k => if k then a else b
theorem e_if {c a b : Expr} {mc : M Bool} {ma mb : M RV} {pos : Pos} (sc : ST X W cm c mc) (sa : SE X W cm a ma) (sb : SE X W cm b mb) : SE X W cm (.IfExp c a b pos) (mIf mc ma mb) := .mk' fun F H0 H ev σ Q r h => by
  refine sE_of (pe_ifExp sT_pt sE_pe sE_pe) ?_
  refine sc.go r (h.bnd.mono fun k ev1 F1 H1 a1 ⟨n1, h1⟩ => ?_)
  cases k with
  | true => exact iteT (sa.go a1.er (h1.mono fun z ev2 F2 H2 a2 hp v rv => hp v (rv.later a1.same)))
  | false => exact iteF (sb.go a1.er (h1.mono fun z ev2 F2 H2 a2 hp v rv => hp v (rv.later a1.same)))

/-! ### lists of expressions -/
def sA (X : Cx) (es : List Expr) : TA := fun σ H Q => ∀ (pos : Pos) (pins : List (Addr × Obj)) (s : Shared), L2.Inv X pins σ H s → wpAny (model X.prog X.w) X.A (spliced (backTo pos (starEach es X.env))) (AP X pins σ Q) X.xe s
theorem sA_pa {es : List Expr} : PA X es (sA X es) := ⟨fun pos pins s σ H Q I h => h pos pins s I⟩
theorem sA_of {es : List Expr} {t : TA} {σ : St} {H : Hp} {Q : List V → Hp → Prop} (p : PA X es t) (h : t σ H Q) : sA X es σ H Q := fun pos pins s I => p.run pos pins s σ H Q I h
/-- values that are kept -/
structure SA (X : Cx) (W : WX) (cm : CM) (es : List Expr) (m : M (List PV)) : Prop where
  go : ∀ {F : FS} {H0 H : Hp} {ev : SL} {σ : St} {Q : List V → Hp → Prop}, ER X.K F H0 ev σ H → (Wt X.K W cm F H0 ev σ H m fun ps ev' F' H' => ∀ F2 vs, Aft X.K F H0 ev ev' σ H F2 H' → RepL X.K F2 H' vs ps → Q vs H') → sA X es σ H Q
theorem a_nil : SA X W cm [] (ret []) := ⟨fun {F H0 H ev σ Q} r h => sA_of pa_nil (Wt.ret (P := fun ps ev' F' H' => ∀ F2 vs, Aft X.K F H0 ev ev' σ H F2 H' → RepL X.K F2 H' vs ps → Q vs H') r h F [] r.aft RepL.nil)⟩
def aCons (a : M RV) (r : M (List PV)) : M (List PV) := bnd a fun x => bnd r fun ps => ret (x.1 :: ps)
theorem Aft.of2 {K : Fr} {F F1 F2 : FS} {H0 H H1 : Hp} {ev ev1 : SL} {σ : St} (a : Aft K F H0 ev ev1 σ H F1 H1) (m : M (List PV)) : True := trivial
theorem a_cons {e : Expr} {es : List Expr} {m : M RV} {ms : M (List PV)} (s : SE X W cm e m) (u : SA X W cm es ms) (hs : starEach (e :: es) X.env = (false, eval e X.env) :: starEach es X.env := by rfl) : SA X W cm (e :: es) (aCons m ms) := ⟨fun {F H0 H ev σ Q} r h => by
  refine sA_of (pa_cons sE_pe sA_pa hs) ?_
  refine s.go r ?_
  unfold Wt at h ⊢
  unfold aCons Pv.bnd at h
  cases e1 : m ev with
  | bad => simp only [e1] at h
  | exc c ev1 => simp only [e1] at h; exact h
  | ok z ev1 =>
    simp only [e1] at h
    intro F1 H1 a1 v rv
    obtain ⟨G, aG, rG, _⟩ := rv.share a1
    refine u.go aG.er ?_
    unfold Wt
    cases e2 : ms ev1 with
    | bad => simp only [e2] at h
    | exc c ev2 => simp only [e2] at h; exact fun F2 H2 a2 => h F2 H2 (aG.trans a2)
    | ok ps ev2 =>
      simp only [e2, Pv.ret] at h
      intro F2 H2 a2 F3 vs a3 rs
      exact h F2 H2 (aG.trans a2) F3 (v :: vs) (aG.trans a3) (RepL.cons (rG.mono (.of a3.same) a3.sub) rs)⟩
def mTup (m : M (List PV)) : M RV := bnd m fun ps => if ps.length ≤ SZ then ret (.tup ps, false) else bad
def mLst (m : M (List PV)) : M RV := bnd m fun ps => if ps.length ≤ SZ then ret (.lst ps, true) else bad
theorem e_tup {es : List Expr} {k : Nat} {m : M (List PV)} {pos : Pos} (s : SA X W cm es m) : SE X W cm (.Tuple es k pos) (mTup m) := .mk' fun F H0 H ev σ Q r h => by
  refine sE_of (pe_tupX sA_pa) ?_
  refine s.go r ?_
  unfold Wt at h ⊢
  unfold mTup Pv.bnd at h
  cases e1 : m ev with
  | bad => simp only [e1] at h
  | exc c ev1 => simp only [e1] at h; exact h
  | ok ps ev1 =>
    simp only [e1] at h
    intro F1 H1 _ F2 vs a2 rs
    by_cases hz : ps.length ≤ SZ
    · rw [if_pos hz] at h
      refine ⟨by rw [rs.length]; exact hz, fun p o hp hc hd => ?_⟩
      exact h F2 _ (a2.trans (a2.er.fresh hp)) _ (a2.er.newT hp hc hd rs)
    · rw [if_neg hz] at h
      exact h.elim
theorem e_lst {es : List Expr} {m : M (List PV)} {pos : Pos} (s : SA X W cm es m) : SE X W cm (.List es pos) (mLst m) := .mk' fun F H0 H ev σ Q r h => by
  refine sE_of (pe_lst sA_pa) ?_
  refine s.go r ?_
  unfold Wt at h ⊢
  unfold mLst Pv.bnd at h
  cases e1 : m ev with
  | bad => simp only [e1] at h
  | exc c ev1 => simp only [e1] at h; exact h
  | ok ps ev1 =>
    simp only [e1] at h
    intro F1 H1 _ F2 vs a2 rs
    by_cases hz : ps.length ≤ SZ
    · rw [if_pos hz] at h
      refine ⟨by rw [rs.length]; exact hz, fun p hp => ?_⟩
      exact h F2 _ (a2.trans (a2.er.fresh hp)) _ (a2.er.newL a2.same hp rs)
    · rw [if_neg hz] at h
      exact h.elim
end
end Pv

set_option Elab.async false
set_option linter.all false
set_option maxRecDepth 100000
set_option maxHeartbeats 1000000

/-! ### sorted(t) of a tuple, of a list -/
namespace SrtO
open PySem PyProof.Rows Srt
section
variable {prog : Program} {w : World} {A : Around} {E : Value → Shared → Prop} {s : Shared}
theorem collect_sq {l : Addr} {vs : List Value} {o : Obj} {n : Nat} {T : String} {Q : List Value → Shared → Prop} (hT : T = "list" ∨ T = "tuple") (ho : s.heap.get? l = some o) (hc : o.cls = .type T) (hd : o.data = .seq vs.toArray n)
    (h : Q vs { s with heap := (s.heap.push (seqObj "list" #[] 0)).update s.heap.objs.size (Obj.mapSeq (· ++ vs.toArray)) }) (hsz : vs.length ≤ sizeLine) :
    wpAny (model prog w) A (collect (.ref l)) Q E s := by
  unfold collect
  refine wpAny_bind (wpAny_runValue (codeAny_builtin entry_proto_collect' ?_))
  show wpAny _ _ (do again (.builtin "list.__iadd__" ⟨[← newList [], .ref l], []⟩)) _ _ s
  refine wpAny_bind (wpAny_newList (wpAny_pure ⟨Code.quiet_builtin _ (by decide +kernel), codeAny_builtin entry_list_iadd' ?_⟩))
  show wpAny _ _ (Builtin.List.listExtendWith (.ref s.heap.objs.size) (.ref l) (.ref s.heap.objs.size)) _ _ { s with heap := s.heap.push (seqObj "list" #[] 0) }
  unfold Builtin.List.listExtendWith
  have ho' : (s.heap.push (seqObj "list" #[] 0)).get? l = some o := Heap.get?_push_of_some _ ho
  refine wpAny_bind (wpAny_typeOf (T := T) ⟨o, ho', hc⟩ ?_)
  have ht : (Builtin.List.listSameRef (.ref s.heap.objs.size) (.ref l) || Value.type T == Value.type "list" || Value.type T == Value.type "tuple") = true := by
    rcases hT with rfl | rfl <;> simp
  rw [if_pos ht]
  refine wpAny_bind (listItems_at ho' hd ?_)
  refine wpAny_bind (listItems_at (xs := #[]) (n := 0) (Heap.get?_push_size _ rfl) rfl ?_)
  rw [if_neg (by simp)]
  refine wpAny_bind (listUpdate_at (xs := #[]) (n := 0) (Heap.get?_push_size _ rfl) rfl ?_ (Nat.zero_le _) (by show (#[] ++ vs.toArray).size ≤ sizeLine + 1; simp only [Array.size_append, List.size_toArray, List.length_nil]; omega))
  refine wpAny_pure ?_
  show wpAny (model prog w) A (do
      let o ← load s.heap.objs.size
      match o.data with
      | .seq xs _ => pure xs.toList
      | _ => unsupported "internal:collect") Q E { s with heap := (s.heap.push (seqObj "list" #[] 0)).update s.heap.objs.size (Obj.mapSeq (· ++ vs.toArray)) }
  refine wpAny_bind (wpAny_load (get?_update_seq (Heap.get?_push_size _ rfl) _) ?_)
  show wpAny _ _ (pure ((#[] : Array Value) ++ vs.toArray).toList) Q E _
  rw [show ((#[] : Array Value) ++ vs.toArray).toList = vs by simp]
  exact wpAny_pure h
theorem sorted_ordT {l : Addr} {vs : List Value} {ltv : Value → Value → Bool} {Q : Value → Shared → Prop} (O : Swo ltv) (hl : IsTup s.heap l vs.toArray) (hz : vs.length ≤ sizeLine)
    (hS : 2 ≤ vs.length → ∀ (h₁ : Heap) (a : Addr), h₁.get? a = some (seqObj "list" vs.toArray 0) → (∀ b o, s.heap.get? b = some o → b ≠ a ∧ h₁.get? b = some o) → SortableO prog w A.in1.in1 { s with heap := h₁ } a vs ltv)
    (h : ∀ out : List Value, Srtd ltv out → Stb ltv out vs → Q (.ref (s.heap.objs.size + 1)) { s with heap := sortedAll s.heap vs out.toArray }) :
    wpAny (model prog w) A (call (.builtin "sorted") [.ref l]) Q E s := by
  refine Calls.call_function_entry kind_sorted plain_sorted entry_sorted (args_sorted1 _) ?_
  unfold Builtin.«sorted»
  refine wpAny_bind (m := checkCount "sorted" 1 1 _) (wpAny_pure ?_)
  obtain ⟨o, ho, hc, n, hd⟩ := hl
  refine wpAny_bind (collect_sq (.inr rfl) ho hc hd ?_ hz)
  refine wpAny_bind (wpAny_newList ?_ hz)
  have hsz : ((s.heap.push (seqObj "list" #[] 0)).update s.heap.objs.size (Obj.mapSeq (· ++ vs.toArray))).objs.size = s.heap.objs.size + 1 := by
    rw [Heap.size_update, size_push']
  have hoL : (((s.heap.push (seqObj "list" #[] 0)).update s.heap.objs.size (Obj.mapSeq (· ++ vs.toArray))).push (seqObj "list" vs.toArray 0)).get? (s.heap.objs.size + 1) = some (seqObj "list" vs.toArray 0) := by
    rw [← hsz]; exact Heap.get?_push_size _ rfl
  have keep : ∀ b o, s.heap.get? b = some o → b ≠ s.heap.objs.size + 1 ∧ (((s.heap.push (seqObj "list" #[] 0)).update s.heap.objs.size (Obj.mapSeq (· ++ vs.toArray))).push (seqObj "list" vs.toArray 0)).get? b = some o := fun b o q => by
    have hlt : b < s.heap.objs.size := Heap.lt_size q
    refine ⟨Nat.ne_of_lt (Nat.lt_succ_of_lt hlt), Heap.get?_push_of_some _ ?_⟩
    rw [Heap.get?_update_ne _ _ _ _ (Nat.ne_of_lt hlt)]
    exact Heap.get?_push_of_some _ q
  show wpAny _ _ _ _ _ { s with heap := ((s.heap.push (seqObj "list" #[] 0)).update s.heap.objs.size (Obj.mapSeq (· ++ vs.toArray))).push (seqObj "list" vs.toArray 0) }
  rw [hsz]
  refine wpAny_bind (wpAny_holding (wpAny_call_entry slot_list_sort ⟨_, hoL, rfl⟩ entry_list_sort (list_sort_ord O hoL hz (fun h2 => hS h2 _ _ hoL keep) fun out hs hb => ⟨_, rfl, ?_⟩) (args_list_sort _)))
  exact wpAny_pure ⟨_, rfl, h out hs hb⟩
end
end SrtO

namespace Pv
open PySem PySem.Spec L2
open PyProof.Rows hiding St

/-! ### ints in order -/
def ins (i : Int) : List Int → List Int
  | [] => [i]
  | j :: r => if i ≤ j then i :: j :: r else j :: ins i r
def isort : List Int → List Int
  | [] => []
  | i :: r => ins i (isort r)
theorem ins_perm (i : Int) : ∀ l : List Int, (ins i l).Perm (i :: l)
  | [] => .refl _
  | j :: r => by
    unfold ins
    split
    · exact .refl _
    · exact ((ins_perm i r).cons j).trans (.swap i j r)
theorem isort_perm : ∀ l : List Int, (isort l).Perm l
  | [] => .refl _
  | i :: r => (ins_perm i (isort r)).trans ((isort_perm r).cons i)
theorem ins_sorted (i : Int) : ∀ {l : List Int}, l.Pairwise (· ≤ ·) → (ins i l).Pairwise (· ≤ ·)
  | [], _ => by unfold ins; simp
  | j :: r, h => by
    obtain ⟨h1, h2⟩ := List.pairwise_cons.mp h
    unfold ins
    split
    · rename_i c
      refine List.pairwise_cons.mpr ⟨fun x hx => ?_, h⟩
      rcases List.mem_cons.mp hx with rfl | hx
      · exact c
      · have := h1 x hx; omega
    · rename_i c
      refine List.pairwise_cons.mpr ⟨fun x hx => ?_, ins_sorted i h2⟩
      rcases List.mem_cons.mp ((ins_perm i r).mem_iff.mp hx) with rfl | hx
      · omega
      · exact h1 x hx
theorem isort_sorted : ∀ l : List Int, (isort l).Pairwise (· ≤ ·)
  | [] => .nil
  | i :: r => ins_sorted i (isort_sorted r)
theorem sorted_uniq : ∀ {l m : List Int}, l.Perm m → l.Pairwise (· ≤ ·) → m.Pairwise (· ≤ ·) → l = m
  | [], m, p, _, _ => (List.nil_perm.mp p).symm
  | x :: l, [], p, _, _ => by have := p.length_eq; simp at this
  | x :: l, y :: m, p, hl, hm => by
    obtain ⟨a1, a2⟩ := List.pairwise_cons.mp hl
    obtain ⟨b1, b2⟩ := List.pairwise_cons.mp hm
    have e : x = y := by
      have h1 : x ∈ y :: m := p.mem_iff.mp List.mem_cons_self
      have h2 : y ∈ x :: l := p.mem_iff.mpr List.mem_cons_self
      have c1 : y ≤ x := by
        rcases List.mem_cons.mp h1 with e | h
        · omega
        · exact b1 x h
      have c2 : x ≤ y := by
        rcases List.mem_cons.mp h2 with e | h
        · omega
        · exact a1 y h
      omega
    subst e
    rw [sorted_uniq (List.Perm.cons_inv p) a2 b2]
theorem isort_of {l m : List Int} (p : m.Perm l) (h : m.Pairwise (· ≤ ·)) : m = isort l := sorted_uniq (p.trans (isort_perm l).symm) h (isort_sorted l)

section
variable {X : Cx}
theorem cr_sortedTI : CallR X (.builtin "sorted") (fun vs H Q => ∃ (a : Addr) (ns : List Int), vs = [V.ref a] ∧ SqT X.K H a (ns.map V.int) ∧
    ∀ (ns' : List Int) (p : Addr), ns'.Perm ns → ns'.Pairwise (· ≤ ·) → H p = none → Q (.ref p) (upd H p (.lst (ns'.map V.int)))) := by
  intro pins s σ H vs us Q I r h
  obtain ⟨a, ns, rfl, hs, q⟩ := h
  obtain ⟨its, rv, hl, hz⟩ := I.tuple hs
  rw [Vals.ref1 r]
  have hi := rv.ints
  refine SrtO.sorted_ordT SrtO.swo_int hl (by rw [← rv.length]; exact hz) (fun h2 h₁ a' _ _ => SrtO.ints_sortable hi h2) fun out h1 h2 => ?_
  obtain ⟨k1, k2, k3⟩ := SrtO.ints_out hi h1 h2
  obtain ⟨ep, he'⟩ := PyProof.Rows.sortedAll_at s.heap its out.toArray
  have hlen : ((out.map SrtO.iv).map V.int).length ≤ sizeLine := by
    rw [List.length_map, k2.length_eq]
    rw [List.length_map] at hz
    exact hz
  exact ⟨.ref _, upd H (s.heap.objs.size + 1) (.lst ((out.map SrtO.iv).map V.int)), I.laid (t' := s.toks) (fun _ _ => PyProof.Rows.sortedAll_old) (Nat.le_succ _) ⟨hlen, out, ep, vals_of_ints k1, he'⟩, rfl, q _ _ k2 k3 (I.hok.fresh (Nat.le_succ _))⟩
end

section
variable {X : Cx} {W : WX} {cm : CM}
/-! ### arguments looked at -/
def RepTL (K : Fr) (F : FS) (H : Hp) : List V → List PV → Prop
  | [], [] => True
  | v :: vs, p :: ps => RepT K F H v p ∧ RepTL K F H vs ps
  | _, _ => False
structure SK (X : Cx) (W : WX) (cm : CM) (es : List Expr) (m : M (List PV)) : Prop where
  go : ∀ {F : FS} {H0 H : Hp} {ev : SL} {σ : St} {Q : List V → Hp → Prop}, ER X.K F H0 ev σ H → (Wt X.K W cm F H0 ev σ H m fun ps ev' F' H' => ∀ vs, RepTL X.K F' H' vs ps → Q vs H') → sA X es σ H Q
theorem k_nil : SK X W cm [] (ret []) := ⟨fun {F H0 H ev σ Q} r h => sA_of pa_nil (Wt.ret (P := fun ps ev' F' H' => ∀ vs, RepTL X.K F' H' vs ps → Q vs H') r h [] trivial)⟩
def kCons (a : M PV) (r : M (List PV)) : M (List PV) := bnd a fun x => bnd r fun ps => ret (x :: ps)
theorem k_cons {e : Expr} {es : List Expr} {m : M PV} {ms : M (List PV)} (s : SP X W cm e m) (u : SK X W cm es ms) (hs : starEach (e :: es) X.env = (false, eval e X.env) :: starEach es X.env := by rfl) : SK X W cm (e :: es) (kCons m ms) := ⟨fun {F H0 H ev σ Q} r h => by
  refine sA_of (pa_cons sE_pe sA_pa hs) ?_
  refine s.go r (h.bnd.mono fun p ev1 F1 H1 a1 hh v rv => ?_)
  refine u.go a1.er (hh.2.bnd.mono fun ps ev2 F2 H2 a2 hh2 vs rs => ?_)
  exact Wt.ret (P := fun ps ev' F' H' => ∀ vs, RepTL X.K F' H' vs ps → Q vs H') a2.er hh2.2 (v :: vs) ⟨rv.mono a2.same a2.sub, rs⟩⟩
def sCl (X : Cx) (f : Value) : List V → Hp → VK → Prop := fun xs H Q => ∀ (pins : List (Addr × Obj)) (s : Shared) (σ : St) (us : List Value), L2.Inv X pins σ H s → Vals xs us → wpAny (model X.prog X.w) X.A (call f us) (EP X pins σ Q) X.xe s
theorem sCl_ok {f : Value} : CallR X f (sCl X f) := fun pins s σ H xs us Q I r h => h pins s σ us I r
theorem sCl_of {f : Value} {r : List V → Hp → VK → Prop} {xs : List V} {H : Hp} {Q : VK} (o : CallR X f r) (h : r xs H Q) : sCl X f xs H Q := fun pins s σ us I rv => o pins s σ H xs us Q I rv h
def CallOk (X : Cx) (f : Value) (g : List PV → Option RV) : Prop := ∀ (F : FS) (H0 H : Hp) (ev : SL) (σ : St) (vs : List V) (ps : List PV) (r : RV) (Q : VK), ER X.K F H0 ev σ H → RepTL X.K F H vs ps → g ps = some r →
  (∀ F' v H', Aft X.K F H0 ev ev σ H F' H' → ResR X.K F' H0 ev σ H H' r v → Q v H') → sCl X f vs H Q
def eCall (g : List PV → Option RV) (a : M (List PV)) : M RV := bnd a fun ps => opt (g ps)
theorem call2 {f : Value} {g : List PV → Option RV} (ho : CallOk X f g) {es : List Expr} {ma : M (List PV)} (ha : SK X W cm es ma) {F : FS} {H0 H : Hp} {ev : SL} {σ : St} {Q : VK} (r : ER X.K F H0 ev σ H)
    (h : Wt X.K W cm F H0 ev σ H (eCall g ma) fun r ev' F' H' => ∀ v, ResR X.K F' H0 ev' σ H H' r v → Q v H') : tCB (sCl X f) (sA X es) σ H Q := by
  refine ha.go r (h.bnd.mono fun ps ev1 F1 H1 a1 hh vs rs => ?_)
  have h2 := hh.2
  cases e : g ps with
  | none => rw [e] at h2; exact h2.elim
  | some z =>
    rw [e] at h2
    exact ho F1 H0 H1 ev1 σ vs ps z Q a1.er rs e fun F' v H' a3 rr => h2 F' H' a3 v (rr.later a1.same)
theorem e_callB {id : String} {x : Str} {p pos : Pos} {e : Expr} {es : List Expr} {g : List PV → Option RV} {ma : M (List PV)} (hc : CallOk X (.builtin id) g) (hm : X.mg x = none) (hv : bootBuiltins x = some (.builtin id)) (ha : SK X W cm (e :: es) ma) (hg : Gl X x := by rfl) (hn : x ≠ "__name__" := by decide) (hdb : (x == ("__debug__" : Str)) = false := by decide)
    (he : starEach (e :: es) X.env = (false, eval e X.env) :: starEach es X.env := by rfl) (hpl : (backTo pos (starEach es X.env)).any (·.1) = false := by rfl) : SE X W cm (.Call (.Name x p) (e :: es) [] pos) (eCall g ma) := .mk' fun F H0 H ev σ Q r h =>
  sE_of (pe_callB sCl_ok hg hm hv sA_pa hn hdb he hpl) (call2 hc ha r h)
theorem e_callTy {T : String} {x : Str} {p pos : Pos} {e : Expr} {es : List Expr} {g : List PV → Option RV} {ma : M (List PV)} (hc : CallOk X (.type T) g) (hm : X.mg x = none) (hv : bootBuiltins x = some (.type T)) (ha : SK X W cm (e :: es) ma) (hg : Gl X x := by rfl) (hn : x ≠ "__name__" := by decide) (hdb : (x == ("__debug__" : Str)) = false := by decide)
    (he : starEach (e :: es) X.env = (false, eval e X.env) :: starEach es X.env := by rfl) (hpl : (backTo pos (starEach es X.env)).any (·.1) = false := by rfl) : SE X W cm (.Call (.Name x p) (e :: es) [] pos) (eCall g ma) := .mk' fun F H0 H ev σ Q r h =>
  sE_of (pe_callTy sCl_ok hg hm hv sA_pa hn hdb he hpl) (call2 hc ha r h)
theorem RepTL.one {K : Fr} {F : FS} {H : Hp} {vs : List V} {p : PV} (h : RepTL K F H vs [p]) : ∃ v, vs = [v] ∧ RepT K F H v p := by
  cases vs with
  | nil => exact h.elim
  | cons v vs =>
    cases vs with
    | nil => exact ⟨v, rfl, h.1⟩
    | cons _ _ => exact h.2.elim
theorem RepTL.two {K : Fr} {F : FS} {H : Hp} {vs : List V} {p q : PV} (h : RepTL K F H vs [p, q]) : ∃ v w, vs = [v, w] ∧ RepT K F H v p ∧ RepT K F H w q := by
  cases vs with
  | nil => exact h.elim
  | cons v vs =>
    obtain ⟨w, rfl, h2⟩ := RepTL.one h.2
    exact ⟨v, w, rfl, h.1, h2⟩
/-! ### the built-ins -/
def gLen : List PV → Option RV
  | [p] => match items p with
    | some ps => vI ps.length
    | none => match p with
      | .str x => if x.length ≤ SZ then vI x.length else none
      | _ => none
  | _ => none
theorem c_len : CallOk X (.builtin "len") gLen := fun F H0 H ev σ vs ps r Q er rs e hq => by
  unfold gLen at e
  split at e
  · rename_i p
    obtain ⟨v, rfl, rv⟩ := rs.one
    split at e
    · rename_i ps hi
      cases e
      obtain ⟨a, xs, rfl, hs, rl⟩ := rv.items hi
      refine sCl_of call_len_seq ⟨a, xs, rfl, hs, hq F _ H er.aft ?_⟩
      rw [rl.length]
      exact res_int
    · split at e
      · split at e
        · rename_i hz
          cases e
          have ex : v = .str _ := rv
          subst ex
          exact sCl_of call_len_str ⟨_, rfl, hz, hq F _ H er.aft res_int⟩
        · cases e
      · cases e
  · cases e
def gList : List PV → Option RV
  | [p] => match items p with
    | some ps => some (.lst ps, true)
    | none => none
  | _ => none
theorem c_list : CallOk X (.type "list") gList := fun F H0 H ev σ vs ps r Q er rs e hq => by
  unfold gList at e
  split at e
  · rename_i p
    obtain ⟨v, rfl, rv⟩ := rs.one
    split at e
    · rename_i ps hi
      cases e
      obtain ⟨a, xs, rfl, hs, rl⟩ := rv.items hi
      exact sCl_of call_list_of ⟨a, xs, rfl, hs, fun l hl => hq F _ _ (er.fresh hl) (er.newL (Same.refl _) hl rl)⟩
    · cases e
  · cases e
def gTuple : List PV → Option RV
  | [.tup ps] => some (.tup ps, false)
  | [.lst ps] => some (.tup ps, false)
  | _ => none
theorem c_tuple : CallOk X (.type "tuple") gTuple := fun F H0 H ev σ vs ps r Q er rs e hq => by
  unfold gTuple at e
  split at e
  · rename_i ps
    obtain ⟨v, rfl, rv⟩ := rs.one
    cases e
    have rv' : Rep X.K F H v (.tup ps) := rv
    unfold Rep at rv'
    obtain ⟨a, xs, rfl, hx, rl⟩ := rv'
    refine sCl_of call_tuple_of ⟨a, xs, rfl, .inr ⟨hx.sqT, hq F _ H er.aft ?_⟩⟩
    exact rv
  · rename_i ps
    obtain ⟨v, rfl, rv⟩ := rs.one
    cases e
    obtain ⟨a, xs, rfl, hx, rl⟩ := rv
    exact sCl_of tupL_X ⟨a, xs, rfl, SqL.of hx, fun l o hl hc hd => hq F _ _ (er.fresh hl) (er.newT hl hc hd rl)⟩
  · cases e
def gInt : List PV → Option RV
  | [.int i] => vI i
  | [.bl b] => vI (if b then 1 else 0)
  | _ => none
theorem c_int : CallOk X (.type "int") gInt := fun F H0 H ev σ vs ps r Q er rs e hq => by
  unfold gInt at e
  split at e
  · obtain ⟨v, rfl, rv⟩ := rs.one
    cases e
    have ex : v = .int _ := rv
    subst ex
    exact sCl_of call_int1 (.inl ⟨_, rfl, hq F _ H er.aft res_int⟩)
  · obtain ⟨v, rfl, rv⟩ := rs.one
    cases e
    have ex : v = .bl _ := rv
    subst ex
    exact sCl_of call_int1 (.inr ⟨_, rfl, hq F _ H er.aft res_int⟩)
  · cases e
def gAbs : List PV → Option RV
  | [.int i] => vI (if i < 0 then -i else i)
  | _ => none
theorem c_abs : CallOk X (.builtin "abs") gAbs := fun F H0 H ev σ vs ps r Q er rs e hq => by
  unfold gAbs at e
  split at e
  · obtain ⟨v, rfl, rv⟩ := rs.one
    cases e
    have ex : v = .int _ := rv
    subst ex
    exact sCl_of call_abs ⟨_, rfl, hq F _ H er.aft res_int⟩
  · cases e
/-- a list's ints -/
def intsP : List PV → Option (List Int)
  | [] => some []
  | .int i :: ps => (intsP ps).map (i :: ·)
  | _ => none
theorem intsP_eq : ∀ {ps : List PV} {ns : List Int}, intsP ps = some ns → ps = ns.map .int
  | [], ns, e => by unfold intsP at e; cases e; rfl
  | .int i :: ps, ns, e => by
    unfold intsP at e
    obtain ⟨ms, e1, rfl⟩ := Option.map_eq_some_iff.mp e
    rw [intsP_eq e1]; rfl
  | .non :: _, _, e => by unfold intsP at e; cases e
  | .bl _ :: _, _, e => by unfold intsP at e; cases e
  | .str _ :: _, _, e => by unfold intsP at e; cases e
  | .tup _ :: _, _, e => by unfold intsP at e; cases e
  | .lst _ :: _, _, e => by unfold intsP at e; cases e
  | .opq _ :: _, _, e => by unfold intsP at e; cases e
  | .scr _ :: _, _, e => by unfold intsP at e; cases e
  | .itm _ :: _, _, e => by unfold intsP at e; cases e
theorem intsP_map : ∀ ns : List Int, intsP (ns.map .int) = some ns
  | [] => rfl
  | n :: ns => by rw [List.map_cons]; unfold intsP; rw [intsP_map ns]; rfl
def lmin : Int → List Int → Int
  | m, [] => m
  | m, i :: r => lmin (if i < m then i else m) r
def lmax : Int → List Int → Int
  | m, [] => m
  | m, i :: r => lmax (if i > m then i else m) r
theorem lmin_le : ∀ (r : List Int) (m : Int), lmin m r ≤ m ∧ (∀ y ∈ r, lmin m r ≤ y) ∧ (lmin m r = m ∨ lmin m r ∈ r)
  | [], m => ⟨Int.le_refl _, fun _ h => absurd h (by simp), Or.inl rfl⟩
  | i :: r, m => by
    unfold lmin
    obtain ⟨h1, h2, h3⟩ := lmin_le r (if i < m then i else m)
    by_cases c : i < m
    · rw [if_pos c] at h1 h2 h3 ⊢
      refine ⟨by omega, fun y hy => ?_, ?_⟩
      · rcases List.mem_cons.mp hy with rfl | hy
        · exact h1
        · exact h2 y hy
      · rcases h3 with h3 | h3
        · exact .inr (by rw [h3]; exact List.mem_cons_self)
        · exact .inr (List.mem_cons_of_mem _ h3)
    · rw [if_neg c] at h1 h2 h3 ⊢
      refine ⟨h1, fun y hy => ?_, ?_⟩
      · rcases List.mem_cons.mp hy with rfl | hy
        · omega
        · exact h2 y hy
      · rcases h3 with h3 | h3
        · exact .inl h3
        · exact .inr (List.mem_cons_of_mem _ h3)
theorem lmax_le : ∀ (r : List Int) (m : Int), m ≤ lmax m r ∧ (∀ y ∈ r, y ≤ lmax m r) ∧ (lmax m r = m ∨ lmax m r ∈ r)
  | [], m => ⟨Int.le_refl _, fun _ h => absurd h (by simp), Or.inl rfl⟩
  | i :: r, m => by
    unfold lmax
    obtain ⟨h1, h2, h3⟩ := lmax_le r (if i > m then i else m)
    by_cases c : i > m
    · rw [if_pos c] at h1 h2 h3 ⊢
      refine ⟨by omega, fun y hy => ?_, ?_⟩
      · rcases List.mem_cons.mp hy with rfl | hy
        · exact h1
        · exact h2 y hy
      · rcases h3 with h3 | h3
        · exact .inr (by rw [h3]; exact List.mem_cons_self)
        · exact .inr (List.mem_cons_of_mem _ h3)
    · rw [if_neg c] at h1 h2 h3 ⊢
      refine ⟨h1, fun y hy => ?_, ?_⟩
      · rcases List.mem_cons.mp hy with rfl | hy
        · omega
        · exact h2 y hy
      · rcases h3 with h3 | h3
        · exact .inl h3
        · exact .inr (List.mem_cons_of_mem _ h3)
def gMin : List PV → Option RV
  | [.int i, .int j] => vI (if j < i then j else i)
  | [.lst ps] => match intsP ps with
    | some (m :: r) => vI (lmin m r)
    | _ => none
  | _ => none
def gMax : List PV → Option RV
  | [.int i, .int j] => vI (if j > i then j else i)
  | [.lst ps] => match intsP ps with
    | some (m :: r) => vI (lmax m r)
    | _ => none
  | _ => none
theorem c_min (hc : X.calm = true) : CallOk X (.builtin "min") gMin := fun F H0 H ev σ vs ps r Q er rs e hq => by
  unfold gMin at e
  split at e
  · obtain ⟨v, w, rfl, rv, rw'⟩ := rs.two
    cases e
    have ex : v = .int _ := rv
    have ey : w = .int _ := rw'
    subst ex ey
    exact sCl_of (call_min2 hc) ⟨_, _, rfl, hq F _ H er.aft res_int⟩
  · obtain ⟨v, rfl, rv⟩ := rs.one
    split at e
    · rename_i m r hi
      cases e
      obtain ⟨a, xs, rfl, hx, rl⟩ := rv
      rw [intsP_eq hi] at rl
      have ex := rl.ints
      subst ex
      refine sCl_of (cr_min hc) ⟨a, m :: r, rfl, SqL.of hx, by simp, fun z hz hle => ?_⟩
      obtain ⟨h1, h2, h3⟩ := lmin_le r m
      have e1 : z = lmin m r := by
        have k1 : lmin m r ∈ m :: r := by
          rcases h3 with h3 | h3
          · rw [h3]; exact List.mem_cons_self
          · exact List.mem_cons_of_mem _ h3
        have k2 := hle _ k1
        have k3 : lmin m r ≤ z := by
          rcases List.mem_cons.mp hz with rfl | hz
          · exact h1
          · exact h2 z hz
        omega
      rw [e1]
      exact hq F _ H er.aft res_int
    · cases e
  · cases e
theorem c_max (hc : X.calm = true) : CallOk X (.builtin "max") gMax := fun F H0 H ev σ vs ps r Q er rs e hq => by
  unfold gMax at e
  split at e
  · obtain ⟨v, w, rfl, rv, rw'⟩ := rs.two
    cases e
    have ex : v = .int _ := rv
    have ey : w = .int _ := rw'
    subst ex ey
    exact sCl_of (call_max2 hc) ⟨_, _, rfl, hq F _ H er.aft res_int⟩
  · obtain ⟨v, rfl, rv⟩ := rs.one
    split at e
    · rename_i m r hi
      cases e
      obtain ⟨a, xs, rfl, hx, rl⟩ := rv
      rw [intsP_eq hi] at rl
      have ex := rl.ints
      subst ex
      refine sCl_of (cr_max hc) ⟨a, m :: r, rfl, SqL.of hx, by simp, fun z hz hle => ?_⟩
      obtain ⟨h1, h2, h3⟩ := lmax_le r m
      have e1 : z = lmax m r := by
        have k1 : lmax m r ∈ m :: r := by
          rcases h3 with h3 | h3
          · rw [h3]; exact List.mem_cons_self
          · exact List.mem_cons_of_mem _ h3
        have k2 := hle _ k1
        have k3 : z ≤ lmax m r := by
          rcases List.mem_cons.mp hz with rfl | hz
          · exact h1
          · exact h2 z hz
        omega
      rw [e1]
      exact hq F _ H er.aft res_int
    · cases e
  · cases e
def gSorted : List PV → Option RV
  | [.lst ps] => (intsP ps).map fun ns => (.lst ((isort ns).map .int), true)
  | [.tup ps] => (intsP ps).map fun ns => (.lst ((isort ns).map .int), true)
  | _ => none
theorem c_sorted : CallOk X (.builtin "sorted") gSorted := fun F H0 H ev σ vs ps r Q er rs e hq => by
  unfold gSorted at e
  split at e
  · obtain ⟨v, rfl, rv⟩ := rs.one
    obtain ⟨ns, hi, rfl⟩ := Option.map_eq_some_iff.mp e
    obtain ⟨a, xs, rfl, hx, rl⟩ := rv
    rw [intsP_eq hi] at rl
    have ex := rl.ints
    subst ex
    refine sCl_of cr_sortedI ⟨a, ns, rfl, SqL.of hx, fun ns' p h1 h2 hp => ?_⟩
    rw [isort_of h1 h2]
    exact hq F _ _ (er.fresh hp) (er.newL (Same.refl _) hp (RepL.of_ints _))
  · rename_i ps
    obtain ⟨v, rfl, rv⟩ := rs.one
    obtain ⟨ns, hi, rfl⟩ := Option.map_eq_some_iff.mp e
    have rv' : Rep X.K F H v (.tup ps) := rv
    unfold Rep at rv'
    obtain ⟨a, xs, rfl, hx, rl⟩ := rv'
    rw [intsP_eq hi] at rl
    have ex := rl.ints
    subst ex
    refine sCl_of cr_sortedTI ⟨a, ns, rfl, hx.sqT, fun ns' p h1 h2 hp => ?_⟩
    rw [isort_of h1 h2]
    exact hq F _ _ (er.fresh hp) (er.newL (Same.refl _) hp (RepL.of_ints _))
  · cases e
end
end Pv

set_option Elab.async false
set_option linter.all false
set_option maxRecDepth 100000
namespace Pv
open PySem PySem.Spec L2
open PyProof.Rows hiding St

/-! ### the program's own defs -/
inductive Rf where
  | ok (r : RV) | exc (c : Str) | bad
abbrev Fn := List PV → Rf
def spP (K : Fr) (cm : CM) (f : Fn) : Sp := fun vs H Q E => ∃ (F : FS) (ps : List PV), (∀ a, F a → H a ≠ none) ∧ RepL K F H vs ps ∧ match f ps with
  | .ok r => ∀ F' v H', Same H H' → (∀ a, F a → F' a) → (∀ a, F' a → F a ∨ H a = none) → (∀ a, F' a → H' a ≠ none) → ResR K F' H [] [] H H' r v → Q v H'
  | .exc c => ∀ H', Same H H' → E (cm c) none H'
  | .bad => False
/-- the def is called x and does f, within k calls -/
structure Cal (P : Program) (w : World) (K : Fr) (mg : Str → Option Value) (base : Heap) (cm : CM) (k : Nat) (x : Str) (f : Fn) : Prop where
  ex : ∃ (fa : Addr) (fd : FuncData) (ps : List Str), FnOk P w K mg base (L2N.CX P w) k fa fd ps (spP K cm f) ∧ mg x = some (.ref fa) ∧ PySem.W.keepIn K (.ref fa) = true ∧ Binds K fd ps []
theorem Cal.mono {P : Program} {w : World} {K : Fr} {mg : Str → Option Value} {base : Heap} {cm : CM} {k j : Nat} {x : Str} {f : Fn} (c : Cal P w K mg base cm k x f) (h : k ≤ j) : Cal P w K mg base cm j x f := by
  obtain ⟨fa, fd, ps, a, b⟩ := c.ex
  exact ⟨fa, fd, ps, a.mono h, b⟩
/-- another function that says as much where it says anything -/
theorem Cal.imp {P : Program} {w : World} {K : Fr} {mg : Str → Option Value} {base : Heap} {cm : CM} {k : Nat} {x : Str} {f g : Fn} (c : Cal P w K mg base cm k x f) (h : ∀ ps, g ps ≠ .bad → f ps = g ps) : Cal P w K mg base cm k x g := by
  obtain ⟨fa, fd, ps, a, b⟩ := c.ex
  refine ⟨fa, fd, ps, a.imp fun vs H Q E q => ?_, b⟩
  obtain ⟨F, qs, h1, h2, h4⟩ := q
  refine ⟨F, qs, h1, h2, ?_⟩
  have hb : g qs ≠ .bad := fun z => by rw [z] at h4; exact h4
  rw [h qs hb]
  exact h4
def eFn (f : Fn) (m : M (List PV)) : M RV := fun ev => match m ev with
  | .ok ps ev' => match f ps with
    | .ok r => .ok r ev'
    | .exc c => .exc c ev'
    | .bad => .bad
  | .exc c ev' => .exc c ev'
  | .bad => .bad
section
variable {X : Cx} {W : WX} {cm : CM}
theorem ER.after {K : Fr} {F F' : FS} {H0 H H' : Hp} {ev : SL} {σ : St} (r : ER K F H0 ev σ H) (s : Same H H') (h1 : ∀ a, F a → F' a) (h2 : ∀ a, F' a → F a ∨ H a = none) (h3 : ∀ a, F' a → H' a ≠ none) : Aft K F H0 ev ev σ H F' H' :=
  ⟨h1, fun a h => (h2 a h).imp_right .inl, s, (r.later s).more h1 h3 (fun a o f => by
    obtain ⟨n1, n2, xs, e⟩ := r.ow o
    rcases h2 a f with h | h
    · exact n1 h
    · rw [e] at h; cases h), fun _ h => h⟩
theorem ResR.own {K : Fr} {F F' : FS} {H0 H H' H1 : Hp} {ev : SL} {σ : St} {r : RV} {v : V} (er : ER K F H0 ev σ H) (q : ResR K F' H1 [] [] H H' r v) : ResR K F' H0 ev σ H H' r v := by
  obtain ⟨p, fr⟩ := r
  cases fr with
  | false => exact q
  | true =>
    obtain ⟨a, xs, ps, e1, e2, e3, e4, e5, e6, _⟩ := q
    refine ⟨a, xs, ps, e1, e2, e3, e4, e5, e6, fun o => ?_⟩
    obtain ⟨_, _, ys, e⟩ := er.ow o
    rw [e6] at e; cases e
theorem e_call {k : Nat} {x : Str} {p pos : Pos} {e : Expr} {es : List Expr} {f : Fn} {ma : M (List PV)} (c : Cal X.prog X.w X.K X.mg X.base cm k x f) (hr : Room k X.A) (tk : L2N.Takes X W) (ha : SA X W cm (e :: es) ma) (hg : Gl X x := by rfl)
    (hdb : (x == ("__debug__" : Str)) = false := by decide)
    (he : starEach (e :: es) X.env = (false, eval e X.env) :: starEach es X.env := by rfl) (hpl : (backTo pos (starEach es X.env)).any (·.1) = false := by rfl) :
    SE X W cm (.Call (.Name x p) (e :: es) [] pos) (eFn f ma) := .mk' fun F H0 H ev σ Q r h => by
  obtain ⟨fa, fd, ps, FO, hm, hk, hb⟩ := c.ex
  refine sE_of (pe_callS (E := fun σ => L2.WE W σ) FO hr hg hm hk hb (fun σ => L2N.passAt tk σ) sA_pa hdb he hpl) ?_
  refine ha.go r ?_
  unfold Wt at h ⊢
  unfold eFn at h
  cases e1 : ma ev with
  | bad => simp only [e1] at h
  | exc c ev1 => simp only [e1] at h; exact h
  | ok qs ev1 =>
    simp only [e1] at h
    intro F1 H1 _ F2 vs a2 rs
    refine ⟨F2, qs, a2.er.dom, rs, ?_⟩
    cases e2 : f qs with
    | ok z =>
      simp only [e2] at h
      intro F' v H' s h1 h2 h3 q
      have a3 := a2.er.after s h1 h2 h3
      exact h F' H' (a2.trans a3) v ((ResR.own a2.er q).later a2.same)
    | exc c =>
      simp only [e2] at h
      intro H' s
      exact h F2 H' (a2.trans (a2.er.step s))
    | bad => simp only [e2] at h
end
end Pv

set_option Elab.async false
set_option linter.all false
set_option maxRecDepth 100000
namespace Pv
open PySem PySem.Spec L2
open PyProof.Rows hiding St

/-! ### statements -/
inductive Fl where
  | nx | rt (r : RV) | bk | ct
/-- where a statement begins: F0, H0 are the def's entry -/
structure BS (K : Fr) (F0 F : FS) (H0 : Hp) (ev : SL) (σ : St) (H : Hp) : Prop where
  er : ER K F H0 ev σ H
  sub : ∀ a, F0 a → F a
  base : ∀ a, F a → F0 a ∨ H0 a = none
/-- behind it -/
structure AS (K : Fr) (F0 F : FS) (H0 H : Hp) (F' : FS) (ev' : SL) (σ' : St) (H' : Hp) : Prop where
  bs : BS K F0 F' H0 ev' σ' H'
  sub : ∀ a, F a → F' a
  keep : Keep F H H'
section
variable {K : Fr} {F0 F F1 F2 : FS} {H0 H H1 H2 : Hp} {ev ev1 ev2 : SL} {σ σ1 σ2 : St}
theorem Keep.trans (a : Keep F H H1) (s : ∀ a, F a → F1 a) (b : Keep F1 H1 H2) : Keep F H H2 :=
  ⟨fun x xs h => b.tup _ _ (a.tup _ _ h), fun x o u h => b.frz _ _ _ (a.frz _ _ _ h), fun x o f h => b.lst _ _ (s _ f) (a.lst _ _ f h)⟩
theorem AS.trans (a : AS K F0 F H0 H F1 ev1 σ1 H1) (b : AS K F0 F1 H0 H1 F2 ev2 σ2 H2) : AS K F0 F H0 H F2 ev2 σ2 H2 :=
  ⟨b.bs, fun x h => b.sub x (a.sub x h), a.keep.trans a.sub b.keep⟩
theorem BS.as (b : BS K F0 F H0 ev σ H) : AS K F0 F H0 H F ev σ H := ⟨b, fun _ h => h, .refl⟩
/-- behind an expression -/
theorem BS.aft (b : BS K F0 F H0 ev σ H) (a : Aft K F H0 ev ev1 σ H F1 H1) : AS K F0 F H0 H F1 ev1 σ H1 :=
  ⟨⟨a.er, fun x h => a.sub x (b.sub x h), fun x h => by
    rcases a.grow x h with h | h | h
    · exact b.base x h
    · exact .inr (b.er.same.free h)
    · exact .inr (b.er.ow h).2.1⟩, a.sub, .of a.same⟩
end
/-- what a def hands back -/
def RetR (K : Fr) (F0 : FS) (H0 H' : Hp) (r : RV) (v : V) : Prop := ∃ F', (∀ a, F0 a → F' a) ∧ (∀ a, F' a → F0 a ∨ H0 a = none) ∧ (∀ a, F' a → H' a ≠ none) ∧ Same H0 H' ∧ ResR K F' H0 [] [] H0 H' r v
/-- what m wants of statements, from here -/
def Ws (K : Fr) (W : WX) (cm : CM) (F0 F : FS) (H0 : Hp) (D : Ends) (ev : SL) (σ : St) (H : Hp) (m : M Fl) : Prop := match m ev with
  | .ok .nx ev' => ∀ F' σ' H', AS K F0 F H0 H F' ev' σ' H' → D.nx σ' H'
  | .ok .bk ev' => ∀ F' σ' H', AS K F0 F H0 H F' ev' σ' H' → D.bk σ' H'
  | .ok .ct ev' => ∀ F' σ' H', AS K F0 F H0 H F' ev' σ' H' → D.ct σ' H'
  | .ok (.rt r) _ => ∀ v H', RetR K F0 H0 H' r v → D.rt v H'
  | .exc c ev' => ∀ F' σ' H', AS K F0 F H0 H F' ev' σ' H' → W (cm c) none σ' H'
  | .bad => False
theorem Ws.from {K : Fr} {W : WX} {cm : CM} {F0 F F1 : FS} {H0 H H1 : Hp} {D : Ends} {ev ev1 : SL} {σ σ1 : St} {m m1 : M Fl} (a : AS K F0 F H0 H F1 ev1 σ1 H1) (e : m ev = m1 ev1) (h : Ws K W cm F0 F H0 D ev σ H m) : Ws K W cm F0 F1 H0 D ev1 σ1 H1 m1 := by
  unfold Ws at h ⊢
  rw [e] at h
  cases q : m1 ev1 with
  | ok f ev' =>
    cases f with
    | nx => rw [q] at h; exact fun F' σ' H' b => h F' σ' H' (a.trans b)
    | bk => rw [q] at h; exact fun F' σ' H' b => h F' σ' H' (a.trans b)
    | ct => rw [q] at h; exact fun F' σ' H' b => h F' σ' H' (a.trans b)
    | rt r => rw [q] at h; exact h
  | exc c ev' => rw [q] at h; exact fun F' σ' H' b => h F' σ' H' (a.trans b)
  | bad => rw [q] at h; exact h
def sS (X : Cx) (st : Stmt) : TS := fun D σ H => ∀ (pins : List (Addr × Obj)) (s : Shared), L2.Inv X pins σ H s → wpAny (model X.prog X.w) X.A (exec st X.env) (L2.SP X pins D) X.xe s
def sSs (X : Cx) (st : List Stmt) : TS := fun D σ H => ∀ (pins : List (Addr × Obj)) (s : Shared), L2.Inv X pins σ H s → wpAny (model X.prog X.w) X.A (execs st X.env) (L2.SP X pins D) X.xe s
theorem sS_ps {X : Cx} {st : Stmt} : PS X st (sS X st) := ⟨fun pins s σ H D I h => h pins s I⟩
theorem sSs_ps {X : Cx} {st : List Stmt} : PSs X st (sSs X st) := ⟨fun pins s σ H D I h => h pins s I⟩
theorem sS_of {X : Cx} {st : Stmt} {t : TS} {D : Ends} {σ : St} {H : Hp} (p : PS X st t) (h : t D σ H) : sS X st D σ H := fun pins s I => p.run pins s σ H D I h
theorem sSs_of {X : Cx} {st : List Stmt} {t : TS} {D : Ends} {σ : St} {H : Hp} (p : PSs X st t) (h : t D σ H) : sSs X st D σ H := fun pins s I => p.run pins s σ H D I h
structure SS (X : Cx) (W : WX) (cm : CM) (st : Stmt) (m : M Fl) : Prop where
  go : ∀ {F0 F : FS} {H0 H : Hp} {ev : SL} {σ : St} {D : Ends}, BS X.K F0 F H0 ev σ H → Ws X.K W cm F0 F H0 D ev σ H m → sS X st D σ H
structure SB (X : Cx) (W : WX) (cm : CM) (st : List Stmt) (m : M Fl) : Prop where
  go : ∀ {F0 F : FS} {H0 H : Hp} {ev : SL} {σ : St} {D : Ends}, BS X.K F0 F H0 ev σ H → Ws X.K W cm F0 F H0 D ev σ H m → sSs X st D σ H
section
variable {X : Cx} {W : WX} {cm : CM}
/-- an expression, then the rest -/
def thenE {α : Type} (m : M α) (k : α → M Fl) : M Fl := bnd m k
theorem Ws.expr {K : Fr} {F0 F : FS} {H0 H : Hp} {D : Ends} {ev : SL} {σ : St} {α : Type} {m : M α} {k : α → M Fl} (b : BS K F0 F H0 ev σ H) (h : Ws K W cm F0 F H0 D ev σ H (bnd m k)) :
    Wt K W cm F H0 ev σ H m fun a ev1 F1 H1 => Aft K F H0 ev ev1 σ H F1 H1 ∧ Ws K W cm F0 F1 H0 D ev1 σ H1 (k a) := by
  unfold Ws Pv.bnd at h
  unfold Wt
  cases e : m ev with
  | ok r ev' =>
    simp only [e] at h
    exact fun F' H' a => ⟨a, Ws.from (σ := σ) (m := fun _ => k r ev') (ev := ev) (b.aft a) rfl (by unfold Ws; exact h)⟩
  | exc c ev' => simp only [e] at h; exact fun F' H' a => h F' σ H' (b.aft a)
  | bad => simp only [e] at h
theorem Ws.nx {K : Fr} {F0 F : FS} {H0 H : Hp} {D : Ends} {ev : SL} {σ : St} {m : M Fl} {ev' : SL} {F' : FS} {σ' : St} {H' : Hp} (h : Ws K W cm F0 F H0 D ev σ H m) (e : m ev = .ok .nx ev') (a : AS K F0 F H0 H F' ev' σ' H') : D.nx σ' H' := by
  unfold Ws at h
  rw [e] at h
  exact h F' σ' H' a
theorem Ws.not_bad {K : Fr} {F0 F : FS} {H0 H : Hp} {D : Ends} {ev : SL} {σ : St} {m : M Fl} (h : Ws K W cm F0 F H0 D ev σ H m) : m ev ≠ .bad := fun e => by
  unfold Ws at h
  rw [e] at h
  exact h
/-- blocks -/
def sq (a b : M Fl) : M Fl := fun ev => match a ev with
  | .ok .nx ev' => b ev'
  | r => r
theorem b_nil : SB X W cm [] (ret .nx) := ⟨fun {F0 F H0 H ev σ D} b h => sSs_of pss_nil (h.nx rfl b.as)⟩
theorem b_cons {st : Stmt} {rest : List Stmt} {m ms : M Fl} (s : SS X W cm st m) (u : SB X W cm rest ms) : SB X W cm (st :: rest) (sq m ms) := ⟨fun {F0 F H0 H ev σ D} b h => by
  refine sSs_of (pss_cons sS_ps sSs_ps) ?_
  show sS X st { D with nx := sSs X rest D } σ H
  refine s.go b ?_
  unfold Ws at h ⊢
  unfold sq at h
  cases e : m ev with
  | ok f ev' =>
    cases f with
    | nx =>
      simp only [e] at h
      exact fun F' σ' H' a => u.go a.bs (Ws.from (σ := σ) (m := fun _ => ms ev') (ev := ev) a rfl (by unfold Ws; exact h))
    | bk => simp only [e] at h; exact h
    | ct => simp only [e] at h; exact h
    | rt r => simp only [e] at h; exact h
  | exc c ev' => simp only [e] at h; exact h
  | bad => simp only [e] at h⟩
def mSk : M Fl := ret .nx
theorem s_pass {pos : Pos} : SS X W cm (.Pass pos) (ret .nx) := ⟨fun {F0 F H0 H ev σ D} b h => sS_of ps_pass (h.nx rfl b.as)⟩
theorem s_break {pos : Pos} : SS X W cm (.Break pos) (ret .bk) := ⟨fun {F0 F H0 H ev σ D} b h => sS_of ps_break (by unfold Ws Pv.ret at h; exact h F σ H b.as)⟩
theorem s_cont {pos : Pos} : SS X W cm (.Continue pos) (ret .ct) := ⟨fun {F0 F H0 H ev σ D} b h => sS_of ps_continue (by unfold Ws Pv.ret at h; exact h F σ H b.as)⟩
theorem s_expr {e : Expr} {m : M RV} {pos : Pos} (s : SE X W cm e m) (hs : swapsWith e none pos.line X.env = pure false := by rfl) : SS X W cm (.Expr e pos) (bnd m fun _ => ret .nx) := ⟨fun {F0 F H0 H ev σ D} b h => by
  refine sS_of (ps_expr sE_pe hs) ?_
  exact s.go b.er ((h.expr b).mono fun r ev1 F1 H1 a hh v rv => hh.2.nx rfl ((b.aft a).bs.as))⟩
/-- return -/
def mRet (r : RV) : M Fl := fun ev => .ok (.rt r) ev
theorem Ws.rt {K : Fr} {F0 F : FS} {H0 H : Hp} {D : Ends} {ev : SL} {σ : St} {m : M Fl} {ev' : SL} {r : RV} {v : V} {H' : Hp} (h : Ws K W cm F0 F H0 D ev σ H m) (e : m ev = .ok (.rt r) ev') (a : RetR K F0 H0 H' r v) : D.rt v H' := by
  unfold Ws at h
  rw [e] at h
  exact h v H' a
theorem BS.ret {K : Fr} {F0 F : FS} {H0 H : Hp} {ev : SL} {σ : St} {r : RV} {v : V} {Hs : Hp} (b : BS K F0 F H0 ev σ H) (s : Same H0 Hs) (q : ResR K F H0 ev σ Hs H r v) : RetR K F0 H0 H r v := by
  refine ⟨F, b.sub, b.base, b.er.dom, b.er.same, ?_⟩
  obtain ⟨p, fr⟩ := r
  cases fr with
  | false => exact q
  | true =>
    obtain ⟨a, xs, ps, e1, e2, e3, e4, e5, e6, e7⟩ := q
    exact ⟨a, xs, ps, e1, e2, e3, e4, e5, s.free e6, fun ⟨i, qs, z, _⟩ => by simp at z⟩
theorem s_ret {e : Expr} {m : M RV} {pos : Pos} (s : SE X W cm e m) : SS X W cm (.Return (some e) pos) (bnd m mRet) := ⟨fun {F0 F H0 H ev σ D} b h => by
  refine sS_of (ps_ret sE_pe) ?_
  exact s.go b.er ((h.expr b).mono fun r ev1 F1 H1 a hh v rv => hh.2.rt rfl ((b.aft a).bs.ret b.er.same rv))⟩
/-- return x, x an own list: it goes to the caller -/
def mRetV (i : Nat) : M Fl := fun ev => match ev[i]? with
  | some (.own ps) => .ok (.rt (.lst ps, true)) ev
  | some (.val p) => .ok (.rt (p, false)) ev
  | _ => .bad
theorem s_retV {i : Nat} {x : Str} {p pos : Pos} (hN : X.N[i]? = some x := by rfl) (hv : Vis X.env.scope x := by first | exact Or.inl rfl | exact Or.inr (Or.inl rfl) | exact Or.inr (Or.inr rfl)) (hd : (x == ("__debug__" : Str)) = false := by decide)
    (hcd : (x == ("__classdict__" : Str)) = false := by decide) : SS X W cm (.Return (some (.Name x p)) pos) (mRetV i) := ⟨fun {F0 F H0 H ev σ D} b h => by
  refine sS_of (ps_ret (pe_var hN hv hd hcd)) ?_
  unfold Ws mRetV at h
  cases e : ev[i]? with
  | none => simp only [e] at h
  | some sl =>
    cases sl with
    | no => simp only [e] at h
    | val q =>
      simp only [e] at h
      obtain ⟨o, e1, v, rfl, rq⟩ := b.er.slot i _ e
      exact ⟨v, e1, h v H (b.ret (Hs := H0) (Same.refl _) (r := (q, false)) rq)⟩
    | own ps =>
      simp only [e] at h
      obtain ⟨o, e1, a, xs, rfl, e2, rq, nf, e3⟩ := b.er.slot i _ e
      refine ⟨_, e1, h _ H ⟨F, b.sub, b.base, b.er.dom, b.er.same, a, xs, ps, rfl, rfl, e2, rq, nf, e3, fun ⟨i, qs, z, _⟩ => by simp at z⟩⟩⟩
theorem s_retN {pos : Pos} : SS X W cm (.Return none pos) (mRet (.non, false)) := ⟨fun {F0 F H0 H ev σ D} b h => by
  refine sS_of ps_retN ?_
  exact h.rt rfl (b.ret (Hs := H0) (Same.refl _) (show ResR X.K F H0 ev σ H0 H (.non, false) .non from rep_non (K := X.K) (F := F) (H := H)))⟩
/-- if -/
def mIfS (c : M Bool) (a b : M Fl) : M Fl := bnd c fun k => if k then a else b
theorem s_if {c : Expr} {a b : List Stmt} {mc : M Bool} {ma mb : M Fl} {pos : Pos} (sc : ST X W cm c mc) (sa : SB X W cm a ma) (sb : SB X W cm b mb) : SS X W cm (.If c a b pos) (mIfS mc ma mb) := ⟨fun {F0 F H0 H ev σ D} b h => by
  refine sS_of (ps_if sT_pt sSs_ps sSs_ps) ?_
  refine sc.go b.er ((h.expr b).mono fun k ev1 F1 H1 a hh => ?_)
  cases k with
  | true => exact iteT (sa.go (b.aft a).bs hh.2)
  | false => exact iteF (sb.go (b.aft a).bs hh.2)⟩

/-! ### stores into names -/
/-- a name gets a value -/
def setR (i : Nat) (r : RV) : M Fl := fun ev => if i < ev.length then .ok .nx (ev.set i (match r with
  | (.lst ps, true) => .own ps
  | (p, _) => .val p)) else .bad
theorem ER.store {K : Fr} {F : FS} {H0 H : Hp} {ev : SL} {σ : St} {i : Nat} {v : V} {p : PV} (r : ER K F H0 ev σ H) (hi : i < ev.length) (q : Rep K F H v p) : ER K F H0 (ev.set i (.val p)) (σ.set i (some v)) H where
  len := by rw [List.length_set, List.length_set]; exact r.len
  slot := fun j sl e => by
    by_cases hj : i = j
    · subst hj
      rw [List.getElem?_set_self hi] at e
      cases e
      exact ⟨some v, List.getElem?_set_self (by rw [← r.len]; exact hi), v, rfl, q⟩
    · rw [List.getElem?_set_ne hj] at e ⊢
      exact r.slot j sl e
  inj := fun j k a ps qs e1 e2 s1 s2 => by
    have nj : i ≠ j := fun z => by
      subst z
      rw [List.getElem?_set_self hi] at e1; cases e1
    have nk : i ≠ k := fun z => by
      subst z
      rw [List.getElem?_set_self hi] at e2; cases e2
    rw [List.getElem?_set_ne nj] at e1 s1
    rw [List.getElem?_set_ne nk] at e2 s2
    exact r.inj j k a ps qs e1 e2 s1 s2
  dom := r.dom
  same := r.same
theorem ER.storeO {K : Fr} {F : FS} {H0 H : Hp} {ev : SL} {σ : St} {i : Nat} {a : Addr} {xs : List V} {ps : List PV} (r : ER K F H0 ev σ H) (hi : i < ev.length) (e1 : H a = some (.lst xs)) (e2 : RepL K F H xs ps) (e3 : ¬ F a) (e4 : H0 a = none) (e5 : ¬ Ow ev σ a) :
    ER K F H0 (ev.set i (.own ps)) (σ.set i (some (.ref a))) H where
  len := by rw [List.length_set, List.length_set]; exact r.len
  slot := fun j sl e => by
    by_cases hj : i = j
    · subst hj
      rw [List.getElem?_set_self hi] at e
      cases e
      exact ⟨_, List.getElem?_set_self (by rw [← r.len]; exact hi), a, xs, rfl, e1, e2, e3, e4⟩
    · rw [List.getElem?_set_ne hj] at e ⊢
      exact r.slot j sl e
  inj := fun j k b qs rs f1 f2 s1 s2 => by
    have hiσ : i < σ.length := by rw [← r.len]; exact hi
    by_cases hj : i = j
    · by_cases hk : i = k
      · omega
      · subst hj
        rw [List.getElem?_set_self hiσ] at s1
        cases s1
        rw [List.getElem?_set_ne hk] at f2 s2
        exact absurd ⟨k, rs, f2, s2⟩ e5
    · rw [List.getElem?_set_ne hj] at f1 s1
      by_cases hk : i = k
      · subst hk
        rw [List.getElem?_set_self hiσ] at s2
        cases s2
        exact absurd ⟨j, qs, f1, s1⟩ e5
      · rw [List.getElem?_set_ne hk] at f2 s2
        exact r.inj j k b qs rs f1 f2 s1 s2
  dom := r.dom
  same := r.same
theorem BS.set {K : Fr} {F0 F : FS} {H0 H Hs : Hp} {ev : SL} {σ : St} {i : Nat} {r : RV} {v : V} {ev' : SL} (b : BS K F0 F H0 ev σ H) (s : Same H0 Hs) (q : ResR K F H0 ev σ Hs H r v) (e : setR i r ev = .ok .nx ev') : AS K F0 F H0 H F ev' (σ.set i (some v)) H := by
  unfold setR at e
  split at e
  · rename_i hi
    cases e
    refine ⟨⟨?_, b.sub, b.base⟩, fun _ h => h, .refl⟩
    obtain ⟨p, fr⟩ := r
    cases fr with
    | false =>
      have q' : Rep K F H v p := q
      cases p <;> exact b.er.store hi q'
    | true =>
      obtain ⟨a, xs, ps, rfl, rfl, e3, e4, e5, e6, e7⟩ := q
      exact b.er.storeO hi e3 e4 e5 (s.free e6) e7
  · cases e
theorem setR_nx {i : Nat} {r : RV} {ev : SL} (h : setR i r ev ≠ .bad) : ∃ ev', setR i r ev = .ok .nx ev' := by
  unfold setR at h ⊢
  split
  · exact ⟨_, rfl⟩
  · rename_i hi
    rw [if_neg hi] at h
    exact absurd rfl h
theorem s_set {i : Nat} {x : Str} {e : Expr} {m : M RV} {pos pos' : Pos} (hNd : X.N.Nodup) (s : SE X W cm e m) (hi : X.N[i]? = some x := by rfl) (hx : L2.Loc X.env.scope x := by first | exact Or.inl rfl | exact Or.inr rfl)
    (hs : swapsWith e (some (.Name x pos')) pos.line X.env = pure false := by rfl) (hf : X.fn x = true ∨ X.env.scope.names.lookup x = some .local := by first | exact .inl rfl | exact .inr rfl) : SS X W cm (.Assign [.Name x pos'] e pos) (bnd m (setR i)) := ⟨fun {F0 F H0 H ev σ D} b h => by
  refine sS_of (ps_set hNd hi hx sE_pe hs hf) ?_
  refine s.go b.er ((h.expr b).mono fun r ev1 F1 H1 a hh v rv => ?_)
  obtain ⟨ev', e1⟩ := setR_nx hh.2.not_bad
  exact hh.2.nx e1 ((b.aft a).bs.set b.er.same rv e1)⟩
theorem ow_store {ev : SL} {σ : St} {i : Nat} {p : PV} {v : Option V} {a : Addr} : Ow (ev.set i (.val p)) (σ.set i v) a → Ow ev σ a := fun ⟨j, ps, e1, e2⟩ => by
  rcases getElem?_set_some e1 with ⟨_, z⟩ | ⟨ne, z⟩
  · cases z
  · rw [List.getElem?_set_ne ne] at e2
    exact ⟨j, ps, z, e2⟩
/-- but for the slots js -/
def But (js : List Nat) (σ σ' : St) : Prop := σ'.length = σ.length ∧ ∀ j, j ∉ js → σ'[j]? = σ[j]?
structure SG (X : Cx) (W : WX) (tg : Expr) (t : PV → SL → Option SL) (js : List Nat) : Prop where
  go : ∀ {F0 F : FS} {H0 H : Hp} {ev ev' : SL} {σ : St} {v : V} {p : PV} {Q : St → Hp → Prop}, BS X.K F0 F H0 ev σ H → Rep X.K F H v p → t p ev = some ev' → (∀ σ', AS X.K F0 F H0 H F ev' σ' H → But js σ σ' → (∀ a, Ow ev' σ' a → Ow ev σ a) → Q σ' H) →
    ∀ (pins : List (Addr × Obj)) (s : Shared) (u : Value), L2.Inv X pins σ H s → RelV v u → wpAny (model X.prog X.w) X.A (assign tg X.env u) (fun _ s' => ∃ σ' H', L2.Inv X pins σ' H' s' ∧ Q σ' H') X.xe s
def tName (i : Nat) : PV → SL → Option SL := fun p ev => if i < ev.length then some (ev.set i (.val p)) else none
theorem g_name {i : Nat} {x : Str} {pos : Pos} (hNd : X.N.Nodup) (hi : X.N[i]? = some x := by rfl) (hx : L2.Loc X.env.scope x := by first | exact Or.inl rfl | exact Or.inr rfl) (hf : X.fn x = true ∨ X.env.scope.names.lookup x = some .local := by first | exact .inl rfl | exact .inr rfl) : SG X W (.Name x pos) (tName i) [i] :=
  ⟨fun {F0 F H0 H ev ev' σ v p Q} b q e h pins s u I r => by
    refine (pg_name hNd hi hx hf).run pins s σ H v u Q I r ?_
    unfold tName at e
    split at e
    · rename_i hl
      cases e
      exact h _ ⟨⟨b.er.store hl q, b.sub, b.base⟩, fun _ h => h, .refl⟩ ⟨by rw [List.length_set], fun j hj => List.getElem?_set_ne (fun z => hj (by simp [z]))⟩ (fun a => ow_store)
    · cases e⟩
/-- several names from a tuple -/
def tNames : List Nat → PV → SL → Option SL
  | is, .tup ps => tN2 is ps
  | is, .itm ps => tN2 is ps
  | _, _ => fun _ => none
where tN2 : List Nat → List PV → SL → Option SL
  | [], [], ev => some ev
  | i :: is, p :: ps, ev => (tName i p ev).bind (tN2 is ps)
  | _, _, _ => none
structure SGs (X : Cx) (W : WX) (ts : List Expr) (is : List Nat) : Prop where
  go : ∀ {F0 F : FS} {H0 H : Hp} {ev ev' : SL} {σ : St} {vs : List V} {ps : List PV} {Q : St → Hp → Prop}, BS X.K F0 F H0 ev σ H → RepL X.K F H vs ps → tNames.tN2 is ps ev = some ev' → (∀ σ', AS X.K F0 F H0 H F ev' σ' H → But is σ σ' → (∀ a, Ow ev' σ' a → Ow ev σ a) → Q σ' H) →
    ∃ t, PGs X ts t ∧ t vs σ H Q
theorem gs_nil : SGs X W [] [] := ⟨fun {F0 F H0 H ev ev' σ vs ps Q} b r e h => by
  cases ps with
  | nil =>
    unfold tNames.tN2 at e
    cases e
    exact ⟨_, pgs_nil, r.nil_inv, h σ b.as ⟨rfl, fun _ _ => rfl⟩ fun _ h => h⟩
  | cons p ps => unfold tNames.tN2 at e; cases e⟩
theorem gs_cons {i : Nat} {x : Str} {pos : Pos} {ts : List Expr} {is : List Nat} (hNd : X.N.Nodup) (u : SGs X W ts is) (hi : X.N[i]? = some x := by rfl) (hx : L2.Loc X.env.scope x := by first | exact Or.inl rfl | exact Or.inr rfl) (hf : X.fn x = true ∨ X.env.scope.names.lookup x = some .local := by first | exact .inl rfl | exact .inr rfl) : SGs X W (.Name x pos :: ts) (i :: is) :=
  ⟨fun {F0 F H0 H ev ev' σ vs ps Q} b r e h => by
    cases ps with
    | nil => unfold tNames.tN2 at e; cases e
    | cons p ps =>
      unfold RepL at r
      obtain ⟨y, ys, rfl, r1, r2⟩ := r
      unfold tNames.tN2 at e
      obtain ⟨ev1, e1, e2⟩ := Option.bind_eq_some_iff.mp e
      unfold tName at e1
      split at e1
      · rename_i hl
        cases e1
        have b1 : BS X.K F0 F H0 (ev.set i (.val p)) (σ.set i (some y)) H := ⟨b.er.store hl r1, b.sub, b.base⟩
        obtain ⟨t, ht, hq⟩ := u.go (Q := Q) b1 r2 e2 fun σ' a bt ho => h σ' ⟨a.bs, a.sub, a.keep⟩ ⟨bt.1.trans (by rw [List.length_set]), fun j hj => (bt.2 j fun z => hj (List.mem_cons_of_mem _ z)).trans (List.getElem?_set_ne fun z => hj (by simp [z]))⟩ fun a o => ow_store (ho a o)
        exact ⟨_, pgs_cons (pg_name hNd hi hx hf) ht, y, ys, rfl, hq⟩
      · cases e1⟩
end
end Pv

set_option Elab.async false
set_option linter.all false
set_option maxRecDepth 100000
namespace Pv
open PySem PySem.Spec L2
open PyProof.Rows hiding St

section
variable {X : Cx} {W : WX} {cm : CM}
/-! ### a, b = e -/
theorem g_names {ts : List Expr} {is : List Nat} {k : Nat} {pos : Pos} (hc : X.calm = true) (u : SGs X W ts is) (hl : (assignEach ts X.env).length = is.length := by rfl) (hf : List.findIdx? (fun x => x.fst) (assignEach ts X.env) = none := by rfl) : SG X W (.Tuple ts k pos) (tNames is) is :=
  ⟨fun {F0 F H0 H ev ev' σ v p Q} b q e h pins s w I r => by
    have len : ∀ (is : List Nat) (ps : List PV) (ev : SL) (e : tNames.tN2 is ps ev = some ev'), ps.length = is.length := by
      intro is
      induction is with
      | nil =>
        intro ps ev e
        cases ps with
        | nil => rfl
        | cons _ _ => unfold tNames.tN2 at e; cases e
      | cons i is ih =>
        intro ps ev e
        cases ps with
        | nil => unfold tNames.tN2 at e; cases e
        | cons p ps =>
          unfold tNames.tN2 at e
          obtain ⟨ev1, _, e2⟩ := Option.bind_eq_some_iff.mp e
          rw [List.length_cons, List.length_cons, ih _ _ e2]
    have main : ∀ (ps : List PV) (a : Addr) (xs : List V), v = .ref a → SqT X.K H a xs → RepL X.K F H xs ps → tNames.tN2 is ps ev = some ev' → wpAny (model X.prog X.w) X.A (assign (.Tuple ts k pos) X.env w) (fun _ s' => ∃ σ' H', L2.Inv X pins σ' H' s' ∧ Q σ' H') X.xe s := fun ps a xs ea hx rl e => by
      subst ea
      obtain ⟨t, ht, hq⟩ := u.go (Q := Q) b rl e h
      exact (pg_tup hc ht (n := is.length) hl hf).run pins s σ H (.ref a) w Q I r ⟨a, xs, rfl, hx, by rw [rl.length]; exact len is ps ev e, hq⟩
    cases p with
    | tup ps =>
      have q' : Rep X.K F H v (.tup ps) := q
      unfold Rep at q'
      obtain ⟨a, xs, ea, hx, rl⟩ := q'
      exact main ps a xs ea hx.sqT rl e
    | itm ps =>
      have q' : Rep X.K F H v (.itm ps) := q
      unfold Rep at q'
      obtain ⟨a, xs, ea, hx, rl⟩ := q'
      exact main ps a xs ea hx rl e
    | _ => unfold tNames at e; cases e⟩
def mTgt (t : PV → SL → Option SL) (p : PV) : M Fl := fun ev => match t p ev with
  | some ev' => .ok .nx ev'
  | none => .bad
def sG (X : Cx) (tg : Expr) : TG := fun v σ H Q => ∀ (pins : List (Addr × Obj)) (s : Shared) (u : Value), L2.Inv X pins σ H s → RelV v u → wpAny (model X.prog X.w) X.A (assign tg X.env u) (fun _ s' => ∃ σ' H', L2.Inv X pins σ' H' s' ∧ Q σ' H') X.xe s
theorem sG_pg {tg : Expr} : PG X tg (sG X tg) := ⟨fun pins s σ H v u Q I r h => h pins s u I r⟩
theorem s_unpack {ts : List Expr} {is : List Nat} {k : Nat} {tpos pos : Pos} {e : Expr} {m : M RV} (s : SE X W cm e m) (g : SG X W (.Tuple ts k tpos) (tNames is) is)
    (hs : swapsWithSole [.Tuple ts k tpos] e pos.line X.env = pure false := by rfl) (hw : swappedStores [.Tuple ts k tpos] e X.env = pure none := by rfl) (ha : List.map (fun x => x.snd) (assignEach [.Tuple ts k tpos] X.env) = [assign (.Tuple ts k tpos) X.env] := by rfl) : SS X W cm (.Assign [.Tuple ts k tpos] e pos) (bnd m fun r => mTgt (tNames is) r.1) := ⟨fun {F0 F H0 H ev σ D} b h => by
  refine sS_of (ps_asg sE_pe sG_pg hs hw ha) ?_
  refine s.go b.er ((h.expr b).mono fun r ev1 F1 H1 a hh v rv => ?_)
  obtain ⟨F2, a2, r2, f12⟩ := rv.share a
  have h2 := hh.2
  intro pins s' u I ru
  have h3 := h2.not_bad
  unfold mTgt at h3
  cases e1 : tNames is r.1 ev1 with
  | none => rw [e1] at h3; exact absurd rfl h3
  | some ev2 =>
    refine g.go (b.aft a2).bs r2 e1 (fun σ' as _ _ => ?_) pins s' u I ru
    exact h2.nx (F' := F2) (by unfold mTgt; rw [e1]) ⟨as.bs, f12, ⟨as.keep.tup, as.keep.frz, fun a o f => as.keep.lst a o (f12 a f)⟩⟩⟩

/-! ### x += e -/
def mAug (i : Nat) (m : M PV) : M Fl := fun ev => match ev[i]? with
  | some (.val (.int a)) => bnd m (fun p => match p with
    | .int b => setR i (.int (a + b), false)
    | _ => bad) ev
  | _ => .bad
theorem s_aug {i : Nat} {x : Str} {e : Expr} {m : M PV} {pos pos' : Pos} (hNd : X.N.Nodup) (s : Pv.SP X W cm e m) (hi : X.N[i]? = some x := by rfl) (hx : L2.Loc X.env.scope x := by first | exact Or.inl rfl | exact Or.inr rfl)
    (hf : X.fn x = true ∨ X.env.scope.names.lookup x = some .local := by first | exact .inl rfl | exact .inr rfl) : SS X W cm (.AugAssign (.Name x pos') .Add e pos) (mAug i m) := ⟨fun {F0 F H0 H ev σ D} b h => by
  refine sS_of (ps_aug hNd hi hx sE_pe ip_add hf) ?_
  have hb := h.not_bad
  unfold mAug at hb
  cases e0 : ev[i]? with
  | none => rw [e0] at hb; exact absurd rfl hb
  | some sl =>
    cases sl with
    | no => rw [e0] at hb; exact absurd rfl hb
    | own ps => rw [e0] at hb; exact absurd rfl hb
    | val q =>
      cases q with
      | int a =>
        obtain ⟨o, e1, v, rfl, rv⟩ := b.er.slot i _ e0
        have ev0 : v = .int a := rv
        subst ev0
        refine ⟨_, e1, ?_⟩
        have h1 : Ws X.K W cm F0 F H0 D ev σ H (bnd m fun p => match p with
            | .int b => setR i (.int (a + b), false)
            | _ => bad) := by
          unfold Ws mAug at h
          simp only [e0] at h
          unfold Ws
          exact h
        refine s.go b.er ((h1.expr b).mono fun p ev1 F1 H1 a1 hh y ry => ?_)
        have h2 := hh.2
        cases p with
        | int j =>
          obtain ⟨ev', e2⟩ := setR_nx h2.not_bad
          refine ⟨a, j, rfl, ry, ?_⟩
          exact h2.nx e2 ((b.aft a1).bs.set (Hs := H) b.er.same (r := (.int (a + j), false)) res_int e2)
        | _ => exact absurd rfl h2.not_bad
      | _ => rw [e0] at hb; exact absurd rfl hb⟩

/-! ### own lists changed in place -/
theorem ER.setOwn {K : Fr} {F : FS} {H0 H : Hp} {ev : SL} {σ : St} {i : Nat} {a : Addr} {ps qs : List PV} {ys : List V} (r : ER K F H0 ev σ H) (e : ev[i]? = some (.own ps)) (s : σ[i]? = some (some (.ref a))) (q : RepL K F H ys qs) :
    ER K F H0 (ev.set i (.own qs)) σ (upd H a (.lst ys)) ∧ Keep F H (upd H a (.lst ys)) := by
  obtain ⟨nf, h0, xs, ha⟩ := r.ow ⟨i, ps, e, s⟩
  have kp : Keep F H (upd H a (.lst ys)) := ⟨fun b zs h => by
      rw [upd_ne (fun z => by rw [z, ha] at h; cases h)]; exact h, fun b o u h => by
      rw [upd_ne (fun z => by rw [z, ha] at h; cases h)]; exact h, fun b o f h => by
      rw [upd_ne (fun z => by rw [z] at f; exact nf f)]; exact h⟩
  have hi : i < ev.length := (List.getElem?_eq_some_iff.mp e).1
  refine ⟨⟨by rw [List.length_set]; exact r.len, fun j sl ej => ?_, fun j k b rs ts e1 e2 s1 s2 => ?_, fun b f z => ?_, fun b o h => ?_⟩, kp⟩
  · rcases getElem?_set_some ej with ⟨z, rfl⟩ | ⟨ne, z⟩
    · subst z
      exact ⟨_, s, a, ys, rfl, upd_same, RepL.mono kp (fun _ h => h) qs q, nf, h0⟩
    · obtain ⟨o, e1, q1⟩ := r.slot j sl z
      refine ⟨o, e1, ?_⟩
      cases sl with
      | no => trivial
      | val p =>
        obtain ⟨v, e2, q2⟩ := q1
        exact ⟨v, e2, Rep.mono kp (fun _ h => h) p q2⟩
      | own rs =>
        obtain ⟨b, zs, e2, e3, q2, nf2, e4⟩ := q1
        refine ⟨b, zs, e2, ?_, RepL.mono kp (fun _ h => h) rs q2, nf2, e4⟩
        rw [upd_ne (fun w => by
          subst w
          exact ne (r.inj i j b ps rs e z s (by rw [e1, e2])))]
        exact e3
  · have old : ∀ {l : Nat} {us : List PV}, (ev.set i (.own qs))[l]? = some (.own us) → ∃ us', ev[l]? = some (.own us') := fun {l us} z => by
      rcases getElem?_set_some z with ⟨w, _⟩ | ⟨_, w⟩
      · subst w; exact ⟨ps, e⟩
      · exact ⟨us, w⟩
    obtain ⟨u1, z1⟩ := old e1
    obtain ⟨u2, z2⟩ := old e2
    exact r.inj j k b u1 u2 z1 z2 s1 s2
  · by_cases w : b = a
    · subst w; exact nf f
    · rw [upd_ne w] at z
      exact r.dom b f z
  · have w : b ≠ a := fun w => by
      rw [w, h0] at h; cases h
    rw [upd_ne w]
    exact r.same b o h
theorem BS.setOwn {K : Fr} {F0 F : FS} {H0 H : Hp} {ev : SL} {σ : St} {i : Nat} {a : Addr} {ps qs : List PV} {ys : List V} (b : BS K F0 F H0 ev σ H) (e : ev[i]? = some (.own ps)) (s : σ[i]? = some (some (.ref a))) (q : RepL K F H ys qs) :
    AS K F0 F H0 H F (ev.set i (.own qs)) σ (upd H a (.lst ys)) :=
  let ⟨e1, e2⟩ := b.er.setOwn e s q
  ⟨⟨e1, b.sub, b.base⟩, fun _ h => h, e2⟩
/-- an owned list's method: what it makes of the items -/
def mMet (i : Nat) (m : M (List PV)) (g : List PV → List PV → Option (List PV)) : M Fl := fun ev => match ev[i]? with
  | some (.own _) => bnd m (fun as ev1 => match ev1[i]? with
    | some (.own ps) => match g ps as with
      | some qs => .ok .nx (ev1.set i (.own qs))
      | none => .bad
    | _ => .bad) ev
  | _ => .bad
def MetOk (X : Cx) (id : String) (g : List PV → List PV → Option (List PV)) : Prop := ∀ (F : FS) (H : Hp) (a : Addr) (xs vs : List V) (ps as qs : List PV), H a = some (.lst xs) → RepL X.K F H xs ps → RepL X.K F H vs as → g ps as = some qs →
  ∃ (r : V → List V → Hp → VK → Prop) (ys : List V) (z : V), MtR X id r ∧ RepL X.K F H ys qs ∧ ∀ Q : VK, Q z (upd H a (.lst ys)) → r (.ref a) vs H Q
def sMt (X : Cx) (id : String) : V → List V → Hp → VK → Prop := fun x xs H Q => ∀ (pins : List (Addr × Obj)) (s : Shared) (σ : St) (v : Value) (us : List Value), L2.Inv X pins σ H s → RelV x v → Vals xs us → wpAny (model X.prog X.w) X.A (call (.builtin id) (v :: us)) (EP X pins σ Q) X.xe s
theorem sMt_ok {id : String} : MtR X id (sMt X id) := fun pins s σ H x xs v us Q I rx rs h => h pins s σ v us I rx rs
theorem sMt_of {id : String} {r : V → List V → Hp → VK → Prop} {x : V} {xs : List V} {H : Hp} {Q : VK} (o : MtR X id r) (h : r x xs H Q) : sMt X id x xs H Q := fun pins s σ v us I rx rs => o pins s σ H x xs v us Q I rx rs h
theorem own_of {K : Fr} {F F' : FS} {H0 H H' : Hp} {ev ev' : SL} {σ : St} {i : Nat} {ps : List PV} {a : Addr} (b : ER K F H0 ev σ H) (h : Aft K F H0 ev ev' σ H F' H') (e : ev'[i]? = some (.own ps)) (s : σ[i]? = some (some (.ref a))) : ∃ xs, H' a = some (.lst xs) ∧ RepL K F' H' xs ps := by
  obtain ⟨o, e1, c, xs, e2, e3, q, _⟩ := h.er.slot i _ e
  rw [s] at e1; cases e1; cases e2
  exact ⟨xs, e3, q⟩
theorem s_met {i : Nat} {x name : Str} {id : String} {e : Expr} {es : List Expr} {m : M (List PV)} {g : List PV → List PV → Option (List PV)} {p apos cpos pos : Pos} (slot : PySem.Slot "list" name id) (hty : typeOf (Value.builtin id) = pure (Value.type "method_descriptor")) (hg : MetOk X id g)
    (ha : SA X W cm (e :: es) m) (hi : X.N[i]? = some x := by rfl) (hv : Vis X.env.scope x := by first | exact Or.inl rfl | exact Or.inr (Or.inl rfl) | exact Or.inr (Or.inr rfl)) (hd : (x == ("__debug__" : Str)) = false := by decide) (hcd : (x == ("__classdict__" : Str)) = false := by decide)
    (hbase : attributeBase (.Name x p) name X.env (eval (.Name x p) X.env) = eval (.Name x p) X.env := by rfl)
    (hfew : ((((backTo cpos (starEach (e :: es) X.env)).all fun x => !x.fst) && (backToKw cpos (keywordEach [] X.env)).all fun x => x.fst.isSome) && decide (((e :: es).length + ([] : List Keyword).length + if ([] : List Keyword).isEmpty = true then 0 else 1) < 30)) = true := by rfl)
    (hline : (apos.endLine == cpos.line) = true := by rfl) (hst : starEach (e :: es) X.env = (false, eval e X.env) :: starEach es X.env := by rfl) (hpl : ((backTo cpos (starEach es X.env)).any fun x => x.fst) = false := by rfl)
    (hs : swapsWith (.Call (.Attribute (.Name x p) name apos) (e :: es) [] cpos) none pos.line X.env = pure false := by rfl) :
    SS X W cm (.Expr (.Call (.Attribute (.Name x p) name apos) (e :: es) [] cpos) pos) (mMet i m g) := ⟨fun {F0 F H0 H ev σ D} b h => by
  refine sS_of (ps_expr (pe_bm PySem.F.plainAttrs_list slot hty sMt_ok (pe_var hi hv hd hcd) sA_pa hbase hfew hline hst hpl) hs) ?_
  have hb := h.not_bad
  unfold mMet at hb
  cases e0 : ev[i]? with
  | none => rw [e0] at hb; exact absurd rfl hb
  | some sl =>
    cases sl with
    | no => rw [e0] at hb; exact absurd rfl hb
    | val q => rw [e0] at hb; exact absurd rfl hb
    | own ps0 =>
      obtain ⟨o, e1, a, xs0, rfl, e2, q0, nf, e3⟩ := b.er.slot i _ e0
      refine ⟨_, e1, .inl ⟨rfl, xs0, SqL.of e2⟩, ?_⟩
      have h1 : Ws X.K W cm F0 F H0 D ev σ H (bnd m fun as ev1 => match ev1[i]? with
          | some (.own ps) => match g ps as with
            | some qs => .ok .nx (ev1.set i (.own qs))
            | none => .bad
          | _ => .bad) := by
        unfold Ws mMet at h
        simp only [e0] at h
        unfold Ws
        exact h
      refine ha.go b.er ?_
      unfold Wt
      have hw := h1
      unfold Ws Pv.bnd at hw
      cases em : m ev with
      | bad => simp only [em] at hw
      | exc c ev1 => simp only [em] at hw; exact fun F' H' a' => hw F' σ H' (b.aft a')
      | ok as ev1 =>
        simp only [em] at hw
        intro F1 H1 _ F2 vs a2 rs
        cases e5 : ev1[i]? with
        | none => simp only [e5] at hw
        | some sl =>
          cases sl with
          | no => simp only [e5] at hw
          | val q => simp only [e5] at hw
          | own ps =>
            simp only [e5] at hw
            cases e6 : g ps as with
            | none => simp only [e6] at hw
            | some qs =>
              simp only [e6] at hw
              obtain ⟨xs, hx, rx⟩ := own_of b.er a2 e5 e1
              obtain ⟨r, ys, z, o1, o2, o3⟩ := hg F2 H1 a xs vs ps as qs hx rx rs e6
              refine sMt_of o1 (o3 _ ?_)
              exact hw F2 σ _ ((b.aft a2).trans ((b.aft a2).bs.setOwn e5 e1 o2))⟩
def gAppend : List PV → List PV → Option (List PV)
  | ps, [p] => if ps.length < SZ then some (ps ++ [p]) else none
  | _, _ => none
theorem RepL.one {K : Fr} {F : FS} {H : Hp} {vs : List V} {p : PV} (h : RepL K F H vs [p]) : ∃ v, vs = [v] ∧ Rep K F H v p := by
  unfold RepL at h
  obtain ⟨x, r, rfl, h1, h2⟩ := h
  exact ⟨x, by rw [h2.nil_inv], h1⟩
theorem k_append : MetOk X "list.append" gAppend := fun F H a xs vs ps as qs hx rx rs e => by
  unfold gAppend at e
  split at e
  · rename_i p
    split at e
    · rename_i hz
      cases e
      obtain ⟨v, rfl, rv⟩ := rs.one
      exact ⟨_, xs ++ [v], _, mt_append, rx.append (RepL.cons rv RepL.nil), fun Q hq => ⟨a, xs, v, rfl, rfl, hx, by rw [rx.length]; exact hz, hq⟩⟩
    · cases e
  · cases e
def gExtend : List PV → List PV → Option (List PV)
  | ps, [.lst qs] => if ps.length + qs.length ≤ SZ then some (ps ++ qs) else none
  | _, _ => none
theorem k_extend : MetOk X "list.extend" gExtend := fun F H a xs vs ps as qs hx rx rs e => by
  unfold gExtend at e
  split at e
  · rename_i qs'
    split at e
    · rename_i hz
      cases e
      obtain ⟨v, rfl, rv⟩ := rs.one
      unfold Rep at rv
      obtain ⟨c, ys, rfl, ⟨_, hy⟩, ry⟩ := rv
      exact ⟨_, xs ++ ys, _, mt_extend, rx.append ry, fun Q hq => ⟨a, c, xs, ys, rfl, rfl, hx, hy, by rw [rx.length, ry.length]; exact hz, hq⟩⟩
    · cases e
  · cases e
end
end Pv

set_option Elab.async false
set_option linter.all false
set_option maxRecDepth 100000
namespace Pv
open PySem PySem.Spec L2
open PyProof.Rows hiding St

section
variable {X : Cx} {W : WX} {cm : CM}
/-! ### x.append(y.pop(e)) -/
def mAppPop (i j : Nat) (m : M PV) : M Fl := fun ev => match ev[i]?, ev[j]? with
  | some (.own _), some (.own _) => if i = j then .bad else bnd m (fun p ev1 => match ev1[i]?, ev1[j]?, p with
    | some (.own ps), some (.own qs), .int k => if -(2 ^ 63) ≤ k ∧ k < 2 ^ 63 ∧ ps.length < SZ then match seqIndex? k qs.length with
      | some n => match qs[n]? with
        | some q => .ok .nx ((ev1.set j (.own (qs.eraseIdx n))).set i (.own (ps ++ [q])))
        | none => .bad
      | none => .bad
      else .bad
    | _, _, _ => .bad) ev
  | _, _ => .bad
theorem s_appPop {i j : Nat} {x y : Str} {e : Expr} {m : M PV} {p p2 apos apos2 cpos cpos2 pos : Pos} (ha : Pv.SP X W cm e m) (hi : X.N[i]? = some x := by rfl) (hj : X.N[j]? = some y := by rfl)
    (hv : Vis X.env.scope x := by first | exact Or.inl rfl | exact Or.inr (Or.inl rfl) | exact Or.inr (Or.inr rfl)) (hd : (x == ("__debug__" : Str)) = false := by decide) (hcd : (x == ("__classdict__" : Str)) = false := by decide)
    (hv2 : Vis X.env.scope y := by first | exact Or.inl rfl | exact Or.inr (Or.inl rfl) | exact Or.inr (Or.inr rfl)) (hd2 : (y == ("__debug__" : Str)) = false := by decide) (hcd2 : (y == ("__classdict__" : Str)) = false := by decide)
    (hbase : attributeBase (.Name x p) "append" X.env (eval (.Name x p) X.env) = eval (.Name x p) X.env := by rfl)
    (hfew : ((((backTo cpos (starEach [Expr.Call (.Attribute (.Name y p2) "pop" apos2) [e] [] cpos2] X.env)).all fun x => !x.fst) && (backToKw cpos (keywordEach [] X.env)).all fun x => x.fst.isSome) && decide (([Expr.Call (.Attribute (.Name y p2) "pop" apos2) [e] [] cpos2].length + ([] : List Keyword).length + if ([] : List Keyword).isEmpty = true then 0 else 1) < 30)) = true := by rfl)
    (hline : (apos.endLine == cpos.line) = true := by rfl) (hst : starEach [Expr.Call (.Attribute (.Name y p2) "pop" apos2) [e] [] cpos2] X.env = (false, eval (Expr.Call (.Attribute (.Name y p2) "pop" apos2) [e] [] cpos2) X.env) :: starEach [] X.env := by rfl)
    (hbase2 : attributeBase (.Name y p2) "pop" X.env (eval (.Name y p2) X.env) = eval (.Name y p2) X.env := by rfl)
    (hfew2 : ((((backTo cpos2 (starEach [e] X.env)).all fun x => !x.fst) && (backToKw cpos2 (keywordEach [] X.env)).all fun x => x.fst.isSome) && decide (([e].length + ([] : List Keyword).length + if ([] : List Keyword).isEmpty = true then 0 else 1) < 30)) = true := by rfl)
    (hline2 : (apos2.endLine == cpos2.line) = true := by rfl) (hst2 : starEach [e] X.env = (false, eval e X.env) :: starEach [] X.env := by rfl)
    (hs : swapsWith (.Call (.Attribute (.Name x p) "append" apos) [Expr.Call (.Attribute (.Name y p2) "pop" apos2) [e] [] cpos2] [] cpos) none pos.line X.env = pure false := by rfl) :
    SS X W cm (.Expr (.Call (.Attribute (.Name x p) "append" apos) [Expr.Call (.Attribute (.Name y p2) "pop" apos2) [e] [] cpos2] [] cpos) pos) (mAppPop i j m) := ⟨fun {F0 F H0 H ev σ D} b h => by
  refine sS_of (ps_expr (pe_bm PySem.F.plainAttrs_list PySem.F.slot_list_append PySem.F.type_list_append mt_append (pe_var hi hv hd hcd)
    (pa_cons (pe_bm PySem.F.plainAttrs_list PySem.F.slot_list_pop PySem.F.type_list_pop mt_popAt (pe_var hj hv2 hd2 hcd2) (pa_cons sE_pe pa_nil hst2) hbase2 hfew2 hline2 hst2 rfl) pa_nil hst) hbase hfew hline hst rfl) hs) ?_
  have hb := h.not_bad
  unfold mAppPop at hb
  split at hb
  rotate_left
  · exact absurd rfl hb
  rename_i ps0 qs0 e0 f0
  split at hb
  · exact absurd rfl hb
  rename_i nij
  obtain ⟨o, e1, a, xs0, rfl, e2, q0, nf, e3⟩ := b.er.slot i _ e0
  obtain ⟨o2, g1, c, ys0, rfl, g2, q1, nf2, g3⟩ := b.er.slot j _ f0
  refine ⟨_, e1, .inl ⟨rfl, xs0, SqL.of e2⟩, _, g1, .inl ⟨rfl, ys0, SqL.of g2⟩, ?_⟩
  have nac : a ≠ c := fun z => nij (b.er.inj i j a _ _ e0 f0 e1 (by rw [g1, z]))
  have h1 : Ws X.K W cm F0 F H0 D ev σ H (bnd m fun p ev1 => match ev1[i]?, ev1[j]?, p with
      | some (.own ps), some (.own qs), .int k => if -(2 ^ 63) ≤ k ∧ k < 2 ^ 63 ∧ ps.length < SZ then match seqIndex? k qs.length with
        | some n => match qs[n]? with
          | some q => .ok .nx ((ev1.set j (.own (qs.eraseIdx n))).set i (.own (ps ++ [q])))
          | none => .bad
        | none => .bad
        else .bad
      | _, _, _ => .bad) := by
    unfold Ws mAppPop at h
    simp only [e0, f0, if_neg nij] at h
    unfold Ws
    exact h
  refine ha.go b.er ((h1.expr b).mono fun pv ev1 F1 H1 a1 hh v rv => ?_)
  have h2 := hh.2
  have hb2 := h2.not_bad
  split at hb2
  rotate_left
  · exact absurd rfl hb2
  rename_i ps qs k s1 s2
  split at hb2
  rotate_left
  · exact absurd rfl hb2
  rename_i hk
  split at hb2
  rotate_left
  · exact absurd rfl hb2
  rename_i n hn
  split at hb2
  rotate_left
  · exact absurd rfl hb2
  rename_i q hq
  have ek : v = .int k := rv
  subst ek
  obtain ⟨xs, hx, rx⟩ := own_of b.er a1 s1 e1
  obtain ⟨ys, hy, ry⟩ := own_of b.er a1 s2 g1
  obtain ⟨w, hw, rw'⟩ := ry.get hq
  refine ⟨c, ys, k, n, w, rfl, rfl, hy, hk.1, hk.2.1, by rw [ry.length]; exact hn, hw, ?_⟩
  have m1 := (b.aft a1).bs.setOwn s2 g1 (ry.eraseIdx n)
  have t1 : (ev1.set j (.own (qs.eraseIdx n)))[i]? = some (.own ps) := by
    rw [List.getElem?_set_ne (fun z => nij z.symm)]
    exact s1
  obtain ⟨o3, u1, a3, xs3, u2, u3, u4, _⟩ := m1.bs.er.slot i _ t1
  rw [e1] at u1; cases u1
  cases u2
  have exs : xs3 = xs := by
    rw [upd_ne nac, hx] at u3
    cases u3
    rfl
  subst exs
  have rq : Rep X.K F1 (upd H1 c (.lst (ys.eraseIdx n))) w q := Rep.mono m1.keep (fun _ h => h) q rw'
  have m2 := m1.bs.setOwn t1 e1 (u4.append (RepL.cons rq RepL.nil))
  refine ⟨a, xs3, w, rfl, rfl, u3, by rw [u4.length]; exact hk.2.2, ?_⟩
  refine h2.nx (F' := F1) ?_ (m1.trans m2)
  simp only [s1, s2, if_pos hk, hn, hq]⟩

/-! ### loops -/
/-- what a for walks -/
def ItOk (K : Fr) (F : FS) (H : Hp) (J : It) (ps : List PV) : Prop := ∀ (i : Nat) (F2 : FS) (H2 : Hp), (∀ a, F a → F2 a) → Keep F H H2 → (i = ps.length → J.stop i H2) ∧ (∀ p, ps[i]? = some p → J.go i H2 ∧ ∀ x H3, J.yld i H2 x H3 → Same H2 H3 ∧ Rep K F2 H3 x p)
structure SI (X : Cx) (W : WX) (cm : CM) (tg iter : Expr) (m : M (List PV)) : Prop where
  ex : ∃ wi, PI X tg iter wi ∧ ∀ {F : FS} {H0 H : Hp} {ev : SL} {σ : St} {R : It → Hp → Prop}, ER X.K F H0 ev σ H → (Wt X.K W cm F H0 ev σ H m fun ps ev' F' H' => ∀ J F2, Aft X.K F H0 ev ev' σ H F2 H' → (∀ a, F' a → F2 a) → ItOk X.K F2 H' J ps → R J H') → wi σ H R
theorem itl_ok {K : Fr} {F : FS} {H : Hp} {a : Addr} {xs : List V} {ps : List PV} (f : F a) (hx : H a = some (.lst xs)) (r : RepL K F H xs ps) : ItOk K F H (Itl K a) ps := fun i F2 H2 s k => by
  have hx2 : SqL K H2 a xs := SqL.of (k.lst _ _ f hx)
  refine ⟨fun e => ⟨xs, hx2, by rw [r.length, e]; exact Nat.le_refl _⟩, fun p hp => ?_⟩
  obtain ⟨v, hv, rv⟩ := r.get hp
  refine ⟨⟨xs, v, hx2, hv⟩, fun x H3 y => ?_⟩
  obtain ⟨e, y⟩ := y
  subst e
  have e2 : v = x := Option.some.inj (hv.symm.trans (y xs hx2))
  subst e2
  exact ⟨Same.refl _, Rep.mono k s p rv⟩
theorem itt_ok {K : Fr} {F : FS} {H : Hp} {a : Addr} {xs : List V} {ps : List PV} (hx : TpX K H a xs) (r : RepL K F H xs ps) : ItOk K F H (Itt K a) ps := fun i F2 H2 s k => by
  have hx2 : SqT K H2 a xs := (k.tpX hx).sqT
  refine ⟨fun e => ⟨xs, hx2, by rw [r.length, e]; exact Nat.le_refl _⟩, fun p hp => ?_⟩
  obtain ⟨v, hv, rv⟩ := r.get hp
  refine ⟨⟨xs, v, hx2, hv⟩, fun x H3 y => ?_⟩
  obtain ⟨e, y⟩ := y
  subst e
  have e2 : v = x := Option.some.inj (hv.symm.trans (y xs hx2))
  subst e2
  exact ⟨Same.refl _, Rep.mono k s p rv⟩
def mLstOf (m : M RV) : M (List PV) := bnd m fun r => match r.1 with
  | .lst ps => ret ps
  | _ => bad
def mTupOf (m : M RV) : M (List PV) := bnd m fun r => match r.1 with
  | .tup ps => ret ps
  | _ => bad
theorem i_list {tg e : Expr} {m : M RV} (s : SE X W cm e m) : SI X W cm tg e (mLstOf m) := ⟨_, pi_list sE_pe, fun {F H0 H ev σ R} r h => by
  refine s.go r (h.bnd.mono fun z ev1 F1 H1 a1 hh v rv => ?_)
  obtain ⟨F2, a2, r2, f12⟩ := rv.share a1
  have h2 := hh.2
  cases e1 : z.1 with
  | lst ps =>
    simp only [e1] at h2
    rw [e1] at r2
    unfold Rep at r2
    obtain ⟨a, xs, rfl, ⟨f, hx⟩, rl⟩ := r2
    exact ⟨a, rfl, ⟨xs, SqL.of hx⟩, Wt.ret (P := fun ps ev' F' H' => ∀ J F2, Aft X.K F H0 ev ev' σ H F2 H' → (∀ a, F' a → F2 a) → ItOk X.K F2 H' J ps → R J H') a1.er h2 _ F2 a2 f12 (itl_ok f hx rl)⟩
  | _ => simp only [e1] at h2; exact h2.elim⟩
theorem i_tup {tg e : Expr} {m : M RV} (s : SE X W cm e m) : SI X W cm tg e (mTupOf m) := ⟨_, pi_tup sE_pe, fun {F H0 H ev σ R} r h => by
  refine s.go r (h.bnd.mono fun z ev1 F1 H1 a1 hh v rv => ?_)
  obtain ⟨F2, a2, r2, f12⟩ := rv.share a1
  have h2 := hh.2
  cases e1 : z.1 with
  | tup ps =>
    simp only [e1] at h2
    rw [e1] at r2
    unfold Rep at r2
    obtain ⟨a, xs, rfl, hx, rl⟩ := r2
    exact ⟨a, rfl, ⟨xs, hx.sqT⟩, Wt.ret (P := fun ps ev' F' H' => ∀ J F2, Aft X.K F H0 ev ev' σ H F2 H' → (∀ a, F' a → F2 a) → ItOk X.K F2 H' J ps → R J H') a1.er h2 _ F2 a2 f12 (itt_ok hx rl)⟩
  | _ => simp only [e1] at h2; exact h2.elim⟩
def rgP (lo : Int) (n : Nat) : List PV := (List.range n).map fun i => .int (lo + (i : Nat))
theorem itr_ok {K : Fr} {F : FS} {H : Hp} {lo : Int} {n : Nat} : ItOk K F H (Itr lo n) (rgP lo n) := fun i F2 H2 s k => by
  unfold rgP
  refine ⟨fun e => by rw [List.length_map, List.length_range] at e; exact Nat.le_of_eq e.symm, fun p hp => ?_⟩
  have hi : i < n := by
    have := (List.getElem?_eq_some_iff.mp hp).1
    rwa [List.length_map, List.length_range] at this
  refine ⟨hi, fun x H3 y => ?_⟩
  obtain ⟨rfl, rfl⟩ := y
  rw [List.getElem?_map, List.getElem?_range hi] at hp
  cases hp
  exact ⟨Same.refl _, rep_int⟩
def okR (i : Int) : Bool := decide (-(2 ^ 62) ≤ i ∧ i < 2 ^ 62)
def mRng1 (m : M (List PV)) : M (List PV) := bnd m fun ps => match ps with
  | [.int j] => if okR j then ret (rgP 0 j.toNat) else bad
  | _ => bad
def mRng2 (m : M (List PV)) : M (List PV) := bnd m fun ps => match ps with
  | [.int i, .int j] => if okR i && okR j then ret (rgP i (j - i).toNat) else bad
  | _ => bad
theorem i_range1 {tg a : Expr} {m : M (List PV)} {p pos : Pos} (hm : X.mg "range" = none) (s : SK X W cm [a] m) (hg : Gl X "range" := by rfl) (hs : starEach [a] X.env = [(false, eval a X.env)] := by rfl) : SI X W cm tg (.Call (.Name "range" p) [a] [] pos) (mRng1 m) := ⟨_, pi_range1 hg hm sA_pa hs, fun {F H0 H ev σ R} r h => by
  refine s.go r (h.bnd.mono fun ps ev1 F1 H1 a1 hh vs rs => ?_)
  have h2 := hh.2
  split at h2
  · rename_i j
    obtain ⟨v, rfl, rv⟩ := rs.one
    have ev0 : v = .int j := rv
    subst ev0
    split at h2
    · rename_i c
      unfold okR at c
      have c' := of_decide_eq_true c
      exact ⟨j, rfl, c'.1, c'.2, Wt.ret (P := fun ps ev' F' H' => ∀ J F2, Aft X.K F H0 ev ev' σ H F2 H' → (∀ a, F' a → F2 a) → ItOk X.K F2 H' J ps → R J H') a1.er h2 _ F1 a1 (fun _ h => h) itr_ok⟩
    · exact h2.elim
  · exact h2.elim⟩
theorem i_range2 {tg a b : Expr} {m : M (List PV)} {p pos : Pos} (hm : X.mg "range" = none) (s : SK X W cm [a, b] m) (hg : Gl X "range" := by rfl) (hs : starEach [a, b] X.env = [(false, eval a X.env), (false, eval b X.env)] := by rfl) (hs2 : starEach [b] X.env = [(false, eval b X.env)] := by rfl) : SI X W cm tg (.Call (.Name "range" p) [a, b] [] pos) (mRng2 m) := ⟨_, pi_range2 hg hm sA_pa hs hs2, fun {F H0 H ev σ R} r h => by
  refine s.go r (h.bnd.mono fun ps ev1 F1 H1 a1 hh vs rs => ?_)
  have h2 := hh.2
  split at h2
  · rename_i i j
    obtain ⟨v, w, rfl, rv, rw'⟩ := rs.two
    have ev0 : v = .int i := rv
    have ev1 : w = .int j := rw'
    subst ev0 ev1
    split at h2
    · rename_i c
      rw [Bool.and_eq_true] at c
      unfold okR at c
      have c1 := of_decide_eq_true c.1
      have c2 := of_decide_eq_true c.2
      exact ⟨i, j, rfl, ⟨c1.1, c1.2, c2.1, c2.2⟩, Wt.ret (P := fun ps ev' F' H' => ∀ J F2, Aft X.K F H0 ev ev' σ H F2 H' → (∀ a, F' a → F2 a) → ItOk X.K F2 H' J ps → R J H') a1.er h2 _ F1 a1 (fun _ h => h) itr_ok⟩
    · exact h2.elim
  · exact h2.elim⟩
def loop (t : PV → SL → Option SL) (mb : M Fl) : List PV → M Fl
  | [] => ret .nx
  | p :: ps => fun ev => match t p ev with
    | none => .bad
    | some ev1 => match mb ev1 with
      | .ok .nx ev2 => loop t mb ps ev2
      | .ok .ct ev2 => loop t mb ps ev2
      | .ok .bk ev2 => .ok .nx ev2
      | .ok (.rt r) ev2 => .ok (.rt r) ev2
      | .exc c ev2 => .exc c ev2
      | .bad => .bad
theorem s_for {tg iter : Expr} {body : List Stmt} {mi : M (List PV)} {t : PV → SL → Option SL} {mb : M Fl} {pos : Pos} {js : List Nat} (hp : PassesOwn (model X.prog X.w) X.A X.env X.xe) (hc : X.calm = true) (si : SI X W cm tg iter mi) (sg : SG X W tg t js) (sb : SB X W cm body mb)
    (hs : ∀ x, foldedSetIterable iter X.env x = pure x := by intro _; rfl) : SS X W cm (.For tg iter body [] pos) (bnd mi (loop t mb)) := ⟨fun {F0 F H0 H ev σ D} b h => by
  obtain ⟨wi, hpi, hwi⟩ := si.ex
  refine sS_of (ps_for hp hc hpi sG_pg sSs_ps hs) ?_
  refine hwi b.er ((h.expr b).mono fun ps ev1 F1 H1 a1 hh J F2 a2 f12 it => ?_)
  have hl : Ws X.K W cm F0 F2 H0 D ev1 σ H1 (loop t mb ps) := by
    have h2 := hh.2
    unfold Ws at h2 ⊢
    have up : ∀ {F' ev' σ' H'}, AS X.K F0 F2 H0 H1 F' ev' σ' H' → AS X.K F0 F1 H0 H1 F' ev' σ' H' := fun {F' ev' σ' H'} a => ⟨a.bs, fun x h => a.sub x (f12 x h), ⟨a.keep.tup, a.keep.frz, fun x o f => a.keep.lst x o (f12 x f)⟩⟩
    cases q : loop t mb ps ev1 with
    | ok f ev' =>
      cases f with
      | nx => rw [q] at h2; exact fun F' σ' H' a => h2 F' σ' H' (up a)
      | bk => rw [q] at h2; exact fun F' σ' H' a => h2 F' σ' H' (up a)
      | ct => rw [q] at h2; exact fun F' σ' H' a => h2 F' σ' H' (up a)
      | rt r => rw [q] at h2; exact h2
    | exc c ev' => rw [q] at h2; exact fun F' σ' H' a => h2 F' σ' H' (up a)
    | bad => rw [q] at h2; exact h2
  have b2 := (b.aft a2).bs
  refine ⟨fun i n σ' H' => n = ps.length - i ∧ i ≤ ps.length ∧ ∃ F' ev', BS X.K F0 F' H0 ev' σ' H' ∧ (∀ a, F2 a → F' a) ∧ Keep F2 H1 H' ∧ Ws X.K W cm F0 F' H0 D ev' σ' H' (loop t mb (ps.drop i)), ⟨ps.length, by simp, Nat.zero_le _, F2, ev1, b2, fun _ h => h, .refl, hl⟩, ?_⟩
  rintro i n σ' H' ⟨rfl, hi, F', ev', bs, f2, kp, hw⟩
  by_cases e : i = ps.length
  · refine .inl ⟨(it i F' H' f2 kp).1 e, ?_⟩
    rw [e, List.drop_length] at hw
    exact hw.nx rfl bs.as
  · have hlt : i < ps.length := by omega
    have ed : ps.drop i = ps[i] :: ps.drop (i + 1) := List.drop_eq_getElem_cons hlt
    rw [ed] at hw
    obtain ⟨go, yl⟩ := (it i F' H' f2 kp).2 ps[i] (List.getElem?_eq_getElem hlt)
    have hb := hw.not_bad
    unfold loop at hb
    cases e1 : t ps[i] ev' with
    | none => simp only [e1] at hb; exact absurd rfl hb
    | some ev2 =>
      refine .inr ⟨go, fun σ3 H3 => ∃ F3 ev3, BS X.K F0 F3 H0 ev3 σ3 H3 ∧ (∀ a, F2 a → F3 a) ∧ Keep F2 H1 H3 ∧ Ws X.K W cm F0 F3 H0 D ev3 σ3 H3 (loop t mb (ps.drop (i + 1))), fun σ3 H3 ⟨F3, ev3, x1, x2, x3, x4⟩ => ⟨_, by omega, rfl, hlt, F3, ev3, x1, x2, x3, x4⟩, fun x H4 y => ?_⟩
      obtain ⟨s4, r4⟩ := yl x H4 y
      have b4 : BS X.K F0 F' H0 ev' σ' H4 := ⟨bs.er.later s4, bs.sub, bs.base⟩
      have as4 : AS X.K F0 F' H0 H' F' ev' σ' H4 := ⟨b4, fun _ h => h, .of s4⟩
      intro pins s u I ru
      refine sg.go b4 r4 e1 (fun σ5 a5 _ _ => ?_) pins s u I ru
      -- the body
      have a6 : AS X.K F0 F' H0 H' F' ev2 σ5 H4 := as4.trans a5
      refine sb.go a5.bs ?_
      unfold Ws
      unfold Ws loop at hw
      simp only [e1] at hw
      have next : ∀ {ev7 : SL} {F7 : FS} {σ7 : St} {H7 : Hp}, AS X.K F0 F' H0 H4 F7 ev7 σ7 H7 → Ws X.K W cm F0 F' H0 D ev' σ' H' (fun _ => loop t mb (ps.drop (i + 1)) ev7) →
          ∃ F3 ev3, BS X.K F0 F3 H0 ev3 σ7 H7 ∧ (∀ a, F2 a → F3 a) ∧ Keep F2 H1 H7 ∧ Ws X.K W cm F0 F3 H0 D ev3 σ7 H7 (loop t mb (ps.drop (i + 1))) := fun {ev7 F7 σ7 H7} a7 w7 =>
        ⟨F7, ev7, a7.bs, fun a h => a7.sub a (f2 a h), kp.trans f2 ((as4.keep).trans (fun _ h => h) a7.keep), Ws.from (σ := σ') (m := fun _ => loop t mb (ps.drop (i + 1)) ev7) (ev := ev') (as4.trans a7) rfl w7⟩
      cases q : mb ev2 with
      | ok f ev7 =>
        cases f with
        | nx => simp only [q] at hw; exact fun F7 σ7 H7 a7 => next a7 (by unfold Ws; exact hw)
        | ct => simp only [q] at hw; exact fun F7 σ7 H7 a7 => next a7 (by unfold Ws; exact hw)
        | bk => simp only [q] at hw; exact fun F7 σ7 H7 a7 => hw F7 σ7 H7 (as4.trans a7)
        | rt r => simp only [q] at hw; exact hw
      | exc c ev7 => simp only [q] at hw; exact fun F7 σ7 H7 a7 => hw F7 σ7 H7 (as4.trans a7)
      | bad => simp only [q] at hw⟩
end
end Pv

set_option Elab.async false
set_option linter.all false
set_option maxRecDepth 100000
namespace Pv
open PySem PySem.Spec L2
open PyProof.Rows hiding St

section
variable {X : Cx} {W : WX} {cm : CM}
/-! ### raise -/
def mRaise (c : Str) : M Fl := fun ev => .exc c ev
/-- the class named x is known, its exceptions can be made -/
structure ExK (K : Fr) (mg : Str → Option Value) (cm : CM) (x : Str) : Prop where
  ex : ∃ (C : Addr), cm x = .ref C ∧ mg x = some (.ref C) ∧ PySem.W.excIn K C [.type "ValueError", .type "Exception", .type "BaseException", .type "object"] "ValueError.__new__" = true ∧ PySem.W.keepIn K (.ref C) = true ∧ PySem.W.subIn K (.ref C) (.type "BaseException") = some true ∧ PySem.W.typeIn K (.ref C) = some (.type "type")
theorem s_raise {x m : Str} {j : Nat} {p p2 pos pos' : Pos} (hc : X.calm = true) (tk : L2N.Takes X W) (c : ExK X.K X.mg cm x) (hg : Gl X x := by rfl) (hd : (x == ("__debug__" : Str)) = false := by decide) :
    SS X W cm (.Raise (some (.Call (.Name x p) [.Constant (.str m) j p2] [] pos)) none pos') (mRaise x) := ⟨fun {F0 F H0 H ev σ D} b h => by
  obtain ⟨C, e, hm, h1, h2, h3, h4⟩ := c.ex
  refine sS_of (L2N.ps_raise hc tk (L2N.pmk_own PySem.F.excBase_ValueError h1 hm h2 (raises_own h3 h4) hg hd)) ?_
  unfold Ws mRaise at h
  have h5 := h F σ H b.as
  rw [e] at h5
  exact h5⟩
/-! ### while -/
def whil (mc : M Bool) (mb : M Fl) : Nat → M Fl
  | 0 => fun _ => .bad
  | n + 1 => bnd mc fun k => if k then (fun ev => match mb ev with
      | .ok .nx ev2 => whil mc mb n ev2
      | .ok .ct ev2 => whil mc mb n ev2
      | .ok .bk ev2 => .ok .nx ev2
      | .ok (.rt r) ev2 => .ok (.rt r) ev2
      | .exc c ev2 => .exc c ev2
      | .bad => .bad) else ret .nx
theorem s_while (n : Nat) {c : Expr} {body : List Stmt} {mc : M Bool} {mb : M Fl} {pos : Pos} (hp : PassesOwn (model X.prog X.w) X.A X.env X.xe) (sc : ST X W cm c mc) (sb : SB X W cm body mb) : SS X W cm (.While c body [] pos) (whil mc mb n) := ⟨fun {F0 F H0 H ev σ D} b h => by
  refine sS_of (ps_while hp sT_pt sSs_ps) ?_
  refine ⟨fun k σ' H' => ∃ F' ev', BS X.K F0 F' H0 ev' σ' H' ∧ Ws X.K W cm F0 F' H0 D ev' σ' H' (whil mc mb k), ⟨n, F, ev, b, h⟩, ?_⟩
  rintro k σ' H' ⟨F', ev', bs, hw⟩
  cases k with
  | zero => exact absurd rfl hw.not_bad
  | succ k =>
    unfold whil at hw
    refine sc.go bs.er ((hw.expr bs).mono fun z ev1 F1 H1 a1 hh => ?_)
    have h2 := hh.2
    cases z with
    | false => exact iteF (h2.nx rfl (bs.aft a1).bs.as)
    | true =>
      refine iteT ⟨fun σ3 H3 => ∃ F3 ev3, BS X.K F0 F3 H0 ev3 σ3 H3 ∧ Ws X.K W cm F0 F3 H0 D ev3 σ3 H3 (whil mc mb k), fun σ3 H3 q => ⟨k, by omega, q⟩, ?_⟩
      have b1 := (bs.aft a1).bs
      refine sb.go b1 ?_
      unfold Ws
      unfold Ws at h2
      simp only [if_true] at h2
      have next : ∀ {ev7 : SL} {F7 : FS} {σ7 : St} {H7 : Hp}, AS X.K F0 F1 H0 H1 F7 ev7 σ7 H7 → Ws X.K W cm F0 F1 H0 D ev1 σ' H1 (fun _ => whil mc mb k ev7) →
          ∃ F3 ev3, BS X.K F0 F3 H0 ev3 σ7 H7 ∧ Ws X.K W cm F0 F3 H0 D ev3 σ7 H7 (whil mc mb k) := fun {ev7 F7 σ7 H7} a7 w7 =>
        ⟨F7, ev7, a7.bs, Ws.from (σ := σ') (m := fun _ => whil mc mb k ev7) (ev := ev1) a7 rfl w7⟩
      cases q : mb ev1 with
      | ok f ev7 =>
        cases f with
        | nx => simp only [q] at h2; exact fun F7 σ7 H7 a7 => next a7 (by unfold Ws; exact h2)
        | ct => simp only [q] at h2; exact fun F7 σ7 H7 a7 => next a7 (by unfold Ws; exact h2)
        | bk => simp only [q] at h2; exact h2
        | rt r => simp only [q] at h2; exact h2
      | exc c ev7 => simp only [q] at h2; exact h2
      | bad => simp only [q] at h2⟩
/-! ### try: .. except C as e: .. -/
/-- what an except clause does with an exception of class d: the suite is told of the address 0, whatever it is -/
def mTry (mb : M Fl) (is : Str → Option Bool) (i : Nat) (ms : Str → Addr → M Fl) : M Fl := fun ev => match mb ev with
  | .exc d ev1 => match is d with
    | some true => if i < ev1.length then (match ms d 0 (ev1.set i (.val (.opq (.ref 0)))) with
      | .ok f ev2 => .ok f (ev2.set i .no)
      | .exc _ _ => .bad
      | .bad => .bad) else .bad
    | some false => .exc d ev1
    | none => .bad
  | r => r
/-- the address does not matter -/
def Nat0 (i : Nat) (m : Addr → M Fl) : Prop := ∀ (a : Addr) (ev ev2 : SL) (f : Fl), m 0 (ev.set i (.val (.opq (.ref 0)))) = .ok f ev2 → ∃ ev3, m a (ev.set i (.val (.opq (.ref a)))) = .ok f ev3 ∧ ev3.set i .no = ev2.set i .no
theorem ER.forget {K : Fr} {F : FS} {H0 H : Hp} {ev : SL} {σ : St} {i : Nat} {o : Option V} (r : ER K F H0 ev σ H) (hi : i < ev.length) : ER K F H0 (ev.set i .no) (σ.set i o) H where
  len := by rw [List.length_set, List.length_set]; exact r.len
  slot := fun j sl e => by
    by_cases hj : i = j
    · subst hj
      rw [List.getElem?_set_self hi] at e
      cases e
      exact ⟨o, List.getElem?_set_self (by rw [← r.len]; exact hi), trivial⟩
    · rw [List.getElem?_set_ne hj] at e ⊢
      exact r.slot j sl e
  inj := fun j k a ps qs e1 e2 s1 s2 => by
    have nj : i ≠ j := fun z => by
      subst z
      rw [List.getElem?_set_self hi] at e1; cases e1
    have nk : i ≠ k := fun z => by
      subst z
      rw [List.getElem?_set_self hi] at e2; cases e2
    rw [List.getElem?_set_ne nj] at e1 s1
    rw [List.getElem?_set_ne nk] at e2 s2
    exact r.inj j k a ps qs e1 e2 s1 s2
  dom := r.dom
  same := r.same
theorem s_tryAs {x n : Str} {cv : Value} {i : Nat} {body suite : List Stmt} {b0 : Stmt} {np pos pos' : Pos} {mb : M Fl} {is : Str → Option Bool} {ms : Str → Addr → M Fl} (hs : X.stack = X.env :: X.outer) (hf : X.env.frame = some X.env.locals) (hNd : X.N.Nodup) (hn : Names X x cv) (tk : L2N.Takes X W)
    (his : ∀ d k, is d = some k → PySem.W.exmOne X.K (cm d) cv = some k)
    (sb : ∀ (W' : WX) (pn : List (Addr × Obj)) (xe : Value → Shared → Prop), L2N.Takes (X.tr pn xe) W' → PassesOwn (model X.prog X.w) X.A X.env xe → SB (X.tr pn xe) W' cm body mb)
    (su : ∀ (d : Str) (a : Addr) (oe : Obj) (pn : List (Addr × Obj)), is d = some true → L2N.Zn (cm d) none oe → (∃ vs, oe.data = .fields vs) → SB (X.suite a ((a, oe) :: pn)) (fun _ _ _ _ => False) cm (b0 :: suite) (ms d a)) (hn0 : ∀ d, is d = some true → Nat0 i (ms d))
    (hi : X.N[i]? = some n := by rfl) (hk : X.env.kindOf n = some NameKind.local := by rfl) :
    SS X W cm (.Try body [.ExceptHandler (some (.Name x np)) (some n) (b0 :: suite) pos'] [] [] pos) (mTry mb is i ms) := ⟨fun {F0 F H0 H ev σ D} b h => by
  refine sS_of (L2N.ps_try_as (tb := fun W' D σ H => ∀ (pn : List (Addr × Obj)) (xe : Value → Shared → Prop), L2N.Takes (X.tr pn xe) W' → PassesOwn (model X.prog X.w) X.A X.env xe → sSs (X.tr pn xe) body D σ H)
    (ts := fun a cls d D σ H => ∀ (oe : Obj) (pn : List (Addr × Obj)), L2N.Zn cls d oe → (∃ vs, oe.data = Data.fields vs) → sSs (X.suite a ((a, oe) :: pn)) (b0 :: suite) D σ H) hs hf hNd hi hk hn tk
    (fun W' pn xe t hp => ⟨fun pins s σ H D I q => q pn xe t hp pins s I⟩) (fun a oe cls d pn z v => ⟨fun pins s σ H D I q => q oe pn z v pins s I⟩)) ?_
  intro pn xe t hp
  refine (sb _ pn xe t hp).go (X := X.tr pn xe) b ?_
  unfold Ws
  unfold Ws mTry at h
  cases e : mb ev with
  | ok f ev1 =>
    rw [e] at h
    cases f <;> exact h
  | bad => rw [e] at h; exact h
  | exc d ev1 =>
    simp only [e] at h
    intro F1 σ1 H1 a1
    cases e2 : is d with
    | none => simp only [e2] at h
    | some k =>
      refine ⟨k, his d k e2, fun ek a na oe pn2 z v => ?_, fun ek => ?_⟩
      · subst ek
        simp only [e2] at h
        by_cases hl : i < ev1.length
        · rw [if_pos hl] at h
          have b2 : BS X.K F0 F1 H0 (ev1.set i (.val (.opq (.ref a)))) (σ1.set i (some (.ref a))) H1 := ⟨a1.bs.er.store hl (by unfold Rep; rfl), a1.bs.sub, a1.bs.base⟩
          have a2 : AS X.K F0 F H0 H F1 (ev1.set i (.val (.opq (.ref a)))) (σ1.set i (some (.ref a))) H1 := ⟨b2, a1.sub, a1.keep⟩
          refine (su d a oe pn2 e2 z v).go (X := X.suite a ((a, oe) :: pn2)) b2 ?_
          have fin : ∀ {F3 ev3 σ3 H3}, AS X.K F0 F1 H0 H1 F3 ev3 σ3 H3 → AS X.K F0 F H0 H F3 (ev3.set i .no) (σ3.set i none) H3 := fun {F3 ev3 σ3 H3} a3 => by
            have a4 := a2.trans a3
            by_cases hl3 : i < ev3.length
            · exact ⟨⟨a3.bs.er.forget hl3, a3.bs.sub, a3.bs.base⟩, a4.sub, a4.keep⟩
            · rw [List.set_eq_of_length_le (Nat.le_of_not_lt hl3), List.set_eq_of_length_le (by rw [← a3.bs.er.len]; exact Nat.le_of_not_lt hl3)]
              exact a4
          unfold Ws
          cases e3 : ms d 0 (ev1.set i (.val (.opq (.ref 0)))) with
          | ok f ev3 =>
            simp only [e3] at h
            obtain ⟨ev4, e4, e5⟩ := hn0 d e2 a ev1 ev3 f e3
            rw [e4]
            rw [← e5] at h
            cases f with
            | nx => exact fun F3 σ3 H3 a3 => h F3 _ H3 (fin a3)
            | bk => exact fun F3 σ3 H3 a3 => h F3 _ H3 (fin a3)
            | ct => exact fun F3 σ3 H3 a3 => h F3 _ H3 (fin a3)
            | rt r => exact h
          | exc c ev3 => simp only [e3] at h
          | bad => simp only [e3] at h
        · rw [if_neg hl] at h; exact h.elim
      · subst ek
        simp only [e2] at h
        exact h F1 σ1 H1 a1⟩
def mTryO (mb : M Fl) (is : Str → Option Bool) (ms : Str → M Fl) : M Fl := fun ev => match mb ev with
  | .exc d ev1 => match is d with
    | some true => (match ms d ev1 with
      | .ok f ev2 => .ok f ev2
      | .exc _ _ => .bad
      | .bad => .bad)
    | some false => .exc d ev1
    | none => .bad
  | r => r
/-! ### a def -/
def runB (m : M Fl) (ev : SL) : Rf := match m ev with
  | .ok .nx _ => .ok (.non, false)
  | .ok (.rt r) _ => .ok r
  | .ok _ _ => .bad
  | .exc c _ => .exc c
  | .bad => .bad
/-- the slots at the start -/
def ev0 (n : Nat) (ps : List PV) : SL := ps.map .val ++ List.replicate (n - ps.length) .no
def runF (n k : Nat) (m : M Fl) : Fn := fun ps => if ps.length = k ∧ k ≤ n then runB m (ev0 n ps) else .bad
theorem start_er {K : Fr} {F : FS} {H : Hp} {N : List Str} {vs : List V} {ps : List PV} (d : ∀ a, F a → H a ≠ none) (r : RepL K F H vs ps) (hl : ps.length ≤ N.length) : ER K F H (ev0 N.length ps) (L2.start N vs) H where
  len := by
    unfold ev0 L2.start
    rw [List.length_append, List.length_append, List.length_map, List.length_map, List.length_replicate, List.length_replicate, r.length]
  slot := fun i sl e => by
    unfold ev0 at e
    unfold L2.start
    by_cases hi : i < ps.length
    · rw [List.getElem?_append_left (by rw [List.length_map]; exact hi), List.getElem?_map, List.getElem?_eq_getElem hi] at e
      cases e
      obtain ⟨v, e1, e2⟩ := r.get (List.getElem?_eq_getElem hi)
      refine ⟨some v, ?_, v, rfl, e2⟩
      rw [List.getElem?_append_left (by rw [List.length_map, r.length]; exact hi), List.getElem?_map, e1]
      rfl
    · rw [List.getElem?_append_right (by rw [List.length_map]; exact Nat.le_of_not_lt hi)] at e
      have hb := (List.getElem?_eq_some_iff.mp e).1
      rw [List.length_replicate] at hb
      rw [List.getElem?_replicate_of_lt hb] at e
      cases e
      rw [List.length_map] at hb
      refine ⟨none, ?_, trivial⟩
      rw [List.getElem?_append_right (by rw [List.length_map, r.length]; exact Nat.le_of_not_lt hi), List.length_map, List.getElem?_replicate_of_lt (by rw [r.length]; exact hb)]
  inj := fun i j a qs rs e1 _ _ _ => by
    unfold ev0 at e1
    by_cases hi : i < ps.length
    · rw [List.getElem?_append_left (by rw [List.length_map]; exact hi), List.getElem?_map, List.getElem?_eq_getElem hi] at e1
      cases e1
    · rw [List.getElem?_append_right (by rw [List.length_map]; exact Nat.le_of_not_lt hi)] at e1
      have hb := (List.getElem?_eq_some_iff.mp e1).1
      rw [List.length_replicate] at hb
      rw [List.getElem?_replicate_of_lt hb] at e1
      cases e1
  dom := d
  same := Same.refl _
theorem okN {P : Program} {w : World} {K : Fr} {mg : Str → Option Value} {base : Heap} {x qual : Str} {st : Stmt} {f : Addr} {fd : FuncData} {N ps : List Str} {k : Nat} {sp : Sp} (F : Fun K x qual st f fd) (S : FnScope N ps (defScope st))
    (len : ∀ vs H Q E, sp vs H Q E → vs.length = ps.length)
    (body : ∀ (cdv : Value) (A : Around) (outer : List Env) (s : Shared) (H : Hp) (vs : List V) (Q : VK) (E : XK), Room k (A.deeper (PyProof.Rows.envOfC qual (defScope st) s.heap.objs.size f cdv)) → sp vs H Q E →
      ∃ t, PSs (cxOf (L2N.CX P w) P w K mg base N qual (defScope st) f cdv A outer s H E) (defBody st) t ∧ t { nx := fun _ H' => Q V.non H', rt := Q } (start N vs) H) :
    FnOk P w K mg base (L2N.CX P w) (k + 1) f fd ps sp := by
  obtain ⟨_, _, _, _, _, _, cdv, _, _, rfl, lk, hcd⟩ := F.ex
  exact fn_of lk hcd S len fun A outer s H vs Q E hr hsp => body cdv A outer s H vs Q E hr hsp
/-- a def's body -/
theorem def_fn {P : Program} {w : World} {K : Fr} {mg : Str → Option Value} {base : Heap} {x qual : Str} {st : Stmt} {f : Addr} {fd : FuncData} {N ps : List Str} {k : Nat} {m : M Fl} (F : Fun K x qual st f fd) (S : FnScope N ps (defScope st))
    (body : ∀ (cdv : Value) (A : Around) (outer : List Env) (s : Shared) (H : Hp) (E : XK), Room k (A.deeper (PyProof.Rows.envOfC qual (defScope st) s.heap.objs.size f cdv)) →
      SB (cxOf (L2N.CX P w) P w K mg base N qual (defScope st) f cdv A outer s H E) (fun cls d _ H => E cls d H) cm (defBody st) m) (hle : ps.length ≤ N.length) :
    FnOk P w K mg base (L2N.CX P w) (k + 1) f fd ps (spP K cm (runF N.length ps.length m)) := by
  refine okN F S (fun vs H Q E h => ?_) (fun cdv A outer s H vs Q E hr h => ?_)
  · obtain ⟨G, qs, _, r, h⟩ := h
    unfold runF at h
    by_cases c : qs.length = ps.length ∧ ps.length ≤ N.length
    · rw [r.length]
      exact c.1
    · rw [if_neg c] at h; exact h.elim
  · obtain ⟨G, qs, d, r, h⟩ := h
    unfold runF at h
    by_cases c : qs.length = ps.length ∧ ps.length ≤ N.length
    · rw [if_pos c] at h
      refine ⟨_, sSs_ps, ?_⟩
      have er := start_er (N := N) d r (by rw [c.1]; exact c.2)
      refine (body cdv A outer s H E hr).go (F0 := G) ⟨er, fun _ h => h, fun _ h => .inl h⟩ ?_
      unfold runB at h
      unfold Ws
      cases e : m (ev0 N.length qs) with
      | ok fl ev1 =>
        cases fl with
        | nx =>
          simp only [e] at h
          intro F' σ' H' a
          refine h F' .non H' a.bs.er.same a.bs.sub a.bs.base a.bs.er.dom ?_
          show Rep K F' H' .non .non
          exact rep_non
        | rt r =>
          simp only [e] at h
          intro v H' ⟨F', h1, h2, h3, h4, h5⟩
          exact h F' v H' h4 h1 h2 h3 h5
        | bk => simp only [e] at h
        | ct => simp only [e] at h
      | exc c ev1 =>
        simp only [e] at h
        intro F' σ' H' a
        exact h H' a.bs.er.same
      | bad => simp only [e] at h
    · rw [if_neg c] at h; exact h.elim
/-- a def's body -/
theorem def_ok {P : Program} {w : World} {K : Fr} {mg : Str → Option Value} {base : Heap} {x qual : Str} {st : Stmt} {f : Addr} {fd : FuncData} {N ps : List Str} {k : Nat} {m : M Fl} (F : Fun K x qual st f fd) (S : FnScope N ps (defScope st)) (hg : mg x = some (.ref f)) (hb : Binds K fd ps [])
    (body : ∀ (cdv : Value) (A : Around) (outer : List Env) (s : Shared) (H : Hp) (E : XK), Room k (A.deeper (PyProof.Rows.envOfC qual (defScope st) s.heap.objs.size f cdv)) →
      SB (cxOf (L2N.CX P w) P w K mg base N qual (defScope st) f cdv A outer s H E) (fun cls d _ H => E cls d H) cm (defBody st) m) (hle : ps.length ≤ N.length) :
    Cal P w K mg base cm (k + 1) x (runF N.length ps.length m) :=
  ⟨f, fd, ps, def_fn F S body hle, hg, F.kp, hb⟩
end
end Pv

set_option Elab.async false
set_option linter.all false
set_option maxRecDepth 100000
namespace Pv
open PySem PySem.Spec L2
open PyProof.Rows hiding St

section
variable {X : Cx} {W : WX} {cm : CM}
/-! ### comprehensions -/
/-- the slots of its own names: as they were -/
def wipeE (ev : SL) : List Nat → SL
  | [] => ev
  | v :: vs => (wipeE ev vs).set v .no
def back (ev0 ev : SL) : List Nat → SL
  | [] => ev
  | v :: vs => (back ev0 ev vs).set v (match ev0[v]? with
    | some (.val p) => .val p
    | _ => .no)
theorem wipeE_len (ev : SL) : ∀ vs : List Nat, (wipeE ev vs).length = ev.length
  | [] => rfl
  | v :: vs => by unfold wipeE; rw [List.length_set, wipeE_len ev vs]
theorem ER.weaken {K : Fr} {F : FS} {H0 H : Hp} {ev ev' : SL} {σ σ' : St} (r : ER K F H0 ev σ H) (hl : ev'.length = ev.length) (hs : σ'.length = σ.length)
    (h : ∀ (i : Nat) s, ev'[i]? = some s → s = .no ∨ (ev[i]? = some s ∧ σ'[i]? = σ[i]?)) : ER K F H0 ev' σ' H where
  len := by rw [hl, hs, r.len]
  slot := fun i s e => by
    rcases h i s e with rfl | ⟨e1, e2⟩
    · have : i < σ'.length := by rw [hs, ← r.len, ← hl]; exact (List.getElem?_eq_some_iff.mp e).1
      exact ⟨_, List.getElem?_eq_getElem this, trivial⟩
    · obtain ⟨o, e3, q⟩ := r.slot i s e1
      exact ⟨o, by rw [e2]; exact e3, q⟩
  inj := fun i j a ps qs e1 e2 s1 s2 => by
    rcases h i _ e1 with z | ⟨f1, g1⟩
    · cases z
    rcases h j _ e2 with z | ⟨f2, g2⟩
    · cases z
    exact r.inj i j a ps qs f1 f2 (by rw [← g1]; exact s1) (by rw [← g2]; exact s2)
  dom := r.dom
  same := r.same
theorem wipeE_get {ev : SL} {i : Nat} {s : Slot} : ∀ {vs : List Nat}, (wipeE ev vs)[i]? = some s → s = .no ∨ (ev[i]? = some s ∧ i ∉ vs)
  | [], h => .inr ⟨h, by simp⟩
  | v :: vs, h => by
    unfold wipeE at h
    rcases getElem?_set_some h with ⟨_, e⟩ | ⟨ne, e⟩
    · exact .inl e
    · rcases wipeE_get e with e | ⟨e1, e2⟩
      · exact .inl e
      · exact .inr ⟨e1, fun z => by
          rcases List.mem_cons.mp z with z | z
          · exact ne z.symm
          · exact e2 z⟩
theorem wipe_get {σ : St} {i : Nat} : ∀ {vs : List Nat}, i ∉ vs → (wipe σ vs)[i]? = σ[i]?
  | [], _ => rfl
  | v :: vs, h => by
    unfold wipe
    rw [List.getElem?_set_ne (fun z => h (by rw [z]; exact List.mem_cons_self))]
    exact wipe_get fun z => h (List.mem_cons_of_mem _ z)
theorem ER.wiped {K : Fr} {F : FS} {H0 H : Hp} {ev : SL} {σ : St} (r : ER K F H0 ev σ H) (vs : List Nat) : ER K F H0 (wipeE ev vs) (wipe σ vs) H :=
  r.weaken (wipeE_len ev vs) (wipe_length σ vs) fun i s e => by
    rcases wipeE_get e with e | ⟨e1, e2⟩
    · exact .inl e
    · exact .inr ⟨e1, wipe_get e2⟩
/-- one turn: the item, the tests, the element -/
def turn (t : PV → SL → Option SL) (mt : M Bool) (me : M RV) (p : PV) : M (Option PV) := fun ev => match t p ev with
  | none => .bad
  | some ev1 => bnd mt (fun k => if k then bnd me fun r => ret (some r.1) else ret none) ev1
def compr (t : PV → SL → Option SL) (mt : M Bool) (me : M RV) (vs : List Nat) : List PV → List PV → M (List PV)
  | acc, [] => ret acc
  | acc, p :: ps => fun ev => match turn t mt me p ev with
    | .ok (some q) ev1 => if acc.length < SZ then compr t mt me vs (acc ++ [q]) ps (wipeE ev1 vs) else .bad
    | .ok none ev1 => compr t mt me vs acc ps (wipeE ev1 vs)
    | _ => .bad
def mComp (mi : M (List PV)) (t : PV → SL → Option SL) (mt : M Bool) (me : M RV) (vs : List Nat) : M RV := bnd mi fun ps ev1 => match compr t mt me vs [] ps (wipeE ev1 vs) with
  | .ok qs ev2 => .ok (.lst qs, true) (back ev1 ev2 vs)
  | _ => .bad
/-- the block's context, whatever it is -/
abbrev Blk (X : Cx) (scope : Scope) (P : Cx → Prop) : Prop := ∀ (s : Shared) (H : Hp) (C : Addr) (cl : List (Str × Addr)) (fp : List Addr), P (X.blk s H scope (compEnvC scope cl C X.env) fp)
abbrev W0 : WX := fun _ _ _ _ => False
/-- tests of a comprehension -/
structure STs (X : Cx) (W : WX) (cm : CM) (es : List Expr) (m : M Bool) : Prop where
  go : ∀ {F : FS} {H0 H : Hp} {ev : SL} {σ : St} {Q : Bool → Hp → Prop}, ER X.K F H0 ev σ H → (Wt X.K W cm F H0 ev σ H m fun b _ _ H' => Q b H') → ∃ t, PTs X es t ∧ t σ H Q
theorem ts_nil : STs X W cm [] (ret true) := ⟨fun {F H0 H ev σ Q} r h => ⟨_, pts_nil, Wt.ret (P := fun b _ _ H' => Q b H') r h⟩⟩
theorem ts_one {c : Expr} {m : M Bool} (s : ST X W cm c m) : STs X W cm [c] m := ⟨fun {F H0 H ev σ Q} r h => ⟨_, pts_one sT_pt, s.go r h⟩⟩
def sTs (X : Cx) (es : List Expr) : TT := fun σ H Q => ∃ t, PTs X es t ∧ t σ H Q
theorem sTs_pt {es : List Expr} : PTs X es (sTs X es) := ⟨fun pins s σ H Q I h => by
  obtain ⟨t, p, q⟩ := h
  exact p.run pins s σ H Q I q⟩
theorem wipe_but {js vs : List Nat} {σ σ' : St} (h : But js σ σ') (hj : ∀ j ∈ js, j ∈ vs) : wipe σ' vs = wipe σ vs := by
  have e : ∀ (vs : List Nat), (∀ j, j ∉ vs → σ'[j]? = σ[j]?) → wipe σ' vs = wipe σ vs := by
    intro vs hv
    apply List.ext_getElem?
    intro i
    by_cases hi : i ∈ vs
    · have hl : (wipe σ' vs).length = (wipe σ vs).length := by rw [wipe_length, wipe_length]; exact h.1
      have none_at : ∀ (τ : St) (vs : List Nat), i ∈ vs → i < τ.length → (wipe τ vs)[i]? = some none := by
        intro τ vs
        induction vs with
        | nil => intro z; cases z
        | cons v vs ih =>
          intro z hl
          unfold wipe
          by_cases e : v = i
          · subst e
            rw [List.getElem?_set_self (by rw [wipe_length]; exact hl)]
          · rw [List.getElem?_set_ne e]
            rcases List.mem_cons.mp z with z | z
            · exact absurd z.symm e
            · exact ih z hl
      by_cases hb : i < σ.length
      · rw [none_at σ' vs hi (by rw [h.1]; exact hb), none_at σ vs hi hb]
      · rw [List.getElem?_eq_none (by rw [wipe_length, h.1]; exact Nat.le_of_not_lt hb), List.getElem?_eq_none (by rw [wipe_length]; exact Nat.le_of_not_lt hb)]
    · rw [wipe_get hi, wipe_get hi]
      exact hv i hi
  exact e vs fun j hj' => h.2 j fun z => hj' (hj j z)
theorem wipe_wipe {σ : St} (vs : List Nat) : wipe (wipe σ vs) vs = wipe σ vs := by
  apply List.ext_getElem?
  intro i
  cases q : (wipe σ vs)[i]? with
  | none =>
    have := List.getElem?_eq_none_iff.mp q
    exact List.getElem?_eq_none (by rw [wipe_length]; exact this)
  | some o =>
    by_cases hi : i ∈ vs
    · have none_at : ∀ (τ : St) (vs : List Nat), i ∈ vs → i < τ.length → (wipe τ vs)[i]? = some none := by
        intro τ vs
        induction vs with
        | nil => intro z; cases z
        | cons v vs ih =>
          intro z hl
          unfold wipe
          by_cases e : v = i
          · subst e
            rw [List.getElem?_set_self (by rw [wipe_length]; exact hl)]
          · rw [List.getElem?_set_ne e]
            rcases List.mem_cons.mp z with z | z
            · exact absurd z.symm e
            · exact ih z hl
      have hl : i < (wipe σ vs).length := (List.getElem?_eq_some_iff.mp q).1
      rw [none_at (wipe σ vs) vs hi hl]
      rw [none_at σ vs hi (by rw [wipe_length] at hl; exact hl)] at q
      exact q
    · rw [wipe_get hi]; exact q
/-- the list D of a comprehension beside the slots -/
theorem ER.side {K : Fr} {F : FS} {H0 H : Hp} {ev : SL} {σ : St} {D : Addr} {xs : List V} (r : ER K F H0 ev σ H) (nf : ¬ F D) (h0 : H0 D = none) (no : ¬ Ow ev σ D) (hD : ∃ ys, H D = some (.lst ys)) : ER K F H0 ev σ (upd H D (.lst xs)) ∧ Keep F H (upd H D (.lst xs)) := by
  obtain ⟨ys, hy⟩ := hD
  have kp : Keep F H (upd H D (.lst xs)) := ⟨fun b zs h => by
      rw [upd_ne (fun z => by rw [z, hy] at h; cases h)]; exact h, fun b o u h => by
      rw [upd_ne (fun z => by rw [z, hy] at h; cases h)]; exact h, fun b o f h => by
      rw [upd_ne (fun z => by rw [z] at f; exact nf f)]; exact h⟩
  refine ⟨⟨r.len, fun i sl e => ?_, r.inj, fun b f z => ?_, fun b o h => ?_⟩, kp⟩
  · obtain ⟨o, e1, q⟩ := r.slot i sl e
    refine ⟨o, e1, ?_⟩
    cases sl with
    | no => trivial
    | val p =>
      obtain ⟨v, e2, q⟩ := q
      exact ⟨v, e2, Rep.mono kp (fun _ h => h) p q⟩
    | own ps =>
      obtain ⟨a, zs, e2, e3, q, nf', e4⟩ := q
      refine ⟨a, zs, e2, ?_, RepL.mono kp (fun _ h => h) ps q, nf', e4⟩
      rw [upd_ne (fun w => by
        subst w
        exact no ⟨i, ps, e, by rw [e1, e2]⟩)]
      exact e3
  · by_cases w : b = D
    · subst w; exact nf f
    · rw [upd_ne w] at z
      exact r.dom b f z
  · have w : b ≠ D := fun w => by
      rw [w, h0] at h; cases h
    rw [upd_ne w]
    exact r.same b o h
def cG (X : Cx) (scope : Scope) (tg : Expr) : TG := fun v σ H Q => ∀ (s : Shared) (H1 : Hp) (C : Addr) (cl : List (Str × Addr)) (fp : List Addr), sG (X.blk s H1 scope (compEnvC scope cl C X.env) fp) tg v σ H Q
def cT (X : Cx) (scope : Scope) (ifs : List Expr) : TT := fun σ H Q => ∀ (s : Shared) (H1 : Hp) (C : Addr) (cl : List (Str × Addr)) (fp : List Addr), sTs (X.blk s H1 scope (compEnvC scope cl C X.env) fp) ifs σ H Q
def cE (X : Cx) (scope : Scope) (elt : Expr) : TE := fun σ H Q => ∀ (s : Shared) (H1 : Hp) (C : Addr) (cl : List (Str × Addr)) (fp : List Addr), sE (X.blk s H1 scope (compEnvC scope cl C X.env) fp) elt σ H Q
theorem comp_core {elt tg : Expr} {ifs : List Expr} {scope : Scope} {vs js : List Nat} {mi : M (List PV)} {t : PV → SL → Option SL} {mt : M Bool} {me : M RV} {wi : TI}
    (hg : Blk X scope fun Y => SG Y W0 tg t js) (ht : Blk X scope fun Y => STs Y W0 cm ifs mt) (he : Blk X scope fun Y => SE Y W0 cm elt me) (hj : ∀ j ∈ js, j ∈ vs)
    (hwi : ∀ {F : FS} {H0 H : Hp} {ev : SL} {σ : St} {R : It → Hp → Prop}, ER X.K F H0 ev σ H → (Wt X.K W cm F H0 ev σ H mi fun ps ev' F' H' => ∀ J F2, Aft X.K F H0 ev ev' σ H F2 H' → (∀ a, F' a → F2 a) → ItOk X.K F2 H' J ps → R J H') → wi σ H R)
    {F : FS} {H0 H : Hp} {ev : SL} {σ : St} {Q : VK} (r : ER X.K F H0 ev σ H)
    (h : Wt X.K W cm F H0 ev σ H (mComp mi t mt me vs) fun r ev' F' H' => ∀ v, ResR X.K F' H0 ev' σ H H' r v → Q v H') :
    tLc wi (cG X scope tg)
      (cT X scope ifs)
      (cE X scope elt) vs σ H Q := by
  refine hwi r ?_
  unfold Wt
  unfold Wt mComp Pv.bnd at h
  cases em : mi ev with
  | bad => simp only [em] at h
  | exc c ev1 => simp only [em] at h; exact h
  | ok ps ev1 =>
  simp only [em] at h
  intro F1 H1 _ J F2 a2 _ it D hD
  cases eq : compr t mt me vs [] ps (wipeE ev1 vs) with
  | bad => simp only [eq] at h
  | exc c evf => simp only [eq] at h
  | ok qs evf =>
  simp only [eq] at h
  have hD0 : H0 D = none := a2.er.same.free hD
  have nFD : ¬ F2 D := fun f => a2.er.dom D f hD
  have nOD : ¬ Ow ev1 σ D := fun o => by
    obtain ⟨_, _, xs, e⟩ := a2.er.ow o
    rw [hD] at e; cases e
  have owW : ∀ a, Ow (wipeE ev1 vs) (wipe σ vs) a → Ow ev1 σ a := fun a ⟨i, zs, e1, e2⟩ => by
    rcases wipeE_get e1 with z | ⟨z, n⟩
    · cases z
    · exact ⟨i, zs, z, by rw [← wipe_get n]; exact e2⟩
  refine ⟨fun i n H' => n = ps.length - i ∧ i ≤ ps.length ∧ ∃ F' ev' acc accV, ER X.K F' H0 ev' (wipe σ vs) H' ∧ (∀ a, F2 a → F' a) ∧ Same H1 H' ∧ ¬ F' D ∧ H' D = some (.lst accV) ∧ RepL X.K F' H' accV acc ∧
    (∀ a, F' a → F2 a ∨ H1 a = none ∨ Ow (wipeE ev1 vs) (wipe σ vs) a) ∧ (∀ a, Ow ev' (wipe σ vs) a → Ow (wipeE ev1 vs) (wipe σ vs) a) ∧ compr t mt me vs acc (ps.drop i) ev' = .ok qs evf, ?_, ?_⟩
  · exact ⟨ps.length, by simp, Nat.zero_le _, F2, wipeE ev1 vs, [], [], (a2.er.wiped vs).later (same_upd hD), fun _ h => h, same_upd hD, nFD, upd_same, RepL.nil, fun _ h => .inl h, fun _ h => h, eq⟩
  · rintro i n H' ⟨rfl, hi, F', ev', acc, accV, er, f2, s1, nF, hDl, ra, gr, ow, hc⟩
    by_cases e : i = ps.length
    · refine .inl ⟨(it i F' H' f2 (.of s1)).1 e, ?_⟩
      rw [e, List.drop_length] at hc
      unfold compr Pv.ret at hc
      have e8 : acc = qs := by injection hc
      have e9 : ev' = evf := by injection hc
      rw [← e8, ← e9] at h
      have backlen : ∀ vs : List Nat, (back ev1 ev' vs).length = ev'.length := by
        intro vs
        induction vs with
        | nil => rfl
        | cons v vs ih => unfold back; rw [List.length_set, ih]
      have backget : ∀ (vs : List Nat) (i : Nat) (s : Slot), (back ev1 ev' vs)[i]? = some s → (i ∉ vs ∧ ev'[i]? = some s) ∨ s = .no ∨ ∃ p, s = .val p ∧ ev1[i]? = some (.val p) := by
        intro vs
        induction vs with
        | nil => intro i s h; exact .inl ⟨by simp, h⟩
        | cons v vs ih =>
          intro i s h
          unfold back at h
          rcases getElem?_set_some h with ⟨z, e⟩ | ⟨ne, e⟩
          · subst z
            split at e
            · rename_i p hp; exact .inr (.inr ⟨p, e, hp⟩)
            · exact .inr (.inl e)
          · rcases ih i s e with ⟨z1, z2⟩ | z
            · exact .inl ⟨fun z => (List.mem_cons.mp z).elim (fun z => ne z.symm) z1, z2⟩
            · exact .inr z
      have ow1 : ∀ a, Ow (back ev1 ev' vs) σ a → Ow ev' (wipe σ vs) a := fun a ⟨i, zs, e1, e2⟩ => by
        rcases backget vs i _ e1 with ⟨z1, z2⟩ | z | ⟨p, z, _⟩
        · exact ⟨i, zs, z2, by rw [wipe_get z1]; exact e2⟩
        · cases z
        · cases z
      have erB : ER X.K F' H0 (back ev1 ev' vs) σ H' := by
        refine ⟨by rw [backlen, er.len, wipe_length], fun i s e => ?_, fun i j a us ws e1 e2 s1 s2 => ?_, er.dom, er.same⟩
        · rcases backget vs i s e with ⟨z1, z2⟩ | z | ⟨p, z, z2⟩
          · obtain ⟨o, e1, q⟩ := er.slot i s z2
            exact ⟨o, by rw [← wipe_get z1]; exact e1, q⟩
          · subst z
            have : i < σ.length := by
              have h1 := (List.getElem?_eq_some_iff.mp e).1
              rw [backlen, er.len, wipe_length] at h1
              exact h1
            exact ⟨_, List.getElem?_eq_getElem this, trivial⟩
          · subst z
            obtain ⟨o, e1, v, e2, q⟩ := a2.er.slot i _ z2
            exact ⟨o, e1, v, e2, Rep.mono (.of s1) f2 p q⟩
        · rcases backget vs i _ e1 with ⟨z1, z2⟩ | z | ⟨p, z, _⟩
          · rcases backget vs j _ e2 with ⟨y1, y2⟩ | y | ⟨p, y, _⟩
            · exact er.inj i j a us ws z2 y2 (by rw [wipe_get z1]; exact s1) (by rw [wipe_get y1]; exact s2)
            · cases y
            · cases y
          · cases z
          · cases z
      refine h F' H' ⟨fun a h => f2 a (a2.sub a h), fun a h => ?_, a2.same.trans s1, erB, fun a h => a2.ow a (owW a (ow a (ow1 a h)))⟩ (.ref D) ⟨D, accV, acc, rfl, rfl, hDl, ra, nF, a2.same.free hD, fun o => nOD (owW D (ow D (ow1 D o)))⟩
      rcases gr a h with h | h | h
      · exact a2.grow a h
      · exact .inr (.inl (a2.same.free h))
      · exact .inr (.inr (a2.ow a (owW a h)))
    · have hlt : i < ps.length := by omega
      have ed : ps.drop i = ps[i] :: ps.drop (i + 1) := List.drop_eq_getElem_cons hlt
      rw [ed] at hc
      obtain ⟨go, yl⟩ := (it i F' H' f2 (.of s1)).2 ps[i] (List.getElem?_eq_getElem hlt)
      refine .inr ⟨go, fun H3 => ∃ F3 ev3 acc3 accV3, ER X.K F3 H0 ev3 (wipe σ vs) H3 ∧ (∀ a, F2 a → F3 a) ∧ Same H1 H3 ∧ ¬ F3 D ∧ H3 D = some (.lst accV3) ∧ RepL X.K F3 H3 accV3 acc3 ∧
        (∀ a, F3 a → F2 a ∨ H1 a = none ∨ Ow (wipeE ev1 vs) (wipe σ vs) a) ∧ (∀ a, Ow ev3 (wipe σ vs) a → Ow (wipeE ev1 vs) (wipe σ vs) a) ∧ compr t mt me vs acc3 (ps.drop (i + 1)) ev3 = .ok qs evf, fun H3 q => ⟨_, by omega, rfl, hlt, q⟩, fun x H4 y => ?_⟩
      obtain ⟨s4, r4⟩ := yl x H4 y
      unfold compr turn at hc
      cases e1 : t ps[i] ev' with
      | none => simp only [e1] at hc; cases hc
      | some ev2 =>
      simp only [e1] at hc
      have er4 := er.later s4
      intro s H9 C cl fp pins st u I ru
      refine (hg s H9 C cl fp).go (F0 := F') ⟨er4, fun _ h => h, fun _ h => .inl h⟩ r4 e1 (fun σ2 a5 bt ho => ?_) pins st u I ru
      have er5 : ER X.K F' H0 ev2 σ2 H4 := a5.bs.er
      have wσ : wipe σ2 vs = wipe σ vs := (wipe_but bt hj).trans (wipe_wipe vs)
      refine ⟨wσ, fun s H9 C cl fp => ?_⟩
      unfold Pv.bnd at hc
      cases e2 : mt ev2 with
      | bad => simp only [e2] at hc; cases hc
      | exc c ev3 => simp only [e2] at hc; cases hc
      | ok k ev3 =>
      simp only [e2] at hc
      refine (ht s H9 C cl fp).go er5 ?_
      unfold Wt
      rw [e2]
      intro F5 H5 a6
      have s5 : Same H1 H5 := s1.trans (s4.trans a6.same)
      have d5 : H5 D = some (.lst accV) := a6.same _ _ (s4 _ _ hDl)
      have oD : ∀ {a}, Ow ev2 σ2 a → Ow (wipeE ev1 vs) (wipe σ vs) a := fun {a} o => ow a (ho a o)
      have nO : ¬ Ow ev2 σ2 D := fun o => nOD (owW D (oD o))
      have nF5 : ¬ F5 D := fun f => by
        rcases a6.grow D f with z | z | z
        · exact nF z
        · rw [s4 _ _ hDl] at z; cases z
        · exact nO z
      have gr5 : ∀ a, F5 a → F2 a ∨ H1 a = none ∨ Ow (wipeE ev1 vs) (wipe σ vs) a := fun a f => by
        rcases a6.grow a f with z | z | z
        · exact gr a z
        · exact .inr (.inl (s1.free (s4.free z)))
        · exact .inr (.inr (oD z))
      have f5 : ∀ a, F2 a → F5 a := fun a f => a6.sub a (f2 a f)
      have ra5 : RepL X.K F5 H5 accV acc := RepL.mono (.of (s4.trans a6.same)) a6.sub acc ra
      have owE : ∀ {ev7 : SL} a, Ow (wipeE ev7 vs) (wipe σ vs) a → (∀ a, Ow ev7 σ2 a → Ow ev2 σ2 a) → Ow (wipeE ev1 vs) (wipe σ vs) a := fun {ev7} a ⟨i, zs, z1, z2⟩ hh => by
        rcases wipeE_get z1 with z | ⟨z, n⟩
        · cases z
        · refine oD (hh a ⟨i, zs, z, ?_⟩)
          rw [← wσ, wipe_get n] at z2
          exact z2
      cases k with
      | false =>
        simp only [Bool.false_eq_true, if_false, Pv.ret] at hc
        refine iteF ⟨F5, wipeE ev3 vs, acc, accV, ?_, f5, s5, nF5, d5, ra5, gr5, fun a o => owE a o a6.ow, hc⟩
        rw [← wσ]
        exact a6.er.wiped vs
      | true =>
        simp only [if_true] at hc
        refine iteT ?_
        intro s H9 C cl fp
        cases e3 : me ev3 with
        | bad => simp only [e3] at hc; cases hc
        | exc c ev4 => simp only [e3] at hc; cases hc
        | ok z ev4 =>
        simp only [e3, Pv.ret] at hc
        refine (he s H9 C cl fp).go a6.er ?_
        unfold Wt
        rw [e3]
        intro F6 H6 a7 v rv
        obtain ⟨F7, a8, r8, _⟩ := rv.share a7
        by_cases hz : acc.length < SZ
        · rw [if_pos hz] at hc
          have d6 : H6 D = some (.lst accV) := a8.same _ _ d5
          have nF7 : ¬ F7 D := fun f => by
            rcases a8.grow D f with z | z | z
            · exact nF5 z
            · rw [d5] at z; cases z
            · exact nO (a6.ow D z)
          have ra7 : RepL X.K F7 H6 accV acc := RepL.mono (.of a8.same) a8.sub acc ra5
          have erW : ER X.K F7 H0 (wipeE ev4 vs) (wipe σ vs) H6 := by
            rw [← wσ]
            exact a8.er.wiped vs
          have noW : ¬ Ow (wipeE ev4 vs) (wipe σ vs) D := fun o => nOD (owW D (owE D o fun a o => a6.ow a (a8.ow a o)))
          obtain ⟨erD, kD⟩ := erW.side (xs := accV ++ [v]) nF7 hD0 noW ⟨_, d6⟩
          refine ⟨accV, d6, by rw [ra7.length]; exact hz, F7, wipeE ev4 vs, acc ++ [z.1], accV ++ [v], erD, fun a f => a8.sub a (f5 a f), fun b o hb => ?_, nF7, upd_same, RepL.mono kD (fun _ h => h) _ (ra7.append (RepL.cons r8 RepL.nil)), fun a f => ?_, fun a o => owE a o fun a o => a6.ow a (a8.ow a o), hc⟩
          · rw [upd_ne (ne_of_none hb hD)]
            exact a8.same _ _ (s5 _ _ hb)
          · rcases a8.grow a f with z | z | z
            · exact gr5 a z
            · exact .inr (.inl (s5.free z))
            · exact .inr (.inr (oD (a6.ow a z)))
        · rw [if_neg hz] at hc; cases hc
/-- [e for x in xs if t] as a value -/
theorem e_comp {elt tg iter : Expr} {ifs : List Expr} {scope : Scope} {own : List (Str × Nat)} {pos : Pos} {js : List Nat} {mi : M (List PV)} {t : PV → SL → Option SL} {mt : M Bool} {me : M RV} (hc : X.calm = true) (hNd : X.N.Nodup) (ok : BlkOk X.N X.env.scope scope own)
    (si : SI X W cm tg iter mi) (hg : Blk X scope fun Y => SG Y W0 tg t js) (ht : Blk X scope fun Y => STs Y W0 cm ifs mt) (he : Blk X scope fun Y => SE Y W0 cm elt me) (hj : ∀ j ∈ js, j ∈ own.map (·.2) := by decide)
    (hs : ∀ x, foldedSetIterable iter X.env x = pure x := by intro _; rfl) : SE X W cm (.ListComp elt [⟨tg, iter, ifs, 0⟩] scope pos) (mComp mi t mt me (own.map (·.2))) := .mk' fun F H0 H ev σ Q r h => by
  obtain ⟨wi, hpi, hwi⟩ := si.ex
  refine sE_of (pe_lc (g := cG X scope tg) (tt := cT X scope ifs) (te := cE X scope elt) hc hNd hpi ok (fun s H C cl fp => ⟨fun pins s' σ H' v u Q' I ru q => q s H C cl fp pins s' u I ru⟩)
    (fun s H C cl fp => ⟨fun pins s' σ H' Q' I q => sTs_pt.run pins s' σ H' Q' I (q s H C cl fp)⟩)
    (fun s H C cl fp => ⟨fun pins s' σ H' Q' I q => q s H C cl fp pins s' I⟩) hs) ?_
  exact comp_core hg ht he hj hwi r h
/-- y = [e for x in xs if t] -/
theorem s_setComp {i : Nat} {y : Str} {py : Pos} {elt tg iter : Expr} {ifs : List Expr} {scope : Scope} {own : List (Str × Nat)} {pos spos : Pos} {js : List Nat} {mi : M (List PV)} {t : PV → SL → Option SL} {mt : M Bool} {me : M RV} (hc : X.calm = true) (hNd : X.N.Nodup)
    (hsw : swapsWith (.ListComp elt [⟨tg, iter, ifs, 0⟩] scope pos) (some (.Name y py)) spos.line X.env = pure true) (ok : BlkOk X.N X.env.scope scope own)
    (si : SI X W cm tg iter mi) (hg : Blk X scope fun Y => SG Y W0 tg t js) (ht : Blk X scope fun Y => STs Y W0 cm ifs mt) (he : Blk X scope fun Y => SE Y W0 cm elt me) (hj : ∀ j ∈ js, j ∈ own.map (·.2) := by decide)
    (hy : X.N[i]? = some y := by rfl) (hyl : X.env.scope.names.lookup y = some .local := by rfl)
    (hs : ∀ x, foldedSetIterable iter X.env x = pure x := by intro _; rfl) : SS X W cm (.Assign [.Name y py] (.ListComp elt [⟨tg, iter, ifs, 0⟩] scope pos) spos) (bnd (mComp mi t mt me (own.map (·.2))) (setR i)) := ⟨fun {F0 F H0 H ev σ D} b h => by
  obtain ⟨wi, hpi, hwi⟩ := si.ex
  refine sS_of (ps_setLc (g := cG X scope tg) (tt := cT X scope ifs) (te := cE X scope elt) hc hNd hy hyl hsw hpi ok (fun s H C cl fp => ⟨fun pins s' σ H' v u Q' I ru q => q s H C cl fp pins s' u I ru⟩)
    (fun s H C cl fp => ⟨fun pins s' σ H' Q' I q => sTs_pt.run pins s' σ H' Q' I (q s H C cl fp)⟩)
    (fun s H C cl fp => ⟨fun pins s' σ H' Q' I q => q s H C cl fp pins s' I⟩) hs) ?_
  refine comp_core hg ht he hj hwi b.er ((h.expr b).mono fun r ev1 F1 H1 a hh v rv => ?_)
  obtain ⟨ev', e1⟩ := setR_nx hh.2.not_bad
  exact hh.2.nx e1 ((b.aft a).bs.set b.er.same rv e1)⟩
end
end Pv

set_option Elab.async false
set_option linter.all false
set_option maxRecDepth 100000
namespace Pv
open PySem PySem.Spec L2
open PyProof.Rows hiding St

section
variable {X : Cx} {W : WX} {cm : CM}
/-! ### isinstance(x, T), T a built-in type -/
def tyP : PV → Option String
  | .non => some "NoneType" | .bl _ => some "bool" | .int _ => some "int" | .str _ => some "str" | .tup _ => some "tuple" | .lst _ => some "list"
  | _ => none
theorem RepT.ty {K : Fr} {F : FS} {H : Hp} {v : V} {p : PV} {t : String} (r : RepT K F H v p) (e : tyP p = some t) : TyX K H v (.type t) := by
  cases p with
  | non => cases e; have r' : v = .non := r; subst r'; exact .base .non
  | bl b => cases e; have r' : v = .bl b := r; subst r'; exact .base (.bl b)
  | int b => cases e; have r' : v = .int b := r; subst r'; exact .base (.int b)
  | str b => cases e; have r' : v = .str b := r; subst r'; exact .base (.str b)
  | lst ps =>
    cases e
    obtain ⟨a, xs, rfl, h, _⟩ := r
    exact .base (.lst h)
  | tup ps =>
    cases e
    have r' : Rep K F H v (.tup ps) := r
    unfold Rep at r'
    obtain ⟨a, xs, rfl, h, _⟩ := r'
    rcases h with ⟨o, h, _⟩ | ⟨o, its, n, h1, h2, _⟩
    · exact .fTuple h
    · exact .kTuple h1 h2
  | _ => cases e
def mIsi (T : String) (m : M PV) : M RV := bnd m fun p => match tyP p with
  | some t => match kitB t T with
    | some b => ret (.bl b, false)
    | none => bad
  | none => bad
theorem e_isi {T : String} {x : Str} {e : Expr} {m : M PV} {p p2 pos : Pos} (hm : X.mg "isinstance" = none) (hmT : X.mg x = none) (hvT : bootBuiltins x = some (.type T)) (s : Pv.SP X W cm e m) (hg : Gl X "isinstance" := by rfl) (hgT : Gl X x := by rfl) (hn : x ≠ "__name__" := by decide) (hd : (x == ("__debug__" : Str)) = false := by decide)
    (he : starEach [e, .Name x p2] X.env = (false, eval e X.env) :: starEach [.Name x p2] X.env := by rfl) (he2 : starEach [.Name x p2] X.env = (false, eval (.Name x p2) X.env) :: starEach [] X.env := by rfl) (hpl : (backTo pos (starEach [.Name x p2] X.env)).any (·.1) = false := by rfl) :
    SE X W cm (.Call (.Name "isinstance" p) [e, .Name x p2] [] pos) (mIsi T m) := .mk' fun F H0 H ev σ Q r h => by
  refine sE_of (pe_callB call_isi hg hm PyProof.Rows.boot_isinstance (pa_cons sE_pe (pa_cons (pe_bltn (v := .ty T) hgT hmT hvT rfl hn hd) pa_nil he2) he) (by decide) (by decide) he hpl) ?_
  refine s.go r (h.bnd.mono fun q ev1 F1 H1 a1 hh v rv => ?_)
  have h2 := hh.2
  cases e1 : tyP q with
  | none => simp only [e1] at h2; exact h2.elim
  | some t =>
    simp only [e1] at h2
    cases e2 : kitB t T with
    | none => simp only [e2] at h2; exact h2.elim
    | some b =>
      simp only [e2] at h2
      exact ⟨v, .ty T, .type t, .type T, b, rfl, .ty T, rv.ty e1, kit_ty e2, Wt.ret a1.er h2 _ res_bl⟩
/-! ### e is an exception that is handled: isinstance(e, C) -/
def mIsE (i : Nat) (b : Bool) (a : Addr) : M RV := fun ev => match ev[i]? with
  | some (.val (.opq v)) => if v = .ref a then .ok (.bl b, false) ev else .bad
  | _ => .bad
/-- the class named, as a value -/
inductive ClsN (X : Cx) (x : Str) : Value → Prop where
  | own (C : Addr) : X.mg x = some (.ref C) → ClsN X x (.ref C)
  | ty (T : String) : X.mg x = none → bootBuiltins x = some (.type T) → x ≠ "__name__" → ClsN X x (.type T)
theorem ClsN.pe {x : Str} {c : Value} {p : Pos} (k : ClsN X x c) (hg : Gl X x) (hd : (x == ("__debug__" : Str)) = false) : ∃ v, PE X (.Name x p) (tC v) ∧ ∀ u, RelV v u → u = c := by
  cases k with
  | own C hm => exact ⟨.ref C, pe_glob hg hm rfl hd, fun u r => r⟩
  | ty T hm hv hn => exact ⟨.ty T, pe_bltn hg hm hv rfl hn hd, fun u r => r⟩
theorem e_isE {a D : Addr} {oe : Obj} {pn : List (Addr × Obj)} {i : Nat} {n x : Str} {cv : Value} {b : Bool} {p p1 p2 pos : Pos} (C : ExcC X.K D) (hz : Zc (.ref D) none oe) (hf : ∃ vs, oe.data = .fields vs) (hm : X.mg "isinstance" = none) (hc : ClsN X x cv) (hk : PySem.W.kitOne X.K (.ref D) cv = some b)
    (hi : X.N[i]? = some n := by rfl) (hv : Vis X.env.scope n := by first | exact Or.inl rfl | exact Or.inr (Or.inl rfl) | exact Or.inr (Or.inr rfl)) (hdn : (n == ("__debug__" : Str)) = false := by decide) (hcd : (n == ("__classdict__" : Str)) = false := by decide)
    (hg : Gl X "isinstance" := by rfl) (hgC : Gl X x := by rfl) (hd : (x == ("__debug__" : Str)) = false := by decide)
    (he : starEach [.Name n p1, .Name x p2] X.env = (false, eval (.Name n p1) X.env) :: starEach [.Name x p2] X.env := by rfl) (he2 : starEach [.Name x p2] X.env = (false, eval (.Name x p2) X.env) :: starEach [] X.env := by rfl) (hpl : (backTo pos (starEach [.Name x p2] X.env)).any (·.1) = false := by rfl) :
    SE (X.suite a ((a, oe) :: pn)) W cm (.Call (.Name "isinstance" p) [.Name n p1, .Name x p2] [] pos) (mIsE i b a) := .mk' fun F H0 H ev σ Q r h => by
  have hcS : ClsN (X.suite a ((a, oe) :: pn)) x cv := by
    cases hc with
    | own C hm => exact .own C hm
    | ty T hm hv hn => exact .ty T hm hv hn
  obtain ⟨cV, hp, hu⟩ := hcS.pe (p := p2) hgC hd
  refine sE_of (pe_callB (X := X.suite a ((a, oe) :: pn)) (call_isE C hz hf) hg hm PyProof.Rows.boot_isinstance (pa_cons (pe_var hi hv hdn hcd) (pa_cons hp pa_nil he2) he) (by decide) (by decide) he hpl) ?_
  unfold Wt mIsE at h
  cases e : ev[i]? with
  | none => simp only [e] at h
  | some sl =>
    cases sl with
    | no => simp only [e] at h
    | own ps => simp only [e] at h
    | val q =>
      cases q with
      | opq v =>
        simp only [e] at h
        by_cases c : v = .ref a
        · simp only [if_pos c] at h
          obtain ⟨o, e1, w, rfl, q⟩ := r.slot i _ e
          unfold Rep at q
          refine ⟨w, e1, cV, cv, b, by rw [q, c], hu, hk, ?_⟩
          exact h F H r.aft _ res_bl
        · simp only [if_neg c] at h
      | _ => simp only [e] at h

/-! ### a dict of the module, its keys written texts -/
/-- the dict at x: what it says of a text -/
structure KD (X : Cx) (x : Str) (d : Str → Option Int) : Prop where
  ex : ∃ (a : Addr) (es : Array DictEntry) (n : Nat), X.mg x = some (.ref a) ∧ KDict X.K X.w a es n ∧ ∀ z : Str, (d z = none → PySem.W.nsIn X.K a z = some none) ∧ ∀ i, d z = some i → ∃ t, PySem.W.nsIn X.K a z = some (some (.int i t))
def mKdIn (neg : Bool) (d : Str → Option Int) (m : M PV) : M RV := bnd m fun p => match p with
  | .str z => ret (.bl (xor neg (d z).isSome), false)
  | _ => bad
theorem e_kdIn {x : Str} {d : Str → Option Int} {e : Expr} {m : M PV} {p pos : Pos} (k : KD X x d) (s : Pv.SP X W cm e m) (hg : Gl X x := by rfl) (hd : (x == ("__debug__" : Str)) = false := by decide) : SE X W cm (.Compare e [.In] [.Name x p] pos) (mKdIn false d m) := .mk' fun F H0 H ev σ Q r h => by
  obtain ⟨a, es, n, hm, K, hz⟩ := k.ex
  refine sE_of (pe_cmpR (op_in_kd K) sE_pe (pe_glob (v := .ref a) hg hm rfl hd) rfl) ?_
  refine s.go r (h.bnd.mono fun q ev1 F1 H1 a1 hh v rv => ?_)
  have h2 := hh.2
  cases q with
  | str z =>
    have e1 : v = .str z := rv
    cases e2 : d z with
    | none =>
      have h3 := Wt.ret a1.er h2 (.bl (xor false (d z).isSome)) res_bl
      rw [e2] at h3
      exact ⟨z, none, e1, rfl, (hz z).1 e2, h3⟩
    | some i =>
      obtain ⟨t, e3⟩ := (hz z).2 i e2
      have h3 := Wt.ret a1.er h2 (.bl (xor false (d z).isSome)) res_bl
      rw [e2] at h3
      exact ⟨z, _, e1, rfl, e3, h3⟩
  | _ => exact h2.elim
theorem t_kdNotIn {x : Str} {d : Str → Option Int} {e : Expr} {m : M PV} {p pos : Pos} (k : KD X x d) (s : Pv.SP X W cm e m) (hg : Gl X x := by rfl) (hd : (x == ("__debug__" : Str)) = false := by decide) : ST X W cm (.Compare e [.NotIn] [.Name x p] pos) (blOf (mKdIn true d m)) := .mk' fun F H0 H ev σ Q r h => by
  obtain ⟨a, es, n, hm, K, hz⟩ := k.ex
  refine sT_of (pt_cmpR (op_notIn_kd K) sE_pe (pe_glob (v := .ref a) hg hm rfl hd) rfl) ?_
  refine s.go r (h.bnd.bnd.mono fun q ev1 F1 H1 a1 hh v rv => ?_)
  have h2 := hh.2
  cases q with
  | str z =>
    have e1 : v = .str z := rv
    have h3 := (Wt.ret (P := fun (r : RV) ev' F' H' => Aft X.K F H0 ev ev' σ H F' H' ∧ Wt X.K W cm F' H0 ev' σ H' (match r.1 with
      | .bl b => ret b
      | _ => bad) fun b _ _ H' => Q b H') a1.er h2).2
    have h4 := Wt.ret (P := fun b _ _ H' => Q b H') a1.er h3
    cases e2 : d z with
    | none =>
      rw [e2] at h4
      exact ⟨z, none, e1, rfl, (hz z).1 e2, true, rfl, h4⟩
    | some i =>
      obtain ⟨t, e3⟩ := (hz z).2 i e2
      rw [e2] at h4
      exact ⟨z, _, e1, rfl, e3, false, rfl, h4⟩
  | _ => exact h2.elim
end
end Pv

set_option Elab.async false
set_option linter.all false
set_option maxRecDepth 100000
namespace Pv
open PySem PySem.Spec L2
open PyProof.Rows hiding St

section
variable {X : Cx} {W : WX} {cm : CM}
/-! ### D[k], D a dict of the module -/
def mKdIx (d : Str → Option Int) (m : M PV) : M RV := bnd m fun p => match p with
  | .str z => match d z with
    | some i => ret (.int i, false)
    | none => bad
  | _ => bad
theorem e_kdIx {x : Str} {d : Str → Option Int} {e : Expr} {m : M PV} {p pos : Pos} (k : KD X x d) (s : Pv.SP X W cm e m) (hg : Gl X x := by rfl) (hd : (x == ("__debug__" : Str)) = false := by decide) (hs : PlainIx e := by exact fun _ _ => rfl) : SE X W cm (.Subscript (.Name x p) e pos) (mKdIx d m) := .mk' fun F H0 H ev σ Q r h => by
  obtain ⟨a, es, n, hm, K, hz⟩ := k.ex
  refine sE_of (pe_ix ix_kdict (pe_glob (v := .ref a) hg hm rfl hd) sE_pe hs) ?_
  refine s.go r (h.bnd.mono fun q ev1 F1 H1 a1 hh v rv => ?_)
  have h2 := hh.2
  cases q with
  | str z =>
    have e1 : v = .str z := rv
    cases e2 : d z with
    | none => simp only [e2] at h2; exact h2.elim
    | some i =>
      simp only [e2] at h2
      obtain ⟨t, e3⟩ := (hz z).2 i e2
      exact ⟨a, z, .int i, rfl, e1, ⟨es, n, _, K.at_, K.lit, e3, ⟨t, rfl⟩⟩, Wt.ret a1.er h2 _ res_int⟩
  | _ => exact h2.elim

/-! ### tuple(range(..)), list(range(..)) -/
def mRg1 (m : M PV) : M (Int × Int) := bnd m fun p => match p with
  | .int j => ret (0, j)
  | _ => bad
def mRg2 (m m2 : M PV) : M (Int × Int) := bnd m fun p => bnd m2 fun q => match p, q with
  | .int i, .int j => ret (i, j)
  | _, _ => bad
def okRg (r : Int × Int) : Bool := okR r.1 && okR r.2 && decide ((r.2 - r.1).toNat ≤ SZ)
def mLstRg (m : M (Int × Int)) : M RV := bnd m fun r => if okRg r then ret (.lst (rgP r.1 (r.2 - r.1).toNat), true) else bad
def mTupRg (m : M (Int × Int)) : M RV := bnd m fun r => if okRg r then ret (.tup (rgP r.1 (r.2 - r.1).toNat), false) else bad
structure SR (X : Cx) (W : WX) (cm : CM) (e : Expr) (m : M (Int × Int)) : Prop where
  ex : ∃ t, PRg X e t ∧ ∀ {F : FS} {H0 H : Hp} {ev : SL} {σ : St} {Q : Int → Int → Hp → Prop}, ER X.K F H0 ev σ H → (Wt X.K W cm F H0 ev σ H m fun r _ _ H' => Q r.1 r.2 H') → t σ H Q
theorem r_1 {a : Expr} {m : M PV} {p pos : Pos} (hm : X.mg "range" = none) (s : Pv.SP X W cm a m) (hg : Gl X "range" := by rfl) (na : starEach [a] X.env = (false, eval a X.env) :: starEach [] X.env := by rfl) : SR X W cm (.Call (.Name "range" p) [a] [] pos) (mRg1 m) := ⟨_, prg_1 hg hm sE_pe na, fun {F H0 H ev σ Q} r h => by
  refine s.go r (h.bnd.mono fun q ev1 F1 H1 a1 hh v rv => ?_)
  have h2 := hh.2
  cases q with
  | int j => exact ⟨j, rv, Wt.ret (P := fun (r : Int × Int) _ _ H' => Q r.1 r.2 H') a1.er h2⟩
  | _ => exact h2.elim⟩
theorem r_2 {a b : Expr} {m m2 : M PV} {p pos : Pos} (hm : X.mg "range" = none) (s : Pv.SP X W cm a m) (s2 : Pv.SP X W cm b m2) (hg : Gl X "range" := by rfl) (na : starEach [a, b] X.env = (false, eval a X.env) :: starEach [b] X.env := by rfl) (nb : starEach [b] X.env = (false, eval b X.env) :: starEach [] X.env := by rfl) (hp : (backTo pos (starEach [b] X.env)).any (·.1) = false := by rfl) :
    SR X W cm (.Call (.Name "range" p) [a, b] [] pos) (mRg2 m m2) := ⟨_, prg_2 hg hm sE_pe sE_pe na nb hp, fun {F H0 H ev σ Q} r h => by
  refine s.go r (h.bnd.mono fun q ev1 F1 H1 a1 hh v rv => ?_)
  refine s2.go a1.er (hh.2.bnd.mono fun q2 ev2 F2 H2 a2 hh2 w rw' => ?_)
  have h2 := hh2.2
  cases q with
  | int i =>
    cases q2 with
    | int j => exact ⟨i, j, rv, rw', Wt.ret (P := fun (r : Int × Int) _ _ H' => Q r.1 r.2 H') a2.er h2⟩
    | _ => exact h2.elim
  | _ => cases q2 <;> exact h2.elim⟩
theorem rgV_rep {K : Fr} {F : FS} {H : Hp} (a b : Int) : RepL K F H (rgV a b) (rgP a (b - a).toNat) := by
  have e1 : rgV a b = ((List.range (b - a).toNat).map fun i => a + (i : Nat)).map V.int := by
    unfold rgV
    rw [List.map_map]
    rfl
  have e2 : rgP a (b - a).toNat = ((List.range (b - a).toNat).map fun i => a + (i : Nat)).map PV.int := by
    unfold rgP
    rw [List.map_map]
    rfl
  rw [e1, e2]
  exact RepL.of_ints _
theorem okRg_ok {r : Int × Int} (h : okRg r = true) : RgOk r.1 r.2 := by
  unfold okRg okR at h
  simp only [Bool.and_eq_true, decide_eq_true_eq] at h
  exact ⟨h.1.1.1, h.1.1.2, h.1.2.1, h.1.2.2, h.2⟩
theorem e_lstRg {e : Expr} {m : M (Int × Int)} {p pos : Pos} (hc : X.calm = true) (hm : X.mg "list" = none) (s : SR X W cm e m) (hg : Gl X "list" := by rfl) (na : starEach [e] X.env = (false, eval e X.env) :: starEach [] X.env := by rfl) : SE X W cm (.Call (.Name "list" p) [e] [] pos) (mLstRg m) := .mk' fun F H0 H ev σ Q r h => by
  obtain ⟨t, ht, hq⟩ := s.ex
  refine sE_of (pe_listRg hc hg hm ht na) ?_
  refine hq r (h.bnd.mono fun q ev1 F1 H1 a1 hh => ?_)
  have h2 := hh.2
  by_cases c : okRg q = true
  · rw [if_pos c] at h2
    refine ⟨okRg_ok c, fun l hl => ?_⟩
    exact h2 F1 _ (a1.er.fresh hl) _ (a1.er.newL a1.same hl (rgV_rep _ _))
  · rw [if_neg c] at h2
    exact h2.elim
theorem vals_rgX {us : List Value} {a b : Int} (h : Vals (rgV a b) us) : True := trivial
/-- tuple(range(..)): the object is known -/
theorem tupRg_X {e : Expr} {te : L2.St → Hp → (Int → Int → Hp → Prop) → Prop} {p pos : Pos} (hc : X.calm = true) (hg : Gl X "tuple") (hm : X.mg "tuple" = none) (he : PRg X e te) (na : starEach [e] X.env = (false, eval e X.env) :: starEach [] X.env) :
    PE X (.Call (.Name "tuple" p) [e] [] pos) (fun σ H Q => te σ H fun a b H1 => RgOk a b ∧ NewT (rgV a b) Q H1) := ⟨fun pins s σ H Q I h => by
  refine Call_ (ld_blt I hg hm boot_tuple (PyProof.Rows.callWith_type1 (args_cons (thn (he pins s σ H _ I h) fun x s1 z => ?_) na) na))
  obtain ⟨r, a, b, t, u, v, H1, ex, hr, J, ok, q⟩ := z
  refine args_nil ?_
  subst ex
  have hc1 := ok.2.2.2.2
  refine call_tuple_range (n := (b - a).toNat) (J.ok.hd hc) hr (small_one ok.1 ok.2.1 ok.2.2.1 ok.2.2.2.1) (rangeSize_nat a b) hc1 fun h' tk acc hk hi => ?_
  obtain ⟨us, rfl⟩ : ∃ us : List Value, acc = us.toArray := ⟨acc.toList, by simp⟩
  exact Inv.newTup J hk (by simpa using vals_rg hi) (by unfold rgV; rw [List.length_map, List.length_range]; exact hc1) q⟩
theorem e_tupRg {e : Expr} {m : M (Int × Int)} {p pos : Pos} (hc : X.calm = true) (hm : X.mg "tuple" = none) (s : SR X W cm e m) (hg : Gl X "tuple" := by rfl) (na : starEach [e] X.env = (false, eval e X.env) :: starEach [] X.env := by rfl) : SE X W cm (.Call (.Name "tuple" p) [e] [] pos) (mTupRg m) := .mk' fun F H0 H ev σ Q r h => by
  obtain ⟨t, ht, hq⟩ := s.ex
  refine sE_of (tupRg_X hc hg hm ht na) ?_
  refine hq r (h.bnd.mono fun q ev1 F1 H1 a1 hh => ?_)
  have h2 := hh.2
  by_cases c : okRg q = true
  · rw [if_pos c] at h2
    refine ⟨okRg_ok c, fun l o hl h3 h4 => ?_⟩
    exact h2 F1 _ (a1.er.fresh hl) _ (a1.er.newT hl h3 h4 (rgV_rep _ _))
  · rw [if_neg c] at h2
    exact h2.elim

/-! ### len(set(xs)) of a list of ints -/
def dedup : List Int → List Int := fun ns => ns.foldl (fun σ k => if σ.any (· == k) then σ else σ ++ [k]) []
theorem lenSet_X {a : Expr} {ta : TE} {p p2 q pos : Pos} (hc : X.calm = true) (hg : Gl X "len") (hm : X.mg "len" = none) (hg2 : Gl X "set") (hm2 : X.mg "set" = none) (ha : PE X a ta) (na : starEach [a] X.env = (false, eval a X.env) :: starEach [] X.env) :
    PE X (.Call (.Name "len" p) [.Call (.Name "set" p2) [a] [] q] [] pos) (fun σ H Q => ta σ H fun x H1 => ∃ (l : Addr) (ns : List Int), x = .ref l ∧ SqL X.K H1 l (ns.map V.int) ∧ ns.length ≤ 1000 ∧ Q (.int ((dedup ns).length : Nat)) H1) := ⟨fun pins s σ H Q I h => by
  refine Call_ (ld_blt I hg hm boot_len (PyProof.Rows.callWith_builtin1 (args_cons ?_ rfl) rfl rfl))
  refine Call_ (ld_blt I hg2 hm2 boot_set (PyProof.Rows.callWith_type1 (args_cons (thn (ha.run pins s σ H _ I h) fun v s1 z => args_nil ?_) na) na rfl))
  obtain ⟨x, H1, J, r, l, ns, rfl, hq, hl, q1⟩ := z
  cases r
  obtain ⟨its, ri, pl, -⟩ := J.list hq
  have hlen : its.toArray.size = ns.length := by rw [List.size_toArray, ← ri.length, List.length_map]
  have ef : PyProof.Rows.firstMet (fun i => ns.getD i 0) its.toArray.size = dedup ns := by
    unfold PyProof.Rows.firstMet
    rw [hlen]
    have : (List.range ns.length).map (fun i => ns.getD i 0) = ns := by
      apply List.ext_getElem
      · rw [List.length_map, List.length_range]
      · intro i h1 h2
        simp only [List.getElem_map, List.getElem_range, List.getD_eq_getElem?_getD]
        rw [List.getElem?_eq_getElem h2]
        rfl
    rw [this]
    rfl
  have hle : (dedup ns).length ≤ ns.length := by
    rw [← ef, hlen]
    exact PyProof.Rows.firstMet_length_le _ _
  refine call_set_list (J.ok.hd hc) pl.isList (by simpa using ri.ints) (by rw [hlen]; unfold scanBound; omega) fun h' tk hS hk => args_nil ?_
  rw [ef] at hS
  obtain ⟨o, es, ep, t, ho, hex, hd, _, _, _, hf, hn⟩ := hS
  have J2 : L2.Inv X pins σ H1 { s1 with heap := h', toks := tk } := J.kept fun b o e => hk b o (Heap.lt_size e) e
  exact call_len_set ho hex hd hf (by rw [hn]; omega) ⟨.int ((dedup ns).length : Nat), H1, J2.tok _, ⟨_, by rw [hn]⟩, q1⟩⟩
def mLenSet (m : M PV) : M RV := bnd m fun p => match p with
  | .lst ps => match intsP ps with
    | some ns => if ns.length ≤ 1000 then ret (.int ((dedup ns).length : Nat), false) else bad
    | none => bad
  | _ => bad
theorem e_lenSet {a : Expr} {m : M PV} {p p2 q pos : Pos} (hc : X.calm = true) (hm : X.mg "len" = none) (hm2 : X.mg "set" = none) (s : Pv.SP X W cm a m) (hg : Gl X "len" := by rfl) (hg2 : Gl X "set" := by rfl) (na : starEach [a] X.env = (false, eval a X.env) :: starEach [] X.env := by rfl) :
    SE X W cm (.Call (.Name "len" p) [.Call (.Name "set" p2) [a] [] q] [] pos) (mLenSet m) := .mk' fun F H0 H ev σ Q r h => by
  refine sE_of (lenSet_X hc hg hm hg2 hm2 sE_pe na) ?_
  refine s.go r (h.bnd.mono fun q ev1 F1 H1 a1 hh v rv => ?_)
  have h2 := hh.2
  cases q with
  | lst ps =>
    cases e : intsP ps with
    | none => simp only [e] at h2; exact h2.elim
    | some ns =>
      simp only [e] at h2
      obtain ⟨l, xs, rfl, hx, rl⟩ := rv
      rw [intsP_eq e] at rl
      have ex := rl.ints
      subst ex
      by_cases c : ns.length ≤ 1000
      · rw [if_pos c] at h2
        exact ⟨l, ns, rfl, SqL.of hx, c, Wt.ret a1.er h2 _ res_int⟩
      · rw [if_neg c] at h2; exact h2.elim
  | _ => exact h2.elim

/-! ### t.index(x) of ints -/
theorem pe_bmT {o e : Expr} {es : List Expr} {to : TE} {t : TA} {name : Str} {apos cpos : Pos} {id : String} {r : V → List V → Hp → VK → Prop} (slot : PySem.Slot "tuple" name id) (hty : typeOf (Value.builtin id) = pure (Value.type "method_descriptor")) (hm : MtR X id r) (ho : PE X o to) (ha : PA X (e :: es) t)
    (hbase : attributeBase o name X.env (eval o X.env) = eval o X.env)
    (hfew : ((((backTo cpos (starEach (e :: es) X.env)).all fun x => !x.fst) && (backToKw cpos (keywordEach [] X.env)).all fun x => x.fst.isSome) && decide (((e :: es).length + ([] : List Keyword).length + if ([] : List Keyword).isEmpty = true then 0 else 1) < 30)) = true)
    (hline : (apos.endLine == cpos.line) = true) (hs : starEach (e :: es) X.env = (false, eval e X.env) :: starEach es X.env) (hpl : ((backTo cpos (starEach es X.env)).any fun x => x.fst) = false) :
    PE X (.Call (.Attribute o name apos) (e :: es) [] cpos) (fun σ H Q => to σ H fun x H1 => (∃ p xs, x = .ref p ∧ TpX X.K H1 p xs) ∧ t σ H1 fun vs H2 => r x vs H2 Q) := ⟨fun pins s σ H Q I h =>
  wpAny_Call_method_late hbase hfew hline rfl (thn (ho.run pins s σ H _ I h) fun v s1 z => by
    obtain ⟨x, H1, J, rx, ⟨p, xs, rfl, hx⟩, q1⟩ := z
    cases rx
    have hob : ∃ ob, s1.heap.get? p = some ob ∧ ob.cls = .type "tuple" ∧ ob.dict = none := by
      rcases hx with ⟨o, h, h1, h2⟩ | ⟨o, its, n, h1, h2, h3, _⟩
      · exact ⟨o, (J.hok p _ h).1, h1, h2⟩
      · exact ⟨o, J.kIn p o h1, h2, h3⟩
    obtain ⟨ob, g1, g2, g3⟩ := hob
    refine ⟨"tuple", id, PySem.F.plainAttrs_tuple, slot, hty, ⟨ob, g1, g2⟩, fun a e => ?_, ?_⟩
    · cases e; exact ⟨ob, g1, g3⟩
    · have hA := ha.run cpos pins s1 σ H1 _ J q1
      rw [hs] at hA ⊢
      refine Calls.callWith_builtin (by show (false || (backTo cpos (starEach es X.env)).any (·.1)) = false; rw [hpl]; rfl) (Calls.evalArgs_plain (thn hA fun us s2 z => ?_))
      obtain ⟨vs, H2, J2, r2, q2⟩ := z
      exact hm pins s2 σ H2 (.ref p) vs (.ref p) us Q J2 rfl r2 q2)⟩
theorem mt_tupIx : MtR X "tuple.index" (fun x vs H Q => ∃ (p : Addr) (ns : List Int) (k : Int), x = .ref p ∧ vs = [.int k] ∧ SqT X.K H p (ns.map V.int) ∧ k ∈ ns ∧ Q (.int (ns.idxOf k : Nat)) H) := by
  rintro pins s σ H x vs v us Q I rx rs ⟨p, ns, k, rfl, rfl, hq, hk, q⟩
  cases rx
  obtain ⟨u, rfl, t, rfl⟩ := vals1 rs
  obtain ⟨its, ri, pl, -⟩ := I.tuple hq
  exact SeqAt.tuple_index_ints pl ri.ints hk ⟨.int (ns.idxOf k : Nat), H, I.tok _, ⟨_, rfl⟩, q⟩
theorem mt_lstIx : MtR X "list.index" (fun x vs H Q => ∃ (p : Addr) (ns : List Int) (k : Int), x = .ref p ∧ vs = [.int k] ∧ SqL X.K H p (ns.map V.int) ∧ k ∈ ns ∧ Q (.int (ns.idxOf k : Nat)) H) := by
  rintro pins s σ H x vs v us Q I rx rs ⟨p, ns, k, rfl, rfl, hq, hk, q⟩
  cases rx
  obtain ⟨u, rfl, t, rfl⟩ := vals1 rs
  obtain ⟨its, ri, pl, hz⟩ := I.list hq
  exact SeqAt.list_index_ints pl.isList ri.ints (by rwa [List.length_map] at hz) hk ⟨.int (ns.idxOf k : Nat), H, I.tok _, ⟨_, rfl⟩, q⟩
def gIndexT : PV → PV → Option RV
  | .tup ps, .int k => match intsP ps with
    | some ns => if k ∈ ns then vI (ns.idxOf k : Nat) else none
    | none => none
  | _, _ => none
def gIndexL : PV → PV → Option RV
  | .lst ps, .int k => match intsP ps with
    | some ns => if k ∈ ns then vI (ns.idxOf k : Nat) else none
    | none => none
  | _, _ => none
theorem gIndexT_ok {p q : PV} {r : RV} (e : gIndexT p q = some r) : ∃ (ns : List Int) (k : Int), p = .tup (ns.map .int) ∧ q = .int k ∧ k ∈ ns ∧ r = (.int (ns.idxOf k : Nat), false) := by
  unfold gIndexT at e
  split at e
  · split at e
    · rename_i ns hi
      split at e
      · rename_i c
        cases e
        exact ⟨ns, _, by rw [intsP_eq hi], rfl, c, rfl⟩
      · cases e
    · cases e
  · cases e
theorem gIndexL_ok {p q : PV} {r : RV} (e : gIndexL p q = some r) : ∃ (ns : List Int) (k : Int), p = .lst (ns.map .int) ∧ q = .int k ∧ k ∈ ns ∧ r = (.int (ns.idxOf k : Nat), false) := by
  unfold gIndexL at e
  split at e
  · split at e
    · rename_i ns hi
      split at e
      · rename_i c
        cases e
        exact ⟨ns, _, by rw [intsP_eq hi], rfl, c, rfl⟩
      · cases e
    · cases e
  · cases e
/-- only tuples pass -/
def onlyT (m : M PV) : M PV := bnd m fun p => match p with
  | .tup ps => ret (.tup ps)
  | _ => bad
def onlyL (m : M PV) : M PV := bnd m fun p => match p with
  | .lst ps => ret (.lst ps)
  | _ => bad
theorem e_indexT {o e : Expr} {mo me : M PV} {apos cpos : Pos} (so : Pv.SP X W cm o mo) (se : Pv.SP X W cm e me)
    (hbase : attributeBase o "index" X.env (eval o X.env) = eval o X.env := by rfl)
    (hfew : ((((backTo cpos (starEach [e] X.env)).all fun x => !x.fst) && (backToKw cpos (keywordEach [] X.env)).all fun x => x.fst.isSome) && decide (([e].length + ([] : List Keyword).length + if ([] : List Keyword).isEmpty = true then 0 else 1) < 30)) = true := by rfl)
    (hline : (apos.endLine == cpos.line) = true := by rfl) (hs : starEach [e] X.env = (false, eval e X.env) :: starEach [] X.env := by rfl) : SE X W cm (.Call (.Attribute o "index" apos) [e] [] cpos) (eOp gIndexT (onlyT mo) me) := .mk' fun F H0 H ev σ Q r h => by
  refine sE_of (pe_bmT PySem.F.slot_tuple_index PySem.F.type_tuple_index sMt_ok sE_pe (pa_cons sE_pe pa_nil hs) hbase hfew hline hs rfl) ?_
  refine so.go r (h.bnd.bnd.mono fun p ev1 F1 H1 a1 hh x rx => ?_)
  have h2 := hh.2
  cases p with
  | tup ps =>
    have h3 := (h2 F1 H1 a1.er.aft).2
    have rx' : Rep X.K F1 H1 x (.tup ps) := rx
    unfold Rep at rx'
    obtain ⟨a, xs, ea, hx, rl⟩ := rx'
    refine ⟨⟨a, xs, ea, hx⟩, ?_⟩
    refine se.go a1.er (h3.bnd.mono fun q ev2 F2 H2 a2 hh2 y ry => ?_)
    have h4 := hh2.2
    show sMt X "tuple.index" x [y] H2 Q
    cases eg : gIndexT (.tup ps) q with
    | none => rw [eg] at h4; exact h4.elim
    | some z =>
      rw [eg] at h4
      obtain ⟨ns, k, e1, rfl, hk, rfl⟩ := gIndexT_ok eg
      cases e1
      have ey : y = .int k := ry
      subst ey ea
      have rl2 := rl.ints
      subst rl2
      exact sMt_of mt_tupIx ⟨a, ns, k, rfl, rfl, SqT.same a2.same hx.sqT, hk, Wt.ret a2.er h4 _ res_int⟩
  | _ => exact h2.elim
theorem e_indexL {o e : Expr} {mo me : M PV} {apos cpos : Pos} (so : Pv.SP X W cm o mo) (se : Pv.SP X W cm e me)
    (hbase : attributeBase o "index" X.env (eval o X.env) = eval o X.env := by rfl)
    (hfew : ((((backTo cpos (starEach [e] X.env)).all fun x => !x.fst) && (backToKw cpos (keywordEach [] X.env)).all fun x => x.fst.isSome) && decide (([e].length + ([] : List Keyword).length + if ([] : List Keyword).isEmpty = true then 0 else 1) < 30)) = true := by rfl)
    (hline : (apos.endLine == cpos.line) = true := by rfl) (hs : starEach [e] X.env = (false, eval e X.env) :: starEach [] X.env := by rfl) : SE X W cm (.Call (.Attribute o "index" apos) [e] [] cpos) (eOp gIndexL (onlyL mo) me) := .mk' fun F H0 H ev σ Q r h => by
  refine sE_of (pe_bm PySem.F.plainAttrs_list PySem.F.slot_list_index PySem.F.type_list_index sMt_ok sE_pe (pa_cons sE_pe pa_nil hs) hbase hfew hline hs rfl) ?_
  refine so.go r (h.bnd.bnd.mono fun p ev1 F1 H1 a1 hh x rx => ?_)
  have h2 := hh.2
  cases p with
  | lst ps =>
    have h3 := (h2 F1 H1 a1.er.aft).2
    obtain ⟨a, xs, ea, hx, rl⟩ := rx
    refine ⟨by rw [ea]; exact .inl ⟨rfl, xs, SqL.of hx⟩, ?_⟩
    refine se.go a1.er (h3.bnd.mono fun q ev2 F2 H2 a2 hh2 y ry => ?_)
    have h4 := hh2.2
    show sMt X "list.index" x [y] H2 Q
    cases eg : gIndexL (.lst ps) q with
    | none => rw [eg] at h4; exact h4.elim
    | some z =>
      rw [eg] at h4
      obtain ⟨ns, k, e1, rfl, hk, rfl⟩ := gIndexL_ok eg
      cases e1
      have ey : y = .int k := ry
      subst ey ea
      have rl2 := rl.ints
      subst rl2
      exact sMt_of mt_lstIx ⟨a, ns, k, rfl, rfl, SqL.of (a2.same _ _ hx), hk, Wt.ret a2.er h4 _ res_int⟩
  | _ => exact h2.elim

/-! ### (*xs, ..) -/
def aStar (a : M RV) (r : M (List PV)) : M (List PV) := bnd a fun x => match x.1 with
  | .lst ps => bnd r fun qs => ret (ps ++ qs)
  | .tup ps => bnd r fun qs => ret (ps ++ qs)
  | _ => bad
theorem a_star {e : Expr} {es : List Expr} {m : M RV} {ms : M (List PV)} {p : Pos} (s : SE X W cm e m) (u : SA X W cm es ms) (hs : starEach (.Starred e p :: es) X.env = (true, eval e X.env) :: starEach es X.env := by rfl) : SA X W cm (.Starred e p :: es) (aStar m ms) := ⟨fun {F H0 H ev σ Q} r h => by
  refine sA_of (StX.pa_star sE_pe sA_pa hs) ?_
  refine s.go r ?_
  unfold Wt at h ⊢
  unfold aStar Pv.bnd at h
  cases e1 : m ev with
  | bad => simp only [e1] at h
  | exc c ev1 => simp only [e1] at h; exact h
  | ok z ev1 =>
    simp only [e1] at h
    intro F1 H1 a1 v rv
    obtain ⟨G, aG, rG, _⟩ := rv.share a1
    have fin : ∀ (ps : List PV) (a : Addr) (xs : List V), v = .ref a → (SqT X.K H1 a xs ∨ SqL X.K H1 a xs) → RepL X.K G H1 xs ps → (∀ c ev2, ms ev1 = .exc c ev2 → ∀ (F' : FS) (H' : Hp), Aft X.K F H0 ev ev2 σ H F' H' → W (cm c) none σ H') → ms ev1 ≠ .bad →
        (∀ qs ev2, ms ev1 = .ok qs ev2 → ∀ (F' : FS) (H' : Hp), Aft X.K F H0 ev ev2 σ H F' H' → ∀ (F2 : FS) (vs : List V), Aft X.K F H0 ev ev2 σ H F2 H' → RepL X.K F2 H' vs (ps ++ qs) → Q vs H') → StX.tStar X.K (fun _ H Q => Q v H) (sA X es) σ H1 Q := fun ps a xs ea hx rl hx2 hb hk => by
      refine ⟨a, xs, ea, hx, ?_⟩
      refine u.go aG.er ?_
      unfold Wt
      cases e2 : ms ev1 with
      | bad => exact hb e2
      | exc c ev2 => exact fun F2 H2 a2 => hx2 c ev2 e2 F2 H2 (aG.trans a2)
      | ok qs ev2 =>
        intro F2 H2 a2 F3 vs a3 rs
        exact hk qs ev2 e2 F2 H2 (aG.trans a2) F3 (xs ++ vs) (aG.trans a3) ((RepL.mono (.of a3.same) a3.sub ps rl).append rs)
    obtain ⟨p, fr⟩ := z
    cases p with
    | lst ps =>
      unfold Rep at rG
      obtain ⟨a, xs, ea, hx, rl⟩ := rG
      refine fin ps a xs ea (.inr (SqL.of hx.2)) rl (fun c ev2 e2 => ?_) (fun e2 => ?_) (fun qs ev2 e2 => ?_)
      · simp only [e2] at h; exact h
      · simp only [e2] at h
      · simp only [e2, Pv.ret] at h; exact h
    | tup ps =>
      unfold Rep at rG
      obtain ⟨a, xs, ea, hx, rl⟩ := rG
      refine fin ps a xs ea (.inl hx.sqT) rl (fun c ev2 e2 => ?_) (fun e2 => ?_) (fun qs ev2 e2 => ?_)
      · simp only [e2] at h; exact h
      · simp only [e2] at h
      · simp only [e2, Pv.ret] at h; exact h
    | _ => exact h.elim⟩
end
end Pv

set_option Elab.async false
set_option linter.all false
set_option maxRecDepth 100000
namespace Pv
open PySem PySem.Spec L2
open PyProof.Rows hiding St

section
variable {X : Cx} {W : WX} {cm : CM}
/-! ### for x in a list or a tuple -/
def mSeq (m : M RV) : M (List PV) := bnd m fun r => match r.1 with
  | .lst ps => ret ps
  | .tup ps => ret ps
  | _ => bad
theorem pi_or {tg iter : Expr} {a b : TI} (h1 : PI X tg iter a) (h2 : PI X tg iter b) : PI X tg iter (fun σ H R => a σ H R ∨ b σ H R) := ⟨fun pins s σ H R I h => by
  rcases h with h | h
  · exact h1.run pins s σ H R I h
  · exact h2.run pins s σ H R I h⟩
theorem i_seq {tg e : Expr} {m : M RV} (s : SE X W cm e m) : SI X W cm tg e (mSeq m) := by
  obtain ⟨w1, p1, q1⟩ := (i_list (tg := tg) s).ex
  obtain ⟨w2, p2, q2⟩ := (i_tup (tg := tg) s).ex
  refine ⟨_, pi_or p1 p2, fun {F H0 H ev σ R} r h => ?_⟩
  by_cases c : ∃ ps fr ev', m ev = .ok (.tup ps, fr) ev'
  · obtain ⟨ps, fr, ev', e1⟩ := c
    refine .inr (q2 r ?_)
    unfold Wt mTupOf Pv.bnd at ⊢
    unfold Wt mSeq Pv.bnd at h
    simp only [e1] at h ⊢
    exact h
  · refine .inl (q1 r ?_)
    unfold Wt mLstOf Pv.bnd at ⊢
    unfold Wt mSeq Pv.bnd at h
    cases e1 : m ev with
    | bad => simp only [e1] at h
    | exc c ev1 => simp only [e1] at h ⊢; exact h
    | ok z ev1 =>
      simp only [e1] at h ⊢
      obtain ⟨p, fr⟩ := z
      cases p with
      | tup ps => exact absurd ⟨ps, fr, ev1, e1⟩ c
      | _ => exact h
/-! ### t.index(x) -/
def mIndex (mo me : M PV) : M RV := bnd mo fun p => match p with
  | .tup ps => bnd me fun q => opt (gIndexT (.tup ps) q)
  | .lst ps => bnd me fun q => opt (gIndexL (.lst ps) q)
  | _ => bad
theorem e_index {o e : Expr} {mo me : M PV} {apos cpos : Pos} (so : Pv.SP X W cm o mo) (se : Pv.SP X W cm e me)
    (hbase : attributeBase o "index" X.env (eval o X.env) = eval o X.env := by rfl)
    (hfew : ((((backTo cpos (starEach [e] X.env)).all fun x => !x.fst) && (backToKw cpos (keywordEach [] X.env)).all fun x => x.fst.isSome) && decide (([e].length + ([] : List Keyword).length + if ([] : List Keyword).isEmpty = true then 0 else 1) < 30)) = true := by rfl)
    (hline : (apos.endLine == cpos.line) = true := by rfl) (hs : starEach [e] X.env = (false, eval e X.env) :: starEach [] X.env := by rfl) : SE X W cm (.Call (.Attribute o "index" apos) [e] [] cpos) (mIndex mo me) := .mk' fun F H0 H ev σ Q r h => by
  by_cases c : ∃ ps ev', mo ev = .ok (.tup ps) ev'
  · obtain ⟨ps, ev', e1⟩ := c
    refine (e_indexT (apos := apos) (cpos := cpos) so se hbase hfew hline hs).go r ?_
    unfold Wt eOp onlyT Pv.bnd at ⊢
    unfold Wt mIndex Pv.bnd at h
    simp only [e1, Pv.ret] at h ⊢
    exact h
  · refine (e_indexL (apos := apos) (cpos := cpos) so se hbase hfew hline hs).go r ?_
    unfold Wt eOp onlyL Pv.bnd at ⊢
    unfold Wt mIndex Pv.bnd at h
    cases e1 : mo ev with
    | bad => simp only [e1] at h
    | exc c ev1 => simp only [e1] at h ⊢; exact h
    | ok z ev1 =>
      simp only [e1] at h ⊢
      cases z with
      | tup ps => exact absurd ⟨ps, ev1, e1⟩ c
      | lst ps => simp only [Pv.ret]; exact h
      | _ => exact h
/-! ### what is never called -/
theorem cal_bad {P : Program} {w : World} {K : Fr} {mg : Str → Option Value} {base : Heap} {x qual : Str} {st : Stmt} {f : Addr} {fd : FuncData} {ps : List Str} (F : Fun K x qual st f fd) (hg : mg x = some (.ref f)) (hb : Binds K fd ps []) :
    Cal P w K mg base cm 0 x (fun _ => .bad) := by
  have no : ∀ vs H Q E, ¬ spP K cm (fun _ => Rf.bad) vs H Q E := fun vs H Q E h => by
    obtain ⟨_, _, _, _, h⟩ := h
    exact h
  exact ⟨f, fd, ps, ⟨fun vs H Q E h => absurd h (no vs H Q E), fun A outer s H args us vs Q E _ _ _ _ h => absurd h (no vs H Q E)⟩, hg, F.kp, hb⟩
end
/-- a dict of the module, whatever the place -/
structure KD0 (w : World) (K : Fr) (mg : Str → Option Value) (x : Str) (d : Str → Option Int) : Prop where
  ex : ∃ (a : Addr) (es : Array DictEntry) (n : Nat), mg x = some (.ref a) ∧ KDict K w a es n ∧ ∀ z : Str, (d z = none → PySem.W.nsIn K a z = some none) ∧ ∀ i, d z = some i → ∃ t, PySem.W.nsIn K a z = some (some (.int i t))
theorem KD0.kd {X : Cx} {w : World} {K : Fr} {mg : Str → Option Value} {x : Str} {d : Str → Option Int} (h : KD0 w K mg x d) (e1 : X.w = w := by rfl) (e2 : X.K = K := by rfl) (e3 : X.mg = mg := by rfl) : KD X x d := by
  subst e1 e2 e3
  exact ⟨h.ex⟩
end Pv

set_option Elab.async false
set_option linter.all false
set_option maxRecDepth 100000
namespace Pv
open PySem PySem.Spec L2
open PyProof.Rows hiding St

/-! ### the program's top: what its names stand for -/
theorem fun_of {K : Fr} {x qual : Str} {st : Stmt} {f : Addr} {fd : FuncData} (F : FunD K x qual (defArgs st) (defBody st) (defScope st) [] [] f fd) : Fun K x qual st f fd := by
  obtain ⟨oc, od, dV, kV, doc, pm, an, cdv, ct, osl, h1, h2, h3, h4, h5⟩ := F.ex
  rcases h4 with ⟨_, h4⟩ | ⟨h4, _⟩
  · subst h4
    exact ⟨⟨oc, od, kV, doc, pm, an, cdv, ct, osl, h1, h2, h3⟩, F.kp⟩
  · exact absurd rfl h4
/-- classes by names -/
def cmK (K : Fr) : CM := fun x => .ref (He.ga K x)
theorem exK_of {K : Fr} {h : Heap} {mg : Str → Option Value} (X : K.In h) (G : h.Ns mainGlobals mg) {x : Str} (c : (He.Fa.exc x).ok K = true) (g : (He.Fa.glo x).ok K = true) : ExK K mg (cmK K) x := by
  obtain ⟨h1, h2, h3, h4⟩ := He.exc_ok c
  exact ⟨_, rfl, He.glo_ok X G g, h1, h2, h3, h4⟩
/-- a class of the module -/
structure ClN (K : Fr) (mg : Str → Option Value) (cm : CM) (x : Str) : Prop where
  ex : ∃ C, cm x = .ref C ∧ mg x = some (.ref C)
theorem ClN.of {K : Fr} {h : Heap} {mg : Str → Option Value} (X : K.In h) (G : h.Ns mainGlobals mg) {x : Str} (g : (He.Fa.glo x).ok K = true) : ClN K mg (cmK K) x := ⟨_, rfl, He.glo_ok X G g⟩
theorem ClN.names {X : Cx} {cm : CM} {x : Str} (h : ClN X.K X.mg cm x) (hg : Gl X x := by rfl) (hd : (x == ("__debug__" : Str)) = false := by decide) : Names X x (cm x) := by
  obtain ⟨C, e1, e2⟩ := h.ex
  exact ⟨hg, hd, .inl (by rw [e1]; exact e2)⟩
theorem ClN.cls {X : Cx} {cm : CM} {x : Str} (h : ClN X.K X.mg cm x) : ClsN X x (cm x) := by
  obtain ⟨C, e1, e2⟩ := h.ex
  rw [e1]
  exact .own C e2
def excCB (K : Fr) (x : Str) : Bool := decide (PySem.W.findIn K (.ref (He.ga K x)) "__getattribute__" = some (some (.builtin "BaseException.__getattribute__"))) && (decide (PySem.W.findIn K (.ref (He.ga K x)) "__getattr__" = some none) && (decide (PySem.W.subIn K (.ref (He.ga K x)) (.type "BaseException") = some true) && (PySem.W.hasDictIn K (He.ga K x) &&
  (decide (PySem.W.findIn K (.ref (He.ga K x)) "__class__" = some (some (.builtin "object.__class__"))) && (decide (PySem.W.specialIn K (.builtin "object.__class__") "__get__" = some (some (.builtin "getset_descriptor.__get__"))) && (decide (PySem.W.takesIn K (.builtin "object.__class__") = some true) && decide (PySem.W.mroIn K (He.ga K x) (.type "object") = some true)))))))
theorem excCB_ok {K : Fr} {x : Str} (h : excCB K x = true) : ExcC K (He.ga K x) := by
  unfold excCB at h
  simp only [Bool.and_eq_true, decide_eq_true_eq] at h
  obtain ⟨h1, h2, h3, h4, h5, h6, h7, h8⟩ := h
  exact ⟨h1, h2, h3, h4, h5, h6, h7, h8⟩
/-- what isinstance says of an exception of class d -/
structure IsN (K : Fr) (cm : CM) (d : Str) (c : Value) (b : Bool) : Prop where
  ex : ∃ D, cm d = .ref D ∧ ExcC K D ∧ PySem.W.kitOne K (.ref D) c = some b
def isNB (K : Fr) (d : Str) (c : Fr → Value) (b : Bool) : Bool := excCB K d && decide (PySem.W.kitOne K (.ref (He.ga K d)) (c K) = some b)
theorem IsN.of {K : Fr} {d : Str} {c : Fr → Value} {b : Bool} (h : isNB K d c b = true) : IsN K (cmK K) d (c K) b := by
  unfold isNB at h
  rw [Bool.and_eq_true, decide_eq_true_eq] at h
  exact ⟨_, rfl, excCB_ok h.1, h.2⟩
section
variable {X : Cx} {W : WX} {cm : CM}
theorem e_isN {a : Addr} {d : Str} {oe : Obj} {pn : List (Addr × Obj)} {i : Nat} {n x : Str} {c : Value} {b : Bool} {p p1 p2 pos : Pos} (C : IsN X.K cm d c b) (hz : Zc (cm d) none oe) (hf : ∃ vs, oe.data = .fields vs) (hm : X.mg "isinstance" = none) (hc : ClsN X x c)
    (hi : X.N[i]? = some n := by rfl) (hv : Vis X.env.scope n := by first | exact Or.inl rfl | exact Or.inr (Or.inl rfl) | exact Or.inr (Or.inr rfl)) (hdn : (n == ("__debug__" : Str)) = false := by decide) (hcd : (n == ("__classdict__" : Str)) = false := by decide)
    (hg : Gl X "isinstance" := by rfl) (hgC : Gl X x := by rfl) (hd : (x == ("__debug__" : Str)) = false := by decide)
    (he : starEach [.Name n p1, .Name x p2] X.env = (false, eval (.Name n p1) X.env) :: starEach [.Name x p2] X.env := by rfl) (he2 : starEach [.Name x p2] X.env = (false, eval (.Name x p2) X.env) :: starEach [] X.env := by rfl) (hpl : (backTo pos (starEach [.Name x p2] X.env)).any (·.1) = false := by rfl) :
    SE (X.suite a ((a, oe) :: pn)) W cm (.Call (.Name "isinstance" p) [.Name n p1, .Name x p2] [] pos) (mIsE i b a) := by
  obtain ⟨D, e, h1, h2⟩ := C.ex
  rw [e] at hz
  exact e_isE h1 hz hf hm hc h2 hi hv hdn hcd hg hgC hd he he2 hpl
end
/-! ### a suite that does not tell the exception's address -/
def Sm {α : Type} (i : Nat) (m : Addr → M α) : Prop := ∀ (a : Addr) (ev ev2 : SL) (x : α), m 0 (ev.set i (.val (.opq (.ref 0)))) = .ok x ev2 → ∃ ev3 : SL, ev2 = ev3.set i (.val (.opq (.ref 0))) ∧ m a (ev.set i (.val (.opq (.ref a)))) = .ok x (ev3.set i (.val (.opq (.ref a))))
theorem Sm.nat0 {i : Nat} {m : Addr → M Fl} (h : Sm i m) : Nat0 i m := fun a ev ev2 f e => by
  obtain ⟨ev3, e1, e2⟩ := h a ev ev2 f e
  refine ⟨_, e2, ?_⟩
  rw [e1, List.set_set, List.set_set]
theorem sm_ret {α : Type} {i : Nat} {x : α} : Sm i (fun _ => ret x) := fun a ev ev2 y e => by
  unfold ret at e ⊢
  cases e
  exact ⟨ev, rfl, rfl⟩
theorem sm_bad {α : Type} {i : Nat} : Sm (α := α) i (fun _ => bad) := fun a ev ev2 y e => by cases e
theorem sm_bnd {α β : Type} {i : Nat} {m : Addr → M α} {f : Addr → α → M β} (h1 : Sm i m) (h2 : ∀ x, Sm i (fun a => f a x)) : Sm i (fun a => bnd (m a) (f a)) := fun a ev ev2 y e => by
  unfold bnd at e ⊢
  cases e1 : m 0 (ev.set i (.val (.opq (.ref 0)))) with
  | bad => simp only [e1] at e; cases e
  | exc c ev1 => simp only [e1] at e; cases e
  | ok x ev1 =>
    simp only [e1] at e
    obtain ⟨ev3, q1, q2⟩ := h1 a ev ev1 x e1
    rw [q1] at e
    obtain ⟨ev4, q3, q4⟩ := h2 x a ev3 ev2 y e
    simp only [q2]
    exact ⟨ev4, q3, q4⟩
theorem sm_sq {i : Nat} {m n : Addr → M Fl} (h1 : Sm i m) (h2 : Sm i n) : Sm i (fun a => sq (m a) (n a)) := fun a ev ev2 y e => by
  unfold sq at e ⊢
  cases e1 : m 0 (ev.set i (.val (.opq (.ref 0)))) with
  | bad => simp only [e1] at e; cases e
  | exc c ev1 => simp only [e1] at e; cases e
  | ok x ev1 =>
    obtain ⟨ev3, q1, q2⟩ := h1 a ev ev1 x e1
    simp only [e1] at e
    simp only [q2]
    cases x with
    | nx =>
      simp only at e ⊢
      rw [q1] at e
      exact h2 a ev3 ev2 y e
    | _ =>
      cases e
      exact ⟨ev3, q1, rfl⟩
theorem sm_var {i j : Nat} (h : j ≠ i) : Sm i (fun _ => eVar j) := fun a ev ev2 y e => by
  unfold eVar at e ⊢
  dsimp only at e ⊢
  rw [List.getElem?_set_ne (fun z => h z.symm)] at e ⊢
  cases e1 : ev[j]? with
  | none => rw [e1] at e; cases e
  | some sl =>
    cases sl with
    | no => rw [e1] at e; cases e
    | val p => rw [e1] at e; cases e; exact ⟨ev, rfl, rfl⟩
    | own ps =>
      rw [e1] at e; cases e
      exact ⟨ev.set j (.val (.lst ps)), by rw [List.set_comm _ _ h], by simp only; rw [List.set_comm _ _ h]⟩
theorem sm_isE {i : Nat} {b : Bool} : Sm i (fun a => mIsE i b a) := fun a ev ev2 y e => by
  unfold mIsE at e ⊢
  dsimp only at e ⊢
  by_cases hl : i < ev.length
  · rw [List.getElem?_set_self hl] at e ⊢
    simp only [if_true] at e ⊢
    cases e
    exact ⟨ev, rfl, rfl⟩
  · rw [List.getElem?_eq_none (by rw [List.length_set]; omega)] at e
    cases e
theorem sm_mRet {i : Nat} {r : RV} : Sm i (fun _ => mRet r) := sm_ret
theorem sm_vAnd {i : Nat} {m n : Addr → M RV} (h1 : Sm i m) (h2 : Sm i n) : Sm i (fun a => vAnd (m a) (n a)) := sm_bnd h1 fun r => by
  obtain ⟨p, fr⟩ := r
  cases p with
  | bl b => cases b with
    | true => exact h2
    | false => exact sm_ret
  | _ => exact sm_bad
theorem sm_vNot {i : Nat} {m : Addr → M RV} (h1 : Sm i m) : Sm i (fun a => vNot (m a)) := sm_bnd h1 fun r => by
  obtain ⟨p, fr⟩ := r
  cases p with
  | bl b => exact sm_ret
  | _ => exact sm_bad
section
variable {X : Cx} {W : WX} {cm : CM}
/-! ### comprehensions, the slots written out -/
theorem e_compV {N : List Str} {sc : Scope} {vs : List Nat} (own : List (Str × Nat)) {elt tg iter : Expr} {ifs : List Expr} {scope : Scope} {pos : Pos} {js : List Nat} {mi : M (List PV)} {t : PV → SL → Option SL} {mt : M Bool} {me : M RV} (hc : X.calm = true) (hNd : X.N.Nodup) (ok : blkC N sc scope own = true)
    (si : SI X W cm tg iter mi) (hg : Blk X scope fun Y => SG Y W0 tg t js) (ht : Blk X scope fun Y => STs Y W0 cm ifs mt) (he : Blk X scope fun Y => SE Y W0 cm elt me) (hj : ∀ j ∈ js, j ∈ own.map (·.2) := by decide) (hvs : own.map (·.2) = vs := by rfl) (eN : X.N = N := by rfl) (eS : X.env.scope = sc := by rfl)
    (hs : ∀ x, foldedSetIterable iter X.env x = pure x := by intro _; rfl) : SE X W cm (.ListComp elt [⟨tg, iter, ifs, 0⟩] scope pos) (mComp mi t mt me vs) := by
  subst hvs eN eS
  exact e_comp hc hNd (blkOk_by ok) si hg ht he hj hs
theorem s_setCompV {N : List Str} {sc : Scope} {vs : List Nat} (own : List (Str × Nat)) {i : Nat} {y : Str} {py : Pos} {elt tg iter : Expr} {ifs : List Expr} {scope : Scope} {pos spos : Pos} {js : List Nat} {mi : M (List PV)} {t : PV → SL → Option SL} {mt : M Bool} {me : M RV} (hc : X.calm = true) (hNd : X.N.Nodup)
    (hsw : swapsWith (.ListComp elt [⟨tg, iter, ifs, 0⟩] scope pos) (some (.Name y py)) spos.line X.env = pure true) (ok : blkC N sc scope own = true)
    (si : SI X W cm tg iter mi) (hg : Blk X scope fun Y => SG Y W0 tg t js) (ht : Blk X scope fun Y => STs Y W0 cm ifs mt) (he : Blk X scope fun Y => SE Y W0 cm elt me) (hj : ∀ j ∈ js, j ∈ own.map (·.2) := by decide) (hvs : own.map (·.2) = vs := by rfl) (eN : X.N = N := by rfl) (eS : X.env.scope = sc := by rfl)
    (hy : X.N[i]? = some y := by rfl) (hyl : X.env.scope.names.lookup y = some .local := by rfl)
    (hs : ∀ x, foldedSetIterable iter X.env x = pure x := by intro _; rfl) : SS X W cm (.Assign [.Name y py] (.ListComp elt [⟨tg, iter, ifs, 0⟩] scope pos) spos) (bnd (mComp mi t mt me vs) (setR i)) := by
  subst hvs eN eS
  exact s_setComp hc hNd hsw (blkOk_by ok) si hg ht he hj hy hyl hs
end
/-! ### a dict of the top: texts to ints -/
def dOf (kvs : List (Str × Int)) : Str → Option Int := fun z => (kvs.find? fun q => q.1 == z).map (·.2)
def entOf (e : DictEntry) : Option (Str × Int) := match e.key, e.val with
  | .str x _, .int i _ => some (x, i)
  | _, _ => none
def dictIs (K : Fr) (a : Addr) (kvs : List (Str × Int)) : Bool := match K.lookup a with
  | some ⟨_, _, .dict es _, _⟩ => decide (es.toList.map entOf = kvs.map some)
  | _ => false
theorem dictIs_find : ∀ {es : List DictEntry} {kvs : List (Str × Int)}, es.map entOf = kvs.map some → ∀ z : Str, (dOf kvs z = none → es.find? (fun x => x.key.isStr z) = none) ∧ ∀ i, dOf kvs z = some i → ∃ e t, es.find? (fun x => x.key.isStr z) = some e ∧ e.val = .int i t
  | [], [], _, z => ⟨fun _ => rfl, fun i e => by cases e⟩
  | e :: es, [], h, z => by cases h
  | [], q :: kvs, h, z => by cases h
  | e :: es, q :: kvs, h, z => by
    rw [List.map_cons, List.map_cons] at h
    injection h with h1 h2
    obtain ⟨i1, i2⟩ := dictIs_find h2 z
    unfold entOf at h1
    split at h1
    · rename_i x t i u ek ev
      cases h1
      unfold dOf at i1 i2 ⊢
      rw [List.find?_cons, List.find?_cons, ek]
      have es : (Value.str x t).isStr z = (x == z) := rfl
      rw [es]
      cases c : x == z with
      | true => exact ⟨fun e => (by cases e), fun j e => (by cases e; exact ⟨_, u, rfl, ev⟩)⟩
      | false => exact ⟨i1, i2⟩
    · cases h1
theorem dictIs_no : ∀ {es : List DictEntry} {kvs : List (Str × Int)}, es.map entOf = kvs.map some → (es.any fun x => x.refKey) = false
  | [], [], _ => rfl
  | e :: es, [], h => by cases h
  | [], q :: kvs, h => by cases h
  | e :: es, q :: kvs, h => by
    rw [List.map_cons, List.map_cons] at h
    injection h with h1 h2
    rw [List.any_cons, dictIs_no h2, Bool.or_false]
    unfold entOf at h1
    split at h1
    · rename_i x t i u ek ev
      unfold DictEntry.refKey
      rw [ek]
    · cases h1
theorem kd0_of {w : World} {K : Fr} {h : Heap} {mg : Str → Option Value} {x : Str} {kvs : List (Str × Int)} (X : K.In h) (G : h.Ns mainGlobals mg) (g : (He.Fa.glo x).ok K = true) (t : ∃ es n, KDict K w (He.ga K x) es n) (c : dictIs K (He.ga K x) kvs = true) : KD0 w K mg x (dOf kvs) := by
  obtain ⟨es, n, D⟩ := t
  refine ⟨_, es, n, He.glo_ok X G g, D, fun z => ?_⟩
  unfold dictIs at c
  rw [D.at_] at c
  have c := of_decide_eq_true c
  obtain ⟨h1, h2⟩ := dictIs_find c z
  have h3 := dictIs_no c
  constructor
  · intro e
    unfold PySem.W.nsIn
    rw [D.at_]
    simp only [h1 e, h3]
    rfl
  · intro i e
    obtain ⟨e0, t, q1, q2⟩ := h2 i e
    refine ⟨t, ?_⟩
    unfold PySem.W.nsIn
    rw [D.at_]
    simp only [q1, q2]
end Pv

set_option Elab.async false
set_option linter.all false
set_option maxRecDepth 100000
namespace Pv
open PySem PySem.Spec L2
open PyProof.Rows hiding St
/-- the end of a law -/
theorem walk_law {l : PySem.W.OpenLaw} {n k : Nat} {q : Program} {loose : List Str} {XP : (Str → Option Value) → Heap → Prop} {YP : World → Heap → Prop} {d : DefRec} {x : Str}
    (hn : l.most = some n) (hn2 : n ≤ sizeLine) (hdf : d.params.defaults = []) (hr : Room k callerA)
    (F : ∀ (w : World) (mg : Str → Option Value) (fa : Addr) (h : Heap), YP w h → h.Ns mainGlobals mg → mg d.name = some (.ref fa) →
      ∃ (K : Fr) (fd : FuncData) (f : Fn) (cm : CM), K.In h ∧ (∀ (s : Shared) (u : Value), BindsTo s fd ⟨[u], []⟩ [(x, u)]) ∧
        (∀ ns : List Int, ns.length ≤ n → f [.scr ns] = .ok (.bl true, false)) ∧
        ∀ base : Heap, K.In base → base.Ns mainGlobals mg → FnOk l.prog w K mg base (L2N.CX l.prog w) k fa fd [x] (spP K cm f))
    (hCX : ∀ (w : World) (H : Hp) (s : Shared) (e : Value) (s' : Shared), L2N.CX l.prog w [] H s (fun _ _ _ => False) e s' → False) :
    PySem.W.WalkO q loose XP YP l.row.toRowW d [] (fun f vs => PySem.call f vs) := by
  refine Att.attach_call hn hdf fun w s₀ s₁ mg mb fa o pm cd doc a vs ns G Y ho hd hcd hmg hobj hints hlen hg => ?_
  obtain ⟨K, fd, f, cm, KX, hb, hsp, hF⟩ := F w mg fa _ Y G.T.g hmg
  refine law_call KX G.T.g G.T.b G.T.builtins G.T.nolimit hg hobj hints (Nat.le_trans hlen hn2) hr hF hb (fun H hO hS => ?_) fun H e s' => hCX w H s₁ e s'
  refine ⟨fun y => H y ≠ none, [.scr ns], fun _ h => h, RepL.cons ?_ RepL.nil, ?_⟩
  · unfold Rep
    refine ⟨a, rfl, ?_⟩
    rcases hS with h | h
    · refine .inl ⟨?_, h⟩
      rcases h with h | ⟨u, h⟩ <;> rw [h] <;> exact fun z => nomatch z
    · exact .inr h
  · rw [hsp ns hlen]
    intro F' v H' _ _ _ _ q
    have e : v = .bl true := q
    exact e
end Pv

set_option Elab.async false
set_option linter.all false
set_option maxRecDepth 100000
namespace Pv
open PySem PySem.Spec L2
open PyProof.Rows hiding St
/-! ### the combinators at a state: rules for simp, none touches a suite that is not run yet -/
section
variable {α β : Type} {ev : SL}
@[simp] theorem bnd_ap {m : M α} {f : α → M β} : bnd m f ev = match m ev with
  | .ok a ev' => f a ev'
  | .exc c ev' => .exc c ev'
  | .bad => .bad := rfl
@[simp] theorem ret_ap {a : α} : ret a ev = .ok a ev := rfl
@[simp] theorem bad_ap : (bad : M α) ev = .bad := rfl
@[simp] theorem look_ap {m : M RV} : look m ev = bnd m (fun r => ret r.1) ev := rfl
@[simp] theorem eVar_ap {i : Nat} : eVar i ev = match ev[i]? with
  | some (.val p) => .ok (p, false) ev
  | some (.own ps) => .ok (.lst ps, false) (ev.set i (.val (.lst ps)))
  | _ => .bad := rfl
@[simp] theorem pVar_ap {i : Nat} : pVar i ev = match ev[i]? with
  | some (.val p) => .ok p ev
  | some (.own ps) => .ok (.lst ps) ev
  | _ => .bad := by unfold pVar; rfl
@[simp] theorem eC_ap {p : PV} : eC p ev = .ok (p, false) ev := rfl
@[simp] theorem opt_some_ap {a : α} : opt (some a) ev = .ok a ev := rfl
@[simp] theorem opt_none_ap : opt (none : Option α) ev = .bad := rfl
@[simp] theorem eOp_ap {g : PV → PV → Option RV} {a b : M PV} : eOp g a b ev = bnd a (fun x => bnd b fun y => opt (g x y)) ev := rfl
@[simp] theorem eChain_ap {g g' : PV → PV → Option RV} {a b c : M PV} : eChain g g' a b c ev = bnd a (fun x => bnd b fun y => bnd (opt (g x y)) fun r => match r.1 with
  | .bl true => bnd c fun z => opt (g' y z)
  | .bl false => ret (.bl false, false)
  | _ => bad) ev := rfl
@[simp] theorem mRet_ap {r : RV} : mRet r ev = .ok (.rt r) ev := rfl
@[simp] theorem mRetV_ap {i : Nat} : mRetV i ev = match ev[i]? with
  | some (.own ps) => .ok (.rt (.lst ps, true)) ev
  | some (.val p) => .ok (.rt (p, false)) ev
  | _ => .bad := rfl
theorem setR_ap {i : Nat} {r : RV} : setR i r ev = if i < ev.length then .ok .nx (ev.set i (match r with
  | (.lst ps, true) => .own ps
  | (p, _) => .val p)) else .bad := rfl
@[simp] theorem setR_f {i : Nat} {p : PV} : setR i (p, false) ev = if i < ev.length then .ok .nx (ev.set i (.val p)) else .bad := by
  rw [setR_ap]; cases p <;> rfl
@[simp] theorem setR_t {i : Nat} {ps : List PV} : setR i (.lst ps, true) ev = if i < ev.length then .ok .nx (ev.set i (.own ps)) else .bad := rfl
@[simp] theorem mIfS_ap {c : M Bool} {a b : M Fl} : mIfS c a b ev = bnd c (fun k => if k then a else b) ev := rfl
@[simp] theorem mIf_ap {c : M Bool} {a b : M RV} : mIf c a b ev = bnd c (fun k => if k then a else b) ev := rfl
@[simp] theorem mNot_ap {m : M Bool} : mNot m ev = bnd m (fun b => ret (!b)) ev := rfl
@[simp] theorem mAnd_ap {a b : M Bool} : mAnd a b ev = bnd a (fun x => if x then b else ret false) ev := rfl
@[simp] theorem mOr_ap {a b : M Bool} : mOr a b ev = bnd a (fun x => if x then ret true else b) ev := rfl
@[simp] theorem vAnd_ap {a b : M RV} : vAnd a b ev = bnd a (fun r => match r.1 with
  | .bl true => b
  | .bl false => ret (.bl false, false)
  | _ => bad) ev := rfl
@[simp] theorem vOr_ap {a b : M RV} : vOr a b ev = bnd a (fun r => match r.1 with
  | .bl true => ret (.bl true, false)
  | .bl false => b
  | _ => bad) ev := rfl
@[simp] theorem vNot_ap {a : M RV} : vNot a ev = bnd a (fun r => match r.1 with
  | .bl b => ret (.bl (!b), false)
  | _ => bad) ev := rfl
@[simp] theorem blOf_ap {m : M RV} : blOf m ev = bnd m (fun r => match r.1 with
  | .bl b => ret b
  | _ => bad) ev := rfl
@[simp] theorem tTru_ap {m : M PV} : tTru m ev = bnd m (fun p => opt (truP p)) ev := rfl
@[simp] theorem kCons_ap {a : M PV} {r : M (List PV)} : kCons a r ev = bnd a (fun x => bnd r fun ps => ret (x :: ps)) ev := rfl
@[simp] theorem aCons_ap {a : M RV} {r : M (List PV)} : aCons a r ev = bnd a (fun x => bnd r fun ps => ret (x.1 :: ps)) ev := rfl
@[simp] theorem eCall_ap {g : List PV → Option RV} {a : M (List PV)} : eCall g a ev = bnd a (fun ps => opt (g ps)) ev := rfl
@[simp] theorem mTup_ap {m : M (List PV)} : mTup m ev = bnd m (fun ps => if ps.length ≤ SZ then ret (.tup ps, false) else bad) ev := rfl
@[simp] theorem mLst_ap {m : M (List PV)} : mLst m ev = bnd m (fun ps => if ps.length ≤ SZ then ret (.lst ps, true) else bad) ev := rfl
@[simp] theorem eFn_ap {f : Fn} {m : M (List PV)} : eFn f m ev = match m ev with
  | .ok ps ev' => (match f ps with
    | .ok r => .ok r ev'
    | .exc c => .exc c ev'
    | .bad => .bad)
  | .exc c ev' => .exc c ev'
  | .bad => .bad := rfl
@[simp] theorem mRaise_ap {c : Str} : mRaise c ev = .exc c ev := rfl
@[simp] theorem mTgt_ap {t : PV → SL → Option SL} {p : PV} : mTgt t p ev = match t p ev with
  | some ev' => .ok .nx ev'
  | none => .bad := rfl
@[simp] theorem tName_ap {i : Nat} {p : PV} : tName i p ev = if i < ev.length then some (ev.set i (.val p)) else none := rfl
@[simp] theorem tNames_tup {is : List Nat} {ps : List PV} : tNames is (.tup ps) ev = tNames.tN2 is ps ev := rfl
@[simp] theorem tN2_nil : tNames.tN2 [] [] ev = some ev := rfl
@[simp] theorem tN2_cons {i : Nat} {is : List Nat} {p : PV} {ps : List PV} : tNames.tN2 (i :: is) (p :: ps) ev = (tName i p ev).bind (tNames.tN2 is ps) := rfl
@[simp] theorem sq_ap {a b : M Fl} : sq a b ev = match a ev with
  | .ok .nx ev' => b ev'
  | r => r := rfl
@[simp] theorem mKdIn_ap {neg : Bool} {d : Str → Option Int} {m : M PV} : mKdIn neg d m ev = bnd m (fun p => match p with
  | .str z => ret (.bl (xor neg (d z).isSome), false)
  | _ => bad) ev := rfl
@[simp] theorem mKdIx_ap {d : Str → Option Int} {m : M PV} : mKdIx d m ev = bnd m (fun p => match p with
  | .str z => match d z with
    | some i => ret (.int i, false)
    | none => bad
  | _ => bad) ev := rfl
@[simp] theorem mIsi_ap {T : String} {m : M PV} : mIsi T m ev = bnd m (fun p => match tyP p with
  | some t => match kitB t T with
    | some b => ret (.bl b, false)
    | none => bad
  | none => bad) ev := rfl
@[simp] theorem mLenSet_ap {m : M PV} : mLenSet m ev = bnd m (fun p => match p with
  | .lst ps => match intsP ps with
    | some ns => if ns.length ≤ 1000 then ret (.int ((dedup ns).length : Nat), false) else bad
    | none => bad
  | _ => bad) ev := rfl
@[simp] theorem mMet_ap {i : Nat} {m : M (List PV)} {g : List PV → List PV → Option (List PV)} : mMet i m g ev = match ev[i]? with
  | some (.own _) => bnd m (fun as ev1 => match ev1[i]? with
    | some (.own ps) => match g ps as with
      | some qs => .ok .nx (ev1.set i (.own qs))
      | none => .bad
    | _ => .bad) ev
  | _ => .bad := rfl
@[simp] theorem mSeq_ap {m : M RV} : mSeq m ev = bnd m (fun r => match r.1 with
  | .lst ps => ret ps
  | .tup ps => ret ps
  | _ => bad) ev := rfl
@[simp] theorem mRng1_ap {m : M (List PV)} : mRng1 m ev = bnd m (fun ps => match ps with
  | [.int j] => if okR j then ret (rgP 0 j.toNat) else bad
  | _ => bad) ev := rfl
@[simp] theorem mRng2_ap {m : M (List PV)} : mRng2 m ev = bnd m (fun ps => match ps with
  | [.int i, .int j] => if okR i && okR j then ret (rgP i (j - i).toNat) else bad
  | _ => bad) ev := rfl
@[simp] theorem mComp_ap {mi : M (List PV)} {t : PV → SL → Option SL} {mt : M Bool} {me : M RV} {vs : List Nat} : mComp mi t mt me vs ev = bnd mi (fun ps ev1 => match compr t mt me vs [] ps (wipeE ev1 vs) with
  | .ok qs ev2 => .ok (.lst qs, true) (back ev1 ev2 vs)
  | _ => .bad) ev := rfl
@[simp] theorem eSl_ap {a : M PV} {lo hi : M (Option Int)} : eSl a lo hi ev = bnd a (fun p => bnd lo fun l => bnd hi fun h => opt (gSl p l h)) ev := rfl
@[simp] theorem soInt_ap {m : M PV} : soInt m ev = bnd m (fun p => match p with
  | .int i => ret (some i)
  | _ => bad) ev := rfl
@[simp] theorem mRg1_ap {m : M PV} : mRg1 m ev = bnd m (fun p => (match p with
  | .int j => ret ((0 : Int), j)
  | _ => bad : M (Int × Int))) ev := rfl
@[simp] theorem mTupRg_ap {m : M (Int × Int)} : mTupRg m ev = bnd m (fun r => if okRg r then ret (.tup (rgP r.1 (r.2 - r.1).toNat), false) else bad) ev := rfl
@[simp] theorem mLstRg_ap {m : M (Int × Int)} : mLstRg m ev = bnd m (fun r => if okRg r then ret (.lst (rgP r.1 (r.2 - r.1).toNat), true) else bad) ev := rfl
@[simp] theorem mAppPop_ap {i j : Nat} {m : M PV} : mAppPop i j m ev = match ev[i]?, ev[j]? with
  | some (.own _), some (.own _) => if i = j then .bad else bnd m (fun p ev1 => match ev1[i]?, ev1[j]?, p with
    | some (.own ps), some (.own qs), .int k => if -(2 ^ 63) ≤ k ∧ k < 2 ^ 63 ∧ ps.length < SZ then match seqIndex? k qs.length with
      | some n => match qs[n]? with
        | some q => .ok .nx ((ev1.set j (.own (qs.eraseIdx n))).set i (.own (ps ++ [q])))
        | none => .bad
      | none => .bad
      else .bad
    | _, _, _ => .bad) ev
  | _, _ => .bad := rfl
@[simp] theorem mTry_ap {mb : M Fl} {is : Str → Option Bool} {i : Nat} {ms : Str → Addr → M Fl} : mTry mb is i ms ev = match mb ev with
  | .exc d ev1 => (match is d with
    | some true => if i < ev1.length then (match ms d 0 (ev1.set i (.val (.opq (.ref 0)))) with
      | .ok f ev2 => .ok f (ev2.set i .no)
      | .exc _ _ => .bad
      | .bad => .bad) else .bad
    | some false => .exc d ev1
    | none => .bad)
  | r => r := rfl
@[simp] theorem mIsE_ap {i : Nat} {b : Bool} {a : Addr} : mIsE i b a ev = match ev[i]? with
  | some (.val (.opq v)) => if v = .ref a then .ok (.bl b, false) ev else .bad
  | _ => .bad := rfl
@[simp] theorem runF_ap {n k : Nat} {m : M Fl} {ps : List PV} : runF n k m ps = if ps.length = k ∧ k ≤ n then runB m (ev0 n ps) else .bad := rfl
@[simp] theorem runB_ap {m : M Fl} : runB m ev = match m ev with
  | .ok .nx _ => .ok (.non, false)
  | .ok (.rt r) _ => .ok r
  | .ok _ _ => .bad
  | .exc c _ => .exc c
  | .bad => .bad := rfl
@[simp] theorem loop_nil {t : PV → SL → Option SL} {mb : M Fl} : loop t mb [] ev = .ok .nx ev := rfl
end
/-! ### values -/
@[simp] theorem aSub_ii {i j : Int} : aSub (.int i) (.int j) = some (.int (i - j), false) := rfl
@[simp] theorem aMul_ii {i j : Int} : aMul (.int i) (.int j) = if smallI i || smallI j then some (.int (i * j), false) else none := rfl
@[simp] theorem aDiv_ii {i j : Int} : aDiv (.int i) (.int j) = if 0 < j ∧ j < 1073741824 then some (.int (i / j), false) else none := rfl
@[simp] theorem aMod_ii {i j : Int} : aMod (.int i) (.int j) = if 0 < j then some (.int (i % j), false) else none := rfl
@[simp] theorem aPow_ii {i j : Int} : aPow (.int i) (.int j) = if 0 ≤ j ∧ j ≤ 1000000 ∧ i.natAbs < 2 ^ 64 then some (.int (i ^ j.toNat), false) else none := rfl
@[simp] theorem cLt_ii {i j : Int} : cLt (.int i) (.int j) = some (.bl (decide (i < j)), false) := rfl
@[simp] theorem cLe_ii {i j : Int} : cLe (.int i) (.int j) = some (.bl (decide (i ≤ j)), false) := rfl
@[simp] theorem cGt_ii {i j : Int} : cGt (.int i) (.int j) = some (.bl (decide (j < i)), false) := rfl
@[simp] theorem cGe_ii {i j : Int} : cGe (.int i) (.int j) = some (.bl (decide (j ≤ i)), false) := rfl
@[simp] theorem gAdd_ii {i j : Int} : gAdd (.int i) (.int j) = some (.int (i + j), false) := rfl
@[simp] theorem gAdd_tt {ps qs : List PV} : gAdd (.tup ps) (.tup qs) = if ps.length + qs.length ≤ SZ then some (.tup (ps ++ qs), false) else none := rfl
@[simp] theorem gAdd_ll {ps qs : List PV} : gAdd (.lst ps) (.lst qs) = if ps.length + qs.length ≤ SZ then some (.lst (ps ++ qs), true) else none := rfl
@[simp] theorem gEq_ii {n : Bool} {i j : Int} : gEq n (.int i) (.int j) = some (.bl (xor n (decide (i = j))), false) := rfl
@[simp] theorem gEq_ss {n : Bool} {i j : Str} : gEq n (.str i) (.str j) = some (.bl (xor n (decide (i = j))), false) := rfl
@[simp] theorem gIx_t {ps : List PV} {i : Int} : gIx (.tup ps) (.int i) = (atI ps i).map fun p => (p, false) := rfl
@[simp] theorem gIx_l {ps : List PV} {i : Int} : gIx (.lst ps) (.int i) = (atI ps i).map fun p => (p, false) := rfl
@[simp] theorem gIx_s {ns : List Int} {i : Int} : gIx (.scr ns) (.int i) = (atI ns i).map fun p => (.int p, false) := rfl
@[simp] theorem gSl_t {ps : List PV} {lo hi : Option Int} : gSl (.tup ps) lo hi = some (.tup (cutP ps lo hi), false) := rfl
@[simp] theorem gSl_l {ps : List PV} {lo hi : Option Int} : gSl (.lst ps) lo hi = some (.lst (cutP ps lo hi), true) := rfl
@[simp] theorem gLen_t {ps : List PV} : gLen [.tup ps] = some (.int ps.length, false) := rfl
@[simp] theorem gLen_l {ps : List PV} : gLen [.lst ps] = some (.int ps.length, false) := rfl
@[simp] theorem gLen_s {ns : List Int} : gLen [.scr ns] = some (.int ns.length, false) := by
  show some (PV.int ((ns.map PV.int).length : Nat), false) = _
  rw [List.length_map]
@[simp] theorem gList_t {ps : List PV} : gList [.tup ps] = some (.lst ps, true) := rfl
@[simp] theorem gList_l {ps : List PV} : gList [.lst ps] = some (.lst ps, true) := rfl
@[simp] theorem gTuple_t {ps : List PV} : gTuple [.tup ps] = some (.tup ps, false) := rfl
@[simp] theorem gTuple_l {ps : List PV} : gTuple [.lst ps] = some (.tup ps, false) := rfl
@[simp] theorem gInt_i {i : Int} : gInt [.int i] = some (.int i, false) := rfl
@[simp] theorem gInt_b {b : Bool} : gInt [.bl b] = some (.int (if b then 1 else 0), false) := rfl
@[simp] theorem gSorted_l {ps : List PV} : gSorted [.lst ps] = (intsP ps).map fun ns => (.lst ((isort ns).map .int), true) := rfl
@[simp] theorem gSorted_t {ps : List PV} : gSorted [.tup ps] = (intsP ps).map fun ns => (.lst ((isort ns).map .int), true) := rfl
@[simp] theorem gAppend_1 {ps : List PV} {p : PV} : gAppend ps [p] = if ps.length < SZ then some (ps ++ [p]) else none := rfl
@[simp] theorem gExtend_1 {ps qs : List PV} : gExtend ps [.lst qs] = if ps.length + qs.length ≤ SZ then some (ps ++ qs) else none := rfl
@[simp] theorem kit_int : kitB "int" "int" = some true := by decide +kernel
@[simp] theorem kit_tuple : kitB "tuple" "int" = some false := by decide +kernel
@[simp] theorem ty_int {i : Int} : tyP (.int i) = some "int" := rfl
@[simp] theorem ty_tup {ps : List PV} : tyP (.tup ps) = some "tuple" := rfl
@[simp] theorem tru_bl {b : Bool} : truP (.bl b) = some b := rfl
@[simp] theorem intsP_map' {ns : List Int} : intsP (ns.map .int) = some ns := intsP_map ns
@[simp] theorem ev0_eq {n : Nat} {ps : List PV} : ev0 n ps = ps.map .val ++ List.replicate (n - ps.length) .no := rfl
@[simp] theorem SZ_eq : SZ = 16777216 := rfl
@[simp] theorem smallI_eq {i : Int} : smallI i = decide (-(2 ^ 64) < i ∧ i < 2 ^ 64) := rfl
@[simp] theorem vI_eq {i : Int} : vI i = some (.int i, false) := rfl
@[simp] theorem vB_eq {b : Bool} : vB b = some (.bl b, false) := rfl
end Pv

set_option Elab.async false
set_option linter.all false
set_option maxRecDepth 100000
namespace Pv
open PySem PySem.Spec L2
open PyProof.Rows hiding St
/-! ### == of ints in tuples, in lists -/
theorem isDs_ints : ∀ ns : List Int, isDs (ns.map .int) = true
  | [] => rfl
  | n :: ns => by rw [List.map_cons]; unfold isDs isD; rw [isDs_ints ns]; rfl
theorem toDs_ints : ∀ ns : List Int, toDs (ns.map .int) = ns.map PyData.int
  | [] => rfl
  | n :: ns => by rw [List.map_cons, List.map_cons]; unfold toDs toD; rw [toDs_ints ns]
theorem lay_ints : ∀ ns : List Int, PyData.canLayAll0 (ns.map PyData.int) = true
  | [] => by unfold PyData.canLayAll0; rfl
  | n :: ns => by rw [List.map_cons]; unfold PyData.canLayAll0 PyData.canLay0; rw [lay_ints ns]; rfl
theorem depth_ints : ∀ ns : List Int, PyData.depthAll (ns.map PyData.int) = 0
  | [] => by unfold PyData.depthAll; rfl
  | n :: ns => by rw [List.map_cons]; unfold PyData.depthAll PyData.depth; rw [depth_ints ns]; rfl
theorem eqv_ints : ∀ a b : List Int, PyData.eqvAll (a.map PyData.int) (b.map PyData.int) = decide (a = b)
  | [], [] => by unfold PyData.eqvAll; rfl
  | [], y :: ys => by rw [List.map_cons, List.map_nil]; unfold PyData.eqvAll; simp
  | x :: xs, [] => by rw [List.map_cons, List.map_nil]; unfold PyData.eqvAll; simp
  | x :: xs, y :: ys => by
    rw [List.map_cons, List.map_cons]
    unfold PyData.eqvAll PyData.eqv
    rw [eqv_ints xs ys]
    by_cases h : x = y <;> by_cases h2 : xs = ys <;> simp [h, h2]
theorem okD_tupI (ns : List Int) : okD (.tup (ns.map .int)) = true := by
  unfold okD isD toD SeqAt.shaped PyData.canLay0 PyData.depth
  rw [isDs_ints, toDs_ints, lay_ints, depth_ints]
  rfl
theorem okD_lstI (ns : List Int) : okD (.lst (ns.map .int)) = true := by
  unfold okD isD toD SeqAt.shaped PyData.canLay0 PyData.depth
  rw [isDs_ints, toDs_ints, lay_ints, depth_ints]
  rfl
theorem gEq_tupI (n : Bool) (a b : List Int) : gEq n (.tup (a.map .int)) (.tup (b.map .int)) = some (.bl (xor n (decide (a = b))), false) := by
  unfold gEq
  simp only [okD_tupI, Bool.and_self, if_true]
  unfold toD PyData.eqv
  rw [toDs_ints, toDs_ints, eqv_ints]
  rfl
theorem gEq_lstI (n : Bool) (a b : List Int) : gEq n (.lst (a.map .int)) (.lst (b.map .int)) = some (.bl (xor n (decide (a = b))), false) := by
  unfold gEq
  simp only [okD_lstI, Bool.and_self, if_true]
  unfold toD PyData.eqv
  rw [toDs_ints, toDs_ints, eqv_ints]
  rfl
/-- the numbers lo .. lo + n - 1 -/
def upTo (lo : Int) (n : Nat) : List Int := (List.range n).map fun i => lo + (i : Nat)
theorem rgP_eq (lo : Int) (n : Nat) : rgP lo n = (upTo lo n).map .int := by
  unfold rgP upTo
  rw [List.map_map]
  rfl
theorem upTo_len (lo : Int) (n : Nat) : (upTo lo n).length = n := by unfold upTo; simp
/-! ### == of a value and itself -/
mutual
theorem eqv_self : ∀ d : PyData, PyData.canLay0 d = true → PyData.eqv d d = true
  | .none, _ => by unfold PyData.eqv; rfl
  | .bool _, _ => by unfold PyData.eqv; simp
  | .int _, _ => by unfold PyData.eqv; simp
  | .str _, _ => by unfold PyData.eqv; simp
  | .list xs, h => by unfold PyData.canLay0 at h; unfold PyData.eqv; exact eqv_selfs xs h
  | .tuple xs, h => by unfold PyData.canLay0 at h; unfold PyData.eqv; exact eqv_selfs xs h
  | .dict _, h => by unfold PyData.canLay0 at h; cases h
theorem eqv_selfs : ∀ ds : List PyData, PyData.canLayAll0 ds = true → PyData.eqvAll ds ds = true
  | [], _ => by unfold PyData.eqvAll; rfl
  | d :: ds, h => by
    unfold PyData.canLayAll0 at h
    rw [Bool.and_eq_true] at h
    unfold PyData.eqvAll
    rw [eqv_self d h.1, eqv_selfs ds h.2]
    rfl
end
theorem gEq_self {p : PV} (n : Bool) (h : okD p = true) : gEq n p p = some (.bl (!n), false) := by
  have h0 := h
  unfold okD SeqAt.shaped at h0
  simp only [Bool.and_eq_true] at h0
  have e := eqv_self (toD p) h0.2.1
  unfold gEq
  split
  · simp
  · simp
  · simp
  · rw [h, e]
    cases n <;> rfl
/-! ### a comprehension over names alone -/
theorem compr_id {v : Nat} : ∀ (ps acc : List PV) (ev : SL), ev[v]? = some .no → acc.length + ps.length ≤ SZ → compr (tName v) (ret true) (eVar v) [v] acc ps ev = .ok (acc ++ ps) ev
  | [], acc, ev, _, _ => by rw [compr]; simp
  | p :: ps, acc, ev, h, hz => by
    have hl : v < ev.length := (List.getElem?_eq_some_iff.mp h).1
    rw [List.length_cons] at hz
    have e1 : wipeE (ev.set v (.val p)) [v] = ev := by
      show (ev.set v (.val p)).set v .no = ev
      rw [List.set_set]
      apply List.ext_getElem?
      intro i
      by_cases hi : v = i
      · subst hi; rw [List.getElem?_set_self hl, h]
      · rw [List.getElem?_set_ne hi]
    have e2 : turn (tName v) (ret true) (eVar v) p ev = .ok (some p) (ev.set v (.val p)) := by
      unfold turn
      simp [hl]
    rw [compr]
    simp only [e2]
    rw [if_pos (by omega), e1, compr_id ps (acc ++ [p]) ev h (by rw [List.length_append, List.length_singleton]; omega)]
    simp
/-! ### loops by an invariant -/
theorem loop_inv {t : PV → SL → Option SL} {mb : M Fl} {I : Nat → SL → Prop} {Q : SL → Prop} : ∀ {ps : List PV} (k : Nat) {ev : SL}, (∀ j p ev, ps[j]? = some p → I (k + j) ev → ∃ ev1, t p ev = some ev1 ∧ ((∃ ev2, mb ev1 = .ok .nx ev2 ∧ I (k + j + 1) ev2) ∨ (∃ ev2, mb ev1 = .ok .bk ev2 ∧ Q ev2))) → I k ev →
    ∃ ev', loop t mb ps ev = .ok .nx ev' ∧ (I (k + ps.length) ev' ∨ Q ev')
  | [], k, ev, _, h => ⟨ev, rfl, .inl h⟩
  | p :: ps, k, ev, st, h => by
    obtain ⟨ev1, e1, r⟩ := st 0 p ev rfl h
    rcases r with ⟨ev2, e2, h2⟩ | ⟨ev2, e2, h2⟩
    · obtain ⟨ev', e3, h3⟩ := loop_inv (ps := ps) (k + 1) (ev := ev2) (fun j q ev z hI => by
        have := st (j + 1) q ev z (by rw [show k + (j + 1) = k + 1 + j by omega]; exact hI)
        rw [show k + (j + 1) + 1 = k + 1 + j + 1 by omega] at this
        exact this) (by simpa using h2)
      refine ⟨ev', ?_, ?_⟩
      · rw [loop]
        simp only [e1, e2, e3]
      · rw [List.length_cons, show k + (ps.length + 1) = k + 1 + ps.length by omega]
        exact h3
    · refine ⟨ev2, ?_, .inr h2⟩
      rw [loop]
      simp only [e1, e2]
theorem rgP_get {lo : Int} {n j : Nat} {p : PV} (h : (rgP lo n)[j]? = some p) : j < n ∧ p = .int (lo + (j : Nat)) := by
  have hj : j < n := by
    have := (List.getElem?_eq_some_iff.mp h).1
    unfold rgP at this
    rwa [List.length_map, List.length_range] at this
  unfold rgP at h
  rw [List.getElem?_map, List.getElem?_range hj] at h
  cases h
  exact ⟨hj, rfl⟩
theorem rgP_len (lo : Int) (n : Nat) : (rgP lo n).length = n := by unfold rgP; simp
/-! ### blocks, step by step -/
theorem sq_nx {a b : M Fl} {ev ev' : SL} (h : a ev = .ok .nx ev') : sq a b ev = b ev' := by unfold sq; rw [h]
theorem sq_rt {a b : M Fl} {ev ev' : SL} {r : RV} (h : a ev = .ok (.rt r) ev') : sq a b ev = .ok (.rt r) ev' := by unfold sq; rw [h]
theorem sq_bk {a b : M Fl} {ev ev' : SL} (h : a ev = .ok .bk ev') : sq a b ev = .ok .bk ev' := by unfold sq; rw [h]
theorem sq_exc {a b : M Fl} {ev ev' : SL} {c : Str} (h : a ev = .exc c ev') : sq a b ev = .exc c ev' := by unfold sq; rw [h]
theorem bnd_ok {α β : Type} {m : M α} {f : α → M β} {ev ev' : SL} {a : α} (h : m ev = .ok a ev') : bnd m f ev = f a ev' := by unfold bnd; rw [h]
theorem bnd_exc {α β : Type} {m : M α} {f : α → M β} {ev ev' : SL} {c : Str} (h : m ev = .exc c ev') : bnd m f ev = .exc c ev' := by unfold bnd; rw [h]
theorem if_t {c : M Bool} {a b : M Fl} {ev ev' : SL} (h : c ev = .ok true ev') : mIfS c a b ev = a ev' := by unfold mIfS; rw [bnd_ok h]; rfl
theorem if_f {c : M Bool} {a b : M Fl} {ev ev' : SL} (h : c ev = .ok false ev') : mIfS c a b ev = b ev' := by unfold mIfS; rw [bnd_ok h]; rfl
theorem runF_ok {n k : Nat} {m : M Fl} {ps : List PV} {r : RV} {ev' : SL} (h : m (ev0 n ps) = .ok (.rt r) ev') (hk : ps.length = k) (hn : k ≤ n) : runF n k m ps = .ok r := by
  unfold runF
  rw [if_pos ⟨hk, hn⟩]
  unfold runB
  rw [h]
theorem runF_exc {n k : Nat} {m : M Fl} {ps : List PV} {c : Str} {ev' : SL} (h : m (ev0 n ps) = .exc c ev') (hk : ps.length = k) (hn : k ≤ n) : runF n k m ps = .exc c := by
  unfold runF
  rw [if_pos ⟨hk, hn⟩]
  unfold runB
  rw [h]
theorem comp_ok {mi : M (List PV)} {t : PV → SL → Option SL} {mt : M Bool} {me : M RV} {vs : List Nat} {ev ev1 ev2 : SL} {ps qs : List PV} (h : mi ev = .ok ps ev1) (hc : compr t mt me vs [] ps (wipeE ev1 vs) = .ok qs ev2) : mComp mi t mt me vs ev = .ok (.lst qs, true) (back ev1 ev2 vs) := by
  unfold mComp
  rw [bnd_ok h]
  simp only [hc]
end Pv

set_option Elab.async false
set_option linter.all false
set_option maxRecDepth 100000
namespace Pv
open PySem PySem.Spec L2
open PyProof.Rows hiding St
section
variable {X : Cx} {W : WX} {cm : CM}
/-! ### xs[::-1] -/
def mRev (m : M PV) : M RV := bnd m fun p => match p with
  | .lst ps => ret (.lst ps.reverse, true)
  | _ => bad
theorem e_revL {e : Expr} {m : M PV} {k : Nat} {p1 p2 p3 pos : Pos} (s : Pv.SP X W cm e m) : SE X W cm (.Subscript e (.Slice none none (some (.UnaryOp .USub (.Constant (.int 1) k p1) p2)) p3) pos) (mRev m) := .mk' fun F H0 H ev σ Q r h => by
  refine sE_of (pe_revL sE_pe) ?_
  refine s.go r (h.bnd.mono fun q ev1 F1 H1 a1 hh v rv => ?_)
  have h2 := hh.2
  cases q with
  | lst ps =>
    obtain ⟨a, xs, rfl, hx, rl⟩ := rv
    refine ⟨a, xs, rfl, SqL.of hx, fun l hl => ?_⟩
    exact h2 F1 _ (a1.er.fresh hl) _ (a1.er.newL a1.same hl rl.reverse)
  | _ => exact h2.elim
/-! ### xs.insert(i, y) -/
def gInsert : List PV → List PV → Option (List PV)
  | ps, [.int i, p] => if ps.length < SZ ∧ 0 ≤ i ∧ i < 2 ^ 63 then some (ps.take i.toNat ++ [p] ++ ps.drop i.toNat) else none
  | _, _ => none
theorem k_insert : MetOk X "list.insert" gInsert := fun F H a xs vs ps as qs hx rx rs e => by
  unfold gInsert at e
  split at e
  · rename_i i p
    split at e
    · rename_i hz
      cases e
      unfold RepL at rs
      obtain ⟨y, ys, rfl, r1, r2⟩ := rs
      obtain ⟨v, rfl, rv⟩ := r2.one
      unfold Rep at r1
      subst r1
      exact ⟨_, xs.take i.toNat ++ [v] ++ xs.drop i.toNat, _, mt_insert, ((rx.take _).append (RepL.cons rv RepL.nil)).append (rx.drop _), fun Q hq => ⟨a, xs, i, v, rfl, rfl, hx, by rw [rx.length]; exact hz.1, hz.2.1, hz.2.2, hq⟩⟩
    · cases e
  · cases e
/-! ### xs.reverse() -/
def mRevS (i : Nat) : M Fl := fun ev => match ev[i]? with
  | some (.own ps) => .ok .nx (ev.set i (.own ps.reverse))
  | _ => .bad
theorem s_rev {i : Nat} {x : Str} {p apos cpos pos : Pos} (hi : X.N[i]? = some x := by rfl) (hv : Vis X.env.scope x := by first | exact Or.inl rfl | exact Or.inr (Or.inl rfl) | exact Or.inr (Or.inr rfl)) (hd : (x == ("__debug__" : Str)) = false := by decide) (hcd : (x == ("__classdict__" : Str)) = false := by decide)
    (hbase : attributeBase (.Name x p) "reverse" X.env (eval (.Name x p) X.env) = eval (.Name x p) X.env := by rfl) (hline : (apos.endLine == cpos.line) = true := by rfl)
    (hs : swapsWith (.Call (.Attribute (.Name x p) "reverse" apos) [] [] cpos) none pos.line X.env = pure false := by rfl) :
    SS X W cm (.Expr (.Call (.Attribute (.Name x p) "reverse" apos) [] [] cpos) pos) (mRevS i) := ⟨fun {F0 F H0 H ev σ D} b h => by
  refine sS_of (ps_expr (pe_bm0 PySem.F.plainAttrs_list PySem.F.slot_list_reverse PySem.F.type_list_reverse mt_reverse (pe_var hi hv hd hcd) hbase hline) hs) ?_
  have hb := h.not_bad
  unfold mRevS at hb
  split at hb
  rotate_left
  · exact absurd rfl hb
  rename_i ps e0
  obtain ⟨o, e1, a, xs, rfl, e2, q0, nf, e3⟩ := b.er.slot i _ e0
  refine ⟨_, e1, .inl ⟨rfl, xs, SqL.of e2⟩, ?_⟩
  have m1 := b.setOwn e0 e1 q0.reverse
  refine ⟨a, xs, rfl, rfl, e2, ?_⟩
  exact h.nx (by unfold mRevS; rw [e0]) m1⟩
end
end Pv

set_option Elab.async false
set_option linter.all false
set_option maxRecDepth 100000
namespace Pv
open PySem PySem.Spec L2
open PyProof.Rows hiding St
/-! ### comprehensions of one name, whatever its tests and element -/
theorem wipe_one {v : Nat} {ev : SL} {s : Slot} (h : ev[v]? = some .no) : wipeE (ev.set v s) [v] = ev := by
  show (ev.set v s).set v .no = ev
  rw [List.set_set]
  apply List.ext_getElem?
  intro i
  by_cases hi : v = i
  · subst hi; rw [List.getElem?_set_self (List.getElem?_eq_some_iff.mp h).1, h]
  · rw [List.getElem?_set_ne hi]
theorem compr_fm {v : Nat} {mt : M Bool} {me : M RV} {f : PV → Option PV} : ∀ (ps acc : List PV) (ev : SL), ev[v]? = some .no → (∀ p ∈ ps, turn (tName v) mt me p ev = .ok (f p) (ev.set v (.val p))) → acc.length + ps.length ≤ SZ → compr (tName v) mt me [v] acc ps ev = .ok (acc ++ ps.filterMap f) ev
  | [], acc, ev, _, _, _ => by rw [compr]; simp
  | p :: ps, acc, ev, h, hm, hz => by
    rw [List.length_cons] at hz
    have h1 := hm p (by simp)
    rw [compr]
    simp only [h1]
    cases c : f p with
    | none =>
      simp only
      rw [wipe_one h, compr_fm ps acc ev h (fun q hq => hm q (by simp [hq])) (by omega), List.filterMap_cons, c]
    | some q =>
      simp only
      rw [if_pos (by omega), wipe_one h, compr_fm ps (acc ++ [q]) ev h (fun q hq => hm q (by simp [hq])) (by rw [List.length_append, List.length_singleton]; omega), List.filterMap_cons, c]
      simp
theorem turn_fil {v : Nat} {mt : M Bool} {p : PV} {ev : SL} {b : Bool} (h : ev[v]? = some .no) (hm : mt (ev.set v (.val p)) = .ok b (ev.set v (.val p))) : turn (tName v) mt (eVar v) p ev = .ok (if b then some p else none) (ev.set v (.val p)) := by
  have hl : v < ev.length := (List.getElem?_eq_some_iff.mp h).1
  unfold turn
  cases b <;> simp [hl, hm]
theorem turn_map {v : Nat} {me : M RV} {p q : PV} {fr : Bool} {ev : SL} (h : ev[v]? = some .no) (hm : me (ev.set v (.val p)) = .ok (q, fr) (ev.set v (.val p))) : turn (tName v) (ret true) me p ev = .ok (some q) (ev.set v (.val p)) := by
  have hl : v < ev.length := (List.getElem?_eq_some_iff.mp h).1
  unfold turn
  simp [hl, hm]
theorem fm_fil (P : Int → Bool) : ∀ l : List Int, (l.map PV.int).filterMap (fun p => match p with
    | .int i => if P i then some (PV.int i) else none
    | _ => none) = (l.filter P).map .int
  | [] => rfl
  | i :: l => by
    rw [List.map_cons, List.filterMap_cons, List.filter_cons, fm_fil P l]
    dsimp only
    by_cases c : P i = true
    · rw [if_pos c, if_pos c]; rfl
    · rw [if_neg c, if_neg c]
/-- of ints, by a test -/
theorem compr_int {v : Nat} {mt : M Bool} {P : Int → Bool} (l : List Int) (ev : SL) (h : ev[v]? = some .no) (hm : ∀ i ∈ l, mt (ev.set v (.val (.int i))) = .ok (P i) (ev.set v (.val (.int i)))) (hz : l.length ≤ SZ) : compr (tName v) mt (eVar v) [v] [] (l.map .int) ev = .ok ((l.filter P).map .int) ev := by
  rw [compr_fm (f := fun p => match p with
    | .int i => if P i then some (PV.int i) else none
    | _ => none) (l.map .int) [] ev h (fun p hp => by
      obtain ⟨i, hi, rfl⟩ := List.mem_map.mp hp
      exact turn_fil h (hm i hi)) (by rw [List.length_nil, List.length_map]; omega), List.nil_append, fm_fil]
/-! ### in, of ints -/
theorem inP_int (i : Int) : ∀ l : List Int, inP (.int i) (l.map .int) = decide (i ∈ l)
  | [] => by simp [inP, inV]
  | j :: l => by
    have e := inP_int i l
    unfold inP inV at e ⊢
    rw [List.map_cons, List.map_cons, List.any_cons, e]
    have : eqV (toV (.int j)) (toV (.int i)) = (j == i) := rfl
    rw [this]
    by_cases h : j = i
    · rw [h, beq_self_eq_true, Bool.true_or, decide_eq_true (List.mem_cons_self)]
    · rw [beq_eq_false_iff_ne.mpr h, Bool.false_or]
      by_cases c : i ∈ l
      · rw [decide_eq_true c, decide_eq_true (List.mem_cons_of_mem _ c)]
      · rw [decide_eq_false c, decide_eq_false (fun z => (List.mem_cons.mp z).elim (fun y => h y.symm) c)]
theorem flat_ints : ∀ l : List Int, (l.map PV.int).all flatP = true
  | [] => rfl
  | i :: l => by rw [List.map_cons, List.all_cons, flat_ints l]; rfl
theorem gIn_tup (n : Bool) (i : Int) (l : List Int) : gIn n (.int i) (.tup (l.map .int)) = some (.bl (xor n (decide (i ∈ l))), false) := by
  show (if (flatP (.int i) && (l.map PV.int).all flatP) = true then vB (xor n (inP (.int i) (l.map .int))) else none) = _
  rw [flat_ints, inP_int]
  rfl
theorem gIn_lst (n : Bool) (i : Int) (l : List Int) : gIn n (.int i) (.lst (l.map .int)) = some (.bl (xor n (decide (i ∈ l))), false) := by
  show (if (flatP (.int i) && (l.map PV.int).all flatP) = true then vB (xor n (inP (.int i) (l.map .int))) else none) = _
  rw [flat_ints, inP_int]
  rfl
end Pv

set_option Elab.async false
set_option linter.all false
set_option maxRecDepth 100000
namespace Pv
open PySem PySem.Spec L2
open PyProof.Rows hiding St
/-! ### sorted(xs, key=f), f a def of the program -/
theorem perm_lift {α β : Type} {g : α → β} {l m : List β} (h : l.Perm m) : ∀ L : List α, m = L.map g → ∃ L' : List α, L'.Perm L ∧ l = L'.map g := by
  induction h with
  | nil =>
    intro L e
    cases L with
    | nil => exact ⟨[], .refl _, rfl⟩
    | cons a L => cases e
  | cons x h ih =>
    intro L e
    cases L with
    | nil => cases e
    | cons a L =>
      rw [List.map_cons] at e
      injection e with e1 e2
      obtain ⟨L', p, q⟩ := ih L e2
      exact ⟨a :: L', p.cons a, by rw [List.map_cons, q, e1]⟩
  | swap x y l =>
    intro L e
    match L, e with
    | a :: b :: L, e =>
      rw [List.map_cons, List.map_cons] at e
      injection e with e1 e2
      injection e2 with e2 e3
      exact ⟨b :: a :: L, List.Perm.swap _ _ _, by rw [List.map_cons, List.map_cons, e1, e2, e3]⟩
  | trans h1 h2 ih1 ih2 =>
    intro L e
    obtain ⟨L1, p1, q1⟩ := ih2 L e
    obtain ⟨L2, p2, q2⟩ := ih1 L1 q1
    exact ⟨L2, p2.trans p1, q2⟩
section
variable {X : Cx} {cm : CM} {pins : List (Addr × Obj)} {σ : St} {H : Hp} {s : Shared}
/-- two untracked objects of ours have turned, and one of them is tracked from now on -/
theorem inv_take {it jt : Addr} {h' : Heap} {t' : Nat} {o : HO} (I : L2.Inv X pins σ H s) (k : ∀ b u, b ≠ it → b ≠ jt → s.heap.get? b = some u → h'.get? b = some u) (hn : H it = none) (jn : H jt = none) (hL : it ≠ X.env.locals) (jL : jt ≠ X.env.locals)
    (h1 : X.s_0.heap.objs.size ≤ it) (j1 : X.s_0.heap.objs.size ≤ jt) (h2 : ∀ x c, X.env.cells.lookup x = some c → c ≠ it) (j2 : ∀ x c, X.env.cells.lookup x = some c → c ≠ jt) (h3 : ∀ p ∈ X.pn ++ pins, p.1 ≠ it) (j3 : ∀ p ∈ X.pn ++ pins, p.1 ≠ jt)
    (new : ObjOk X.prog X.w (upd H it o) h' it o) : L2.Inv X pins σ (upd H it o) { s with heap := h', toks := t' } := by
  have nit : ∀ b u, H b = some u → b ≠ it := fun b u e z => by rw [z, hn] at e; cases e
  have njt : ∀ b u, H b = some u → b ≠ jt := fun b u e z => by rw [z, jn] at e; cases e
  have kk : ∀ b u, b ∉ [it, jt] → s.heap.get? b = some u → h'.get? b = some u := fun b u hb e => k b u (fun z => hb (by simp [z])) (fun z => hb (by simp [z])) e
  refine I.step (g' := s.gens) (d' := s.drawn) (ch := [it, jt]) (fun b hb => ?_) (fun b u _ _ hc e _ => kk b u hc e) (fun b u _ _ hc e _ => ⟨u.slots, kk b u hc e⟩)
    (fun b u hc _ n => by rw [upd_ne (fun z => hc (by simp [z]))]; exact n) (fun b u hc e => ⟨u, kk b u hc e⟩)
    (fun b u e => by rw [upd_ne (nit b _ e)]; exact e) (fun b u v e => by rw [upd_ne (nit b _ e)]; exact e) (fun b ps e => ⟨#[], by rw [upd_ne (nit b _ e), e]; simp⟩) (fun m hm => ?_) (fun b u e => ?_) I.bare
  · rcases List.mem_cons.mp hb with rfl | hb
    · exact ⟨.inr h1, hL, h2, h3⟩
    · obtain rfl := List.mem_singleton.mp hb
      exact ⟨.inr j1, jL, j2, j3⟩
  · obtain ⟨ob, es, ep, ho, r⟩ := hm
    exact ⟨ob, es, ep, k _ ob (Ne.symm hL) (Ne.symm jL) ho, r⟩
  · by_cases hb : b = it
    · subst hb
      rw [upd_same] at e
      cases e
      exact new
    · rw [upd_ne hb] at e
      refine (I.hok b u e).stay (fun c v hc q => ?_) (fun c q => by rw [upd_ne (nit c _ q)]; exact q) fun c ys q => by rw [upd_ne (nit c _ q)]; exact q
      rcases hc with z | z
      · subst z
        exact k c v (nit c u e) (njt c u e) q
      · exact k c v (nit c _ z) (njt c _ z) q
/-- what a new object of ours may rely on -/
structure Ours (X : Cx) (a : Addr) : Prop where
  loc : a ≠ X.env.locals
  old : X.s_0.heap.objs.size ≤ a
  cel : ∀ x c, X.env.cells.lookup x = some c → c ≠ a
  fs : a ∉ X.fs
theorem ours_of (I : L2.Inv X pins σ H s) {a : Addr} (h : s.heap.objs.size ≤ a) : Ours X a where
  loc := fun z => absurd (Nat.lt_of_lt_of_le I.lt (by rw [← z]; exact h)) (Nat.lt_irrefl _)
  old := Nat.le_trans I.sz h
  cel := fun x c e z => by
    obtain ⟨v, o, ho, _⟩ := I.cell x c e
    have q := Heap.lt_size ho
    rw [z] at q
    exact absurd (Nat.lt_of_lt_of_le q h) (Nat.lt_irrefl _)
  fs := I.nofs h
/-- the key of one item -/
theorem key_call {k : Nat} {fa : Addr} {fd : FuncData} {ps : List Str} {fn : Fn} (F : FnOk X.prog X.w X.K X.mg X.base (L2N.CX X.prog X.w) k fa fd ps (spP X.K cm fn)) (hb : Binds X.K fd ps []) (hr : Room (k + 1) X.A) (I : L2.Inv X pins σ H s)
    {x : V} {u : Value} (r : RelV x u) {FF : FS} {p : PV} {i : Int} (hd : ∀ a, FF a → H a ≠ none) (q : Rep X.K FF H x p) (e : fn [p] = .ok (.int i, false)) :
    wpAny (model X.prog X.w) X.A.in1.in1 (call (.ref fa) [u]) (fun v s' => ∃ H' t, L2.Inv X pins σ H' s' ∧ Same H H' ∧ v = .int i t) (fun _ _ => False) s := by
  have hsp : spP X.K cm fn [x] H (fun v H' => Same H H' ∧ v = .int i) (fun _ _ _ => False) := by
    refine ⟨FF, [p], hd, RepL.cons q RepL.nil, ?_⟩
    rw [e]
    intro F' v H' s1 _ _ _ rr
    have : v = .int i := by
      have h : Rep X.K F' H' v (.int i) := rr
      unfold Rep at h
      exact h
    exact ⟨s1, this⟩
  have hl : [u].length = ps.length := by
    have := F.len _ _ _ _ hsp
    exact this
  have b := hb s [u] I.kIn (by rw [List.append_nil]; exact hl)
  rw [List.append_nil] at b
  have hr' : Room k X.A.in1.in1 := ⟨hr.hd, by have := hr.dp; show X.A.depth + 3 * k + 5 < _; omega, by have := hr.un; show X.A.units + 1 + 1 + 16 * k + 200 < _; omega⟩
  refine wpAny_call (codeAny_mono (F.run X.A.in1.in1 X.stack s H ⟨[u], []⟩ [u] [x] (fun v H' => Same H H' ∧ v = .int i) (fun _ _ _ => False) hr' I.env0.in1.in1 b (.cons r .nil) hsp) fun r s' hq => ?_)
  cases r with
  | error er =>
    obtain ⟨_, _, _, _, _, _, _, _, _, _, _, _, h⟩ := hq
    exact h
  | ok fl =>
    cases fl with
    | ret u' =>
      obtain ⟨v, H', I', rv, s1, rfl⟩ := I.after hq
      obtain ⟨t, rfl⟩ := rv
      exact ⟨H', t, I', s1, rfl⟩
    | next => exact False.elim hq
    | brk => exact False.elim hq
    | cont => exact False.elim hq
end
end Pv

set_option Elab.async false
set_option linter.all false
set_option maxRecDepth 100000
set_option maxHeartbeats 4000000
namespace Pv
open PySem PySem.Spec L2
open PyProof.Rows hiding St
section
variable {prog : Program} {w : World} {A : Around} {E : Value → Shared → Prop} {s : Shared} {D kS : Addr} {its : List Value} {kz : List Int} {keys : Array Value} {e e1 : Nat} {P : PySem.Fin → Shared → Prop}
/-- what stands behind the sort: D has the sorted items, nothing else but the list of keys has changed -/
def Sorted (s : Shared) (D kS : Addr) (kz : List Int) (its : List Value) (P : PySem.Fin → Shared → Prop) : Prop :=
  ∀ (h' : Heap) (out : Array Value) (c : Nat), (∀ b, b ≠ D → b ≠ kS → h'.get? b = s.heap.get? b) → (∃ u, h'.get? kS = some u) → h'.get? D = some (seqObj "list" out c) → KskOut false kz its out.toList → P (.done (.ret .none)) { s with heap := h' }
theorem key_tail {st : SortSt} (gK : s.heap.get? kS = some (seqObj "list" keys e)) (gD : s.heap.get? D = some (seqObj "list" #[] e1)) (ne : kS ≠ D) (hk : IntsAre keys.toList kz) (hl : kz.length = its.length) (hz : its.length ≤ sizeLine)
    (hp : (arrOf st).Perm (keys.zip its.toArray)) (ho : SortedTo (arrOf st) (arrOf st).size) (hf : failedOf st = none) (h : Sorted s D kS kz its P) : wpAny (model prog w) A (ksk_tail D false e1 (.ref kS) st) P E s := by
  have z2 : its.length ≤ 16777216 := hz
  have kl : keys.size = its.length := by
    have := hk.length
    rw [Array.length_toList] at this
    omega
  have al : (arrOf st).size = its.length := by rw [hp.size_eq, Array.size_zip, kl, List.size_toArray, Nat.min_self]
  have u1 := Heap.SameBut.update s.heap kS (Obj.mapSeq fun _ => (#[] : Array Value))
  have gD1 := (u1.2 D ne.symm).trans gD
  obtain ⟨cK, gK1⟩ : ∃ c, (s.heap.update kS (Obj.mapSeq fun _ => (#[] : Array Value))).get? kS = some (seqObj "list" #[] c) := ⟨_, get?_update_seq gK fun _ => #[]⟩
  have zK : keys.size ≤ sizeLine := by rw [kl]; exact hz
  have zD : ((arrOf st).map (·.2)).size ≤ sizeLine + 1 := by
    rw [Array.size_map, al]
    exact Nat.le_succ_of_le hz
  have u2 := Heap.SameBut.update (s.heap.update kS (Obj.mapSeq fun _ => (#[] : Array Value))) D (Obj.mapSeq fun _ => (arrOf st).map (·.2))
  have ko := ksk_out (b := false) hk hp ho
  rw [if_neg (by decide)] at ko
  unfold ksk_tail
  dsimp only
  refine wpAny_bind (listUpdate_at gK rfl ?_ zK (Nat.zero_le _))
  refine wpAny_bind ?_
  refine wpAny_letGo ?_
  refine wpAny_bind ?_
  refine seqEpoch_at gD1 rfl ?_
  simp only [Bool.false_eq_true, if_false]
  refine wpAny_bind ?_
  refine listUpdate_at gD1 rfl ?_ (Nat.zero_le _) zD
  rw [hf]
  simp only [bne_self_eq_false, Bool.false_eq_true, if_false]
  exact wpAny_pure (h _ ((arrOf st).map (·.2)) _ (fun b n1 n2 => (u2.2 b n1).trans (u1.2 b n2)) ⟨_, (u2.2 kS ne).trans gK1⟩ (get?_update_seq gD1 fun _ => (arrOf st).map (·.2)) ko)
theorem key_end (gK : s.heap.get? kS = some (seqObj "list" keys e)) (gD : s.heap.get? D = some (seqObj "list" #[] e1)) (ne : kS ≠ D) (hk : IntsAre keys.toList kz) (hl : kz.length = its.length) (hz : its.length ≤ sizeLine) (h : Sorted s D kS kz its P) :
    wpAny (model prog w) A (ksk_end D false its.toArray e1 (.ref kS) keys) P E s := by
  have kl : keys.size = its.length := by
    have := hk.length
    rw [Array.length_toList] at this
    omega
  have zl : (keys.zip its.toArray).size = its.length := by rw [Array.size_zip, kl, List.size_toArray, Nat.min_self]
  unfold ksk_end
  dsimp only
  simp only [Bool.false_eq_true, if_false]
  by_cases c : its.toArray.size < 2
  · simp only [if_pos c]
    refine wpAny_bind (wpAny_pure (wpAny_bind (wpAny_pure ?_)))
    refine key_tail (st := SortSt.mk' general' (keys.zip its.toArray) #[] 7 none) gK gD ne hk hl hz (Array.Perm.refl _) (fun i j q r => ?_) rfl h
    have r' : j < (keys.zip its.toArray).size := r
    rw [zl] at r'
    rw [List.size_toArray] at c
    obtain rfl : i = j := by omega
    exact Int.le_refl _
  · simp only [if_neg c]
    rw [List.size_toArray] at c
    rw [ksk_kind hk (by omega)]
    refine wpAny_bind (wpAny_pure (wpAny_bind (wpAny_mono (wpS_sortRunsAny (κ := intKind) (a₀ := keys.zip its.toArray) (st := SortSt.mk' oneType' (keys.zip its.toArray) #[] 7 none)
      (Q := fun _ t => (arrOf t).Perm (keys.zip its.toArray) ∧ failedOf t = none ∧ SortedTo (arrOf t) (keys.zip its.toArray).size) intKind_oneLt (ksk_keysOfInt (ksk_intKeys hk)) ⟨Array.Perm.refl _, rfl, rfl⟩ rfl (by rw [zl]; omega) fun t a1 a2 a3 => ⟨a1, a2, sortedTo_of_int a3⟩) ?_ fun _ _ q => q)))
    rintro ⟨⟨⟩, t⟩ s' ⟨rfl, hp, hf, ho⟩
    dsimp only
    exact key_tail gK gD ne hk hl hz hp (by rw [hp.size_eq]; exact ho) hf h
end
end Pv

set_option Elab.async false
set_option linter.all false
set_option maxRecDepth 100000
set_option maxHeartbeats 4000000
namespace Pv
open PySem PySem.Spec L2
open PyProof.Rows hiding St
section
variable {X : Cx} {cm : CM} {pins : List (Addr × Obj)} {σ : St} {H : Hp} {s : Shared} {D kS : Addr} {e1 : Nat}
/-- the keys of the items -/
def KeysAt (fn : Fn) (ps : List PV) (kz : List Int) : Prop := ps.length = kz.length ∧ ∀ (j : Nat) (p : PV) (i : Int), ps[j]? = some p → kz[j]? = some i → fn [p] = .ok (.int i, false)
theorem vals_get : ∀ {xs : List V} {us : List Value} {j : Nat} {u : Value}, Vals xs us → us[j]? = some u → ∃ x, xs[j]? = some x ∧ RelV x u
  | _, _, 0, _, .cons r t, h => by simp at h; subst h; exact ⟨_, rfl, r⟩
  | _, _, j + 1, u, .cons r t, h => by
    obtain ⟨x, e, q⟩ := vals_get (j := j) t (by simpa using h)
    exact ⟨x, by simpa using e, q⟩
theorem repl_get {K : Fr} {F : FS} : ∀ {xs : List V} {ps : List PV} {j : Nat} {x : V}, RepL K F H xs ps → xs[j]? = some x → ∃ p, ps[j]? = some p ∧ Rep K F H x p
  | xs, [], j, x, h, e => by rw [RepL.nil_inv h] at e; simp at e
  | xs, p :: ps, 0, x, h, e => by
    unfold RepL at h
    obtain ⟨y, r, rfl, h1, h2⟩ := h
    simp at e; subst e
    exact ⟨p, rfl, h1⟩
  | xs, p :: ps, j + 1, x, h, e => by
    unfold RepL at h
    obtain ⟨y, r, rfl, h1, h2⟩ := h
    obtain ⟨q, e1, e2⟩ := repl_get (j := j) h2 (by simpa using e)
    exact ⟨q, by simpa using e1, e2⟩
/-- D and the keys as they stand while the keys are asked -/
def Asked (X : Cx) (pins : List (Addr × Obj)) (σ : St) (H : Hp) (D kS : Addr) (e1 : Nat) (ks : List Int) (s : Shared) : Prop :=
  ∃ (H' : Hp) (kA : Array Value) (e : Nat), L2.Inv X ((kS, seqObj "list" kA e) :: (D, seqObj "list" #[] e1) :: pins) σ H' s ∧ Same H H' ∧ IntsAre kA.toList ks
theorem key_rest {k : Nat} {fa : Addr} {fd : FuncData} {qs : List Str} {fn : Fn} (F : FnOk X.prog X.w X.K X.mg X.base (L2N.CX X.prog X.w) k fa fd qs (spP X.K cm fn)) (hb : Binds X.K fd qs []) (hr : Room (k + 1) X.A)
    (oD : Ours X D) (oK : Ours X kS) (ne : kS ≠ D) (pD : ∀ p ∈ X.pn ++ pins, p.1 ≠ D) (pK : ∀ p ∈ X.pn ++ pins, p.1 ≠ kS)
    {xs : List V} {its : List Value} {ps : List PV} {kz : List Int} {FF : FS} (rv : Vals xs its) (rl : RepL X.K FF H xs ps) (hd : ∀ a, FF a → H a ≠ none) (ka : KeysAt fn ps kz) (hz : xs.length ≤ sizeLine)
    {P : PySem.Fin → Shared → Prop} (h0 : Asked X pins σ H D kS e1 [] s) (h : ∀ s', Asked X pins σ H D kS e1 kz s' → Sorted s' D kS kz its P) :
    wpAny (model X.prog X.w) X.A.in1.in1 (ksk_rest D (.ref fa) false its.toArray e1 (.ref kS)) P (fun _ _ => False) s := by
  have hlx : xs.length = its.length := rv.length
  have hlp : xs.length = ps.length := rl.length
  have hlk := ka.1
  unfold ksk_rest
  refine wpAny_bind (wpAny_rule ?_)
  rw [List.forIn_toArray]
  refine wpAny_bind ?_
  refine ksk_fold (fun i s' => Asked X pins σ H D kS e1 (kz.take i) s') its 0 s h0 ?_ ?_
  · rintro j u s1 hu ⟨H1, kA, e, I, sm, hk⟩
    rw [Nat.zero_add] at hk ⊢
    obtain ⟨x, ex, rx⟩ := vals_get rv hu
    obtain ⟨p, ep, rp⟩ := repl_get rl ex
    have hj : j < its.length := (List.getElem?_eq_some_iff.mp hu).1
    obtain ⟨i, ei⟩ : ∃ i, kz[j]? = some i := ⟨_, List.getElem?_eq_getElem (by omega)⟩
    have ef := ka.2 j p i ep ei
    have hsz : kA.size ≤ its.length := by
      have z := hk.length
      rw [Array.length_toList, List.length_take] at z
      omega
    have hz2 : its.length ≤ sizeLine := by omega
    have hkey := key_call F hb hr I rx (FF := FF) (p := p) (i := i) (fun a q z => hd a q (by
      cases q2 : H a with
      | none => rfl
      | some o => rw [sm a o q2] at z; cases z)) (Rep.mono (Keep.of sm) (fun _ q => q) p rp) ef
    refine wpAny_bind (wpAny_attempt (wpAny_mono hkey ?_ (fun _ _ z => z.elim)))
    rintro v s2 ⟨H2, t, I2, sm2, rfl⟩
    dsimp only
    have gK := (I2.pin (kS, seqObj "list" kA e) (by simp)).1
    have gD := (I2.pin (D, seqObj "list" #[] e1) (by simp)).1
    have nK := (I2.pin (kS, seqObj "list" kA e) (by simp)).2.1
    have nD := (I2.pin (D, seqObj "list" #[] e1) (by simp)).2.1
    have u1 := Heap.SameBut.update s2.heap kS (Obj.mapSeq (·.push (Value.int i t)))
    have g2 := get?_update_seq gK (·.push (Value.int i t))
    refine wpAny_bind ?_
    refine listUpdate_at gK rfl ?_ (by omega) (by rw [Array.size_push]; omega)
    refine wpAny_pure ⟨rfl, ?_⟩
    have I3 : L2.Inv X pins σ H2 s2 := I2.pins_of fun p hp => I2.pin p (by simp [hp])
    have I4 : L2.Inv X pins σ H2 { s2 with heap := s2.heap.update kS (Obj.mapSeq (·.push (Value.int i t))), toks := s2.toks } :=
      I3.turned (it := kS) (fun b o nb hbo => (u1.2 b nb).trans hbo) nK oK.loc (.inr oK.old) oK.cel pK
    have hp3 : ∀ p ∈ (kS, seqObj "list" (kA.push (Value.int i t)) (if (kA.push (Value.int i t)).size == kA.size then e else e + 1)) :: (D, seqObj "list" #[] e1) :: pins, (s2.heap.update kS (Obj.mapSeq (·.push (Value.int i t)))).get? p.1 = some p.2 ∧ H2 p.1 = none ∧ p.1 ≠ X.env.locals ∧ p.1 ∉ X.fs ∧ ∀ v, p.2.data ≠ .cell v := by
      intro p hp
      rcases List.mem_cons.mp hp with rfl | hp
      · exact ⟨g2, nK, oK.loc, oK.fs, fun v z => by cases z⟩
      · rcases List.mem_cons.mp hp with rfl | hp
        · exact ⟨(u1.2 D ne.symm).trans gD, nD, oD.loc, oD.fs, fun v z => by cases z⟩
        · obtain ⟨q1, q2⟩ := I3.pin p (by simp [hp])
          exact ⟨(u1.2 p.1 (pK p (by simp [hp]))).trans q1, q2⟩
    refine ⟨H2, kA.push (Value.int i t), _, I4.pins_of hp3, sm.trans sm2, ?_⟩
    rw [List.take_add_one, ei, Option.toList_some, Array.toList_push]
    exact ksk_snoc hk
  · rintro s1 ⟨H1, kA, e, I, sm, hk⟩
    rw [Nat.zero_add, List.take_of_length_le (by omega)] at hk
    have gK := (I.pin (kS, seqObj "list" kA e) (by simp)).1
    have gD := (I.pin (D, seqObj "list" #[] e1) (by simp)).1
    refine wpAny_bind ?_
    refine listItems_at gK rfl ?_
    exact key_end gK gD ne hk (by omega) (by omega) (h s1 ⟨H1, kA, e, I, sm, hk⟩)
end
end Pv

set_option Elab.async false
set_option linter.all false
set_option maxRecDepth 100000
set_option maxHeartbeats 4000000
namespace Pv
open PySem PySem.Spec L2
open PyProof.Rows hiding St
section
variable {X : Cx} {cm : CM} {W : WX}
/-- items with their keys, the keys rising -/
def KeyOut (kz : List Int) (xs ys : List V) : Prop := ∃ L : List (Int × V), L.Perm (kz.zip xs) ∧ ys = L.map (·.2) ∧ L.Pairwise (fun p q => p.1 ≤ q.1)
theorem zip_vals : ∀ {xs : List V} {us : List Value} (kz : List Int), Vals xs us → ∃ Z : List (Int × V × Value), Z.map (fun z => (z.1, z.2.1)) = kz.zip xs ∧ Z.map (fun z => (z.1, z.2.2)) = kz.zip us ∧ ∀ z ∈ Z, RelV z.2.1 z.2.2
  | _, _, [], _ => ⟨[], by simp, by simp, by simp⟩
  | _, _, k :: kz, .nil => ⟨[], by simp, by simp, by simp⟩
  | _, _, k :: kz, .cons (a := x) (b := u) r t => by
    obtain ⟨Z, h1, h2, h3⟩ := zip_vals kz t
    refine ⟨(k, x, u) :: Z, by rw [List.map_cons, h1]; rfl, by rw [List.map_cons, h2]; rfl, fun z hz => ?_⟩
    rcases List.mem_cons.mp hz with rfl | hz
    · exact r
    · exact h3 z hz
theorem vals_map {Z : List (Int × V × Value)} (h : ∀ z ∈ Z, RelV z.2.1 z.2.2) : Vals (Z.map (·.2.1)) (Z.map (·.2.2)) := by
  induction Z with
  | nil => exact .nil
  | cons z Z ih => exact .cons (h z (by simp)) (ih fun y hy => h y (by simp [hy]))
theorem keyOut_of {kz : List Int} {xs : List V} {its out : List Value} (rv : Vals xs its) (h : KskOut false kz its out) : ∃ ys, Vals ys out ∧ KeyOut kz xs ys := by
  obtain ⟨ps, hp, rfl, ho⟩ := h
  obtain ⟨Z, z1, z2, z3⟩ := zip_vals kz rv
  obtain ⟨Z', q1, q2⟩ := perm_lift hp Z z2.symm
  have z4 : ∀ z ∈ Z', RelV z.2.1 z.2.2 := fun z hz => z3 z (q1.mem_iff.mp hz)
  refine ⟨Z'.map (·.2.1), ?_, Z'.map (fun z => (z.1, z.2.1)), ?_, ?_, ?_⟩
  · have := vals_map z4
    rw [q2, List.map_map]
    exact this
  · rw [← z1]; exact q1.map _
  · rw [List.map_map]; rfl
  · rw [q2, List.pairwise_map] at ho
    rw [List.pairwise_map]
    exact ho.imp fun h => by simpa using h
/-- sorted(xs, key=f) -/
theorem cr_sortF {k : Nat} {fa : Addr} {fd : FuncData} {qs : List Str} {fn : Fn} (F : FnOk X.prog X.w X.K X.mg X.base (L2N.CX X.prog X.w) k fa fd qs (spP X.K cm fn)) (hb : Binds X.K fd qs []) (hr : Room (k + 2) X.A) (hxe : X.fs = X.fs) :
    CallRK X (.builtin "sorted") [Str.ofString "key"] (fun vs zs H Q => ∃ (a : Addr) (xs : List V) (ps : List PV) (kz : List Int) (FF : FS), vs = [.ref a] ∧ zs = [.ref fa] ∧ SqL X.K H a xs ∧ (∀ a, FF a → H a ≠ none) ∧ RepL X.K FF H xs ps ∧ KeysAt fn ps kz ∧
      ∀ (H' : Hp) (p : Addr) (ys : List V), Same H H' → H p = none → H' p = none → KeyOut kz xs ys → Q (.ref p) (upd H' p (.lst ys))) := by
  rintro pins s σ H vs zs us ws Q I rv rz ⟨a, xs, ps, kz, FF, rfl, rfl, hs, hd, rl, ka, q⟩
  obtain rfl := Vals.ref1 rv
  obtain ⟨w1, rfl, e1⟩ := vals1 rz
  obtain rfl : w1 = Value.ref fa := e1
  obtain ⟨its, rx, hl, hz⟩ := I.list hs
  have hlx : xs.length = its.length := rx.length
  have hz2 : its.length ≤ sizeLine := by omega
  refine wpAny_mono (Q := EP X pins σ Q) (E := fun _ _ => False) ?_ (fun _ _ z => z) (fun _ _ z => z.elim)
  refine call_function_entry_kw kind_sorted plain_sorted entry_sorted (ksk_s1 _ _) ?_
  unfold Builtin.«sorted»
  refine wpAny_bind (m := checkCount "sorted" 1 1 _) (wpAny_pure ?_)
  refine wpAny_bind ?_
  refine collect_list hl.isList ?_ hz2
  refine wpAny_bind ?_
  refine wpAny_newList ?_ hz2
  -- the heap with the list that is collected, and the one that is to be sorted
  obtain ⟨h1, eh1⟩ : ∃ h1, h1 = (s.heap.push (seqObj "list" #[] 0)).update s.heap.objs.size (Obj.mapSeq (· ++ its.toArray)) := ⟨_, rfl⟩
  have z1 : h1.objs.size = s.heap.objs.size + 1 := by rw [eh1, Heap.size_update, size_push']
  have k1 : ∀ b o, s.heap.get? b = some o → h1.get? b = some o := fun b o e => by
    rw [eh1, Heap.get?_update_ne _ _ _ _ (Nat.ne_of_lt (Heap.lt_size e))]
    exact Heap.get?_push_of_some _ e
  show wpAny _ _ _ _ _ { s with heap := ((s.heap.push (seqObj "list" #[] 0)).update s.heap.objs.size (Obj.mapSeq (· ++ its.toArray))).push (seqObj "list" its.toArray 0) }
  rw [← eh1]
  obtain ⟨D, eD⟩ : ∃ D : Addr, D = h1.objs.size := ⟨_, rfl⟩
  obtain ⟨h2, eh2⟩ : ∃ h2, h2 = h1.push (seqObj "list" its.toArray 0) := ⟨_, rfl⟩
  have gD : h2.get? D = some (seqObj "list" its.toArray 0) := by rw [eh2, eD]; exact Heap.get?_push_size _ rfl
  have z2 : h2.objs.size = D + 1 := by rw [eh2, size_push', eD]
  have k2 : ∀ b o, h1.get? b = some o → h2.get? b = some o := fun b o e => by rw [eh2]; exact Heap.get?_push_of_some _ e
  rw [← eh2, ← eD]
  refine wpAny_bind ?_
  refine wpAny_holding ?_
  refine wpAny_call_entry_kw slot_list_sort ⟨_, gD, rfl⟩ entry_list_sort ?_ (ksk_l1 _ _)
  show wpAny (model X.prog X.w) X.A.in1.in1 (Builtin.«list.sort» ⟨[.ref D], [(Str.ofString "key", .ref fa)]⟩) _ _ _
  rw [ksk_t1]
  have I2 : L2.Inv X pins σ H { s with heap := h2 } := I.kept (t' := s.toks) fun b o e => k2 b o (k1 b o e)
  have oD : Ours X D := ours_of I (by rw [eD, z1]; exact Nat.le_succ _)
  have nD : H D = none := I.hok.fresh (by rw [eD, z1]; exact Nat.le_succ _)
  have pD : ∀ p ∈ X.pn ++ pins, p.1 ≠ D := fun p hp z => by
    have := Heap.lt_size (I.pin p hp).1
    rw [z, eD, z1] at this
    exact absurd (Nat.lt_trans (Nat.lt_succ_self _) this) (Nat.lt_irrefl _)
  have u3 := Heap.SameBut.update h2 D (Obj.mapSeq fun _ => (#[] : Array Value))
  obtain ⟨e1, gD3⟩ : ∃ e1, (h2.update D (Obj.mapSeq fun _ => (#[] : Array Value))).get? D = some (seqObj "list" #[] e1) := ⟨_, get?_update_seq gD fun _ => #[]⟩
  obtain ⟨h3, eh3⟩ : ∃ h3, h3 = h2.update D (Obj.mapSeq fun _ => (#[] : Array Value)) := ⟨_, rfl⟩
  rw [← eh3] at u3 gD3
  have I3 : L2.Inv X pins σ H { s with heap := h3 } := L2.Inv.turned (s := { s with heap := h2 }) (t' := s.toks) (it := D) I2 (fun b o nb e => (u3.2 b nb).trans e) nD oD.loc (.inr oD.old) oD.cel pD
  unfold ksk_tree
  refine wpAny_bind ?_
  refine listItems_at gD rfl ?_
  refine wpAny_bind ?_
  refine listUpdate_at gD rfl ?_ (by rw [List.size_toArray]; exact hz2) (Nat.zero_le _)
  rw [← eh3]
  refine wpAny_bind ?_
  refine seqEpoch_at gD3 rfl ?_
  refine wpAny_bind ?_
  refine wpAny_newTuple ?_ (by simpa using hz2)
  refine wpAny_bind ?_
  refine wpAny_newList ?_ (Nat.zero_le _)
  refine wpAny_holding ?_
  obtain ⟨h4, eh4⟩ : ∃ h4 : Heap, h4 = h3.push { cls := .type "tuple", data := .seq its.toArray.toList.toArray } := ⟨_, rfl⟩
  obtain ⟨kS, ek⟩ : ∃ kS : Addr, kS = h4.objs.size := ⟨_, rfl⟩
  obtain ⟨h5, eh5⟩ : ∃ h5 : Heap, h5 = h4.push { cls := .type "list", data := .seq (([] : List Value)).toArray } := ⟨_, rfl⟩
  show wpAny _ _ (ksk_rest D (.ref fa) false its.toArray e1 (.ref (h3.push { cls := .type "tuple", data := .seq its.toArray.toList.toArray }).objs.size)) _ _ { s with heap := (h3.push { cls := .type "tuple", data := .seq its.toArray.toList.toArray }).push { cls := .type "list", data := .seq (([] : List Value)).toArray } }
  rw [← eh4, ← ek, ← eh5]
  have z3 : h3.objs.size = D + 1 := by rw [eh3, Heap.size_update, z2]
  have z4 : kS = D + 2 := by rw [ek, eh4, Heap.size_push, z3]
  have k4 : ∀ b o, h3.get? b = some o → h5.get? b = some o := fun b o e => by rw [eh5, eh4]; exact Heap.get?_push_of_some _ (Heap.get?_push_of_some _ e)
  have gK : h5.get? kS = some (seqObj "list" #[] 0) := by rw [eh5, ek]; exact Heap.get?_push_size _ rfl
  have I5 : L2.Inv X pins σ H { s with heap := h5 } := I3.kept (t' := s.toks) k4
  have oK : Ours X kS := ours_of I (by rw [z4, eD, z1]; exact Nat.le_trans (Nat.le_succ _) (Nat.le_add_right _ _))
  have nK : H kS = none := I.hok.fresh (by rw [z4, eD, z1]; exact Nat.le_trans (Nat.le_succ _) (Nat.le_add_right _ _))
  have pK : ∀ p ∈ X.pn ++ pins, p.1 ≠ kS := fun p hp z => by
    have := Heap.lt_size (I.pin p hp).1
    rw [z, z4, eD, z1] at this
    exact absurd (Nat.lt_of_le_of_lt (Nat.le_trans (Nat.le_succ _) (Nat.le_add_right _ _)) this) (Nat.lt_irrefl _)
  have neK : kS ≠ D := by rw [z4]; exact fun z => absurd z (Nat.ne_of_gt (Nat.lt_add_of_pos_right (by decide)))
  have A0 : Asked X pins σ H D kS e1 [] { s with heap := h5 } := by
    refine ⟨H, #[], 0, I5.pins_of fun p hp => ?_, fun _ _ e => e, .nil⟩
    rcases List.mem_cons.mp hp with rfl | hp
    · exact ⟨gK, nK, oK.loc, oK.fs, fun v z => by cases z⟩
    · rcases List.mem_cons.mp hp with rfl | hp
      · exact ⟨k4 _ _ gD3, nD, oD.loc, oD.fs, fun v z => by cases z⟩
      · exact I5.pin p (by simp [hp])
  have hr1 : Room (k + 1) X.A := hr.mono (by omega)
  refine key_rest F hb hr1 oD oK neK pD pK rx rl hd ka hz A0 ?_
  rintro s' ⟨H', kA, e, I', sm, hk⟩ h' out c hk1 hk2 hD ho
  obtain ⟨ys, ry, ko⟩ := keyOut_of rx ho
  have nD' : H' D = none := (I'.pin (D, seqObj "list" #[] e1) (by simp)).2.1
  have nK' : H' kS = none := (I'.pin (kS, seqObj "list" kA e) (by simp)).2.1
  have I6 : L2.Inv X pins σ H' s' := I'.pins_of fun p hp => I'.pin p (by simp [hp])
  have hlo : out.toList.length = xs.length := by
    obtain ⟨qs, p1, p2, _⟩ := ho
    rw [p2, List.length_map, p1.length_eq, List.length_zip, ← hlx, ← ka.1, ← rl.length, Nat.min_self]
  have I7 : L2.Inv X pins σ (upd H' D (.lst ys)) { s' with heap := h', toks := s'.toks } := by
    refine inv_take I6 (fun b u n1 n2 e => (hk1 b n1 n2).trans e) nD' nK' oD.loc oK.loc oD.old oK.old oD.cel oK.cel pD pK ⟨?_, out.toList, c, ry, hD⟩
    have := ry.length
    omega
  refine ⟨_, rfl, ?_⟩
  refine wpAny_pure ⟨_, rfl, ?_⟩
  exact ⟨.ref D, _, I7, rfl, q H' D ys sm nD nD' ko⟩
end
end Pv

set_option Elab.async false
set_option linter.all false
set_option maxRecDepth 100000
namespace Pv
open PySem PySem.Spec L2
open PyProof.Rows hiding St
/-! ### pairs sorted by their keys -/
section
variable {α : Type}
def insK (z : Int × α) : List (Int × α) → List (Int × α)
  | [] => [z]
  | y :: r => if z.1 ≤ y.1 then z :: y :: r else y :: insK z r
def sortK : List (Int × α) → List (Int × α)
  | [] => []
  | z :: r => insK z (sortK r)
theorem insK_perm (z : Int × α) : ∀ l, (insK z l).Perm (z :: l)
  | [] => .refl _
  | y :: r => by
    unfold insK
    split
    · exact .refl _
    · exact ((insK_perm z r).cons y).trans (List.Perm.swap z y r)
theorem sortK_perm : ∀ l : List (Int × α), (sortK l).Perm l
  | [] => .refl _
  | z :: r => (insK_perm z (sortK r)).trans ((sortK_perm r).cons z)
theorem insK_sorted (z : Int × α) : ∀ {l : List (Int × α)}, l.Pairwise (fun a b => a.1 ≤ b.1) → (insK z l).Pairwise (fun a b => a.1 ≤ b.1)
  | [], _ => List.pairwise_singleton _ _
  | y :: r, h => by
    obtain ⟨h1, h2⟩ := List.pairwise_cons.mp h
    unfold insK
    split
    · rename_i c
      refine List.pairwise_cons.mpr ⟨fun b hb => ?_, h⟩
      rcases List.mem_cons.mp hb with rfl | hb
      · exact c
      · exact Int.le_trans c (h1 b hb)
    · rename_i c
      refine List.pairwise_cons.mpr ⟨fun b hb => ?_, insK_sorted z h2⟩
      rcases List.mem_cons.mp ((insK_perm z r).mem_iff.mp hb) with rfl | hb
      · omega
      · exact h1 b hb
theorem sortK_sorted : ∀ l : List (Int × α), (sortK l).Pairwise (fun a b => a.1 ≤ b.1)
  | [] => .nil
  | z :: r => insK_sorted z (sortK_sorted r)
theorem nodup_fst {l : List (Int × α)} (h : (l.map (·.1)).Nodup) : ∀ {a b}, a ∈ l → b ∈ l → a.1 = b.1 → a = b := by
  induction l with
  | nil => intro a b ha; cases ha
  | cons z r ih =>
    rw [List.map_cons, List.nodup_cons] at h
    intro a b ha hb e
    rcases List.mem_cons.mp ha with e1 | ha'
    · rcases List.mem_cons.mp hb with e2 | hb'
      · rw [e1, e2]
      · exact absurd (List.mem_map.mpr ⟨b, hb', by rw [← e, e1]⟩) h.1
    · rcases List.mem_cons.mp hb with e2 | hb'
      · exact absurd (List.mem_map.mpr ⟨a, ha', by rw [e, e2]⟩) h.1
      · exact ih h.2 ha' hb' e
theorem sortK_uniq : ∀ {A B : List (Int × α)}, A.Perm B → A.Pairwise (fun a b => a.1 ≤ b.1) → B.Pairwise (fun a b => a.1 ≤ b.1) → (A.map (·.1)).Nodup → A = B
  | [], B, p, _, _, _ => (List.nil_perm.mp p).symm
  | a :: A, [], p, _, _, _ => absurd p.length_eq (by simp)
  | a :: A, b :: B, p, h1, h2, hn => by
    have e : a = b := by
      have ma : a ∈ b :: B := p.mem_iff.mp (by simp)
      have mb : b ∈ a :: A := p.mem_iff.mpr (by simp)
      refine nodup_fst hn (by simp) mb ?_
      have l1 : a.1 ≤ b.1 := by
        rcases List.mem_cons.mp mb with e | mb
        · rw [e]; exact Int.le_refl _
        · exact (List.pairwise_cons.mp h1).1 b mb
      have l2 : b.1 ≤ a.1 := by
        rcases List.mem_cons.mp ma with e | ma
        · rw [e]; exact Int.le_refl _
        · exact (List.pairwise_cons.mp h2).1 a ma
      omega
    subst e
    rw [List.map_cons, List.nodup_cons] at hn
    rw [sortK_uniq ((List.perm_cons a).mp p) (List.pairwise_cons.mp h1).2 (List.pairwise_cons.mp h2).2 hn.2]
end
/-! ### sorted(xs, key=f) -/
def keysOf (fn : Fn) : List PV → Option (List Int)
  | [] => some []
  | p :: ps => match fn [p] with
    | .ok (.int i, false) => (keysOf fn ps).map (i :: ·)
    | _ => none
theorem keysOf_at {fn : Fn} : ∀ {ps : List PV} {kz : List Int}, keysOf fn ps = some kz → KeysAt fn ps kz
  | [], kz, h => by
    cases h
    exact ⟨rfl, fun j p i e => by simp at e⟩
  | p :: ps, kz, h => by
    unfold keysOf at h
    split at h
    · rename_i i e
      cases q : keysOf fn ps with
      | none => rw [q] at h; cases h
      | some ks =>
        rw [q] at h
        cases h
        obtain ⟨h1, h2⟩ := keysOf_at q
        refine ⟨by rw [List.length_cons, List.length_cons, h1], fun j p' i' e1 e2 => ?_⟩
        cases j with
        | zero => simp at e1 e2; subst e1 e2; exact e
        | succ j => exact h2 j p' i' (by simpa using e1) (by simpa using e2)
    · cases h
def mSortKey (fn : Fn) (m : M PV) : M RV := bnd m fun p => match p with
  | .lst ps => match keysOf fn ps with
    | some kz => if kz.Nodup then ret (.lst ((sortK (kz.zip ps)).map (·.2)), true) else bad
    | none => bad
  | _ => bad
theorem zip_rep {K : Fr} {F : FS} {H : Hp} : ∀ {xs : List V} {ps : List PV} (kz : List Int), RepL K F H xs ps → ∃ Z : List (Int × V × PV), Z.map (fun z => (z.1, z.2.1)) = kz.zip xs ∧ Z.map (fun z => (z.1, z.2.2)) = kz.zip ps ∧ ∀ z ∈ Z, Rep K F H z.2.1 z.2.2
  | xs, ps, [], _ => ⟨[], by simp, by simp, by simp⟩
  | xs, [], k :: kz, h => ⟨[], by rw [RepL.nil_inv h]; simp, by simp, by simp⟩
  | xs, p :: ps, k :: kz, h => by
    unfold RepL at h
    obtain ⟨x, r, rfl, h1, h2⟩ := h
    obtain ⟨Z, z1, z2, z3⟩ := zip_rep kz h2
    refine ⟨(k, x, p) :: Z, by rw [List.map_cons, z1]; rfl, by rw [List.map_cons, z2]; rfl, fun z hz => ?_⟩
    rcases List.mem_cons.mp hz with rfl | hz
    · exact h1
    · exact z3 z hz
theorem rep_map {K : Fr} {F : FS} {H : Hp} : ∀ {Z : List (Int × V × PV)}, (∀ z ∈ Z, Rep K F H z.2.1 z.2.2) → RepL K F H (Z.map (·.2.1)) (Z.map (·.2.2))
  | [], _ => RepL.nil
  | z :: Z, h => RepL.cons (h z (by simp)) (rep_map fun y hy => h y (by simp [hy]))
theorem key_rep {K : Fr} {F : FS} {H : Hp} {xs ys : List V} {ps : List PV} {kz : List Int} (rl : RepL K F H xs ps) (hl : ps.length = kz.length) (hn : kz.Nodup) (ko : KeyOut kz xs ys) : RepL K F H ys ((sortK (kz.zip ps)).map (·.2)) := by
  obtain ⟨L, p, rfl, o⟩ := ko
  obtain ⟨Z, z1, z2, z3⟩ := zip_rep kz rl
  obtain ⟨Z', q1, q2⟩ := perm_lift p Z z1.symm
  have e : Z'.map (fun z => (z.1, z.2.2)) = sortK (kz.zip ps) := by
    refine sortK_uniq ?_ ?_ (sortK_sorted _) ?_
    · refine (q1.map _).trans ?_
      rw [z2]
      exact (sortK_perm _).symm
    · rw [q2, List.pairwise_map] at o
      rw [List.pairwise_map]
      exact o
    · have e1 : (Z.map (·.1)) = kz := by
        have := congrArg (List.map (·.1)) z2
        rw [List.map_map, List.map_fst_zip (by omega)] at this
        exact this
      rw [List.map_map]
      exact ((q1.map (·.1)).nodup_iff).mpr (by rw [e1]; exact hn)
  rw [← e, List.map_map, q2, List.map_map]
  exact rep_map fun z hz => z3 z (q1.mem_iff.mp hz)
section
variable {X : Cx} {W : WX} {cm : CM}
theorem e_sortKey {k : Nat} {f : Str} {e : Expr} {m : M PV} {fn : Fn} {p p2 kpos pos : Pos} (c : Cal X.prog X.w X.K X.mg X.base cm k f fn) (hr : Room (k + 2) X.A) (hm : X.mg "sorted" = none) (s : Pv.SP X W cm e m) (hg : Gl X "sorted" := by rfl) (hgf : Gl X f := by rfl)
    (hdb : (f == ("__debug__" : Str)) = false := by decide) (hs : starEach [e] X.env = (false, eval e X.env) :: starEach [] X.env := by rfl)
    (he : backTo pos (starEach [e] X.env) = (false, eval e X.env) :: backTo pos (starEach [] X.env) := by rfl) (hpl : (backTo pos (starEach [e] X.env)).any (·.1) = false := by rfl)
    (hall : (backToKw pos (keywordEach [⟨some "key", .Name f p2, kpos⟩] X.env)).all (·.1.isSome) = true := by rfl) (hnone : (backToKw pos (keywordEach [⟨some "key", .Name f p2, kpos⟩] X.env)).any (·.1.isNone) = false := by rfl) (hks : (backToKw pos (keywordEach [⟨some "key", .Name f p2, kpos⟩] X.env)).filterMap (·.1) = [Str.ofString "key"] := by rfl) :
    SE X W cm (.Call (.Name "sorted" p) [e] [⟨some "key", .Name f p2, kpos⟩] pos) (mSortKey fn m) := .mk' fun F H0 H ev σ Q r h => by
  obtain ⟨fa, fd, qs, FO, hmf, hk, hb⟩ := c.ex
  refine sE_of (pe_callBK (cr_sortF FO hb hr rfl) hg hm PyProof.Rows.boot_sorted (pa_cons sE_pe pa_nil hs) (pk_cons (pe_glob hgf hmf (v := .ref fa) rfl hdb) pk_nil) (by decide) (by decide) he hpl hall hnone hks) ?_
  refine s.go r (h.bnd.mono fun q ev1 F1 H1 a1 hh v rv => ?_)
  have h2 := hh.2
  cases q with
  | lst ps =>
    obtain ⟨a, xs, rfl, hx, rl⟩ := rv
    cases ek : keysOf fn ps with
    | none => simp only [ek] at h2; exact h2.elim
    | some kz =>
      simp only [ek] at h2
      by_cases hn : kz.Nodup
      · rw [if_pos hn] at h2
        have ka := keysOf_at ek
        refine ⟨a, xs, ps, kz, F1, rfl, rfl, SqL.of hx, a1.er.dom, rl, ka, fun H' l ys sm hl hl' ko => ?_⟩
        have a2 := a1.er.step sm
        have hr2 := key_rep (RepL.mono (Keep.of sm) (fun _ z => z) ps rl) ka.1 hn ko
        exact h2 F1 _ (a2.trans (a2.er.fresh hl')) _ (a2.er.newL (a1.same.trans sm) hl' hr2)
      · rw [if_neg hn] at h2; exact h2.elim
  | _ => exact h2.elim
end
end Pv

set_option Elab.async false
set_option linter.all false
set_option maxRecDepth 100000
namespace Pv
open PySem PySem.Spec L2
open PyProof.Rows hiding St
/-! ### reversed(xs) -/
theorem itv_ok {K : Fr} {F : FS} {H : Hp} {a : Addr} {xs : List V} {ps : List PV} (f : F a) (hx : H a = some (.lst xs)) (r : RepL K F H xs ps) : ItOk K F H (Itv K a xs.length) ps.reverse := fun i F2 H2 s k => by
  have hx2 : SqL K H2 a xs := SqL.of (k.lst _ _ f hx)
  have hl := r.length
  refine ⟨fun e => by rw [List.length_reverse] at e; show xs.length ≤ i; omega, fun p hp => ?_⟩
  have hi : i < ps.length := by
    have := (List.getElem?_eq_some_iff.mp hp).1
    rwa [List.length_reverse] at this
  have hp' : ps[xs.length - 1 - i]? = some p := by
    rw [List.getElem?_reverse hi] at hp
    rw [hl]; exact hp
  obtain ⟨v, hv, rv⟩ := r.get hp'
  refine ⟨⟨by show i < xs.length; omega, xs, v, hx2, hv⟩, fun x H3 y => ?_⟩
  obtain ⟨e, y⟩ := y
  subst e
  obtain rfl : v = x := Option.some.inj (hv.symm.trans (y xs hx2))
  exact ⟨Same.refl _, Rep.mono k s p rv⟩
theorem itvT_ok {K : Fr} {F : FS} {H : Hp} {a : Addr} {xs : List V} {ps : List PV} (hx : TpX K H a xs) (r : RepL K F H xs ps) : ItOk K F H (RT.ItvT K a xs.length) ps.reverse := fun i F2 H2 s k => by
  have hx2 : SqT K H2 a xs := (k.tpX hx).sqT
  have hl := r.length
  refine ⟨fun e => by rw [List.length_reverse] at e; show xs.length ≤ i; omega, fun p hp => ?_⟩
  have hi : i < ps.length := by
    have := (List.getElem?_eq_some_iff.mp hp).1
    rwa [List.length_reverse] at this
  have hp' : ps[xs.length - 1 - i]? = some p := by
    rw [List.getElem?_reverse hi] at hp
    rw [hl]; exact hp
  obtain ⟨v, hv, rv⟩ := r.get hp'
  refine ⟨⟨by show i < xs.length; omega, xs, v, hx2, hv⟩, fun x H3 y => ?_⟩
  obtain ⟨e, y⟩ := y
  subst e
  obtain rfl : v = x := Option.some.inj (hv.symm.trans (y xs hx2))
  exact ⟨Same.refl _, Rep.mono k s p rv⟩
section
variable {X : Cx} {W : WX} {cm : CM}
def mRevI (m : M RV) : M (List PV) := bnd m fun r => match r.1 with
  | .lst ps => ret ps.reverse
  | .tup ps => ret ps.reverse
  | _ => bad
theorem i_rev {tg e : Expr} {m : M RV} {p pos : Pos} (hm : X.mg "reversed" = none) (s : SE X W cm e m) (hg : Gl X "reversed" := by rfl) (hs : starEach [e] X.env = (false, eval e X.env) :: starEach [] X.env := by rfl) : SI X W cm tg (.Call (.Name "reversed" p) [e] [] pos) (mRevI m) := ⟨_, RT.pi_revA hg hm sE_pe hs, fun {F H0 H ev σ R} r h => by
  refine s.go r (h.bnd.mono fun z ev1 F1 H1 a1 hh v rv => ?_)
  obtain ⟨F2, a2, r2, f12⟩ := rv.share a1
  have h2 := hh.2
  cases e1 : z.1 with
  | lst ps =>
    simp only [e1] at h2
    rw [e1] at r2
    unfold Rep at r2
    obtain ⟨a, xs, rfl, ⟨f, hx⟩, rl⟩ := r2
    exact ⟨a, xs, rfl, .inl ⟨SqL.of hx, Wt.ret (P := fun ps ev' F' H' => ∀ J F2, Aft X.K F H0 ev ev' σ H F2 H' → (∀ a, F' a → F2 a) → ItOk X.K F2 H' J ps → R J H') a1.er h2 _ F2 a2 f12 (itv_ok f hx rl)⟩⟩
  | tup ps =>
    simp only [e1] at h2
    rw [e1] at r2
    unfold Rep at r2
    obtain ⟨a, xs, rfl, hx, rl⟩ := r2
    exact ⟨a, xs, rfl, .inr ⟨hx.sqT, Wt.ret (P := fun ps ev' F' H' => ∀ J F2, Aft X.K F H0 ev ev' σ H F2 H' → (∀ a, F' a → F2 a) → ItOk X.K F2 H' J ps → R J H') a1.er h2 _ F2 a2 f12 (itvT_ok hx rl)⟩⟩
  | _ => simp only [e1] at h2; exact h2.elim⟩
/-! ### zip(xs, ys), enumerate(xs): the items are pairs -/
def zipP (ps qs : List PV) : List PV := (ps.zip qs).map fun q => .itm [q.1, q.2]
def enumP (ps : List PV) : List PV := (List.range ps.length).zip ps |>.map fun q => .itm [.int (q.1 : Nat), q.2]
theorem zipP_get {ps qs : List PV} {i : Nat} {p : PV} (h : (zipP ps qs)[i]? = some p) : ∃ a b, ps[i]? = some a ∧ qs[i]? = some b ∧ p = .itm [a, b] := by
  unfold zipP at h
  rw [List.getElem?_map] at h
  obtain ⟨q, h1, h2⟩ := Option.map_eq_some_iff.mp h
  rw [List.getElem?_zip_eq_some] at h1
  exact ⟨q.1, q.2, h1.1, h1.2, h2.symm⟩
theorem enumP_get {ps : List PV} {i : Nat} {p : PV} (h : (enumP ps)[i]? = some p) : ∃ a, ps[i]? = some a ∧ p = .itm [.int (i : Nat), a] := by
  unfold enumP at h
  rw [List.getElem?_map] at h
  obtain ⟨q, h1, h2⟩ := Option.map_eq_some_iff.mp h
  rw [List.getElem?_zip_eq_some] at h1
  obtain ⟨h3, h4⟩ := h1
  have hi : i < ps.length := (List.getElem?_eq_some_iff.mp h4).1
  rw [List.getElem?_range hi] at h3
  cases h3
  exact ⟨q.2, h4, h2.symm⟩
theorem pair_rep {K : Fr} {F : FS} {H : Hp} {T : Addr} {x y : V} {p q : PV} (hT : H T = none) (h1 : Rep K F H x p) (h2 : Rep K F H y q) : Same H (upd H T (.tup [x, y])) ∧ Rep K F (upd H T (.tup [x, y])) (.ref T) (.itm [p, q]) := by
  have sm := same_upd (o := .tup [x, y]) hT
  refine ⟨sm, ?_⟩
  unfold Rep
  exact ⟨T, [x, y], rfl, SqT.of upd_same, RepL.cons (Rep.mono (Keep.of sm) (fun _ z => z) p h1) (RepL.cons (Rep.mono (Keep.of sm) (fun _ z => z) q h2) RepL.nil)⟩
theorem itz_ok {K : Fr} {F : FS} {H : Hp} {a b : Addr} {xs ys : List V} {ps qs : List PV} (f : F a) (g : F b) (hx : H a = some (.lst xs)) (hy : H b = some (.lst ys)) (rx : RepL K F H xs ps) (ry : RepL K F H ys qs) : ItOk K F H (Itz K a b) (zipP ps qs) := fun i F2 H2 s k => by
  have hx2 : SqL K H2 a xs := SqL.of (k.lst _ _ f hx)
  have hy2 : SqL K H2 b ys := SqL.of (k.lst _ _ g hy)
  have l1 := rx.length
  have l2 := ry.length
  refine ⟨fun e => ?_, fun p hp => ?_⟩
  · unfold zipP at e
    rw [List.length_map, List.length_zip] at e
    exact ⟨xs, ys, hx2, hy2, by omega⟩
  obtain ⟨c, d, e1, e2, rfl⟩ := zipP_get hp
  obtain ⟨v, hv, rv⟩ := rx.get e1
  obtain ⟨u, hu, ru⟩ := ry.get e2
  refine ⟨⟨xs, ys, v, u, hx2, hy2, hv, hu⟩, fun x H3 y => ?_⟩
  obtain ⟨T, x1, y1, rfl, hT, rfl, q1, q2⟩ := y
  obtain rfl : v = x1 := Option.some.inj (hv.symm.trans (q1 xs hx2))
  obtain rfl : u = y1 := Option.some.inj (hu.symm.trans (q2 ys hy2))
  exact pair_rep hT (Rep.mono k s c rv) (Rep.mono k s d ru)
theorem itzT_ok {K : Fr} {F : FS} {H : Hp} {a b : Addr} {xs ys : List V} {ps qs : List PV} (hx : TpX K H a xs) (hy : TpX K H b ys) (rx : RepL K F H xs ps) (ry : RepL K F H ys qs) : ItOk K F H (RZ.ItzT K a b) (zipP ps qs) := fun i F2 H2 s k => by
  have hx2 : SqT K H2 a xs := (k.tpX hx).sqT
  have hy2 : SqT K H2 b ys := (k.tpX hy).sqT
  have l1 := rx.length
  have l2 := ry.length
  refine ⟨fun e => ?_, fun p hp => ?_⟩
  · unfold zipP at e
    rw [List.length_map, List.length_zip] at e
    exact ⟨xs, ys, hx2, hy2, by omega⟩
  obtain ⟨c, d, e1, e2, rfl⟩ := zipP_get hp
  obtain ⟨v, hv, rv⟩ := rx.get e1
  obtain ⟨u, hu, ru⟩ := ry.get e2
  refine ⟨⟨xs, ys, v, u, hx2, hy2, hv, hu⟩, fun x H3 y => ?_⟩
  obtain ⟨T, x1, y1, rfl, hT, rfl, q1, q2⟩ := y
  obtain rfl : v = x1 := Option.some.inj (hv.symm.trans (q1 xs hx2))
  obtain rfl : u = y1 := Option.some.inj (hu.symm.trans (q2 ys hy2))
  exact pair_rep hT (Rep.mono k s c rv) (Rep.mono k s d ru)
theorem ite_ok {K : Fr} {F : FS} {H : Hp} {a : Addr} {xs : List V} {ps : List PV} (f : F a) (hx : H a = some (.lst xs)) (rx : RepL K F H xs ps) : ItOk K F H (Ite K a) (enumP ps) := fun i F2 H2 s k => by
  have hx2 : SqL K H2 a xs := SqL.of (k.lst _ _ f hx)
  have l1 := rx.length
  refine ⟨fun e => ?_, fun p hp => ?_⟩
  · unfold enumP at e
    rw [List.length_map, List.length_zip, List.length_range] at e
    exact ⟨xs, hx2, by omega⟩
  obtain ⟨c, e1, rfl⟩ := enumP_get hp
  obtain ⟨v, hv, rv⟩ := rx.get e1
  refine ⟨⟨xs, v, hx2, hv⟩, fun x H3 y => ?_⟩
  obtain ⟨T, x1, rfl, hT, rfl, q1⟩ := y
  obtain rfl : v = x1 := Option.some.inj (hv.symm.trans (q1 xs hx2))
  exact pair_rep hT (by unfold Rep; rfl) (Rep.mono k s c rv)
def mZip (m : M (List PV)) : M (List PV) := bnd m fun ps => match ps with
  | [.lst xs, .lst ys] => ret (zipP xs ys)
  | [.tup xs, .tup ys] => ret (zipP xs ys)
  | _ => bad
theorem i_zip {es : List Expr} {kk : Nat} {tpos : Pos} {e e2 : Expr} {m : M (List PV)} {p pos : Pos} (hm : X.mg "zip" = none) (s : SA X W cm [e, e2] m) (hg : Gl X "zip" := by rfl)
    (hs : starEach [e, e2] X.env = (false, eval e X.env) :: starEach [e2] X.env := by rfl) (hpl : (backTo pos (starEach [e2] X.env)).any (·.1) = false := by rfl) : SI X W cm (.Tuple es kk tpos) (.Call (.Name "zip" p) [e, e2] [] pos) (mZip m) := ⟨_, RZ.pi_zipA hg hm sA_pa hs hpl, fun {F H0 H ev σ R} r h => by
  refine s.go r ?_
  unfold Wt at h ⊢
  unfold mZip Pv.bnd at h
  cases e1 : m ev with
  | bad => simp only [e1] at h
  | exc c ev1 => simp only [e1] at h; exact h
  | ok ps ev1 =>
    simp only [e1] at h
    intro F1 H1 a1 F2 vs a2 rs
    match ps, h, rs with
    | [.lst qs, .lst rs'], h, rs =>
      obtain ⟨v, vs', rfl, r1, r2⟩ : ∃ v vs', vs = v :: vs' ∧ Rep X.K F2 H1 v (.lst qs) ∧ RepL X.K F2 H1 vs' [.lst rs'] := by unfold RepL at rs; exact rs
      obtain ⟨u, rfl, r3⟩ := r2.one
      unfold Rep at r1 r3
      obtain ⟨a, xs, rfl, ⟨f, hx⟩, rl⟩ := r1
      obtain ⟨b, ys, rfl, ⟨g, hy⟩, rl2⟩ := r3
      exact ⟨a, b, xs, ys, rfl, .inl ⟨SqL.of hx, SqL.of hy, h F2 H1 a2 _ F2 a2 (fun _ z => z) (itz_ok f g hx hy rl rl2)⟩⟩
    | [.tup qs, .tup rs'], h, rs =>
      obtain ⟨v, vs', rfl, r1, r2⟩ : ∃ v vs', vs = v :: vs' ∧ Rep X.K F2 H1 v (.tup qs) ∧ RepL X.K F2 H1 vs' [.tup rs'] := by unfold RepL at rs; exact rs
      obtain ⟨u, rfl, r3⟩ := r2.one
      unfold Rep at r1 r3
      obtain ⟨a, xs, rfl, hx, rl⟩ := r1
      obtain ⟨b, ys, rfl, hy, rl2⟩ := r3
      exact ⟨a, b, xs, ys, rfl, .inr ⟨hx.sqT, hy.sqT, h F2 H1 a2 _ F2 a2 (fun _ z => z) (itzT_ok hx hy rl rl2)⟩⟩⟩
end
end Pv

set_option Elab.async false
set_option linter.all false
set_option maxRecDepth 100000
namespace Pv
open PySem PySem.Spec L2
open PyProof.Rows hiding St
/-! ### enumerate of a tuple -/
set_option maxHeartbeats 1000000 in
theorem enumNew {v : Value} {o : Obj} {G : Heap → Prop} (B : Begins v o G) :
    Meets (Builtin.«enumerate.__new__» ⟨[.type "enumerate", v], []⟩) (fun _ R s => G s.heap ∧
      R (.ok (.ret (.ref (s.heap.push o).objs.size))) { s with heap := (s.heap.push o).push { cls := .type "enumerate", data := .fields #[.none, .bool false, .ref s.heap.objs.size, rawInt 0, .none, .none] } }) :=
  .of_wp fun prog w A R s hh => by
    obtain ⟨hp, gs, dr, tk, os⟩ := s
    obtain ⟨hG, hR⟩ := hh
    have hsub := sub_enumerate
    have go : ∀ {A' : Around} {E : Value → Shared → Prop} {Q : Value → Shared → Prop}, Q (.ref hp.objs.size) ⟨hp.push o, gs, dr, tk, os⟩ → wpAny (model prog w) A' (pyIter v) Q E ⟨hp, gs, dr, tk, os⟩ :=
      fun q => B.iter prog w _ _ ⟨hp, gs, dr, tk, os⟩ _ hG q
    wp_walk using go
    refine wpAny_stack_any fun st => wpAny_pure ?_
    split
    · rename_i c _ _ _ _ _
      cases (c == Value.type "enumerate") <;> (wp_walk using go; exact ⟨_, rfl, hR⟩)
    · wp_walk using go
      exact ⟨_, rfl, hR⟩
section
variable {prog : Program} {w : World} {A : Around} {E : Value → Shared → Prop} {s : Shared}
theorem callEnum {v : Value} {o : Obj} {G : Heap → Prop} {Q : Value → Shared → Prop} (B : Begins v o G) (hG : G s.heap)
    (h : ∀ h', IsEnum h' (s.heap.objs.size + 1) s.heap.objs.size 0 .none → h'.get? s.heap.objs.size = some o → h'.objs.size = s.heap.objs.size + 2 → (∀ b u, s.heap.get? b = some u → h'.get? b = some u) → Q (.ref (s.heap.objs.size + 1)) { s with heap := h' }) :
    wpAny (model prog w) A (call (.type "enumerate") [v]) Q E s := by
  refine callType_new F.called_enumerate (by decide) (F.typeCall_enumerate_1 _) (F.newCall_enumerate_1 _) (fun obj => F.args_object_init_2 obj _) F.entry_enumerate_new (enumNew B) ⟨hG, ?_⟩
  have hz : (s.heap.push o).objs.size = s.heap.objs.size + 1 := Heap.size_push ..
  have he := Heap.get?_push_size (s.heap.push o) (o := { cls := .type "enumerate", data := .fields #[.none, .bool false, .ref s.heap.objs.size, rawInt 0, .none, .none] }) rfl
  rw [hz] at he
  show _ ∧ _
  rw [hz]
  exact ⟨⟨_, he, rfl⟩, h _ he (Heap.get?_push_of_some _ (Heap.get?_push_size _ B.free)) (by rw [Heap.size_push, hz]) fun b u x => Heap.get?_push_of_some _ (Heap.get?_push_of_some _ x)⟩
end
/-- the tuple at a, each item in a new pair -/
def IteT (K : PySem.W.Frag) (a : Addr) : It :=
  ⟨fun i H => ∃ (xs : List V) (x : V), SqT K H a xs ∧ xs[i]? = some x, fun i H v H' => ∃ T x, v = .ref T ∧ H T = none ∧ H' = upd H T (.tup [.int (i : Nat), x]) ∧ ∀ xs, SqT K H a xs → xs[i]? = some x, fun i H => ∃ xs : List V, SqT K H a xs ∧ xs.length = i⟩
theorem turnEnumT {P : Program} {w : World} {K : PySem.W.Frag} {elts : List Expr} {kk : Nat} {tpos : Pos} (a e it : Addr) :
    Turn P w K (.Tuple elts kk tpos) (IteT K a) [e, it] e (fun i h => (∃ old, IsEnum h e it ((i : Nat) : Int) old) ∧ h.IsTupleIter it a i ∧ e ≠ it) where
  mem := List.mem_cons_self
  obj := fun i h st b hb => by
    obtain ⟨⟨old, he⟩, ⟨o, ho, _, hd⟩, _⟩ := st
    rcases List.mem_cons.mp hb with z | hb
    · rw [z]; exact ⟨_, he, fun v q => nomatch q⟩
    · rw [List.mem_singleton.mp hb]
      exact ⟨o, ho, fun v q => by rw [hd] at q; cases q⟩
  keep := fun i h h' st k => by
    obtain ⟨⟨old, he⟩, hi, hne⟩ := st
    exact ⟨⟨old, k e (by simp) _ he⟩, hi.at fun o q => k it (by simp) o q, hne⟩
  item := by
    intro X hP hw hK hc i pins s σ H E I hf st hg
    subst hP hw hK
    obtain ⟨⟨old, he⟩, hit, hne⟩ := st
    obtain ⟨xs, x, hq, hx⟩ := hg
    obtain ⟨its, rv, p, hz⟩ := I.tuple hq
    obtain ⟨u, hu, ru⟩ := rv.get hx
    have hel : e < s.heap.objs.size := Heap.lt_size he
    have hil : it < s.heap.objs.size := by obtain ⟨_, q, _⟩ := hit; exact Heap.lt_size q
    have hae : a ≠ it := fun z => by
      obtain ⟨o1, g1, c1, _⟩ := p
      obtain ⟨o2, g2, c2, _⟩ := hit
      rw [z, g2] at g1; cases g1
      rw [c2] at c1
      injection c1 with c3
      exact absurd c3 (by decide)
    have haE : a ≠ e := fun z => by
      obtain ⟨o1, g1, c1, _⟩ := p
      have g2 : s.heap.get? e = some _ := he
      rw [z, g2] at g1; cases g1
      injection c1 with c3
      exact absurd c3 (by decide)
    have hlt : i < its.toArray.size := by
      rw [List.size_toArray]
      exact (List.getElem?_eq_some_iff.mp hu).1
    have D := Draws.tuple (prog := X.prog) (w := X.w) (A := X.A.in1) (I.ok.hd hc) it a hae its.toArray
    refine wpAny_pyNext_enum_itemD D he ⟨hit, p⟩ hlt hne (by simp [hne, haE.symm]) fun y h' tk hy ho hst' hT hsz hk => ?_
    obtain rfl : u = y := by
      have hy' : its.toArray[i]? = some y := hy
      rw [List.getElem?_toArray, hu] at hy'
      exact Option.some.inj hy'
    obtain ⟨hit', _⟩ := hst'
    refine ⟨_, rfl, wpAny_letOwnedTupleGo_enum (s := { s with heap := h', toks := tk + 1 }) ho fun h'' he' sb => ?_⟩
    have hT2 : h''.get? s.heap.objs.size = some { cls := .type "tuple", data := .seq #[.int i tk, u] } := (sb.2 _ (Nat.ne_of_gt hel)).trans hT
    have new : ObjOk X.prog X.w (upd H s.heap.objs.size (.tup [.int (i : Nat), x])) h'' s.heap.objs.size (.tup [.int (i : Nat), x]) :=
      ⟨by show 2 ≤ sizeLine; decide, [.int i tk, u], .cons ⟨_, rfl⟩ (.cons ru .nil), ⟨_, hT2, rfl, _, rfl⟩⟩
    have I1 : L2.Inv X pins σ (upd H s.heap.objs.size (.tup [.int (i : Nat), x])) { s with heap := h'', toks := tk + 1 } :=
      I.turnedNew (ch := [e, it]) (fun b ob hb q => (sb.2 b (fun z => hb (by simp [z]))).trans (hk b ob (fun z => hb (by simp [z])) (fun z => hb (by simp [z])) q)) hf (Nat.le_refl _) new
    refine ⟨.ref s.heap.objs.size, _, I1, rfl, ⟨_, x, rfl, I.hok.fresh (Nat.le_refl _), rfl, fun ys hy => by rw [I.tuple_inj hy hq]; exact hx⟩, ⟨⟨u, ?_⟩, hit'.at fun o q => (sb.2 it (Ne.symm hne)).trans q, hne⟩, fun b hb => ?_⟩
    · have e1 : ((i + 1 : Nat) : Int) = (i : Int) + 1 := by omega
      rw [e1]; exact he'
    · have hb' : b < s.heap.objs.size := by
        rcases List.mem_cons.mp hb with z | hb
        · rw [z]; exact hel
        · rw [List.mem_singleton.mp hb]; exact hil
      rw [upd_ne (Nat.ne_of_lt hb')]
      exact (hf b hb).1
  done := by
    intro X hP hw hK hc i pins s σ H E I hf st hg
    subst hP hw hK
    obtain ⟨⟨old, he⟩, hit, hne⟩ := st
    obtain ⟨xs, hq, hx⟩ := hg
    obtain ⟨its, rv, p, hz⟩ := I.tuple hq
    obtain ⟨f0, f1, f2, f3, f4, f5⟩ := hf it (by simp)
    have hl := rv.length
    have hae : a ≠ it := fun z => by
      obtain ⟨o1, g1, c1, _⟩ := p
      obtain ⟨o2, g2, c2, _⟩ := hit
      rw [z, g2] at g1; cases g1
      rw [c2] at c1
      injection c1 with c3
      exact absurd c3 (by decide)
    have hsz : its.toArray.size = i := by rw [List.size_toArray, ← hl, hx]
    have D := Draws.tuple (prog := X.prog) (w := X.w) (A := X.A.in1) (I.ok.hd hc) it a hae its.toArray
    rw [hsz] at D
    exact wpAny_pyNext_enum_endD D he ⟨hit, p⟩ fun h' eb => ⟨rfl, I.turned (t' := s.toks) (fun b o hb q => eb b o hb q) f0 f1 f3 f4 f5⟩
  self := fun A i s Q E st h => by
    obtain ⟨⟨_, he⟩, _⟩ := st
    exact wpAny_pyIter_enum he h
theorem iteT_ok {K : Fr} {F : FS} {H : Hp} {a : Addr} {xs : List V} {ps : List PV} (hx : TpX K H a xs) (rx : RepL K F H xs ps) : ItOk K F H (IteT K a) (enumP ps) := fun i F2 H2 s k => by
  have hx2 : SqT K H2 a xs := (k.tpX hx).sqT
  have l1 := rx.length
  refine ⟨fun e => ?_, fun p hp => ?_⟩
  · unfold enumP at e
    rw [List.length_map, List.length_zip, List.length_range] at e
    exact ⟨xs, hx2, by omega⟩
  obtain ⟨c, e1, rfl⟩ := enumP_get hp
  obtain ⟨v, hv, rv⟩ := rx.get e1
  refine ⟨⟨xs, v, hx2, hv⟩, fun x H3 y => ?_⟩
  obtain ⟨T, x1, rfl, hT, rfl, q1⟩ := y
  obtain rfl : v = x1 := Option.some.inj (hv.symm.trans (q1 xs hx2))
  exact pair_rep hT (by unfold Rep; rfl) (Rep.mono k s c rv)
section
variable {X : Cx} {W : WX} {cm : CM}
/-- enumerate of a list or a tuple -/
def iEnumA (K : PySem.W.Frag) (ta : TA) : TI := fun σ H R => ta σ H fun vs H1 => ∃ (a : Addr) (xs : List V), vs = [.ref a] ∧ ((SqL K H1 a xs ∧ R (Ite K a) H1) ∨ (SqT K H1 a xs ∧ R (IteT K a) H1))
theorem pi_enumA {e : Expr} {ta : TA} {p pos tpos : Pos} {elts : List Expr} {kk : Nat} (hg : Gl X "enumerate") (hm : X.mg "enumerate" = none) (ha : PA X [e] ta) (hs : starEach [e] X.env = [(false, eval e X.env)] := by rfl) :
    PI X (.Tuple elts kk tpos) (.Call (.Name "enumerate" p) [e] [] pos) (iEnumA X.K ta) := by
  refine ⟨fun pins s σ H R I h => ?_⟩
  refine Call_ (ld_blt I hg hm boot_enumerate (PyProof.Rows.callWith_type1 (thn (ha.run pos pins s σ H _ I h) fun us s1 ⟨vs, H1, I1, r1, q1⟩ => ?_) hs rfl))
  obtain ⟨a, xs, rfl, q1⟩ := q1
  obtain rfl := Vals.ref1 r1
  have fin : ∀ {h' : Heap} {J : It} {tn : Nat → Heap → Prop}, (∀ b u, s1.heap.get? b = some u → h'.get? b = some u) → Turn X.prog X.w X.K (.Tuple elts kk tpos) J [s1.heap.objs.size + 1, s1.heap.objs.size] (s1.heap.objs.size + 1) tn → tn 0 h' → R J H1 →
      PIE X pins σ (.Tuple elts kk tpos) R (.ref (s1.heap.objs.size + 1)) { s1 with heap := h' } := fun {h' J tn} hk T t0 q => by
    refine ⟨s1.heap.objs.size + 1, _, _, _, H1, rfl, I1.kept (t' := s1.toks) hk, T, t0, fun b hb => ?_, q⟩
    have hle : s1.heap.objs.size ≤ b := by
      rcases List.mem_cons.mp hb with z | hb
      · rw [z]; exact Nat.le_succ _
      · rw [List.mem_singleton.mp hb]; exact Nat.le_refl _
    exact I1.fpOk hle (I1.hok.fresh hle)
  rcases q1 with ⟨hq, q⟩ | ⟨hq, q⟩
  · obtain ⟨its, rv, p', hz⟩ := I1.list hq
    exact callEnum (begins_list a its.toArray) p'.isList fun h' hE hit hsz hk => wpAny_pyIter_enum hE (fin hk (turn_enum a _ _) ⟨⟨.none, hE⟩, ⟨_, hit, rfl, rfl⟩, Nat.succ_ne_self _⟩ q)
  · obtain ⟨its, rv, p', hz⟩ := I1.tuple hq
    exact callEnum (begins_tuple a its.toArray) p' fun h' hE hit hsz hk => wpAny_pyIter_enum hE (fin hk (turnEnumT a _ _) ⟨⟨.none, hE⟩, ⟨_, hit, rfl, rfl⟩, Nat.succ_ne_self _⟩ q)
def mEnum (m : M RV) : M (List PV) := bnd m fun r => match r.1 with
  | .lst ps => ret (enumP ps)
  | .tup ps => ret (enumP ps)
  | _ => bad
theorem i_enum {es : List Expr} {kk : Nat} {tpos : Pos} {e : Expr} {m : M RV} {p pos : Pos} (hm : X.mg "enumerate" = none) (s : SE X W cm e m) (hg : Gl X "enumerate" := by rfl) (hs : starEach [e] X.env = (false, eval e X.env) :: starEach [] X.env := by rfl) : SI X W cm (.Tuple es kk tpos) (.Call (.Name "enumerate" p) [e] [] pos) (mEnum m) := ⟨_, pi_enumA hg hm (pa_cons sE_pe pa_nil hs) hs, fun {F H0 H ev σ R} r h => by
  refine s.go r (h.bnd.mono fun z ev1 F1 H1 a1 hh v rv => ?_)
  obtain ⟨F2, a2, r2, f12⟩ := rv.share a1
  have h2 := hh.2
  cases e1 : z.1 with
  | lst ps =>
    simp only [e1] at h2
    rw [e1] at r2
    unfold Rep at r2
    obtain ⟨a, xs, rfl, ⟨f, hx⟩, rl⟩ := r2
    exact ⟨a, xs, rfl, .inl ⟨SqL.of hx, Wt.ret (P := fun ps ev' F' H' => ∀ J F2, Aft X.K F H0 ev ev' σ H F2 H' → (∀ a, F' a → F2 a) → ItOk X.K F2 H' J ps → R J H') a1.er h2 _ F2 a2 f12 (ite_ok f hx rl)⟩⟩
  | tup ps =>
    simp only [e1] at h2
    rw [e1] at r2
    unfold Rep at r2
    obtain ⟨a, xs, rfl, hx, rl⟩ := r2
    exact ⟨a, xs, rfl, .inr ⟨hx.sqT, Wt.ret (P := fun ps ev' F' H' => ∀ J F2, Aft X.K F H0 ev ev' σ H F2 H' → (∀ a, F' a → F2 a) → ItOk X.K F2 H' J ps → R J H') a1.er h2 _ F2 a2 f12 (iteT_ok hx rl)⟩⟩
  | _ => simp only [e1] at h2; exact h2.elim⟩
end
end Pv

set_option Elab.async false
set_option linter.all false
set_option maxRecDepth 100000
namespace Pv
open PySem PySem.Spec L2
open PyProof.Rows hiding St
/-! ### tuples of ints, by the lesser first -/
def ltL : List Int → List Int → Bool
  | _, [] => false
  | [], _ :: _ => true
  | x :: xs, y :: ys => if x = y then ltL xs ys else decide (x < y)
theorem ltL_asym : ∀ (a b : List Int), ltL a b = true → ltL b a = false
  | _, [], h => by unfold ltL at h; cases h
  | [], y :: ys, _ => by unfold ltL; rfl
  | x :: xs, y :: ys, h => by
    unfold ltL at h ⊢
    by_cases e : x = y
    · rw [if_pos e] at h
      rw [if_pos e.symm]
      exact ltL_asym xs ys h
    · rw [if_neg e] at h
      rw [if_neg (fun z => e z.symm)]
      have := of_decide_eq_true h
      exact decide_eq_false (by omega)
theorem ltL_neg : ∀ (a b c : List Int), ltL a b = false → ltL b c = false → ltL a c = false
  | a, b, [], _, _ => by unfold ltL; rfl
  | a, [], z :: zs, _, h => by unfold ltL at h; cases h
  | [], y :: ys, z :: zs, h, _ => by unfold ltL at h; cases h
  | x :: xs, y :: ys, z :: zs, h1, h2 => by
    unfold ltL at h1 h2 ⊢
    by_cases e : x = y
    · rw [if_pos e] at h1
      by_cases e2 : y = z
      · rw [if_pos e2] at h2
        rw [if_pos (e.trans e2)]
        exact ltL_neg xs ys zs h1 h2
      · rw [if_neg e2] at h2
        rw [if_neg (by rw [e]; exact e2), e]
        exact h2
    · rw [if_neg e] at h1
      have a1 := of_decide_eq_false h1
      by_cases e2 : y = z
      · rw [if_neg (by rw [← e2]; exact e)]
        exact decide_eq_false (by omega)
      · rw [if_neg e2] at h2
        have a2 := of_decide_eq_false h2
        rw [if_neg (by omega)]
        exact decide_eq_false (by omega)
theorem ltL_eq : ∀ {a b : List Int}, ltL a b = false → ltL b a = false → a = b
  | [], [], _, _ => rfl
  | [], y :: ys, h, _ => by unfold ltL at h; cases h
  | x :: xs, [], _, h => by unfold ltL at h; cases h
  | x :: xs, y :: ys, h1, h2 => by
    unfold ltL at h1 h2
    by_cases e : x = y
    · rw [if_pos e] at h1
      rw [if_pos e.symm] at h2
      rw [e, ltL_eq h1 h2]
    · rw [if_neg e] at h1
      rw [if_neg (fun z => e z.symm)] at h2
      have a1 := of_decide_eq_false h1
      have a2 := of_decide_eq_false h2
      omega
theorem swo_ltL (k : Value → List Int) : SrtO.Swo fun v u => ltL (k v) (k u) := ⟨fun x y h => ltL_asym _ _ h, fun x y z h1 h2 => ltL_neg _ _ _ h2 h1⟩
section
variable {prog : Program} {w : World} {A : Around} {s : Shared}
theorem lex_run (fin : Bool) : ∀ (us vs : List Value) (a b : List Int) (i : Nat), IntsAre us a → IntsAre vs b → fin = decide (us.length < vs.length) →
    PySem.W.KatLex prog w A true fin (fun r s' => s' = s ∧ r = ltL a b) (us.zip vs) i s
  | [], vs, a, b, i, h, h', e => by
    cases h
    cases h' with
    | nil => exact PySem.W.kat_nil ⟨rfl, by rw [e]; unfold ltL; rfl⟩
    | cons y t' h' => exact PySem.W.kat_nil ⟨rfl, by rw [e]; unfold ltL; simp⟩
  | u :: us, [], a, b, i, h, h', e => by
    cases h'
    exact PySem.W.kat_nil ⟨rfl, by rw [e]; unfold ltL; simp⟩
  | u :: us, v :: vs, a, b, i, h, h', e => by
    cases h with
    | cons x t h =>
      cases h' with
      | cons y t' h' =>
        refine PySem.W.kat_cons (SeqAt.EqAt.int_int x t y t' prog w _ _ ?_)
        refine PySem.W.kat_go (fun e1 => ?_) (fun e1 => ?_)
        · have ex : x = y := by simpa using e1
          subst ex
          refine PySem.W.kat_yes ?_
          have := lex_run fin us vs _ _ (i + 1) h h' (by rw [e]; simp)
          unfold ltL
          rw [if_pos rfl]
          exact this
        · have ex : ¬ x = y := by simpa using e1
          refine PySem.W.kat_no (TS.oneLt_ints _ ⟨rfl, ?_⟩)
          unfold ltL
          rw [if_neg ex]
theorem tup_cmp {vs : List Value} {k : Value → List Int} (hp : ∀ v ∈ vs, TS.TupInts s.heap v (k v)) : SrtO.Cmp prog w A s (tuples' true) (fun p => p.1 ∈ vs) (SrtO.lt2 fun v u => ltL (k v) (k u)) := by
  intro p q hm hm'
  obtain ⟨a, xs, e, ⟨o, ho, hc, n, hd⟩, hi⟩ := hp _ hm
  obtain ⟨b, ys, e', ⟨o', ho', hc', n', hd'⟩, hi'⟩ := hp _ hm'
  show wpAny (model prog w) A (keyLt' (tuples' true) p.1 q.1) (fun r s' => s' = s ∧ r = ltL (k p.1) (k q.1)) (fun _ _ => False) s
  generalize k p.1 = kp at *
  generalize k q.1 = kq at *
  rw [e, e']
  refine PySem.W.kat_lt ho hd ho' hd' ?_
  exact lex_run _ _ _ _ _ 0 hi hi' (by rw [Array.length_toList, Array.length_toList])
theorem tup_firsts : ∀ {vs : List Value} {k : Value → List Int}, (∀ v ∈ vs, TS.TupInts s.heap v (k v) ∧ k v ≠ []) → ∃ fs, PySem.W.KatTups s.heap vs fs ∧ fs.length = vs.length ∧ ∀ f ∈ fs, ∃ x t, f = Value.int x t
  | [], k, _ => ⟨[], PySem.W.KatTups.nil, rfl, fun f h => by cases h⟩
  | v :: vs, k, h => by
    obtain ⟨fs, h1, h2, h3⟩ := tup_firsts (vs := vs) (k := k) fun u hu => h u (List.mem_cons_of_mem _ hu)
    obtain ⟨⟨a, xs, rfl, ⟨o, ho, hc, n, hd⟩, hi⟩, hne⟩ := h v List.mem_cons_self
    obtain ⟨x, t, r, e⟩ : ∃ x t r, xs.toList = Value.int x t :: r := by
      generalize xs.toList = l at hi
      generalize k (Value.ref a) = kl at *
      cases hi with
      | nil => exact absurd rfl hne
      | cons x t h => exact ⟨x, t, _, rfl⟩
    have e0 : xs[0]? = some (Value.int x t) := by rw [← Array.getElem?_toList, e]; rfl
    refine ⟨Value.int x t :: fs, PySem.W.KatTups.cons ho hc hd e0 h1, by rw [List.length_cons, List.length_cons, h2], fun f hf => ?_⟩
    rcases List.mem_cons.mp hf with rfl | hf
    · exact ⟨x, t, rfl⟩
    · exact h3 f hf
theorem tups_sortable {a : Addr} {vs : List Value} {k : Value → List Int} (h0 : 0 < vs.length) (hp : ∀ v ∈ vs, TS.TupInts s.heap v (k v) ∧ k v ≠ []) (ha : ∀ o, s.heap.get? a = some o → o.cls ≠ .type "tuple") : SrtO.SortableO prog w A s a vs fun v u => ltL (k v) (k u) := by
  intro h' keep
  have hp' : ∀ v ∈ vs, TS.TupInts h' v (k v) ∧ k v ≠ [] := fun v hm => ⟨(hp v hm).1.keeps fun b o e c => keep b o (fun z => by subst z; exact ha o e c) e, (hp v hm).2⟩
  obtain ⟨fs, h1, h2, h3⟩ := tup_firsts (s := { s with heap := h' }) hp'
  refine ⟨tuples' true, fun Q E hq => ?_, tup_cmp fun v hm => (hp' v hm).1⟩
  refine PySem.W.kat_kind (T := .type "int") h1 (by omega) (fun f hm => ?_) (by rfl) ?_
  · obtain ⟨x, t, rfl⟩ := h3 f hm
    exact PySem.W.Looks.now
  · rw [show (Value.type "int" != Value.type "tuple") = true by first | decide +kernel | rfl | decide]
    exact hq
end
end Pv

set_option Elab.async false
set_option linter.all false
set_option maxRecDepth 100000
namespace Pv
open PySem PySem.Spec L2
open PyProof.Rows hiding St
/-! ### sorted of a list of tuples of ints -/
def insL (a : List Int) : List (List Int) → List (List Int)
  | [] => [a]
  | b :: r => if ltL b a = true then b :: insL a r else a :: b :: r
def sortL : List (List Int) → List (List Int)
  | [] => []
  | a :: r => insL a (sortL r)
theorem insL_perm (a : List Int) : ∀ l, (insL a l).Perm (a :: l)
  | [] => .refl _
  | b :: r => by
    unfold insL
    split
    · exact ((insL_perm a r).cons b).trans (List.Perm.swap a b r)
    · exact .refl _
theorem sortL_perm : ∀ l, (sortL l).Perm l
  | [] => .refl _
  | a :: r => (insL_perm a (sortL r)).trans ((sortL_perm r).cons a)
theorem insL_sorted (a : List Int) : ∀ {l}, l.Pairwise (fun x y => ltL y x = false) → (insL a l).Pairwise fun x y => ltL y x = false
  | [], _ => List.pairwise_singleton _ _
  | b :: r, h => by
    obtain ⟨h1, h2⟩ := List.pairwise_cons.mp h
    unfold insL
    split
    · rename_i c
      refine List.pairwise_cons.mpr ⟨fun y hy => ?_, insL_sorted a h2⟩
      rcases List.mem_cons.mp ((insL_perm a r).mem_iff.mp hy) with rfl | hy
      · exact ltL_asym _ _ c
      · exact h1 y hy
    · rename_i c
      rw [Bool.not_eq_true] at c
      refine List.pairwise_cons.mpr ⟨fun y hy => ?_, h⟩
      rcases List.mem_cons.mp hy with rfl | hy
      · exact c
      · exact ltL_neg _ _ _ (h1 y hy) c
theorem sortL_sorted : ∀ l, (sortL l).Pairwise fun x y => ltL y x = false
  | [] => .nil
  | a :: r => insL_sorted a (sortL_sorted r)
theorem sortL_uniq : ∀ {A B : List (List Int)}, A.Perm B → A.Pairwise (fun x y => ltL y x = false) → B.Pairwise (fun x y => ltL y x = false) → A = B
  | [], B, p, _, _ => (List.nil_perm.mp p).symm
  | a :: A, [], p, _, _ => absurd p.length_eq (by simp)
  | a :: A, b :: B, p, h1, h2 => by
    have lr : ∀ x : List Int, ltL x x = false := fun x => by
      cases q : ltL x x with
      | false => rfl
      | true => have := ltL_asym x x q; rw [q] at this; exact this
    have e : a = b := by
      have ma : a ∈ b :: B := p.mem_iff.mp (by simp)
      have mb : b ∈ a :: A := p.mem_iff.mpr (by simp)
      refine ltL_eq ?_ ?_
      · rcases List.mem_cons.mp ma with e | ma
        · rw [e]; exact lr b
        · exact (List.pairwise_cons.mp h2).1 a ma
      · rcases List.mem_cons.mp mb with e | mb
        · rw [e]; exact lr a
        · exact (List.pairwise_cons.mp h1).1 b mb
    subst e
    rw [sortL_uniq ((List.perm_cons a).mp p) (List.pairwise_cons.mp h1).2 (List.pairwise_cons.mp h2).2]
def tupI (l : List Int) : PV := .tup (l.map .int)
def tupsP : List PV → Option (List (List Int))
  | [] => some []
  | .tup ps :: r => match intsP ps with
    | some ns => if ns.isEmpty then none else (tupsP r).map (ns :: ·)
    | none => none
  | _ :: _ => none
theorem tupsP_eq : ∀ {ps : List PV} {L : List (List Int)}, tupsP ps = some L → ps = L.map tupI ∧ ∀ l ∈ L, l ≠ []
  | [], L, h => by cases h; exact ⟨rfl, fun l hl => by cases hl⟩
  | p :: r, L, h => by
    unfold tupsP at h
    split at h
    · rename_i e; cases e
    · rename_i qs r' e
      cases e
      split at h
      · rename_i ns hi
        split at h
        · cases h
        · rename_i hne
          cases q : tupsP r with
          | none => rw [q] at h; cases h
          | some M =>
            rw [q] at h
            cases h
            obtain ⟨h1, h2⟩ := tupsP_eq q
            refine ⟨by rw [List.map_cons, ← h1, intsP_eq hi]; rfl, fun l hl => ?_⟩
            rcases List.mem_cons.mp hl with rfl | hl
            · intro z; subst z; exact hne rfl
            · exact h2 l hl
      · cases h
    · cases h
theorem tupsP_map : ∀ (L : List (List Int)), (∀ l ∈ L, l ≠ []) → tupsP (L.map tupI) = some L
  | [], _ => rfl
  | l :: L, h => by
    rw [List.map_cons]
    show (match intsP (l.map .int) with
      | some ns => if ns.isEmpty then none else (tupsP (L.map tupI)).map (ns :: ·)
      | none => none) = _
    rw [intsP_map]
    have hl := h l (by simp)
    have : l.isEmpty = false := by cases l <;> simp_all
    simp only [this, Bool.false_eq_true, if_false]
    rw [tupsP_map L fun x hx => h x (by simp [hx])]
    rfl
def gSortT : List PV → Option RV
  | [.lst ps] => (tupsP ps).map fun L => (.lst ((sortL L).map tupI), true)
  | _ => none
/-- items, their values, what they are -/
theorem zip_tups {K : Fr} {F : FS} {H : Hp} : ∀ {xs : List V} {us : List Value} {L : List (List Int)}, Vals xs us → RepL K F H xs (L.map tupI) → ∃ Z : List (V × Value × List Int), Z.map (·.1) = xs ∧ Z.map (·.2.1) = us ∧ Z.map (·.2.2) = L ∧ ∀ z ∈ Z, RelV z.1 z.2.1 ∧ Rep K F H z.1 (tupI z.2.2)
  | xs, us, [], rv, rl => by
    have e := RepL.nil_inv rl
    subst e
    cases rv
    exact ⟨[], rfl, rfl, rfl, fun z hz => by cases hz⟩
  | xs, us, l :: L, rv, rl => by
    rw [List.map_cons] at rl
    unfold RepL at rl
    obtain ⟨x, r, rfl, h1, h2⟩ := rl
    cases rv with
    | cons a b =>
      obtain ⟨Z, z1, z2, z3, z4⟩ := zip_tups b h2
      refine ⟨(x, _, l) :: Z, by rw [List.map_cons, z1], by rw [List.map_cons, z2], by rw [List.map_cons, z3], fun z hz => ?_⟩
      rcases List.mem_cons.mp hz with rfl | hz
      · exact ⟨a, h1⟩
      · exact z4 z hz
theorem vals_of {Z : List (V × Value × List Int)} (h : ∀ z ∈ Z, RelV z.1 z.2.1) : Vals (Z.map (·.1)) (Z.map (·.2.1)) := by
  induction Z with
  | nil => exact .nil
  | cons z Z ih => exact .cons (h z (by simp)) (ih fun y hy => h y (by simp [hy]))
theorem rep_of {K : Fr} {F : FS} {H : Hp} {Z : List (V × Value × List Int)} (h : ∀ z ∈ Z, Rep K F H z.1 (tupI z.2.2)) : RepL K F H (Z.map (·.1)) ((Z.map (·.2.2)).map tupI) := by
  induction Z with
  | nil => exact RepL.nil
  | cons z Z ih => exact RepL.cons (h z (by simp)) (ih fun y hy => h y (by simp [hy]))
section
variable {X : Cx}
theorem cr_sortTups : CallR X (.builtin "sorted") (fun vs H Q => ∃ (a : Addr) (xs : List V) (L : List (List Int)) (F : FS), vs = [V.ref a] ∧ SqL X.K H a xs ∧ RepL X.K F H xs (L.map tupI) ∧ (∀ l ∈ L, l ≠ []) ∧ ∀ (ys : List V) (p : Addr), RepL X.K F H ys ((sortL L).map tupI) → H p = none → Q (.ref p) (upd H p (.lst ys))) := by
  intro pins s σ H vs us Q I r h
  obtain ⟨a, xs, L, F, rfl, hs, rl, hne, q⟩ := h
  obtain ⟨its, rv, hl, hz⟩ := I.list hs
  obtain rfl := Vals.ref1 r
  obtain ⟨Z, z1, z2, z3, z4⟩ := zip_tups rv rl
  have hz2 : its.length ≤ sizeLine := by rw [← rv.length]; exact hz
  have tz : ∀ z ∈ Z, TS.TupInts s.heap z.2.1 z.2.2 := fun z hz => by
    obtain ⟨r1, r2⟩ := z4 z hz
    have r2' : Rep X.K F H z.1 (.tup (z.2.2.map .int)) := r2
    unfold Rep at r2'
    obtain ⟨t, ws, e1, e2, e3⟩ := r2'
    rw [RepL.ints e3] at e2
    rw [e1] at r1
    have e4 : z.2.1 = Value.ref t := r1
    rw [e4]
    exact tupI_raw I e2.sqT
  have hk : ∀ z ∈ Z, TS.intsOf s.heap z.2.1 = z.2.2 := fun z hz => (tz z hz).ints
  refine SrtO.sorted_ord (swo_ltL (TS.intsOf s.heap)) hl.isList hz2 (fun h2 h₁ b hb kk => ?_) fun out hs' hb => ?_
  · refine tups_sortable (s := { s with heap := h₁ }) (by omega) (fun v hv => ?_) fun o e => ?_
    · rw [← z2] at hv
      obtain ⟨z, hz, rfl⟩ := List.mem_map.mp hv
      refine ⟨?_, ?_⟩
      · rw [hk z hz]
        exact (tz z hz).keeps fun b o e _ => (kk b o e).2
      · rw [hk z hz]
        exact hne _ (by rw [← z3]; exact List.mem_map.mpr ⟨z, hz, rfl⟩)
    · have e' : some o = some (seqObj "list" its.toArray 0) := e.symm.trans hb
      cases e'
      intro c
      exact absurd (Value.type.inj c) (by decide)
  · obtain ⟨Z', q1, q2⟩ := perm_lift hb.perm Z z2.symm
    have z4' : ∀ z ∈ Z', RelV z.1 z.2.1 ∧ Rep X.K F H z.1 (tupI z.2.2) := fun z hz => z4 z (q1.mem_iff.mp hz)
    have es : Z'.map (·.2.2) = sortL L := by
      refine sortL_uniq ?_ ?_ (sortL_sorted L)
      · refine (q1.map _).trans ?_
        rw [z3]
        exact (sortL_perm L).symm
      · have hs2 : out.Pairwise fun x y => ltL (TS.intsOf s.heap y) (TS.intsOf s.heap x) = false := hs'
        rw [q2, List.pairwise_map] at hs2
        rw [List.pairwise_map]
        refine hs2.imp_of_mem fun {x y} hx hy h => ?_
        rw [hk x (q1.mem_iff.mp hx), hk y (q1.mem_iff.mp hy)] at h
        exact h
    have hr := rep_of (fun z hz => (z4' z hz).2)
    rw [es] at hr
    obtain ⟨ep, he'⟩ := PyProof.Rows.sortedAll_at s.heap its out.toArray
    have hlen : (Z'.map (·.1)).length ≤ sizeLine := by
      rw [List.length_map, q1.length_eq, ← List.length_map (f := (·.2.1)), z2]
      exact hz2
    refine ⟨.ref _, upd H (s.heap.objs.size + 1) (.lst (Z'.map (·.1))), I.laid (t' := s.toks) (fun _ _ => PyProof.Rows.sortedAll_old) (Nat.le_succ _) ⟨hlen, out, ep, ?_, he'⟩, rfl, q _ _ hr (I.hok.fresh (Nat.le_succ _))⟩
    rw [q2]
    exact vals_of fun z hz => (z4' z hz).1
theorem c_sortT : CallOk X (.builtin "sorted") gSortT := fun F H0 H ev σ vs ps r Q er rs e hq => by
  unfold gSortT at e
  split at e
  · rename_i qs
    obtain ⟨v, rfl, rv⟩ := rs.one
    obtain ⟨L, hi, rfl⟩ := Option.map_eq_some_iff.mp e
    obtain ⟨a, xs, rfl, hx, rl⟩ := rv
    obtain ⟨e1, e2⟩ := tupsP_eq hi
    rw [e1] at rl
    refine sCl_of cr_sortTups ⟨a, xs, L, F, rfl, SqL.of hx, rl, e2, fun ys p hr hp => ?_⟩
    exact hq F _ _ (er.fresh hp) (er.newL (Same.refl _) hp hr)
  · cases e
end
end Pv

set_option Elab.async false
set_option linter.all false
set_option maxRecDepth 100000
namespace Pv
open PySem PySem.Spec L2
open PyProof.Rows hiding St
/-! ### xs.remove(k) -/
def gRemove : List PV → List PV → Option (List PV)
  | ps, [.int k] => match intsP ps with
    | some ns => if k ∈ ns then some ((ns.eraseIdx (ns.idxOf k)).map .int) else none
    | none => none
  | _, _ => none
section
variable {X : Cx} {W : WX} {cm : CM}
theorem k_remove : MetOk X "list.remove" gRemove := fun F H a xs vs ps as qs hx rx rs e => by
  unfold gRemove at e
  split at e
  · rename_i k
    split at e
    · rename_i ns hi
      split at e
      · rename_i hk
        cases e
        obtain ⟨v, rfl, rv⟩ := rs.one
        unfold Rep at rv
        subst rv
        rw [intsP_eq hi] at rx
        have ex := rx.ints
        subst ex
        have hlt := List.idxOf_lt_length_of_mem hk
        refine ⟨_, (ns.eraseIdx (ns.idxOf k)).map V.int, _, mt_remove, RepL.of_ints _, fun Q hq => ⟨a, ns, k, ns.idxOf k, rfl, rfl, hx, ?_, fun m hm z => ?_, hq⟩⟩
        · rw [List.getElem?_eq_getElem hlt, List.getElem_idxOf hlt]
        · obtain ⟨hm2, e2⟩ := List.getElem?_eq_some_iff.mp z
          have q : m < ns.findIdx (· == k) := hm
          have := List.not_of_lt_findIdx q
          rw [e2] at this
          simp at this
      · cases e
    · cases e
  · cases e
/-! ### any, all, sum -/
def blsP : List PV → Option (List Bool)
  | [] => some []
  | .bl b :: r => (blsP r).map (b :: ·)
  | _ :: _ => none
theorem blsP_eq : ∀ {ps : List PV} {bs : List Bool}, blsP ps = some bs → ps = bs.map .bl
  | [], bs, h => by cases h; rfl
  | p :: r, bs, h => by
    cases p with
    | bl b =>
      unfold blsP at h
      cases q : blsP r with
      | none => rw [q] at h; cases h
      | some cs => rw [q] at h; cases h; rw [List.map_cons, blsP_eq q]
    | _ => unfold blsP at h; cases h
theorem blsP_map : ∀ bs : List Bool, blsP (bs.map .bl) = some bs
  | [] => rfl
  | b :: bs => by rw [List.map_cons, blsP, blsP_map bs]; rfl
def gAny : List PV → Option RV
  | [.lst ps] => (blsP ps).map fun bs => (.bl (bs.any id), false)
  | _ => none
def gAll : List PV → Option RV
  | [.lst ps] => (blsP ps).map fun bs => (.bl (bs.all id), false)
  | _ => none
def gSum : List PV → Option RV
  | [.lst ps] => (intsP ps).map fun ns => (.int ns.sum, false)
  | _ => none
theorem c_any (hc : X.calm = true) : CallOk X (.builtin "any") gAny := fun F H0 H ev σ vs ps r Q er rs e hq => by
  unfold gAny at e
  split at e
  · obtain ⟨v, rfl, rv⟩ := rs.one
    obtain ⟨bs, hi, rfl⟩ := Option.map_eq_some_iff.mp e
    obtain ⟨a, xs, rfl, hx, rl⟩ := rv
    rw [blsP_eq hi] at rl
    have ex := rl.bls
    subst ex
    exact sCl_of (cr_any hc) ⟨a, bs, rfl, SqL.of hx, hq F _ H er.aft res_bl⟩
  · cases e
theorem c_all (hc : X.calm = true) : CallOk X (.builtin "all") gAll := fun F H0 H ev σ vs ps r Q er rs e hq => by
  unfold gAll at e
  split at e
  · obtain ⟨v, rfl, rv⟩ := rs.one
    obtain ⟨bs, hi, rfl⟩ := Option.map_eq_some_iff.mp e
    obtain ⟨a, xs, rfl, hx, rl⟩ := rv
    rw [blsP_eq hi] at rl
    have ex := rl.bls
    subst ex
    exact sCl_of (cr_all hc) ⟨a, bs, rfl, SqL.of hx, hq F _ H er.aft res_bl⟩
  · cases e
theorem c_sum (hc : X.calm = true) : CallOk X (.builtin "sum") gSum := fun F H0 H ev σ vs ps r Q er rs e hq => by
  unfold gSum at e
  split at e
  · obtain ⟨v, rfl, rv⟩ := rs.one
    obtain ⟨ns, hi, rfl⟩ := Option.map_eq_some_iff.mp e
    obtain ⟨a, xs, rfl, hx, rl⟩ := rv
    rw [intsP_eq hi] at rl
    have ex := rl.ints
    subst ex
    exact sCl_of (cr_sum hc) ⟨a, ns, rfl, SqL.of hx, hq F _ H er.aft res_int⟩
  · cases e
/-! ### factorial -/
def facN : Nat → Nat
  | 0 => 1
  | n + 1 => facN n * (n + 1)
theorem facN_eq : ∀ n, Builtin.Math.factorialNat n = facN n
  | 0 => rfl
  | n + 1 => by rw [PySem.W.mc_fac_succ, facN_eq n, facN]
def gFact : List PV → Option RV
  | [.int i] => if 0 ≤ i ∧ i ≤ 20000 then some (.int (facN i.toNat), false) else none
  | _ => none
theorem cr_fact : CallR X (.builtin "math.factorial") (fun vs H Q => ∃ a : Int, vs = [.int a] ∧ 0 ≤ a ∧ a ≤ 20000 ∧ Q (.int (facN a.toNat)) H) := by
  intro pins s σ H vs us Q I r h
  obtain ⟨a, rfl, h1, h2, q⟩ := h
  obtain ⟨u, rfl, t, rfl⟩ := vals1 r
  refine PySem.W.mc_factorial h1 h2 fun _ => ?_
  rw [facN_eq]
  exact ⟨.int _, H, I.tok _, ⟨_, rfl⟩, q⟩
theorem c_fact : CallOk X (.builtin "math.factorial") gFact := fun F H0 H ev σ vs ps r Q er rs e hq => by
  unfold gFact at e
  split at e
  · rename_i i
    split at e
    · rename_i hi
      cases e
      obtain ⟨v, rfl, rv⟩ := rs.one
      have e1 : v = .int i := by
        have h : Rep X.K F H v (.int i) := rv
        unfold Rep at h
        exact h
      subst e1
      exact sCl_of cr_fact ⟨i, rfl, hi.1, hi.2, hq F _ H er.aft res_int⟩
    · cases e
  · cases e
theorem e_callF {id : String} {x : Str} {p pos : Pos} {e : Expr} {es : List Expr} {g : List PV → Option RV} {ma : M (List PV)} (hc : CallOk X (.builtin id) g) (hm : X.mg x = some (.builtin id)) (ha : SK X W cm (e :: es) ma) (hg : Gl X x := by rfl) (hdb : (x == ("__debug__" : Str)) = false := by decide)
    (he : starEach (e :: es) X.env = (false, eval e X.env) :: starEach es X.env := by rfl) (hpl : (backTo pos (starEach es X.env)).any (·.1) = false := by rfl) : SE X W cm (.Call (.Name x p) (e :: es) [] pos) (eCall g ma) := .mk' fun F H0 H ev σ Q r h =>
  sE_of (pe_callBfun sCl_ok hg hm sA_pa hdb he hpl) (call2 hc ha r h)
end
def mgIs (K : Fr) (x : Str) (v : Value) : Bool := decide (PySem.W.nsIn K mainGlobals x = some (some v))
theorem mgIs_ok {K : Fr} {h : Heap} {mg : Str → Option Value} (X : K.In h) (G : h.Ns mainGlobals mg) {x : Str} {v : Value} (c : mgIs K x v = true) : mg x = some v := PySem.W.mg_of X G (of_decide_eq_true c)
end Pv

set_option Elab.async false
set_option linter.all false
set_option maxRecDepth 100000
namespace Pv
open PySem PySem.Spec L2
open PyProof.Rows hiding St
section
variable {X : Cx} {W : WX} {cm : CM}
/-! ### xs.count(k) of a list of ints -/
def gCount : PV → PV → Option RV
  | .lst ps, .int k => match intsP ps with
    | some ns => vI (ns.count k : Nat)
    | none => none
  | _, _ => none
theorem gCount_ok {p q : PV} {r : RV} (e : gCount p q = some r) : ∃ (ns : List Int) (k : Int), p = .lst (ns.map .int) ∧ q = .int k ∧ r = (.int (ns.count k : Nat), false) := by
  unfold gCount at e
  split at e
  · split at e
    · rename_i ns hi
      cases e
      exact ⟨ns, _, by rw [intsP_eq hi], rfl, rfl⟩
    · cases e
  · cases e
theorem gCount_i {ns : List Int} {k : Int} : gCount (.lst (ns.map .int)) (.int k) = some (.int ((ns.count k : Nat) : Int), false) := by
  unfold gCount
  simp only [intsP_map]
  rfl
def mCount (mo me : M PV) : M RV := eOp gCount (onlyL mo) me
theorem e_count {o e : Expr} {mo me : M PV} {apos cpos : Pos} (so : Pv.SP X W cm o mo) (se : Pv.SP X W cm e me)
    (hbase : attributeBase o "count" X.env (eval o X.env) = eval o X.env := by rfl)
    (hfew : ((((backTo cpos (starEach [e] X.env)).all fun x => !x.fst) && (backToKw cpos (keywordEach [] X.env)).all fun x => x.fst.isSome) && decide (([e].length + ([] : List Keyword).length + if ([] : List Keyword).isEmpty = true then 0 else 1) < 30)) = true := by rfl)
    (hline : (apos.endLine == cpos.line) = true := by rfl) (hs : starEach [e] X.env = (false, eval e X.env) :: starEach [] X.env := by rfl) : SE X W cm (.Call (.Attribute o "count" apos) [e] [] cpos) (mCount mo me) := .mk' fun F H0 H ev σ Q r h => by
  refine sE_of (pe_bm PySem.F.plainAttrs_list PySem.F.slot_list_count PySem.F.type_list_count sMt_ok sE_pe (pa_cons sE_pe pa_nil hs) hbase hfew hline hs rfl) ?_
  refine so.go r (h.bnd.bnd.mono fun p ev1 F1 H1 a1 hh x rx => ?_)
  have h2 := hh.2
  cases p with
  | lst ps =>
    have h3 := (h2 F1 H1 a1.er.aft).2
    obtain ⟨a, xs, ea, hx, rl⟩ := rx
    refine ⟨by rw [ea]; exact .inl ⟨rfl, xs, SqL.of hx⟩, ?_⟩
    refine se.go a1.er (h3.bnd.mono fun q ev2 F2 H2 a2 hh2 y ry => ?_)
    have h4 := hh2.2
    show sMt X "list.count" x [y] H2 Q
    cases eg : gCount (.lst ps) q with
    | none => rw [eg] at h4; exact h4.elim
    | some z =>
      rw [eg] at h4
      obtain ⟨ns, k, e1, rfl, rfl⟩ := gCount_ok eg
      cases e1
      have ey : y = .int k := ry
      subst ey ea
      have rl2 := rl.ints
      subst rl2
      exact sMt_of mt_lcount ⟨a, ns, k, rfl, rfl, SqL.of (a2.same _ _ hx), Wt.ret a2.er h4 _ res_int⟩
  | _ => exact h2.elim
end
end Pv

set_option Elab.async false
set_option linter.all false
set_option maxRecDepth 100000
namespace Pv
open PySem PySem.Spec L2
open PyProof.Rows hiding St
section
variable {X : Cx} {W : WX} {cm : CM}
/-! ### divmod of a positive number below 2^100 -/
def gDivmod : List PV → Option RV
  | [.int i, .int j] => if 0 < j ∧ j < 2 ^ 100 then some (.itm [.int (i / j), .int (i % j)], false) else none
  | _ => none
theorem c_divmod : CallOk X (.builtin "divmod") gDivmod := fun F H0 H ev σ vs ps r Q er rs e hq => by
  unfold gDivmod at e
  split at e
  · rename_i i j
    split at e
    · rename_i c
      cases e
      obtain ⟨v, w, rfl, r1, r2⟩ := rs.two
      have e1 : v = .int i := r1
      have e2 : w = .int j := r2
      subst e1 e2
      have hp : CDivP i j := ⟨c.1, PyProof.noPylong_of_log2 (Nat.lt_of_lt_of_le (PySem.Flt.log2_lt_of (k := 100) (by omega) (by omega)) (by omega))⟩
      refine sCl_of call_divmodW ⟨i, j, rfl, hp, fun p hl => ?_⟩
      exact hq F _ _ (er.fresh hl) (pair_rep (p := .int (i / j)) (q := .int (i % j)) hl (by unfold Rep; rfl) (by unfold Rep; rfl)).2
    · cases e
  · cases e
end
end Pv

set_option Elab.async false
set_option linter.all false
set_option maxRecDepth 100000
namespace Pv
open PySem PySem.Spec L2
open PyProof.Rows hiding St
section
variable {X : Cx} {W : WX} {cm : CM}
/-! ### xs[k] = e of an own list -/
theorem RepL.put {K : Fr} {F : FS} {H : Hp} {v : V} {p : PV} (h : Rep K F H v p) : ∀ {n : Nat} {xs : List V} {ps : List PV}, RepL K F H xs ps → RepL K F H (xs.set n v) (ps.set n p)
  | n, xs, [], r => by
    obtain rfl := r.nil_inv
    exact r
  | 0, xs, q :: ps, r => by
    unfold RepL at r
    obtain ⟨x, ys, rfl, h1, h2⟩ := r
    exact RepL.cons h h2
  | n + 1, xs, q :: ps, r => by
    unfold RepL at r
    obtain ⟨x, ys, rfl, h1, h2⟩ := r
    exact RepL.cons h1 (RepL.put h h2)
def mPut (i : Nat) (mi : M PV) (p : PV) : M Fl := fun ev => match ev[i]? with
  | some (.own _) => bnd mi (fun k ev2 => match ev2[i]?, k with
    | some (.own ps), .int z => (match ixN ps.length z with
      | some n => .ok .nx (ev2.set i (.own (ps.set n p)))
      | none => .bad)
    | _, _ => .bad) ev
  | _ => .bad
theorem s_put {i : Nat} {x : Str} {ix e : Expr} {mi : M PV} {m : M RV} {p tpos pos : Pos} (si : Pv.SP X W cm ix mi) (s : SE X W cm e m) (hi : X.N[i]? = some x := by rfl) (hv : Vis X.env.scope x := by first | exact Or.inl rfl | exact Or.inr (Or.inl rfl) | exact Or.inr (Or.inr rfl)) (hd : (x == ("__debug__" : Str)) = false := by decide) (hcd : (x == ("__classdict__" : Str)) = false := by decide)
    (hs : swapsWithSole [.Subscript (.Name x p) ix tpos] e pos.line X.env = pure false := by rfl) (hw : swappedStores [.Subscript (.Name x p) ix tpos] e X.env = pure none := by rfl) (ha : List.map (fun x => x.snd) (assignEach [.Subscript (.Name x p) ix tpos] X.env) = [assign (.Subscript (.Name x p) ix tpos) X.env] := by rfl)
    (hsub : ∀ v, assign (.Subscript (.Name x p) ix tpos) X.env v = (do
      let ov ← holding [v] (eval (.Name x p) X.env)
      let iv ← holding [v, ov] (eval ix X.env)
      standAt tpos
      holding [v, ov, iv] (setItem ov iv v)
      release [v, ov, iv] []) := by intro _; rfl) :
    SS X W cm (.Assign [.Subscript (.Name x p) ix tpos] e pos) (bnd m fun r => mPut i mi r.1) := ⟨fun {F0 F H0 H ev σ D} b h => by
  refine sS_of (ps_asg sE_pe (pg_sub (pe_var hi hv hd hcd) sE_pe set_list hsub) hs hw ha) ?_
  refine s.go b.er ((h.expr b).mono fun r ev1 F1 H1 a hh v rv => ?_)
  obtain ⟨F2, a2, r2, f12⟩ := rv.share a
  have h2 := hh.2
  have as0 : AS X.K F0 F1 H0 H1 F2 ev1 σ H1 := ⟨(b.aft a2).bs, f12, .refl⟩
  have h3 := h2.not_bad
  cases e0 : ev1[i]? with
  | none => unfold mPut at h3; rw [e0] at h3; exact absurd rfl h3
  | some sl =>
    cases sl with
    | no => unfold mPut at h3; rw [e0] at h3; exact absurd rfl h3
    | val q => unfold mPut at h3; rw [e0] at h3; exact absurd rfl h3
    | own ps0 =>
      obtain ⟨o, e1, c, xs0, rfl, ex0, q0, nf, e3⟩ := a2.er.slot i _ e0
      refine ⟨_, e1, ?_⟩
      refine si.go a2.er ?_
      unfold Ws mPut Pv.bnd at h2
      unfold Wt
      simp only [e0] at h2
      cases em : mi ev1 with
      | bad => simp only [em] at h2
      | exc c ev2 => simp only [em] at h2; exact fun F' H' a' => h2 F' σ H' (as0.trans (as0.bs.aft a'))
      | ok k ev2 =>
        simp only [em] at h2
        intro F3 H3 a3 u ru
        cases e5 : ev2[i]? with
        | none => simp only [e5] at h2
        | some sl =>
          cases sl with
          | no => simp only [e5] at h2
          | val q => simp only [e5] at h2
          | own ps =>
            cases k with
            | int z =>
              simp only [e5] at h2
              cases e6 : ixN ps.length z with
              | none => simp only [e6] at h2
              | some n =>
                simp only [e6] at h2
                obtain ⟨xs, hx, rx⟩ := own_of a2.er a3 e5 e1
                have eu : u = .int z := ru
                have rv3 : Rep X.K F3 H3 v r.1 := Rep.mono (Keep.of a3.same) a3.sub r.1 r2
                refine ⟨c, xs, z, n, rfl, eu, hx, by rw [rx.length]; exact e6, ?_⟩
                exact h2 F3 σ _ ((as0.trans (as0.bs.aft a3)).trans ((as0.bs.aft a3).bs.setOwn e5 e1 (RepL.put rv3 rx)))
            | _ => simp only [e5] at h2⟩
end
end Pv

set_option Elab.async false
set_option linter.all false
set_option maxRecDepth 100000
namespace Pv
open PySem PySem.Spec L2
open PyProof.Rows hiding St
section
variable {X : Cx} {W : WX} {cm : CM}
/-! ### [e for x in xs if t for y in ys if u] -/
def SameBut (D : Addr) (H H' : Hp) : Prop := ∀ b o, b ≠ D → H b = some o → H' b = some o
theorem SameBut.refl {D : Addr} {H : Hp} : SameBut D H H := fun _ _ _ h => h
theorem SameBut.then {D : Addr} {H H1 H2 : Hp} (a : SameBut D H H1) (s : Same H1 H2) : SameBut D H H2 := fun b o n h => s _ _ (a b o n h)
theorem SameBut.free {D a : Addr} {H H' : Hp} {o : HO} (s : SameBut D H H') (hD : H' D = some o) (h : H' a = none) : H a = none := by
  by_cases e : a = D
  · subst e; rw [hD] at h; cases h
  · cases q : H a with
    | none => rfl
    | some z => rw [s a z e q] at h; cases h
theorem SameBut.keep {D : Addr} {F : FS} {H H' : Hp} {xs : List V} (s : SameBut D H H') (hD : H D = some (.lst xs)) (nF : ¬ F D) : Keep F H H' :=
  ⟨fun b zs h => s b _ (fun z => by rw [z, hD] at h; cases h) h, fun b o u h => s b _ (fun z => by rw [z, hD] at h; cases h) h, fun b o f h => s b _ (fun z => by rw [z] at f; exact nF f) h⟩
/-- the items of the inner for, put behind what the list D has -/
theorem pass_in {elt tg : Expr} {ifs : List Expr} {scope : Scope} {vs js : List Nat} {t : PV → SL → Option SL} {mt : M Bool} {me : M RV}
    (hg : Blk X scope fun Y => SG Y W0 tg t js) (ht : Blk X scope fun Y => STs Y W0 cm ifs mt) (he : Blk X scope fun Y => SE Y W0 cm elt me) (hj : ∀ j ∈ js, j ∈ vs)
    {F2 : FS} {H0 H1 : Hp} {ev1 : SL} {σ : St} {D : Addr} {J : It} {ps acc0 qs : List PV} {accV0 : List V} {evf : SL} {P : Hp → Prop}
    (er0 : ER X.K F2 H0 ev1 σ H1) (hD0 : H0 D = none) (nFD : ¬ F2 D) (nOD : ¬ Ow ev1 σ D) (hD : H1 D = some (.lst accV0)) (ra0 : RepL X.K F2 H1 accV0 acc0)
    (it : ItOk X.K F2 H1 J ps) (eq : compr t mt me vs acc0 ps (wipeE ev1 vs) = .ok qs evf)
    (hP : ∀ F' H' accV, ER X.K F' H0 evf (wipe σ vs) H' → (∀ a, F2 a → F' a) → SameBut D H1 H' → ¬ F' D → H' D = some (.lst accV) → RepL X.K F' H' accV qs → (∀ a, F' a → F2 a ∨ H1 a = none ∨ Ow (wipeE ev1 vs) (wipe σ vs) a) → (∀ a, Ow evf (wipe σ vs) a → Ow (wipeE ev1 vs) (wipe σ vs) a) → P H') :
    ∃ W1 : Nat → Nat → Hp → Prop, (∃ m, W1 0 m H1) ∧ ∀ i n H', W1 i n H' → (J.stop i H' ∧ P H') ∨ (J.go i H' ∧ ∃ Nx : Hp → Prop, (∀ H', Nx H' → ∃ m', m' < n ∧ W1 (i + 1) m' H') ∧ ∀ x H4, J.yld i H' x H4 → cG X scope tg x (wipe σ vs) H4 fun σ2 H2 => wipe σ2 vs = wipe σ vs ∧ cT X scope ifs σ2 H2 fun b H3 =>
      if b = true then cE X scope elt σ2 H3 fun y H4 => ∃ acc, H4 D = some (.lst acc) ∧ acc.length < sizeLine ∧ Nx (upd H4 D (.lst (acc ++ [y]))) else Nx H3) := by
  have owW : ∀ a, Ow (wipeE ev1 vs) (wipe σ vs) a → Ow ev1 σ a := fun a ⟨i, zs, e1, e2⟩ => by
    rcases wipeE_get e1 with z | ⟨z, n⟩
    · cases z
    · exact ⟨i, zs, z, by rw [← wipe_get n]; exact e2⟩
  refine ⟨fun i n H' => n = ps.length - i ∧ i ≤ ps.length ∧ ∃ F' ev' acc accV, ER X.K F' H0 ev' (wipe σ vs) H' ∧ (∀ a, F2 a → F' a) ∧ SameBut D H1 H' ∧ ¬ F' D ∧ H' D = some (.lst accV) ∧ RepL X.K F' H' accV acc ∧
    (∀ a, F' a → F2 a ∨ H1 a = none ∨ Ow (wipeE ev1 vs) (wipe σ vs) a) ∧ (∀ a, Ow ev' (wipe σ vs) a → Ow (wipeE ev1 vs) (wipe σ vs) a) ∧ compr t mt me vs acc (ps.drop i) ev' = .ok qs evf, ?_, ?_⟩
  · exact ⟨ps.length, by simp, Nat.zero_le _, F2, wipeE ev1 vs, acc0, accV0, er0.wiped vs, fun _ h => h, SameBut.refl, nFD, hD, ra0, fun _ h => .inl h, fun _ h => h, eq⟩
  · rintro i n H' ⟨rfl, hi, F', ev', acc, accV, er, f2, s1, nF, hDl, ra, gr, ow, hc⟩
    by_cases e : i = ps.length
    · refine .inl ⟨(it i F' H' f2 (s1.keep hD nFD)).1 e, ?_⟩
      rw [e, List.drop_length] at hc
      unfold compr Pv.ret at hc
      have e8 : acc = qs := by injection hc
      have e9 : ev' = evf := by injection hc
      subst e8 e9
      exact hP F' H' accV er f2 s1 nF hDl ra gr ow
    · have hlt : i < ps.length := by omega
      have ed : ps.drop i = ps[i] :: ps.drop (i + 1) := List.drop_eq_getElem_cons hlt
      rw [ed] at hc
      obtain ⟨go, yl⟩ := (it i F' H' f2 (s1.keep hD nFD)).2 ps[i] (List.getElem?_eq_getElem hlt)
      refine .inr ⟨go, fun H3 => ∃ F3 ev3 acc3 accV3, ER X.K F3 H0 ev3 (wipe σ vs) H3 ∧ (∀ a, F2 a → F3 a) ∧ SameBut D H1 H3 ∧ ¬ F3 D ∧ H3 D = some (.lst accV3) ∧ RepL X.K F3 H3 accV3 acc3 ∧
        (∀ a, F3 a → F2 a ∨ H1 a = none ∨ Ow (wipeE ev1 vs) (wipe σ vs) a) ∧ (∀ a, Ow ev3 (wipe σ vs) a → Ow (wipeE ev1 vs) (wipe σ vs) a) ∧ compr t mt me vs acc3 (ps.drop (i + 1)) ev3 = .ok qs evf, fun H3 q => ⟨_, by omega, rfl, hlt, q⟩, fun x H4 y => ?_⟩
      obtain ⟨s4, r4⟩ := yl x H4 y
      unfold compr turn at hc
      cases e1 : t ps[i] ev' with
      | none => simp only [e1] at hc; cases hc
      | some ev2 =>
      simp only [e1] at hc
      have er4 := er.later s4
      intro s H9 C cl fp pins st u I ru
      refine (hg s H9 C cl fp).go (F0 := F') ⟨er4, fun _ h => h, fun _ h => .inl h⟩ r4 e1 (fun σ2 a5 bt ho => ?_) pins st u I ru
      have er5 : ER X.K F' H0 ev2 σ2 H4 := a5.bs.er
      have wσ : wipe σ2 vs = wipe σ vs := (wipe_but bt hj).trans (wipe_wipe vs)
      refine ⟨wσ, fun s H9 C cl fp => ?_⟩
      unfold Pv.bnd at hc
      cases e2 : mt ev2 with
      | bad => simp only [e2] at hc; cases hc
      | exc c ev3 => simp only [e2] at hc; cases hc
      | ok k ev3 =>
      simp only [e2] at hc
      refine (ht s H9 C cl fp).go er5 ?_
      unfold Wt
      rw [e2]
      intro F5 H5 a6
      have s5 : SameBut D H1 H5 := s1.then (s4.trans a6.same)
      have d5 : H5 D = some (.lst accV) := a6.same _ _ (s4 _ _ hDl)
      have oD : ∀ {a}, Ow ev2 σ2 a → Ow (wipeE ev1 vs) (wipe σ vs) a := fun {a} o => ow a (ho a o)
      have nO : ¬ Ow ev2 σ2 D := fun o => nOD (owW D (oD o))
      have nF5 : ¬ F5 D := fun f => by
        rcases a6.grow D f with z | z | z
        · exact nF z
        · rw [s4 _ _ hDl] at z; cases z
        · exact nO z
      have gr5 : ∀ a, F5 a → F2 a ∨ H1 a = none ∨ Ow (wipeE ev1 vs) (wipe σ vs) a := fun a f => by
        rcases a6.grow a f with z | z | z
        · exact gr a z
        · exact .inr (.inl (s1.free hDl (s4.free z)))
        · exact .inr (.inr (oD z))
      have f5 : ∀ a, F2 a → F5 a := fun a f => a6.sub a (f2 a f)
      have ra5 : RepL X.K F5 H5 accV acc := RepL.mono (.of (s4.trans a6.same)) a6.sub acc ra
      have owE : ∀ {ev7 : SL} a, Ow (wipeE ev7 vs) (wipe σ vs) a → (∀ a, Ow ev7 σ2 a → Ow ev2 σ2 a) → Ow (wipeE ev1 vs) (wipe σ vs) a := fun {ev7} a ⟨i, zs, z1, z2⟩ hh => by
        rcases wipeE_get z1 with z | ⟨z, n⟩
        · cases z
        · refine oD (hh a ⟨i, zs, z, ?_⟩)
          rw [← wσ, wipe_get n] at z2
          exact z2
      cases k with
      | false =>
        simp only [Bool.false_eq_true, if_false, Pv.ret] at hc
        refine iteF ⟨F5, wipeE ev3 vs, acc, accV, ?_, f5, s5, nF5, d5, ra5, gr5, fun a o => owE a o a6.ow, hc⟩
        rw [← wσ]
        exact a6.er.wiped vs
      | true =>
        simp only [if_true] at hc
        refine iteT ?_
        intro s H9 C cl fp
        cases e3 : me ev3 with
        | bad => simp only [e3] at hc; cases hc
        | exc c ev4 => simp only [e3] at hc; cases hc
        | ok z ev4 =>
        simp only [e3, Pv.ret] at hc
        refine (he s H9 C cl fp).go a6.er ?_
        unfold Wt
        rw [e3]
        intro F6 H6 a7 v rv
        obtain ⟨F7, a8, r8, _⟩ := rv.share a7
        by_cases hz : acc.length < SZ
        · rw [if_pos hz] at hc
          have d6 : H6 D = some (.lst accV) := a8.same _ _ d5
          have nF7 : ¬ F7 D := fun f => by
            rcases a8.grow D f with z | z | z
            · exact nF5 z
            · rw [d5] at z; cases z
            · exact nO (a6.ow D z)
          have ra7 : RepL X.K F7 H6 accV acc := RepL.mono (.of a8.same) a8.sub acc ra5
          have erW : ER X.K F7 H0 (wipeE ev4 vs) (wipe σ vs) H6 := by
            rw [← wσ]
            exact a8.er.wiped vs
          have noW : ¬ Ow (wipeE ev4 vs) (wipe σ vs) D := fun o => nOD (owW D (owE D o fun a o => a6.ow a (a8.ow a o)))
          obtain ⟨erD, kD⟩ := erW.side (xs := accV ++ [v]) nF7 hD0 noW ⟨_, d6⟩
          refine ⟨accV, d6, by rw [ra7.length]; exact hz, F7, wipeE ev4 vs, acc ++ [z.1], accV ++ [v], erD, fun a f => a8.sub a (f5 a f), fun b o ne hb => ?_, nF7, upd_same, RepL.mono kD (fun _ h => h) _ (ra7.append (RepL.cons r8 RepL.nil)), fun a f => ?_, fun a o => owE a o fun a o => a6.ow a (a8.ow a o), hc⟩
          · rw [upd_ne ne]
            exact a8.same _ _ (s5 _ _ ne hb)
          · rcases a8.grow a f with z | z | z
            · exact gr5 a z
            · exact .inr (.inl (s5.free d5 z))
            · exact .inr (.inr (oD (a6.ow a z)))
        · rw [if_neg hz] at hc; cases hc
end
end Pv

set_option Elab.async false
set_option linter.all false
set_option maxRecDepth 100000
namespace Pv
open PySem PySem.Spec L2
open PyProof.Rows hiding St
section
variable {X : Cx} {W : WX} {cm : CM}
def sI (X : Cx) (tg iter : Expr) : TI := fun σ H R => ∃ wi, PI X tg iter wi ∧ wi σ H R
theorem sI_pi {tg iter : Expr} : PI X tg iter (sI X tg iter) := ⟨fun pins s σ H R I h => by
  obtain ⟨wi, p, q⟩ := h
  exact p.run pins s σ H R I q⟩
def cI (X : Cx) (scope : Scope) (tg iter : Expr) : TI := fun σ H R => ∀ (s : Shared) (H1 : Hp) (C : Addr) (cl : List (Str × Addr)) (fp : List Addr), sI (X.blk s H1 scope (compEnvC scope cl C X.env) fp) tg iter σ H R
def compr2 (t : PV → SL → Option SL) (mt : M Bool) (mi1 : M (List PV)) (t1 : PV → SL → Option SL) (mt1 : M Bool) (me : M RV) (vs vs1 : List Nat) : List PV → List PV → M (List PV)
  | acc, [] => ret acc
  | acc, p :: ps => fun ev => match t p ev with
    | none => .bad
    | some ev1 => match mt ev1 with
      | .ok true ev2 => (match mi1 ev2 with
        | .ok ps1 ev3 => (match compr t1 mt1 me vs1 acc ps1 (wipeE ev3 vs1) with
          | .ok acc' ev4 => compr2 t mt mi1 t1 mt1 me vs vs1 acc' ps (wipeE ev4 vs)
          | _ => .bad)
        | _ => .bad)
      | .ok false ev2 => compr2 t mt mi1 t1 mt1 me vs vs1 acc ps (wipeE ev2 vs)
      | _ => .bad
def mComp2 (mi : M (List PV)) (t : PV → SL → Option SL) (mt : M Bool) (mi1 : M (List PV)) (t1 : PV → SL → Option SL) (mt1 : M Bool) (me : M RV) (vs vs1 : List Nat) : M RV := bnd mi fun ps ev1 => match compr2 t mt mi1 t1 mt1 me vs vs1 [] ps (wipeE ev1 vs) with
  | .ok qs ev2 => .ok (.lst qs, true) (back ev1 ev2 vs)
  | _ => .bad
theorem comp2_core {elt tg tg1 iter1 : Expr} {ifs ifs1 : List Expr} {scope : Scope} {vs js vs1 js1 : List Nat} {mi mi1 : M (List PV)} {t t1 : PV → SL → Option SL} {mt mt1 : M Bool} {me : M RV} {wi : TI}
    (hg : Blk X scope fun Y => SG Y W0 tg t js) (ht : Blk X scope fun Y => STs Y W0 cm ifs mt) (hi1 : Blk X scope fun Y => SI Y W0 cm tg1 iter1 mi1) (hg1 : Blk X scope fun Y => SG Y W0 tg1 t1 js1) (ht1 : Blk X scope fun Y => STs Y W0 cm ifs1 mt1) (he : Blk X scope fun Y => SE Y W0 cm elt me) (hj : ∀ j ∈ js, j ∈ vs) (hj1 : ∀ j ∈ js1, j ∈ vs1) (hv : ∀ j ∈ vs1, j ∈ vs)
    (hwi : ∀ {F : FS} {H0 H : Hp} {ev : SL} {σ : St} {R : It → Hp → Prop}, ER X.K F H0 ev σ H → (Wt X.K W cm F H0 ev σ H mi fun ps ev' F' H' => ∀ J F2, Aft X.K F H0 ev ev' σ H F2 H' → (∀ a, F' a → F2 a) → ItOk X.K F2 H' J ps → R J H') → wi σ H R)
    {F : FS} {H0 H : Hp} {ev : SL} {σ : St} {Q : VK} (r : ER X.K F H0 ev σ H)
    (h : Wt X.K W cm F H0 ev σ H (mComp2 mi t mt mi1 t1 mt1 me vs vs1) fun r ev' F' H' => ∀ v, ResR X.K F' H0 ev' σ H H' r v → Q v H') :
    tLc2 wi (cG X scope tg) (cT X scope ifs) (cI X scope tg1 iter1) (cG X scope tg1) (cT X scope ifs1) (cE X scope elt) vs vs1 σ H Q := by
  refine hwi r ?_
  unfold Wt
  unfold Wt mComp2 Pv.bnd at h
  cases em : mi ev with
  | bad => simp only [em] at h
  | exc c ev1 => simp only [em] at h; exact h
  | ok ps ev1 =>
  simp only [em] at h
  intro F1 H1 _ J F2 a2 _ it D hD
  cases eq : compr2 t mt mi1 t1 mt1 me vs vs1 [] ps (wipeE ev1 vs) with
  | bad => simp only [eq] at h
  | exc c evf => simp only [eq] at h
  | ok qs evf =>
  simp only [eq] at h
  have hD0 : H0 D = none := a2.er.same.free hD
  have nFD : ¬ F2 D := fun f => a2.er.dom D f hD
  have nOD : ¬ Ow ev1 σ D := fun o => by
    obtain ⟨_, _, xs, e⟩ := a2.er.ow o
    rw [hD] at e; cases e
  have owW : ∀ a, Ow (wipeE ev1 vs) (wipe σ vs) a → Ow ev1 σ a := fun a ⟨i, zs, e1, e2⟩ => by
    rcases wipeE_get e1 with z | ⟨z, n⟩
    · cases z
    · exact ⟨i, zs, z, by rw [← wipe_get n]; exact e2⟩
  refine ⟨fun i n H' => n = ps.length - i ∧ i ≤ ps.length ∧ ∃ F' ev' acc accV, ER X.K F' H0 ev' (wipe σ vs) H' ∧ (∀ a, F2 a → F' a) ∧ Same H1 H' ∧ ¬ F' D ∧ H' D = some (.lst accV) ∧ RepL X.K F' H' accV acc ∧
    (∀ a, F' a → F2 a ∨ H1 a = none ∨ Ow (wipeE ev1 vs) (wipe σ vs) a) ∧ (∀ a, Ow ev' (wipe σ vs) a → Ow (wipeE ev1 vs) (wipe σ vs) a) ∧ compr2 t mt mi1 t1 mt1 me vs vs1 acc (ps.drop i) ev' = .ok qs evf, ?_, ?_⟩
  · exact ⟨ps.length, by simp, Nat.zero_le _, F2, wipeE ev1 vs, [], [], (a2.er.wiped vs).later (same_upd hD), fun _ h => h, same_upd hD, nFD, upd_same, RepL.nil, fun _ h => .inl h, fun _ h => h, eq⟩
  · rintro i n H' ⟨rfl, hi, F', ev', acc, accV, er, f2, s1, nF, hDl, ra, gr, ow, hc⟩
    by_cases e : i = ps.length
    · refine .inl ⟨(it i F' H' f2 (.of s1)).1 e, ?_⟩
      rw [e, List.drop_length] at hc
      unfold compr2 Pv.ret at hc
      have e8 : acc = qs := by injection hc
      have e9 : ev' = evf := by injection hc
      rw [← e8, ← e9] at h
      have backlen : ∀ vs : List Nat, (back ev1 ev' vs).length = ev'.length := by
        intro vs
        induction vs with
        | nil => rfl
        | cons v vs ih => unfold back; rw [List.length_set, ih]
      have backget : ∀ (vs : List Nat) (i : Nat) (s : Slot), (back ev1 ev' vs)[i]? = some s → (i ∉ vs ∧ ev'[i]? = some s) ∨ s = .no ∨ ∃ p, s = .val p ∧ ev1[i]? = some (.val p) := by
        intro vs
        induction vs with
        | nil => intro i s h; exact .inl ⟨by simp, h⟩
        | cons v vs ih =>
          intro i s h
          unfold back at h
          rcases getElem?_set_some h with ⟨z, e⟩ | ⟨ne, e⟩
          · subst z
            split at e
            · rename_i p hp; exact .inr (.inr ⟨p, e, hp⟩)
            · exact .inr (.inl e)
          · rcases ih i s e with ⟨z1, z2⟩ | z
            · exact .inl ⟨fun z => (List.mem_cons.mp z).elim (fun z => ne z.symm) z1, z2⟩
            · exact .inr z
      have ow1 : ∀ a, Ow (back ev1 ev' vs) σ a → Ow ev' (wipe σ vs) a := fun a ⟨i, zs, e1, e2⟩ => by
        rcases backget vs i _ e1 with ⟨z1, z2⟩ | z | ⟨p, z, _⟩
        · exact ⟨i, zs, z2, by rw [wipe_get z1]; exact e2⟩
        · cases z
        · cases z
      have erB : ER X.K F' H0 (back ev1 ev' vs) σ H' := by
        refine ⟨by rw [backlen, er.len, wipe_length], fun i s e => ?_, fun i j a us ws e1 e2 s1 s2 => ?_, er.dom, er.same⟩
        · rcases backget vs i s e with ⟨z1, z2⟩ | z | ⟨p, z, z2⟩
          · obtain ⟨o, e1, q⟩ := er.slot i s z2
            exact ⟨o, by rw [← wipe_get z1]; exact e1, q⟩
          · subst z
            have : i < σ.length := by
              have h1 := (List.getElem?_eq_some_iff.mp e).1
              rw [backlen, er.len, wipe_length] at h1
              exact h1
            exact ⟨_, List.getElem?_eq_getElem this, trivial⟩
          · subst z
            obtain ⟨o, e1, v, e2, q⟩ := a2.er.slot i _ z2
            exact ⟨o, e1, v, e2, Rep.mono (.of s1) f2 p q⟩
        · rcases backget vs i _ e1 with ⟨z1, z2⟩ | z | ⟨p, z, _⟩
          · rcases backget vs j _ e2 with ⟨y1, y2⟩ | y | ⟨p, y, _⟩
            · exact er.inj i j a us ws z2 y2 (by rw [wipe_get z1]; exact s1) (by rw [wipe_get y1]; exact s2)
            · cases y
            · cases y
          · cases z
          · cases z
      refine h F' H' ⟨fun a h => f2 a (a2.sub a h), fun a h => ?_, a2.same.trans s1, erB, fun a h => a2.ow a (owW a (ow a (ow1 a h)))⟩ (.ref D) ⟨D, accV, acc, rfl, rfl, hDl, ra, nF, a2.same.free hD, fun o => nOD (owW D (ow D (ow1 D o)))⟩
      rcases gr a h with h | h | h
      · exact a2.grow a h
      · exact .inr (.inl (a2.same.free h))
      · exact .inr (.inr (a2.ow a (owW a h)))
    · have hlt : i < ps.length := by omega
      have ed : ps.drop i = ps[i] :: ps.drop (i + 1) := List.drop_eq_getElem_cons hlt
      rw [ed] at hc
      obtain ⟨go, yl⟩ := (it i F' H' f2 (.of s1)).2 ps[i] (List.getElem?_eq_getElem hlt)
      refine .inr ⟨go, fun H3 => ∃ F3 ev3 acc3 accV3, ER X.K F3 H0 ev3 (wipe σ vs) H3 ∧ (∀ a, F2 a → F3 a) ∧ Same H1 H3 ∧ ¬ F3 D ∧ H3 D = some (.lst accV3) ∧ RepL X.K F3 H3 accV3 acc3 ∧
        (∀ a, F3 a → F2 a ∨ H1 a = none ∨ Ow (wipeE ev1 vs) (wipe σ vs) a) ∧ (∀ a, Ow ev3 (wipe σ vs) a → Ow (wipeE ev1 vs) (wipe σ vs) a) ∧ compr2 t mt mi1 t1 mt1 me vs vs1 acc3 (ps.drop (i + 1)) ev3 = .ok qs evf, fun H3 q => ⟨_, by omega, rfl, hlt, q⟩, fun x H4 y => ?_⟩
      obtain ⟨s4, r4⟩ := yl x H4 y
      unfold compr2 at hc
      cases e1 : t ps[i] ev' with
      | none => simp only [e1] at hc; cases hc
      | some ev2 =>
      simp only [e1] at hc
      have er4 := er.later s4
      intro s H9 C cl fp pins st u I ru
      refine (hg s H9 C cl fp).go (F0 := F') ⟨er4, fun _ h => h, fun _ h => .inl h⟩ r4 e1 (fun σ2 a5 bt ho => ?_) pins st u I ru
      have er5 : ER X.K F' H0 ev2 σ2 H4 := a5.bs.er
      have wσ : wipe σ2 vs = wipe σ vs := (wipe_but bt hj).trans (wipe_wipe vs)
      refine ⟨wσ, fun s H9 C cl fp => ?_⟩
      cases e2 : mt ev2 with
      | bad => simp only [e2] at hc; cases hc
      | exc c ev3 => simp only [e2] at hc; cases hc
      | ok k ev3 =>
      refine (ht s H9 C cl fp).go er5 ?_
      unfold Wt
      rw [e2]
      intro F5 H5 a6
      have s5 : Same H1 H5 := s1.trans (s4.trans a6.same)
      have d5 : H5 D = some (.lst accV) := a6.same _ _ (s4 _ _ hDl)
      have oD : ∀ {a}, Ow ev2 σ2 a → Ow (wipeE ev1 vs) (wipe σ vs) a := fun {a} o => ow a (ho a o)
      have nO : ¬ Ow ev2 σ2 D := fun o => nOD (owW D (oD o))
      have nF5 : ¬ F5 D := fun f => by
        rcases a6.grow D f with z | z | z
        · exact nF z
        · rw [s4 _ _ hDl] at z; cases z
        · exact nO z
      have gr5 : ∀ a, F5 a → F2 a ∨ H1 a = none ∨ Ow (wipeE ev1 vs) (wipe σ vs) a := fun a f => by
        rcases a6.grow a f with z | z | z
        · exact gr a z
        · exact .inr (.inl (s1.free (s4.free z)))
        · exact .inr (.inr (oD z))
      have f5 : ∀ a, F2 a → F5 a := fun a f => a6.sub a (f2 a f)
      have ra5 : RepL X.K F5 H5 accV acc := RepL.mono (.of (s4.trans a6.same)) a6.sub acc ra
      have owE : ∀ {ev7 : SL} a, Ow (wipeE ev7 vs) (wipe σ vs) a → (∀ a, Ow ev7 σ2 a → Ow ev2 σ2 a) → Ow (wipeE ev1 vs) (wipe σ vs) a := fun {ev7} a ⟨i, zs, z1, z2⟩ hh => by
        rcases wipeE_get z1 with z | ⟨z, n⟩
        · cases z
        · refine oD (hh a ⟨i, zs, z, ?_⟩)
          rw [← wσ, wipe_get n] at z2
          exact z2
      cases k with
      | false =>
        simp only [e2] at hc
        refine iteF ⟨F5, wipeE ev3 vs, acc, accV, ?_, f5, s5, nF5, d5, ra5, gr5, fun a o => owE a o a6.ow, hc⟩
        rw [← wσ]
        exact a6.er.wiped vs
      | true =>
        simp only [e2] at hc
        refine iteT ?_
        intro s H9 C cl fp
        obtain ⟨wi1, p1, h1⟩ := (hi1 s H9 C cl fp).ex
        refine ⟨wi1, p1, h1 a6.er ?_⟩
        unfold Wt
        cases e3 : mi1 ev3 with
        | bad => simp only [e3] at hc; cases hc
        | exc c ev4 => simp only [e3] at hc; cases hc
        | ok ps1 ev4 =>
        simp only [e3] at hc
        intro F6 H6 a7 J1 F7 a8 f67 it1
        cases e4 : compr t1 mt1 me vs1 acc ps1 (wipeE ev4 vs1) with
        | bad => simp only [e4] at hc; cases hc
        | exc c ev5 => simp only [e4] at hc; cases hc
        | ok acc' ev5 =>
        simp only [e4] at hc
        have d6 : H6 D = some (.lst accV) := a8.same _ _ d5
        have nF7 : ¬ F7 D := fun f => by
          rcases a8.grow D f with z | z | z
          · exact nF5 z
          · rw [d5] at z; cases z
          · exact nO (a6.ow D z)
        have nO7 : ¬ Ow ev4 σ2 D := fun o => nO (a6.ow D (a8.ow D o))
        have ra7 : RepL X.K F7 H6 accV acc := RepL.mono (.of a8.same) a8.sub acc ra5
        have ow4 : ∀ a, Ow (wipeE ev4 vs1) (wipe σ2 vs1) a → Ow (wipeE ev1 vs) (wipe σ vs) a := fun a ⟨i, zs, z1, z2⟩ => by
          rcases wipeE_get z1 with z | ⟨z, n⟩
          · cases z
          · rw [wipe_get n] at z2
            exact oD (a6.ow a (a8.ow a ⟨i, zs, z, z2⟩))
        have w2 : wipe (wipe σ2 vs1) vs = wipe σ vs := (wipe_but (js := vs1) ⟨wipe_length _ _, fun j hj => wipe_get hj⟩ hv).trans wσ
        refine pass_in hg1 ht1 he hj1 a8.er hD0 nF7 nO7 d6 ra7 it1 e4 fun F' H' accV' er' f' sb nF' hD' ra' gr' ow' => ⟨F', wipeE ev5 vs, acc', accV', ?_, fun a f => f' a (a8.sub a (f5 a f)), fun b o hb => sb b o (ne_of_none hb hD) (a8.same _ _ (s5 _ _ hb)), nF', hD', ra', fun a f => ?_, fun a o => ?_, hc⟩
        · rw [← w2]
          exact er'.wiped vs
        · rcases gr' a f with z | z | z
          · rcases a8.grow a z with z | z | z
            · exact gr5 a z
            · exact .inr (.inl (s5.free z))
            · exact .inr (.inr (oD (a6.ow a z)))
          · exact .inr (.inl (s5.free (a8.same.free z)))
          · exact .inr (.inr (ow4 a z))
        · obtain ⟨i, zs, z1, z2⟩ := o
          rcases wipeE_get z1 with z | ⟨z, n⟩
          · cases z
          · refine ow4 a (ow' a ⟨i, zs, z, ?_⟩)
            rw [← w2, wipe_get n] at z2
            exact z2
/-- [e for x in xs if t for y in ys if u] as a value -/
theorem e_comp2 {elt tg iter tg1 iter1 : Expr} {ifs ifs1 : List Expr} {scope : Scope} {own : List (Str × Nat)} {vs1 : List Nat} {pos : Pos} {js js1 : List Nat} {mi mi1 : M (List PV)} {t t1 : PV → SL → Option SL} {mt mt1 : M Bool} {me : M RV} (hc : X.calm = true) (hNd : X.N.Nodup) (ok : BlkOk X.N X.env.scope scope own)
    (si : SI X W cm tg iter mi) (hg : Blk X scope fun Y => SG Y W0 tg t js) (ht : Blk X scope fun Y => STs Y W0 cm ifs mt) (hi1 : Blk X scope fun Y => SI Y W0 cm tg1 iter1 mi1) (hg1 : Blk X scope fun Y => SG Y W0 tg1 t1 js1) (ht1 : Blk X scope fun Y => STs Y W0 cm ifs1 mt1) (he : Blk X scope fun Y => SE Y W0 cm elt me) (hj : ∀ j ∈ js, j ∈ own.map (·.2) := by decide) (hj1 : ∀ j ∈ js1, j ∈ vs1 := by decide) (hv : ∀ j ∈ vs1, j ∈ own.map (·.2) := by decide)
    (hs : ∀ x, foldedSetIterable iter X.env x = pure x := by intro _; rfl) (hs1 : ∀ env x, foldedSetIterable iter1 env x = pure x := by intro _ _; rfl) : SE X W cm (.ListComp elt [⟨tg, iter, ifs, 0⟩, ⟨tg1, iter1, ifs1, 0⟩] scope pos) (mComp2 mi t mt mi1 t1 mt1 me (own.map (·.2)) vs1) := .mk' fun F H0 H ev σ Q r h => by
  obtain ⟨wi, hpi, hwi⟩ := si.ex
  refine sE_of (pe_lc2 (wi1 := cI X scope tg1 iter1) (g := cG X scope tg) (tt := cT X scope ifs) (g1 := cG X scope tg1) (tt1 := cT X scope ifs1) (te := cE X scope elt) hc hNd hpi ok hv (fun s H C cl fp => ⟨fun pins s' σ H' v u Q' I ru q => q s H C cl fp pins s' u I ru⟩)
    (fun s H C cl fp => ⟨fun pins s' σ H' Q' I q => sTs_pt.run pins s' σ H' Q' I (q s H C cl fp)⟩)
    (fun s H C cl fp => ⟨fun pins s' σ H' R I q => sI_pi.run pins s' σ H' R I (q s H C cl fp)⟩)
    (fun s H C cl fp => ⟨fun pins s' σ H' v u Q' I ru q => q s H C cl fp pins s' u I ru⟩)
    (fun s H C cl fp => ⟨fun pins s' σ H' Q' I q => sTs_pt.run pins s' σ H' Q' I (q s H C cl fp)⟩)
    (fun s H C cl fp => ⟨fun pins s' σ H' Q' I q => q s H C cl fp pins s' I⟩) hs hs1) ?_
  exact comp2_core hg ht hi1 hg1 ht1 he hj hj1 hv hwi r h
theorem e_comp2V {N : List Str} {sc : Scope} {vs : List Nat} (vs1 : List Nat) (own : List (Str × Nat)) {elt tg iter tg1 iter1 : Expr} {ifs ifs1 : List Expr} {scope : Scope} {pos : Pos} {js js1 : List Nat} {mi mi1 : M (List PV)} {t t1 : PV → SL → Option SL} {mt mt1 : M Bool} {me : M RV} (hc : X.calm = true) (hNd : X.N.Nodup) (ok : blkC N sc scope own = true)
    (si : SI X W cm tg iter mi) (hg : Blk X scope fun Y => SG Y W0 tg t js) (ht : Blk X scope fun Y => STs Y W0 cm ifs mt) (hi1 : Blk X scope fun Y => SI Y W0 cm tg1 iter1 mi1) (hg1 : Blk X scope fun Y => SG Y W0 tg1 t1 js1) (ht1 : Blk X scope fun Y => STs Y W0 cm ifs1 mt1) (he : Blk X scope fun Y => SE Y W0 cm elt me) (hj : ∀ j ∈ js, j ∈ own.map (·.2) := by decide) (hj1 : ∀ j ∈ js1, j ∈ vs1 := by decide) (hv : ∀ j ∈ vs1, j ∈ own.map (·.2) := by decide) (hvs : own.map (·.2) = vs := by rfl) (eN : X.N = N := by rfl) (eS : X.env.scope = sc := by rfl)
    (hs : ∀ x, foldedSetIterable iter X.env x = pure x := by intro _; rfl) (hs1 : ∀ env x, foldedSetIterable iter1 env x = pure x := by intro _ _; rfl) : SE X W cm (.ListComp elt [⟨tg, iter, ifs, 0⟩, ⟨tg1, iter1, ifs1, 0⟩] scope pos) (mComp2 mi t mt mi1 t1 mt1 me vs vs1) := by
  subst hvs eN eS
  exact e_comp2 hc hNd (blkOk_by ok) si hg ht hi1 hg1 ht1 he hj hj1 hv hs hs1
end
end Pv

set_option Elab.async false
set_option linter.all false
set_option maxRecDepth 100000
namespace Pv
open PySem PySem.Spec L2
open PyProof.Rows hiding St
/-! ### t[::-1] of a tuple -/
section
variable {prog : Program} {w : World} {A : Around} {E : Value → Shared → Prop} {s : Shared}
theorem fm_some {α β : Type} {f : α → Option β} {g : α → β} : ∀ l : List α, (∀ x ∈ l, f x = some (g x)) → l.filterMap f = l.map g
  | [], _ => rfl
  | x :: l, h => by rw [List.filterMap_cons, h x (by simp), List.map_cons]; simp only; rw [fm_some l fun y hy => h y (by simp [hy])]
theorem rev_pick (xs : Array Value) : ((List.range xs.size).filterMap fun (k : Nat) => xs[((xs.size : Int) - 1 + (k : Int) * (-1)).toNat]?).toArray = xs.toList.reverse.toArray := by
  congr 1
  have e : (fun (k : Nat) => xs[((xs.size : Int) - 1 + (k : Int) * (-1)).toNat]?) = fun (k : Nat) => xs.toList[((xs.size : Int) - 1 - (k : Int)).toNat]? := by
    funext k
    rw [show (xs.size : Int) - 1 + (k : Int) * (-1) = (xs.size : Int) - 1 - (k : Int) by omega]
    simp
  rw [e]
  have hl : xs.size = xs.toList.length := by simp
  rw [hl]
  generalize xs.toList = l
  apply List.ext_getElem?
  intro i
  have key := fm_some (f := fun (k : Nat) => l[((l.length : Int) - 1 - (k : Int)).toNat]?) (g := fun k => l.reverse.getD k .none) (List.range l.length) (fun k hk => by
    rw [List.mem_range] at hk
    rw [show ((l.length : Int) - 1 - (k : Int)).toNat = l.length - 1 - k by omega, List.getElem?_eq_getElem (by omega)]
    simp [List.getD_eq_getElem?_getD, List.getElem?_reverse hk, List.getElem?_eq_getElem (show l.length - 1 - k < l.length by omega)])
  rw [key, List.getElem?_map]
  by_cases h : i < l.length
  · rw [List.getElem?_range h]
    simp [List.getD_eq_getElem?_getD, List.getElem?_reverse h, List.getElem?_eq_getElem (show l.length - 1 - i < l.length by omega)]
  · rw [List.getElem?_eq_none (by simp; omega), List.getElem?_eq_none (by simp; omega)]
    rfl
theorem sliceApplied_rev {sl : Addr} {vl vu vs : Value} {n : Nat} {Q : Int × Int × Nat → Shared → Prop} (hs : s.heap.IsSliceOf sl vl vu vs) (pl : IsPart vl none) (pu : IsPart vu none) (ps : IsPart vs (some (-1)))
    (h : Q ((n : Int) - 1, -1, n) s) : wpAny (model prog w) A (Builtin.Slice.sliceApplied (.ref sl) (pure (n : Int))) Q E s := by
  obtain ⟨os, hos, hcs, hds⟩ := id hs
  unfold Builtin.Slice.sliceApplied Builtin.Slice.sliceFields
  refine wpAny_bind (wpAny_bind (wpAny_field hos hds (x := vl) rfl (wpAny_bind (wpAny_field hos hds (x := vu) rfl (wpAny_bind (wpAny_field hos hds (x := vs) rfl (wpAny_pure ?_)))))))
  refine wpAny_bind (HT.slicePart_ ps ?_)
  show wpAny _ _ (if ((-1 : Int) == 0) = true then _ else _) _ _ s
  rw [if_neg (by decide)]
  refine wpAny_bind (HT.slicePart_ pl (wpAny_bind (HT.slicePart_ pu (wpAny_bind (wpAny_pure ?_)))))
  show wpAny _ _ (match Builtin.Slice.sliceAdjust none none (-1) (n : Int) with | (lo, hi) => pure (lo, (-1 : Int), Builtin.Slice.slicePlaces lo hi (-1))) _ _ s
  have e1 : Builtin.Slice.sliceAdjust none none (-1) (n : Int) = ((n : Int) - 1, -1) := rfl
  rw [e1]
  show wpAny _ _ (pure ((n : Int) - 1, (-1 : Int), Builtin.Slice.slicePlaces ((n : Int) - 1) (-1) (-1))) _ _ s
  have e2 : Builtin.Slice.slicePlaces ((n : Int) - 1) (-1) (-1) = n := by
    unfold Builtin.Slice.slicePlaces
    have h1 : ¬ ((-1 : Int) > 0) := by decide
    simp only [h1, if_false]
    by_cases c : (n : Int) - 1 > -1
    · simp only [c, if_true]
      have : ((n : Int) - 1 - -1 - 1) / (- -1) = (n : Int) - 1 := by
        rw [show (- -1 : Int) = 1 by decide, Int.ediv_one]; omega
      rw [this]; omega
    · simp only [c, if_false]; omega
  rw [e2]
  exact wpAny_pure h
theorem getItem_tuple_rev {t sl : Addr} {items : Array Value} {vl vu vs : Value} {Q : Value → Shared → Prop} (ht : IsTup s.heap t items) (hs : s.heap.IsSliceOf sl vl vu vs) (pl : IsPart vl none) (pu : IsPart vu none) (ps : IsPart vs (some (-1)))
    (h : Q (.ref s.heap.objs.size) { s with heap := s.heap.push { cls := .type "tuple", data := .seq items.toList.reverse.toArray } })
    (hsz : items.size ≤ sizeLine) : wpAny (model prog w) A (getItem (.ref t) (.ref sl)) Q E s := by
  have htake : sizeOk (.seq items.toList.reverse.toArray) := by
    show items.toList.reverse.toArray.size ≤ sizeLine
    simpa using hsz
  obtain ⟨os, hos, hcs, hds⟩ := id hs
  have hTs : s.TypeIs (.ref sl) "slice" := ⟨os, hos, hcs⟩
  unfold getItem
  try with_reducible refine wpAny_holding ?_
  first | refine wpAny_bind (wpAny_pure ?_) | skip
  refine wpAny_bind (wpAny_sequenceKey ht.typeIs (by decide) ?_)
  refine wpAny_bind (wpAny_callSpecial?_slot (name := Str.ofString "__getitem__") ht.typeIs PyProof.Rows.slot_tuple_getitem
    (wpAny_call_entry PyProof.Rows.slot_tuple_getitem ht.typeIs entry_tuple_getitem ?_ (args_tuple_getitem _ _)))
  show wpAny _ _ (Builtin.Tuple.tupleItemsOf (.ref t) >>= _) _ _ s
  refine wpAny_bind (tupleItemsOf_ ht ?_)
  refine wpAny_bind (wpAny_typeOf hTs ?_)
  rw [if_pos (by decide)]
  refine wpAny_bind (sliceApplied_rev hs pl pu ps ?_)
  have hno : ¬ ((((items.size : Int) - 1) == 0 && (-1 : Int) == 1 && items.size == items.size) = true) := by
    intro q
    rw [Bool.and_eq_true, Bool.and_eq_true] at q
    exact absurd q.1.2 (by decide)
  show wpAny _ _ (if (((items.size : Int) - 1) == 0 && (-1 : Int) == 1 && items.size == items.size) = true then _ else _) _ _ s
  rw [if_neg hno, rev_pick]
  first
    | exact wpAny_bind (m := Builtin.Tuple.tupleExact _) (wpAny_newObj_type (wpAny_pure ⟨_, rfl, wpAny_pure h⟩) htake)
    | exact wpAny_bind (m := Builtin.Tuple.tupleExact _) (wpAny_newObj_type (wpAny_bind (wpAny_pure (wpAny_pure ⟨_, rfl, wpAny_pure h⟩))) htake)
    | exact wpAny_bind (wpAny_bind (m := Builtin.Tuple.tupleExact _) (wpAny_newObj_type (wpAny_pure (wpAny_pure ⟨_, rfl, wpAny_pure h⟩)) htake))
    | exact wpAny_bind (wpAny_bind (m := Builtin.Tuple.tupleExact _) (wpAny_newObj_type (wpAny_pure ⟨_, rfl, wpAny_pure h⟩) htake))
end
def tRevA (K : PySem.W.Frag) (te : TE) : TE := fun σ H Q => te σ H fun x H1 => ∃ a xs, x = .ref a ∧ ((SqL K H1 a xs ∧ ∀ p, H1 p = none → Q (.ref p) (upd H1 p (.lst xs.reverse))) ∨ (SqT K H1 a xs ∧ NewT xs.reverse Q H1))
section
variable {X : Cx} {W : WX} {cm : CM}
theorem pe_revA {e : Expr} {te : TE} {k : Nat} {p1 p2 p3 pos : Pos} (he : PE X e te) : PE X (.Subscript e (.Slice none none (some (.UnaryOp .USub (.Constant (.int 1) k p1) p2)) p3) pos) (tRevA X.K te) := by
  refine ⟨fun pins s σ H Q I h => ?_⟩
  refine Subscript_ (thn (he.run pins s σ H _ I h) fun v s1 ⟨x, H1, I1, r1, q1⟩ => ?_)
  obtain ⟨a, xs, ex, q⟩ := q1
  subst ex
  cases r1
  have hst : PO X (some (.UnaryOp .USub (.Constant (.int 1) k p1) p2)) (tPart (tUn (rU fun i => .int (-i)) (tC (.int 1)))) := po_some (pe_un un_neg pe_int)
  refine wpAny_Slice (thn (po_none.run pins s1 σ H1 (fun o H2 => o = none ∧ H2 = H1) I1 ⟨rfl, rfl⟩) fun vl s2 ⟨l, H2, I2, pl, el, e2⟩ => ?_)
  subst el e2
  refine thn (po_none.run pins s2 σ H2 (fun o H3 => o = none ∧ H3 = H2) I2 ⟨rfl, rfl⟩) fun vu s3 ⟨u, H3, I3, pu, eu, e3⟩ => ?_
  subst eu e3
  refine thn (hst.run pins s3 σ H3 (fun o H4 => o = some (-1) ∧ H4 = H3) I3 ⟨1, rfl, -1, rfl, rfl, rfl⟩) fun vs s4 ⟨o, H4, I4, ps, eo, e4⟩ => ?_
  subst eo e4
  have I5 : Inv X pins σ H4 { s4 with heap := s4.heap.push { cls := .type "slice", data := .fields #[vl, vu, vs] } } := I4.kept (t' := s4.toks) fun b ob q => Heap.get?_push_of_some _ q
  rcases q with ⟨hx, q⟩ | ⟨hx, q⟩
  · obtain ⟨its, r, ht, hz⟩ := I5.list hx
    have hlen := r.length
    show wpAny (model X.prog X.w) X.A (subscriptTail e (.Slice none none (some (.UnaryOp .USub (.Constant (.int 1) k p1) p2)) p3) (.ref a) (.ref s4.heap.objs.size)) (EP X pins σ Q) X.xe { s4 with heap := s4.heap.push { cls := .type "slice", data := .fields #[vl, vu, vs] } }
    refine tail_any (ops := [.ref a, .ref s4.heap.objs.size]) ht.isList.typeIs (PySem.slot_list_getitem.lookup) ?_ (by with_unfolding_all rfl)
    refine wpAny_getItem_list_slice ht.isList (Heap.IsSliceOf.new _ vl vu vs) pl pu ps (by decide) ?_ (by rw [List.size_toArray]; omega)
    rw [PySem.W.krv_pick]
    refine ⟨.ref _, _, I5.laid (t' := s4.toks) (o := .lst xs.reverse) (fun b ob q => Heap.get?_push_of_some _ q) (Nat.le_refl _) ?_, rfl, q _ (I5.hok.fresh (Nat.le_refl _))⟩
    exact ⟨by rw [List.length_reverse]; exact hz, _, 0, r.reverse, Heap.get?_push_size _ rfl⟩
  · obtain ⟨its, r, ht, hz⟩ := I5.tuple hx
    have hlen := r.length
    show wpAny (model X.prog X.w) X.A (subscriptTail e (.Slice none none (some (.UnaryOp .USub (.Constant (.int 1) k p1) p2)) p3) (.ref a) (.ref s4.heap.objs.size)) (EP X pins σ Q) X.xe { s4 with heap := s4.heap.push { cls := .type "slice", data := .fields #[vl, vu, vs] } }
    refine tail_any (ops := [.ref a, .ref s4.heap.objs.size]) ht.typeIs (PyProof.Rows.slot_tuple_getitem.lookup) ?_ (by with_unfolding_all rfl)
    refine getItem_tuple_rev ht (Heap.IsSliceOf.new _ vl vu vs) pl pu ps ?_ (by rw [List.size_toArray]; omega)
    exact Inv.newTup I5 (fun _ _ e => e) r.reverse (by rw [List.length_reverse]; exact hz) q
def mRevA (m : M PV) : M RV := bnd m fun p => match p with
  | .lst ps => ret (.lst ps.reverse, true)
  | .tup ps => ret (.tup ps.reverse, false)
  | _ => bad
theorem e_revA {e : Expr} {m : M PV} {k : Nat} {p1 p2 p3 pos : Pos} (s : Pv.SP X W cm e m) : SE X W cm (.Subscript e (.Slice none none (some (.UnaryOp .USub (.Constant (.int 1) k p1) p2)) p3) pos) (mRevA m) := .mk' fun F H0 H ev σ Q r h => by
  refine sE_of (pe_revA sE_pe) ?_
  refine s.go r (h.bnd.mono fun q ev1 F1 H1 a1 hh v rv => ?_)
  have h2 := hh.2
  cases q with
  | lst ps =>
    obtain ⟨a, xs, rfl, hx, rl⟩ := rv
    refine ⟨a, xs, rfl, .inl ⟨SqL.of hx, fun l hl => ?_⟩⟩
    exact h2 F1 _ (a1.er.fresh hl) _ (a1.er.newL a1.same hl rl.reverse)
  | tup ps =>
    obtain ⟨a, xs, rfl, hx, rl⟩ := rv
    refine ⟨a, xs, rfl, .inr ⟨hx.sqT, fun p o hp hc hd => ?_⟩⟩
    exact h2 F1 _ (a1.er.fresh hp) _ (a1.er.newT hp hc hd rl.reverse)
  | _ => exact h2.elim
@[simp] theorem mRevA_ap {ev : SL} {m : M PV} : mRevA m ev = bnd m (fun p => match p with
  | .lst ps => ret (.lst ps.reverse, true)
  | .tup ps => ret (.tup ps.reverse, false)
  | _ => bad) ev := rfl
end
end Pv

set_option Elab.async false
set_option linter.all false
set_option maxRecDepth 100000
namespace Pv
open PySem PySem.Spec L2
open PyProof.Rows hiding St
/-! ### a turn of a loop, over variables -/
theorem loop_nx {t : PV → SL → Option SL} {p : PV} {M : List PV} {B : Pv.M Fl} {ev ev1 ev2 : SL} (h1 : t p ev = some ev1) (h2 : B ev1 = .ok .nx ev2) : loop t B (p :: M) ev = loop t B M ev2 := by
  rw [loop]; simp only [h1, h2]
theorem loop_rt {t : PV → SL → Option SL} {p : PV} {M : List PV} {B : Pv.M Fl} {ev ev1 ev2 : SL} {r : RV} (h1 : t p ev = some ev1) (h2 : B ev1 = .ok (.rt r) ev2) : loop t B (p :: M) ev = .ok (.rt r) ev2 := by
  rw [loop]; simp only [h1, h2]
theorem loop_bk {t : PV → SL → Option SL} {p : PV} {M : List PV} {B : Pv.M Fl} {ev ev1 ev2 : SL} (h1 : t p ev = some ev1) (h2 : B ev1 = .ok .bk ev2) : loop t B (p :: M) ev = .ok .nx ev2 := by
  rw [loop]; simp only [h1, h2]
theorem loop_exc {t : PV → SL → Option SL} {p : PV} {M : List PV} {B : Pv.M Fl} {ev ev1 ev2 : SL} {c : Str} (h1 : t p ev = some ev1) (h2 : B ev1 = .exc c ev2) : loop t B (p :: M) ev = .exc c ev2 := by
  rw [loop]; simp only [h1, h2]
theorem loop_emp {t : PV → SL → Option SL} {B : Pv.M Fl} {ev : SL} : loop t B [] ev = .ok .nx ev := rfl
end Pv

set_option Elab.async false
set_option linter.all false
set_option maxRecDepth 100000
namespace Pv
open PySem PySem.Spec L2
open PyProof.Rows hiding St
/-! ### x in ys, x not in ys: nested data -/
def rInD (K : W.Frag) (neg : Bool) : R2 := fun x y H Q => ∃ d ds, Dp K H x d ∧ (Dp K H y (.list ds) ∨ Dp K H y (.tuple ds)) ∧ PyData.canLay0 d = true ∧ PyData.canLayAll0 ds = true ∧ PyData.depth d ≤ 32 ∧ Q (.bl (xor neg (ds.any fun z => z.eqv d))) H
theorem op_inD {X : Cx} (hu : X.A.units + 64 < cLine) : OpR X (compareOp .In) (rInD X.K false) := fun pins s σ H x y v u Q I rx ry h => by
  obtain ⟨d, ds, hd, hds, sd, sl, dp, q⟩ := h
  obtain ⟨as, r1⟩ := Dp.reads I d x v hd rx
  rw [Bool.false_xor] at q
  rcases hds with hds | hds
  · obtain ⟨bs, r2⟩ := Dp.reads I (.list ds) y u hds ry
    exact SeqAt.in_list_reads r2 r1 sl sd (by have := Nat.min_le_right (PyData.depthAll ds) d.depth; omega) ⟨.bl _, H, I, rfl, q⟩
  · obtain ⟨bs, r2⟩ := Dp.reads I (.tuple ds) y u hds ry
    exact SeqAt.in_tuple_reads r2 r1 sl sd (by have := Nat.min_le_right (PyData.depthAll ds) d.depth; omega) ⟨.bl _, H, I, rfl, q⟩
theorem op_notInD {X : Cx} (hu : X.A.units + 64 < cLine) : OpR X (compareOp .NotIn) (rInD X.K true) := fun pins s σ H x y v u Q I rx ry h => by
  obtain ⟨d, ds, hd, hds, sd, sl, dp, q⟩ := h
  obtain ⟨as, r1⟩ := Dp.reads I d x v hd rx
  rw [Bool.true_xor] at q
  rcases hds with hds | hds
  · obtain ⟨bs, r2⟩ := Dp.reads I (.list ds) y u hds ry
    exact SeqAt.notIn_list_reads r2 r1 sl sd (by have := Nat.min_le_right (PyData.depthAll ds) d.depth; omega) ⟨.bl _, H, I, rfl, q⟩
  · obtain ⟨bs, r2⟩ := Dp.reads I (.tuple ds) y u hds ry
    exact SeqAt.notIn_tuple_reads r2 r1 sl sd (by have := Nat.min_le_right (PyData.depthAll ds) d.depth; omega) ⟨.bl _, H, I, rfl, q⟩
def okI (p : PV) (ps : List PV) : Bool := isD p && isDs ps && PyData.canLay0 (toD p) && PyData.canLayAll0 (toDs ps) && decide (PyData.depth (toD p) ≤ 32)
def inD (p : PV) (ps : List PV) : Bool := (toDs ps).any fun z => z.eqv (toD p)
def gInD (neg : Bool) : PV → PV → Option RV
  | p, .lst ps => if okI p ps then vB (xor neg (inD p ps)) else none
  | p, .tup ps => if okI p ps then vB (xor neg (inD p ps)) else none
  | _, _ => none
section
variable {X : Cx}
theorem dpL {K : Fr} {F : FS} {H : Hp} {v : V} {ps : List PV} (hd : isDs ps = true) (h : RepT K F H v (.lst ps)) : Dp K H v (.list (toDs ps)) := by
  have := h.dp (.lst ps) (by unfold isD; exact hd)
  unfold toD at this
  exact this
theorem dpT {K : Fr} {F : FS} {H : Hp} {v : V} {ps : List PV} (hd : isDs ps = true) (h : RepT K F H v (.tup ps)) : Dp K H v (.tuple (toDs ps)) := by
  have := h.dp (.tup ps) (by unfold isD; exact hd)
  unfold toD at this
  exact this
theorem o_inD (hu : X.A.units + 64 < cLine) : OpOk X (compareOp .In) (gInD false) := .pure fun F H x y p q r rx ry e => by
  unfold gInD at e
  split at e
  · split at e
    · rename_i c
      cases e
      unfold okI at c
      simp only [Bool.and_eq_true, decide_eq_true_eq] at c
      exact ⟨.bl _, _, op_inD hu, fun Q hq => ⟨_, _, rx.dp _ c.1.1.1.1, .inl (dpL c.1.1.1.2 ry), c.1.1.2, c.1.2, c.2, hq⟩, rfl, rep_bl⟩
    · cases e
  · split at e
    · rename_i c
      cases e
      unfold okI at c
      simp only [Bool.and_eq_true, decide_eq_true_eq] at c
      exact ⟨.bl _, _, op_inD hu, fun Q hq => ⟨_, _, rx.dp _ c.1.1.1.1, .inr (dpT c.1.1.1.2 ry), c.1.1.2, c.1.2, c.2, hq⟩, rfl, rep_bl⟩
    · cases e
  · cases e
theorem o_notInD (hu : X.A.units + 64 < cLine) : OpOk X (compareOp .NotIn) (gInD true) := .pure fun F H x y p q r rx ry e => by
  unfold gInD at e
  split at e
  · split at e
    · rename_i c
      cases e
      unfold okI at c
      simp only [Bool.and_eq_true, decide_eq_true_eq] at c
      exact ⟨.bl _, _, op_notInD hu, fun Q hq => ⟨_, _, rx.dp _ c.1.1.1.1, .inl (dpL c.1.1.1.2 ry), c.1.1.2, c.1.2, c.2, hq⟩, rfl, rep_bl⟩
    · cases e
  · split at e
    · rename_i c
      cases e
      unfold okI at c
      simp only [Bool.and_eq_true, decide_eq_true_eq] at c
      exact ⟨.bl _, _, op_notInD hu, fun Q hq => ⟨_, _, rx.dp _ c.1.1.1.1, .inr (dpT c.1.1.1.2 ry), c.1.1.2, c.1.2, c.2, hq⟩, rfl, rep_bl⟩
    · cases e
  · cases e
end
/-! the == of tuples of ints among such -/
theorem toDs_tabI : ∀ T : List (List Int), toDs (T.map fun S => PV.tup (S.map .int)) = T.map fun S => PyData.tuple (S.map .int)
  | [] => rfl
  | S :: T => by rw [List.map_cons, List.map_cons]; unfold toDs toD; rw [toDs_ints, toDs_tabI T]
theorem tab_facts : ∀ T : List (List Int), isDs (T.map fun S => PV.tup (S.map .int)) = true ∧ PyData.canLayAll0 (T.map fun S => PyData.tuple (S.map .int)) = true
  | [] => by
    rw [List.map_nil, List.map_nil]
    unfold isDs PyData.canLayAll0
    exact ⟨rfl, rfl⟩
  | t :: T => by
    obtain ⟨h1, h2⟩ := tab_facts T
    rw [List.map_cons, List.map_cons]
    unfold isDs PyData.canLayAll0
    unfold isD PyData.canLay0
    rw [h1, h2, isDs_ints, lay_ints]
    exact ⟨rfl, rfl⟩
theorem eqv_tup (S U : List Int) : PyData.eqv (.tuple (S.map .int)) (.tuple (U.map .int)) = decide (S = U) := by
  unfold PyData.eqv
  exact eqv_ints S U
theorem gInD_tab (n : Bool) (S : List Int) (T : List (List Int)) : gInD n (.tup (S.map .int)) (.lst (T.map fun S => PV.tup (S.map .int))) = some (.bl (xor n (decide (S ∈ T))), false) := by
  obtain ⟨h1, h2⟩ := tab_facts T
  have e1 : okI (.tup (S.map .int)) (T.map fun S => PV.tup (S.map .int)) = true := by
    unfold okI
    rw [toDs_tabI, h1, h2]
    unfold isD toD PyData.canLay0 PyData.depth
    rw [isDs_ints, toDs_ints, lay_ints, depth_ints]
    rfl
  have e2 : inD (.tup (S.map .int)) (T.map fun S => PV.tup (S.map .int)) = decide (S ∈ T) := by
    unfold inD
    rw [toDs_tabI]
    unfold toD
    rw [toDs_ints, Bool.eq_iff_iff, List.any_eq_true, decide_eq_true_eq]
    constructor
    · rintro ⟨z, hz, e⟩
      obtain ⟨U, hU, rfl⟩ := List.mem_map.mp hz
      rw [eqv_tup, decide_eq_true_eq] at e
      exact e ▸ hU
    · intro h
      exact ⟨_, List.mem_map.mpr ⟨S, h, rfl⟩, by rw [eqv_tup, decide_eq_true rfl]⟩
  show (if okI _ _ = true then vB _ else none) = _
  rw [if_pos e1, e2]
  rfl
end Pv

set_option Elab.async false
set_option linter.all false
set_option maxRecDepth 100000
namespace Pv
open PySem PySem.Spec L2
open PyProof.Rows hiding St
/-! ### xs.count(b) of a list of bools -/
theorem bools_of_vals : ∀ {bs : List Bool} {us : List Value}, Vals (bs.map V.bl) us → us = bs.map Value.bool
  | [], us, h => by cases h; rfl
  | b :: bs, us, h => by
    cases h with
    | cons h1 h2 =>
      have : _ = Value.bool b := h1
      rw [this, bools_of_vals h2]
      rfl
def eqkB (k : Bool) : Value → Bool := fun v => match v with
  | .bool b => b == k
  | _ => false
theorem eqkB_count (k : Bool) : ∀ bs : List Bool, List.countP (eqkB k) (bs.map Value.bool) = bs.count k
  | [] => rfl
  | b :: bs => by
    rw [List.map_cons, List.countP_cons, List.count_cons, eqkB_count k bs]
    rfl
def rCntB (K : W.Frag) : V → List V → Hp → VK → Prop := fun x xs H Q => ∃ (p : Addr) (bs : List Bool) (k : Bool), x = V.ref p ∧ xs = [V.bl k] ∧ SqL K H p (bs.map V.bl) ∧ Q (V.int (bs.count k : Nat)) H
theorem mt_lcountB {X : Cx} : MtR X "list.count" (rCntB X.K) := fun pins s σ H x xs v us Q I rx rxs h => by
  obtain ⟨p, bs, k, rfl, rfl, hs, q⟩ := h
  have ev : v = Value.ref p := rx
  subst ev
  obtain ⟨u, rfl, ru⟩ := Vals.one rxs
  have eu : u = Value.bool k := ru
  subst eu
  obtain ⟨its, rv, ⟨w, ⟨n, ho, hc, hdn, hd⟩⟩, hlen⟩ := Inv.list I hs
  have hi := bools_of_vals rv
  cases w with
  | mk cls dd data sl =>
    have hc' : cls = Value.type "list" := hc
    have hd' : data = Data.seq its.toArray n := hd
    subst hc' hd'
    refine call_meets F.slot_list_count ⟨_, ho, rfl⟩ F.entry_list_count (F.args_list_count_2 (Value.ref p) (Value.bool k)) (SeqAt.list_countAt p its.toArray n dd sl (Value.bool k) (eqkB k)) ⟨ho, fun y hy => ?_, V.int (bs.count k : Nat), H, Inv.tok I (s.toks + 1), ⟨s.toks, ?_⟩, q⟩
    · rw [List.mem_toArray, hi] at hy
      obtain ⟨b, _, rfl⟩ := List.mem_map.mp hy
      exact SeqAt.EqAt.bool_bool b k
    · show Value.int ((List.countP (eqkB k) its.toArray.toList : Nat) : Int) s.toks = _
      rw [show its.toArray.toList = its from rfl, hi, eqkB_count]
/-! ### as a piece of the description -/
def gCountB : PV → PV → Option RV
  | .lst ps, .bl k => match blsP ps with
    | some bs => vI (bs.count k : Nat)
    | none => none
  | _, _ => none
theorem gCountB_ok {p q : PV} {r : RV} (e : gCountB p q = some r) : ∃ (bs : List Bool) (k : Bool), p = .lst (bs.map .bl) ∧ q = .bl k ∧ r = (.int (bs.count k : Nat), false) := by
  unfold gCountB at e
  split at e
  · split at e
    · rename_i bs hi
      cases e
      exact ⟨bs, _, by rw [blsP_eq hi], rfl, rfl⟩
    · cases e
  · cases e
theorem gCountB_i {bs : List Bool} {k : Bool} : gCountB (.lst (bs.map .bl)) (.bl k) = some (.int ((bs.count k : Nat) : Int), false) := by
  unfold gCountB
  simp only [blsP_map]
  rfl
def mCountB (mo me : M PV) : M RV := eOp gCountB (onlyL mo) me
section
variable {X : Cx} {W : WX} {cm : CM}
theorem e_countB {o e : Expr} {mo me : M PV} {apos cpos : Pos} (so : Pv.SP X W cm o mo) (se : Pv.SP X W cm e me)
    (hbase : attributeBase o "count" X.env (eval o X.env) = eval o X.env := by rfl)
    (hfew : ((((backTo cpos (starEach [e] X.env)).all fun x => !x.fst) && (backToKw cpos (keywordEach [] X.env)).all fun x => x.fst.isSome) && decide (([e].length + ([] : List Keyword).length + if ([] : List Keyword).isEmpty = true then 0 else 1) < 30)) = true := by rfl)
    (hline : (apos.endLine == cpos.line) = true := by rfl) (hs : starEach [e] X.env = (false, eval e X.env) :: starEach [] X.env := by rfl) : SE X W cm (.Call (.Attribute o "count" apos) [e] [] cpos) (mCountB mo me) := .mk' fun F H0 H ev σ Q r h => by
  refine sE_of (pe_bm PySem.F.plainAttrs_list PySem.F.slot_list_count PySem.F.type_list_count sMt_ok sE_pe (pa_cons sE_pe pa_nil hs) hbase hfew hline hs rfl) ?_
  refine so.go r (h.bnd.bnd.mono fun p ev1 F1 H1 a1 hh x rx => ?_)
  have h2 := hh.2
  cases p with
  | lst ps =>
    have h3 := (h2 F1 H1 a1.er.aft).2
    obtain ⟨a, xs, ea, hx, rl⟩ := rx
    refine ⟨by rw [ea]; exact .inl ⟨rfl, xs, SqL.of hx⟩, ?_⟩
    refine se.go a1.er (h3.bnd.mono fun q ev2 F2 H2 a2 hh2 y ry => ?_)
    have h4 := hh2.2
    show sMt X "list.count" x [y] H2 Q
    cases eg : gCountB (.lst ps) q with
    | none => rw [eg] at h4; exact h4.elim
    | some z =>
      rw [eg] at h4
      obtain ⟨bs, k, e1, rfl, rfl⟩ := gCountB_ok eg
      cases e1
      have ey : y = .bl k := ry
      subst ey ea
      have rl2 := rl.bls
      subst rl2
      exact sMt_of mt_lcountB ⟨a, bs, k, rfl, rfl, SqL.of (a2.same _ _ hx), Wt.ret a2.er h4 _ res_int⟩
  | _ => exact h2.elim
end
end Pv

set_option Elab.async false
set_option linter.all false
set_option maxRecDepth 100000
namespace Pv
open PySem PySem.Spec L2
open PyProof.Rows hiding St
/-! ### more suites that do not tell the exception's address -/
theorem sm_opt {α : Type} {i : Nat} {o : Option α} : Sm i (fun _ => opt o) := by
  cases o with
  | none => exact sm_bad
  | some x => exact sm_ret
theorem sm_eC {i : Nat} {p : PV} : Sm i (fun _ => eC p) := sm_ret
theorem sm_look {i : Nat} {m : Addr → M RV} (h : Sm i m) : Sm i (fun a => look (m a)) := sm_bnd h fun _ => sm_ret
theorem sm_pVar {i j : Nat} (h : j ≠ i) : Sm i (fun _ => pVar j) := fun a ev ev2 y e => by
  unfold pVar at e ⊢
  dsimp only at e ⊢
  rw [List.getElem?_set_ne (fun z => h z.symm)] at e ⊢
  cases e1 : ev[j]? with
  | none => rw [e1] at e; cases e
  | some sl =>
    cases sl with
    | no => rw [e1] at e; cases e
    | val p => rw [e1] at e; cases e; exact ⟨ev, rfl, rfl⟩
    | own ps => rw [e1] at e; cases e; exact ⟨ev, rfl, rfl⟩
theorem sm_eOp {i : Nat} {g : PV → PV → Option RV} {m n : Addr → M PV} (h1 : Sm i m) (h2 : Sm i n) : Sm i (fun a => eOp g (m a) (n a)) := sm_bnd h1 fun _ => sm_bnd h2 fun _ => sm_opt
theorem sm_aCons {i : Nat} {m : Addr → M RV} {n : Addr → M (List PV)} (h1 : Sm i m) (h2 : Sm i n) : Sm i (fun a => aCons (m a) (n a)) := sm_bnd h1 fun _ => sm_bnd h2 fun _ => sm_ret
theorem sm_kCons {i : Nat} {m : Addr → M PV} {n : Addr → M (List PV)} (h1 : Sm i m) (h2 : Sm i n) : Sm i (fun a => kCons (m a) (n a)) := sm_bnd h1 fun _ => sm_bnd h2 fun _ => sm_ret
theorem sm_mLst {i : Nat} {m : Addr → M (List PV)} (h : Sm i m) : Sm i (fun a => mLst (m a)) := sm_bnd h fun ps => by
  by_cases c : ps.length ≤ SZ
  · simp only [if_pos c]; exact sm_ret
  · simp only [if_neg c]; exact sm_bad
theorem sm_mRng1 {i : Nat} {m : Addr → M (List PV)} (h : Sm i m) : Sm i (fun a => mRng1 (m a)) := sm_bnd h fun ps => by
  split
  · rename_i j
    by_cases c : okR j = true
    · simp only [if_pos c]; exact sm_ret
    · simp only [if_neg c]; exact sm_bad
  · exact sm_bad
theorem sm_blOf {i : Nat} {m : Addr → M RV} (h : Sm i m) : Sm i (fun a => blOf (m a)) := sm_bnd h fun r => by
  obtain ⟨p, fr⟩ := r
  cases p with
  | bl b => exact sm_ret
  | _ => exact sm_bad
theorem sm_tTru {i : Nat} {m : Addr → M PV} (h : Sm i m) : Sm i (fun a => tTru (m a)) := sm_bnd h fun _ => sm_opt
theorem sm_mAnd {i : Nat} {m n : Addr → M Bool} (h1 : Sm i m) (h2 : Sm i n) : Sm i (fun a => mAnd (m a) (n a)) := sm_bnd h1 fun x => by
  cases x
  · exact sm_ret
  · exact h2
theorem sm_mIfS {i : Nat} {c : Addr → M Bool} {m n : Addr → M Fl} (h : Sm i c) (h1 : Sm i m) (h2 : Sm i n) : Sm i (fun a => mIfS (c a) (m a) (n a)) := sm_bnd h fun x => by
  cases x
  · exact h2
  · exact h1
theorem sm_setR {i j : Nat} {r : RV} (h : j ≠ i) : Sm i (fun _ => setR j r) := fun a ev ev2 y e => by
  unfold setR at e ⊢
  dsimp only at e ⊢
  rw [List.length_set] at e ⊢
  by_cases c : j < ev.length
  · rw [if_pos c] at e
    cases e
    exact ⟨ev.set j _, by rw [List.set_comm _ _ h], by rw [if_pos c, List.set_comm _ _ h]⟩
  · rw [if_neg c] at e; cases e
theorem tName_set {i j : Nat} (h : j ≠ i) (p : PV) (z : Slot) (ev : SL) : tName j p (ev.set i z) = (tName j p ev).map fun e => e.set i z := by
  unfold tName
  rw [List.length_set]
  by_cases c : j < ev.length
  · rw [if_pos c, if_pos c, Option.map_some, List.set_comm _ _ h]
  · rw [if_neg c, if_neg c]; rfl
theorem sm_loop {i j : Nat} {m : Addr → M Fl} (hj : j ≠ i) (h : Sm i m) : ∀ L : List PV, Sm i (fun a => loop (tName j) (m a) L)
  | [] => sm_ret
  | p :: L => fun a ev ev2 y e => by
    simp only [loop] at e ⊢
    rw [tName_set hj] at e ⊢
    cases e0 : tName j p ev with
    | none => rw [e0] at e; cases e
    | some ev1 =>
      rw [e0] at e
      simp only [Option.map_some] at e ⊢
      cases e1 : m 0 (ev1.set i (.val (.opq (.ref 0)))) with
      | bad => rw [e1] at e; cases e
      | exc c ev3 => rw [e1] at e; cases e
      | ok f ev3 =>
        obtain ⟨ev4, q1, q2⟩ := h a ev1 ev3 f e1
        rw [e1] at e
        rw [q2]
        cases f with
        | nx =>
          simp only at e ⊢
          rw [q1] at e
          exact sm_loop hj h L a ev4 ev2 y e
        | ct =>
          simp only at e ⊢
          rw [q1] at e
          exact sm_loop hj h L a ev4 ev2 y e
        | bk => cases e; exact ⟨ev4, q1, rfl⟩
        | rt r => cases e; exact ⟨ev4, q1, rfl⟩
theorem wipe_set {i : Nat} {z : Slot} {ev : SL} : ∀ {vs : List Nat}, (∀ v ∈ vs, v ≠ i) → wipeE (ev.set i z) vs = (wipeE ev vs).set i z
  | [], _ => rfl
  | v :: vs, h => by
    unfold wipeE
    rw [wipe_set fun w hw => h w (by simp [hw]), List.set_comm _ _ (fun q => h v (by simp) q.symm)]
theorem back_set {i : Nat} {z : Slot} {ev0 ev : SL} : ∀ {vs : List Nat}, (∀ v ∈ vs, v ≠ i) → back (ev0.set i z) (ev.set i z) vs = (back ev0 ev vs).set i z
  | [], _ => rfl
  | v :: vs, h => by
    unfold back
    rw [back_set fun w hw => h w (by simp [hw]), List.set_comm _ _ (fun q => h v (by simp) q.symm), List.getElem?_set_ne fun q => h v (by simp) q.symm]
theorem sm_turn {i j : Nat} {mt : Addr → M Bool} {me : Addr → M RV} (hj : j ≠ i) (h1 : Sm i mt) (h2 : Sm i me) (p : PV) : Sm i (fun a => turn (tName j) (mt a) (me a) p) := fun a ev ev2 y e => by
  unfold turn at e ⊢
  dsimp only at e ⊢
  rw [tName_set hj] at e ⊢
  cases e0 : tName j p ev with
  | none => rw [e0] at e; cases e
  | some ev1 =>
    rw [e0] at e
    simp only [Option.map_some] at e ⊢
    have key : Sm i (fun a => bnd (mt a) (fun k => if k then bnd (me a) fun r => ret (some r.1) else ret none)) := sm_bnd h1 fun k => by
      cases k
      · exact sm_ret
      · exact sm_bnd h2 fun _ => sm_ret
    exact key a ev1 ev2 y e
theorem sm_compr {i j : Nat} {vs : List Nat} {mt : Addr → M Bool} {me : Addr → M RV} (hj : j ≠ i) (hv : ∀ v ∈ vs, v ≠ i) (h1 : Sm i mt) (h2 : Sm i me) : ∀ (L acc : List PV), Sm i (fun a => compr (tName j) (mt a) (me a) vs acc L)
  | [], acc => by simp only [compr]; exact sm_ret
  | p :: L, acc => fun a ev ev2 y e => by
    simp only [compr] at e ⊢
    cases e1 : turn (tName j) (mt 0) (me 0) p (ev.set i (.val (.opq (.ref 0)))) with
    | bad => rw [e1] at e; cases e
    | exc c ev3 => rw [e1] at e; cases e
    | ok f ev3 =>
      obtain ⟨ev4, q1, q2⟩ := sm_turn hj h1 h2 p a ev ev3 f e1
      dsimp only at q2
      rw [e1] at e
      rw [q2]
      cases f with
      | none =>
        simp only at e ⊢
        rw [q1, wipe_set hv] at e
        rw [wipe_set hv]
        exact sm_compr hj hv h1 h2 L acc a _ ev2 y e
      | some q =>
        simp only at e ⊢
        by_cases c : acc.length < SZ
        · rw [if_pos c] at e ⊢
          rw [q1, wipe_set hv] at e
          rw [wipe_set hv]
          exact sm_compr hj hv h1 h2 L (acc ++ [q]) a _ ev2 y e
        · rw [if_neg c] at e; cases e
theorem sm_mComp {i j : Nat} {vs : List Nat} {mi : Addr → M (List PV)} {mt : Addr → M Bool} {me : Addr → M RV} (hj : j ≠ i) (hv : ∀ v ∈ vs, v ≠ i) (h0 : Sm i mi) (h1 : Sm i mt) (h2 : Sm i me) : Sm i (fun a => mComp (mi a) (tName j) (mt a) (me a) vs) := sm_bnd h0 fun ps a ev ev2 y e => by
  dsimp only at e ⊢
  rw [wipe_set hv] at e ⊢
  cases e1 : compr (tName j) (mt 0) (me 0) vs [] ps ((wipeE ev vs).set i (.val (.opq (.ref 0)))) with
  | bad => rw [e1] at e; cases e
  | exc c ev3 => rw [e1] at e; cases e
  | ok qs ev3 =>
    obtain ⟨ev4, q1, q2⟩ := sm_compr hj hv h1 h2 ps [] a _ ev3 qs e1
    dsimp only at q2
    rw [e1] at e
    cases e
    rw [q2, q1]
    simp only
    rw [back_set hv, back_set hv]
    exact ⟨_, rfl, rfl⟩
theorem sm_mRetR {i : Nat} {m : Addr → M RV} (h : Sm i m) : Sm i (fun a => bnd (m a) mRet) := sm_bnd h fun _ => sm_mRet
/-! ### a suite for each class -/
def pickC (d : Str) : List (Str × M Fl) → M Fl
  | [] => bad
  | (c, m) :: r => if d = c then m else pickC d r
theorem pick_hd {c : Str} {m : M Fl} {r : List (Str × M Fl)} : pickC c ((c, m) :: r) = m := if_pos rfl
theorem pick_tl {d c : Str} {m : M Fl} {r : List (Str × M Fl)} (h : ¬ d = c) : pickC d ((c, m) :: r) = pickC d r := if_neg h
theorem sm_pick {i : Nat} {d c : Str} {m : Addr → M Fl} {r : Addr → List (Str × M Fl)} (h1 : Sm i m) (h2 : Sm i (fun a => pickC d (r a))) : Sm i (fun a => pickC d ((c, m a) :: r a)) := by
  by_cases h : d = c
  · simp only [pickC, if_pos h]; exact h1
  · simp only [pickC, if_neg h]; exact h2
theorem sm_pick0 {i : Nat} {d : Str} : Sm i (fun _ => pickC d []) := sm_bad
end Pv
namespace Pv
open PySem PySem.Spec L2
open PyProof.Rows hiding St
section
variable {X : Cx} {W : WX} {cm : CM}
theorem sbp_hd {b : List Stmt} {c : Str} {m : M Fl} {r : List (Str × M Fl)} (h : SB X W cm b m) : SB X W cm b (pickC c ((c, m) :: r)) := by
  rw [pick_hd]; exact h
theorem sbp_tl {b : List Stmt} {d c : Str} {m : M Fl} {r : List (Str × M Fl)} (hne : ¬ d = c) (h : SB X W cm b (pickC d r)) : SB X W cm b (pickC d ((c, m) :: r)) := by
  rw [pick_tl hne]; exact h
end
end Pv

set_option Elab.async false
set_option linter.all false
set_option maxRecDepth 100000
namespace Pv
open PySem PySem.Spec L2
open PyProof.Rows hiding St
section
variable {X : Cx} {W : WX} {cm : CM}
/-- y = [e for x in xs if t for z in zs if u] -/
theorem s_setComp2 {i : Nat} {y : Str} {py : Pos} {elt tg iter tg1 iter1 : Expr} {ifs ifs1 : List Expr} {scope : Scope} {own : List (Str × Nat)} {vs1 : List Nat} {pos spos : Pos} {js js1 : List Nat} {mi mi1 : M (List PV)} {t t1 : PV → SL → Option SL} {mt mt1 : M Bool} {me : M RV} (hc : X.calm = true) (hNd : X.N.Nodup)
    (hsw : swapsWith (.ListComp elt [⟨tg, iter, ifs, 0⟩, ⟨tg1, iter1, ifs1, 0⟩] scope pos) (some (.Name y py)) spos.line X.env = pure true) (ok : BlkOk X.N X.env.scope scope own)
    (si : SI X W cm tg iter mi) (hg : Blk X scope fun Y => SG Y W0 tg t js) (ht : Blk X scope fun Y => STs Y W0 cm ifs mt) (hi1 : Blk X scope fun Y => SI Y W0 cm tg1 iter1 mi1) (hg1 : Blk X scope fun Y => SG Y W0 tg1 t1 js1) (ht1 : Blk X scope fun Y => STs Y W0 cm ifs1 mt1) (he : Blk X scope fun Y => SE Y W0 cm elt me) (hj : ∀ j ∈ js, j ∈ own.map (·.2) := by decide) (hj1 : ∀ j ∈ js1, j ∈ vs1 := by decide) (hv : ∀ j ∈ vs1, j ∈ own.map (·.2) := by decide)
    (hy : X.N[i]? = some y := by rfl) (hyl : X.env.scope.names.lookup y = some .local := by rfl)
    (hs : ∀ x, foldedSetIterable iter X.env x = pure x := by intro _; rfl) (hs1 : ∀ env x, foldedSetIterable iter1 env x = pure x := by intro _ _; rfl) : SS X W cm (.Assign [.Name y py] (.ListComp elt [⟨tg, iter, ifs, 0⟩, ⟨tg1, iter1, ifs1, 0⟩] scope pos) spos) (bnd (mComp2 mi t mt mi1 t1 mt1 me (own.map (·.2)) vs1) (setR i)) := ⟨fun {F0 F H0 H ev σ D} b h => by
  obtain ⟨wi, hpi, hwi⟩ := si.ex
  refine sS_of (ps_setLc2 (wi1 := cI X scope tg1 iter1) (g := cG X scope tg) (tt := cT X scope ifs) (g1 := cG X scope tg1) (tt1 := cT X scope ifs1) (te := cE X scope elt) hc hNd hy hyl hsw hpi ok hv (fun s H C cl fp => ⟨fun pins s' σ H' v u Q' I ru q => q s H C cl fp pins s' u I ru⟩)
    (fun s H C cl fp => ⟨fun pins s' σ H' Q' I q => sTs_pt.run pins s' σ H' Q' I (q s H C cl fp)⟩)
    (fun s H C cl fp => ⟨fun pins s' σ H' R I q => sI_pi.run pins s' σ H' R I (q s H C cl fp)⟩)
    (fun s H C cl fp => ⟨fun pins s' σ H' v u Q' I ru q => q s H C cl fp pins s' u I ru⟩)
    (fun s H C cl fp => ⟨fun pins s' σ H' Q' I q => sTs_pt.run pins s' σ H' Q' I (q s H C cl fp)⟩)
    (fun s H C cl fp => ⟨fun pins s' σ H' Q' I q => q s H C cl fp pins s' I⟩) hs hs1) ?_
  refine comp2_core hg ht hi1 hg1 ht1 he hj hj1 hv hwi b.er ((h.expr b).mono fun r ev1 F1 H1 a hh v rv => ?_)
  obtain ⟨ev', e1⟩ := setR_nx hh.2.not_bad
  exact hh.2.nx e1 ((b.aft a).bs.set b.er.same rv e1)⟩
theorem s_setComp2V {N : List Str} {sc : Scope} {vs : List Nat} (vs1 : List Nat) (own : List (Str × Nat)) {i : Nat} {y : Str} {py : Pos} {elt tg iter tg1 iter1 : Expr} {ifs ifs1 : List Expr} {scope : Scope} {pos spos : Pos} {js js1 : List Nat} {mi mi1 : M (List PV)} {t t1 : PV → SL → Option SL} {mt mt1 : M Bool} {me : M RV} (hc : X.calm = true) (hNd : X.N.Nodup)
    (hsw : swapsWith (.ListComp elt [⟨tg, iter, ifs, 0⟩, ⟨tg1, iter1, ifs1, 0⟩] scope pos) (some (.Name y py)) spos.line X.env = pure true) (ok : blkC N sc scope own = true)
    (si : SI X W cm tg iter mi) (hg : Blk X scope fun Y => SG Y W0 tg t js) (ht : Blk X scope fun Y => STs Y W0 cm ifs mt) (hi1 : Blk X scope fun Y => SI Y W0 cm tg1 iter1 mi1) (hg1 : Blk X scope fun Y => SG Y W0 tg1 t1 js1) (ht1 : Blk X scope fun Y => STs Y W0 cm ifs1 mt1) (he : Blk X scope fun Y => SE Y W0 cm elt me) (hj : ∀ j ∈ js, j ∈ own.map (·.2) := by decide) (hj1 : ∀ j ∈ js1, j ∈ vs1 := by decide) (hv : ∀ j ∈ vs1, j ∈ own.map (·.2) := by decide) (hvs : own.map (·.2) = vs := by rfl) (eN : X.N = N := by rfl) (eS : X.env.scope = sc := by rfl)
    (hy : X.N[i]? = some y := by rfl) (hyl : X.env.scope.names.lookup y = some .local := by rfl)
    (hs : ∀ x, foldedSetIterable iter X.env x = pure x := by intro _; rfl) (hs1 : ∀ env x, foldedSetIterable iter1 env x = pure x := by intro _ _; rfl) : SS X W cm (.Assign [.Name y py] (.ListComp elt [⟨tg, iter, ifs, 0⟩, ⟨tg1, iter1, ifs1, 0⟩] scope pos) spos) (bnd (mComp2 mi t mt mi1 t1 mt1 me vs vs1) (setR i)) := by
  subst hvs eN eS
  exact s_setComp2 hc hNd hsw (blkOk_by ok) si hg ht hi1 hg1 ht1 he hj hj1 hv hy hyl hs hs1
end
end Pv

set_option Elab.async false
set_option linter.all false
set_option maxRecDepth 100000
set_option maxHeartbeats 2000000
namespace Cb
open PySem PySem.Spec
open Sem (wp)
abbrev CT : String := "itertools.combinations"
theorem mro_cb : mroOf (.type CT) = pure [.type CT, .type "object"] := by rw [mroOf_type]; kernel_rfl
theorem lookup_cb_new : typeLookup (.type CT) "__new__" = pure (some (.builtin "itertools.combinations.__new__")) := by rw [typeLookup_type, builtinLookup_eq_fast]; kernel_rfl
theorem slot_cb_init : Slot CT "__init__" "object.__init__" :=
  .of (owner := "object") (n := "__init__") (by rw [typeLookup_type, builtinLookup_eq_fast]; kernel_rfl) (by decide +kernel) (by decide +kernel) (by decide +kernel)
    (by first | exact .inl (by decide +kernel) | exact .inr (by decide +kernel)) (by rw [isSubtype_type]; kernel_rfl)
theorem sub_cb : isSubtype (.type CT) (.type CT) = pure true := by rw [isSubtype_type]; kernel_rfl
theorem called_cb : TypeCalled CT "itertools.combinations.__new__" "object.__init__" :=
  ⟨by decide +kernel, by decide +kernel, ⟨_, _, mro_cb⟩, madeBy_type mro_cb lookup_cb_new (by decide +kernel), by decide +kernel, sub_cb, slot_cb_init⟩
theorem typeCall_cb (a b : Value) : checkTypeCall CT ⟨[a, b], []⟩ = pure () := by kernel_rfl
theorem newCall_cb (a b : Value) : checkBuiltinCall "itertools.combinations.__new__" ⟨[.type CT, a, b], []⟩ = pure () := by kernel_rfl
theorem entry_cb_new : entryFor table "itertools.combinations.__new__" = some Builtin.«itertools.combinations.__new__» := entryFor_of_tree (by kernel_rfl)
theorem slot_cb_iter : Slot CT "__iter__" "itertools.combinations.__iter__" :=
  .of (owner := CT) (n := "__iter__") (by rw [typeLookup_type, builtinLookup_eq_fast]; kernel_rfl) (by decide +kernel) (by decide +kernel) (by decide +kernel)
    (by first | exact .inl (by decide +kernel) | exact .inr (by decide +kernel)) sub_cb
theorem slot_cb_next : Slot CT "__next__" "itertools.combinations.__next__" :=
  .of (owner := CT) (n := "__next__") (by rw [typeLookup_type, builtinLookup_eq_fast]; kernel_rfl) (by decide +kernel) (by decide +kernel) (by decide +kernel)
    (by first | exact .inl (by decide +kernel) | exact .inr (by decide +kernel)) sub_cb
theorem entry_cb_iter : entryFor table "itertools.combinations.__iter__" = some Builtin.«dict_keyiterator.__iter__» :=
  entryFor_alias (id' := "dict_keyiterator.__iter__") (by kernel_rfl) (by first | rfl | decide +kernel | (unfold String.splitOn; simp +decide [String.splitOnAux])) (by decide +kernel) (by kernel_rfl)
theorem entry_cb_next : entryFor table "itertools.combinations.__next__" = some Builtin.«itertools.combinations.__next__» := entryFor_of_tree (by kernel_rfl)
theorem owner_cb : Manifest.owners.lookup (String.ofList CT.toList.reverse.reverse) = some Manifest.sig_itertools_combinations := by kernel_rfl
abbrev ow : List Char := ['s', 'n', 'o', 'i', 't', 'a', 'n', 'i', 'b', 'm', 'o', 'c', '.', 's', 'l', 'o', 'o', 't', 'r', 'e', 't', 'i']
theorem owner_cb2 : Manifest.owners.lookup (String.ofList ow.reverse) = some Manifest.sig_itertools_combinations := by kernel_rfl
theorem args_cb_iter (a : Value) : argsOk "itertools.combinations.__iter__" ⟨[a], []⟩ := by
  unfold argsOk; rw [signature?_of (id := "itertools.combinations.__iter__") (n := ['_', '_', 'r', 'e', 't', 'i', '_', '_']) (o := ow) (by kernel_rfl) owner_cb2]; kernel_rfl
theorem args_cb_next (a : Value) : argsOk "itertools.combinations.__next__" ⟨[a], []⟩ := by
  unfold argsOk; rw [signature?_of (id := "itertools.combinations.__next__") (n := ['_', '_', 't', 'x', 'e', 'n', '_', '_']) (o := ow) (by kernel_rfl) owner_cb2]; kernel_rfl
theorem noDict_cb : typeHasDict (.type CT) = false := by decide +kernel
end Cb

set_option Elab.async false
set_option linter.all false
set_option maxRecDepth 100000
set_option maxHeartbeats 2000000
namespace Cb
open PySem PySem.Spec
open Sem (wp)
/-- what v holds is collected (P: the items) -/
def Col (prog : Program) (w : World) (A : Around) (v : Value) (P : List Value → Prop) (s : Shared) : Prop :=
  ∀ (Q : List Value → Shared → Prop) (E : Value → Shared → Prop), (∀ (h' : Heap) (tk : Nat) (us : List Value), P us → (∀ b o, s.heap.get? b = some o → h'.get? b = some o) → Q us { s with heap := h', toks := tk }) → wpAny (model prog w) A (collect v) Q E s
/-- the record of an iterator: where it stands, what it gave last, the indexes -/
abbrev recOf (pool : Addr) (st : Int) (last : Value) (ix : List Nat) : Obj := { cls := .type CT, dict := none, data := .fields (([.ref pool, rawInt st, last] ++ ix.map fun (i : Nat) => rawInt i).toArray), slots := #[] }
abbrev tupO (us : List Value) : Obj := { cls := .type "tuple", data := .seq us.toArray }
section
variable {prog : Program} {w : World}
theorem new_ok {v : Value} {r : Nat} {t : Tok} {P : List Value → Prop} (hr : r ≤ 1000) (hP : ∀ us, P us → us.length ≤ 1000) :
    MeetsIn prog w (Builtin.«itertools.combinations.__new__» ⟨[.type CT, v, .int (r : Nat) t], []⟩)
      (fun A R s => Col prog w A.in1 v P s ∧ ∀ (h' : Heap) (tk : Nat) (us : List Value), P us → (∀ b o, s.heap.get? b = some o → h'.get? b = some o) →
        R (.ok (.ret (.ref (h'.objs.size + 1)))) { s with heap := (h'.push (tupO us)).push (recOf h'.objs.size (if r > us.length then 2 else 0) .none (List.range r)), toks := tk }) :=
  .of_wp fun A R s h => by
    obtain ⟨hc, h⟩ := h
    have hsub := sub_cb
    have hd := noDict_cb
    have b1 : decide ((r : Int) < -(2 ^ 63 : Int)) = false := decide_eq_false (by omega)
    have b2 : decide ((r : Int) ≥ (2 ^ 63 : Int)) = false := decide_eq_false (by omega)
    have b3 : ¬ ((r : Int) < 0) := by omega
    have e0 : ("itertools." ++ "combinations" : String) = CT := by decide +kernel
    repeat (first
      | wp_step
      | simp only [List.head?_cons, Option.some_or, List.getElem?_cons_succ, List.getElem?_cons_zero, List.length_cons, List.length_nil, List.forIn_nil])
    rw [e0]
    refine wpAny_of_eq hsub ?_
    show wpAny _ _ (pure _) _ _ _
    refine wpAny_pure ?_
    show wpAny _ _ (Builtin.Itertools.itBindNamed _ _ _ _ [v, Value.int (r : Nat) t] [] >>= _) _ _ _
    have eb : Builtin.Itertools.itBindNamed "combinations" ["iterable", "r"] 2 2 [v, Value.int (r : Nat) t] [] = pure [some v, some (Value.int (r : Nat) t)] := by rfl
    rw [eb]
    refine wpAny_bind (wpAny_pure ?_)
    show wpAny _ _ (Builtin.Itertools.itSsizeArg (Value.int (r : Nat) t) >>= _) _ _ _
    have es : Builtin.Itertools.itSsizeArg (Value.int (r : Nat) t) = pure (r : Int) := by
      unfold Builtin.Itertools.itSsizeArg
      show (if (decide ((r : Int) < -(2 ^ 63 : Int)) || decide ((r : Int) ≥ (2 ^ 63 : Int))) = true then _ else _) = _
      rw [b1, b2]; rfl
    rw [es]
    refine wpAny_bind (wpAny_pure ?_)
    refine wpAny_bind (hc _ _ fun h' tk us hp hk => ?_)
    have hus := hP us hp
    rw [if_neg b3]
    show wpAny _ _ (if decide ((r : Int) > 2 ^ 20) = true then _ else _) _ _ _
    rw [if_neg (by rw [decide_eq_false (by omega)]; decide)]
    refine wpAny_bind (wpAny_newObj_type ?_ (by show us.toArray.size ≤ _; rw [List.size_toArray, sizeLine_eq]; omega))
    refine wpAny_pure ?_
    show wpAny _ _ (Builtin.Itertools.itNewRecord (.type CT) _ >>= _) _ _ _
    unfold Builtin.Itertools.itNewRecord
    rw [hd]
    refine wpAny_bind ?_
    rw [if_pos (show (!false) = true from rfl)]
    refine wpAny_newObj_type ?_ ?_
    · refine wpAny_pure ⟨_, rfl, ?_⟩
      have e := h h' tk us hp hk
      have e1 : ((h'.push (tupO us)).objs.size) = h'.objs.size + 1 := by simp [Heap.push]
      rw [← e1] at e
      exact e
    · show (List.toArray _).size ≤ sizeLine + 2
      rw [List.size_toArray, List.length_append, List.length_map]
      show 3 + (List.range r).length ≤ _
      rw [List.length_range, sizeLine_eq]; omega
/-! ### a step -/
theorem wp_some {α β : Type} {M : Model} {A : Around} {Q : β → Shared → Prop} {E : Value → Shared → Prop} {s : Shared} {o : Option α} {x : α} {f : α → Sem β} {g : Sem β} (ho : o = some x) (h : wpAny M A (f x) Q E s) : wpAny M A (match o with | some y => f y | none => g) Q E s := by subst ho; exact h
theorem wp_none {α β : Type} {M : Model} {A : Around} {Q : β → Shared → Prop} {E : Value → Shared → Prop} {s : Shared} {o : Option α} {f : α → Sem β} {g : Sem β} (ho : o = none) (h : wpAny M A g Q E s) : wpAny M A (match o with | some y => f y | none => g) Q E s := by subst ho; exact h
/-- the indexes that follow -/
def stepR (n : Nat) : List Nat → Option (List Nat)
  | [] => none
  | x :: t => match stepR n t with
    | some u => some (x :: u)
    | none => if x = n - (t.length + 1) then none else some ((List.range (t.length + 1)).map fun j => x + 1 + j)
def stepC (n : Nat) (l : List Nat) : Option (List Nat) :=
  match List.find? (fun i => l.getD i 0 != i + n - l.length) (List.range l.length).reverse with
  | none => none
  | some i => some (List.append (l.take i) (List.map (fun j => l.getD i 0 + 1 + j) (List.range (l.length - i))))
theorem numbers_ok {M : Model} {A : Around} {E : Value → Shared → Prop} {s : Shared} {it pool : Addr} {st : Int} {last : Value} {ix : List Nat} {Q : List Nat → Shared → Prop} (h : s.heap.get? it = some (recOf pool st last ix)) (hQ : Q ix s) : wpAny M A (Builtin.Itertools.itNumbersFrom (.ref it) 3) Q E s := by
  unfold Builtin.Itertools.itNumbersFrom
  refine wpAny_bind (wpAny_load h ?_)
  refine wpAny_pure ?_
  have e : ((([Value.ref pool, rawInt st, last] ++ ix.map fun (i : Nat) => rawInt i).toArray).toList.drop 3) = ix.map fun (i : Nat) => rawInt i := by simp
  rw [e, List.map_map]
  have e2 : ix.map ((fun v => match v with | Value.int n _ => n.toNat | _ => 0) ∘ fun (i : Nat) => rawInt i) = ix := by
    conv => rhs; rw [← List.map_id ix]
    refine List.map_congr_left fun i _ => ?_
    show (i : Int).toNat = i
    omega
  exact (congrArg (fun z => Q z s) e2).mpr hQ
end
end Cb

set_option Elab.async false
set_option linter.all false
set_option maxRecDepth 100000
namespace Cb
open PySem PySem.Spec
theorem stepC_cons (n x : Nat) (t : List Nat) : stepC n (x :: t) = match stepC n t with
    | some u => some (x :: u)
    | none => if x = n - (t.length + 1) then none else some ((List.range (t.length + 1)).map fun j => x + 1 + j) := by
  unfold stepC
  have e : (List.range (x :: t).length).reverse = (List.range t.length).reverse.map Nat.succ ++ [0] := by
    rw [List.length_cons, List.range_succ_eq_map, List.reverse_cons, List.map_reverse]
  rw [e, List.find?_append, List.find?_map]
  have e2 : ((fun i => (x :: t).getD i 0 != i + n - (x :: t).length) ∘ Nat.succ) = fun i => t.getD i 0 != i + n - t.length := by
    funext i
    show ((x :: t).getD (i + 1) 0 != i + 1 + n - (x :: t).length) = _
    rw [List.getD_cons_succ, List.length_cons]
    congr 1
    omega
  rw [e2]
  cases h : List.find? (fun i => t.getD i 0 != i + n - t.length) (List.range t.length).reverse with
  | some i =>
    have hi : i < t.length := by
      have := List.mem_of_find?_eq_some h
      rw [List.mem_reverse, List.mem_range] at this
      exact this
    show some (List.append ((x :: t).take (i + 1)) (List.map (fun j => (x :: t).getD (i + 1) 0 + 1 + j) (List.range ((x :: t).length - (i + 1))))) = some (x :: List.append (t.take i) _)
    rw [List.getD_cons_succ, List.length_cons, show t.length + 1 - (i + 1) = t.length - i by omega]
    rfl
  | none =>
    show (match List.find? (fun i => (x :: t).getD i 0 != i + n - (x :: t).length) [0] with | none => none | some i => _) = _
    rw [List.find?_cons, List.find?_nil]
    have e3 : ((x :: t).getD 0 0 != 0 + n - (x :: t).length) = (x != n - (t.length + 1)) := by
      rw [List.getD_cons_zero, List.length_cons, Nat.zero_add]
    rw [e3]
    by_cases c : x = n - (t.length + 1)
    · rw [if_pos c, show (x != n - (t.length + 1)) = false by simp [c]]
    · rw [if_neg c, show (x != n - (t.length + 1)) = true by simp [c]]
      show some (List.append ((x :: t).take 0) (List.map (fun j => (x :: t).getD 0 0 + 1 + j) (List.range ((x :: t).length - 0)))) = _
      rw [List.getD_cons_zero, List.length_cons, Nat.sub_zero]
      rfl
theorem stepC_R (n : Nat) : ∀ l : List Nat, stepC n l = stepR n l
  | [] => rfl
  | x :: t => by rw [stepC_cons, stepC_R n t]; rfl
/-- all choices of r of a list, in its sequence -/
def cmb {α : Type} : Nat → List α → List (List α)
  | 0, _ => [[]]
  | _ + 1, [] => []
  | r + 1, x :: xs => (cmb r xs).map (fun c => x :: c) ++ cmb (r + 1) xs
theorem cmb_map {α β : Type} (f : α → β) : ∀ (r : Nat) (l : List α), cmb r (l.map f) = (cmb r l).map (List.map f)
  | 0, l => by cases l <;> rfl
  | r + 1, [] => rfl
  | r + 1, x :: xs => by
    show (cmb r (xs.map f)).map _ ++ cmb (r + 1) (xs.map f) = ((cmb r xs).map _ ++ cmb (r + 1) xs).map _
    rw [cmb_map f r xs, cmb_map f (r + 1) xs, List.map_append, List.map_map, List.map_map]
    rfl
theorem cmb_len {α : Type} : ∀ (r : Nat) (l : List α) (c : List α), c ∈ cmb r l → c.length = r
  | 0, l, c, h => by
    have : c = [] := by cases l <;> simpa [cmb] using h
    rw [this]; rfl
  | r + 1, [], c, h => by cases h
  | r + 1, x :: xs, c, h => by
    rcases List.mem_append.mp h with h | h
    · obtain ⟨d, hd, rfl⟩ := List.mem_map.mp h
      rw [List.length_cons, cmb_len r xs d hd]
    · exact cmb_len (r + 1) xs c h
theorem cmb_none {α : Type} : ∀ (r : Nat) (l : List α), l.length < r → cmb r l = []
  | 0, l, h => absurd h (Nat.not_lt_zero _)
  | r + 1, [], _ => rfl
  | r + 1, x :: xs, h => by
    rw [List.length_cons] at h
    show (cmb r xs).map _ ++ cmb (r + 1) xs = []
    rw [cmb_none r xs (by omega), cmb_none (r + 1) xs (by omega)]; rfl
theorem cmb_first : ∀ (r a m : Nat), r ≤ m → (cmb r (List.range' a m))[0]? = some (List.range' a r)
  | 0, a, m, _ => by cases m <;> rfl
  | r + 1, a, 0, h => absurd h (Nat.not_succ_le_zero _)
  | r + 1, a, m + 1, h => by
    rw [List.range'_succ, List.range'_succ]
    show ((cmb r (List.range' (a + 1) m)).map (fun c => a :: c) ++ _)[0]? = _
    have e := cmb_first r (a + 1) m (by omega)
    rw [List.getElem?_append_left (by rw [List.length_map]; exact (List.getElem?_eq_some_iff.mp e).1), List.getElem?_map, e]
    rfl
theorem cmb_next : ∀ (m r a : Nat) (k : Nat) (c : List Nat), (cmb r (List.range' a m))[k]? = some c → stepR (a + m) c = (cmb r (List.range' a m))[k + 1]?
  | m, 0, a, k, c, h => by
    have e : cmb 0 (List.range' a m) = [[]] := by cases m <;> rfl
    rw [e] at h ⊢
    cases k with
    | zero => cases h; rfl
    | succ k => simp at h
  | 0, r + 1, a, k, c, h => by
    have e : cmb (r + 1) (List.range' a 0) = [] := rfl
    rw [e] at h; simp at h
  | m + 1, r + 1, a, k, c, h => by
    rw [List.range'_succ] at h ⊢
    have e : cmb (r + 1) (a :: List.range' (a + 1) m) = (cmb r (List.range' (a + 1) m)).map (fun c => a :: c) ++ cmb (r + 1) (List.range' (a + 1) m) := rfl
    rw [e] at h ⊢
    have en : a + (m + 1) = a + 1 + m := by omega
    rw [en]
    by_cases hk : k < (cmb r (List.range' (a + 1) m)).length
    · rw [List.getElem?_append_left (by rw [List.length_map]; exact hk), List.getElem?_map] at h
      obtain ⟨t, ht, rfl⟩ := Option.map_eq_some_iff.mp h
      have ih := cmb_next m r (a + 1) k t ht
      have tl := cmb_len _ _ _ (List.mem_of_getElem? ht)
      show (match stepR (a + 1 + m) t with | some u => some (a :: u) | none => if a = a + 1 + m - (t.length + 1) then none else some ((List.range (t.length + 1)).map fun j => a + 1 + j)) = _
      rw [ih, tl]
      by_cases hk2 : k + 1 < (cmb r (List.range' (a + 1) m)).length
      · rw [List.getElem?_append_left (by rw [List.length_map]; exact hk2), List.getElem?_map, List.getElem?_eq_getElem hk2]
        rfl
      · rw [List.getElem?_eq_none (by omega), List.getElem?_append_right (by rw [List.length_map]; omega), List.length_map, show k + 1 - (cmb r (List.range' (a + 1) m)).length = 0 by omega]
        show (if a = a + 1 + m - (r + 1) then none else some ((List.range (r + 1)).map fun j => a + 1 + j)) = _
        have hrm : r ≤ m := by
          refine Nat.le_of_not_lt fun z => ?_
          rw [cmb_none r _ (by rw [List.length_range']; exact z)] at hk
          cases hk
        by_cases c : r = m
        · rw [if_pos (by omega), cmb_none (r + 1) _ (by rw [List.length_range']; omega)]
          rfl
        · rw [if_neg (by omega), cmb_first (r + 1) (a + 1) m (by omega), List.range'_eq_map_range]
    · have hk2 : (cmb r (List.range' (a + 1) m)).length ≤ k := by omega
      rw [List.getElem?_append_right (by rw [List.length_map]; exact hk2), List.length_map] at h
      rw [List.getElem?_append_right (by rw [List.length_map]; omega), List.length_map]
      have ih := cmb_next m (r + 1) (a + 1) (k - (cmb r (List.range' (a + 1) m)).length) c h
      rw [ih, show k + 1 - (cmb r (List.range' (a + 1) m)).length = k - (cmb r (List.range' (a + 1) m)).length + 1 by omega]
/-- the choices by their places -/
def ixs (r n : Nat) : List (List Nat) := cmb r (List.range' 0 n)
theorem ixs_first {r n : Nat} (h : r ≤ n) : (ixs r n)[0]? = some (List.range r) := by
  unfold ixs; rw [cmb_first r 0 n h, List.range_eq_range']
theorem ixs_next {r n k : Nat} {c : List Nat} (h : (ixs r n)[k]? = some c) : stepC n c = (ixs r n)[k + 1]? := by
  have := cmb_next n r 0 k c h
  rw [Nat.zero_add] at this
  rw [stepC_R]; exact this
theorem ixs_none {r n : Nat} (h : n < r) : ixs r n = [] := cmb_none r _ (by rw [List.length_range']; exact h)
theorem ixs_lt {r n : Nat} {c : List Nat} (h : c ∈ ixs r n) : ∀ i ∈ c, i < n := by
  have go : ∀ (m r a : Nat) (c : List Nat), c ∈ cmb r (List.range' a m) → ∀ i ∈ c, i < a + m := by
    intro m
    induction m with
    | zero =>
      intro r a c h i hi
      cases r with
      | zero => have : c = [] := by simpa [cmb] using h
                rw [this] at hi; cases hi
      | succ r => cases h
    | succ m ih =>
      intro r a c h i hi
      cases r with
      | zero => have : c = [] := by simpa [cmb] using h
                rw [this] at hi; cases hi
      | succ r =>
        rw [List.range'_succ] at h
        rcases List.mem_append.mp h with h | h
        · obtain ⟨d, hd, rfl⟩ := List.mem_map.mp h
          rcases List.mem_cons.mp hi with rfl | hi
          · omega
          · have := ih r (a + 1) d hd i hi; omega
        · have := ih (r + 1) (a + 1) c h i hi; omega
  have := go n r 0 c h
  intro i hi
  have := this i hi
  omega
theorem ixs_items {α : Type} (d : α) (r : Nat) (l : List α) : (ixs r l.length).map (fun c => c.map fun i => l.getD i d) = cmb r l := by
  have e : (List.range' 0 l.length).map (fun i => l.getD i d) = l := by
    refine List.ext_getElem (by simp) fun i h1 h2 => ?_
    simp [List.getD_eq_getElem?_getD, List.getElem?_eq_getElem h2]
  have := cmb_map (fun i => l.getD i d) r (List.range' 0 l.length)
  rw [e] at this
  exact this.symm
end Cb

set_option Elab.async false
set_option linter.all false
set_option maxRecDepth 100000
set_option maxHeartbeats 2000000
namespace Cb
open PySem PySem.Spec
section
variable {prog : Program} {w : World} {A : Around} {E : Value → Shared → Prop} {s : Shared} {it pool : Addr} {st : Int} {last : Value} {ix ix' : List Nat} {us : List Value}
theorem field_cb {i : Nat} {x : Value} {Q : Value → Shared → Prop} (h : s.heap.get? it = some (recOf pool st last ix)) (hx : ([Value.ref pool, rawInt st, last] ++ ix.map fun (i : Nat) => rawInt i)[i]? = some x) (hQ : Q x s) : wpAny (model prog w) A (field (.ref it) i) Q E s :=
  wpAny_field h rfl (by rw [List.getElem?_toArray]; exact hx) hQ
theorem pick_ok {Q : Value → Shared → Prop} (hp : s.heap.get? pool = some (tupO us)) (hz : ix.length ≤ 1000)
    (hQ : Q (.ref s.heap.objs.size) { s with heap := s.heap.push (tupO (ix.map fun i => us.getD i .none)) }) : wpAny (model prog w) A (Builtin.Itertools.itPoolItems (.ref pool) >>= fun items => newTuple (ix.map fun i => items.getD i .none)) Q E s := by
  unfold Builtin.Itertools.itPoolItems
  refine wpAny_bind (wpAny_bind (wpAny_seqItems hp rfl (wpAny_pure ?_)))
  have e : (ix.map fun i => us.toArray.getD i .none) = ix.map fun i => us.getD i .none := by
    refine List.map_congr_left fun i _ => ?_
    simp [Array.getD_eq_getD_getElem?, List.getD_eq_getElem?_getD]
  rw [e]
  refine wpAny_newObj_type hQ ?_
  show (List.toArray _).size ≤ _
  rw [List.size_toArray, List.length_map, sizeLine_eq]; omega
/-- a choice is handed out -/
theorem hand_ok {R : Fin → Shared → Prop} (h : s.heap.get? it = some (recOf pool st last ix)) (hp : s.heap.get? pool = some (tupO us)) (hip : it ≠ pool) (hz : ix.length ≤ 1000)
    (hQ : ∀ h' : Heap, h'.get? it = some (recOf pool st (.ref s.heap.objs.size) ix) → h'.get? s.heap.objs.size = some (tupO (ix.map fun i => us.getD i .none)) → (∀ b o, b ≠ it → s.heap.get? b = some o → h'.get? b = some o) → R (.done (.ret (.ref s.heap.objs.size))) { s with heap := h' }) :
    wpAny (model prog w) A ((Builtin.Itertools.itPoolItems (.ref pool) >>= fun items => newTuple (ix.map fun i => items.getD i .none)) >>= fun result => field (.ref it) 2 >>= fun before => setField (.ref it) 2 result >>= fun _ => letGo [before] [result] >>= fun _ => ret result) R E s := by
  refine wpAny_bind (pick_ok hp hz ?_)
  have h1 : (s.heap.push (tupO (ix.map fun i => us.getD i .none))).get? it = some (recOf pool st last ix) := Heap.get?_push_of_some _ h
  refine wpAny_bind (field_cb h1 rfl ?_)
  refine wpAny_bind (wpAny_setField h1 rfl (by simp) ?_)
  refine wpAny_bind (wpAny_letGo (wpAny_pure ?_))
  have sb := Heap.SameBut.update (s.heap.push (tupO (ix.map fun i => us.getD i .none))) it (Obj.mapFields (·.setIfInBounds 2 (.ref s.heap.objs.size)))
  have ne : s.heap.objs.size ≠ it := Nat.ne_of_gt (Heap.lt_size h)
  refine hQ _ ?_ ?_ fun b o hb e => ?_
  · rw [Heap.get?_update_self _ h1 rfl]
    simp [Obj.mapFields, recOf]
  · exact (sb.2 _ ne).trans (Heap.get?_push_size _ rfl)
  · exact (sb.2 _ hb).trans (Heap.get?_push_of_some _ e)
theorem stop_ok {R : Fin → Shared → Prop} (hh : A.handled = none) (hE : ∀ e h', (∀ b o, s.heap.get? b = some o → h'.get? b = some o) → (∃ o, h'.get? e = some o ∧ o.cls = .type "StopIteration") → E (.ref e) { s with heap := h' }) : wpAny (model prog w) A (Builtin.Itertools.itStop : Sem Fin) R E s := by
  unfold Builtin.Itertools.itStop
  show wpAny _ _ (newExc (.type "StopIteration") [] >>= _) _ _ _
  refine wpAny_bind ?_
  simp only [newExc, newTuple]
  refine wpAny_bind (wpAny_newObj_type ?_ (by size_fits))
  refine wpAny_bind (m := firstArgMember _ _) (wpAny_of_eq (a := Value.none) (by first | rfl | (simp only [firstArgMember]; rfl)) ?_)
  refine wpAny_newObj_type ?_ (by size_fits)
  simp only [raiseNew]
  refine wpAny_bind (wpAny_handled ?_)
  rw [hh]
  refine wpAny_bind (wpAny_pure (wpAny_throw ?_))
  exact hE _ _ (fun b o e => Heap.get?_push_of_some _ (Heap.get?_push_of_some _ e)) ⟨_, Heap.get?_push_size _ rfl, rfl⟩
theorem next_first {Q : Option Value → Shared → Prop} (h : s.heap.get? it = some (recOf pool 0 last ix)) (hp : s.heap.get? pool = some (tupO us)) (hip : it ≠ pool) (hz : ix.length ≤ 1000)
    (hQ : ∀ h' : Heap, h'.get? it = some (recOf pool 1 (.ref s.heap.objs.size) ix) → h'.get? s.heap.objs.size = some (tupO (ix.map fun i => us.getD i .none)) → (∀ b o, b ≠ it → s.heap.get? b = some o → h'.get? b = some o) → Q (some (.ref s.heap.objs.size)) { s with heap := h' }) :
    wpAny (model prog w) A (pyNext (.ref it)) Q E s := by
  have hT : s.TypeIs (.ref it) CT := ⟨_, h, rfl⟩
  unfold pyNext
  refine wpAny_bind (wpAny_attempt (wpAny_callSpecial?_slot (name := Str.ofString "__next__") hT slot_cb_next (wpAny_call_entry slot_cb_next hT entry_cb_next ?_ (args_cb_next _))))
  show wpAny _ _ (field (.ref it) 0 >>= _) _ _ s
  refine wpAny_bind (field_cb h rfl ?_)
  refine wpAny_bind (numbers_ok h ?_)
  show wpAny _ _ (Builtin.Itertools.itIntField (.ref it) 1 >>= _) _ _ s
  refine wpAny_bind ?_
  unfold Builtin.Itertools.itIntField
  refine wpAny_bind (field_cb h rfl (wpAny_pure ?_))
  show wpAny _ _ (setField (.ref it) 1 (rawInt 1) >>= _) _ _ _
  refine wpAny_bind (wpAny_setField h rfl (by simp) ?_)
  have h1 : (s.heap.update it (Obj.mapFields (·.setIfInBounds 1 (rawInt 1)))).get? it = some (recOf pool 1 last ix) := by
    rw [Heap.get?_update_self _ h rfl]
    simp [Obj.mapFields, recOf]
  have sb1 := Heap.SameBut.update s.heap it (Obj.mapFields (·.setIfInBounds 1 (rawInt 1)))
  refine wpAny_mono (hand_ok (s := { s with heap := s.heap.update it (Obj.mapFields (·.setIfInBounds 1 (rawInt 1))) }) h1 ((sb1.2 _ (Ne.symm hip)).trans hp) hip hz
    (R := fun fin s' => ∃ v, fin = .done (.ret v) ∧ Q (some v) s') fun h' q1 q2 q3 => ⟨_, rfl, ?_⟩) (fun fin s' hr => ?_) fun e s' he => he
  · have es : (s.heap.update it (Obj.mapFields (·.setIfInBounds 1 (rawInt 1)))).objs.size = s.heap.objs.size := sb1.1
    rw [show ({ s with heap := s.heap.update it (Obj.mapFields (·.setIfInBounds 1 (rawInt 1))) } : Shared).heap.objs.size = s.heap.objs.size from es] at q1 q2 ⊢
    exact hQ h' q1 q2 fun b o hb e => q3 b o hb ((sb1.2 _ hb).trans e)
  · obtain ⟨v, rfl, q⟩ := hr
    exact ⟨v, rfl, wpAny_pure q⟩
theorem next_step {Q : Option Value → Shared → Prop} (h : s.heap.get? it = some (recOf pool 1 last ix)) (hp : s.heap.get? pool = some (tupO us)) (hip : it ≠ pool) (hn : stepC us.length ix = some ix') (hz : ix'.length ≤ 1000)
    (hQ : ∀ h' : Heap, h'.get? it = some (recOf pool 1 (.ref s.heap.objs.size) ix') → h'.get? s.heap.objs.size = some (tupO (ix'.map fun i => us.getD i .none)) → (∀ b o, b ≠ it → s.heap.get? b = some o → h'.get? b = some o) → Q (some (.ref s.heap.objs.size)) { s with heap := h' }) :
    wpAny (model prog w) A (pyNext (.ref it)) Q E s := by
  have hT : s.TypeIs (.ref it) CT := ⟨_, h, rfl⟩
  unfold pyNext
  refine wpAny_bind (wpAny_attempt (wpAny_callSpecial?_slot (name := Str.ofString "__next__") hT slot_cb_next (wpAny_call_entry slot_cb_next hT entry_cb_next ?_ (args_cb_next _))))
  show wpAny _ _ (field (.ref it) 0 >>= _) _ _ s
  refine wpAny_bind (field_cb h rfl ?_)
  refine wpAny_bind (numbers_ok h ?_)
  show wpAny _ _ (Builtin.Itertools.itIntField (.ref it) 1 >>= _) _ _ s
  refine wpAny_bind ?_
  unfold Builtin.Itertools.itIntField
  refine wpAny_bind (field_cb h rfl (wpAny_pure ?_))
  show wpAny _ _ (Builtin.Itertools.itPoolItems (.ref pool) >>= _) _ _ _
  refine wpAny_bind ?_
  unfold Builtin.Itertools.itPoolItems
  refine wpAny_bind (wpAny_seqItems hp rfl (wpAny_pure ?_))
  have hn' : stepC us.toArray.size ix = some ix' := by rw [List.size_toArray]; exact hn
  split
  rotate_left
  · rename_i e
    have e1 : stepC us.toArray.size ix = none := e
    rw [hn'] at e1; cases e1
  rename_i nx e
  have e1 : stepC us.toArray.size ix = some nx := e
  rw [hn'] at e1
  cases e1
  refine wpAny_bind ?_
  unfold Builtin.Itertools.itSetNumbersFrom
  refine wpAny_updateFields h rfl ?_ ?_
  · have h1 : (s.heap.update it (Obj.mapFields fun fs => fs.extract 0 3 ++ (ix'.map fun (n : Nat) => rawInt n).toArray)).get? it = some (recOf pool 1 last ix') := by
      rw [Heap.get?_update_self _ h rfl]
      simp [Obj.mapFields, recOf]
    have sb1 := Heap.SameBut.update s.heap it (Obj.mapFields fun fs => fs.extract 0 3 ++ (ix'.map fun (n : Nat) => rawInt n).toArray)
    refine wpAny_mono (hand_ok (s := { s with heap := s.heap.update it (Obj.mapFields fun fs => fs.extract 0 3 ++ (ix'.map fun (n : Nat) => rawInt n).toArray) }) h1 ((sb1.2 _ (Ne.symm hip)).trans hp) hip hz
      (R := fun fin s' => ∃ v, fin = .done (.ret v) ∧ Q (some v) s') fun h' q1 q2 q3 => ⟨_, rfl, ?_⟩) (fun fin s' hr => ?_) fun e s' he => he
    · have es : (s.heap.update it (Obj.mapFields fun fs => fs.extract 0 3 ++ (ix'.map fun (n : Nat) => rawInt n).toArray)).objs.size = s.heap.objs.size := sb1.1
      rw [show ({ s with heap := s.heap.update it (Obj.mapFields fun fs => fs.extract 0 3 ++ (ix'.map fun (n : Nat) => rawInt n).toArray) } : Shared).heap.objs.size = s.heap.objs.size from es] at q1 q2 ⊢
      exact hQ h' q1 q2 fun b o hb e => q3 b o hb ((sb1.2 _ hb).trans e)
    · obtain ⟨v, rfl, q⟩ := hr
      exact ⟨v, rfl, wpAny_pure q⟩
  · simp [sizeLine_eq]; omega
theorem next_stop {Q : Option Value → Shared → Prop} (hh : A.handled = none) (h : s.heap.get? it = some (recOf pool 1 last ix)) (hp : s.heap.get? pool = some (tupO us)) (hn : stepC us.length ix = none)
    (hQ : ∀ h' : Heap, (∀ b o, b ≠ it → s.heap.get? b = some o → h'.get? b = some o) → Q none { s with heap := h' }) :
    wpAny (model prog w) A (pyNext (.ref it)) Q E s := by
  have hT : s.TypeIs (.ref it) CT := ⟨_, h, rfl⟩
  unfold pyNext
  refine wpAny_bind (wpAny_attempt (wpAny_callSpecial?_slot (name := Str.ofString "__next__") hT slot_cb_next (wpAny_call_entry slot_cb_next hT entry_cb_next ?_ (args_cb_next _))))
  show wpAny _ _ (field (.ref it) 0 >>= _) _ _ s
  refine wpAny_bind (field_cb h rfl ?_)
  refine wpAny_bind (numbers_ok h ?_)
  show wpAny _ _ (Builtin.Itertools.itIntField (.ref it) 1 >>= _) _ _ s
  refine wpAny_bind ?_
  unfold Builtin.Itertools.itIntField
  refine wpAny_bind (field_cb h rfl (wpAny_pure ?_))
  show wpAny _ _ (Builtin.Itertools.itPoolItems (.ref pool) >>= _) _ _ _
  refine wpAny_bind ?_
  unfold Builtin.Itertools.itPoolItems
  refine wpAny_bind (wpAny_seqItems hp rfl (wpAny_pure ?_))
  have hn' : stepC us.toArray.size ix = none := by rw [List.size_toArray]; exact hn
  split
  · rename_i nx e
    have e1 : stepC us.toArray.size ix = some nx := e
    rw [hn'] at e1; cases e1
  refine wpAny_bind (wpAny_setField h rfl (by simp) ?_)
  have sb1 := Heap.SameBut.update s.heap it (Obj.mapFields (·.setIfInBounds 1 (rawInt 2)))
  refine stop_ok (A := A.in1) (s := { s with heap := s.heap.update it (Obj.mapFields (·.setIfInBounds 1 (rawInt 2))) }) hh fun e h' k ⟨o, ho, hc⟩ => ?_
  show wpAny _ _ (isInstance (.ref e) (.type "StopIteration") >>= _) _ _ _
  refine wpAny_bind (wpAny_isInstance (T := "StopIteration") (b := true) ⟨_, ho, hc⟩ isSubtype_stop ?_)
  exact wpAny_pure (hQ _ fun b o hb q => k b o ((sb1.2 _ hb).trans q))
theorem next_over {Q : Option Value → Shared → Prop} (hh : A.handled = none) (h : s.heap.get? it = some (recOf pool 2 last ix))
    (hQ : ∀ h' : Heap, (∀ b o, b ≠ it → s.heap.get? b = some o → h'.get? b = some o) → Q none { s with heap := h' }) :
    wpAny (model prog w) A (pyNext (.ref it)) Q E s := by
  have hT : s.TypeIs (.ref it) CT := ⟨_, h, rfl⟩
  unfold pyNext
  refine wpAny_bind (wpAny_attempt (wpAny_callSpecial?_slot (name := Str.ofString "__next__") hT slot_cb_next (wpAny_call_entry slot_cb_next hT entry_cb_next ?_ (args_cb_next _))))
  show wpAny _ _ (field (.ref it) 0 >>= _) _ _ s
  refine wpAny_bind (field_cb h rfl ?_)
  refine wpAny_bind (numbers_ok h ?_)
  show wpAny _ _ (Builtin.Itertools.itIntField (.ref it) 1 >>= _) _ _ s
  refine wpAny_bind ?_
  unfold Builtin.Itertools.itIntField
  refine wpAny_bind (field_cb h rfl (wpAny_pure ?_))
  show wpAny _ _ (rule _ >>= _) _ _ _
  refine wpAny_bind (wpAny_rule ?_)
  refine stop_ok (A := A.in1) hh fun e h' k ⟨o, ho, hc⟩ => ?_
  show wpAny _ _ (isInstance (.ref e) (.type "StopIteration") >>= _) _ _ _
  refine wpAny_bind (wpAny_isInstance (T := "StopIteration") (b := true) ⟨_, ho, hc⟩ isSubtype_stop ?_)
  exact wpAny_pure (hQ _ fun b o hb q => k b o q)
theorem iter_cb {Q : Value → Shared → Prop} (h : s.heap.get? it = some (recOf pool st last ix)) (hQ : Q (.ref it) s) : wpAny (model prog w) A (pyIter (.ref it)) Q E s := by
  have hT : s.TypeIs (.ref it) CT := ⟨_, h, rfl⟩
  refine wpAny_pyIter_slot hT slot_cb_iter (wpAny_call_entry slot_cb_iter hT entry_cb_iter ?_ (args_cb_iter _))
  show wpAny _ _ (ret (.ref it)) _ _ s
  exact wpAny_pure ⟨_, rfl, CT, _, hT, slot_cb_next.lookup, hQ⟩
theorem call_cb {v : Value} {r : Nat} {t : Tok} {P : List Value → Prop} {Q : Value → Shared → Prop} (hr : r ≤ 1000) (hP : ∀ us, P us → us.length ≤ 1000) (hc : Col prog w A.in1.in1 v P s)
    (hQ : ∀ (h' : Heap) (tk : Nat) (us : List Value), P us → (∀ b o, s.heap.get? b = some o → h'.get? b = some o) → Q (.ref (h'.objs.size + 1)) { s with heap := (h'.push (tupO us)).push (recOf h'.objs.size (if r > us.length then 2 else 0) .none (List.range r)), toks := tk }) :
    wpAny (model prog w) A (call (.type CT) [v, .int (r : Nat) t]) Q E s :=
  callType_newIn called_cb (by decide) (typeCall_cb _ _) (newCall_cb _ _) (fun obj => F.args_object_init_3 obj _ _) entry_cb_new (new_ok hr hP) ⟨hc, fun h' tk us hp hk => ⟨⟨recOf h'.objs.size (if r > us.length then 2 else 0) .none (List.range r), by
    have e1 : ((h'.push (tupO us)).objs.size) = h'.objs.size + 1 := by simp [Heap.push]
    show ((h'.push (tupO us)).push _).get? (h'.objs.size + 1) = _
    rw [← e1]
    exact Heap.get?_push_size _ rfl, rfl⟩, hQ h' tk us hp hk⟩⟩
end
end Cb

set_option Elab.async false
set_option linter.all false
set_option maxRecDepth 100000
set_option maxHeartbeats 2000000
namespace Cb
open PySem PySem.Spec PyProof.Rows L2
/-- the choices, each in a new tuple -/
def ItC (L : List (List V)) : It :=
  ⟨fun i _ => i < L.length,
    fun i H v H' => ∃ T o xs, v = .ref T ∧ H T = none ∧ H' = upd H T (.frz o (.tup xs)) ∧ o.cls = .type "tuple" ∧ o.dict = none ∧ L[i]? = some xs,
    fun i _ => L.length ≤ i⟩
/-- where the iterator stands ahead of turn i -/
def StC (it pool : Addr) (r : Nat) (us : List Value) (i : Nat) (h : Heap) : Prop :=
  it ≠ pool ∧ h.get? pool = some (tupO us) ∧ i ≤ (ixs r us.length).length ∧
  ((us.length < r ∧ ∃ last ix, h.get? it = some (recOf pool 2 last ix)) ∨
   (r ≤ us.length ∧ ∃ last, (i = 0 ∧ h.get? it = some (recOf pool 0 last (List.range r))) ∨ ∃ j c, i = j + 1 ∧ (ixs r us.length)[j]? = some c ∧ h.get? it = some (recOf pool 1 last c)))
theorem pick_vals : ∀ (ix : List Nat) {xs : List V} {us : List Value}, Vals xs us → (∀ i ∈ ix, i < us.length) → Vals (ix.map fun i => xs.getD i .non) (ix.map fun i => us.getD i .none)
  | [], _, _, _, _ => .nil
  | i :: ix, xs, us, rv, h => by
    have hi := h i (by simp)
    have hl := rv.length
    have hx : xs[i]? = some xs[i] := List.getElem?_eq_getElem (by omega)
    obtain ⟨u, hu, ru⟩ := rv.get hx
    refine .cons ?_ (pick_vals ix rv fun j hj => h j (by simp [hj]))
    show RelV (xs.getD i .non) (us.getD i .none)
    rw [List.getD_eq_getElem?_getD, List.getD_eq_getElem?_getD, hx, hu]
    exact ru
theorem turn_cb {P : Program} {w : World} {K : PySem.W.Frag} {tg : Expr} {it pool : Addr} {r : Nat} {xs : List V} {us : List Value} (rv : Vals xs us) (hr : r ≤ 1000) :
    Turn P w K tg (ItC (cmb r xs)) [it, pool] it (StC it pool r us) where
  mem := by simp
  obj := fun i h st b hb => by
    obtain ⟨_, hp, _, st⟩ := st
    have e : b = it ∨ b = pool := by simpa using hb
    rcases e with rfl | rfl
    · rcases st with ⟨_, l, ix, e⟩ | ⟨_, l, ⟨_, e⟩ | ⟨j, c, _, _, e⟩⟩
      · exact ⟨_, e, fun v z => nomatch z⟩
      · exact ⟨_, e, fun v z => nomatch z⟩
      · exact ⟨_, e, fun v z => nomatch z⟩
    · exact ⟨_, hp, fun v z => nomatch z⟩
  keep := fun i h h' st k => by
    obtain ⟨h0, hp, h1, st⟩ := st
    refine ⟨h0, k pool (by simp) _ hp, h1, ?_⟩
    rcases st with ⟨q, l, ix, e⟩ | ⟨q, l, ⟨z, e⟩ | ⟨j, c, z, z2, e⟩⟩
    · exact .inl ⟨q, l, ix, k it (by simp) _ e⟩
    · exact .inr ⟨q, l, .inl ⟨z, k it (by simp) _ e⟩⟩
    · exact .inr ⟨q, l, .inr ⟨j, c, z, z2, k it (by simp) _ e⟩⟩
  item := by
    intro X hP hw hK hc i pins s σ H E I hf st hg
    subst hP hw hK
    obtain ⟨h0, hp, h1, st⟩ := st
    have hl := rv.length
    have ei := ixs_items V.non r xs
    rw [hl] at ei
    have el : (cmb r xs).length = (ixs r us.length).length := by rw [← ei, List.length_map]
    have hg' : i < (ixs r us.length).length := by
      have hg' : i < (cmb r xs).length := hg
      omega
    obtain ⟨c, hci⟩ : ∃ c, (ixs r us.length)[i]? = some c := ⟨_, List.getElem?_eq_getElem hg'⟩
    have cm := List.mem_of_getElem? hci
    have cl : c.length = r := cmb_len _ _ _ cm
    have clt := ixs_lt cm
    have hxs : (cmb r xs)[i]? = some (c.map fun i => xs.getD i .non) := by rw [← ei, List.getElem?_map, hci]; rfl
    have hlt : ∀ b ∈ [it, pool], b < s.heap.objs.size := fun b hb => by
      have e : b = it ∨ b = pool := by simpa using hb
      rcases e with rfl | rfl
      · rcases st with ⟨_, l, ix, e⟩ | ⟨_, l, ⟨_, e⟩ | ⟨j, c, _, _, e⟩⟩ <;> exact Heap.lt_size e
      · exact Heap.lt_size hp
    have fin : ∀ h' : Heap, (∃ last, h'.get? it = some (recOf pool 1 last c)) → h'.get? s.heap.objs.size = some (tupO (c.map fun i => us.getD i .none)) → (∀ b o, b ≠ it → s.heap.get? b = some o → h'.get? b = some o) →
        ∃ u, some (Value.ref s.heap.objs.size) = some u ∧ wpAny (model X.prog X.w) X.A (letOwnedTupleGo tg (.ref it) u) (fun _ s2 => ∃ x H', Inv X pins σ H' s2 ∧ RelV x u ∧ (ItC (cmb r xs)).yld i H x H' ∧ StC it pool r us (i + 1) s2.heap ∧ ∀ b ∈ [it, pool], H' b = none) E { s with heap := h' } := by
      intro h' ⟨last, q1⟩ q2 q3
      refine ⟨_, rfl, go_of (s := { s with heap := h' }) (n := CT) q1 rfl rfl (by decide) ?_⟩
      have new : ObjOk X.prog X.w (upd H s.heap.objs.size (.frz (tupO (c.map fun i => us.getD i .none)) (.tup (c.map fun i => xs.getD i .non)))) h' s.heap.objs.size (.frz (tupO (c.map fun i => us.getD i .none)) (.tup (c.map fun i => xs.getD i .non))) :=
        ⟨q2, by rw [List.length_map, cl, sizeLine_eq]; omega, c.map fun i => us.getD i .none, pick_vals c rv clt, ⟨_, q2, rfl, _, rfl⟩⟩
      have I1 : Inv X pins σ (upd H s.heap.objs.size (.frz (tupO (c.map fun i => us.getD i .none)) (.tup (c.map fun i => xs.getD i .non)))) { s with heap := h' } :=
        I.turnedNew (t' := s.toks) (ch := [it, pool]) (fun b o hb q => q3 b o (fun z => hb (by simp [z])) q) hf (Nat.le_refl _) new
      refine ⟨.ref s.heap.objs.size, _, I1, rfl, ⟨_, _, _, rfl, I.hok.fresh (Nat.le_refl _), rfl, rfl, rfl, hxs⟩, ⟨h0, q3 _ _ (Ne.symm h0) hp, hg', .inr ⟨?_, last, .inr ⟨i, c, rfl, hci, q1⟩⟩⟩, fun b hb => ?_⟩
      · refine Nat.le_of_not_lt fun z => ?_
        rw [ixs_none z] at hg'; cases hg'
      · rw [upd_ne (Nat.ne_of_lt (hlt b hb))]
        exact (hf b hb).1
    rcases st with ⟨q, _⟩ | ⟨q, last, ⟨z, e⟩ | ⟨j, d, z, z2, e⟩⟩
    · rw [ixs_none q] at hg'; cases hg'
    · subst z
      have hc0 : c = List.range r := by
        have := ixs_first q
        rw [hci] at this
        exact Option.some.inj this
      subst hc0
      exact next_first e hp h0 (by rw [List.length_range]; omega) fun h' q1 q2 q3 => fin h' ⟨_, q1⟩ q2 q3
    · subst z
      have hn := ixs_next z2
      rw [hci] at hn
      exact next_step e hp h0 hn (by omega) fun h' q1 q2 q3 => fin h' ⟨_, q1⟩ q2 q3
  done := by
    intro X hP hw hK hc i pins s σ H E I hf st hg
    subst hP hw hK
    obtain ⟨h0, hp, h1, st⟩ := st
    have hl := rv.length
    have ei := ixs_items V.non r xs
    rw [hl] at ei
    have el : (cmb r xs).length = (ixs r us.length).length := by rw [← ei, List.length_map]
    have hg' : (ixs r us.length).length ≤ i := by
      have hg' : (cmb r xs).length ≤ i := hg
      omega
    have fin : ∀ h' : Heap, (∀ b o, b ≠ it → s.heap.get? b = some o → h'.get? b = some o) → (none : Option Value) = none ∧ Inv X pins σ H { s with heap := h' } := fun h' k =>
      ⟨rfl, I.turnedL (t' := s.toks) (ch := [it, pool]) (fun b o hb q => k b o (fun z => hb (by simp [z])) q) hf⟩
    rcases st with ⟨q, l, ix, e⟩ | ⟨q, last, ⟨z, e⟩ | ⟨j, d, z, z2, e⟩⟩
    · exact next_over (I.ok.hd hc) e fun h' k => fin h' k
    · subst z
      have := ixs_first q
      rw [List.getElem?_eq_none hg'] at this; cases this
    · subst z
      have hn := ixs_next z2
      rw [List.getElem?_eq_none hg'] at hn
      exact next_stop (I.ok.hd hc) e hp hn fun h' k => fin h' k
  self := fun A i s Q E st h => by
    obtain ⟨h0, hp, h1, st⟩ := st
    rcases st with ⟨q, l, ix, e⟩ | ⟨q, last, ⟨z, e⟩ | ⟨j, d, z, z2, e⟩⟩
    · exact iter_cb e h
    · exact iter_cb e h
    · exact iter_cb e h
/-! ### the rules -/
section
variable {X : Cx} {tg : Expr}
theorem laid_cb {pins : List (Addr × Obj)} {σ : L2.St} {H : Hp} {s : Shared} {R : It → Hp → Prop} {h' : Heap} {tk : Nat} {us : List Value} {xs : List V} {r : Nat} (I : Inv X pins σ H s) (k : ∀ b o, s.heap.get? b = some o → h'.get? b = some o) (rv : Vals xs us) (hr : r ≤ 1000) (q : R (ItC (cmb r xs)) H) :
    wpAny (model X.prog X.w) X.A (pyIter (.ref (h'.objs.size + 1))) (PIE X pins σ tg R) X.xe { s with heap := (h'.push (tupO us)).push (recOf h'.objs.size (if r > us.length then 2 else 0) .none (List.range r)), toks := tk } := by
  have e1 : ((h'.push (tupO us)).objs.size) = h'.objs.size + 1 := by simp [Heap.push]
  have hit : ((h'.push (tupO us)).push (recOf h'.objs.size (if r > us.length then 2 else 0) .none (List.range r))).get? (h'.objs.size + 1) = some (recOf h'.objs.size (if r > us.length then 2 else 0) .none (List.range r)) := by
    rw [← e1]; exact Heap.get?_push_size _ rfl
  have hpo : ((h'.push (tupO us)).push (recOf h'.objs.size (if r > us.length then 2 else 0) .none (List.range r))).get? h'.objs.size = some (tupO us) := Heap.get?_push_of_some _ (Heap.get?_push_size _ rfl)
  have hit2 : ∀ zz : Int, (if r > us.length then (2 : Int) else 0) = zz → ((h'.push (tupO us)).push (recOf h'.objs.size (if r > us.length then 2 else 0) .none (List.range r))).get? (h'.objs.size + 1) = some (recOf h'.objs.size zz .none (List.range r)) := fun zz e => by
    rw [hit, e]
  have I1 : Inv X pins σ H { s with heap := h', toks := tk } := I.kept k
  have I2 : Inv X pins σ H { s with heap := (h'.push (tupO us)).push (recOf h'.objs.size (if r > us.length then 2 else 0) .none (List.range r)), toks := tk } := I1.kept (t' := tk) fun b o e => Heap.get?_push_of_some _ (Heap.get?_push_of_some _ e)
  refine iter_cb hit ?_
  refine ⟨h'.objs.size + 1, [h'.objs.size + 1, h'.objs.size], _, _, H, rfl, I2, turn_cb rv hr, ⟨Nat.succ_ne_self _, hpo, Nat.zero_le _, ?_⟩, fun c hc => ?_, q⟩
  · by_cases z : r > us.length
    · exact .inl ⟨z, _, _, hit2 _ (if_pos z)⟩
    · exact .inr ⟨by omega, _, .inl ⟨rfl, hit2 _ (if_neg z)⟩⟩
  · have e : c = h'.objs.size + 1 ∨ c = h'.objs.size := by simpa using hc
    have hle : h'.objs.size ≤ c := by
      rcases e with z | z
      · rw [z]; exact Nat.le_succ _
      · rw [z]; exact Nat.le_refl _
    exact I1.fpOk hle (I1.hok.fresh hle)
/-- combinations(range(a), b) -/
def iCbR (te : L2.St → Hp → (Int → Int → Hp → Prop) → Prop) (tb : TE) : TI := fun σ H R => te σ H fun a b H1 => RgOk a b ∧ (b - a).toNat ≤ 1000 ∧ tb σ H1 fun y H2 => ∃ r : Nat, y = .int (r : Nat) ∧ r ≤ 1000 ∧ R (ItC (cmb r (rgV a b))) H2
def iCb (K : PySem.W.Frag) (ta tb : TE) : TI := fun σ H R => ta σ H fun x H1 => tb σ H1 fun y H2 => ∃ (r : Nat) (a : Addr) (xs : List V), x = .ref a ∧ (SqL K H2 a xs ∨ SqT K H2 a xs) ∧ xs.length ≤ 1000 ∧ y = .int (r : Nat) ∧ r ≤ 1000 ∧ R (ItC (cmb r xs)) H2
theorem pi_cb {x : Str} {e b : Expr} {ta tb : TE} {p pos : Pos} (hg : Gl X x) (hm : X.mg x = some (.type CT)) (ha : PE X e ta) (hb : PE X b tb) (hd : (x == ("__debug__" : Str)) = false := by decide)
    (na : starEach [e, b] X.env = (false, eval e X.env) :: starEach [b] X.env := by rfl) (nb : starEach [b] X.env = (false, eval b X.env) :: starEach [] X.env := by rfl) (hpl : (backTo pos (starEach [b] X.env)).any (·.1) = false := by rfl) :
    PI X tg (.Call (.Name x p) [e, b] [] pos) (iCb X.K ta tb) := by
  refine ⟨fun pins s σ H R I h => ?_⟩
  refine Call_ (ld_glob I hg hm (PyProof.Rows.callWith_type1 (args_cons (thn (ha.run pins s σ H _ I h) fun v s1 ⟨y, H1, I1, r1, q1⟩ => one_arg hb I1 q1 (fun u s2 z H2 I2 r2 q => ?_) nb) na) na hpl) hd)
  obtain ⟨r, a, xs, rfl, hq, hz, rfl, hr, q⟩ := q
  cases r1
  obtain ⟨t, rfl⟩ := r2
  rcases hq with hq | hq
  · obtain ⟨its, rv, p', hz2⟩ := I2.list hq
    have hl := rv.length
    obtain ⟨o, ho, hc, n, hdt⟩ := p'.isList
    refine call_cb (P := fun us => us = its) hr (fun us e => by rw [e]; omega) (fun Q E hQ => ?_) fun h' tk us e k => ?_
    · exact wpAny_collect_seq a (.inl rfl) ho hc hdt (fun h' k => by simpa using hQ h' s2.toks its rfl k) (by rw [List.size_toArray, sizeLine_eq]; omega)
    · subst e
      exact laid_cb I2 k rv hr q
  · obtain ⟨its, rv, p', hz2⟩ := I2.tuple hq
    have hl := rv.length
    obtain ⟨o, ho, hc, n, hdt⟩ := p'
    refine call_cb (P := fun us => us = its) hr (fun us e => by rw [e]; omega) (fun Q E hQ => ?_) fun h' tk us e k => ?_
    · exact wpAny_collect_seq a (.inr rfl) ho hc hdt (fun h' k => by simpa using hQ h' s2.toks its rfl k) (by rw [List.size_toArray, sizeLine_eq]; omega)
    · subst e
      exact laid_cb I2 k rv hr q
/-- an expression that makes a new range -/
def PRf (X : Cx) (e : Expr) (t : L2.St → Hp → (Int → Int → Hp → Prop) → Prop) : Prop :=
  ∀ (pins : List (Addr × Obj)) (s : Shared) (σ : L2.St) (H : Hp) (Q : Int → Int → Hp → Prop), Inv X pins σ H s → t σ H Q →
    wpAny (model X.prog X.w) X.A (eval e X.env) (fun x s' => ∃ r a b t u v H', x = .ref r ∧ IsRange s'.heap r a b 1 t u v ∧ Inv X pins σ H' s' ∧ FpOk X pins H' r ∧ Q a b H') X.xe s
theorem prf_1 {a : Expr} {ta : TE} {p pos : Pos} (hg : Gl X "range") (hm : X.mg "range" = none) (ha : PE X a ta) (na : starEach [a] X.env = (false, eval a X.env) :: starEach [] X.env := by rfl) : PRf X (.Call (.Name "range" p) [a] [] pos) (tRg1 ta) := by
  intro pins s σ H Q I h
  refine Call_ (ld_blt I hg hm boot_range (PyProof.Rows.callWith_type1 (one_arg ha I h (fun v s2 x H2 I2 r q => ?_) na) na))
  obtain ⟨n, rfl, q⟩ := q
  obtain ⟨t, rfl⟩ := r
  exact call_range_1 ⟨_, 0, n, _, _, _, H2, rfl, IsRange.new _ _ _ _ _ _ _, I2.kept fun b u e => Heap.get?_push_of_some _ e, I2.fpOk (Nat.le_refl _) (I2.hok.fresh (Nat.le_refl _)), q⟩
theorem pi_cbR {x : Str} {e b : Expr} {te : L2.St → Hp → (Int → Int → Hp → Prop) → Prop} {tb : TE} {p pos : Pos} (hg : Gl X x) (hm : X.mg x = some (.type CT)) (ha : PRf X e te) (hb : PE X b tb) (hc0 : X.calm = true) (hd : (x == ("__debug__" : Str)) = false := by decide)
    (na : starEach [e, b] X.env = (false, eval e X.env) :: starEach [b] X.env := by rfl) (nb : starEach [b] X.env = (false, eval b X.env) :: starEach [] X.env := by rfl) (hpl : (backTo pos (starEach [b] X.env)).any (·.1) = false := by rfl) :
    PI X tg (.Call (.Name x p) [e, b] [] pos) (iCbR te tb) := by
  refine ⟨fun pins s σ H R I h => ?_⟩
  refine Call_ (ld_glob I hg hm (PyProof.Rows.callWith_type1 (args_cons (thn (ha pins s σ H _ I h) fun v s1 ⟨rg, a, c, t, u, v', H1, ex, hr0, I1, hf, ok, hz, q1⟩ => ?_) na) na hpl) hd)
  subst ex
  have I1p := I1.pinned (fp := [rg]) (fun b hb => by
    have e : b = rg := by simpa using hb
    rw [e]; exact hf) (fun b hb => by
    have e : b = rg := by simpa using hb
    rw [e]; exact ⟨_, hr0, fun v z => nomatch z⟩)
  refine one_arg hb I1p q1 (fun u2 s2 z H2 I2 r2 q => ?_) nb
  have hr2 : IsRange s2.heap rg a c 1 t u v' := (I2.pin (rg, _) (List.mem_append_right _ (List.mem_append_right _ (mem_pinsAt (by simp) hr0)))).1
  have I3 := I2.unpinned
  obtain ⟨r, rfl, hr, q⟩ := q
  obtain ⟨t2, rfl⟩ := r2
  obtain ⟨b1, b2, b3, b4, b5⟩ := ok
  refine call_cb (P := fun us => Vals (rgV a c) us) hr (fun us e => by rw [← e.length, rgV_length]; exact hz) (fun Q E hQ => ?_) fun h' tk us e k => ?_
  · exact collect_range (n := (c - a).toNat) (I3.ok.hd hc0) hr2 (small_one b1 b2 b3 b4) (rangeSize_nat a c) b5 fun h' tk acc hk hi => hQ h' tk _ (vals_rg hi) hk
  · exact laid_cb I3 k e hr q
end
end Cb

set_option Elab.async false
set_option linter.all false
set_option maxRecDepth 100000
namespace Pv
open PySem PySem.Spec L2
open PyProof.Rows hiding St
section
variable {X : Cx} {W : WX} {cm : CM}
/-! ### range(a, b, -1) -/
def dnP (hi : Int) (n : Nat) : List PV := (List.range n).map fun i => .int (hi - (i : Nat))
def mRng3 (m : M (List PV)) : M (List PV) := bnd m fun ps => match ps with
  | [.int i, .int j, .int c] => if decide (c = -1) && (okR i && okR j) then ret (dnP i (i - j).toNat) else bad
  | _ => bad
theorem itc_ok {K : Fr} {F : FS} {H : Hp} {lo : Int} {n : Nat} : ItOk K F H (Itc lo (-1) n) (dnP lo n) := fun i F2 H2 s k => by
  unfold dnP
  refine ⟨fun e => by rw [List.length_map, List.length_range] at e; exact Nat.le_of_eq e.symm, fun p hp => ?_⟩
  have hi : i < n := by
    have := (List.getElem?_eq_some_iff.mp hp).1
    rwa [List.length_map, List.length_range] at this
  refine ⟨hi, fun x H3 y => ?_⟩
  obtain ⟨rfl, rfl⟩ := y
  rw [List.getElem?_map, List.getElem?_range hi] at hp
  cases hp
  have e : lo + ((i : Nat) : Int) * (-1) = lo - (i : Nat) := by omega
  rw [e]
  exact ⟨Same.refl _, rep_int⟩
theorem three {K : Fr} {F : FS} {H : Hp} {vs : List V} {p q r : PV} (h : RepTL K F H vs [p, q, r]) : ∃ v w u, vs = [v, w, u] ∧ RepT K F H v p ∧ RepT K F H w q ∧ RepT K F H u r := by
  cases vs with
  | nil => exact h.elim
  | cons v vs =>
    obtain ⟨w, u, rfl, h2, h3⟩ := RepTL.two h.2
    exact ⟨v, w, u, rfl, h.1, h2, h3⟩
theorem i_range3 {tg a b c : Expr} {m : M (List PV)} {p pos : Pos} (hm : X.mg "range" = none) (s : SK X W cm [a, b, c] m) (hg : Gl X "range" := by rfl) (hs : starEach [a, b, c] X.env = (false, eval a X.env) :: starEach [b, c] X.env := by rfl) (hpl : (backTo pos (starEach [b, c] X.env)).any (·.1) = false := by rfl) : SI X W cm tg (.Call (.Name "range" p) [a, b, c] [] pos) (mRng3 m) := ⟨_, pi_range3 hg hm sA_pa hs hpl, fun {F H0 H ev σ R} r h => by
  refine s.go r (h.bnd.mono fun ps ev1 F1 H1 a1 hh vs rs => ?_)
  have h2 := hh.2
  split at h2
  · rename_i i j c
    obtain ⟨v, w, u, rfl, rv, rw', ru⟩ := three rs
    have e0 : v = .int i := rv
    have e1 : w = .int j := rw'
    have e2 : u = .int c := ru
    subst e0 e1 e2
    split at h2
    · rename_i c
      rw [Bool.and_eq_true, Bool.and_eq_true] at c
      unfold okR at c
      have c0 := of_decide_eq_true c.1
      have c1 := of_decide_eq_true c.2.1
      have c2 := of_decide_eq_true c.2.2
      subst c0
      exact ⟨i, j, -1, _, rfl, RgC.neg c1.1 c1.2 c2.1 c2.2, Wt.ret (P := fun ps ev' F' H' => ∀ J F2, Aft X.K F H0 ev ev' σ H F2 H' → (∀ a, F' a → F2 a) → ItOk X.K F2 H' J ps → R J H') a1.er h2 _ F1 a1 (fun _ h => h) itc_ok⟩
    · exact h2.elim
  · exact h2.elim⟩
/-! ### combinations -/
theorem cmb_rep {K : Fr} {F : FS} {H : Hp} : ∀ (r : Nat) (ps : List PV) {xs : List V}, RepL K F H xs ps → (Cb.cmb r xs).length = (Cb.cmb r ps).length ∧ ∀ (i : Nat) (qs : List PV), (Cb.cmb r ps)[i]? = some qs → ∃ ys, (Cb.cmb r xs)[i]? = some ys ∧ RepL K F H ys qs
  | 0, ps, xs, h => by
    have e1 : Cb.cmb 0 ps = [[]] := by cases ps <;> rfl
    have e2 : Cb.cmb 0 xs = [[]] := by cases xs <;> rfl
    rw [e1, e2]
    refine ⟨rfl, fun i qs hq => ?_⟩
    cases i with
    | zero => cases hq; exact ⟨[], rfl, RepL.nil⟩
    | succ i => simp at hq
  | r + 1, [], xs, h => by
    rw [RepL.nil_inv h]
    exact ⟨rfl, fun i qs hq => by cases hq⟩
  | r + 1, p :: ps, xs, h => by
    unfold RepL at h
    obtain ⟨x, t, rfl, h1, h2⟩ := h
    obtain ⟨l1, g1⟩ := cmb_rep r ps h2
    obtain ⟨l2, g2⟩ := cmb_rep (r + 1) ps h2
    have e1 : Cb.cmb (r + 1) (p :: ps) = (Cb.cmb r ps).map (fun c => p :: c) ++ Cb.cmb (r + 1) ps := rfl
    have e2 : Cb.cmb (r + 1) (x :: t) = (Cb.cmb r t).map (fun c => x :: c) ++ Cb.cmb (r + 1) t := rfl
    rw [e1, e2]
    refine ⟨by rw [List.length_append, List.length_append, List.length_map, List.length_map, l1, l2], fun i qs hq => ?_⟩
    by_cases hi : i < (Cb.cmb r ps).length
    · rw [List.getElem?_append_left (by rw [List.length_map]; exact hi), List.getElem?_map] at hq
      obtain ⟨c, hc, rfl⟩ := Option.map_eq_some_iff.mp hq
      obtain ⟨ys, hy, ry⟩ := g1 i c hc
      refine ⟨x :: ys, ?_, RepL.cons h1 ry⟩
      rw [List.getElem?_append_left (by rw [List.length_map, l1]; exact hi), List.getElem?_map, hy]
      rfl
    · rw [List.getElem?_append_right (by rw [List.length_map]; omega), List.length_map] at hq
      obtain ⟨ys, hy, ry⟩ := g2 _ qs hq
      refine ⟨ys, ?_, ry⟩
      rw [List.getElem?_append_right (by rw [List.length_map, l1]; omega), List.length_map, l1]
      exact hy
theorem itC_ok {K : Fr} {F : FS} {H : Hp} {r : Nat} {xs : List V} {ps : List PV} (rx : RepL K F H xs ps) : ItOk K F H (Cb.ItC (Cb.cmb r xs)) ((Cb.cmb r ps).map .tup) := fun i F2 H2 s k => by
  obtain ⟨l1, g1⟩ := cmb_rep r ps rx
  refine ⟨fun e => by rw [List.length_map] at e; show (Cb.cmb r xs).length ≤ i; omega, fun p hp => ?_⟩
  rw [List.getElem?_map] at hp
  obtain ⟨qs, hq, rfl⟩ := Option.map_eq_some_iff.mp hp
  obtain ⟨ys, hy, ry⟩ := g1 i qs hq
  refine ⟨(List.getElem?_eq_some_iff.mp hy).1, fun x H3 y => ?_⟩
  obtain ⟨T, o, zs, rfl, hT, rfl, q1, q2, q3⟩ := y
  rw [hy] at q3
  cases q3
  have sm : Same H2 (upd H2 T (.frz o (.tup ys))) := same_upd hT
  refine ⟨sm, ?_⟩
  unfold Rep
  exact ⟨T, ys, rfl, .inl ⟨o, upd_same, q1, q2⟩, RepL.mono (Keep.of sm) (fun _ z => z) qs (RepL.mono k s qs ry)⟩
def seqP : PV → Option (List PV)
  | .lst ps => some ps
  | .tup ps => some ps
  | _ => none
def mComb (m k : M PV) : M (List PV) := bnd m fun p => bnd k fun z => match seqP p, z with
  | some ps, .int j => if decide (0 ≤ j ∧ j ≤ 1000 ∧ ps.length ≤ 1000) then ret ((Cb.cmb j.toNat ps).map .tup) else bad
  | _, _ => bad
theorem i_comb {tg e b : Expr} {x : Str} {m k : M PV} {p pos : Pos} (hm : X.mg x = some (.type "itertools.combinations")) (s : Pv.SP X W cm e m) (s2 : Pv.SP X W cm b k) (hg : Gl X x := by rfl) (hd : (x == ("__debug__" : Str)) = false := by decide)
    (na : starEach [e, b] X.env = (false, eval e X.env) :: starEach [b] X.env := by rfl) (nb : starEach [b] X.env = (false, eval b X.env) :: starEach [] X.env := by rfl) (hpl : (backTo pos (starEach [b] X.env)).any (·.1) = false := by rfl) : SI X W cm tg (.Call (.Name x p) [e, b] [] pos) (mComb m k) := ⟨_, Cb.pi_cb hg hm sE_pe sE_pe hd na nb hpl, fun {F H0 H ev σ R} r h => by
  refine s.go r (h.bnd.mono fun q ev1 F1 H1 a1 hh v rv => ?_)
  refine s2.go a1.er (hh.2.bnd.mono fun q2 ev2 F2 H2 a2 hh2 w rw' => ?_)
  have h2 := hh2.2
  have rv2 := rv.mono a2.same a2.sub
  split at h2
  rotate_left
  · exact h2.elim
  rename_i ps j hs
  have e1 : w = .int j := rw'
  subst e1
  split at h2
  rotate_left
  · exact h2.elim
  rename_i c
  have c' := of_decide_eq_true c
  have fin : ∀ xs, RepL X.K F2 H2 xs ps → R (Cb.ItC (Cb.cmb j.toNat xs)) H2 := fun xs rx =>
    Wt.ret (P := fun ps ev' F' H' => ∀ J F3, Aft X.K F H0 ev ev' σ H F3 H' → (∀ a, F' a → F3 a) → ItOk X.K F3 H' J ps → R J H') a2.er h2 _ F2 (a1.trans a2) (fun _ h => h) (itC_ok rx)
  cases q with
  | lst qs =>
    cases hs
    obtain ⟨a, xs, rfl, hx, rl⟩ := rv2
    have hl := rl.length
    exact ⟨j.toNat, a, xs, rfl, .inl (SqL.of hx), by omega, by rw [Int.toNat_of_nonneg c'.1], by omega, fin xs rl⟩
  | tup qs =>
    cases hs
    unfold RepT Rep at rv2
    obtain ⟨a, xs, rfl, hx, rl⟩ := rv2
    have hl := rl.length
    exact ⟨j.toNat, a, xs, rfl, .inr hx.sqT, by omega, by rw [Int.toNat_of_nonneg c'.1], by omega, fin xs rl⟩
  | _ => cases hs⟩
/-- combinations(range(a), b) -/
def mCombR (m k : M PV) : M (List PV) := bnd m fun p => match p with
  | .int i => if okRg (0, i) && decide (i.toNat ≤ 1000) then bnd k fun z => match z with
    | .int j => if decide (0 ≤ j ∧ j ≤ 1000) then ret ((Cb.cmb j.toNat (rgP 0 i.toNat)).map .tup) else bad
    | _ => bad
    else bad
  | _ => bad
theorem i_combR {tg a b : Expr} {x : Str} {m k : M PV} {p p2 pos pos2 : Pos} (hm : X.mg x = some (.type "itertools.combinations")) (hm2 : X.mg "range" = none) (hc : X.calm = true) (s : Pv.SP X W cm a m) (s2 : Pv.SP X W cm b k) (hg : Gl X x := by rfl) (hg2 : Gl X "range" := by rfl) (hd : (x == ("__debug__" : Str)) = false := by decide)
    (nr : starEach [a] X.env = (false, eval a X.env) :: starEach [] X.env := by rfl)
    (na : starEach [Expr.Call (.Name "range" p2) [a] [] pos2, b] X.env = (false, eval (Expr.Call (.Name "range" p2) [a] [] pos2) X.env) :: starEach [b] X.env := by rfl) (nb : starEach [b] X.env = (false, eval b X.env) :: starEach [] X.env := by rfl) (hpl : (backTo pos (starEach [b] X.env)).any (·.1) = false := by rfl) : SI X W cm tg (.Call (.Name x p) [.Call (.Name "range" p2) [a] [] pos2, b] [] pos) (mCombR m k) := ⟨_, Cb.pi_cbR hg hm (Cb.prf_1 hg2 hm2 sE_pe nr) sE_pe hc hd na nb hpl, fun {F H0 H ev σ R} r h => by
  refine s.go r (h.bnd.mono fun q ev1 F1 H1 a1 hh v rv => ?_)
  have h1 := hh.2
  split at h1
  rotate_left
  · exact h1.elim
  rename_i i
  have e1 : v = .int i := rv
  subst e1
  split at h1
  rotate_left
  · exact h1.elim
  rename_i c
  rw [Bool.and_eq_true] at c
  have c2 := of_decide_eq_true c.2
  refine ⟨i, rfl, okRg_ok c.1, by show (i - 0).toNat ≤ 1000; omega, ?_⟩
  refine s2.go a1.er (h1.bnd.mono fun q2 ev2 F2 H2 a2 hh2 w rw' => ?_)
  have h2 := hh2.2
  split at h2
  rotate_left
  · exact h2.elim
  rename_i j
  have e1 : w = .int j := rw'
  subst e1
  split at h2
  rotate_left
  · exact h2.elim
  rename_i c
  have c' := of_decide_eq_true c
  have rx : RepL X.K F2 H2 (rgV 0 i) (rgP 0 i.toNat) := by
    have := rgV_rep (K := X.K) (F := F2) (H := H2) 0 i
    rwa [Int.sub_zero] at this
  exact ⟨j.toNat, by rw [Int.toNat_of_nonneg c'.1], by omega, Wt.ret (P := fun ps ev' F' H' => ∀ J F3, Aft X.K F H0 ev ev' σ H F3 H' → (∀ a, F' a → F3 a) → ItOk X.K F3 H' J ps → R J H') a2.er h2 _ F2 (a1.trans a2) (fun _ h => h) (itC_ok rx)⟩⟩
end
def mgIsT (K : Fr) (x : Str) (v : Value) : Bool := decide (PySem.W.nsIn K mainGlobals x = some (some v))
end Pv

set_option Elab.async false
set_option linter.all false
set_option maxRecDepth 100000
namespace Pv
open PySem PySem.Spec L2
open PyProof.Rows hiding St
/-! ### comprehensions and loops over any items -/
section
variable {α : Type}
theorem compr_gen {v : Nat} {mt : M Bool} {me : M RV} {e : α → PV} {c : α → Bool} {g : α → PV} {ev : SL} (h : ev[v]? = some .no) : ∀ (l : List α) (acc : List PV), (∀ a ∈ l, mt (ev.set v (.val (e a))) = .ok (c a) (ev.set v (.val (e a)))) → (∀ a ∈ l, c a = true → ∃ fr, me (ev.set v (.val (e a))) = .ok (g a, fr) (ev.set v (.val (e a)))) → acc.length + l.length ≤ 16777216 →
    compr (tName v) mt me [v] acc (l.map e) ev = .ok (acc ++ (l.filter c).map g) ev
  | [], acc, _, _, _ => by rw [List.map_nil, compr]; simp
  | a :: l, acc, h1, h2, hz => by
    rw [List.length_cons] at hz
    have hl : v < ev.length := (List.getElem?_eq_some_iff.mp h).1
    have e1 := h1 a (by simp)
    rw [List.map_cons, compr]
    cases hc : c a with
    | false =>
      rw [hc] at e1
      have e2 : turn (tName v) mt me (e a) ev = .ok none (ev.set v (.val (e a))) := by
        unfold turn
        simp [hl, e1]
      simp only [e2]
      rw [wipe_one h, compr_gen h l acc (fun b hb => h1 b (by simp [hb])) (fun b hb => h2 b (by simp [hb])) (by omega), List.filter_cons, hc]
      simp
    | true =>
      rw [hc] at e1
      obtain ⟨fr, e3⟩ := h2 a (by simp) hc
      have e2 : turn (tName v) mt me (e a) ev = .ok (some (g a)) (ev.set v (.val (e a))) := by
        unfold turn
        simp [hl, e1, e3]
      simp only [e2]
      rw [if_pos (by rw [SZ]; omega), wipe_one h, compr_gen h l (acc ++ [g a]) (fun b hb => h1 b (by simp [hb])) (fun b hb => h2 b (by simp [hb])) (by rw [List.length_append, List.length_singleton]; omega), List.filter_cons, hc]
      simp
theorem wipe_no {ev : SL} {v : Nat} (h : ev[v]? = some .no) : wipeE ev [v] = ev := by
  have := wipe_one (s := .no) h
  have e : ev.set v .no = ev := by
    apply List.ext_getElem?
    intro i
    by_cases hi : v = i
    · subst hi; rw [List.getElem?_set_self (List.getElem?_eq_some_iff.mp h).1, h]
    · rw [List.getElem?_set_ne hi]
  rw [e] at this
  exact this
theorem back_no {ev ev1 : SL} {v : Nat} (h : ev[v]? = some .no) (h1 : ev1[v]? = some .no) : back ev ev1 [v] = ev1 := by
  unfold back back
  rw [h]
  apply List.ext_getElem?
  intro i
  by_cases hi : v = i
  · subst hi; rw [List.getElem?_set_self (List.getElem?_eq_some_iff.mp h1).1, h1]
  · rw [List.getElem?_set_ne hi]
/-- [g(a) for a in l if c(a)] -/
theorem comp_gen {v : Nat} {mi : M (List PV)} {mt : M Bool} {me : M RV} {e : α → PV} {c : α → Bool} {g : α → PV} {ev ev1 : SL} {l : List α} (hi : mi ev = .ok (l.map e) ev1) (h : ev1[v]? = some .no) (h1 : ∀ a ∈ l, mt (ev1.set v (.val (e a))) = .ok (c a) (ev1.set v (.val (e a)))) (h2 : ∀ a ∈ l, c a = true → ∃ fr, me (ev1.set v (.val (e a))) = .ok (g a, fr) (ev1.set v (.val (e a)))) (hz : l.length ≤ 16777216) :
    mComp mi (tName v) mt me [v] ev = .ok (.lst ((l.filter c).map g), true) ev1 := by
  have hc := compr_gen (mt := mt) (me := me) (e := e) (c := c) (g := g) h l [] h1 h2 (by simpa using hz)
  rw [List.nil_append] at hc
  have := comp_ok (mi := mi) (t := tName v) (mt := mt) (me := me) (vs := [v]) hi (by rw [wipe_no h]; exact hc)
  rw [back_no h h] at this
  exact this
/-- [g(a) for a in l] -/
theorem comp_map {v : Nat} {mi : M (List PV)} {me : M RV} {e : α → PV} {g : α → PV} {ev ev1 : SL} {l : List α} (hi : mi ev = .ok (l.map e) ev1) (h : ev1[v]? = some .no) (h2 : ∀ a ∈ l, ∃ fr, me (ev1.set v (.val (e a))) = .ok (g a, fr) (ev1.set v (.val (e a)))) (hz : l.length ≤ 16777216) :
    mComp mi (tName v) (ret true) me [v] ev = .ok (.lst (l.map g), true) ev1 := by
  have := comp_gen (mt := ret true) (c := fun _ => true) hi h (fun a _ => rfl) (fun a ha _ => h2 a ha) hz
  rwa [List.filter_eq_self.mpr (fun _ _ => rfl)] at this
/-- a loop that returns at the first item of a kind, else goes through -/
theorem loop_first {v : Nat} {mb : M Fl} {e : α → PV} {P : α → Bool} {r : α → RV} {ev : SL} (hv : v < ev.length) : ∀ (l : List α) (s : Slot), (∀ a ∈ l, if P a = true then ∃ ev', mb (ev.set v (.val (e a))) = .ok (.rt (r a)) ev' else mb (ev.set v (.val (e a))) = .ok .nx (ev.set v (.val (e a)))) →
    (∃ a, l.find? P = some a ∧ ∃ ev', loop (tName v) mb (l.map e) (ev.set v s) = .ok (.rt (r a)) ev') ∨ ((∀ a ∈ l, P a = false) ∧ ∃ s', loop (tName v) mb (l.map e) (ev.set v s) = .ok .nx (ev.set v s'))
  | [], s, _ => .inr ⟨(fun a h => nomatch h), s, rfl⟩
  | a :: l, s, h => by
    have h1 := h a (by simp)
    have et : tName v (e a) (ev.set v s) = some (ev.set v (.val (e a))) := by
      rw [tName_ap, if_pos (by rw [List.length_set]; exact hv), List.set_set]
    rw [List.map_cons]
    cases c : P a with
    | true =>
      rw [if_pos c] at h1
      obtain ⟨ev', e1⟩ := h1
      exact .inl ⟨a, by rw [List.find?_cons, c], ev', loop_rt et e1⟩
    | false =>
      rw [if_neg (by rw [c]; simp)] at h1
      rw [loop_nx et h1]
      rcases loop_first hv l (.val (e a)) (fun b hb => h b (by simp [hb])) with ⟨b, hb, q⟩ | ⟨hb, q⟩
      · exact .inl ⟨b, by rw [List.find?_cons, c]; exact hb, q⟩
      · refine .inr ⟨fun b hb2 => ?_, q⟩
        rcases List.mem_cons.mp hb2 with rfl | hb2
        · exact c
        · exact hb b hb2
/-- a loop over a state -/
theorem loop_state {σ : Type} {v : Nat} {mb : M Fl} {e : α → PV} {S : σ → Slot → SL} {f : σ → α → σ} (hv : ∀ s x, v < (S s x).length) (hs : ∀ s x y, (S s x).set v y = S s y) : ∀ (l : List α) (s : σ) (x : Slot), (∀ a ∈ l, ∀ s, mb (S s (.val (e a))) = .ok .nx (S (f s a) (.val (e a)))) → ∃ x', loop (tName v) mb (l.map e) (S s x) = .ok .nx (S (l.foldl f s) x')
  | [], s, x, _ => ⟨x, rfl⟩
  | a :: l, s, x, h => by
    have et : tName v (e a) (S s x) = some (S s (.val (e a))) := by
      rw [tName_ap, if_pos (hv s x), hs]
    rw [List.map_cons, loop_nx et (h a (by simp) s)]
    exact loop_state hv hs l (f s a) _ (fun b hb => h b (by simp [hb]))
/-- .. with an invariant -/
theorem loop_stateI {σ : Type} {v : Nat} {mb : M Fl} {e : α → PV} {S : σ → Slot → SL} {f : σ → α → σ} {I : Nat → σ → Prop} (hv : ∀ s x, v < (S s x).length) (hs : ∀ s x y, (S s x).set v y = S s y) : ∀ (l : List α) (k : Nat) (s : σ) (x : Slot), I k s → (∀ a ∈ l, ∀ j s, j < k + l.length → I j s → mb (S s (.val (e a))) = .ok .nx (S (f s a) (.val (e a))) ∧ I (j + 1) (f s a)) → ∃ x', loop (tName v) mb (l.map e) (S s x) = .ok .nx (S (l.foldl f s) x') ∧ I (k + l.length) (l.foldl f s)
  | [], k, s, x, hI, _ => ⟨x, rfl, hI⟩
  | a :: l, k, s, x, hI, h => by
    have et : tName v (e a) (S s x) = some (S s (.val (e a))) := by
      rw [tName_ap, if_pos (hv s x), hs]
    obtain ⟨h1, h2⟩ := h a (by simp) k s (by rw [List.length_cons]; omega) hI
    rw [List.map_cons, loop_nx et h1, List.length_cons, show k + (l.length + 1) = k + 1 + l.length by omega]
    exact loop_stateI hv hs l (k + 1) (f s a) _ h2 (fun b hb j s hj => h b (by simp [hb]) j s (by rw [List.length_cons]; omega))
theorem foldl_map {β : Type} (g : α → β) : ∀ (l : List α) (t : List β), l.foldl (fun t i => t ++ [g i]) t = t ++ l.map g
  | [], t => by simp
  | a :: l, t => by rw [List.foldl_cons, foldl_map g l, List.map_cons, List.append_assoc]; rfl
theorem okR_k {i : Int} (h : -100000 ≤ i) (h2 : i ≤ 100000) : okR i = true := by
  unfold okR; exact decide_eq_true (by omega)
@[simp] theorem vNeg_ap {m : M PV} {ev : SL} : vNeg m ev = bnd m (fun p => match p with
  | .int i => ret (.int (-i), false)
  | _ => bad) ev := rfl
theorem rng1_ok {m : M (List PV)} {ev ev' : SL} {i : Int} (h : m ev = .ok [.int i] ev') (hi : okR i = true) : mRng1 m ev = .ok (rgP 0 i.toNat) ev' := by
  unfold mRng1
  rw [bnd_ok h]
  show (if okR i = true then (ret (rgP 0 i.toNat) : M (List PV)) else bad) ev' = _
  rw [if_pos hi]; rfl
theorem rngN_ok {m : M (List PV)} {ev ev' : SL} {n : Nat} (h : m ev = .ok [.int (n : Nat)] ev') (hn : n ≤ 100000) : mRng1 m ev = .ok ((upTo 0 n).map .int) ev' := by
  rw [rng1_ok h (okR_k (by omega) (by omega)), rgP_eq, Int.toNat_natCast]
theorem len_t {i : Nat} {L : List PV} {ev : SL} (h : ev[i]? = some (.val (.tup L))) : kCons (look (eCall gLen (kCons (pVar i) (ret [])))) (ret []) ev = .ok [.int (L.length : Nat)] ev := by
  have e : pVar i ev = .ok (.tup L) ev := by rw [pVar_ap, h]
  have e2 : kCons (pVar i) (ret []) ev = .ok [.tup L] ev := by rw [kCons_ap, bnd_ok e]; rfl
  have e3 : eCall gLen (kCons (pVar i) (ret [])) ev = .ok (.int (L.length : Nat), false) ev := by rw [eCall_ap, bnd_ok e2]; rfl
  have e4 : look (eCall gLen (kCons (pVar i) (ret []))) ev = .ok (.int (L.length : Nat)) ev := by rw [look_ap, bnd_ok e3]; rfl
  rw [kCons_ap, bnd_ok e4]; rfl
theorem appTup_ok {i : Nat} {C : M RV} {A W : List PV} {fr : Bool} {ev : SL} (h : C ev = .ok (.lst W, fr) ev) (he : ev[i]? = some (.own A)) (hz : A.length < 16777216) : mMet i (aCons (eCall gTuple (kCons (look C) (ret []))) (ret [])) gAppend ev = .ok .nx (ev.set i (.own (A ++ [.tup W]))) := by
  have e0 : look C ev = .ok (.lst W) ev := by rw [look_ap, bnd_ok h]; rfl
  have e2 : kCons (look C) (ret []) ev = .ok [.lst W] ev := by rw [kCons_ap, bnd_ok e0]; rfl
  have e3 : eCall gTuple (kCons (look C) (ret [])) ev = .ok (.tup W, false) ev := by rw [eCall_ap, bnd_ok e2]; rfl
  have e4 : aCons (eCall gTuple (kCons (look C) (ret []))) (ret []) ev = .ok [.tup W] ev := by rw [aCons_ap, bnd_ok e3]; rfl
  rw [mMet_ap, he]
  show bnd (aCons (eCall gTuple (kCons (look C) (ret []))) (ret [])) _ ev = _
  rw [bnd_ok e4, he]
  show (match gAppend A [.tup W] with | some qs => R.ok Fl.nx (ev.set i (.own qs)) | none => .bad) = _
  rw [gAppend_1, if_pos (by rw [SZ]; exact hz)]
theorem upTo_range (n : Nat) : (upTo 0 n).map PV.int = (List.range n).map fun (k : Nat) => PV.int k := by
  unfold upTo
  rw [List.map_map]
  refine List.map_congr_left fun k _ => ?_
  show PV.int (0 + (k : Int)) = _
  rw [Int.zero_add]
theorem gAll_l (l : List Bool) : gAll [.lst (l.map PV.bl)] = some (.bl (l.all id), false) := by
  show Option.map _ (blsP (l.map PV.bl)) = _
  rw [blsP_map]; rfl
theorem gAny_l (l : List Bool) : gAny [.lst (l.map PV.bl)] = some (.bl (l.any id), false) := by
  show Option.map _ (blsP (l.map PV.bl)) = _
  rw [blsP_map]; rfl
end
end Pv

set_option Elab.async false
set_option linter.all false
set_option maxRecDepth 100000
namespace Pv
open PySem PySem.Spec L2
open PyProof.Rows hiding St
section
variable {X : Cx}
/-! ### x is True, x is False: of bools -/
def gIsB (neg : Bool) (p q : PV) : Option RV := match p, q with
  | .bl a, .bl b => vB (xor neg (decide (a = b)))
  | _, _ => none
theorem o_isB : OpOk X (compareOp .Is) (gIsB false) := .pure fun F H x y p q r rx ry e => by
  unfold gIsB at e
  split at e
  · rename_i a b
    cases e
    have ex : x = .bl a := rx
    have ey : y = .bl b := ry
    subst ex ey
    refine ⟨.bl _, _, L2.op_is_bl, fun Q hq => ⟨a, b, rfl, rfl, hq⟩, rfl, ?_⟩
    rw [Bool.false_xor]
    exact rep_bl
  · cases e
theorem o_isNotB : OpOk X (compareOp .IsNot) (gIsB true) := .pure fun F H x y p q r rx ry e => by
  unfold gIsB at e
  split at e
  · rename_i a b
    cases e
    have ex : x = .bl a := rx
    have ey : y = .bl b := ry
    subst ex ey
    refine ⟨.bl _, _, L2.op_isnot_bl, fun Q hq => ⟨a, b, rfl, rfl, hq⟩, rfl, ?_⟩
    rw [Bool.true_xor]
    exact rep_bl
  · cases e
@[simp] theorem gIsB_bb {n a b : Bool} : gIsB n (.bl a) (.bl b) = some (.bl (xor n (decide (a = b))), false) := rfl
end
end Pv

set_option Elab.async false
set_option linter.all false
set_option maxRecDepth 100000
namespace Pv
open PySem PySem.Spec L2
open PyProof.Rows hiding St
section
variable {X : Cx}
/-! ### < of ints, of tuples of ints -/
def gLt2 (p q : PV) : Option RV := match p, q with
  | .int i, .int j => vB (decide (i < j))
  | .tup a, .tup b => match intsP a, intsP b with
    | some ns, some ms => vB (HT.lexLt ns ms)
    | _, _ => none
  | _, _ => none
theorem RepTup.ints {K : Fr} {F : FS} {H : Hp} {v : V} {ns : List Int} (r : Rep K F H v (.tup (ns.map .int))) : ∃ a, v = .ref a ∧ SqT K H a (ns.map V.int) := by
  unfold Rep at r
  obtain ⟨a, xs, rfl, hx, rl⟩ := r
  rw [RepL.ints rl] at hx
  exact ⟨a, rfl, hx.sqT⟩
theorem o_lt2 (hu : X.A.units + 64 < cLine) : OpOk X (compareOp .Lt) gLt2 := fun F H0 H ev σ x y p q r Q er rx ry e hq => by
  unfold gLt2 at e
  split at e
  · rename_i i j
    exact o_lt F H0 H ev σ x y (.int i) (.int j) r Q er rx ry e hq
  · rename_i a b
    split at e
    · rename_i ns ms e1 e2
      cases e
      rw [intsP_eq e1] at rx
      rw [intsP_eq e2] at ry
      obtain ⟨a1, rfl, h1⟩ := RepTup.ints rx
      obtain ⟨b1, rfl, h2⟩ := RepTup.ints ry
      exact sOp_of (op_ltT (Nat.lt_of_le_of_lt (Nat.le_add_right _ _) hu)) ⟨a1, b1, ns, ms, rfl, rfl, h1, h2, hq F (.bl (HT.lexLt ns ms)) H er.aft (rep_bl (K := X.K) (F := F) (H := H))⟩
    · cases e
  · cases e
theorem gLt2_tt (ns ms : List Int) : gLt2 (.tup (ns.map .int)) (.tup (ms.map .int)) = some (.bl (HT.lexLt ns ms), false) := by
  show (match intsP (ns.map .int), intsP (ms.map .int) with | some ns, some ms => vB (HT.lexLt ns ms) | _, _ => none) = _
  rw [intsP_map, intsP_map]; rfl
end
/-! ### comprehensions over a name that was used before -/
section
variable {α : Type}
theorem comp_genV {v : Nat} {p0 : PV} {mi : M (List PV)} {mt : M Bool} {me : M RV} {e : α → PV} {c : α → Bool} {g : α → PV} {ev ev1 : SL} {l : List α} (hi : mi ev = .ok (l.map e) ev1) (h : ev1[v]? = some (.val p0)) (h1 : ∀ a ∈ l, mt (ev1.set v (.val (e a))) = .ok (c a) (ev1.set v (.val (e a)))) (h2 : ∀ a ∈ l, c a = true → ∃ fr, me (ev1.set v (.val (e a))) = .ok (g a, fr) (ev1.set v (.val (e a)))) (hz : l.length ≤ 16777216) :
    mComp mi (tName v) mt me [v] ev = .ok (.lst ((l.filter c).map g), true) ev1 := by
  have hl : v < ev1.length := (List.getElem?_eq_some_iff.mp h).1
  have w : wipeE ev1 [v] = ev1.set v .no := rfl
  have hn : (ev1.set v Slot.no)[v]? = some .no := List.getElem?_set_self hl
  have hc := compr_gen (mt := mt) (me := me) (e := e) (c := c) (g := g) hn l [] (fun a ha => by rw [List.set_set]; exact h1 a ha) (fun a ha hca => by rw [List.set_set]; exact h2 a ha hca) (by simpa using hz)
  rw [List.nil_append] at hc
  have := comp_ok (mi := mi) (t := tName v) (mt := mt) (me := me) (vs := [v]) hi (by rw [w]; exact hc)
  have eb : back ev1 (ev1.set v .no) [v] = ev1 := by
    unfold back back
    rw [h, List.set_set]
    apply List.ext_getElem?
    intro i
    by_cases hi : v = i
    · subst hi; rw [List.getElem?_set_self hl, h]
    · rw [List.getElem?_set_ne hi]
  rw [eb] at this
  exact this
theorem comp_mapV {v : Nat} {p0 : PV} {mi : M (List PV)} {me : M RV} {e : α → PV} {g : α → PV} {ev ev1 : SL} {l : List α} (hi : mi ev = .ok (l.map e) ev1) (h : ev1[v]? = some (.val p0)) (h2 : ∀ a ∈ l, ∃ fr, me (ev1.set v (.val (e a))) = .ok (g a, fr) (ev1.set v (.val (e a)))) (hz : l.length ≤ 16777216) :
    mComp mi (tName v) (ret true) me [v] ev = .ok (.lst (l.map g), true) ev1 := by
  have := comp_genV (mt := ret true) (c := fun _ => true) hi h (fun a _ => rfl) (fun a ha _ => h2 a ha) hz
  rwa [List.filter_eq_self.mpr (fun _ _ => rfl)] at this
end
end Pv

set_option Elab.async false
set_option linter.all false
set_option maxRecDepth 100000
namespace Pv
open PySem PySem.Spec L2
open PyProof.Rows hiding St
section
variable {α : Type}
/-- a slot that a comprehension may use for a time -/
def NV (s : Slot) : Prop := s = .no ∨ ∃ p, s = .val p
theorem NV.no : NV .no := .inl rfl
theorem NV.val {p : PV} : NV (.val p) := .inr ⟨p, rfl⟩
theorem comp_genN {v : Nat} {s0 : Slot} {mi : M (List PV)} {mt : M Bool} {me : M RV} {e : α → PV} {c : α → Bool} {g : α → PV} {ev ev1 : SL} {l : List α} (hi : mi ev = .ok (l.map e) ev1) (h : ev1[v]? = some s0) (nv : NV s0) (h1 : ∀ a ∈ l, mt (ev1.set v (.val (e a))) = .ok (c a) (ev1.set v (.val (e a)))) (h2 : ∀ a ∈ l, c a = true → ∃ fr, me (ev1.set v (.val (e a))) = .ok (g a, fr) (ev1.set v (.val (e a)))) (hz : l.length ≤ 16777216) :
    mComp mi (tName v) mt me [v] ev = .ok (.lst ((l.filter c).map g), true) ev1 := by
  rcases nv with rfl | ⟨p, rfl⟩
  · exact comp_gen hi h h1 h2 hz
  · exact comp_genV hi h h1 h2 hz
theorem comp_mapN {v : Nat} {s0 : Slot} {mi : M (List PV)} {me : M RV} {e : α → PV} {g : α → PV} {ev ev1 : SL} {l : List α} (hi : mi ev = .ok (l.map e) ev1) (h : ev1[v]? = some s0) (nv : NV s0) (h2 : ∀ a ∈ l, ∃ fr, me (ev1.set v (.val (e a))) = .ok (g a, fr) (ev1.set v (.val (e a)))) (hz : l.length ≤ 16777216) :
    mComp mi (tName v) (ret true) me [v] ev = .ok (.lst (l.map g), true) ev1 := by
  have := comp_genN (mt := ret true) (c := fun _ => true) hi h nv (fun a _ => rfl) (fun a ha _ => h2 a ha) hz
  rwa [List.filter_eq_self.mpr (fun _ _ => rfl)] at this
/-- the same loop, what its name holds known -/
theorem loop_stateN {σ : Type} {v : Nat} {mb : M Fl} {e : α → PV} {S : σ → Slot → SL} {f : σ → α → σ} {I : Nat → σ → Prop} (hv : ∀ s x, v < (S s x).length) (hs : ∀ s x y, (S s x).set v y = S s y) : ∀ (l : List α) (k : Nat) (s : σ) (x : Slot), NV x → I k s → (∀ a ∈ l, ∀ j s, j < k + l.length → I j s → mb (S s (.val (e a))) = .ok .nx (S (f s a) (.val (e a))) ∧ I (j + 1) (f s a)) → ∃ x', NV x' ∧ loop (tName v) mb (l.map e) (S s x) = .ok .nx (S (l.foldl f s) x') ∧ I (k + l.length) (l.foldl f s)
  | [], k, s, x, nv, hI, _ => ⟨x, nv, rfl, hI⟩
  | a :: l, k, s, x, nv, hI, h => by
    have et : tName v (e a) (S s x) = some (S s (.val (e a))) := by
      rw [tName_ap, if_pos (hv s x), hs]
    obtain ⟨h1, h2⟩ := h a (by simp) k s (by rw [List.length_cons]; omega) hI
    rw [List.map_cons, loop_nx et h1, List.length_cons, show k + (l.length + 1) = k + 1 + l.length by omega]
    exact loop_stateN hv hs l (k + 1) (f s a) _ NV.val h2 (fun b hb j s hj => h b (by simp [hb]) j s (by rw [List.length_cons]; omega))
theorem tryO_exc {mb : M Fl} {is : Str → Option Bool} {ms : Str → M Fl} {ev ev1 ev2 : SL} {d : Str} {f : Fl} (h : mb ev = .exc d ev1) (hi : is d = some true) (h2 : ms d ev1 = .ok f ev2) : mTryO mb is ms ev = .ok f ev2 := by
  unfold mTryO
  simp only [h, hi, h2]
theorem tryO_ok {mb : M Fl} {is : Str → Option Bool} {ms : Str → M Fl} {ev ev1 : SL} {f : Fl} (h : mb ev = .ok f ev1) : mTryO mb is ms ev = .ok f ev1 := by
  unfold mTryO
  simp only [h]
end
end Pv

set_option Elab.async false
set_option linter.all false
set_option maxRecDepth 100000
set_option maxHeartbeats 1000000
/-! min of a list of tuples of ints -/
namespace MinT
open PySem PySem.Spec PyProof.Rows L2
/-- a comparison that holds wherever these objects stand -/
def CmpK (prog : Program) (w : World) (A : Around) (h0 : Heap) (P : Nat → Value → Prop) (bt : Nat → Nat → Bool) : Prop :=
  ∀ i j vi vj (s : Shared) (Q : Value → Shared → Prop) (E : Value → Shared → Prop), (∀ b o, h0.get? b = some o → s.heap.get? b = some o) → P i vi → P j vj → Q (.bool (bt i j)) s → wpAny (model prog w) A (richCompare .Lt vi vj) Q E s
section
variable {prog : Program} {w : World} {A : Around} {R : Result → Shared → Prop} {I S : Addr} {fp wr : List Addr} {n : Nat} {P : Nat → Value → Prop} {St : Nat → Heap → Prop} {h0 : Heap} {bt : Nat → Nat → Bool}
abbrev lst2 (v u : Value) (c : Nat) : Obj := { cls := .type "list", dict := none, data := .seq #[v, u] c, slots := #[] }
theorem nm : (toString "min" ++ toString ".loop" : String) = "min.loop" := by decide
theorem min_go (W : Walks prog w A.in1 I fp wr n P St) (hcmp : CmpK prog w A.in1 h0 P bt) (hSf : S ∉ fp) (hw0 : ∀ b o, h0.get? b = some o → b ∉ wr ∧ b ≠ S) :
    ∀ (k j : Nat) (s : Shared) (vb : Value) (c : Nat), n - (j + 1) = k → j + 1 ≤ n → (∀ b o, h0.get? b = some o → s.heap.get? b = some o) → St (j + 1) s.heap → P (argBest bt j) vb → s.heap.get? S = some (lst2 vb vb c) →
    (∀ v h' tk, P (argBest bt (n - 1)) v → (∀ b o, b ∉ wr → b ≠ S → s.heap.get? b = some o → h'.get? b = some o) → R (.ok (.ret v)) { s with heap := h', toks := tk }) →
    codeAny (model prog w) A (.builtin "min.loop" ⟨[.ref I, .none, .ref S], []⟩) R s := by
  have hSw : S ∉ wr := fun h => hSf (W.sub _ h)
  intro k
  induction k with
  | zero =>
    intro j s vb c hk hj hb hst hPb hS hR
    have hin : j + 1 = n := by omega
    refine codeAny_builtin F.entry_min_loop ?_
    rw [Around.under_plainId F.plain_min_loop _]
    show wpAny _ A.in1 (seqItems? (.ref S) >>= _) _ _ s
    refine wpAny_bind (wpAny_seqItems hS rfl ?_)
    show wpAny _ A.in1 (tryCatch (pyNext (.ref I)) _ >>= _) _ _ s
    refine wpAny_bind (wpAny_tryCatch (W.done s _ _ (hin ▸ hst) fun h' tk hk' => ?_))
    have hS' := hk' S _ hSw hS
    show wpAny _ A.in1 (updateSeq S (fun _ => #[]) >>= _) _ _ _
    refine wpAny_bind ?_
    refine wpAny_updateSeq hS' rfl (wpAny_bind (wpAny_letGo (wpAny_pure ?_)))
    exact hR vb _ tk (by rw [← hin]; exact hPb) fun b o hbw hbS e => (Heap.get?_update_other _ _ (Ne.symm hbS)).trans (hk' b o hbw e)
  | succ k ih =>
    intro j s vb c hk hj hb hst hPb hS hR
    have hlt : j + 1 < n := by omega
    refine codeAny_builtin F.entry_min_loop ?_
    rw [Around.under_plainId F.plain_min_loop _]
    show wpAny _ A.in1 (seqItems? (.ref S) >>= _) _ _ s
    refine wpAny_bind (wpAny_seqItems hS rfl ?_)
    show wpAny _ A.in1 (tryCatch (pyNext (.ref I)) _ >>= _) _ _ s
    refine wpAny_bind (wpAny_tryCatch (W.item (j + 1) s _ _ hlt hst fun v h' tk hP hst' hk' => ?_))
    have hS' := hk' S _ hSw hS
    have hb' : ∀ b o, h0.get? b = some o → h'.get? b = some o := fun b o e => hk' b o (hw0 b o e).1 (hb b o e)
    show wpAny _ A.in1 (tryCatch (holding [v, v] (richCompare .Lt v vb >>= _)) _ >>= _) _ _ _
    refine wpAny_bind (wpAny_tryCatch (wpAny_holding (wpAny_bind (hcmp (j + 1) (argBest bt j) v vb _ _ _ hb' hP hPb ?_))))
    refine wpAny_bind (wpAny_holding (wpAny_truthy_bool ?_))
    refine wpAny_bind (wpAny_letGo (wpAny_pure ?_))
    cases hbt : bt (j + 1) (argBest bt j) with
    | true =>
      simp only [if_true]
      refine wpAny_bind ?_
      refine wpAny_updateSeq hS' rfl (wpAny_bind (wpAny_letGo ?_))
      rw [nm]
      refine wpAny_pure ⟨plainId_quiet F.plain_min_loop _, ih (j + 1) _ v _ (by omega) hlt (fun b o e => (Heap.get?_update_other _ _ (Ne.symm (hw0 b o e).2)).trans (hb' b o e)) (W.frame _ _ _ hst' fun b hbf o e => ?_) (by simp only [argBest, hbt, if_true]; exact hP) (Heap.get?_update_self _ hS' rfl)
        fun v' h'' tk'' hP' hk'' => ?_⟩
      · exact (Heap.get?_update_other _ _ (fun h : S = b => hSf (by rw [h]; exact hbf))).trans e
      · exact hR v' h'' tk'' hP' fun b o hbw hbS e => hk'' b o hbw hbS ((Heap.get?_update_other _ _ (Ne.symm hbS)).trans (hk' b o hbw e))
    | false =>
      simp only [Bool.false_eq_true, if_false]
      refine wpAny_bind (wpAny_letGo ?_)
      rw [nm]
      refine wpAny_pure ⟨plainId_quiet F.plain_min_loop _, ih (j + 1) _ vb c (by omega) hlt hb' hst' (by simp only [argBest, hbt, Bool.false_eq_true, if_false]; exact hPb) hS' fun v' h'' tk'' hP' hk'' => ?_⟩
      exact hR v' h'' tk'' hP' fun b o hbw hbS e => hk'' b o hbw hbS (hk' b o hbw e)
theorem min_first (W : Walks prog w A.in1 I fp wr n P St) (hcmp : CmpK prog w A.in1 h0 P bt) (hSf : S ∉ fp) (hw0 : ∀ b o, h0.get? b = some o → b ∉ wr ∧ b ≠ S) (hn : 0 < n) {s : Shared} {c : Nat} (hb : ∀ b o, h0.get? b = some o → s.heap.get? b = some o) (hst : St 0 s.heap)
    (hS : s.heap.get? S = some { cls := .type "list", dict := none, data := .seq #[] c, slots := #[] })
    (hR : ∀ v h' tk, P (argBest bt (n - 1)) v → (∀ b o, b ∉ wr → b ≠ S → s.heap.get? b = some o → h'.get? b = some o) → R (.ok (.ret v)) { s with heap := h', toks := tk }) :
    codeAny (model prog w) A (.builtin "min.loop" ⟨[.ref I, .none, .ref S], []⟩) R s := by
  have hSw : S ∉ wr := fun h => hSf (W.sub _ h)
  refine codeAny_builtin F.entry_min_loop ?_
  rw [Around.under_plainId F.plain_min_loop _]
  show wpAny _ A.in1 (seqItems? (.ref S) >>= _) _ _ s
  refine wpAny_bind (wpAny_seqItems hS rfl ?_)
  show wpAny _ A.in1 (tryCatch (pyNext (.ref I)) _ >>= _) _ _ s
  refine wpAny_bind (wpAny_tryCatch (W.item 0 s _ _ hn hst fun v h' tk hP hst' hk' => ?_))
  have hS' := hk' S _ hSw hS
  have hb' : ∀ b o, h0.get? b = some o → h'.get? b = some o := fun b o e => hk' b o (hw0 b o e).1 (hb b o e)
  show wpAny _ A.in1 (updateSeq S (fun _ => #[v, v]) >>= _) _ _ _
  refine wpAny_bind ?_
  refine wpAny_updateSeq hS' rfl ?_
  rw [nm]
  refine wpAny_pure ⟨plainId_quiet F.plain_min_loop _, min_go W hcmp hSf hw0 _ 0 _ v _ rfl hn (fun b o e => (Heap.get?_update_other _ _ (Ne.symm (hw0 b o e).2)).trans (hb' b o e)) (W.frame _ _ _ hst' fun b hbf o e => ?_) hP (Heap.get?_update_self _ hS' rfl) fun v' h'' tk'' hP' hk'' => ?_⟩
  · exact (Heap.get?_update_other _ _ (fun h : S = b => hSf (by rw [h]; exact hbf))).trans e
  · exact hR v' h'' tk'' hP' fun b o hbw hbS e => hk'' b o hbw hbS ((Heap.get?_update_other _ _ (Ne.symm hbS)).trans (hk' b o hbw e))
end
section
variable {prog : Program} {w : World} {A : Around} {E : Value → Shared → Prop} {s : Shared} {l : Addr} {its : Array Value} {bt : Nat → Nat → Bool}
theorem min_list {Q : Value → Shared → Prop} (hh : A.handled = none) (hl : s.heap.IsList l its) (hne : 0 < its.size) (hcmp : CmpK prog w A.in1 s.heap (fun i v => its[i]? = some v) bt)
    (h : ∀ v h' tk, its[argBest bt (its.size - 1)]? = some v → (∀ b o, s.heap.get? b = some o → h'.get? b = some o) → Q v { s with heap := h', toks := tk }) :
    wpAny (model prog w) A (call (.builtin "min") [.ref l]) Q E s := by
  refine call_function_tree F.kind_min F.plain_min F.entry_min (F.args_min1 _) ?_
  show wpAny _ A.in1 (Builtin.Builtins.bindParams "min" ["key", "default"] 0 ⟨[], []⟩ >>= _) _ _ s
  refine wpAny_bind (wpAny_of_eq (show Builtin.Builtins.bindParams "min" ["key", "default"] 0 ⟨[], []⟩ = pure [none, none] from rfl) ?_)
  refine wpAny_bind (wpAny_pure ?_)
  show wpAny _ A.in1 (pyIter (.ref l) >>= _) _ _ s
  refine wpAny_bind (iter_anyList hl fun s₂ e st hfp hlI => ?_)
  subst e
  have W := Walks.list (prog := prog) (w := w) (A := A.in1) hh s.heap.objs.size l hlI its
  refine wpAny_bind (wpAny_newObj_type ?_)
  have hz : (s.heap.push { cls := .type "list_iterator", data := .fields #[.ref l, .int 0 0] }).objs.size = s.heap.objs.size + 1 := by simp [Heap.push]
  have hSf : (s.heap.push { cls := .type "list_iterator", data := .fields #[.ref l, .int 0 0] }).objs.size ∉ [s.heap.objs.size, l] := fun hm => Nat.lt_irrefl _ (hfp _ hm)
  rw [nm]
  have hold : ∀ b o, s.heap.get? b = some o → b ∉ [s.heap.objs.size] ∧ b ≠ (s.heap.push { cls := .type "list_iterator", data := .fields #[.ref l, .int 0 0] }).objs.size := fun b o e => by
    have := Heap.lt_size e
    refine ⟨fun z => ?_, fun z => ?_⟩
    · rw [List.mem_singleton.mp z] at this; exact Nat.lt_irrefl _ this
    · rw [z, hz] at this; exact absurd this (Nat.not_lt.mpr (Nat.le_succ _))
  refine wpAny_pure ⟨plainId_quiet F.plain_min_loop _, min_first (h0 := s.heap) W hcmp hSf hold hne (fun b o e => Heap.get?_push_of_some _ (Heap.get?_push_of_some _ e)) (W.frame _ _ _ st fun b _ o e => Heap.get?_push_of_some _ e) (Heap.get?_push_size _ rfl) fun v h' tk hP hk => ?_⟩
  exact h v h' tk hP fun b o e => hk b o (hold b o e).1 (hold b o e).2 (Heap.get?_push_of_some _ (Heap.get?_push_of_some _ e))
end
/-! ### .. of tuples of ints -/
theorem argBest_le (bt : Nat → Nat → Bool) : ∀ k, argBest bt k ≤ k
  | 0 => Nat.le_refl _
  | k + 1 => by
    unfold argBest
    split
    · exact Nat.le_refl _
    · exact Nat.le_succ_of_le (argBest_le bt k)
/-- the place of the first least tuple -/
def minIx (L : List (List Int)) : Nat := argBest (fun i j => HT.lexLt (L.getD i []) (L.getD j [])) (L.length - 1)
section
variable {X : Cx}
def rMinT (K : PySem.W.Frag) : List V → Hp → VK → Prop := fun vs H Q => ∃ (a : Addr) (xs : List V) (L : List (List Int)), vs = [V.ref a] ∧ SqL K H a xs ∧ xs.length = L.length ∧ 0 < L.length ∧ (∀ (i : Nat) (x : V), xs[i]? = some x → ∃ t, x = .ref t ∧ SqT K H t ((L.getD i []).map V.int)) ∧ ∀ x, xs[minIx L]? = some x → Q x H
theorem call_minT (hc : X.calm = true) (hu : X.A.units + 1 < cLine) : CallR X (.builtin "min") (rMinT X.K) := by
  intro pins s σ H vs us Q I r h
  obtain ⟨a, xs, L, rfl, hs, hl, hne, hx, q⟩ := h
  obtain ⟨its, rv, hL, _⟩ := I.list hs
  rw [Vals.ref1 r]
  have hlen := rv.length
  have hz : its.toArray.size = L.length := by rw [List.size_toArray]; omega
  refine min_list (bt := fun i j => HT.lexLt (L.getD i []) (L.getD j [])) (I.ok.hd hc) hL.isList (by omega) (fun i j vi vj s' Q' E' hk hi hj hQ => ?_) fun v h' tk hv hk => ?_
  · have at_ : ∀ (i : Nat) (vi : Value), its.toArray[i]? = some vi → ∃ t items, vi = .ref t ∧ IsTup s'.heap t items ∧ IntsAre items.toList (L.getD i []) := fun i vi hi => by
      have hi' : its[i]? = some vi := by simpa using hi
      have hlt : i < xs.length := by
        have := (List.getElem?_eq_some_iff.mp hi').1
        omega
      obtain ⟨u, hu2, ru⟩ := rv.get (List.getElem?_eq_getElem hlt)
      rw [hi'] at hu2
      cases hu2
      obtain ⟨t, et, ht⟩ := hx i _ (List.getElem?_eq_getElem hlt)
      rw [et] at ru
      cases ru
      obtain ⟨it2, r2, p2, _⟩ := I.tuple ht
      obtain ⟨o, ho, hc2, n, hd⟩ := p2
      exact ⟨t, it2.toArray, rfl, ⟨o, hk _ _ ho, hc2, n, hd⟩, by simpa using intsAre_of r2⟩
    obtain ⟨t1, i1, rfl, p1, a1⟩ := at_ i vi hi
    obtain ⟨t2, i2, rfl, p2, a2⟩ := at_ j vj hj
    exact HT.lt_tupInts p1 p2 a1 a2 hu hQ
  · have hb := argBest_le (fun i j => HT.lexLt (L.getD i []) (L.getD j [])) (its.toArray.size - 1)
    have hlt : minIx L < xs.length := by
      unfold minIx
      have := argBest_le (fun i j => HT.lexLt (L.getD i []) (L.getD j [])) (L.length - 1)
      omega
    obtain ⟨u, hu2, ru⟩ := rv.get (List.getElem?_eq_getElem hlt)
    rw [hz] at hv
    have hv' : its[minIx L]? = some v := by simpa [minIx] using hv
    rw [hv'] at hu2
    cases hu2
    exact ⟨xs[minIx L], H, I.kept hk, ru, q _ (List.getElem?_eq_getElem hlt)⟩
end
end MinT

set_option Elab.async false
set_option linter.all false
set_option maxRecDepth 100000
namespace Pv
open PySem PySem.Spec L2
open PyProof.Rows hiding St
/-! ### min of a list of tuples of ints -/
def intTups : List PV → Option (List (List Int))
  | [] => some []
  | .tup a :: r => match intsP a, intTups r with
    | some ns, some L => some (ns :: L)
    | _, _ => none
  | _ :: _ => none
theorem intTups_map : ∀ L : List (List Int), intTups (L.map fun l => PV.tup (l.map .int)) = some L
  | [] => rfl
  | l :: L => by
    rw [List.map_cons, intTups, intsP_map, intTups_map L]
theorem intTups_eq : ∀ {ps : List PV} {L : List (List Int)}, intTups ps = some L → ps = L.map fun l => PV.tup (l.map .int)
  | [], L, h => by cases h; rfl
  | p :: r, L, h => by
    cases p with
    | tup a =>
      unfold intTups at h
      split at h
      · rename_i ns L' e1 e2
        cases h
        rw [List.map_cons, ← intsP_eq e1, ← intTups_eq e2]
      · cases h
    | _ => unfold intTups at h; cases h
def gMinT : List PV → Option RV
  | [.lst ps] => match intTups ps with
    | some L => (ps[MinT.minIx L]?).map fun p => (p, false)
    | none => none
  | _ => none
section
variable {X : Cx}
theorem c_minT (hc : X.calm = true) (hu : X.A.units + 64 < cLine) : CallOk X (.builtin "min") gMinT := fun F H0 H ev σ vs ps r Q er rs e hq => by
  unfold gMinT at e
  split at e
  · rename_i qs
    split at e
    · rename_i L hL
      obtain ⟨p, hp, e2⟩ := Option.map_eq_some_iff.mp e
      cases e2
      obtain ⟨v, rfl, rv⟩ := rs.one
      obtain ⟨a, xs, rfl, hx, rl⟩ := rv
      have eq := intTups_eq hL
      have hlen := rl.length
      have hl2 : qs.length = L.length := by rw [eq, List.length_map]
      have hne : 0 < L.length := by
        have := (List.getElem?_eq_some_iff.mp hp).1
        omega
      refine sCl_of (MinT.call_minT hc (Nat.lt_of_le_of_lt (Nat.add_le_add_left (by decide) _) hu)) ⟨a, xs, L, rfl, SqL.of hx, by omega, hne, fun i x hxi => ?_, fun x hxi => ?_⟩
      · have hi : i < L.length := by
          have := (List.getElem?_eq_some_iff.mp hxi).1
          omega
        obtain ⟨v, hv, rv⟩ := rl.get (i := i) (p := .tup ((L.getD i []).map .int)) (by
          rw [eq, List.getElem?_map, List.getElem?_eq_getElem hi, List.getD_eq_getElem?_getD, List.getElem?_eq_getElem hi]
          rfl)
        rw [hxi] at hv
        cases hv
        exact RepTup.ints rv
      · obtain ⟨v, hv, rv⟩ := rl.get hp
        rw [hxi] at hv
        cases hv
        exact hq F x H er.aft rv
    · cases e
  · cases e
end
/-! ### the first least -/
theorem lex_trans : ∀ {a b c : List Int}, HT.lexLt a b = true → HT.lexLt b c = true → HT.lexLt a c = true
  | [], [], _, h, _ => by cases h
  | [], _ :: _, [], _, h => by cases h
  | [], _ :: _, _ :: _, _, _ => rfl
  | _ :: _, [], _, h, _ => by cases h
  | _ :: _, _ :: _, [], _, h => by cases h
  | x :: a, y :: b, z :: c, h1, h2 => by
    rw [HT.lexLt_cons] at h1 h2 ⊢
    by_cases c1 : x = y
    · subst c1
      rw [if_pos rfl] at h1
      by_cases c2 : x = z
      · rw [if_pos c2] at h2 ⊢
        exact lex_trans h1 h2
      · rw [if_neg c2] at h2 ⊢; exact h2
    · rw [if_neg c1, decide_eq_true_eq] at h1
      by_cases c2 : y = z
      · rw [← c2, if_neg c1]; exact decide_eq_true h1
      · rw [if_neg c2, decide_eq_true_eq] at h2
        rw [if_neg (by omega)]
        exact decide_eq_true (by omega)
theorem lex_irr : ∀ l : List Int, HT.lexLt l l = false
  | [] => rfl
  | x :: l => by rw [HT.lexLt_cons, if_pos rfl]; exact lex_irr l
theorem argBest_ok (f : Nat → List Int) : ∀ k j, j ≤ k → HT.lexLt (f j) (f (argBest (fun i j => HT.lexLt (f i) (f j)) k)) = false
  | 0, j, h => by rw [Nat.le_zero.mp h]; exact lex_irr _
  | k + 1, j, h => by
    have ih := argBest_ok f k
    unfold argBest
    cases c : HT.lexLt (f (k + 1)) (f (argBest (fun i j => HT.lexLt (f i) (f j)) k)) with
    | true =>
      rw [if_pos rfl]
      by_cases e : j = k + 1
      · rw [e]; exact lex_irr _
      · rw [Bool.eq_false_iff]
        intro z
        have := ih j (by omega)
        rw [lex_trans z c] at this
        cases this
    | false =>
      rw [if_neg (by simp)]
      by_cases e : j = k + 1
      · rw [e]; exact c
      · exact ih j (by omega)
theorem minIx_ok {L : List (List Int)} (h : 0 < L.length) : MinT.minIx L < L.length ∧ ∀ x ∈ L, HT.lexLt x (L.getD (MinT.minIx L) []) = false := by
  have hb := MinT.argBest_le (fun i j => HT.lexLt (L.getD i []) (L.getD j [])) (L.length - 1)
  refine ⟨by unfold MinT.minIx; omega, fun x hx => ?_⟩
  obtain ⟨k, hk, rfl⟩ := List.mem_iff_getElem.mp hx
  have := argBest_ok (fun i => L.getD i []) (L.length - 1) k (by omega)
  unfold MinT.minIx
  rwa [show L.getD k [] = L[k] by rw [List.getD_eq_getElem?_getD, List.getElem?_eq_getElem hk]; rfl] at this
theorem gMinT_ok {L : List (List Int)} (h : 0 < L.length) : gMinT [.lst (L.map fun l => PV.tup (l.map .int))] = some (.tup ((L.getD (MinT.minIx L) []).map .int), false) := by
  have hm := (minIx_ok h).1
  show (match intTups (L.map fun l => PV.tup (l.map .int)) with
    | some L' => ((L.map fun (l : List Int) => PV.tup (l.map .int))[MinT.minIx L']?).map fun p => (p, false)
    | none => none) = _
  rw [intTups_map]
  show ((L.map fun (l : List Int) => PV.tup (l.map .int))[MinT.minIx L]?).map (fun p => (p, false)) = _
  rw [List.getElem?_map, List.getElem?_eq_getElem hm, List.getD_eq_getElem?_getD, List.getElem?_eq_getElem hm]
  rfl
end Pv

set_option Elab.async false
set_option linter.all false
set_option maxRecDepth 100000
namespace Pv
open PySem PySem.Spec L2
open PyProof.Rows hiding St
section
variable {α β : Type}
/-- a loop, whatever its target, that returns at the first item of a kind -/
theorem loop_firstT {t : PV → SL → Option SL} {mb : M Fl} {e : α → PV} {P : α → Bool} {r : α → RV} {B : β → SL} {y : α → β} : ∀ (l : List α) (x : β), (∀ a ∈ l, ∀ x, t (e a) (B x) = some (B (y a))) → (∀ a ∈ l, if P a = true then ∃ ev', mb (B (y a)) = .ok (.rt (r a)) ev' else mb (B (y a)) = .ok .nx (B (y a))) →
    (∃ a, l.find? P = some a ∧ ∃ ev', loop t mb (l.map e) (B x) = .ok (.rt (r a)) ev') ∨ ((∀ a ∈ l, P a = false) ∧ ∃ x', loop t mb (l.map e) (B x) = .ok .nx (B x'))
  | [], x, _, _ => .inr ⟨(fun a h => nomatch h), x, rfl⟩
  | a :: l, x, ht, h => by
    have h1 := h a (by simp)
    have et := ht a (by simp) x
    rw [List.map_cons]
    cases c : P a with
    | true =>
      rw [if_pos c] at h1
      obtain ⟨ev', e1⟩ := h1
      exact .inl ⟨a, by rw [List.find?_cons, c], ev', loop_rt et e1⟩
    | false =>
      rw [if_neg (by rw [c]; simp)] at h1
      rw [loop_nx et h1]
      rcases loop_firstT l (y a) (fun b hb => ht b (by simp [hb])) (fun b hb => h b (by simp [hb])) with ⟨b, hb, q⟩ | ⟨hb, q⟩
      · exact .inl ⟨b, by rw [List.find?_cons, c]; exact hb, q⟩
      · refine .inr ⟨fun b hb2 => ?_, q⟩
        rcases List.mem_cons.mp hb2 with rfl | hb2
        · exact c
        · exact hb b hb2
/-- a comprehension whose first item changes the state for good -/
theorem compr_two {v : Nat} {me : M RV} {e : α → PV} {g : α → PV} {ev ev' : SL} (h : ev[v]? = some .no) (h' : ev'[v]? = some .no) : ∀ (l : List α) (acc : List PV), (∀ a ∈ l, ∃ fr, me (ev.set v (.val (e a))) = .ok (g a, fr) (ev'.set v (.val (e a)))) → (∀ a ∈ l, ∃ fr, me (ev'.set v (.val (e a))) = .ok (g a, fr) (ev'.set v (.val (e a)))) → acc.length + l.length ≤ 16777216 →
    ∃ ev2, (ev2 = ev ∨ ev2 = ev') ∧ compr (tName v) (ret true) me [v] acc (l.map e) ev = .ok (acc ++ l.map g) ev2
  | [], acc, _, _, _ => ⟨ev, .inl rfl, by rw [List.map_nil, compr]; simp⟩
  | a :: l, acc, h1, h2, hz => by
    rw [List.length_cons] at hz
    have hl : v < ev.length := (List.getElem?_eq_some_iff.mp h).1
    obtain ⟨fr, e3⟩ := h1 a (by simp)
    have e2 : turn (tName v) (ret true) me (e a) ev = .ok (some (g a)) (ev'.set v (.val (e a))) := by
      unfold turn
      simp [hl, e3]
    refine ⟨ev', .inr rfl, ?_⟩
    rw [List.map_cons, compr]
    simp only [e2]
    have := compr_gen (mt := ret true) (c := fun _ => true) h' l (acc ++ [g a]) (fun _ _ => rfl) (fun b hb _ => h2 b (by simp [hb])) (by rw [List.length_append, List.length_singleton]; omega)
    rw [if_pos (by rw [SZ]; omega), wipe_one h', this, List.filter_eq_self.mpr (fun _ _ => rfl)]
    simp
end
theorem lex_tri : ∀ {a b : List Int}, HT.lexLt a b = false → HT.lexLt b a = false → a = b
  | [], [], _, _ => rfl
  | [], _ :: _, h, _ => by cases h
  | _ :: _, [], _, h => by cases h
  | x :: a, y :: b, h1, h2 => by
    rw [HT.lexLt_cons] at h1 h2
    by_cases c : x = y
    · rw [if_pos c] at h1
      rw [if_pos c.symm] at h2
      rw [c, lex_tri h1 h2]
    · rw [if_neg c, decide_eq_false_iff_not] at h1
      rw [if_neg (fun z => c z.symm), decide_eq_false_iff_not] at h2
      omega
theorem combR_ok {m k : M PV} {ev : SL} {n j : Nat} (h : m ev = .ok (.int (n : Nat)) ev) (h2 : k ev = .ok (.int (j : Nat)) ev) (hn : n ≤ 1000) (hj : j ≤ 1000) : mCombR m k ev = .ok ((Cb.cmb j (upTo 0 n)).map fun c => PV.tup (c.map .int)) ev := by
  unfold mCombR
  rw [bnd_ok h]
  have ok : (okRg ((0 : Int), (n : Int)) && decide ((n : Int).toNat ≤ 1000)) = true := by
    rw [Bool.and_eq_true]
    refine ⟨?_, decide_eq_true (by omega)⟩
    unfold okRg
    rw [okR_k (by omega) (by omega), okR_k (by omega) (by omega), decide_eq_true (by rw [SZ]; omega)]; rfl
  show (if (okRg ((0 : Int), (n : Int)) && decide ((n : Int).toNat ≤ 1000)) = true then (bnd k _ : M (List PV)) else bad) ev = _
  rw [if_pos ok, bnd_ok h2]
  show (if decide (0 ≤ (j : Int) ∧ (j : Int) ≤ 1000) = true then (ret _ : M (List PV)) else bad) ev = _
  rw [if_pos (decide_eq_true (by omega)), rgP_eq, Int.toNat_natCast, Int.toNat_natCast, Cb.cmb_map, List.map_map]
  rfl
theorem dnP_succ (k : Nat) : dnP ((k + 1 : Nat) - 1) (k + 1) = .int (k : Nat) :: dnP ((k : Nat) - 1) k := by
  unfold dnP
  rw [List.range_succ_eq_map, List.map_cons, List.map_map]
  congr 1
  · congr 1; omega
  · refine List.map_congr_left fun i _ => ?_
    show PV.int (((k + 1 : Nat) : Int) - 1 - ((i + 1 : Nat) : Int)) = _
    congr 1; omega
theorem rng3_ok {m : M (List PV)} {ev : SL} {i : Int} (h : m ev = .ok [.int i, .int (-1), .int (-1)] ev) (hi : okR i = true) : mRng3 m ev = .ok (dnP i (i - (-1)).toNat) ev := by
  unfold mRng3
  rw [bnd_ok h]
  show (if (decide ((-1 : Int) = -1) && (okR i && okR (-1))) = true then (ret (dnP i (i - (-1)).toNat) : M (List PV)) else bad) ev = _
  rw [hi, if_pos (by decide)]; rfl
theorem upTo_rngA {m : Nat} : ∀ i ∈ upTo 0 m, 0 ≤ i ∧ i < m := fun i hi => by
  obtain ⟨j, hj, rfl⟩ := List.mem_map.mp hi
  have := List.mem_range.mp hj
  omega
end Pv

set_option linter.all false
set_option autoImplicit false
namespace Pv
open PySem PySem.Spec L2
open PyProof.Rows hiding St
/-- how often a while may go round in a description -/
def wFu : Nat := 1000
theorem wFu_eq : wFu = 1000 := rfl
theorem whil_more {mc : M Bool} {mb : M Fl} : ∀ (n k : Nat) (ev : SL), whil mc mb n ev ≠ .bad → whil mc mb (n + k) ev = whil mc mb n ev := by
  intro n
  induction n with
  | zero => intro k ev h; exact (h rfl).elim
  | succ n ih =>
    intro k ev h
    rw [show n + 1 + k = (n + k) + 1 by omega]
    simp only [whil, bnd] at h ⊢
    cases e : mc ev with
    | bad => rfl
    | exc c ev2 => rfl
    | ok b ev2 =>
      simp only [e] at h ⊢
      cases b with
      | false => rfl
      | true =>
        simp only [if_true] at h ⊢
        cases e2 : mb ev2 with
        | bad => rfl
        | exc c ev3 => rfl
        | ok f ev3 =>
          simp only [e2] at h ⊢
          cases f with
          | nx => exact ih k ev3 h
          | ct => exact ih k ev3 h
          | bk => rfl
          | rt r => rfl
/-- one more time round -/
theorem whil_nx {mc : M Bool} {mb : M Fl} {n : Nat} {ev ev2 ev3 : SL} (h1 : mc ev = .ok true ev2) (h2 : mb ev2 = .ok .nx ev3) : whil mc mb (n + 1) ev = whil mc mb n ev3 := by
  simp only [whil, bnd, h1, h2, if_true]
theorem whil_end {mc : M Bool} {mb : M Fl} {n : Nat} {ev ev2 : SL} (h1 : mc ev = .ok false ev2) : whil mc mb (n + 1) ev = .ok .nx ev2 := by
  simp only [whil, bnd, h1]; rfl
section
variable {α : Type}
theorem compr_genT {t : PV → SL → Option SL} {vs : List Nat} {mt : M Bool} {me : M RV} {e : α → PV} {B : α → SL} {c : α → Bool} {g : α → PV} {ev : SL} : ∀ (l : List α) (acc : List PV), (∀ a ∈ l, t (e a) ev = some (B a)) → (∀ a ∈ l, wipeE (B a) vs = ev) → (∀ a ∈ l, mt (B a) = .ok (c a) (B a)) → (∀ a ∈ l, c a = true → ∃ fr, me (B a) = .ok (g a, fr) (B a)) → acc.length + l.length ≤ 16777216 →
    compr t mt me vs acc (l.map e) ev = .ok (acc ++ (l.filter c).map g) ev
  | [], acc, _, _, _, _, _ => by rw [List.map_nil, compr]; simp
  | a :: l, acc, ht, hw, h1, h2, hz => by
    rw [List.length_cons] at hz
    have e1 := h1 a (by simp)
    have et := ht a (by simp)
    have ew := hw a (by simp)
    have ih := fun acc' hz' => compr_genT (t := t) (vs := vs) (mt := mt) (me := me) (e := e) (B := B) (c := c) (g := g) (ev := ev) l acc' (fun b hb => ht b (by simp [hb])) (fun b hb => hw b (by simp [hb])) (fun b hb => h1 b (by simp [hb])) (fun b hb => h2 b (by simp [hb])) hz'
    rw [List.map_cons, compr]
    cases hc : c a with
    | false =>
      rw [hc] at e1
      have e2 : turn t mt me (e a) ev = .ok none (B a) := by
        unfold turn
        simp [et, e1]
      simp only [e2]
      rw [ew, ih acc (by omega), List.filter_cons, hc]
      simp
    | true =>
      rw [hc] at e1
      obtain ⟨fr, e3⟩ := h2 a (by simp) hc
      have e2 : turn t mt me (e a) ev = .ok (some (g a)) (B a) := by
        unfold turn
        simp [et, e1, e3]
      simp only [e2]
      rw [if_pos (by rw [SZ]; omega), ew, ih (acc ++ [g a]) (by rw [List.length_append, List.length_singleton]; omega), List.filter_cons, hc]
      simp
/-- [g(a) for any target in l if c(a)] -/
theorem comp_genT {t : PV → SL → Option SL} {vs : List Nat} {mi : M (List PV)} {mt : M Bool} {me : M RV} {e : α → PV} {B : α → SL} {c : α → Bool} {g : α → PV} {ev ev1 : SL} {l : List α} (hi : mi ev = .ok (l.map e) ev1) (hw : wipeE ev1 vs = ev1) (hk : back ev1 ev1 vs = ev1) (ht : ∀ a ∈ l, t (e a) ev1 = some (B a)) (hb : ∀ a ∈ l, wipeE (B a) vs = ev1) (h1 : ∀ a ∈ l, mt (B a) = .ok (c a) (B a)) (h2 : ∀ a ∈ l, c a = true → ∃ fr, me (B a) = .ok (g a, fr) (B a)) (hz : l.length ≤ 16777216) :
    mComp mi t mt me vs ev = .ok (.lst ((l.filter c).map g), true) ev1 := by
  have hc := compr_genT (mt := mt) (me := me) (e := e) (c := c) (g := g) l [] ht hb h1 h2 (by simpa using hz)
  rw [List.nil_append] at hc
  have := comp_ok (mi := mi) (t := t) (mt := mt) (me := me) (vs := vs) hi (by rw [hw]; exact hc)
  rw [hk] at this
  exact this
end
end Pv

set_option Elab.async false
set_option linter.all false
set_option maxRecDepth 100000
namespace Pv
open PySem PySem.Spec L2
open PyProof.Rows hiding St
/-! ### min, max of a tuple of ints -/
section
variable {prog : Program} {w : World} {A : Around} {E : Value → Shared → Prop} {s : Shared} {l : Addr}
theorem iter_intTup {xs : Array (Int × Tok)} {Q : Value → Shared → Prop} (hl : s.heap.IsTuple l (intItems xs))
    (h : ∀ s₂ : Shared, s₂ = { s with heap := s.heap.push { cls := .type "tuple_iterator", data := .fields #[.ref l, .int 0 0] } } →
      (s₂.heap.IsTupleIter s.heap.objs.size l 0 ∧ s₂.heap.IsTuple l (intItems xs)) → (∀ b ∈ [s.heap.objs.size, l], b < s₂.heap.objs.size) → l ≠ s.heap.objs.size → Q (.ref s.heap.objs.size) s₂) :
    wpAny (model prog w) A (pyIter (.ref l)) Q E s := by
  have hlt : l < s.heap.objs.size := by obtain ⟨_, e, _⟩ := hl; exact Heap.lt_size e
  refine wpAny_pyIter_tuple hl (h _ rfl ⟨⟨_, Heap.get?_push_size _ rfl, rfl, rfl⟩, hl.push _⟩ (fun b hb => ?_) (Nat.ne_of_lt hlt))
  show b < (s.heap.push _).objs.size
  rw [Heap.size_push]
  rcases List.mem_cons.mp hb with rfl | hb
  · exact Nat.lt_succ_self _
  · rcases List.mem_cons.mp hb with rfl | hb
    · exact Nat.lt_succ_of_lt hlt
    · cases hb
theorem kept_tup {h' : Heap} (hk : ∀ b o, b ∉ [s.heap.objs.size] → (s.heap.push { cls := .type "tuple_iterator", data := .fields #[.ref l, .int 0 0] }).get? b = some o → h'.get? b = some o) :
    ∀ b o, s.heap.get? b = some o → h'.get? b = some o := fun b o e => by
  refine hk b o (fun hm => ?_) (Heap.get?_push_of_some _ e)
  rcases List.mem_cons.mp hm with e1 | hm
  · exact absurd (e1 ▸ Heap.lt_size e) (Nat.lt_irrefl _)
  · cases hm
theorem max_intTup {xs : Array (Int × Tok)} {Q : Value → Shared → Prop} (hh : A.handled = none) (hl : s.heap.IsTuple l (intItems xs)) (hne : 0 < xs.size)
    (h : ∀ v h' tk, (intItems xs)[argBest (fun i j => decide (numAt xs i > numAt xs j)) (xs.size - 1)]? = some v → (∀ b o, s.heap.get? b = some o → h'.get? b = some o) → Q v { s with heap := h', toks := tk }) :
    wpAny (model prog w) A (call (.builtin "max") [.ref l]) Q E s := by
  refine call_max_walk (iter_intTup hl fun s₂ e st hfp hlI => ?_)
  subst e
  refine ⟨_, _, _, _, _, _, _, rfl, Walks.tuple (A := A.in1) hh _ l hlI (intItems xs), st, hfp, by simpa [intItems] using hne, CmpOf.ints_gt (numAt xs) (fun _ _ => intItems_at), fun v h' tk hP hk => ?_⟩
  exact h v h' tk (by simpa [intItems] using hP) (kept_tup hk)
theorem min_intTup {xs : Array (Int × Tok)} {Q : Value → Shared → Prop} (hh : A.handled = none) (hl : s.heap.IsTuple l (intItems xs)) (hne : 0 < xs.size)
    (h : ∀ v h' tk, (intItems xs)[argBest (fun i j => decide (numAt xs i < numAt xs j)) (xs.size - 1)]? = some v → (∀ b o, s.heap.get? b = some o → h'.get? b = some o) → Q v { s with heap := h', toks := tk }) :
    wpAny (model prog w) A (call (.builtin "min") [.ref l]) Q E s := by
  refine call_min_walk (iter_intTup hl fun s₂ e st hfp hlI => ?_)
  subst e
  refine ⟨_, _, _, _, _, _, _, rfl, Walks.tuple (A := A.in1) hh _ l hlI (intItems xs), st, hfp, by simpa [intItems] using hne, CmpOf.ints_lt (numAt xs) (fun _ _ => intItems_at), fun v h' tk hP hk => ?_⟩
  exact h v h' tk (by simpa [intItems] using hP) (kept_tup hk)
theorem max_rawT {its : List Value} {ns : List Int} {Q : Value → Shared → Prop} (hh : A.handled = none) (hl : s.heap.IsTuple l its.toArray) (hi : IntsAre its ns) (hne : 0 < ns.length)
    (h : ∀ h' tk M t', (∀ b o, s.heap.get? b = some o → h'.get? b = some o) → M ∈ ns → (∀ a, a ∈ ns → a ≤ M) → Q (.int M t') { s with heap := h', toks := tk }) : wpAny (model prog w) A (call (.builtin "max") [.ref l]) Q E s := by
  obtain ⟨xs, e⟩ := hi.allInts.items
  have hn : numsOf (intItems xs).toList = ns := by rw [← e]; exact hi.numsOf
  rw [nums_intItems] at hn
  subst hn
  rw [e] at hl
  have hsz : 0 < xs.size := by simpa using hne
  refine max_intTup hh hl hsz fun v h' tk hv hk => ?_
  obtain ⟨t, rfl⟩ := intItems_at hv
  obtain ⟨h1, h2⟩ := argBest_gt (numAt xs) (xs.size - 1)
  refine h h' tk _ t hk ?_ fun a ha => ?_
  · rw [numAt_eq]; exact PySem.getD_mem (by rw [List.length_map, Array.length_toList]; omega)
  · obtain ⟨j, hj, rfl⟩ := mem_getD ha
    rw [List.length_map, Array.length_toList] at hj
    rw [← numAt_eq]; exact h2 j (by omega)
theorem min_rawT {its : List Value} {ns : List Int} {Q : Value → Shared → Prop} (hh : A.handled = none) (hl : s.heap.IsTuple l its.toArray) (hi : IntsAre its ns) (hne : 0 < ns.length)
    (h : ∀ h' tk M t', (∀ b o, s.heap.get? b = some o → h'.get? b = some o) → M ∈ ns → (∀ a, a ∈ ns → M ≤ a) → Q (.int M t') { s with heap := h', toks := tk }) : wpAny (model prog w) A (call (.builtin "min") [.ref l]) Q E s := by
  obtain ⟨xs, e⟩ := hi.allInts.items
  have hn : numsOf (intItems xs).toList = ns := by rw [← e]; exact hi.numsOf
  rw [nums_intItems] at hn
  subst hn
  rw [e] at hl
  have hsz : 0 < xs.size := by simpa using hne
  refine min_intTup hh hl hsz fun v h' tk hv hk => ?_
  obtain ⟨t, rfl⟩ := intItems_at hv
  obtain ⟨h1, h2⟩ := argBest_lt (numAt xs) (xs.size - 1)
  refine h h' tk _ t hk ?_ fun a ha => ?_
  · rw [numAt_eq]; exact PySem.getD_mem (by rw [List.length_map, Array.length_toList]; omega)
  · obtain ⟨j, hj, rfl⟩ := mem_getD ha
    rw [List.length_map, Array.length_toList] at hj
    rw [← numAt_eq]; exact h2 j (by omega)
end
section
variable {X : Cx}
theorem cr_maxTI (hc : X.calm = true) : CallR X (.builtin "max") (fun vs H Q => ∃ (a : Addr) (ns : List Int), vs = [V.ref a] ∧ SqT X.K H a (ns.map V.int) ∧ 0 < ns.length ∧ ∀ m, m ∈ ns → (∀ y, y ∈ ns → y ≤ m) → Q (.int m) H) := by
  intro pins s σ H vs us Q I r h
  obtain ⟨a, ns, rfl, hs, hne, q⟩ := h
  obtain ⟨its, rv, hl, _⟩ := I.tuple hs
  rw [Vals.ref1 r]
  exact max_rawT (I.ok.hd hc) hl rv.ints hne fun h' tk m t' hk h1 h2 => ⟨.int _, H, I.kept hk, ⟨_, rfl⟩, q m h1 h2⟩
theorem cr_minTI (hc : X.calm = true) : CallR X (.builtin "min") (fun vs H Q => ∃ (a : Addr) (ns : List Int), vs = [V.ref a] ∧ SqT X.K H a (ns.map V.int) ∧ 0 < ns.length ∧ ∀ m, m ∈ ns → (∀ y, y ∈ ns → m ≤ y) → Q (.int m) H) := by
  intro pins s σ H vs us Q I r h
  obtain ⟨a, ns, rfl, hs, hne, q⟩ := h
  obtain ⟨its, rv, hl, _⟩ := I.tuple hs
  rw [Vals.ref1 r]
  exact min_rawT (I.ok.hd hc) hl rv.ints hne fun h' tk m t' hk h1 h2 => ⟨.int _, H, I.kept hk, ⟨_, rfl⟩, q m h1 h2⟩
def gMinU : List PV → Option RV
  | [.tup ps] => match intsP ps with
    | some (m :: r) => vI (lmin m r)
    | _ => none
  | _ => none
def gMaxU : List PV → Option RV
  | [.tup ps] => match intsP ps with
    | some (m :: r) => vI (lmax m r)
    | _ => none
  | _ => none
theorem c_minU (hc : X.calm = true) : CallOk X (.builtin "min") gMinU := fun F H0 H ev σ vs ps r Q er rs e hq => by
  unfold gMinU at e
  split at e
  · obtain ⟨v, rfl, rv⟩ := rs.one
    split at e
    · rename_i m r hi
      cases e
      rw [intsP_eq hi] at rv
      obtain ⟨t, rfl, ht⟩ := RepTup.ints (K := X.K) (F := F) (H := H) (ns := m :: r) rv
      refine sCl_of (cr_minTI hc) ⟨t, m :: r, rfl, ht, by simp, fun z hz hle => ?_⟩
      obtain ⟨h1, h2, h3⟩ := lmin_le r m
      have e1 : z = lmin m r := by
        have k1 : lmin m r ∈ m :: r := by
          rcases h3 with h3 | h3
          · rw [h3]; exact List.mem_cons_self
          · exact List.mem_cons_of_mem _ h3
        have k2 := hle _ k1
        have k3 : lmin m r ≤ z := by
          rcases List.mem_cons.mp hz with rfl | hz
          · exact h1
          · exact h2 z hz
        omega
      rw [e1]
      exact hq F _ H er.aft res_int
    · cases e
  · cases e
theorem c_maxU (hc : X.calm = true) : CallOk X (.builtin "max") gMaxU := fun F H0 H ev σ vs ps r Q er rs e hq => by
  unfold gMaxU at e
  split at e
  · obtain ⟨v, rfl, rv⟩ := rs.one
    split at e
    · rename_i m r hi
      cases e
      rw [intsP_eq hi] at rv
      obtain ⟨t, rfl, ht⟩ := RepTup.ints (K := X.K) (F := F) (H := H) (ns := m :: r) rv
      refine sCl_of (cr_maxTI hc) ⟨t, m :: r, rfl, ht, by simp, fun z hz hle => ?_⟩
      obtain ⟨h1, h2, h3⟩ := lmax_le r m
      have e1 : z = lmax m r := by
        have k1 : lmax m r ∈ m :: r := by
          rcases h3 with h3 | h3
          · rw [h3]; exact List.mem_cons_self
          · exact List.mem_cons_of_mem _ h3
        have k2 := hle _ k1
        have k3 : z ≤ lmax m r := by
          rcases List.mem_cons.mp hz with rfl | hz
          · exact h1
          · exact h2 z hz
        omega
      rw [e1]
      exact hq F _ H er.aft res_int
    · cases e
  · cases e
end
theorem gMinU_ok (m : Int) (r : List Int) : gMinU [.tup ((m :: r).map .int)] = some (.int (lmin m r), false) := by
  show (match intsP ((m :: r).map PV.int) with | some (m :: r) => vI (lmin m r) | _ => none) = _
  rw [intsP_map]; rfl
theorem gMaxU_ok (m : Int) (r : List Int) : gMaxU [.tup ((m :: r).map .int)] = some (.int (lmax m r), false) := by
  show (match intsP ((m :: r).map PV.int) with | some (m :: r) => vI (lmax m r) | _ => none) = _
  rw [intsP_map]; rfl
theorem lmin_lt (m : Int) (r : List Int) (z : Int) : (lmin m r < z) ↔ ∃ i ∈ m :: r, i < z := by
  obtain ⟨h1, h2, h3⟩ := lmin_le r m
  constructor
  · intro h
    refine ⟨lmin m r, ?_, h⟩
    rcases h3 with h3 | h3
    · rw [h3]; exact List.mem_cons_self
    · exact List.mem_cons_of_mem _ h3
  · rintro ⟨i, hi, h⟩
    rcases List.mem_cons.mp hi with rfl | hi
    · omega
    · have := h2 i hi; omega
theorem lmax_ge (m : Int) (r : List Int) (z : Int) : (z ≤ lmax m r) ↔ ∃ i ∈ m :: r, z ≤ i := by
  obtain ⟨h1, h2, h3⟩ := lmax_le r m
  constructor
  · intro h
    refine ⟨lmax m r, ?_, h⟩
    rcases h3 with h3 | h3
    · rw [h3]; exact List.mem_cons_self
    · exact List.mem_cons_of_mem _ h3
  · rintro ⟨i, hi, h⟩
    rcases List.mem_cons.mp hi with rfl | hi
    · omega
    · have := h2 i hi; omega
end Pv

set_option Elab.async false
set_option linter.all false
set_option maxRecDepth 100000
namespace L2
open PySem PySem.Spec
open PyProof.Rows hiding St
section
variable {X : Cx} {a b c d : Expr} {pos : Pos} {ta tb tc td : TE}
/-- a op1 b op2 c op3 d -/
def tChain3 (r r' r'' : R2) (ta tb tc td : TE) : TE := fun σ H Q => ta σ H fun x H1 => tb σ H1 fun y H2 => r x y H2 fun z H3 => ∃ k, z = .bl k ∧
  (if k = true then tc σ H3 fun w' H4 => r' y w' H4 fun z2 H5 => ∃ k2, z2 = .bl k2 ∧ (if k2 = true then td σ H5 fun u' H6 => r'' w' u' H6 Q else Q (.bl false) H5) else Q (.bl false) H3)
theorem pe_chain3 {op op' op'' : CmpOp} {r r' r'' : R2} (ho : OpR X (compareOp op) r) (ho' : OpR X (compareOp op') r') (ho'' : OpR X (compareOp op'') r'') (ha : PE X a ta) (hb : PE X b tb) (hc : PE X c tc) (hd : PE X d td)
    (hm : lastMarks [op, op', op''] [b, c, d] = false := by with_unfolding_all rfl) : PE X (.Compare a [op, op', op''] [b, c, d] pos) (tChain3 r r' r'' ta tb tc td) := by
  refine ⟨fun pins s σ H Q I h => ?_⟩
  refine Compare_chain (thn (ha.run pins s σ H _ I h) fun v s1 ⟨x, H1, I1, r1, q1⟩ => chain_link (thn (hb.run pins s1 σ H1 _ I1 q1) fun u s2 ⟨y, H2, I2, r2, q2⟩ =>
    thn (ho pins s2 σ H2 x y v u _ I2 r1 r2 q2) fun d s3 ⟨z, H3, I3, r3, k, e, q3⟩ => ?_)) hm
  subst e
  cases r3
  refine wpAny_truthy_bool ?_
  cases k with
  | false => exact ite_ff ⟨.bl false, H3, I3, rfl, q3⟩
  | true =>
    refine ite_tt (chain_link (thn (hc.run pins s3 σ H3 _ I3 q3) fun w' s4 ⟨z', H4, I4, r4, q4⟩ => thn (ho' pins s4 σ H4 y z' u w' _ I4 r2 r4 q4) fun d' s5 ⟨z2, H5, I5, r5, k2, e2, q5⟩ => ?_))
    subst e2
    cases r5
    refine wpAny_truthy_bool ?_
    cases k2 with
    | false => exact ite_ff ⟨.bl false, H5, I5, rfl, q5⟩
    | true => exact ite_tt (chain_last (thn (hd.run pins s5 σ H5 _ I5 q5) fun w2 s6 ⟨z3, H6, I6, r6, q6⟩ => ho'' pins s6 σ H6 z' z3 w' w2 Q I6 r4 r6 q6))
end
end L2
namespace Pv
open PySem PySem.Spec L2
open PyProof.Rows hiding St
section
variable {X : Cx} {W : WX} {cm : CM}
/-! ### a op b op c op d -/
def eChain3 (g g' g'' : PV → PV → Option RV) (a b c d : M PV) : M RV := bnd a fun x => bnd b fun y => bnd (opt (g x y)) fun r => match r.1 with
  | .bl true => bnd c fun z => bnd (opt (g' y z)) fun r2 => match r2.1 with
    | .bl true => bnd d fun u => opt (g'' z u)
    | .bl false => ret (.bl false, false)
    | _ => bad
  | .bl false => ret (.bl false, false)
  | _ => bad
theorem chain3 {op op' op'' : CmpOp} {g g' g'' : PV → PV → Option RV} {a b c d : Expr} {ma mb mc md : M PV} (ho : OpOk X (compareOp op) g) (ho' : OpOk X (compareOp op') g') (ho'' : OpOk X (compareOp op'') g'') (ha : SP X W cm a ma) (hb : SP X W cm b mb) (hc : SP X W cm c mc) (hd : SP X W cm d md) {F : FS} {H0 H : Hp} {ev : SL} {σ : St} {Q : VK} (r : ER X.K F H0 ev σ H)
    (h : Wt X.K W cm F H0 ev σ H (eChain3 g g' g'' ma mb mc md) fun r ev' F' H' => ∀ v, ResR X.K F' H0 ev' σ H H' r v → Q v H') : tChain3 (sOp X (compareOp op)) (sOp X (compareOp op')) (sOp X (compareOp op'')) (sE X a) (sE X b) (sE X c) (sE X d) σ H Q := by
  refine ha.go r (h.bnd.mono fun p ev1 F1 H1 a1 ⟨n1, h1⟩ x rx => ?_)
  refine hb.go a1.er (h1.bnd.mono fun q ev2 F2 H2 a2 ⟨n2, h2⟩ y ry => ?_)
  refine op_opt ho a2.er (rx.mono a2.same a2.sub) ry h2.bnd fun z F3 H3 v a3 rz ⟨n3, h3⟩ => ?_
  obtain ⟨p', fr⟩ := z
  cases p' with
  | bl k =>
    have e : v = .bl k := rz.top
    refine ⟨k, e, ?_⟩
    cases k with
    | true =>
      refine iteT ?_
      refine hc.go a3.er (h3.bnd.mono fun w ev4 F4 H4 a4 ⟨n4, h4⟩ u ru => ?_)
      refine op_opt ho' a4.er ((ry.mono a3.same a3.sub).mono a4.same a4.sub) ru h4.bnd fun z F5 H5 v2 a5 rz2 ⟨n5, h5⟩ => ?_
      obtain ⟨p2, fr2⟩ := z
      cases p2 with
      | bl k2 =>
        have e2 : v2 = .bl k2 := rz2.top
        refine ⟨k2, e2, ?_⟩
        cases k2 with
        | true =>
          refine iteT ?_
          refine hd.go a5.er (h5.bnd.mono fun w2 ev6 F6 H6 a6 ⟨n6, h6⟩ u2 ru2 => ?_)
          refine op_opt ho'' a6.er ((ru.mono a5.same a5.sub).mono a6.same a6.sub) ru2 h6 fun z F7 H7 v a7 rz hp => ?_
          exact hp v (rz.later (a1.same.trans (a2.same.trans (a3.same.trans (a4.same.trans (a5.same.trans a6.same))))))
        | false => exact iteF (Wt.ret a5.er h5 _ res_bl)
      | _ => exact h5.elim
    | false => exact iteF (Wt.ret a3.er h3 _ res_bl)
  | _ => exact h3.elim
theorem e_chain3 {op op' op'' : CmpOp} {g g' g'' : PV → PV → Option RV} {a b c d : Expr} {ma mb mc md : M PV} {pos : Pos} (ho : OpOk X (compareOp op) g) (ho' : OpOk X (compareOp op') g') (ho'' : OpOk X (compareOp op'') g'') (ha : SP X W cm a ma) (hb : SP X W cm b mb) (hc : SP X W cm c mc) (hd : SP X W cm d md)
    (hm : lastMarks [op, op', op''] [b, c, d] = false := by with_unfolding_all rfl) : SE X W cm (.Compare a [op, op', op''] [b, c, d] pos) (eChain3 g g' g'' ma mb mc md) := .mk' fun F H0 H ev σ Q r h =>
  sE_of (pe_chain3 sOp_ok sOp_ok sOp_ok sE_pe sE_pe sE_pe sE_pe hm) (chain3 ho ho' ho'' ha hb hc hd r h)
end
end Pv

set_option Elab.async false
set_option linter.all false
set_option maxRecDepth 100000
namespace Pv
open PySem PySem.Spec L2
open PyProof.Rows hiding St
/-! ### t * k of a tuple -/
theorem tuple_mulW0 (l : Addr) (items : Array Value) (n : Nat) (dd : Option Addr) (sl : Array (Option Value)) (x : Int) (u : Tok) (c0 : (decide (x < -2 ^ 63) || decide (x ≥ 2 ^ 63)) = false) (c1 : items.isEmpty = true) :
    Meets (Builtin.«tuple.__mul__» { pos := [Value.ref l, Value.int x u] }) fun A R s => s.heap.get? l = some { cls := Value.type "tuple", dict := dd, data := Data.seq items n, slots := sl } ∧ R (Except.ok (Flow.ret (Value.ref l))) s :=
  Meets.of_wp fun prog w A R s h => by
    obtain ⟨hp, g, d, tk, os⟩ := s
    obtain ⟨hl, h⟩ := h
    have f1 := AutoSeq1.idx_int
    have e0 : ¬ ((decide (x < -2 ^ 63) || decide (x ≥ 2 ^ 63)) = true) := by rw [c0]; decide
    have e1 : (items.isEmpty || x == 1) = true := by rw [c1]; rfl
    refine wpAny_ite_false (decide_eq_false e0) ?_
    refine wpAny_bind ?_
    refine wpAny_bind ?_
    refine wpAny_bind ?_
    refine wpAny_load' hl ?_
    refine wpAny_pure ?_
    refine wpAny_pure ?_
    refine wpAny_ite_true (decide_eq_true e1) ?_
    refine wpAny_bind ?_
    refine wpAny_bind ?_
    refine wpAny_bind ?_
    refine wpAny_loadPart' hl ?_
    refine wpAny_pure ?_
    refine wpAny_pure ?_
    refine wpAny_ite_true rfl ?_
    refine wpAny_bind ?_
    refine wpAny_rule ?_
    exact wpAny_pure ⟨_, rfl, h⟩
section
variable {X : Cx}
theorem rep_X : OpR X (binaryOp .Mult) (fun x y H Q => ∃ l k xs, x = .ref l ∧ y = .int k ∧ SqT X.K H l xs ∧ 2 ≤ k ∧ k ≤ 1000 ∧ xs.length ≤ 1000 ∧ (xs = [] → Q (.ref l) H) ∧ (xs ≠ [] → NewT (List.replicate k.toNat xs).flatten Q H)) := by
  rintro pins s σ H x y v u Q I rx ry ⟨l, k, xs, rfl, rfl, hT, h1, h2, hz, q1, q2⟩
  cases rx
  obtain ⟨t, rfl⟩ := ry
  obtain ⟨its, r, p, hs⟩ := I.tuple hT
  obtain ⟨⟨cls, dd, data, sl⟩, ho, hc, n, hd⟩ := p
  simp only at hc hd
  subst hc hd
  have c0 : (decide (k < -2 ^ 63) || decide (k ≥ 2 ^ 63)) = false := by rw [decide_eq_false (by omega), decide_eq_false (by omega)]; rfl
  have hle : its.length = xs.length := r.length.symm
  refine wpAny_binaryOp_repeat_ref (of_decide_eq_true rfl) ⟨_, ho, rfl⟩ (fun s' => typeIs_int s' k t) noFill_tuple_mul F.fills_int_mul F.slot_int_rmul repeat_tuple F.slot_int_index.lookup (call_meets F.slot_int_rmul (typeIs_int s k t) F.entry_int_rmul (F.args_int_rmul_2 _ _) (int_rmul_tuple k t l its.toArray n dd sl) ⟨ho, rfl, ⟨_, ho, rfl⟩, ?_⟩)
  by_cases c : xs = []
  · have e0 : its = [] := by
      subst c
      exact List.eq_nil_of_length_eq_zero hle
    subst e0
    refine call_meets F.slot_tuple_mul ⟨_, ho, rfl⟩ F.entry_tuple_mul (F.args_tuple_mul_2 _ _) (tuple_mulW0 l _ n dd sl k t c0 rfl) ⟨ho, ?_⟩
    exact ⟨.ref l, H, I, rfl, q1 c⟩
  · have hi : its.toArray.isEmpty = false := by
      cases its with
      | nil =>
        have : xs = [] := List.eq_nil_of_length_eq_zero hle.symm
        exact absurd this c
      | cons a b => rfl
    have hs0 : its.toArray.size = xs.length := by rw [List.size_toArray, hle]
    have m1 : k.toNat * xs.length ≤ 1000 * 1000 := Nat.mul_le_mul (by omega) hz
    have m2 : ((xs.length : Nat) : Int) * k ≤ 1000000 := by
      have : ((xs.length : Nat) : Int) * k = ((k.toNat * xs.length : Nat) : Int) := by
        rw [Nat.mul_comm, Int.natCast_mul, Int.toNat_of_nonneg (by omega)]
      omega
    have flen : (List.replicate k.toNat its).flatten.length ≤ sizeLine := by
      rw [PyProof.Rows.lm_len_rep_flat, hle, sz_eq, SZ]
      omega
    refine call_meets F.slot_tuple_mul ⟨_, ho, rfl⟩ F.entry_tuple_mul (F.args_tuple_mul_2 _ _) (tuple_mulW l its.toArray n dd sl k t c0 ?_ ?_ ?_ ?_ ?_) ⟨ho, ?_⟩
    · rw [hi, Bool.false_or]
      exact beq_eq_false_iff_ne.mpr (by omega)
    · rw [hi, Bool.or_false]
      exact decide_eq_false (by omega)
    · rw [hs0]
      omega
    · show decide (((its.toArray.size : Nat) : Int) * k > ((sizeLine : Nat) : Int)) = false
      rw [hs0, sz_eq, SZ]
      exact decide_eq_false (by omega)
    · rw [size_rep, List.size_toArray]
      exact flen
    · rw [size_rep]
      exact Inv.newTup I (fun _ _ e => e) (Vals.rep r k.toNat) (by rw [PyProof.Rows.lm_len_rep_flat, sz_eq, SZ]; omega) (q2 c)
def gMulT : PV → PV → Option RV
  | .tup ps, .int k => if 2 ≤ k ∧ k ≤ 1000 ∧ ps.length ≤ 1000 then some (.tup (List.replicate k.toNat ps).flatten, false) else none
  | _, _ => none
theorem RepL.rep {K : Fr} {F : FS} {H : Hp} {xs : List V} {ps : List PV} (h : RepL K F H xs ps) : ∀ n : Nat, RepL K F H (List.replicate n xs).flatten (List.replicate n ps).flatten
  | 0 => by
    show RepL K F H [] []
    unfold RepL
    trivial
  | n + 1 => by
    rw [List.replicate_succ, List.replicate_succ, List.flatten_cons, List.flatten_cons]
    exact h.append (RepL.rep h n)
theorem o_mulT : OpOk X (binaryOp .Mult) gMulT := .mk fun F H0 H ev σ x y p q r Q er rx ry e hq => by
  unfold gMulT at e
  split at e
  · rename_i ps k
    split at e
    · rename_i hz
      cases e
      have rx' : Rep X.K F H x (.tup ps) := rx
      have ey : y = .int _ := ry
      subst ey
      unfold Rep at rx'
      obtain ⟨a, xs, rfl, hx, r1⟩ := rx'
      refine ⟨_, rep_X, a, k, xs, rfl, rfl, hx.sqT, hz.1, hz.2.1, by rw [r1.length]; exact hz.2.2, fun z => ?_, fun z p o hp hc hd => ?_⟩
      · refine hq F _ H er.aft ?_
        show Rep X.K F H _ (.tup _)
        unfold Rep
        refine ⟨a, xs, rfl, hx, ?_⟩
        subst z
        have := RepL.rep r1 k.toNat
        have e2 : (List.replicate k.toNat ([] : List V)).flatten = [] := by simp
        rwa [e2] at this
      · exact hq F _ _ (er.fresh hp) (er.newT hp hc hd (RepL.rep r1 k.toNat))
    · cases e
  · cases e
end
@[simp] theorem gMulT_ti {ps : List PV} {k : Int} : gMulT (.tup ps) (.int k) = if 2 ≤ k ∧ k ≤ 1000 ∧ ps.length ≤ 1000 then some (.tup (List.replicate k.toNat ps).flatten, false) else none := rfl
end Pv

set_option Elab.async false
set_option linter.all false
set_option maxRecDepth 100000
/-! list comprehensions in the suite of an except .. as e -/
namespace Pv
open PySem PySem.Spec L2
open PyProof.Rows hiding St
open L2H (HotC PIH pi_range1H ps_forH)
private def hotY (X : Cx) (s : Shared) (H : Hp) (scope : Scope) (env : Env) (fp : List Addr) : Cx := { X.blk s H scope env fp with pn := X.pn }
private theorem ok_pn {Y : Cx} {pn : List (Addr × Obj)} (o : Y.Ok) : Cx.Ok { Y with pn := pn } := ⟨o.mod, o.kind, o.glob, o.blt, o.above, o.inj, o.has, o.cab, o.hd, o.frames, o.stk, o.exf, o.bs, o.bsz, o.noex, o.exfs, o.funs, o.frf⟩
private theorem to_hot {Y : Cx} {pn : List (Addr × Obj)} {σ : L2.St} {H : Hp} {s : Shared} (h0 : Y.pn = []) (I : Inv Y pn σ H s) : Inv { Y with pn := pn } [] σ H s :=
  ⟨ok_pn I.ok, I.os, I.bare, I.base, I.loc, I.cell, I.free, I.freeC, fun p hp => I.pin p (by rw [h0]; simpa using hp), I.hok, I.len⟩
private theorem of_hot {Y : Cx} {pn : List (Addr × Obj)} {σ : L2.St} {H : Hp} {s : Shared} (h0 : Y.pn = []) (I : Inv { Y with pn := pn } [] σ H s) : Inv Y pn σ H s :=
  ⟨by have o := ok_pn (pn := Y.pn) I.ok; exact o, I.os, I.bare, I.base, I.loc, I.cell, I.free, I.freeC, fun p hp => I.pin p (by rw [h0] at hp; simpa using hp), I.hok, I.len⟩

theorem lc_hot {X : Cx} {pins : List (Addr × Obj)} {s : Shared} {σ : L2.St} {H : Hp} {Q : VK} {elt tg iter : Expr} {ifs : List Expr} {scope : Scope} {own : List (PySem.Str × Nat)} {pos pos' : Pos} {wi : TI} {g : TG} {tt : TT} {te : TE}
    (hx : HotC X) (hN : X.N.Nodup) (I : Inv X pins σ H s) (hpi : PIH X tg iter wi) (ok : BlkOk X.N X.env.scope scope own)
    (hg : ∀ (s : Shared) (H : Hp) (C : Addr) (cl : List (PySem.Str × Addr)) (fp : List Addr), PG (X.blk s H scope (compEnvC scope cl C X.env) fp) tg g)
    (ht : ∀ (s : Shared) (H : Hp) (C : Addr) (cl : List (PySem.Str × Addr)) (fp : List Addr), PTs (X.blk s H scope (compEnvC scope cl C X.env) fp) ifs tt)
    (he : ∀ (s : Shared) (H : Hp) (C : Addr) (cl : List (PySem.Str × Addr)) (fp : List Addr), PE (X.blk s H scope (compEnvC scope cl C X.env) fp) elt te)
    (hs : ∀ x, foldedSetIterable iter X.env x = pure x) (h : tLc wi g tt te (own.map (·.2)) σ H Q) :
    wpAny (model X.prog X.w) X.A (comprehension (.ListComp elt [⟨tg, iter, ifs, 0⟩] scope pos) scope X.env pos' (newList []) false (eval iter X.env) none) (EP X pins σ Q) X.xe s := by
  have hfree : ∀ y, y ∈ scope.names → y.2 = NameKind.free → ∃ c, X.env.cells.lookup y.1 = some c := fun y hy hk => by
    rcases ok.free y hy hk with e | e
    · exact I.ok.has y.1 (.inl e)
    · exact I.ok.has y.1 (.inr e)
  refine wpAny_comprehension_free rfl hs (closure_ok hfree) ok.kind (fun y hy hk => by rw [ok.uniq y hy, hk]) ?_
  refine thn (hpi.run pins s σ H _ I h) fun v s1 q => thn q fun itv s2 q => ?_
  obtain ⟨it, fp, tn, J, H2, rfl, I2, T, t0, fo, R⟩ := q
  have fobj := T.obj 0 s2.heap t0
  refine wpAny_newObj_type ?_ (by show (0 : Nat) ≤ _; exact Nat.zero_le _)
  have D0 : H2 s2.heap.objs.size = none := I2.hok.fresh (Nat.le_refl _)
  obtain ⟨W, ⟨m0, w0⟩, loopW⟩ := R s2.heap.objs.size D0
  have I3 := I2.lnew (ys := []) (its := []) (t' := s2.toks) PySem.Paired.nil (Nat.zero_le _)
  have t3 : tn 0 (s2.heap.push { cls := PySem.Value.type "list", data := PySem.Data.seq ([] : List PySem.Value).toArray }) := T.keep 0 _ _ t0 fun b _ o ho => Heap.get?_push_of_some _ ho
  have fo3 : ∀ b ∈ fp, FpOk X pins (upd H2 s2.heap.objs.size (.lst [])) b := fun b hb => by
    obtain ⟨o, e, _⟩ := fobj b hb
    have hne : b ≠ s2.heap.objs.size := Nat.ne_of_lt (Heap.lt_size e)
    obtain ⟨f1, f2⟩ := fo b hb
    exact ⟨by rw [upd_ne hne]; exact f1, f2⟩
  clear I2 R fo t0
  revert I3 t3 fo3 w0
  generalize hs3 : ({ heap := s2.heap.push { cls := PySem.Value.type "list", data := PySem.Data.seq ([] : List PySem.Value).toArray }, gens := s2.gens, drawn := s2.drawn, toks := s2.toks, os := s2.os } : Shared) = s3
  have hh3 : s2.heap.push { cls := PySem.Value.type "list", data := PySem.Data.seq ([] : List PySem.Value).toArray } = s3.heap := by rw [← hs3]
  rw [hh3]
  generalize upd H2 s2.heap.objs.size (.lst []) = H3
  intro w0 I3 t3 fo3
  have fobj3 := T.obj 0 s3.heap t3
  refine newEnv_comp ?_
  have I4 := block_start (fp := fp) I3 ok hN (fun b hb => ⟨fo3 b hb, by
    obtain ⟨o, e, _⟩ := fobj3 b hb
    exact Heap.lt_size e⟩)
  generalize hs4 : ({ heap := pushCells (s3.heap.push { cls := PySem.Value.type "dict", data := PySem.Data.dict #[] }) scope.names, gens := s3.gens, drawn := s3.drawn, toks := s3.toks, os := s3.os } : Shared) = s4 at I4 ⊢
  have keep4 : ∀ b o, s3.heap.get? b = some o → s4.heap.get? b = some o := fun b o e => by
    rw [← hs4]; exact pushCells_keeps _ _ _ _ (Heap.get?_push_of_some _ e)
  have t4 : tn 0 s4.heap := T.keep 0 _ _ t3 fun b _ o e => keep4 b o e
  -- the block's own frame
  let C := s3.heap.objs.size
  let cenv := compEnvC scope (cellsFrom (s3.heap.objs.size + 1) scope.names (cloFrom X.env.cells scope.names [])) s3.heap.objs.size X.env
  let Y := X.blk s3 H3 scope cenv fp
  have hC : ∀ b o, s3.heap.get? b = some o → b ≠ C := fun b o e => Nat.ne_of_lt (Heap.lt_size e)
  have nfs : ∀ b, b ∉ X.fs → b ≠ X.env.locals → b ∉ frs X.stack := fun b h1 h2 => by
    rcases I3.ok.stk with e | ⟨e, e2⟩
    · rw [e]; exact h1
    · rw [e]
      intro hm
      rcases List.mem_filterMap.mp hm with ⟨x, hx1, hx2⟩
      rcases List.mem_cons.mp hx1 with z | z
      · subst z; rw [e2] at hx2; injection hx2 with hx2; exact h2 hx2.symm
      · exact h1 (List.mem_filterMap.mpr ⟨x, z, hx2⟩)
  have I5 : Inv Y X.pn (wipe σ (own.map (·.2))) H3 s4 := I4.pins_of fun p hp => by
    obtain ⟨e1, e2, e3, e4, e5⟩ := I3.pin p (List.mem_append_left _ hp)
    exact ⟨keep4 _ _ e1, e2, hC _ _ e1, nfs _ e4 e3, e5⟩
  have hYok : Y.Ok := I4.ok
  have hYH : HotC { Y with pn := X.pn } := hx
  have foY : ∀ {H' : Hp} {q : List (Addr × Obj)}, (∀ p ∈ q, p ∈ X.pn) → ∀ b ∈ fp, H' b = none → FpOk Y q H' b := fun hq b hb e => by
    obtain ⟨z1, z2⟩ := hYok.exf b hb
    refine ⟨e, z1, hYok.exfs b hb, .inl hb, z2, fun p hp => ?_⟩
    obtain ⟨_, _, _, _, _, f⟩ := fo3 b hb
    exact f p (List.mem_append_left _ (hq p hp))
  have foYh : ∀ {H' : Hp}, ∀ b ∈ fp, H' b = none → FpOk { Y with pn := X.pn } [] H' b := fun b hb e => by
    obtain ⟨z1, z2⟩ := hYok.exf b hb
    refine ⟨e, z1, hYok.exfs b hb, .inl hb, z2, fun p hp => ?_⟩
    obtain ⟨_, _, _, _, _, f⟩ := fo3 b hb
    exact f p (List.mem_append_left _ (by simpa using hp))
  have key : codeAny (model X.prog X.w) X.A (Code.compLoop (.ListComp elt [⟨tg, iter, ifs, 0⟩] scope pos) 0 (.ref it) (.ref s2.heap.objs.size) cenv) (compPost (model X.prog X.w) X.A X.xe none (EP X pins σ Q) (.ref s2.heap.objs.size) C) s4 := by
    refine compLoop_any (fun n s => ∃ i H1, W i n H1 ∧ Inv Y X.pn (wipe σ (own.map (·.2))) H1 s ∧ (∀ b ∈ fp, H1 b = none) ∧ tn i s.heap) ?_ m0 ⟨0, H3, w0, I5, fun b hb => (fo3 b hb).1, t4⟩
    rintro n s ⟨i, H1, w1, I6, f6, t6⟩
    have I6h := to_hot rfl I6
    rcases loopW i n H1 w1 with ⟨stop, hQ⟩ | ⟨go, Nx, nx, body⟩
    · refine thn (T.done { Y with pn := X.pn } rfl rfl rfl hYH i [] s _ H1 _ I6h (fun b hb => foYh b hb (f6 b hb)) t6 stop) ?_
      rintro r s1 ⟨rfl, I7h⟩
      have I7 := of_hot rfl I7h
      obtain ⟨m, hm, _⟩ := I7.loc
      refine ⟨m, hm, fun h' sb => ?_⟩
      have I8 : Inv X pins σ H1 s1 := I3.call' (ch := fp) I7.os I7.base I7.hok I7.bare fun b hb => by
        obtain ⟨z1, z2, z3, z4, z5, z6⟩ := fo3 b hb
        exact ⟨z4, z2, z5, z6⟩
      have hcl : s3.heap.objs.size > X.env.locals := by
        obtain ⟨m, ⟨_, _, _, e, _⟩, _⟩ := I3.loc
        exact Heap.lt_size e
      refine ⟨.ref s2.heap.objs.size, H1, I8.turned (it := C) (fun b o hb e => by rw [sb.2 b hb]; exact e) I7.free (Nat.ne_of_gt hcl) (.inr (Nat.le_trans I3.ok.above (Nat.le_of_lt hcl))) (fun x c e => ?_) (fun p hp => ?_), rfl, hQ⟩
      · obtain ⟨v, _, hv, _⟩ := I3.cell x c e
        exact hC _ _ hv
      · exact hC _ _ (I3.pin p hp).1
    · refine thn (T.item { Y with pn := X.pn } rfl rfl rfl hYH i [] s _ H1 _ I6h (fun b hb => foYh b hb (f6 b hb)) t6 go) ?_
      rintro r s1 ⟨u, rfl, q⟩
      refine thn q ?_
      rintro x1 s2' ⟨x, H7, I7h, ru, yl, t7, f7⟩
      have I7 := of_hot rfl I7h
      have fob7 := T.obj _ _ t7
      have I7p := I7.pinned (fp := fp) (fun b hb => foY (fun p hp => hp) b hb (f7 b hb)) fob7
      -- what pins give back
      have back : ∀ {σ' : L2.St} {H' : Hp} {s' : Shared}, Inv Y (X.pn ++ pinsAt fp s2'.heap) σ' H' s' → wipe σ' (own.map (·.2)) = wipe σ (own.map (·.2)) → (∃ m', m' < n ∧ W (i + 1) m' H') → ∃ m, m < n ∧ ∃ i H1, W i m H1 ∧ Inv Y X.pn (wipe σ (own.map (·.2))) H1 s' ∧ (∀ b ∈ fp, H1 b = none) ∧ tn i s'.heap := by
        intro σ' H' s' I' hw ⟨m', lt, w'⟩
        refine ⟨m', lt, i + 1, H', w', ?_, fun b hb => ?_, T.keep _ _ _ t7 fun b hb o e => ?_⟩
        · refine I'.unpinned.weak (by rw [← hw, wipe_length]) fun j v e => ?_
          rw [← hw] at e
          exact (wipe_some e).1
        · obtain ⟨o, e, _⟩ := fob7 b hb
          exact (I'.pin (b, o) (List.mem_append_right _ (List.mem_append_right _ (mem_pinsAt hb e)))).2.1
        · exact (I'.pin (b, o) (List.mem_append_right _ (List.mem_append_right _ (mem_pinsAt hb e)))).1
      refine thnF ((hg s3 H3 C _ fp).run _ _ _ _ x u _ I7p ru (body x H7 yl)) ?_
      rintro y1 s5 ⟨σ2, H5, I8, hw, htt⟩
      refine thnF ((ht s3 H3 C _ fp).run _ _ _ _ _ I8 htt) ?_
      rintro b s6 ⟨H6, I9, hb⟩
      cases b with
      | false =>
        rw [if_neg (by simp)] at hb ⊢
        exact back I9 hw (nx _ hb)
      | true =>
        rw [if_pos rfl] at hb ⊢
        refine thnF ((he s3 H3 C _ fp).run _ _ _ _ _ I9 hb) ?_
        rintro v s7 ⟨y, H8, I10, ry, acc, ea, la, na⟩
        refine app_ok (X := Y) I10 ea la ry fun s8 I11 => back I11 hw (nx _ na)
  refine codeAny_compStart_list key ?_
  exact T.self X.A 0 s4 _ _ t4 key

section
variable {X : Cx} {W : WX} {cm : CM}
structure SIH (X : Cx) (W : WX) (cm : CM) (tg iter : Expr) (m : M (List PV)) : Prop where
  ex : ∃ wi, PIH X tg iter wi ∧ ∀ {F : FS} {H0 H : Hp} {ev : SL} {σ : L2.St} {R : It → Hp → Prop}, ER X.K F H0 ev σ H → (Wt X.K W cm F H0 ev σ H m fun ps ev' F' H' => ∀ J F2, Aft X.K F H0 ev ev' σ H F2 H' → (∀ a, F' a → F2 a) → ItOk X.K F2 H' J ps → R J H') → wi σ H R
theorem i_range1H {tg a : Expr} {m : M (List PV)} {p pos : Pos} (hm : X.mg "range" = none) (s : SK X W cm [a] m) (hg : Gl X "range" := by rfl) (hs : starEach [a] X.env = [(false, eval a X.env)] := by rfl)   : SIH X W cm tg (.Call (.Name "range" p) [a] [] pos) (mRng1 m) := ⟨_, pi_range1H hg hm sA_pa hs, fun {F H0 H ev σ R} r h => by
  refine s.go r (h.bnd.mono fun ps ev1 F1 H1 a1 hh vs rs => ?_)
  have h2 := hh.2
  split at h2
  · rename_i j
    obtain ⟨v, rfl, rv⟩ := rs.one
    have ev0 : v = .int j := rv
    subst ev0
    split at h2
    · rename_i c
      unfold okR at c
      have c' := of_decide_eq_true c
      exact ⟨j, rfl, c'.1, c'.2, Wt.ret (P := fun ps ev' F' H' => ∀ J F2, Aft X.K F H0 ev ev' σ H F2 H' → (∀ a, F' a → F2 a) → ItOk X.K F2 H' J ps → R J H') a1.er h2 _ F1 a1 (fun _ h => h) itr_ok⟩
    · exact h2.elim
  · exact h2.elim⟩
theorem s_forH {tg iter : Expr} {body : List Stmt} {mi : M (List PV)} {t : PV → SL → Option SL} {mb : M Fl} {pos : Pos} {js : List Nat} (hp : PassesOwn (model X.prog X.w) X.A X.env X.xe) (hc : HotC X) (si : SIH X W cm tg iter mi) (sg : SG X W tg t js) (sb : SB X W cm body mb)
    (hs : ∀ x, foldedSetIterable iter X.env x = pure x := by intro _; rfl) : SS X W cm (.For tg iter body [] pos) (bnd mi (loop t mb)) := ⟨fun {F0 F H0 H ev σ D} b h => by
  obtain ⟨wi, hpi, hwi⟩ := si.ex
  refine sS_of (ps_forH hp hc hpi sG_pg sSs_ps hs) ?_
  refine hwi b.er ((h.expr b).mono fun ps ev1 F1 H1 a1 hh J F2 a2 f12 it => ?_)
  have hl : Ws X.K W cm F0 F2 H0 D ev1 σ H1 (loop t mb ps) := by
    have h2 := hh.2
    unfold Ws at h2 ⊢
    have up : ∀ {F' ev' σ' H'}, AS X.K F0 F2 H0 H1 F' ev' σ' H' → AS X.K F0 F1 H0 H1 F' ev' σ' H' := fun {F' ev' σ' H'} a => ⟨a.bs, fun x h => a.sub x (f12 x h), ⟨a.keep.tup, a.keep.frz, fun x o f => a.keep.lst x o (f12 x f)⟩⟩
    cases q : loop t mb ps ev1 with
    | ok f ev' =>
      cases f with
      | nx => rw [q] at h2; exact fun F' σ' H' a => h2 F' σ' H' (up a)
      | bk => rw [q] at h2; exact fun F' σ' H' a => h2 F' σ' H' (up a)
      | ct => rw [q] at h2; exact fun F' σ' H' a => h2 F' σ' H' (up a)
      | rt r => rw [q] at h2; exact h2
    | exc c ev' => rw [q] at h2; exact fun F' σ' H' a => h2 F' σ' H' (up a)
    | bad => rw [q] at h2; exact h2
  have b2 := (b.aft a2).bs
  refine ⟨fun i n σ' H' => n = ps.length - i ∧ i ≤ ps.length ∧ ∃ F' ev', BS X.K F0 F' H0 ev' σ' H' ∧ (∀ a, F2 a → F' a) ∧ Keep F2 H1 H' ∧ Ws X.K W cm F0 F' H0 D ev' σ' H' (loop t mb (ps.drop i)), ⟨ps.length, by simp, Nat.zero_le _, F2, ev1, b2, fun _ h => h, .refl, hl⟩, ?_⟩
  rintro i n σ' H' ⟨rfl, hi, F', ev', bs, f2, kp, hw⟩
  by_cases e : i = ps.length
  · refine .inl ⟨(it i F' H' f2 kp).1 e, ?_⟩
    rw [e, List.drop_length] at hw
    exact hw.nx rfl bs.as
  · have hlt : i < ps.length := by omega
    have ed : ps.drop i = ps[i] :: ps.drop (i + 1) := List.drop_eq_getElem_cons hlt
    rw [ed] at hw
    obtain ⟨go, yl⟩ := (it i F' H' f2 kp).2 ps[i] (List.getElem?_eq_getElem hlt)
    have hb := hw.not_bad
    unfold loop at hb
    cases e1 : t ps[i] ev' with
    | none => simp only [e1] at hb; exact absurd rfl hb
    | some ev2 =>
      refine .inr ⟨go, fun σ3 H3 => ∃ F3 ev3, BS X.K F0 F3 H0 ev3 σ3 H3 ∧ (∀ a, F2 a → F3 a) ∧ Keep F2 H1 H3 ∧ Ws X.K W cm F0 F3 H0 D ev3 σ3 H3 (loop t mb (ps.drop (i + 1))), fun σ3 H3 ⟨F3, ev3, x1, x2, x3, x4⟩ => ⟨_, by omega, rfl, hlt, F3, ev3, x1, x2, x3, x4⟩, fun x H4 y => ?_⟩
      obtain ⟨s4, r4⟩ := yl x H4 y
      have b4 : BS X.K F0 F' H0 ev' σ' H4 := ⟨bs.er.later s4, bs.sub, bs.base⟩
      have as4 : AS X.K F0 F' H0 H' F' ev' σ' H4 := ⟨b4, fun _ h => h, .of s4⟩
      intro pins s u I ru
      refine sg.go b4 r4 e1 (fun σ5 a5 _ _ => ?_) pins s u I ru
      -- the body
      have a6 : AS X.K F0 F' H0 H' F' ev2 σ5 H4 := as4.trans a5
      refine sb.go a5.bs ?_
      unfold Ws
      unfold Ws loop at hw
      simp only [e1] at hw
      have next : ∀ {ev7 : SL} {F7 : FS} {σ7 : St} {H7 : Hp}, AS X.K F0 F' H0 H4 F7 ev7 σ7 H7 → Ws X.K W cm F0 F' H0 D ev' σ' H' (fun _ => loop t mb (ps.drop (i + 1)) ev7) →
          ∃ F3 ev3, BS X.K F0 F3 H0 ev3 σ7 H7 ∧ (∀ a, F2 a → F3 a) ∧ Keep F2 H1 H7 ∧ Ws X.K W cm F0 F3 H0 D ev3 σ7 H7 (loop t mb (ps.drop (i + 1))) := fun {ev7 F7 σ7 H7} a7 w7 =>
        ⟨F7, ev7, a7.bs, fun a h => a7.sub a (f2 a h), kp.trans f2 ((as4.keep).trans (fun _ h => h) a7.keep), Ws.from (σ := σ') (m := fun _ => loop t mb (ps.drop (i + 1)) ev7) (ev := ev') (as4.trans a7) rfl w7⟩
      cases q : mb ev2 with
      | ok f ev7 =>
        cases f with
        | nx => simp only [q] at hw; exact fun F7 σ7 H7 a7 => next a7 (by unfold Ws; exact hw)
        | ct => simp only [q] at hw; exact fun F7 σ7 H7 a7 => next a7 (by unfold Ws; exact hw)
        | bk => simp only [q] at hw; exact fun F7 σ7 H7 a7 => hw F7 σ7 H7 (as4.trans a7)
        | rt r => simp only [q] at hw; exact hw
      | exc c ev7 => simp only [q] at hw; exact fun F7 σ7 H7 a7 => hw F7 σ7 H7 (as4.trans a7)
      | bad => simp only [q] at hw⟩
theorem hotC_of {a : Addr} {oe : Obj} {pn : List (Addr × Obj)} {c : Value} {d : Option Addr} (hz : L2N.Zn c d oe) (hv : ∃ vs, oe.data = .fields vs) : HotC (X.suite a ((a, oe) :: pn)) := by
  obtain ⟨vs, e⟩ := hv
  exact ⟨(a, oe), ⟨rfl, vs, e, hz.2.2 vs e⟩, List.mem_cons_self ..⟩
theorem pe_lcH {elt tg iter : Expr} {ifs : List Expr} {scope : Scope} {own : List (PySem.Str × Nat)} {pos : Pos} {wi : TI} {g : TG} {tt : TT} {te : TE}
    (hx : HotC X) (hN : X.N.Nodup) (hpi : PIH X tg iter wi) (ok : BlkOk X.N X.env.scope scope own)
    (hg : ∀ (s : Shared) (H : Hp) (C : Addr) (cl : List (PySem.Str × Addr)) (fp : List Addr), PG (X.blk s H scope (compEnvC scope cl C X.env) fp) tg g)
    (ht : ∀ (s : Shared) (H : Hp) (C : Addr) (cl : List (PySem.Str × Addr)) (fp : List Addr), PTs (X.blk s H scope (compEnvC scope cl C X.env) fp) ifs tt)
    (he : ∀ (s : Shared) (H : Hp) (C : Addr) (cl : List (PySem.Str × Addr)) (fp : List Addr), PE (X.blk s H scope (compEnvC scope cl C X.env) fp) elt te)
    (hs : ∀ x, foldedSetIterable iter X.env x = pure x) : PE X (.ListComp elt [⟨tg, iter, ifs, 0⟩] scope pos) (tLc wi g tt te (own.map (·.2))) := ⟨fun pins s σ H Q I h => by
  rw [eval_ListComp]
  exact lc_hot hx hN I hpi ok hg ht he hs h⟩
theorem e_compH {elt tg iter : Expr} {ifs : List Expr} {scope : Scope} {own : List (Str × Nat)} {pos : Pos} {js : List Nat} {mi : M (List PV)} {t : PV → SL → Option SL} {mt : M Bool} {me : M RV} (hc : HotC X) (hNd : X.N.Nodup) (ok : BlkOk X.N X.env.scope scope own)
    (si : SIH X W cm tg iter mi) (hg : Blk X scope fun Y => SG Y W0 tg t js) (ht : Blk X scope fun Y => STs Y W0 cm ifs mt) (he : Blk X scope fun Y => SE Y W0 cm elt me) (hj : ∀ j ∈ js, j ∈ own.map (·.2) := by decide)
    (hs : ∀ x, foldedSetIterable iter X.env x = pure x := by intro _; rfl) : SE X W cm (.ListComp elt [⟨tg, iter, ifs, 0⟩] scope pos) (mComp mi t mt me (own.map (·.2))) := .mk' fun F H0 H ev σ Q r h => by
  obtain ⟨wi, hpi, hwi⟩ := si.ex
  refine sE_of (pe_lcH (g := cG X scope tg) (tt := cT X scope ifs) (te := cE X scope elt) hc hNd hpi ok (fun s H C cl fp => ⟨fun pins s' σ H' v u Q' I ru q => q s H C cl fp pins s' u I ru⟩)
    (fun s H C cl fp => ⟨fun pins s' σ H' Q' I q => sTs_pt.run pins s' σ H' Q' I (q s H C cl fp)⟩)
    (fun s H C cl fp => ⟨fun pins s' σ H' Q' I q => q s H C cl fp pins s' I⟩) hs) ?_
  exact comp_core hg ht he hj hwi r h
theorem e_compVH {N : List Str} {sc : Scope} {vs : List Nat} (own : List (Str × Nat)) {elt tg iter : Expr} {ifs : List Expr} {scope : Scope} {pos : Pos} {js : List Nat} {mi : M (List PV)} {t : PV → SL → Option SL} {mt : M Bool} {me : M RV} (hc : HotC X) (hNd : X.N.Nodup) (ok : blkC N sc scope own = true)
    (si : SIH X W cm tg iter mi) (hg : Blk X scope fun Y => SG Y W0 tg t js) (ht : Blk X scope fun Y => STs Y W0 cm ifs mt) (he : Blk X scope fun Y => SE Y W0 cm elt me) (hj : ∀ j ∈ js, j ∈ own.map (·.2) := by decide) (hvs : own.map (·.2) = vs := by rfl) (eN : X.N = N := by rfl) (eS : X.env.scope = sc := by rfl)
    (hs : ∀ x, foldedSetIterable iter X.env x = pure x := by intro _; rfl) : SE X W cm (.ListComp elt [⟨tg, iter, ifs, 0⟩] scope pos) (mComp mi t mt me vs) := by
  subst hvs eN eS
  exact e_compH hc hNd (blkOk_by ok) si hg ht he hj hs
end
theorem takes0N {X : Cx} : L2N.Takes X fun _ _ _ _ => False := by
  rintro u s' ⟨_, _, _, _, _, _, _, _, _, _, _, _, _, _, _, _, w⟩
  exact w.elim
end Pv

set_option Elab.async false
set_option linter.all false
set_option maxRecDepth 100000
set_option maxHeartbeats 4000000
namespace K01
open Pv PySem PySem.Spec L2
open PyProof.Rows hiding St
def topS (i : Nat) : Stmt := PySem.Challenge.pw_unpartedrows_k01_sets_tables_and_orders.main.body.getD i (.Pass ⟨0, 0, 0, 0⟩)
structure Top (w : World) (K : Fr) (mg : Str → Option Value) (cm : CM) : Prop where
  b_ValueError : mg "ValueError" = none
  b_int : mg "int" = none
  b_isinstance : mg "isinstance" = none
  b_len : mg "len" = none
  b_list : mg "list" = none
  b_max : mg "max" = none
  b_min : mg "min" = none
  b_range : mg "range" = none
  b_sorted : mg "sorted" = none
  b_tuple : mg "tuple" = none
  i_MOST_THINGS : ∃ t, mg "MOST_THINGS" = some (.int 24 t)
  i_MOST_SETS : ∃ t, mg "MOST_SETS" = some (.int 40 t)
  x_InvalidOrder : ExK K mg cm "InvalidOrder"
  x_InvalidTable : ExK K mg cm "InvalidTable"
  x_OutOfRange : ExK K mg cm "OutOfRange"
  N_InvalidOrder : ClN K mg cm "InvalidOrder"
  N_InvalidTable : ClN K mg cm "InvalidTable"
  N_OutOfRange : ClN K mg cm "OutOfRange"
  N_UnpartedError : ClN K mg cm "UnpartedError"
  m_InvalidOrder_UnpartedError : PySem.W.exmOne K (cm "InvalidOrder") (cm "UnpartedError") = some true
  m_InvalidTable_UnpartedError : PySem.W.exmOne K (cm "InvalidTable") (cm "UnpartedError") = some true
  m_OutOfRange_UnpartedError : PySem.W.exmOne K (cm "OutOfRange") (cm "UnpartedError") = some true
  m_UnpartedError_UnpartedError : PySem.W.exmOne K (cm "UnpartedError") (cm "UnpartedError") = some true
  k_InvalidOrder_InvalidOrder : IsN K cm "InvalidOrder" (cm "InvalidOrder") true
  k_InvalidOrder_InvalidTable : IsN K cm "InvalidOrder" (cm "InvalidTable") false
  k_InvalidOrder_OutOfRange : IsN K cm "InvalidOrder" (cm "OutOfRange") false
  k_InvalidOrder_ValueError : IsN K cm "InvalidOrder" (.type "ValueError") true
  k_InvalidTable_InvalidOrder : IsN K cm "InvalidTable" (cm "InvalidOrder") false
  k_InvalidTable_InvalidTable : IsN K cm "InvalidTable" (cm "InvalidTable") true
  k_InvalidTable_OutOfRange : IsN K cm "InvalidTable" (cm "OutOfRange") false
  k_InvalidTable_ValueError : IsN K cm "InvalidTable" (.type "ValueError") true
  k_OutOfRange_InvalidOrder : IsN K cm "OutOfRange" (cm "InvalidOrder") false
  k_OutOfRange_InvalidTable : IsN K cm "OutOfRange" (cm "InvalidTable") false
  k_OutOfRange_OutOfRange : IsN K cm "OutOfRange" (cm "OutOfRange") true
  k_OutOfRange_ValueError : IsN K cm "OutOfRange" (.type "ValueError") true
  k_UnpartedError_InvalidOrder : IsN K cm "UnpartedError" (cm "InvalidOrder") false
  k_UnpartedError_InvalidTable : IsN K cm "UnpartedError" (cm "InvalidTable") false
  k_UnpartedError_OutOfRange : IsN K cm "UnpartedError" (cm "OutOfRange") false
  k_UnpartedError_ValueError : IsN K cm "UnpartedError" (.type "ValueError") true
section
variable {P : Program} {w : World} {K : Fr} {mg : Str → Option Value} {base : Heap} {cm : CM} {f : Addr} {fd : FuncData}
/-! ### is_number_of_things -/
theorem sc_is_number_of_things : FnScope ["n"] ["n"] (defScope (topS 8)) := ⟨rfl, rfl, rfl, by decide +kernel, rfl, by decide +kernel, by decide +kernel⟩
def st_is_number_of_things : M Fl := sq (bnd (eChain cLe cLe (look (eC (.int 1))) (pVar 0) (look (eC (.int 24)))) mRet) (ret .nx)
def fn_is_number_of_things : Fn := runF 1 1 st_is_number_of_things
theorem ok_is_number_of_things (T : Top w K mg cm) (F : Fun K "is_number_of_things" "is_number_of_things" (topS 8) f fd) (hg : mg "is_number_of_things" = some (.ref f)) (hb : Binds K fd ["n"] []) : Cal P w K mg base cm 1 "is_number_of_things" fn_is_number_of_things := by
  refine def_ok (k := 0) (m := st_is_number_of_things) F sc_is_number_of_things hg hb ?_ (by decide)
  intro cdv A outer s H E hr
  have tk : L2N.Takes (cxOf (L2N.CX P w) P w K mg base ["n"] "is_number_of_things" (defScope (topS 8)) f cdv A outer s H E) (fun cls d _ H => E cls d H) := L2N.takes_of rfl rfl rfl rfl
  have hp : PassesOwn (model P w) (cxOf (L2N.CX P w) P w K mg base ["n"] "is_number_of_things" (defScope (topS 8)) f cdv A outer s H E).A (cxOf (L2N.CX P w) P w K mg base ["n"] "is_number_of_things" (defScope (topS 8)) f cdv A outer s H E).env (cxOf (L2N.CX P w) P w K mg base ["n"] "is_number_of_things" (defScope (topS 8)) f cdv A outer s H E).xe := passes_of rfl
  exact b_cons (s_ret (e_chain o_le o_le (SE.look (e_int)) (p_var (i := 0)) (SE.look (e_gint T.i_MOST_THINGS.choose_spec)))) (b_nil)
/-! ### check_things -/
theorem sc_check_things : FnScope ["n"] ["n"] (defScope (topS 9)) := ⟨rfl, rfl, rfl, by decide +kernel, rfl, by decide +kernel, by decide +kernel⟩
def st_check_things : M Fl := sq (mIfS (mNot (tTru (look (eFn fn_is_number_of_things (aCons (eVar 0) (ret [])))))) (sq (mRaise "OutOfRange") (ret .nx)) (ret .nx)) (sq (mRetV 0) (ret .nx))
def fn_check_things : Fn := runF 1 1 st_check_things
theorem ok_check_things (T : Top w K mg cm) (F : Fun K "check_things" "check_things" (topS 9) f fd) (hg : mg "check_things" = some (.ref f)) (hb : Binds K fd ["n"] []) (c_is_number_of_things : Cal P w K mg base cm 1 "is_number_of_things" fn_is_number_of_things) : Cal P w K mg base cm 2 "check_things" fn_check_things := by
  refine def_ok (k := 1) (m := st_check_things) F sc_check_things hg hb ?_ (by decide)
  intro cdv A outer s H E hr
  have tk : L2N.Takes (cxOf (L2N.CX P w) P w K mg base ["n"] "check_things" (defScope (topS 9)) f cdv A outer s H E) (fun cls d _ H => E cls d H) := L2N.takes_of rfl rfl rfl rfl
  have hp : PassesOwn (model P w) (cxOf (L2N.CX P w) P w K mg base ["n"] "check_things" (defScope (topS 9)) f cdv A outer s H E).A (cxOf (L2N.CX P w) P w K mg base ["n"] "check_things" (defScope (topS 9)) f cdv A outer s H E).env (cxOf (L2N.CX P w) P w K mg base ["n"] "check_things" (defScope (topS 9)) f cdv A outer s H E).xe := passes_of rfl
  have c_is_number_of_things : Cal P w K mg base cm 1 "is_number_of_things" fn_is_number_of_things := c_is_number_of_things.mono (by omega)
  exact b_cons (s_if (t_not (t_val (SE.look (e_call c_is_number_of_things hr tk (a_cons (e_var (i := 0)) (a_nil)))))) (b_cons (s_raise rfl tk T.x_OutOfRange) (b_nil)) (b_nil)) (b_cons (s_retV (i := 0)) (b_nil))
/-! ### check_set -/
theorem sc_check_set : FnScope ["n", "chosen", "thing"] ["n", "chosen"] (defScope (topS 10)) := ⟨rfl, rfl, rfl, by decide +kernel, rfl, by decide +kernel, by decide +kernel⟩
def st_check_set : M Fl := sq (mIfS (mNot (tTru (look (eFn fn_is_number_of_things (aCons (eVar 0) (ret [])))))) (sq (mRaise "InvalidTable") (ret .nx)) (ret .nx)) (sq (mIfS (blOf (eOp (gEq true) (look (eCall gList (kCons (pVar 1) (ret [])))) (look (mComp (mRng1 (kCons (pVar 0) (ret []))) (tName 2) (blOf (eOp (gIn false) (pVar 2) (pVar 1))) (eVar 2) [2])))) (sq (mRaise "InvalidTable") (ret .nx)) (ret .nx)) (sq (mRetV 1) (ret .nx)))
def fn_check_set : Fn := runF 3 2 st_check_set
theorem ok_check_set (T : Top w K mg cm) (F : Fun K "check_set" "check_set" (topS 10) f fd) (hg : mg "check_set" = some (.ref f)) (hb : Binds K fd ["n", "chosen"] []) (c_is_number_of_things : Cal P w K mg base cm 1 "is_number_of_things" fn_is_number_of_things) : Cal P w K mg base cm 2 "check_set" fn_check_set := by
  refine def_ok (k := 1) (m := st_check_set) F sc_check_set hg hb ?_ (by decide)
  intro cdv A outer s H E hr
  have tk : L2N.Takes (cxOf (L2N.CX P w) P w K mg base ["n", "chosen", "thing"] "check_set" (defScope (topS 10)) f cdv A outer s H E) (fun cls d _ H => E cls d H) := L2N.takes_of rfl rfl rfl rfl
  have hp : PassesOwn (model P w) (cxOf (L2N.CX P w) P w K mg base ["n", "chosen", "thing"] "check_set" (defScope (topS 10)) f cdv A outer s H E).A (cxOf (L2N.CX P w) P w K mg base ["n", "chosen", "thing"] "check_set" (defScope (topS 10)) f cdv A outer s H E).env (cxOf (L2N.CX P w) P w K mg base ["n", "chosen", "thing"] "check_set" (defScope (topS 10)) f cdv A outer s H E).xe := passes_of rfl
  have c_is_number_of_things : Cal P w K mg base cm 1 "is_number_of_things" fn_is_number_of_things := c_is_number_of_things.mono (by omega)
  exact b_cons (s_if (t_not (t_val (SE.look (e_call c_is_number_of_things hr tk (a_cons (e_var (i := 0)) (a_nil)))))) (b_cons (s_raise rfl tk T.x_InvalidTable) (b_nil)) (b_nil)) (b_cons (s_if (t_cmp (o_ne hr.units) (SE.look (e_callTy c_list T.b_list PyProof.Rows.boot_list (k_cons (p_var (i := 1)) (k_nil)))) (SE.look (e_compV (N := ["n", "chosen", "thing"]) (sc := defScope (topS 10)) (vs := [2]) [("thing", 2)] rfl sc_check_set.nd (by decide +kernel) (i_range1 T.b_range (k_cons (p_var (i := 0)) (k_nil))) (fun _ _ _ _ _ => g_name (i := 2) sc_check_set.nd) (fun _ _ _ _ _ => ts_one (t_cmp o_in (p_var (i := 2)) (p_var (i := 1)))) (fun _ _ _ _ _ => e_var (i := 2))))) (b_cons (s_raise rfl tk T.x_InvalidTable) (b_nil)) (b_nil)) (b_cons (s_retV (i := 1)) (b_nil)))
/-! ### check_table -/
theorem sc_check_table : FnScope ["n", "sets", "chosen"] ["n", "sets"] (defScope (topS 11)) := ⟨rfl, rfl, rfl, by decide +kernel, rfl, by decide +kernel, by decide +kernel⟩
def st_check_table : M Fl := sq (mIfS (mNot (tTru (look (eFn fn_is_number_of_things (aCons (eVar 0) (ret [])))))) (sq (mRaise "InvalidTable") (ret .nx)) (ret .nx)) (sq (mIfS (blOf (eOp cGt (look (eCall gLen (kCons (pVar 1) (ret [])))) (look (eC (.int 40))))) (sq (mRaise "InvalidTable") (ret .nx)) (ret .nx)) (sq (bnd (mSeq (eVar 1)) (loop (tName 2) (sq (bnd (eFn fn_check_set (aCons (eVar 0) (aCons (eVar 2) (ret [])))) fun _ => ret .nx) (ret .nx)))) (sq (mRetV 1) (ret .nx))))
def fn_check_table : Fn := runF 3 2 st_check_table
theorem ok_check_table (T : Top w K mg cm) (F : Fun K "check_table" "check_table" (topS 11) f fd) (hg : mg "check_table" = some (.ref f)) (hb : Binds K fd ["n", "sets"] []) (c_is_number_of_things : Cal P w K mg base cm 1 "is_number_of_things" fn_is_number_of_things) (c_check_set : Cal P w K mg base cm 2 "check_set" fn_check_set) : Cal P w K mg base cm 3 "check_table" fn_check_table := by
  refine def_ok (k := 2) (m := st_check_table) F sc_check_table hg hb ?_ (by decide)
  intro cdv A outer s H E hr
  have tk : L2N.Takes (cxOf (L2N.CX P w) P w K mg base ["n", "sets", "chosen"] "check_table" (defScope (topS 11)) f cdv A outer s H E) (fun cls d _ H => E cls d H) := L2N.takes_of rfl rfl rfl rfl
  have hp : PassesOwn (model P w) (cxOf (L2N.CX P w) P w K mg base ["n", "sets", "chosen"] "check_table" (defScope (topS 11)) f cdv A outer s H E).A (cxOf (L2N.CX P w) P w K mg base ["n", "sets", "chosen"] "check_table" (defScope (topS 11)) f cdv A outer s H E).env (cxOf (L2N.CX P w) P w K mg base ["n", "sets", "chosen"] "check_table" (defScope (topS 11)) f cdv A outer s H E).xe := passes_of rfl
  have c_is_number_of_things : Cal P w K mg base cm 2 "is_number_of_things" fn_is_number_of_things := c_is_number_of_things.mono (by omega)
  have c_check_set : Cal P w K mg base cm 2 "check_set" fn_check_set := c_check_set.mono (by omega)
  exact b_cons (s_if (t_not (t_val (SE.look (e_call c_is_number_of_things hr tk (a_cons (e_var (i := 0)) (a_nil)))))) (b_cons (s_raise rfl tk T.x_InvalidTable) (b_nil)) (b_nil)) (b_cons (s_if (t_cmp o_gt (SE.look (e_callB c_len T.b_len PySem.boot_len (k_cons (p_var (i := 1)) (k_nil)))) (SE.look (e_gint T.i_MOST_SETS.choose_spec))) (b_cons (s_raise rfl tk T.x_InvalidTable) (b_nil)) (b_nil)) (b_cons (s_for hp rfl (i_seq (e_var (i := 1))) (g_name (i := 2) sc_check_table.nd) (b_cons (s_expr (e_call c_check_set hr tk (a_cons (e_var (i := 0)) (a_cons (e_var (i := 2)) (a_nil))))) (b_nil))) (b_cons (s_retV (i := 1)) (b_nil))))
/-! ### check_order -/
theorem sc_check_order : FnScope ["n", "order"] ["n", "order"] (defScope (topS 12)) := ⟨rfl, rfl, rfl, by decide +kernel, rfl, by decide +kernel, by decide +kernel⟩
def st_check_order : M Fl := sq (mIfS (mNot (tTru (look (eFn fn_is_number_of_things (aCons (eVar 0) (ret [])))))) (sq (mRaise "InvalidOrder") (ret .nx)) (ret .nx)) (sq (mIfS (blOf (eOp (gEq true) (look (eCall gSorted (kCons (pVar 1) (ret [])))) (look (mLstRg (mRg1 (pVar 0)))))) (sq (mRaise "InvalidOrder") (ret .nx)) (ret .nx)) (sq (mRetV 1) (ret .nx)))
def fn_check_order : Fn := runF 2 2 st_check_order
theorem ok_check_order (T : Top w K mg cm) (F : Fun K "check_order" "check_order" (topS 12) f fd) (hg : mg "check_order" = some (.ref f)) (hb : Binds K fd ["n", "order"] []) (c_is_number_of_things : Cal P w K mg base cm 1 "is_number_of_things" fn_is_number_of_things) : Cal P w K mg base cm 2 "check_order" fn_check_order := by
  refine def_ok (k := 1) (m := st_check_order) F sc_check_order hg hb ?_ (by decide)
  intro cdv A outer s H E hr
  have tk : L2N.Takes (cxOf (L2N.CX P w) P w K mg base ["n", "order"] "check_order" (defScope (topS 12)) f cdv A outer s H E) (fun cls d _ H => E cls d H) := L2N.takes_of rfl rfl rfl rfl
  have hp : PassesOwn (model P w) (cxOf (L2N.CX P w) P w K mg base ["n", "order"] "check_order" (defScope (topS 12)) f cdv A outer s H E).A (cxOf (L2N.CX P w) P w K mg base ["n", "order"] "check_order" (defScope (topS 12)) f cdv A outer s H E).env (cxOf (L2N.CX P w) P w K mg base ["n", "order"] "check_order" (defScope (topS 12)) f cdv A outer s H E).xe := passes_of rfl
  have c_is_number_of_things : Cal P w K mg base cm 1 "is_number_of_things" fn_is_number_of_things := c_is_number_of_things.mono (by omega)
  exact b_cons (s_if (t_not (t_val (SE.look (e_call c_is_number_of_things hr tk (a_cons (e_var (i := 0)) (a_nil)))))) (b_cons (s_raise rfl tk T.x_InvalidOrder) (b_nil)) (b_nil)) (b_cons (s_if (t_cmp (o_ne hr.units) (SE.look (e_callB c_sorted T.b_sorted PyProof.Rows.boot_sorted (k_cons (p_var (i := 1)) (k_nil)))) (SE.look (e_lstRg rfl T.b_list (r_1 T.b_range (p_var (i := 0)))))) (b_cons (s_raise rfl tk T.x_InvalidOrder) (b_nil)) (b_nil)) (b_cons (s_retV (i := 1)) (b_nil)))
/-! ### _law_cell -/
theorem sc__law_cell : FnScope ["script", "k"] ["script", "k"] (defScope (topS 14)) := ⟨rfl, rfl, rfl, by decide +kernel, rfl, by decide +kernel, by decide +kernel⟩
def st__law_cell : M Fl := sq (mIfS (blOf (eOp cLt (pVar 1) (look (eCall gLen (kCons (pVar 0) (ret [])))))) (sq (bnd (eOp gIx (pVar 0) (pVar 1)) mRet) (ret .nx)) (ret .nx)) (sq (bnd (eC (.int 0)) mRet) (ret .nx))
def fn__law_cell : Fn := runF 2 2 st__law_cell
theorem ok__law_cell (T : Top w K mg cm) (F : Fun K "_law_cell" "_law_cell" (topS 14) f fd) (hg : mg "_law_cell" = some (.ref f)) (hb : Binds K fd ["script", "k"] []) : Cal P w K mg base cm 1 "_law_cell" fn__law_cell := by
  refine def_ok (k := 0) (m := st__law_cell) F sc__law_cell hg hb ?_ (by decide)
  intro cdv A outer s H E hr
  have tk : L2N.Takes (cxOf (L2N.CX P w) P w K mg base ["script", "k"] "_law_cell" (defScope (topS 14)) f cdv A outer s H E) (fun cls d _ H => E cls d H) := L2N.takes_of rfl rfl rfl rfl
  have hp : PassesOwn (model P w) (cxOf (L2N.CX P w) P w K mg base ["script", "k"] "_law_cell" (defScope (topS 14)) f cdv A outer s H E).A (cxOf (L2N.CX P w) P w K mg base ["script", "k"] "_law_cell" (defScope (topS 14)) f cdv A outer s H E).env (cxOf (L2N.CX P w) P w K mg base ["script", "k"] "_law_cell" (defScope (topS 14)) f cdv A outer s H E).xe := passes_of rfl
  exact b_cons (s_if (t_cmp o_lt (p_var (i := 1)) (SE.look (e_callB c_len T.b_len PySem.boot_len (k_cons (p_var (i := 0)) (k_nil))))) (b_cons (s_ret (e_ix (p_var (i := 0)) (p_var (i := 1)))) (b_nil)) (b_nil)) (b_cons (s_ret (e_int)) (b_nil))
/-! ### _law_digits -/
theorem sc__law_digits : FnScope ["cell", "sizes", "row", "size"] ["cell", "sizes"] (defScope (topS 15)) := ⟨rfl, rfl, rfl, by decide +kernel, rfl, by decide +kernel, by decide +kernel⟩
def st__law_digits : M Fl := sq (bnd (mLst (ret [])) (setR 2)) (sq (bnd (mSeq (eVar 1)) (loop (tName 3) (sq (mMet 2 (aCons (eOp aMod (look (eCall gInt (kCons (pVar 0) (ret [])))) (pVar 3)) (ret [])) gAppend) (sq (bnd (eOp aDiv (pVar 0) (pVar 3)) (setR 0)) (ret .nx))))) (sq (mRetV 2) (ret .nx)))
def fn__law_digits : Fn := runF 4 2 st__law_digits
theorem ok__law_digits (T : Top w K mg cm) (F : Fun K "_law_digits" "_law_digits" (topS 15) f fd) (hg : mg "_law_digits" = some (.ref f)) (hb : Binds K fd ["cell", "sizes"] []) : Cal P w K mg base cm 1 "_law_digits" fn__law_digits := by
  refine def_ok (k := 0) (m := st__law_digits) F sc__law_digits hg hb ?_ (by decide)
  intro cdv A outer s H E hr
  have tk : L2N.Takes (cxOf (L2N.CX P w) P w K mg base ["cell", "sizes", "row", "size"] "_law_digits" (defScope (topS 15)) f cdv A outer s H E) (fun cls d _ H => E cls d H) := L2N.takes_of rfl rfl rfl rfl
  have hp : PassesOwn (model P w) (cxOf (L2N.CX P w) P w K mg base ["cell", "sizes", "row", "size"] "_law_digits" (defScope (topS 15)) f cdv A outer s H E).A (cxOf (L2N.CX P w) P w K mg base ["cell", "sizes", "row", "size"] "_law_digits" (defScope (topS 15)) f cdv A outer s H E).env (cxOf (L2N.CX P w) P w K mg base ["cell", "sizes", "row", "size"] "_law_digits" (defScope (topS 15)) f cdv A outer s H E).xe := passes_of rfl
  exact b_cons (s_set (i := 2) sc__law_digits.nd (e_lst (a_nil))) (b_cons (s_for hp rfl (i_seq (e_var (i := 1))) (g_name (i := 3) sc__law_digits.nd) (b_cons (s_met (i := 2) PySem.F.slot_list_append PySem.F.type_list_append k_append (a_cons (e_bin o_mod (SE.look (e_callTy c_int T.b_int PyProof.Rows.boot_int (k_cons (p_var (i := 0)) (k_nil)))) (p_var (i := 3))) (a_nil))) (b_cons (s_set (i := 0) sc__law_digits.nd (e_bin o_div (p_var (i := 0)) (p_var (i := 3)))) (b_nil)))) (b_cons (s_retV (i := 2)) (b_nil)))
/-! ### _law_rich -/
theorem sc__law_rich : FnScope ["cell", "low", "high"] ["cell"] (defScope (topS 16)) := ⟨rfl, rfl, rfl, by decide +kernel, rfl, by decide +kernel, by decide +kernel⟩
def st__law_rich : M Fl := sq (mIfS (blOf (eOp cGe (pVar 0) (look (eOp aPow (look (eC (.int 10))) (look (eC (.int 18))))))) (sq (mRetV 0) (ret .nx)) (ret .nx)) (sq (bnd (eOp aMod (look (eCall gInt (kCons (look (eOp gAdd (look (eOp aMul (pVar 0) (look (eC (.int 48271))))) (look (eC (.int 11))))) (ret [])))) (look (eC (.int 2147483647)))) (setR 1)) (sq (bnd (eOp aMod (look (eCall gInt (kCons (look (eOp gAdd (look (eOp gAdd (look (eOp aMul (pVar 1) (look (eC (.int 69621))))) (look (eOp aDiv (pVar 0) (look (eC (.int 7))))))) (look (eC (.int 5))))) (ret [])))) (look (eC (.int 2147483629)))) (setR 2)) (sq (bnd (eOp gAdd (look (eOp aMul (pVar 1) (look (eC (.int 2147483629))))) (pVar 2)) mRet) (ret .nx))))
def fn__law_rich : Fn := runF 3 1 st__law_rich
theorem ok__law_rich (T : Top w K mg cm) (F : Fun K "_law_rich" "_law_rich" (topS 16) f fd) (hg : mg "_law_rich" = some (.ref f)) (hb : Binds K fd ["cell"] []) : Cal P w K mg base cm 1 "_law_rich" fn__law_rich := by
  refine def_ok (k := 0) (m := st__law_rich) F sc__law_rich hg hb ?_ (by decide)
  intro cdv A outer s H E hr
  have tk : L2N.Takes (cxOf (L2N.CX P w) P w K mg base ["cell", "low", "high"] "_law_rich" (defScope (topS 16)) f cdv A outer s H E) (fun cls d _ H => E cls d H) := L2N.takes_of rfl rfl rfl rfl
  have hp : PassesOwn (model P w) (cxOf (L2N.CX P w) P w K mg base ["cell", "low", "high"] "_law_rich" (defScope (topS 16)) f cdv A outer s H E).A (cxOf (L2N.CX P w) P w K mg base ["cell", "low", "high"] "_law_rich" (defScope (topS 16)) f cdv A outer s H E).env (cxOf (L2N.CX P w) P w K mg base ["cell", "low", "high"] "_law_rich" (defScope (topS 16)) f cdv A outer s H E).xe := passes_of rfl
  exact b_cons (s_if (t_cmp o_ge (p_var (i := 0)) (SE.look (e_bin o_pow (SE.look (e_int)) (SE.look (e_int))))) (b_cons (s_retV (i := 0)) (b_nil)) (b_nil)) (b_cons (s_set (i := 1) sc__law_rich.nd (e_bin o_mod (SE.look (e_callTy c_int T.b_int PyProof.Rows.boot_int (k_cons (SE.look (e_bin o_addG (SE.look (e_bin o_mul (p_var (i := 0)) (SE.look (e_int)))) (SE.look (e_int)))) (k_nil)))) (SE.look (e_int)))) (b_cons (s_set (i := 2) sc__law_rich.nd (e_bin o_mod (SE.look (e_callTy c_int T.b_int PyProof.Rows.boot_int (k_cons (SE.look (e_bin o_addG (SE.look (e_bin o_addG (SE.look (e_bin o_mul (p_var (i := 1)) (SE.look (e_int)))) (SE.look (e_bin o_div (p_var (i := 0)) (SE.look (e_int)))))) (SE.look (e_int)))) (k_nil)))) (SE.look (e_int)))) (b_cons (s_ret (e_bin o_addG (SE.look (e_bin o_mul (p_var (i := 1)) (SE.look (e_int)))) (p_var (i := 2)))) (b_nil))))
/-! ### _law_order -/
theorem sc__law_order : FnScope ["cell", "n", "left", "rest", "order", "k", "thing"] ["cell", "n"] (defScope (topS 17)) := ⟨rfl, rfl, rfl, by decide +kernel, rfl, by decide +kernel, by decide +kernel⟩
def st__law_order : M Fl := sq (bnd (mComp (mRng1 (kCons (pVar 1) (ret []))) (tName 6) (ret true) (eVar 6) [6]) (setR 2)) (sq (bnd (eFn fn__law_rich (aCons (eVar 0) (ret []))) (setR 3)) (sq (bnd (mLst (ret [])) (setR 4)) (sq (bnd (mRng1 (kCons (pVar 1) (ret []))) (loop (tName 5) (sq (mAppPop 4 2 (look (eOp aMod (look (eCall gInt (kCons (pVar 3) (ret [])))) (look (eOp aSub (pVar 1) (pVar 5)))))) (sq (bnd (eOp aDiv (pVar 3) (look (eOp aSub (pVar 1) (pVar 5)))) (setR 3)) (sq (mIfS (blOf (eOp (gEq false) (pVar 3) (look (eC (.int 0))))) (sq (bnd (eFn fn__law_rich (aCons (eOp gAdd (look (eOp gAdd (pVar 0) (pVar 5))) (look (eC (.int 1)))) (ret []))) (setR 3)) (ret .nx)) (ret .nx)) (ret .nx)))))) (sq (bnd (eCall gTuple (kCons (pVar 4) (ret []))) mRet) (ret .nx)))))
def fn__law_order : Fn := runF 7 2 st__law_order
theorem ok__law_order (T : Top w K mg cm) (F : Fun K "_law_order" "_law_order" (topS 17) f fd) (hg : mg "_law_order" = some (.ref f)) (hb : Binds K fd ["cell", "n"] []) (c__law_rich : Cal P w K mg base cm 1 "_law_rich" fn__law_rich) : Cal P w K mg base cm 2 "_law_order" fn__law_order := by
  refine def_ok (k := 1) (m := st__law_order) F sc__law_order hg hb ?_ (by decide)
  intro cdv A outer s H E hr
  have tk : L2N.Takes (cxOf (L2N.CX P w) P w K mg base ["cell", "n", "left", "rest", "order", "k", "thing"] "_law_order" (defScope (topS 17)) f cdv A outer s H E) (fun cls d _ H => E cls d H) := L2N.takes_of rfl rfl rfl rfl
  have hp : PassesOwn (model P w) (cxOf (L2N.CX P w) P w K mg base ["cell", "n", "left", "rest", "order", "k", "thing"] "_law_order" (defScope (topS 17)) f cdv A outer s H E).A (cxOf (L2N.CX P w) P w K mg base ["cell", "n", "left", "rest", "order", "k", "thing"] "_law_order" (defScope (topS 17)) f cdv A outer s H E).env (cxOf (L2N.CX P w) P w K mg base ["cell", "n", "left", "rest", "order", "k", "thing"] "_law_order" (defScope (topS 17)) f cdv A outer s H E).xe := passes_of rfl
  have c__law_rich : Cal P w K mg base cm 1 "_law_rich" fn__law_rich := c__law_rich.mono (by omega)
  exact b_cons (s_setCompV (i := 2) (N := ["cell", "n", "left", "rest", "order", "k", "thing"]) (sc := defScope (topS 17)) (vs := [6]) [("thing", 6)] rfl sc__law_order.nd rfl (by decide +kernel) (i_range1 T.b_range (k_cons (p_var (i := 1)) (k_nil))) (fun _ _ _ _ _ => g_name (i := 6) sc__law_order.nd) (fun _ _ _ _ _ => ts_nil) (fun _ _ _ _ _ => e_var (i := 6))) (b_cons (s_set (i := 3) sc__law_order.nd (e_call c__law_rich hr tk (a_cons (e_var (i := 0)) (a_nil)))) (b_cons (s_set (i := 4) sc__law_order.nd (e_lst (a_nil))) (b_cons (s_for hp rfl (i_range1 T.b_range (k_cons (p_var (i := 1)) (k_nil))) (g_name (i := 5) sc__law_order.nd) (b_cons (s_appPop (i := 4) (j := 2) (SE.look (e_bin o_mod (SE.look (e_callTy c_int T.b_int PyProof.Rows.boot_int (k_cons (p_var (i := 3)) (k_nil)))) (SE.look (e_bin o_sub (p_var (i := 1)) (p_var (i := 5))))))) (b_cons (s_set (i := 3) sc__law_order.nd (e_bin o_div (p_var (i := 3)) (SE.look (e_bin o_sub (p_var (i := 1)) (p_var (i := 5)))))) (b_cons (s_if (t_cmp (o_eq hr.units) (p_var (i := 3)) (SE.look (e_int))) (b_cons (s_set (i := 3) sc__law_order.nd (e_call c__law_rich hr tk (a_cons (e_bin o_addG (SE.look (e_bin o_addG (p_var (i := 0)) (p_var (i := 5)))) (SE.look (e_int))) (a_nil)))) (b_nil)) (b_nil)) (b_nil))))) (b_cons (s_ret (e_callTy c_tuple T.b_tuple PyProof.Rows.boot_tuple (k_cons (p_var (i := 4)) (k_nil)))) (b_nil)))))
/-! ### _law_set -/
theorem sc__law_set : FnScope ["cell", "n", "bits", "thing"] ["cell", "n"] (defScope (topS 18)) := ⟨rfl, rfl, rfl, by decide +kernel, rfl, by decide +kernel, by decide +kernel⟩
def st__law_set : M Fl := sq (bnd (eFn fn__law_rich (aCons (eVar 0) (ret []))) (setR 2)) (sq (bnd (eCall gTuple (kCons (look (mComp (mRng1 (kCons (pVar 1) (ret []))) (tName 3) (blOf (eOp (gEq false) (look (eOp aMod (look (eCall gInt (kCons (look (eOp aDiv (look (eOp aDiv (pVar 2) (look (eOp gAdd (pVar 3) (look (eC (.int 1))))))) (look (eOp gAdd (look (eC (.int 1))) (look (eOp aMul (pVar 3) (pVar 3))))))) (ret [])))) (look (eC (.int 2))))) (look (eC (.int 1))))) (eVar 3) [3])) (ret []))) mRet) (ret .nx))
def fn__law_set : Fn := runF 4 2 st__law_set
theorem ok__law_set (T : Top w K mg cm) (F : Fun K "_law_set" "_law_set" (topS 18) f fd) (hg : mg "_law_set" = some (.ref f)) (hb : Binds K fd ["cell", "n"] []) (c__law_rich : Cal P w K mg base cm 1 "_law_rich" fn__law_rich) : Cal P w K mg base cm 2 "_law_set" fn__law_set := by
  refine def_ok (k := 1) (m := st__law_set) F sc__law_set hg hb ?_ (by decide)
  intro cdv A outer s H E hr
  have tk : L2N.Takes (cxOf (L2N.CX P w) P w K mg base ["cell", "n", "bits", "thing"] "_law_set" (defScope (topS 18)) f cdv A outer s H E) (fun cls d _ H => E cls d H) := L2N.takes_of rfl rfl rfl rfl
  have hp : PassesOwn (model P w) (cxOf (L2N.CX P w) P w K mg base ["cell", "n", "bits", "thing"] "_law_set" (defScope (topS 18)) f cdv A outer s H E).A (cxOf (L2N.CX P w) P w K mg base ["cell", "n", "bits", "thing"] "_law_set" (defScope (topS 18)) f cdv A outer s H E).env (cxOf (L2N.CX P w) P w K mg base ["cell", "n", "bits", "thing"] "_law_set" (defScope (topS 18)) f cdv A outer s H E).xe := passes_of rfl
  have c__law_rich : Cal P w K mg base cm 1 "_law_rich" fn__law_rich := c__law_rich.mono (by omega)
  exact b_cons (s_set (i := 2) sc__law_set.nd (e_call c__law_rich hr tk (a_cons (e_var (i := 0)) (a_nil)))) (b_cons (s_ret (e_callTy c_tuple T.b_tuple PyProof.Rows.boot_tuple (k_cons (SE.look (e_compV (N := ["cell", "n", "bits", "thing"]) (sc := defScope (topS 18)) (vs := [3]) [("thing", 3)] rfl sc__law_set.nd (by decide +kernel) (i_range1 T.b_range (k_cons (p_var (i := 1)) (k_nil))) (fun _ _ _ _ _ => g_name (i := 3) sc__law_set.nd) (fun _ _ _ _ _ => ts_one (t_cmp (o_eq hr.units) (SE.look (e_bin o_mod (SE.look (e_callTy c_int T.b_int PyProof.Rows.boot_int (k_cons (SE.look (e_bin o_div (SE.look (e_bin o_div (p_var (i := 2)) (SE.look (e_bin o_addG (p_var (i := 3)) (SE.look (e_int)))))) (SE.look (e_bin o_addG (SE.look (e_int)) (SE.look (e_bin o_mul (p_var (i := 3)) (p_var (i := 3)))))))) (k_nil)))) (SE.look (e_int)))) (SE.look (e_int)))) (fun _ _ _ _ _ => e_var (i := 3)))) (k_nil)))) (b_nil))
/-! ### _law_stretch -/
theorem sc__law_stretch : FnScope ["cell", "order", "d", "low", "high"] ["cell", "order"] (defScope (topS 19)) := ⟨rfl, rfl, rfl, by decide +kernel, rfl, by decide +kernel, by decide +kernel⟩
def st__law_stretch : M Fl := sq (bnd (eFn fn__law_digits (aCons (eFn fn__law_rich (aCons (eVar 0) (ret []))) (aCons (mLst (aCons (eCall gLen (kCons (pVar 1) (ret []))) (aCons (eCall gLen (kCons (pVar 1) (ret []))) (ret [])))) (ret [])))) (setR 2)) (sq (bnd (eCall gMin (kCons (look (eOp gIx (pVar 2) (look (eC (.int 0))))) (kCons (look (eOp gIx (pVar 2) (look (eC (.int 1))))) (ret [])))) (setR 3)) (sq (bnd (eCall gMax (kCons (look (eOp gIx (pVar 2) (look (eC (.int 0))))) (kCons (look (eOp gIx (pVar 2) (look (eC (.int 1))))) (ret [])))) (setR 4)) (sq (bnd (eCall gTuple (kCons (look (eCall gSorted (kCons (look (eSl (pVar 1) (soInt (pVar 3)) (soInt (look (eOp gAdd (pVar 4) (look (eC (.int 1)))))))) (ret [])))) (ret []))) mRet) (ret .nx))))
def fn__law_stretch : Fn := runF 5 2 st__law_stretch
theorem ok__law_stretch (T : Top w K mg cm) (F : Fun K "_law_stretch" "_law_stretch" (topS 19) f fd) (hg : mg "_law_stretch" = some (.ref f)) (hb : Binds K fd ["cell", "order"] []) (c__law_digits : Cal P w K mg base cm 1 "_law_digits" fn__law_digits) (c__law_rich : Cal P w K mg base cm 1 "_law_rich" fn__law_rich) : Cal P w K mg base cm 2 "_law_stretch" fn__law_stretch := by
  refine def_ok (k := 1) (m := st__law_stretch) F sc__law_stretch hg hb ?_ (by decide)
  intro cdv A outer s H E hr
  have tk : L2N.Takes (cxOf (L2N.CX P w) P w K mg base ["cell", "order", "d", "low", "high"] "_law_stretch" (defScope (topS 19)) f cdv A outer s H E) (fun cls d _ H => E cls d H) := L2N.takes_of rfl rfl rfl rfl
  have hp : PassesOwn (model P w) (cxOf (L2N.CX P w) P w K mg base ["cell", "order", "d", "low", "high"] "_law_stretch" (defScope (topS 19)) f cdv A outer s H E).A (cxOf (L2N.CX P w) P w K mg base ["cell", "order", "d", "low", "high"] "_law_stretch" (defScope (topS 19)) f cdv A outer s H E).env (cxOf (L2N.CX P w) P w K mg base ["cell", "order", "d", "low", "high"] "_law_stretch" (defScope (topS 19)) f cdv A outer s H E).xe := passes_of rfl
  have c__law_digits : Cal P w K mg base cm 1 "_law_digits" fn__law_digits := c__law_digits.mono (by omega)
  have c__law_rich : Cal P w K mg base cm 1 "_law_rich" fn__law_rich := c__law_rich.mono (by omega)
  exact b_cons (s_set (i := 2) sc__law_stretch.nd (e_call c__law_digits hr tk (a_cons (e_call c__law_rich hr tk (a_cons (e_var (i := 0)) (a_nil))) (a_cons (e_lst (a_cons (e_callB c_len T.b_len PySem.boot_len (k_cons (p_var (i := 1)) (k_nil))) (a_cons (e_callB c_len T.b_len PySem.boot_len (k_cons (p_var (i := 1)) (k_nil))) (a_nil)))) (a_nil))))) (b_cons (s_set (i := 3) sc__law_stretch.nd (e_callB (c_min rfl) T.b_min PyProof.Rows.boot_min (k_cons (SE.look (e_ix (p_var (i := 2)) (SE.look (e_int)))) (k_cons (SE.look (e_ix (p_var (i := 2)) (SE.look (e_int)))) (k_nil))))) (b_cons (s_set (i := 4) sc__law_stretch.nd (e_callB (c_max rfl) T.b_max PyProof.Rows.boot_max (k_cons (SE.look (e_ix (p_var (i := 2)) (SE.look (e_int)))) (k_cons (SE.look (e_ix (p_var (i := 2)) (SE.look (e_int)))) (k_nil))))) (b_cons (s_ret (e_callTy c_tuple T.b_tuple PyProof.Rows.boot_tuple (k_cons (SE.look (e_callB c_sorted T.b_sorted PyProof.Rows.boot_sorted (k_cons (SE.look (e_sl (p_var (i := 1)) (so_some (p_var (i := 3))) (so_some (SE.look (e_bin o_addG (p_var (i := 4)) (SE.look (e_int))))))) (k_nil)))) (k_nil)))) (b_nil))))
/-! ### _law_table -/
theorem sc__law_table : FnScope ["script", "at", "n", "order", "sets", "k", "cell"] ["script", "at", "n", "order"] (defScope (topS 20)) := ⟨rfl, rfl, rfl, by decide +kernel, rfl, by decide +kernel, by decide +kernel⟩
def st__law_table : M Fl := sq (bnd (mLst (ret [])) (setR 4)) (sq (bnd (mRng1 (kCons (look (eC (.int 8))) (ret []))) (loop (tName 5) (sq (mIfS (blOf (eOp cLt (look (eOp gAdd (pVar 1) (pVar 5))) (look (eCall gLen (kCons (pVar 0) (ret [])))))) (sq (bnd (eOp gAdd (look (eFn fn__law_cell (aCons (eVar 0) (aCons (eOp gAdd (pVar 1) (pVar 5)) (ret []))))) (pVar 5)) (setR 6)) (sq (mIfS (blOf (eOp (gEq false) (look (eOp aMod (look (eCall gInt (kCons (pVar 6) (ret [])))) (look (eC (.int 8))))) (look (eC (.int 3))))) (sq (mMet 4 (aCons (eFn fn__law_set (aCons (eOp aDiv (pVar 6) (look (eC (.int 8)))) (aCons (eVar 2) (ret [])))) (ret [])) gAppend) (ret .nx)) (sq (mMet 4 (aCons (eFn fn__law_stretch (aCons (eOp aDiv (pVar 6) (look (eC (.int 8)))) (aCons (eVar 3) (ret [])))) (ret [])) gAppend) (ret .nx))) (ret .nx))) (ret .nx)) (ret .nx)))) (sq (bnd (eCall gTuple (kCons (pVar 4) (ret []))) mRet) (ret .nx)))
def fn__law_table : Fn := runF 7 4 st__law_table
theorem ok__law_table (T : Top w K mg cm) (F : Fun K "_law_table" "_law_table" (topS 20) f fd) (hg : mg "_law_table" = some (.ref f)) (hb : Binds K fd ["script", "at", "n", "order"] []) (c__law_cell : Cal P w K mg base cm 1 "_law_cell" fn__law_cell) (c__law_set : Cal P w K mg base cm 2 "_law_set" fn__law_set) (c__law_stretch : Cal P w K mg base cm 2 "_law_stretch" fn__law_stretch) : Cal P w K mg base cm 3 "_law_table" fn__law_table := by
  refine def_ok (k := 2) (m := st__law_table) F sc__law_table hg hb ?_ (by decide)
  intro cdv A outer s H E hr
  have tk : L2N.Takes (cxOf (L2N.CX P w) P w K mg base ["script", "at", "n", "order", "sets", "k", "cell"] "_law_table" (defScope (topS 20)) f cdv A outer s H E) (fun cls d _ H => E cls d H) := L2N.takes_of rfl rfl rfl rfl
  have hp : PassesOwn (model P w) (cxOf (L2N.CX P w) P w K mg base ["script", "at", "n", "order", "sets", "k", "cell"] "_law_table" (defScope (topS 20)) f cdv A outer s H E).A (cxOf (L2N.CX P w) P w K mg base ["script", "at", "n", "order", "sets", "k", "cell"] "_law_table" (defScope (topS 20)) f cdv A outer s H E).env (cxOf (L2N.CX P w) P w K mg base ["script", "at", "n", "order", "sets", "k", "cell"] "_law_table" (defScope (topS 20)) f cdv A outer s H E).xe := passes_of rfl
  have c__law_cell : Cal P w K mg base cm 2 "_law_cell" fn__law_cell := c__law_cell.mono (by omega)
  have c__law_set : Cal P w K mg base cm 2 "_law_set" fn__law_set := c__law_set.mono (by omega)
  have c__law_stretch : Cal P w K mg base cm 2 "_law_stretch" fn__law_stretch := c__law_stretch.mono (by omega)
  exact b_cons (s_set (i := 4) sc__law_table.nd (e_lst (a_nil))) (b_cons (s_for hp rfl (i_range1 T.b_range (k_cons (SE.look (e_int)) (k_nil))) (g_name (i := 5) sc__law_table.nd) (b_cons (s_if (t_cmp o_lt (SE.look (e_bin o_addG (p_var (i := 1)) (p_var (i := 5)))) (SE.look (e_callB c_len T.b_len PySem.boot_len (k_cons (p_var (i := 0)) (k_nil))))) (b_cons (s_set (i := 6) sc__law_table.nd (e_bin o_addG (SE.look (e_call c__law_cell hr tk (a_cons (e_var (i := 0)) (a_cons (e_bin o_addG (p_var (i := 1)) (p_var (i := 5))) (a_nil))))) (p_var (i := 5)))) (b_cons (s_if (t_cmp (o_eq hr.units) (SE.look (e_bin o_mod (SE.look (e_callTy c_int T.b_int PyProof.Rows.boot_int (k_cons (p_var (i := 6)) (k_nil)))) (SE.look (e_int)))) (SE.look (e_int))) (b_cons (s_met (i := 4) PySem.F.slot_list_append PySem.F.type_list_append k_append (a_cons (e_call c__law_set hr tk (a_cons (e_bin o_div (p_var (i := 6)) (SE.look (e_int))) (a_cons (e_var (i := 2)) (a_nil)))) (a_nil))) (b_nil)) (b_cons (s_met (i := 4) PySem.F.slot_list_append PySem.F.type_list_append k_append (a_cons (e_call c__law_stretch hr tk (a_cons (e_bin o_div (p_var (i := 6)) (SE.look (e_int))) (a_cons (e_var (i := 3)) (a_nil)))) (a_nil))) (b_nil))) (b_nil))) (b_nil)) (b_nil))) (b_cons (s_ret (e_callTy c_tuple T.b_tuple PyProof.Rows.boot_tuple (k_cons (p_var (i := 4)) (k_nil)))) (b_nil)))
/-! ### _law_within -/
theorem sc__law_within : FnScope ["n", "things", "thing"] ["n", "things"] (defScope (topS 22)) := ⟨rfl, rfl, rfl, by decide +kernel, rfl, by decide +kernel, by decide +kernel⟩
def st__law_within : M Fl := sq (bnd (eOp (gEq false) (look (mComp (mSeq (eVar 1)) (tName 2) (mOr (blOf (eOp cLt (pVar 2) (look (eC (.int 0))))) (blOf (eOp cGe (pVar 2) (pVar 0)))) (eVar 2) [2])) (look (mLst (ret [])))) mRet) (ret .nx)
def fn__law_within : Fn := runF 3 2 st__law_within
theorem ok__law_within (T : Top w K mg cm) (F : Fun K "_law_within" "_law_within" (topS 22) f fd) (hg : mg "_law_within" = some (.ref f)) (hb : Binds K fd ["n", "things"] []) : Cal P w K mg base cm 1 "_law_within" fn__law_within := by
  refine def_ok (k := 0) (m := st__law_within) F sc__law_within hg hb ?_ (by decide)
  intro cdv A outer s H E hr
  have tk : L2N.Takes (cxOf (L2N.CX P w) P w K mg base ["n", "things", "thing"] "_law_within" (defScope (topS 22)) f cdv A outer s H E) (fun cls d _ H => E cls d H) := L2N.takes_of rfl rfl rfl rfl
  have hp : PassesOwn (model P w) (cxOf (L2N.CX P w) P w K mg base ["n", "things", "thing"] "_law_within" (defScope (topS 22)) f cdv A outer s H E).A (cxOf (L2N.CX P w) P w K mg base ["n", "things", "thing"] "_law_within" (defScope (topS 22)) f cdv A outer s H E).env (cxOf (L2N.CX P w) P w K mg base ["n", "things", "thing"] "_law_within" (defScope (topS 22)) f cdv A outer s H E).xe := passes_of rfl
  exact b_cons (s_ret (e_cmp (o_eq hr.units) (SE.look (e_compV (N := ["n", "things", "thing"]) (sc := defScope (topS 22)) (vs := [2]) [("thing", 2)] rfl sc__law_within.nd (by decide +kernel) (i_seq (e_var (i := 1))) (fun _ _ _ _ _ => g_name (i := 2) sc__law_within.nd) (fun _ _ _ _ _ => ts_one (t_w (w_or (t_cmp o_lt (p_var (i := 2)) (SE.look (e_int))) (w_oneO (t_cmp o_ge (p_var (i := 2)) (p_var (i := 0))))))) (fun _ _ _ _ _ => e_var (i := 2)))) (SE.look (e_lst (a_nil))))) (b_nil)
/-! ### _law_is_set -/
theorem sc__law_is_set : FnScope ["n", "chosen", "k"] ["n", "chosen"] (defScope (topS 21)) := ⟨rfl, rfl, rfl, by decide +kernel, rfl, by decide +kernel, by decide +kernel⟩
def st__law_is_set : M Fl := sq (bnd (vAnd (eOp (gEq false) (look (eCall gList (kCons (pVar 1) (ret [])))) (look (eCall gSorted (kCons (pVar 1) (ret []))))) (vAnd (eOp (gEq false) (look (mComp (mRng2 (kCons (look (eC (.int 1))) (kCons (look (eCall gLen (kCons (pVar 1) (ret [])))) (ret [])))) (tName 2) (blOf (eOp (gEq false) (look (eOp gIx (pVar 1) (look (eOp aSub (pVar 2) (look (eC (.int 1))))))) (look (eOp gIx (pVar 1) (pVar 2))))) (eVar 2) [2])) (look (mLst (ret [])))) (eFn fn__law_within (aCons (eVar 0) (aCons (eVar 1) (ret [])))))) mRet) (ret .nx)
def fn__law_is_set : Fn := runF 3 2 st__law_is_set
theorem ok__law_is_set (T : Top w K mg cm) (F : Fun K "_law_is_set" "_law_is_set" (topS 21) f fd) (hg : mg "_law_is_set" = some (.ref f)) (hb : Binds K fd ["n", "chosen"] []) (c__law_within : Cal P w K mg base cm 1 "_law_within" fn__law_within) : Cal P w K mg base cm 2 "_law_is_set" fn__law_is_set := by
  refine def_ok (k := 1) (m := st__law_is_set) F sc__law_is_set hg hb ?_ (by decide)
  intro cdv A outer s H E hr
  have tk : L2N.Takes (cxOf (L2N.CX P w) P w K mg base ["n", "chosen", "k"] "_law_is_set" (defScope (topS 21)) f cdv A outer s H E) (fun cls d _ H => E cls d H) := L2N.takes_of rfl rfl rfl rfl
  have hp : PassesOwn (model P w) (cxOf (L2N.CX P w) P w K mg base ["n", "chosen", "k"] "_law_is_set" (defScope (topS 21)) f cdv A outer s H E).A (cxOf (L2N.CX P w) P w K mg base ["n", "chosen", "k"] "_law_is_set" (defScope (topS 21)) f cdv A outer s H E).env (cxOf (L2N.CX P w) P w K mg base ["n", "chosen", "k"] "_law_is_set" (defScope (topS 21)) f cdv A outer s H E).xe := passes_of rfl
  have c__law_within : Cal P w K mg base cm 1 "_law_within" fn__law_within := c__law_within.mono (by omega)
  exact b_cons (s_ret (e_and (e_cmp (o_eq hr.units) (SE.look (e_callTy c_list T.b_list PyProof.Rows.boot_list (k_cons (p_var (i := 1)) (k_nil)))) (SE.look (e_callB c_sorted T.b_sorted PyProof.Rows.boot_sorted (k_cons (p_var (i := 1)) (k_nil))))) (e_and (e_cmp (o_eq hr.units) (SE.look (e_compV (N := ["n", "chosen", "k"]) (sc := defScope (topS 21)) (vs := [2]) [("k", 2)] rfl sc__law_is_set.nd (by decide +kernel) (i_range2 T.b_range (k_cons (SE.look (e_int)) (k_cons (SE.look (e_callB c_len T.b_len PySem.boot_len (k_cons (p_var (i := 1)) (k_nil)))) (k_nil)))) (fun _ _ _ _ _ => g_name (i := 2) sc__law_is_set.nd) (fun _ _ _ _ _ => ts_one (t_cmp (o_eq hr.units) (SE.look (e_ix (p_var (i := 1)) (SE.look (e_bin o_sub (p_var (i := 2)) (SE.look (e_int)))))) (SE.look (e_ix (p_var (i := 1)) (p_var (i := 2)))))) (fun _ _ _ _ _ => e_var (i := 2)))) (SE.look (e_lst (a_nil)))) (e_one (e_call c__law_within hr tk (a_cons (e_var (i := 0)) (a_cons (e_var (i := 1)) (a_nil)))))))) (b_nil)
/-! ### _law_bent -/
theorem sc__law_bent : FnScope ["things", "cell", "d", "at"] ["things", "cell"] (defScope (topS 23)) := ⟨rfl, rfl, rfl, by decide +kernel, rfl, by decide +kernel, by decide +kernel⟩
def st__law_bent : M Fl := sq (bnd (eFn fn__law_digits (aCons (eFn fn__law_rich (aCons (eVar 1) (ret []))) (aCons (mLst (aCons (eC (.int 4)) (aCons (eC (.int 30)) (aCons (eC (.int 30)) (ret []))))) (ret [])))) (setR 2)) (sq (mIfS (mOr (blOf (eOp (gEq false) (look (eOp gIx (pVar 2) (look (eC (.int 0))))) (look (eC (.int 0))))) (blOf (eOp (gEq false) (look (eCall gLen (kCons (pVar 0) (ret [])))) (look (eC (.int 0)))))) (sq (bnd (eOp gAdd (pVar 0) (look (mTup (aCons (eOp aSub (look (eOp gIx (pVar 2) (look (eC (.int 1))))) (look (eC (.int 3)))) (ret []))))) mRet) (ret .nx)) (ret .nx)) (sq (bnd (eOp aMod (look (eCall gInt (kCons (look (eOp gIx (pVar 2) (look (eC (.int 2))))) (ret [])))) (look (eCall gLen (kCons (pVar 0) (ret []))))) (setR 3)) (sq (mIfS (blOf (eOp (gEq false) (look (eOp gIx (pVar 2) (look (eC (.int 0))))) (look (eC (.int 1))))) (sq (bnd (eOp gAdd (look (eSl (pVar 0) (ret none) (soInt (pVar 3)))) (look (eSl (pVar 0) (soInt (look (eOp gAdd (pVar 3) (look (eC (.int 1)))))) (ret none)))) mRet) (ret .nx)) (ret .nx)) (sq (mIfS (blOf (eOp (gEq false) (look (eOp gIx (pVar 2) (look (eC (.int 0))))) (look (eC (.int 2))))) (sq (bnd (eOp gAdd (look (eOp gAdd (look (eSl (pVar 0) (ret none) (soInt (pVar 3)))) (look (mTup (aCons (eOp aSub (look (eOp gIx (pVar 2) (look (eC (.int 1))))) (look (eC (.int 3)))) (ret [])))))) (look (eSl (pVar 0) (soInt (look (eOp gAdd (pVar 3) (look (eC (.int 1)))))) (ret none)))) mRet) (ret .nx)) (ret .nx)) (sq (bnd (mRevA (pVar 0)) mRet) (ret .nx))))))
def fn__law_bent : Fn := runF 4 2 st__law_bent
theorem ok__law_bent (T : Top w K mg cm) (F : Fun K "_law_bent" "_law_bent" (topS 23) f fd) (hg : mg "_law_bent" = some (.ref f)) (hb : Binds K fd ["things", "cell"] []) (c__law_digits : Cal P w K mg base cm 1 "_law_digits" fn__law_digits) (c__law_rich : Cal P w K mg base cm 1 "_law_rich" fn__law_rich) : Cal P w K mg base cm 2 "_law_bent" fn__law_bent := by
  refine def_ok (k := 1) (m := st__law_bent) F sc__law_bent hg hb ?_ (by decide)
  intro cdv A outer s H E hr
  have tk : L2N.Takes (cxOf (L2N.CX P w) P w K mg base ["things", "cell", "d", "at"] "_law_bent" (defScope (topS 23)) f cdv A outer s H E) (fun cls d _ H => E cls d H) := L2N.takes_of rfl rfl rfl rfl
  have hp : PassesOwn (model P w) (cxOf (L2N.CX P w) P w K mg base ["things", "cell", "d", "at"] "_law_bent" (defScope (topS 23)) f cdv A outer s H E).A (cxOf (L2N.CX P w) P w K mg base ["things", "cell", "d", "at"] "_law_bent" (defScope (topS 23)) f cdv A outer s H E).env (cxOf (L2N.CX P w) P w K mg base ["things", "cell", "d", "at"] "_law_bent" (defScope (topS 23)) f cdv A outer s H E).xe := passes_of rfl
  have c__law_digits : Cal P w K mg base cm 1 "_law_digits" fn__law_digits := c__law_digits.mono (by omega)
  have c__law_rich : Cal P w K mg base cm 1 "_law_rich" fn__law_rich := c__law_rich.mono (by omega)
  exact b_cons (s_set (i := 2) sc__law_bent.nd (e_call c__law_digits hr tk (a_cons (e_call c__law_rich hr tk (a_cons (e_var (i := 1)) (a_nil))) (a_cons (e_lst (a_cons (e_int) (a_cons (e_int) (a_cons (e_int) (a_nil))))) (a_nil))))) (b_cons (s_if (t_w (w_or (t_cmp (o_eq hr.units) (SE.look (e_ix (p_var (i := 2)) (SE.look (e_int)))) (SE.look (e_int))) (w_oneO (t_cmp (o_eq hr.units) (SE.look (e_callB c_len T.b_len PySem.boot_len (k_cons (p_var (i := 0)) (k_nil)))) (SE.look (e_int)))))) (b_cons (s_ret (e_bin o_addG (p_var (i := 0)) (SE.look (e_tup (a_cons (e_bin o_sub (SE.look (e_ix (p_var (i := 2)) (SE.look (e_int)))) (SE.look (e_int))) (a_nil)))))) (b_nil)) (b_nil)) (b_cons (s_set (i := 3) sc__law_bent.nd (e_bin o_mod (SE.look (e_callTy c_int T.b_int PyProof.Rows.boot_int (k_cons (SE.look (e_ix (p_var (i := 2)) (SE.look (e_int)))) (k_nil)))) (SE.look (e_callB c_len T.b_len PySem.boot_len (k_cons (p_var (i := 0)) (k_nil)))))) (b_cons (s_if (t_cmp (o_eq hr.units) (SE.look (e_ix (p_var (i := 2)) (SE.look (e_int)))) (SE.look (e_int))) (b_cons (s_ret (e_bin o_addG (SE.look (e_sl (p_var (i := 0)) so_none (so_some (p_var (i := 3))))) (SE.look (e_sl (p_var (i := 0)) (so_some (SE.look (e_bin o_addG (p_var (i := 3)) (SE.look (e_int))))) so_none)))) (b_nil)) (b_nil)) (b_cons (s_if (t_cmp (o_eq hr.units) (SE.look (e_ix (p_var (i := 2)) (SE.look (e_int)))) (SE.look (e_int))) (b_cons (s_ret (e_bin o_addG (SE.look (e_bin o_addG (SE.look (e_sl (p_var (i := 0)) so_none (so_some (p_var (i := 3))))) (SE.look (e_tup (a_cons (e_bin o_sub (SE.look (e_ix (p_var (i := 2)) (SE.look (e_int)))) (SE.look (e_int))) (a_nil)))))) (SE.look (e_sl (p_var (i := 0)) (so_some (SE.look (e_bin o_addG (p_var (i := 3)) (SE.look (e_int))))) so_none)))) (b_nil)) (b_nil)) (b_cons (s_ret (e_revA (p_var (i := 0)))) (b_nil))))))
/-! ### _law_word -/
theorem sc__law_word : FnScope ["n", "kind", "value", "e", "told", "k", "m"] ["n", "kind", "value"] (defScope (topS 24)) := ⟨rfl, rfl, rfl, by decide +kernel, rfl, by decide +kernel, by decide +kernel⟩
def is__law_word : Str → Option Bool := fun d => if d = "UnpartedError" then some true else if d = "InvalidTable" then some true else if d = "InvalidOrder" then some true else if d = "OutOfRange" then some true else none
theorem is__law_word_ok (T : Top w K mg cm) : ∀ d k, is__law_word d = some k → PySem.W.exmOne K (cm d) (cm "UnpartedError") = some k := fun d k h => by
  unfold is__law_word at h
  split at h
  · rename_i e; subst e; cases h; exact T.m_UnpartedError_UnpartedError
  split at h
  · rename_i e; subst e; cases h; exact T.m_InvalidTable_UnpartedError
  split at h
  · rename_i e; subst e; cases h; exact T.m_InvalidOrder_UnpartedError
  split at h
  · rename_i e; subst e; cases h; exact T.m_OutOfRange_UnpartedError
  cases h
theorem is__law_word_cs {d : Str} (h : is__law_word d = some true) : d = "UnpartedError" ∨ d = "InvalidTable" ∨ d = "InvalidOrder" ∨ d = "OutOfRange" := by
  unfold is__law_word at h
  split at h
  · rename_i e; simp [e]
  split at h
  · rename_i e; simp [e]
  split at h
  · rename_i e; simp [e]
  split at h
  · rename_i e; simp [e]
  cases h
theorem is__law_word_n0 : ∀ d, is__law_word d = some true → Nat0 3 ((fun d_ a_ => pickC d_ [("UnpartedError", sq (bnd (mLst (aCons (mIsE 3 false a_) (aCons (mIsE 3 false a_) (aCons (mIsE 3 false a_) (ret []))))) (setR 4)) (sq (bnd (mRng1 (kCons (look (eC (.int 3))) (ret []))) (loop (tName 5) (sq (mIfS (mAnd (blOf (eOp (gEq false) (pVar 4) (look (mComp (mRng1 (kCons (look (eC (.int 3))) (ret []))) (tName 6) (ret true) (eOp (gEq false) (pVar 6) (pVar 5)) [6])))) (tTru (look (mIsE 3 true a_)))) (sq (bnd (eOp gIx (look (mLst (aCons (eC (.str "table")) (aCons (eC (.str "order")) (aCons (eC (.str "range")) (ret [])))))) (pVar 5)) mRet) (ret .nx)) (ret .nx)) (ret .nx)))) (ret .nx))), ("InvalidTable", sq (bnd (mLst (aCons (mIsE 3 true a_) (aCons (mIsE 3 false a_) (aCons (mIsE 3 false a_) (ret []))))) (setR 4)) (sq (bnd (mRng1 (kCons (look (eC (.int 3))) (ret []))) (loop (tName 5) (sq (mIfS (mAnd (blOf (eOp (gEq false) (pVar 4) (look (mComp (mRng1 (kCons (look (eC (.int 3))) (ret []))) (tName 6) (ret true) (eOp (gEq false) (pVar 6) (pVar 5)) [6])))) (tTru (look (mIsE 3 true a_)))) (sq (bnd (eOp gIx (look (mLst (aCons (eC (.str "table")) (aCons (eC (.str "order")) (aCons (eC (.str "range")) (ret [])))))) (pVar 5)) mRet) (ret .nx)) (ret .nx)) (ret .nx)))) (ret .nx))), ("InvalidOrder", sq (bnd (mLst (aCons (mIsE 3 false a_) (aCons (mIsE 3 true a_) (aCons (mIsE 3 false a_) (ret []))))) (setR 4)) (sq (bnd (mRng1 (kCons (look (eC (.int 3))) (ret []))) (loop (tName 5) (sq (mIfS (mAnd (blOf (eOp (gEq false) (pVar 4) (look (mComp (mRng1 (kCons (look (eC (.int 3))) (ret []))) (tName 6) (ret true) (eOp (gEq false) (pVar 6) (pVar 5)) [6])))) (tTru (look (mIsE 3 true a_)))) (sq (bnd (eOp gIx (look (mLst (aCons (eC (.str "table")) (aCons (eC (.str "order")) (aCons (eC (.str "range")) (ret [])))))) (pVar 5)) mRet) (ret .nx)) (ret .nx)) (ret .nx)))) (ret .nx))), ("OutOfRange", sq (bnd (mLst (aCons (mIsE 3 false a_) (aCons (mIsE 3 false a_) (aCons (mIsE 3 true a_) (ret []))))) (setR 4)) (sq (bnd (mRng1 (kCons (look (eC (.int 3))) (ret []))) (loop (tName 5) (sq (mIfS (mAnd (blOf (eOp (gEq false) (pVar 4) (look (mComp (mRng1 (kCons (look (eC (.int 3))) (ret []))) (tName 6) (ret true) (eOp (gEq false) (pVar 6) (pVar 5)) [6])))) (tTru (look (mIsE 3 true a_)))) (sq (bnd (eOp gIx (look (mLst (aCons (eC (.str "table")) (aCons (eC (.str "order")) (aCons (eC (.str "range")) (ret [])))))) (pVar 5)) mRet) (ret .nx)) (ret .nx)) (ret .nx)))) (ret .nx)))] : Str → Addr → M Fl) d) := fun d _ => by
  refine Sm.nat0 ?_
  repeat' (first | exact sm_pick0 | refine sm_pick ?_ ?_ | exact sm_ret | exact sm_mRet | exact sm_isE | exact sm_eC | exact sm_var (by decide) | exact sm_pVar (by decide) | exact sm_setR (by decide) | refine sm_sq ?_ ?_ | refine sm_vAnd ?_ ?_ | refine sm_vNot ?_ | refine sm_loop (by decide) ?_ _ | refine sm_mComp (by decide) (by decide) ?_ ?_ ?_ | refine sm_eOp ?_ ?_ | refine sm_look ?_ | refine sm_aCons ?_ ?_ | refine sm_kCons ?_ ?_ | refine sm_mLst ?_ | refine sm_mRng1 ?_ | refine sm_blOf ?_ | refine sm_tTru ?_ | refine sm_mAnd ?_ ?_ | refine sm_mIfS ?_ ?_ ?_ | refine sm_bnd ?_ (fun _ => ?_))
def st__law_word : M Fl := sq (mTry (sq (mIfS (blOf (eOp (gEq false) (pVar 1) (look (eC (.int 0))))) (sq (bnd (eOp gIx (look (mLst (aCons (eC (.str "")) (aCons (eC (.str "wrong")) (ret []))))) (look (eCall gInt (kCons (look (eOp (gEq true) (look (eFn fn_check_set (aCons (eVar 0) (aCons (eVar 2) (ret []))))) (pVar 2))) (ret []))))) mRet) (ret .nx)) (ret .nx)) (sq (mIfS (blOf (eOp (gEq false) (pVar 1) (look (eC (.int 1))))) (sq (bnd (eOp gIx (look (mLst (aCons (eC (.str "")) (aCons (eC (.str "wrong")) (ret []))))) (look (eCall gInt (kCons (look (eOp (gEq true) (look (eFn fn_check_table (aCons (eVar 0) (aCons (eVar 2) (ret []))))) (pVar 2))) (ret []))))) mRet) (ret .nx)) (ret .nx)) (sq (mIfS (blOf (eOp (gEq false) (pVar 1) (look (eC (.int 2))))) (sq (bnd (eOp gIx (look (mLst (aCons (eC (.str "")) (aCons (eC (.str "wrong")) (ret []))))) (look (eCall gInt (kCons (look (eOp (gEq true) (look (eFn fn_check_order (aCons (eVar 0) (aCons (eVar 2) (ret []))))) (pVar 2))) (ret []))))) mRet) (ret .nx)) (ret .nx)) (sq (bnd (eOp gIx (look (mLst (aCons (eC (.str "")) (aCons (eC (.str "wrong")) (ret []))))) (look (eCall gInt (kCons (look (eOp (gEq true) (look (eFn fn_check_things (aCons (eVar 0) (ret [])))) (pVar 0))) (ret []))))) mRet) (ret .nx))))) is__law_word 3 (fun d_ a_ => pickC d_ [("UnpartedError", sq (bnd (mLst (aCons (mIsE 3 false a_) (aCons (mIsE 3 false a_) (aCons (mIsE 3 false a_) (ret []))))) (setR 4)) (sq (bnd (mRng1 (kCons (look (eC (.int 3))) (ret []))) (loop (tName 5) (sq (mIfS (mAnd (blOf (eOp (gEq false) (pVar 4) (look (mComp (mRng1 (kCons (look (eC (.int 3))) (ret []))) (tName 6) (ret true) (eOp (gEq false) (pVar 6) (pVar 5)) [6])))) (tTru (look (mIsE 3 true a_)))) (sq (bnd (eOp gIx (look (mLst (aCons (eC (.str "table")) (aCons (eC (.str "order")) (aCons (eC (.str "range")) (ret [])))))) (pVar 5)) mRet) (ret .nx)) (ret .nx)) (ret .nx)))) (ret .nx))), ("InvalidTable", sq (bnd (mLst (aCons (mIsE 3 true a_) (aCons (mIsE 3 false a_) (aCons (mIsE 3 false a_) (ret []))))) (setR 4)) (sq (bnd (mRng1 (kCons (look (eC (.int 3))) (ret []))) (loop (tName 5) (sq (mIfS (mAnd (blOf (eOp (gEq false) (pVar 4) (look (mComp (mRng1 (kCons (look (eC (.int 3))) (ret []))) (tName 6) (ret true) (eOp (gEq false) (pVar 6) (pVar 5)) [6])))) (tTru (look (mIsE 3 true a_)))) (sq (bnd (eOp gIx (look (mLst (aCons (eC (.str "table")) (aCons (eC (.str "order")) (aCons (eC (.str "range")) (ret [])))))) (pVar 5)) mRet) (ret .nx)) (ret .nx)) (ret .nx)))) (ret .nx))), ("InvalidOrder", sq (bnd (mLst (aCons (mIsE 3 false a_) (aCons (mIsE 3 true a_) (aCons (mIsE 3 false a_) (ret []))))) (setR 4)) (sq (bnd (mRng1 (kCons (look (eC (.int 3))) (ret []))) (loop (tName 5) (sq (mIfS (mAnd (blOf (eOp (gEq false) (pVar 4) (look (mComp (mRng1 (kCons (look (eC (.int 3))) (ret []))) (tName 6) (ret true) (eOp (gEq false) (pVar 6) (pVar 5)) [6])))) (tTru (look (mIsE 3 true a_)))) (sq (bnd (eOp gIx (look (mLst (aCons (eC (.str "table")) (aCons (eC (.str "order")) (aCons (eC (.str "range")) (ret [])))))) (pVar 5)) mRet) (ret .nx)) (ret .nx)) (ret .nx)))) (ret .nx))), ("OutOfRange", sq (bnd (mLst (aCons (mIsE 3 false a_) (aCons (mIsE 3 false a_) (aCons (mIsE 3 true a_) (ret []))))) (setR 4)) (sq (bnd (mRng1 (kCons (look (eC (.int 3))) (ret []))) (loop (tName 5) (sq (mIfS (mAnd (blOf (eOp (gEq false) (pVar 4) (look (mComp (mRng1 (kCons (look (eC (.int 3))) (ret []))) (tName 6) (ret true) (eOp (gEq false) (pVar 6) (pVar 5)) [6])))) (tTru (look (mIsE 3 true a_)))) (sq (bnd (eOp gIx (look (mLst (aCons (eC (.str "table")) (aCons (eC (.str "order")) (aCons (eC (.str "range")) (ret [])))))) (pVar 5)) mRet) (ret .nx)) (ret .nx)) (ret .nx)))) (ret .nx)))])) (sq (bnd (eC (.str "other")) mRet) (ret .nx))
def fn__law_word : Fn := runF 7 3 st__law_word
theorem ok__law_word (T : Top w K mg cm) (F : Fun K "_law_word" "_law_word" (topS 24) f fd) (hg : mg "_law_word" = some (.ref f)) (hb : Binds K fd ["n", "kind", "value"] []) (c_check_things : Cal P w K mg base cm 2 "check_things" fn_check_things) (c_check_set : Cal P w K mg base cm 2 "check_set" fn_check_set) (c_check_table : Cal P w K mg base cm 3 "check_table" fn_check_table) (c_check_order : Cal P w K mg base cm 2 "check_order" fn_check_order) : Cal P w K mg base cm 4 "_law_word" fn__law_word := by
  refine def_ok (k := 3) (m := st__law_word) F sc__law_word hg hb ?_ (by decide)
  intro cdv A outer s H E hr
  have tk : L2N.Takes (cxOf (L2N.CX P w) P w K mg base ["n", "kind", "value", "e", "told", "k", "m"] "_law_word" (defScope (topS 24)) f cdv A outer s H E) (fun cls d _ H => E cls d H) := L2N.takes_of rfl rfl rfl rfl
  have hp : PassesOwn (model P w) (cxOf (L2N.CX P w) P w K mg base ["n", "kind", "value", "e", "told", "k", "m"] "_law_word" (defScope (topS 24)) f cdv A outer s H E).A (cxOf (L2N.CX P w) P w K mg base ["n", "kind", "value", "e", "told", "k", "m"] "_law_word" (defScope (topS 24)) f cdv A outer s H E).env (cxOf (L2N.CX P w) P w K mg base ["n", "kind", "value", "e", "told", "k", "m"] "_law_word" (defScope (topS 24)) f cdv A outer s H E).xe := passes_of rfl
  have c_check_things : Cal P w K mg base cm 3 "check_things" fn_check_things := c_check_things.mono (by omega)
  have c_check_set : Cal P w K mg base cm 3 "check_set" fn_check_set := c_check_set.mono (by omega)
  have c_check_table : Cal P w K mg base cm 3 "check_table" fn_check_table := c_check_table.mono (by omega)
  have c_check_order : Cal P w K mg base cm 3 "check_order" fn_check_order := c_check_order.mono (by omega)
  exact b_cons (s_tryAs (i := 3) rfl rfl sc__law_word.nd T.N_UnpartedError.names tk (is__law_word_ok T) (fun _ _ _ tk hp => b_cons (s_if (t_cmp (o_eq hr.units) (p_var (i := 1)) (SE.look (e_int))) (b_cons (s_ret (e_ix (SE.look (e_lst (a_cons (e_str) (a_cons (e_str) (a_nil))))) (SE.look (e_callTy c_int T.b_int PyProof.Rows.boot_int (k_cons (SE.look (e_cmp (o_ne hr.units) (SE.look (e_call c_check_set hr tk (a_cons (e_var (i := 0)) (a_cons (e_var (i := 2)) (a_nil))))) (p_var (i := 2)))) (k_nil)))))) (b_nil)) (b_nil)) (b_cons (s_if (t_cmp (o_eq hr.units) (p_var (i := 1)) (SE.look (e_int))) (b_cons (s_ret (e_ix (SE.look (e_lst (a_cons (e_str) (a_cons (e_str) (a_nil))))) (SE.look (e_callTy c_int T.b_int PyProof.Rows.boot_int (k_cons (SE.look (e_cmp (o_ne hr.units) (SE.look (e_call c_check_table hr tk (a_cons (e_var (i := 0)) (a_cons (e_var (i := 2)) (a_nil))))) (p_var (i := 2)))) (k_nil)))))) (b_nil)) (b_nil)) (b_cons (s_if (t_cmp (o_eq hr.units) (p_var (i := 1)) (SE.look (e_int))) (b_cons (s_ret (e_ix (SE.look (e_lst (a_cons (e_str) (a_cons (e_str) (a_nil))))) (SE.look (e_callTy c_int T.b_int PyProof.Rows.boot_int (k_cons (SE.look (e_cmp (o_ne hr.units) (SE.look (e_call c_check_order hr tk (a_cons (e_var (i := 0)) (a_cons (e_var (i := 2)) (a_nil))))) (p_var (i := 2)))) (k_nil)))))) (b_nil)) (b_nil)) (b_cons (s_ret (e_ix (SE.look (e_lst (a_cons (e_str) (a_cons (e_str) (a_nil))))) (SE.look (e_callTy c_int T.b_int PyProof.Rows.boot_int (k_cons (SE.look (e_cmp (o_ne hr.units) (SE.look (e_call c_check_things hr tk (a_cons (e_var (i := 0)) (a_nil)))) (p_var (i := 0)))) (k_nil)))))) (b_nil))))) (fun d_ a_ _ _ hd hz hv => by rcases is__law_word_cs hd with rfl | rfl | rfl | rfl; { exact sbp_hd (b_cons (s_set (i := 4) sc__law_word.nd (e_lst (a_cons (e_isN (i := 3) T.k_UnpartedError_InvalidTable hz.zc hv T.b_isinstance T.N_InvalidTable.cls) (a_cons (e_isN (i := 3) T.k_UnpartedError_InvalidOrder hz.zc hv T.b_isinstance T.N_InvalidOrder.cls) (a_cons (e_isN (i := 3) T.k_UnpartedError_OutOfRange hz.zc hv T.b_isinstance T.N_OutOfRange.cls) (a_nil)))))) (b_cons (s_forH (fun _ _ h => h.elim) (hotC_of hz hv) (i_range1H T.b_range (k_cons (SE.look (e_int)) (k_nil))) (g_name (i := 5) sc__law_word.nd) (b_cons (s_if (t_w (w_and (t_cmp (o_eq hr.units) (p_var (i := 4)) (SE.look (e_compVH (N := ["n", "kind", "value", "e", "told", "k", "m"]) (sc := defScope (topS 24)) (vs := [6]) [("m", 6)] (hotC_of hz hv) sc__law_word.nd (by decide +kernel) (i_range1H T.b_range (k_cons (SE.look (e_int)) (k_nil))) (fun _ _ _ _ _ => g_name (i := 6) sc__law_word.nd) (fun _ _ _ _ _ => ts_nil) (fun _ _ _ _ _ => e_cmp (o_eq hr.units) (p_var (i := 6)) (p_var (i := 5)))))) (w_one (t_val (SE.look (e_isN (i := 3) T.k_UnpartedError_ValueError hz.zc hv T.b_isinstance (.ty "ValueError" T.b_ValueError rfl (by decide)))))))) (b_cons (s_ret (e_ix (SE.look (e_lst (a_cons (e_str) (a_cons (e_str) (a_cons (e_str) (a_nil)))))) (p_var (i := 5)))) (b_nil)) (b_nil)) (b_nil))) (b_nil))) }; { exact sbp_tl (by decide +kernel) (sbp_hd (b_cons (s_set (i := 4) sc__law_word.nd (e_lst (a_cons (e_isN (i := 3) T.k_InvalidTable_InvalidTable hz.zc hv T.b_isinstance T.N_InvalidTable.cls) (a_cons (e_isN (i := 3) T.k_InvalidTable_InvalidOrder hz.zc hv T.b_isinstance T.N_InvalidOrder.cls) (a_cons (e_isN (i := 3) T.k_InvalidTable_OutOfRange hz.zc hv T.b_isinstance T.N_OutOfRange.cls) (a_nil)))))) (b_cons (s_forH (fun _ _ h => h.elim) (hotC_of hz hv) (i_range1H T.b_range (k_cons (SE.look (e_int)) (k_nil))) (g_name (i := 5) sc__law_word.nd) (b_cons (s_if (t_w (w_and (t_cmp (o_eq hr.units) (p_var (i := 4)) (SE.look (e_compVH (N := ["n", "kind", "value", "e", "told", "k", "m"]) (sc := defScope (topS 24)) (vs := [6]) [("m", 6)] (hotC_of hz hv) sc__law_word.nd (by decide +kernel) (i_range1H T.b_range (k_cons (SE.look (e_int)) (k_nil))) (fun _ _ _ _ _ => g_name (i := 6) sc__law_word.nd) (fun _ _ _ _ _ => ts_nil) (fun _ _ _ _ _ => e_cmp (o_eq hr.units) (p_var (i := 6)) (p_var (i := 5)))))) (w_one (t_val (SE.look (e_isN (i := 3) T.k_InvalidTable_ValueError hz.zc hv T.b_isinstance (.ty "ValueError" T.b_ValueError rfl (by decide)))))))) (b_cons (s_ret (e_ix (SE.look (e_lst (a_cons (e_str) (a_cons (e_str) (a_cons (e_str) (a_nil)))))) (p_var (i := 5)))) (b_nil)) (b_nil)) (b_nil))) (b_nil)))) }; { exact sbp_tl (by decide +kernel) (sbp_tl (by decide +kernel) (sbp_hd (b_cons (s_set (i := 4) sc__law_word.nd (e_lst (a_cons (e_isN (i := 3) T.k_InvalidOrder_InvalidTable hz.zc hv T.b_isinstance T.N_InvalidTable.cls) (a_cons (e_isN (i := 3) T.k_InvalidOrder_InvalidOrder hz.zc hv T.b_isinstance T.N_InvalidOrder.cls) (a_cons (e_isN (i := 3) T.k_InvalidOrder_OutOfRange hz.zc hv T.b_isinstance T.N_OutOfRange.cls) (a_nil)))))) (b_cons (s_forH (fun _ _ h => h.elim) (hotC_of hz hv) (i_range1H T.b_range (k_cons (SE.look (e_int)) (k_nil))) (g_name (i := 5) sc__law_word.nd) (b_cons (s_if (t_w (w_and (t_cmp (o_eq hr.units) (p_var (i := 4)) (SE.look (e_compVH (N := ["n", "kind", "value", "e", "told", "k", "m"]) (sc := defScope (topS 24)) (vs := [6]) [("m", 6)] (hotC_of hz hv) sc__law_word.nd (by decide +kernel) (i_range1H T.b_range (k_cons (SE.look (e_int)) (k_nil))) (fun _ _ _ _ _ => g_name (i := 6) sc__law_word.nd) (fun _ _ _ _ _ => ts_nil) (fun _ _ _ _ _ => e_cmp (o_eq hr.units) (p_var (i := 6)) (p_var (i := 5)))))) (w_one (t_val (SE.look (e_isN (i := 3) T.k_InvalidOrder_ValueError hz.zc hv T.b_isinstance (.ty "ValueError" T.b_ValueError rfl (by decide)))))))) (b_cons (s_ret (e_ix (SE.look (e_lst (a_cons (e_str) (a_cons (e_str) (a_cons (e_str) (a_nil)))))) (p_var (i := 5)))) (b_nil)) (b_nil)) (b_nil))) (b_nil))))) }; { exact sbp_tl (by decide +kernel) (sbp_tl (by decide +kernel) (sbp_tl (by decide +kernel) (sbp_hd (b_cons (s_set (i := 4) sc__law_word.nd (e_lst (a_cons (e_isN (i := 3) T.k_OutOfRange_InvalidTable hz.zc hv T.b_isinstance T.N_InvalidTable.cls) (a_cons (e_isN (i := 3) T.k_OutOfRange_InvalidOrder hz.zc hv T.b_isinstance T.N_InvalidOrder.cls) (a_cons (e_isN (i := 3) T.k_OutOfRange_OutOfRange hz.zc hv T.b_isinstance T.N_OutOfRange.cls) (a_nil)))))) (b_cons (s_forH (fun _ _ h => h.elim) (hotC_of hz hv) (i_range1H T.b_range (k_cons (SE.look (e_int)) (k_nil))) (g_name (i := 5) sc__law_word.nd) (b_cons (s_if (t_w (w_and (t_cmp (o_eq hr.units) (p_var (i := 4)) (SE.look (e_compVH (N := ["n", "kind", "value", "e", "told", "k", "m"]) (sc := defScope (topS 24)) (vs := [6]) [("m", 6)] (hotC_of hz hv) sc__law_word.nd (by decide +kernel) (i_range1H T.b_range (k_cons (SE.look (e_int)) (k_nil))) (fun _ _ _ _ _ => g_name (i := 6) sc__law_word.nd) (fun _ _ _ _ _ => ts_nil) (fun _ _ _ _ _ => e_cmp (o_eq hr.units) (p_var (i := 6)) (p_var (i := 5)))))) (w_one (t_val (SE.look (e_isN (i := 3) T.k_OutOfRange_ValueError hz.zc hv T.b_isinstance (.ty "ValueError" T.b_ValueError rfl (by decide)))))))) (b_cons (s_ret (e_ix (SE.look (e_lst (a_cons (e_str) (a_cons (e_str) (a_cons (e_str) (a_nil)))))) (p_var (i := 5)))) (b_nil)) (b_nil)) (b_nil))) (b_nil)))))) }) is__law_word_n0) (b_cons (s_ret (e_str)) (b_nil))
/-! ### law -/
theorem sc_law : FnScope ["script", "d", "n", "size", "is_size", "order", "chosen", "sets", "good", "told", "thing"] ["script"] (defScope (topS 25)) := ⟨rfl, rfl, rfl, by decide +kernel, rfl, by decide +kernel, by decide +kernel⟩
def st_law : M Fl := sq (bnd (eFn fn__law_digits (aCons (eFn fn__law_rich (aCons (eFn fn__law_cell (aCons (eVar 0) (aCons (eC (.int 0)) (ret [])))) (ret []))) (aCons (mLst (aCons (eC (.int 30)) (aCons (eC (.int 2)) (aCons (eC (.int 2)) (aCons (eC (.int 6)) (ret [])))))) (ret [])))) (setR 1)) (sq (bnd (eOp aSub (look (eOp gIx (pVar 1) (look (eC (.int 0))))) (look (eC (.int 2)))) (setR 2)) (sq (bnd (eCall gMax (kCons (look (eC (.int 1))) (kCons (look (eCall gMin (kCons (pVar 2) (kCons (look (eC (.int 24))) (ret []))))) (ret [])))) (setR 3)) (sq (bnd (vAnd (eOp cGt (pVar 2) (look (eC (.int 0)))) (eOp cLt (pVar 2) (look (eC (.int 25))))) (setR 4)) (sq (bnd (eFn fn__law_order (aCons (eFn fn__law_cell (aCons (eVar 0) (aCons (eC (.int 1)) (ret [])))) (aCons (eVar 3) (ret [])))) (setR 5)) (sq (bnd (eFn fn__law_set (aCons (eFn fn__law_cell (aCons (eVar 0) (aCons (eC (.int 2)) (ret [])))) (aCons (eVar 3) (ret [])))) (setR 6)) (sq (mIfS (blOf (eOp (gEq false) (look (eOp gIx (pVar 1) (look (eC (.int 1))))) (look (eC (.int 1))))) (sq (bnd (eFn fn__law_bent (aCons (eVar 5) (aCons (eFn fn__law_cell (aCons (eVar 0) (aCons (eC (.int 3)) (ret [])))) (ret [])))) (setR 5)) (sq (bnd (eFn fn__law_bent (aCons (eVar 6) (aCons (eFn fn__law_cell (aCons (eVar 0) (aCons (eC (.int 4)) (ret [])))) (ret [])))) (setR 6)) (ret .nx))) (ret .nx)) (sq (bnd (eFn fn__law_table (aCons (eVar 0) (aCons (eC (.int 6)) (aCons (eVar 3) (aCons (eFn fn__law_order (aCons (eFn fn__law_cell (aCons (eVar 0) (aCons (eC (.int 5)) (ret [])))) (aCons (eVar 3) (ret [])))) (ret [])))))) (setR 7)) (sq (mIfS (blOf (eOp (gEq false) (look (eOp gIx (pVar 1) (look (eC (.int 2))))) (look (eC (.int 1))))) (sq (bnd (eOp gAdd (pVar 7) (look (mTup (aCons (eVar 6) (ret []))))) (setR 7)) (ret .nx)) (ret .nx)) (sq (mIfS (blOf (eOp (gEq false) (look (eOp gIx (pVar 1) (look (eC (.int 3))))) (look (eC (.int 0))))) (sq (bnd (eOp gMulT (look (mTup (aCons (eVar 6) (ret [])))) (look (eC (.int 41)))) (setR 7)) (ret .nx)) (ret .nx)) (sq (mIfS (blOf (eOp (gEq true) (look (eFn fn__law_word (aCons (eVar 2) (aCons (eC (.int 3)) (aCons (eC .non) (ret [])))))) (look (eOp gIx (look (mLst (aCons (eC (.str "range")) (aCons (eC (.str "")) (ret []))))) (look (eCall gInt (kCons (pVar 4) (ret [])))))))) (sq (bnd (eC (.bl false)) mRet) (ret .nx)) (ret .nx)) (sq (mIfS (blOf (eOp (gEq true) (look (eFn fn__law_word (aCons (eVar 2) (aCons (eC (.int 0)) (aCons (eVar 6) (ret [])))))) (look (eOp gIx (look (mLst (aCons (eC (.str "table")) (aCons (eC (.str "")) (ret []))))) (look (eCall gInt (kCons (look (vAnd (eVar 4) (eFn fn__law_is_set (aCons (eVar 2) (aCons (eVar 6) (ret [])))))) (ret [])))))))) (sq (bnd (eC (.bl false)) mRet) (ret .nx)) (ret .nx)) (sq (bnd (vAnd (eVar 4) (vAnd (eOp cLt (look (eCall gLen (kCons (pVar 7) (ret [])))) (look (eC (.int 41)))) (eOp (gEq false) (look (mComp (mSeq (eVar 7)) (tName 9) (mNot (tTru (look (eFn fn__law_is_set (aCons (eVar 2) (aCons (eVar 9) (ret []))))))) (eVar 9) [9])) (look (mLst (ret [])))))) (setR 8)) (sq (mIfS (blOf (eOp (gEq true) (look (eFn fn__law_word (aCons (eVar 2) (aCons (eC (.int 1)) (aCons (eVar 7) (ret [])))))) (look (eOp gIx (look (mLst (aCons (eC (.str "table")) (aCons (eC (.str "")) (ret []))))) (look (eCall gInt (kCons (pVar 8) (ret [])))))))) (sq (bnd (eC (.bl false)) mRet) (ret .nx)) (ret .nx)) (sq (bnd (eOp (gEq false) (look (eFn fn__law_word (aCons (eVar 2) (aCons (eC (.int 2)) (aCons (eVar 5) (ret [])))))) (look (eOp gIx (look (mLst (aCons (eC (.str "order")) (aCons (eC (.str "")) (ret []))))) (look (eCall gInt (kCons (look (vAnd (eVar 4) (eOp (gEq false) (look (eCall gSorted (kCons (pVar 5) (ret [])))) (look (mComp (mRng1 (kCons (pVar 2) (ret []))) (tName 10) (ret true) (eVar 10) [10]))))) (ret []))))))) mRet) (ret .nx)))))))))))))))
def fn_law : Fn := runF 11 1 st_law
theorem ok_law (T : Top w K mg cm) (F : Fun K "law" "law" (topS 25) f fd) (c__law_cell : Cal P w K mg base cm 1 "_law_cell" fn__law_cell) (c__law_digits : Cal P w K mg base cm 1 "_law_digits" fn__law_digits) (c__law_rich : Cal P w K mg base cm 1 "_law_rich" fn__law_rich) (c__law_order : Cal P w K mg base cm 2 "_law_order" fn__law_order) (c__law_set : Cal P w K mg base cm 2 "_law_set" fn__law_set) (c__law_table : Cal P w K mg base cm 3 "_law_table" fn__law_table) (c__law_is_set : Cal P w K mg base cm 2 "_law_is_set" fn__law_is_set) (c__law_bent : Cal P w K mg base cm 2 "_law_bent" fn__law_bent) (c__law_word : Cal P w K mg base cm 4 "_law_word" fn__law_word) : FnOk P w K mg base (L2N.CX P w) 5 f fd ["script"] (spP K cm fn_law) := by
  refine def_fn (k := 4) (m := st_law) F sc_law ?_ (by decide)
  intro cdv A outer s H E hr
  have tk : L2N.Takes (cxOf (L2N.CX P w) P w K mg base ["script", "d", "n", "size", "is_size", "order", "chosen", "sets", "good", "told", "thing"] "law" (defScope (topS 25)) f cdv A outer s H E) (fun cls d _ H => E cls d H) := L2N.takes_of rfl rfl rfl rfl
  have hp : PassesOwn (model P w) (cxOf (L2N.CX P w) P w K mg base ["script", "d", "n", "size", "is_size", "order", "chosen", "sets", "good", "told", "thing"] "law" (defScope (topS 25)) f cdv A outer s H E).A (cxOf (L2N.CX P w) P w K mg base ["script", "d", "n", "size", "is_size", "order", "chosen", "sets", "good", "told", "thing"] "law" (defScope (topS 25)) f cdv A outer s H E).env (cxOf (L2N.CX P w) P w K mg base ["script", "d", "n", "size", "is_size", "order", "chosen", "sets", "good", "told", "thing"] "law" (defScope (topS 25)) f cdv A outer s H E).xe := passes_of rfl
  have c__law_cell : Cal P w K mg base cm 4 "_law_cell" fn__law_cell := c__law_cell.mono (by omega)
  have c__law_digits : Cal P w K mg base cm 4 "_law_digits" fn__law_digits := c__law_digits.mono (by omega)
  have c__law_rich : Cal P w K mg base cm 4 "_law_rich" fn__law_rich := c__law_rich.mono (by omega)
  have c__law_order : Cal P w K mg base cm 4 "_law_order" fn__law_order := c__law_order.mono (by omega)
  have c__law_set : Cal P w K mg base cm 4 "_law_set" fn__law_set := c__law_set.mono (by omega)
  have c__law_table : Cal P w K mg base cm 4 "_law_table" fn__law_table := c__law_table.mono (by omega)
  have c__law_is_set : Cal P w K mg base cm 4 "_law_is_set" fn__law_is_set := c__law_is_set.mono (by omega)
  have c__law_bent : Cal P w K mg base cm 4 "_law_bent" fn__law_bent := c__law_bent.mono (by omega)
  have c__law_word : Cal P w K mg base cm 4 "_law_word" fn__law_word := c__law_word.mono (by omega)
  exact b_cons (s_set (i := 1) sc_law.nd (e_call c__law_digits hr tk (a_cons (e_call c__law_rich hr tk (a_cons (e_call c__law_cell hr tk (a_cons (e_var (i := 0)) (a_cons (e_int) (a_nil)))) (a_nil))) (a_cons (e_lst (a_cons (e_int) (a_cons (e_int) (a_cons (e_int) (a_cons (e_int) (a_nil)))))) (a_nil))))) (b_cons (s_set (i := 2) sc_law.nd (e_bin o_sub (SE.look (e_ix (p_var (i := 1)) (SE.look (e_int)))) (SE.look (e_int)))) (b_cons (s_set (i := 3) sc_law.nd (e_callB (c_max rfl) T.b_max PyProof.Rows.boot_max (k_cons (SE.look (e_int)) (k_cons (SE.look (e_callB (c_min rfl) T.b_min PyProof.Rows.boot_min (k_cons (p_var (i := 2)) (k_cons (SE.look (e_int)) (k_nil))))) (k_nil))))) (b_cons (s_set (i := 4) sc_law.nd (e_and (e_cmp o_gt (p_var (i := 2)) (SE.look (e_int))) (e_one (e_cmp o_lt (p_var (i := 2)) (SE.look (e_int)))))) (b_cons (s_set (i := 5) sc_law.nd (e_call c__law_order hr tk (a_cons (e_call c__law_cell hr tk (a_cons (e_var (i := 0)) (a_cons (e_int) (a_nil)))) (a_cons (e_var (i := 3)) (a_nil))))) (b_cons (s_set (i := 6) sc_law.nd (e_call c__law_set hr tk (a_cons (e_call c__law_cell hr tk (a_cons (e_var (i := 0)) (a_cons (e_int) (a_nil)))) (a_cons (e_var (i := 3)) (a_nil))))) (b_cons (s_if (t_cmp (o_eq hr.units) (SE.look (e_ix (p_var (i := 1)) (SE.look (e_int)))) (SE.look (e_int))) (b_cons (s_set (i := 5) sc_law.nd (e_call c__law_bent hr tk (a_cons (e_var (i := 5)) (a_cons (e_call c__law_cell hr tk (a_cons (e_var (i := 0)) (a_cons (e_int) (a_nil)))) (a_nil))))) (b_cons (s_set (i := 6) sc_law.nd (e_call c__law_bent hr tk (a_cons (e_var (i := 6)) (a_cons (e_call c__law_cell hr tk (a_cons (e_var (i := 0)) (a_cons (e_int) (a_nil)))) (a_nil))))) (b_nil))) (b_nil)) (b_cons (s_set (i := 7) sc_law.nd (e_call c__law_table hr tk (a_cons (e_var (i := 0)) (a_cons (e_int) (a_cons (e_var (i := 3)) (a_cons (e_call c__law_order hr tk (a_cons (e_call c__law_cell hr tk (a_cons (e_var (i := 0)) (a_cons (e_int) (a_nil)))) (a_cons (e_var (i := 3)) (a_nil)))) (a_nil))))))) (b_cons (s_if (t_cmp (o_eq hr.units) (SE.look (e_ix (p_var (i := 1)) (SE.look (e_int)))) (SE.look (e_int))) (b_cons (s_set (i := 7) sc_law.nd (e_bin o_addG (p_var (i := 7)) (SE.look (e_tup (a_cons (e_var (i := 6)) (a_nil)))))) (b_nil)) (b_nil)) (b_cons (s_if (t_cmp (o_eq hr.units) (SE.look (e_ix (p_var (i := 1)) (SE.look (e_int)))) (SE.look (e_int))) (b_cons (s_set (i := 7) sc_law.nd (e_bin o_mulT (SE.look (e_tup (a_cons (e_var (i := 6)) (a_nil)))) (SE.look (e_int)))) (b_nil)) (b_nil)) (b_cons (s_if (t_cmp (o_ne hr.units) (SE.look (e_call c__law_word hr tk (a_cons (e_var (i := 2)) (a_cons (e_int) (a_cons (e_non) (a_nil)))))) (SE.look (e_ix (SE.look (e_lst (a_cons (e_str) (a_cons (e_str) (a_nil))))) (SE.look (e_callTy c_int T.b_int PyProof.Rows.boot_int (k_cons (p_var (i := 4)) (k_nil))))))) (b_cons (s_ret (e_bl)) (b_nil)) (b_nil)) (b_cons (s_if (t_cmp (o_ne hr.units) (SE.look (e_call c__law_word hr tk (a_cons (e_var (i := 2)) (a_cons (e_int) (a_cons (e_var (i := 6)) (a_nil)))))) (SE.look (e_ix (SE.look (e_lst (a_cons (e_str) (a_cons (e_str) (a_nil))))) (SE.look (e_callTy c_int T.b_int PyProof.Rows.boot_int (k_cons (SE.look (e_and (e_var (i := 4)) (e_one (e_call c__law_is_set hr tk (a_cons (e_var (i := 2)) (a_cons (e_var (i := 6)) (a_nil))))))) (k_nil))))))) (b_cons (s_ret (e_bl)) (b_nil)) (b_nil)) (b_cons (s_set (i := 8) sc_law.nd (e_and (e_var (i := 4)) (e_and (e_cmp o_lt (SE.look (e_callB c_len T.b_len PySem.boot_len (k_cons (p_var (i := 7)) (k_nil)))) (SE.look (e_int))) (e_one (e_cmp (o_eq hr.units) (SE.look (e_compV (N := ["script", "d", "n", "size", "is_size", "order", "chosen", "sets", "good", "told", "thing"]) (sc := defScope (topS 25)) (vs := [9]) [("told", 9)] rfl sc_law.nd (by decide +kernel) (i_seq (e_var (i := 7))) (fun _ _ _ _ _ => g_name (i := 9) sc_law.nd) (fun _ _ _ _ _ => ts_one (t_not (t_val (SE.look (e_call c__law_is_set hr takes0N (a_cons (e_var (i := 2)) (a_cons (e_var (i := 9)) (a_nil)))))))) (fun _ _ _ _ _ => e_var (i := 9)))) (SE.look (e_lst (a_nil)))))))) (b_cons (s_if (t_cmp (o_ne hr.units) (SE.look (e_call c__law_word hr tk (a_cons (e_var (i := 2)) (a_cons (e_int) (a_cons (e_var (i := 7)) (a_nil)))))) (SE.look (e_ix (SE.look (e_lst (a_cons (e_str) (a_cons (e_str) (a_nil))))) (SE.look (e_callTy c_int T.b_int PyProof.Rows.boot_int (k_cons (p_var (i := 8)) (k_nil))))))) (b_cons (s_ret (e_bl)) (b_nil)) (b_nil)) (b_cons (s_ret (e_cmp (o_eq hr.units) (SE.look (e_call c__law_word hr tk (a_cons (e_var (i := 2)) (a_cons (e_int) (a_cons (e_var (i := 5)) (a_nil)))))) (SE.look (e_ix (SE.look (e_lst (a_cons (e_str) (a_cons (e_str) (a_nil))))) (SE.look (e_callTy c_int T.b_int PyProof.Rows.boot_int (k_cons (SE.look (e_and (e_var (i := 4)) (e_one (e_cmp (o_eq hr.units) (SE.look (e_callB c_sorted T.b_sorted PyProof.Rows.boot_sorted (k_cons (p_var (i := 5)) (k_nil)))) (SE.look (e_compV (N := ["script", "d", "n", "size", "is_size", "order", "chosen", "sets", "good", "told", "thing"]) (sc := defScope (topS 25)) (vs := [10]) [("thing", 10)] rfl sc_law.nd (by decide +kernel) (i_range1 T.b_range (k_cons (p_var (i := 2)) (k_nil))) (fun _ _ _ _ _ => g_name (i := 10) sc_law.nd) (fun _ _ _ _ _ => ts_nil) (fun _ _ _ _ _ => e_var (i := 10)))))))) (k_nil)))))))) (b_nil)))))))))))))))
end
def D_is_number_of_things : He.DefD := ⟨("is_number_of_things", none), "is_number_of_things", "is_number_of_things", defArgs (topS 8), defBody (topS 8), defScope (topS 8), [], []⟩
def D_check_things : He.DefD := ⟨("check_things", none), "check_things", "check_things", defArgs (topS 9), defBody (topS 9), defScope (topS 9), [], []⟩
def D_check_set : He.DefD := ⟨("check_set", none), "check_set", "check_set", defArgs (topS 10), defBody (topS 10), defScope (topS 10), [], []⟩
def D_check_table : He.DefD := ⟨("check_table", none), "check_table", "check_table", defArgs (topS 11), defBody (topS 11), defScope (topS 11), [], []⟩
def D_check_order : He.DefD := ⟨("check_order", none), "check_order", "check_order", defArgs (topS 12), defBody (topS 12), defScope (topS 12), [], []⟩
def D__law_cell : He.DefD := ⟨("_law_cell", none), "_law_cell", "_law_cell", defArgs (topS 14), defBody (topS 14), defScope (topS 14), [], []⟩
def D__law_digits : He.DefD := ⟨("_law_digits", none), "_law_digits", "_law_digits", defArgs (topS 15), defBody (topS 15), defScope (topS 15), [], []⟩
def D__law_rich : He.DefD := ⟨("_law_rich", none), "_law_rich", "_law_rich", defArgs (topS 16), defBody (topS 16), defScope (topS 16), [], []⟩
def D__law_order : He.DefD := ⟨("_law_order", none), "_law_order", "_law_order", defArgs (topS 17), defBody (topS 17), defScope (topS 17), [], []⟩
def D__law_set : He.DefD := ⟨("_law_set", none), "_law_set", "_law_set", defArgs (topS 18), defBody (topS 18), defScope (topS 18), [], []⟩
def D__law_stretch : He.DefD := ⟨("_law_stretch", none), "_law_stretch", "_law_stretch", defArgs (topS 19), defBody (topS 19), defScope (topS 19), [], []⟩
def D__law_table : He.DefD := ⟨("_law_table", none), "_law_table", "_law_table", defArgs (topS 20), defBody (topS 20), defScope (topS 20), [], []⟩
def D__law_is_set : He.DefD := ⟨("_law_is_set", none), "_law_is_set", "_law_is_set", defArgs (topS 21), defBody (topS 21), defScope (topS 21), [], []⟩
def D__law_within : He.DefD := ⟨("_law_within", none), "_law_within", "_law_within", defArgs (topS 22), defBody (topS 22), defScope (topS 22), [], []⟩
def D__law_bent : He.DefD := ⟨("_law_bent", none), "_law_bent", "_law_bent", defArgs (topS 23), defBody (topS 23), defScope (topS 23), [], []⟩
def D__law_word : He.DefD := ⟨("_law_word", none), "_law_word", "_law_word", defArgs (topS 24), defBody (topS 24), defScope (topS 24), [], []⟩
def D_law : He.DefD := ⟨("law", none), "law", "law", defArgs (topS 25), defBody (topS 25), defScope (topS 25), [], []⟩
def fnL : List He.DefD := [D_is_number_of_things, D_check_things, D_check_set, D_check_table, D_check_order, D__law_cell, D__law_digits, D__law_rich, D__law_order, D__law_set, D__law_stretch, D__law_table, D__law_is_set, D__law_within, D__law_bent, D__law_word, D_law]
def faL : List He.Fa := [.glo "is_number_of_things", .glo "check_things", .glo "check_set", .glo "check_table", .glo "check_order", .glo "_law_cell", .glo "_law_digits", .glo "_law_rich", .glo "_law_order", .glo "_law_set", .glo "_law_stretch", .glo "_law_table", .glo "_law_is_set", .glo "_law_within", .glo "_law_bent", .glo "_law_word", .glo "law", .free "ValueError", .free "int", .free "isinstance", .free "len", .free "list", .free "max", .free "min", .free "range", .free "sorted", .free "tuple", .int "MOST_THINGS" 24, .int "MOST_SETS" 40, .exc "InvalidOrder", .exc "InvalidTable", .exc "OutOfRange", .glo "InvalidOrder", .glo "InvalidTable", .glo "OutOfRange", .glo "UnpartedError", .exm "InvalidOrder" "UnpartedError" true, .exm "InvalidTable" "UnpartedError" true, .exm "OutOfRange" "UnpartedError" true, .exm "UnpartedError" "UnpartedError" true]
def tsL : List He.Tab := []
def exL (K : Fr) : Bool := isNB K "InvalidOrder" (fun K => cmK K "InvalidOrder") true && (isNB K "InvalidOrder" (fun K => cmK K "InvalidTable") false && (isNB K "InvalidOrder" (fun K => cmK K "OutOfRange") false && (isNB K "InvalidOrder" (fun _ => .type "ValueError") true && (isNB K "InvalidTable" (fun K => cmK K "InvalidOrder") false && (isNB K "InvalidTable" (fun K => cmK K "InvalidTable") true && (isNB K "InvalidTable" (fun K => cmK K "OutOfRange") false && (isNB K "InvalidTable" (fun _ => .type "ValueError") true && (isNB K "OutOfRange" (fun K => cmK K "InvalidOrder") false && (isNB K "OutOfRange" (fun K => cmK K "InvalidTable") false && (isNB K "OutOfRange" (fun K => cmK K "OutOfRange") true && (isNB K "OutOfRange" (fun _ => .type "ValueError") true && (isNB K "UnpartedError" (fun K => cmK K "InvalidOrder") false && (isNB K "UnpartedError" (fun K => cmK K "InvalidTable") false && (isNB K "UnpartedError" (fun K => cmK K "OutOfRange") false && (isNB K "UnpartedError" (fun _ => .type "ValueError") true)))))))))))))))
abbrev R : PySem.W.OpenRow := PySem.W.OpenLaw.row PySem.Challenge.rw_unpartedrows_k01_sets_tables_and_orders
abbrev qv : Program := PySem.W.view R.prog [25]
abbrev hk : PySem.W.Hook := He.hookX 5 faL fnL tsL [] exL
def ob (s : PySem.W.SharedT) : He.AlX := He.obsX 5 faL fnL tsL [] exL (HandSHeadRun.getT s)
theorem ob_eq (s : PySem.W.SharedT) : ob s = hk.obs s.abs := He.obsX_eq (HandSHeadRun.getT_eq s)
def looseL : List PySem.Str := (["UnpartedError", "InvalidTable", "InvalidOrder", "OutOfRange", "MOST_THINGS", "MOST_SETS", "is_number_of_things", "check_things", "check_set", "check_table", "check_order", "_law_cell", "_law_digits", "_law_rich", "_law_order", "_law_set", "_law_stretch", "_law_table", "_law_is_set", "_law_within"] : List PySem.Str) ++ (["_law_bent", "_law_word"] : List PySem.Str)
theorem top_of {w : World} {K : Fr} {h : Heap} {mg : Str → Option Value} (X : K.In h) (G : h.Ns mainGlobals mg) (c : He.SaysX faL fnL tsL [] exL w h K) : Top w K mg (cmK K) := by
  have hx := c.more
  unfold exL at hx
  try simp only [Bool.and_eq_true] at hx
  obtain ⟨x0, x1, x2, x3, x4, x5, x6, x7, x8, x9, x10, x11, x12, x13, x14, x15⟩ := hx
  exact { b_ValueError := He.free_ok X G (c.t.d.fact 17 (f := .free "ValueError") rfl), b_int := He.free_ok X G (c.t.d.fact 18 (f := .free "int") rfl), b_isinstance := He.free_ok X G (c.t.d.fact 19 (f := .free "isinstance") rfl), b_len := He.free_ok X G (c.t.d.fact 20 (f := .free "len") rfl), b_list := He.free_ok X G (c.t.d.fact 21 (f := .free "list") rfl), b_max := He.free_ok X G (c.t.d.fact 22 (f := .free "max") rfl), b_min := He.free_ok X G (c.t.d.fact 23 (f := .free "min") rfl), b_range := He.free_ok X G (c.t.d.fact 24 (f := .free "range") rfl), b_sorted := He.free_ok X G (c.t.d.fact 25 (f := .free "sorted") rfl), b_tuple := He.free_ok X G (c.t.d.fact 26 (f := .free "tuple") rfl), i_MOST_THINGS := He.int_ok X G (c.t.d.fact 27 (f := .int "MOST_THINGS" 24) rfl), i_MOST_SETS := He.int_ok X G (c.t.d.fact 28 (f := .int "MOST_SETS" 40) rfl), x_InvalidOrder := exK_of X G (c.t.d.fact 29 (f := .exc "InvalidOrder") rfl) (c.t.d.fact 32 (f := .glo "InvalidOrder") rfl), x_InvalidTable := exK_of X G (c.t.d.fact 30 (f := .exc "InvalidTable") rfl) (c.t.d.fact 33 (f := .glo "InvalidTable") rfl), x_OutOfRange := exK_of X G (c.t.d.fact 31 (f := .exc "OutOfRange") rfl) (c.t.d.fact 34 (f := .glo "OutOfRange") rfl), N_InvalidOrder := ClN.of X G (c.t.d.fact 32 (f := .glo "InvalidOrder") rfl), N_InvalidTable := ClN.of X G (c.t.d.fact 33 (f := .glo "InvalidTable") rfl), N_OutOfRange := ClN.of X G (c.t.d.fact 34 (f := .glo "OutOfRange") rfl), N_UnpartedError := ClN.of X G (c.t.d.fact 35 (f := .glo "UnpartedError") rfl), m_InvalidOrder_UnpartedError := He.exm_ok (c.t.d.fact 36 (f := .exm "InvalidOrder" "UnpartedError" true) rfl), m_InvalidTable_UnpartedError := He.exm_ok (c.t.d.fact 37 (f := .exm "InvalidTable" "UnpartedError" true) rfl), m_OutOfRange_UnpartedError := He.exm_ok (c.t.d.fact 38 (f := .exm "OutOfRange" "UnpartedError" true) rfl), m_UnpartedError_UnpartedError := He.exm_ok (c.t.d.fact 39 (f := .exm "UnpartedError" "UnpartedError" true) rfl), k_InvalidOrder_InvalidOrder := IsN.of x0, k_InvalidOrder_InvalidTable := IsN.of x1, k_InvalidOrder_OutOfRange := IsN.of x2, k_InvalidOrder_ValueError := IsN.of x3, k_InvalidTable_InvalidOrder := IsN.of x4, k_InvalidTable_InvalidTable := IsN.of x5, k_InvalidTable_OutOfRange := IsN.of x6, k_InvalidTable_ValueError := IsN.of x7, k_OutOfRange_InvalidOrder := IsN.of x8, k_OutOfRange_InvalidTable := IsN.of x9, k_OutOfRange_OutOfRange := IsN.of x10, k_OutOfRange_ValueError := IsN.of x11, k_UnpartedError_InvalidOrder := IsN.of x12, k_UnpartedError_InvalidTable := IsN.of x13, k_UnpartedError_OutOfRange := IsN.of x14, k_UnpartedError_ValueError := IsN.of x15 }
theorem facts {P : Program} {w : World} {K : Fr} {h : Heap} {mg : Str → Option Value} {fa : Addr} (X : K.In h) (G : h.Ns mainGlobals mg) (hfa : mg ("law" : Str) = some (.ref fa)) (c : He.SaysX faL fnL tsL [] exL w h K) :
    ∃ fd : FuncData, (∀ (s : Shared) (v : Value), BindsTo s fd ⟨[v], []⟩ [("script", v)]) ∧ ∀ base : Heap, FnOk P w K mg base (L2N.CX P w) 5 fa fd ["script"] (spP K (cmK K) fn_law) := by
  have T := top_of X G c
  obtain ⟨fd_is_number_of_things, F0_is_number_of_things⟩ := c.t.d.def_ 0 (d := D_is_number_of_things) rfl
  have F_is_number_of_things : Fun K "is_number_of_things" "is_number_of_things" (topS 8) (He.ga K "is_number_of_things") fd_is_number_of_things := fun_of F0_is_number_of_things
  have g_is_number_of_things : mg "is_number_of_things" = some (.ref (He.ga K "is_number_of_things")) := He.glo_ok X G (c.t.d.fact 0 (f := .glo "is_number_of_things") rfl)
  have b_is_number_of_things : Binds K fd_is_number_of_things ["n"] [] := F_is_number_of_things.binds (ps := ["n"]) fun _ _ _ _ _ _ us hl => match us, hl with | [_], _ => rfl
  obtain ⟨fd_check_things, F0_check_things⟩ := c.t.d.def_ 1 (d := D_check_things) rfl
  have F_check_things : Fun K "check_things" "check_things" (topS 9) (He.ga K "check_things") fd_check_things := fun_of F0_check_things
  have g_check_things : mg "check_things" = some (.ref (He.ga K "check_things")) := He.glo_ok X G (c.t.d.fact 1 (f := .glo "check_things") rfl)
  have b_check_things : Binds K fd_check_things ["n"] [] := F_check_things.binds (ps := ["n"]) fun _ _ _ _ _ _ us hl => match us, hl with | [_], _ => rfl
  obtain ⟨fd_check_set, F0_check_set⟩ := c.t.d.def_ 2 (d := D_check_set) rfl
  have F_check_set : Fun K "check_set" "check_set" (topS 10) (He.ga K "check_set") fd_check_set := fun_of F0_check_set
  have g_check_set : mg "check_set" = some (.ref (He.ga K "check_set")) := He.glo_ok X G (c.t.d.fact 2 (f := .glo "check_set") rfl)
  have b_check_set : Binds K fd_check_set ["n", "chosen"] [] := F_check_set.binds (ps := ["n", "chosen"]) fun _ _ _ _ _ _ us hl => match us, hl with | [_, _], _ => rfl
  obtain ⟨fd_check_table, F0_check_table⟩ := c.t.d.def_ 3 (d := D_check_table) rfl
  have F_check_table : Fun K "check_table" "check_table" (topS 11) (He.ga K "check_table") fd_check_table := fun_of F0_check_table
  have g_check_table : mg "check_table" = some (.ref (He.ga K "check_table")) := He.glo_ok X G (c.t.d.fact 3 (f := .glo "check_table") rfl)
  have b_check_table : Binds K fd_check_table ["n", "sets"] [] := F_check_table.binds (ps := ["n", "sets"]) fun _ _ _ _ _ _ us hl => match us, hl with | [_, _], _ => rfl
  obtain ⟨fd_check_order, F0_check_order⟩ := c.t.d.def_ 4 (d := D_check_order) rfl
  have F_check_order : Fun K "check_order" "check_order" (topS 12) (He.ga K "check_order") fd_check_order := fun_of F0_check_order
  have g_check_order : mg "check_order" = some (.ref (He.ga K "check_order")) := He.glo_ok X G (c.t.d.fact 4 (f := .glo "check_order") rfl)
  have b_check_order : Binds K fd_check_order ["n", "order"] [] := F_check_order.binds (ps := ["n", "order"]) fun _ _ _ _ _ _ us hl => match us, hl with | [_, _], _ => rfl
  obtain ⟨fd__law_cell, F0__law_cell⟩ := c.t.d.def_ 5 (d := D__law_cell) rfl
  have F__law_cell : Fun K "_law_cell" "_law_cell" (topS 14) (He.ga K "_law_cell") fd__law_cell := fun_of F0__law_cell
  have g__law_cell : mg "_law_cell" = some (.ref (He.ga K "_law_cell")) := He.glo_ok X G (c.t.d.fact 5 (f := .glo "_law_cell") rfl)
  have b__law_cell : Binds K fd__law_cell ["script", "k"] [] := F__law_cell.binds (ps := ["script", "k"]) fun _ _ _ _ _ _ us hl => match us, hl with | [_, _], _ => rfl
  obtain ⟨fd__law_digits, F0__law_digits⟩ := c.t.d.def_ 6 (d := D__law_digits) rfl
  have F__law_digits : Fun K "_law_digits" "_law_digits" (topS 15) (He.ga K "_law_digits") fd__law_digits := fun_of F0__law_digits
  have g__law_digits : mg "_law_digits" = some (.ref (He.ga K "_law_digits")) := He.glo_ok X G (c.t.d.fact 6 (f := .glo "_law_digits") rfl)
  have b__law_digits : Binds K fd__law_digits ["cell", "sizes"] [] := F__law_digits.binds (ps := ["cell", "sizes"]) fun _ _ _ _ _ _ us hl => match us, hl with | [_, _], _ => rfl
  obtain ⟨fd__law_rich, F0__law_rich⟩ := c.t.d.def_ 7 (d := D__law_rich) rfl
  have F__law_rich : Fun K "_law_rich" "_law_rich" (topS 16) (He.ga K "_law_rich") fd__law_rich := fun_of F0__law_rich
  have g__law_rich : mg "_law_rich" = some (.ref (He.ga K "_law_rich")) := He.glo_ok X G (c.t.d.fact 7 (f := .glo "_law_rich") rfl)
  have b__law_rich : Binds K fd__law_rich ["cell"] [] := F__law_rich.binds (ps := ["cell"]) fun _ _ _ _ _ _ us hl => match us, hl with | [_], _ => rfl
  obtain ⟨fd__law_order, F0__law_order⟩ := c.t.d.def_ 8 (d := D__law_order) rfl
  have F__law_order : Fun K "_law_order" "_law_order" (topS 17) (He.ga K "_law_order") fd__law_order := fun_of F0__law_order
  have g__law_order : mg "_law_order" = some (.ref (He.ga K "_law_order")) := He.glo_ok X G (c.t.d.fact 8 (f := .glo "_law_order") rfl)
  have b__law_order : Binds K fd__law_order ["cell", "n"] [] := F__law_order.binds (ps := ["cell", "n"]) fun _ _ _ _ _ _ us hl => match us, hl with | [_, _], _ => rfl
  obtain ⟨fd__law_set, F0__law_set⟩ := c.t.d.def_ 9 (d := D__law_set) rfl
  have F__law_set : Fun K "_law_set" "_law_set" (topS 18) (He.ga K "_law_set") fd__law_set := fun_of F0__law_set
  have g__law_set : mg "_law_set" = some (.ref (He.ga K "_law_set")) := He.glo_ok X G (c.t.d.fact 9 (f := .glo "_law_set") rfl)
  have b__law_set : Binds K fd__law_set ["cell", "n"] [] := F__law_set.binds (ps := ["cell", "n"]) fun _ _ _ _ _ _ us hl => match us, hl with | [_, _], _ => rfl
  obtain ⟨fd__law_stretch, F0__law_stretch⟩ := c.t.d.def_ 10 (d := D__law_stretch) rfl
  have F__law_stretch : Fun K "_law_stretch" "_law_stretch" (topS 19) (He.ga K "_law_stretch") fd__law_stretch := fun_of F0__law_stretch
  have g__law_stretch : mg "_law_stretch" = some (.ref (He.ga K "_law_stretch")) := He.glo_ok X G (c.t.d.fact 10 (f := .glo "_law_stretch") rfl)
  have b__law_stretch : Binds K fd__law_stretch ["cell", "order"] [] := F__law_stretch.binds (ps := ["cell", "order"]) fun _ _ _ _ _ _ us hl => match us, hl with | [_, _], _ => rfl
  obtain ⟨fd__law_table, F0__law_table⟩ := c.t.d.def_ 11 (d := D__law_table) rfl
  have F__law_table : Fun K "_law_table" "_law_table" (topS 20) (He.ga K "_law_table") fd__law_table := fun_of F0__law_table
  have g__law_table : mg "_law_table" = some (.ref (He.ga K "_law_table")) := He.glo_ok X G (c.t.d.fact 11 (f := .glo "_law_table") rfl)
  have b__law_table : Binds K fd__law_table ["script", "at", "n", "order"] [] := F__law_table.binds (ps := ["script", "at", "n", "order"]) fun _ _ _ _ _ _ us hl => match us, hl with | [_, _, _, _], _ => rfl
  obtain ⟨fd__law_is_set, F0__law_is_set⟩ := c.t.d.def_ 12 (d := D__law_is_set) rfl
  have F__law_is_set : Fun K "_law_is_set" "_law_is_set" (topS 21) (He.ga K "_law_is_set") fd__law_is_set := fun_of F0__law_is_set
  have g__law_is_set : mg "_law_is_set" = some (.ref (He.ga K "_law_is_set")) := He.glo_ok X G (c.t.d.fact 12 (f := .glo "_law_is_set") rfl)
  have b__law_is_set : Binds K fd__law_is_set ["n", "chosen"] [] := F__law_is_set.binds (ps := ["n", "chosen"]) fun _ _ _ _ _ _ us hl => match us, hl with | [_, _], _ => rfl
  obtain ⟨fd__law_within, F0__law_within⟩ := c.t.d.def_ 13 (d := D__law_within) rfl
  have F__law_within : Fun K "_law_within" "_law_within" (topS 22) (He.ga K "_law_within") fd__law_within := fun_of F0__law_within
  have g__law_within : mg "_law_within" = some (.ref (He.ga K "_law_within")) := He.glo_ok X G (c.t.d.fact 13 (f := .glo "_law_within") rfl)
  have b__law_within : Binds K fd__law_within ["n", "things"] [] := F__law_within.binds (ps := ["n", "things"]) fun _ _ _ _ _ _ us hl => match us, hl with | [_, _], _ => rfl
  obtain ⟨fd__law_bent, F0__law_bent⟩ := c.t.d.def_ 14 (d := D__law_bent) rfl
  have F__law_bent : Fun K "_law_bent" "_law_bent" (topS 23) (He.ga K "_law_bent") fd__law_bent := fun_of F0__law_bent
  have g__law_bent : mg "_law_bent" = some (.ref (He.ga K "_law_bent")) := He.glo_ok X G (c.t.d.fact 14 (f := .glo "_law_bent") rfl)
  have b__law_bent : Binds K fd__law_bent ["things", "cell"] [] := F__law_bent.binds (ps := ["things", "cell"]) fun _ _ _ _ _ _ us hl => match us, hl with | [_, _], _ => rfl
  obtain ⟨fd__law_word, F0__law_word⟩ := c.t.d.def_ 15 (d := D__law_word) rfl
  have F__law_word : Fun K "_law_word" "_law_word" (topS 24) (He.ga K "_law_word") fd__law_word := fun_of F0__law_word
  have g__law_word : mg "_law_word" = some (.ref (He.ga K "_law_word")) := He.glo_ok X G (c.t.d.fact 15 (f := .glo "_law_word") rfl)
  have b__law_word : Binds K fd__law_word ["n", "kind", "value"] [] := F__law_word.binds (ps := ["n", "kind", "value"]) fun _ _ _ _ _ _ us hl => match us, hl with | [_, _, _], _ => rfl
  obtain ⟨fd_law, F0_law⟩ := c.t.d.def_ 16 (d := D_law) rfl
  have F_law : Fun K "law" "law" (topS 25) (He.ga K "law") fd_law := fun_of F0_law
  have g_law : mg "law" = some (.ref (He.ga K "law")) := He.glo_ok X G (c.t.d.fact 16 (f := .glo "law") rfl)
  have b_law : Binds K fd_law ["script"] [] := F_law.binds (ps := ["script"]) fun _ _ _ _ _ _ us hl => match us, hl with | [_], _ => rfl
  have e := hfa.symm.trans g_law
  cases e
  refine ⟨fd_law, fun s v => FunD.bindsA (ps := ["script"]) F0_law (fun _ _ _ _ _ _ us hl => match us, hl with | [_], _ => rfl) s [v] rfl, fun base => ?_⟩
  have c_is_number_of_things := ok_is_number_of_things (P := P) (base := base) T F_is_number_of_things g_is_number_of_things b_is_number_of_things
  have c_check_things := ok_check_things (P := P) (base := base) T F_check_things g_check_things b_check_things c_is_number_of_things
  have c_check_set := ok_check_set (P := P) (base := base) T F_check_set g_check_set b_check_set c_is_number_of_things
  have c_check_table := ok_check_table (P := P) (base := base) T F_check_table g_check_table b_check_table c_is_number_of_things c_check_set
  have c_check_order := ok_check_order (P := P) (base := base) T F_check_order g_check_order b_check_order c_is_number_of_things
  have c__law_cell := ok__law_cell (P := P) (base := base) T F__law_cell g__law_cell b__law_cell
  have c__law_digits := ok__law_digits (P := P) (base := base) T F__law_digits g__law_digits b__law_digits
  have c__law_rich := ok__law_rich (P := P) (base := base) T F__law_rich g__law_rich b__law_rich
  have c__law_order := ok__law_order (P := P) (base := base) T F__law_order g__law_order b__law_order c__law_rich
  have c__law_set := ok__law_set (P := P) (base := base) T F__law_set g__law_set b__law_set c__law_rich
  have c__law_stretch := ok__law_stretch (P := P) (base := base) T F__law_stretch g__law_stretch b__law_stretch c__law_digits c__law_rich
  have c__law_table := ok__law_table (P := P) (base := base) T F__law_table g__law_table b__law_table c__law_cell c__law_set c__law_stretch
  have c__law_within := ok__law_within (P := P) (base := base) T F__law_within g__law_within b__law_within
  have c__law_is_set := ok__law_is_set (P := P) (base := base) T F__law_is_set g__law_is_set b__law_is_set c__law_within
  have c__law_bent := ok__law_bent (P := P) (base := base) T F__law_bent g__law_bent b__law_bent c__law_digits c__law_rich
  have c__law_word := ok__law_word (P := P) (base := base) T F__law_word g__law_word b__law_word c_check_things c_check_set c_check_table c_check_order
  have c_law := ok_law (P := P) (base := base) T F_law c__law_cell c__law_digits c__law_rich c__law_order c__law_set c__law_table c__law_is_set c__law_bent c__law_word
  exact c_law
end K01

set_option Elab.async false
set_option linter.all false
set_option maxRecDepth 100000
set_option maxHeartbeats 0
namespace K01
open Pv PySem PySem.Spec PySem.W L2
open PyProof.Rows hiding St
theorem run (w : World) : HandSHeadRun.RunEq R qv hk ob 30000 looseL w := fun os => by kernel_rfl
end K01

set_option Elab.async false
set_option linter.all false
set_option maxRecDepth 100000
namespace K01
open Pv PySem PySem.Spec L2
open PyProof.Rows hiding St
theorem num_ok (n : Int) : fn_is_number_of_things [.int n] = .ok (.bl (decide (1 ≤ n ∧ n ≤ 24)), false) := by
  unfold fn_is_number_of_things st_is_number_of_things
  by_cases h : 1 ≤ n <;> by_cases h2 : n ≤ 24 <;> simp [h, h2]
theorem rich_ok (c : Int) : ∃ r : Int, fn__law_rich [.int c] = .ok (.int r, false) := by
  unfold fn__law_rich st__law_rich
  by_cases h : (1000000000000000000 : Int) ≤ c
  · exact ⟨c, by simp [h]⟩
  · refine ⟨_, by simp [h]; rfl⟩
theorem cell_ok (ns : List Int) (k : Nat) : ∃ r : Int, fn__law_cell [.scr ns, .int k] = .ok (.int r, false) := by
  unfold fn__law_cell st__law_cell
  by_cases h : k < ns.length
  · refine ⟨ns[k], ?_⟩
    simp [h, atI_nat]
  · refine ⟨0, ?_⟩
    simp [h]
/-! ### the trees of the law -/
inductive G where
  | leaf (i : Int) | node (w : Str) (ps : List G) (x : Bool)
mutual
def enc : G → PV
  | .leaf i => .int i
  | .node w ps x => .tup (.str w :: .tup (encs ps) :: if x then [.tup []] else [])
def encs : List G → List PV
  | [] => []
  | g :: gs => enc g :: encs gs
end
mutual
def dep : G → Nat
  | .leaf _ => 0
  | .node _ ps _ => deps ps + 1
def deps : List G → Nat
  | [] => 0
  | g :: gs => max (dep g) (deps gs)
end
mutual
def lea : G → List Int
  | .leaf i => [i]
  | .node _ ps _ => leas ps
def leas : List G → List Int
  | [] => []
  | g :: gs => lea g ++ leas gs
end
def least (w : Str) : Nat := if w = "row" then 3 else 2
def wordOk (w : Str) : Bool := w == "any" || w == "row"
mutual
def form : G → Bool
  | .leaf _ => true
  | .node w ps x => !x && (wordOk w && (decide (least w ≤ ps.length) && forms ps))
def forms : List G → Bool
  | [] => true
  | g :: gs => form g && forms gs
end
theorem encs_len : ∀ gs : List G, (encs gs).length = gs.length
  | [] => rfl
  | g :: gs => by unfold encs; rw [List.length_cons, List.length_cons, encs_len gs]
theorem encs_map : ∀ gs : List G, encs gs = gs.map enc
  | [] => rfl
  | g :: gs => by unfold encs; rw [List.map_cons, encs_map gs]
mutual
def ct : G → Option (List Int)
  | .leaf i => if i < 0 then none else some [i]
  | .node w ps x => if x || (!wordOk w || decide (ps.length < least w)) then none else match cts ps with
    | none => none
    | some l => if (dedup l).length < l.length then none else some l
def cts : List G → Option (List Int)
  | [] => some []
  | g :: gs => match ct g with
    | none => none
    | some l => match cts gs with
      | none => none
      | some m => some (l ++ m)
end
theorem dedup_from : ∀ (l σ : List Int), (l.foldl (fun σ k => if σ.any (· == k) then σ else σ ++ [k]) σ).length ≤ σ.length + l.length ∧ ((l.foldl (fun σ k => if σ.any (· == k) then σ else σ ++ [k]) σ).length = σ.length + l.length ↔ (∀ i ∈ l, i ∉ σ) ∧ l.Nodup)
  | [], σ => by simp
  | i :: l, σ => by
    simp only [List.foldl_cons]
    by_cases h : i ∈ σ
    · have e : σ.any (· == i) = true := by simp [h]
      rw [if_pos e]
      obtain ⟨h1, h2⟩ := dedup_from l σ
      refine ⟨Nat.le_trans h1 (by simp), ⟨fun z => ?_, fun z => absurd h (z.1 i (by simp))⟩⟩
      simp only [List.length_cons] at z
      omega
    · have e : σ.any (· == i) = false := by
        rw [List.any_eq_false]
        intro x hx z
        exact h (by rw [← eq_of_beq z]; exact hx)
      rw [if_neg (by rw [e]; simp)]
      obtain ⟨h1, h2⟩ := dedup_from l (σ ++ [i])
      refine ⟨by simp at h1 ⊢; omega, ?_⟩
      have e1 : (σ ++ [i]).length + l.length = σ.length + (i :: l).length := by simp; omega
      rw [← e1, h2]
      constructor
      · rintro ⟨a, b⟩
        refine ⟨?_, List.nodup_cons.mpr ⟨fun z => a i z (by simp), b⟩⟩
        intro j hj
        rcases List.mem_cons.mp hj with rfl | hj
        · exact h
        · exact fun z => a j hj (by simp [z])
      · rintro ⟨a, b⟩
        obtain ⟨b, c⟩ := List.nodup_cons.mp b
        refine ⟨fun j hj z => ?_, c⟩
        rcases List.mem_append.mp z with z | z
        · exact a j (List.mem_cons_of_mem _ hj) z
        · rw [List.mem_singleton] at z
          exact b (by rw [← z]; exact hj)
theorem dedup_lt (l : List Int) : (dedup l).length < l.length ↔ ¬ l.Nodup := by
  obtain ⟨h1, h2⟩ := dedup_from l []
  have h3 : (dedup l).length ≤ l.length := by
    simp only [List.length_nil, Nat.zero_add] at h1
    exact h1
  have h4 : (dedup l).length = l.length ↔ l.Nodup := by
    simp only [List.length_nil, Nat.zero_add] at h2
    refine h2.trans ⟨fun z => z.2, fun z => ⟨fun _ _ y => (nomatch y), z⟩⟩
  rw [← h4]
  omega
mutual
theorem ct_some : ∀ (g : G) {l : List Int}, ct g = some l → l = lea g ∧ form g = true ∧ (∀ i ∈ l, 0 ≤ i) ∧ l.Nodup
  | .leaf i, l, h => by
    unfold ct at h
    split at h
    · cases h
    · cases h
      unfold lea form
      exact ⟨rfl, rfl, by simp; omega, by simp⟩
  | .node w ps x, l, h => by
    unfold ct at h
    split at h
    · cases h
    · rename_i c
      simp only [Bool.or_eq_true, Bool.not_eq_true', decide_eq_true_eq, not_or, Bool.not_eq_true, Bool.not_eq_false, Nat.not_lt] at c
      cases e : cts ps with
      | none => rw [e] at h; cases h
      | some m =>
        rw [e] at h
        dsimp only at h
        split at h
        · cases h
        · rename_i d
          cases h
          rw [dedup_lt, Classical.not_not] at d
          obtain ⟨h1, h2, h3⟩ := cts_some ps e
          unfold lea form
          exact ⟨h1, by simp [c.1, c.2.1, c.2.2, h2], h3, d⟩
theorem cts_some : ∀ (gs : List G) {l : List Int}, cts gs = some l → l = leas gs ∧ forms gs = true ∧ (∀ i ∈ l, 0 ≤ i)
  | [], l, h => by
    unfold cts at h
    cases h
    unfold leas forms
    exact ⟨rfl, rfl, by simp⟩
  | g :: gs, l, h => by
    unfold cts at h
    cases e : ct g with
    | none => rw [e] at h; cases h
    | some a =>
      rw [e] at h
      cases e2 : cts gs with
      | none => rw [e2] at h; cases h
      | some b =>
        rw [e2] at h
        cases h
        obtain ⟨h1, h2, h3, h4⟩ := ct_some g e
        obtain ⟨k1, k2, k3⟩ := cts_some gs e2
        unfold leas forms
        refine ⟨by rw [h1, k1], by simp [h2, k2], fun i hi => ?_⟩
        rcases List.mem_append.mp hi with hi | hi
        · exact h3 i hi
        · exact k3 i hi
end
mutual
theorem ct_ok : ∀ (g : G), form g = true → (∀ i ∈ lea g, 0 ≤ i) → (lea g).Nodup → ct g = some (lea g)
  | .leaf i, _, h, _ => by
    unfold ct lea
    unfold lea at h
    have := h i (by simp)
    rw [if_neg (by omega)]
  | .node w ps x, f, h, n => by
    unfold form at f
    simp only [Bool.and_eq_true, Bool.not_eq_true', decide_eq_true_eq] at f
    unfold lea at h n ⊢
    unfold ct
    rw [if_neg (by simp [f.1, f.2.1]; omega), cts_ok ps f.2.2.2 h n]
    dsimp only
    rw [if_neg (by rw [dedup_lt]; exact fun z => z n)]
theorem cts_ok : ∀ (gs : List G), forms gs = true → (∀ i ∈ leas gs, 0 ≤ i) → (leas gs).Nodup → cts gs = some (leas gs)
  | [], _, _, _ => by unfold cts leas; rfl
  | g :: gs, f, h, n => by
    unfold forms at f
    rw [Bool.and_eq_true] at f
    unfold leas at h n ⊢
    unfold cts
    rw [List.nodup_append] at n
    rw [ct_ok g f.1 (fun i hi => h i (by simp [hi])) n.1, cts_ok gs f.2 (fun i hi => h i (by simp [hi])) n.2.1]
end

/-! ### the defs at trees -/
theorem dOf_any : dOf [("any", 2), ("row", 3)] "any" = some 2 := by decide +kernel
theorem dOf_row : dOf [("any", 2), ("row", 3)] "row" = some 3 := by decide +kernel
theorem dOf_some {w : Str} (h : wordOk w = true) : dOf [("any", 2), ("row", 3)] w = some (least w : Int) := by
  unfold wordOk at h
  simp only [Bool.or_eq_true, beq_iff_eq] at h
  rcases h with rfl | rfl
  · decide +kernel
  · decide +kernel
theorem dOf_none {w : Str} (h : wordOk w = false) : dOf [("any", 2), ("row", 3)] w = none := by
  unfold wordOk at h
  simp only [Bool.or_eq_false_iff, beq_eq_false_iff_ne] at h
  unfold dOf
  have e1 : (("any" : Str) == w) = false := by simp only [beq_eq_false_iff_ne]; exact fun z => h.1 z.symm
  have e2 : (("row" : Str) == w) = false := by simp only [beq_eq_false_iff_ne]; exact fun z => h.2 z.symm
  rw [List.find?_cons, e1, List.find?_cons, e2]
  rfl
def res : Option (List Int) → Rf
  | none => .exc "InvalidTree"
  | some l => .ok (.lst (l.map .int), true)
theorem ext_loop (r_ : Fn) (v : PV) : ∀ (gs : List G) (acc : List Int) (s2 : Slot), (∀ g ∈ gs, r_ [enc g] = res (ct g)) → acc.length + (leas gs).length ≤ 1000 →
    (cts gs = none → ∃ ev', loop (tName 2) (sq (mMet 1 (aCons (eFn r_ (aCons (eVar 2) (ret []))) (ret [])) gExtend) (ret .nx)) (encs gs) [.val v, .own (acc.map .int), s2] = .exc "InvalidTree" ev') ∧
    (∀ l, cts gs = some l → ∃ s', loop (tName 2) (sq (mMet 1 (aCons (eFn r_ (aCons (eVar 2) (ret []))) (ret [])) gExtend) (ret .nx)) (encs gs) [.val v, .own (acc.map .int), s2] = .ok .nx [.val v, .own ((acc ++ l).map .int), s'])
  | [], acc, s2, _, _ => by
    unfold cts encs
    refine ⟨fun h => (nomatch h), fun l h => ⟨s2, ?_⟩⟩
    cases h
    simp
  | g :: gs, acc, s2, hr, hz => by
    have h1 := hr g (by simp)
    unfold leas at hz
    rw [List.length_append] at hz
    unfold cts encs
    cases e : ct g with
    | none =>
      refine ⟨fun _ => ?_, fun l h => by cases h⟩
      rw [e] at h1
      refine ⟨[.val v, .own (acc.map .int), .val (enc g)], ?_⟩
      rw [loop]
      simp [h1, res]
    | some a =>
      rw [e] at h1
      have ha := (ct_some g e).1
      have hl : acc.length + a.length ≤ 16777216 := by rw [ha]; omega
      obtain ⟨i1, i2⟩ := ext_loop r_ v gs (acc ++ a) (.val (enc g)) (fun g hg => hr g (by simp [hg])) (by rw [List.length_append, ha]; omega)
      have step : ∀ q, loop (tName 2) (sq (mMet 1 (aCons (eFn r_ (aCons (eVar 2) (ret []))) (ret [])) gExtend) (ret .nx)) (enc g :: q) [.val v, .own (acc.map .int), s2] = loop (tName 2) (sq (mMet 1 (aCons (eFn r_ (aCons (eVar 2) (ret []))) (ret [])) gExtend) (ret .nx)) q [.val v, .own ((acc ++ a).map .int), .val (enc g)] := by
        intro q
        rw [loop]
        simp [h1, res, hl]
      rw [step]
      cases e2 : cts gs with
      | none => exact ⟨fun _ => i1 e2, fun l h => by cases h⟩
      | some b =>
        refine ⟨fun h => (nomatch h), fun l h => ?_⟩
        cases h
        obtain ⟨s', q⟩ := i2 b e2
        exact ⟨s', by rw [q, List.append_assoc]⟩
theorem dep_mem : ∀ {ps : List G} {g : G}, g ∈ ps → dep g ≤ deps ps
  | p :: ps, g, h => by
    unfold deps
    rcases List.mem_cons.mp h with rfl | h
    · omega
    · have := dep_mem h; omega
theorem lea_mem : ∀ {ps : List G} {g : G}, g ∈ ps → (lea g).length ≤ (leas ps).length
  | p :: ps, g, h => by
    unfold leas
    rw [List.length_append]
    rcases List.mem_cons.mp h with rfl | h
    · omega
    · have := lea_mem h; omega
/-! ### things_of -/
end K01

set_option Elab.async false
set_option linter.all false
set_option maxRecDepth 100000
namespace K01
open Pv PySem PySem.Spec L2
open PyProof.Rows hiding St
/-! ### _law_order -/
theorem rich_ex (c : Int) : ∃ r : Int, fn__law_rich [.int c] = .ok (.int r, false) := rich_ok c
noncomputable def richV (c : Int) : Int := (rich_ex c).choose
theorem rich_eq (c : Int) : fn__law_rich [.int c] = .ok (.int (richV c), false) := (rich_ex c).choose_spec
theorem okR_small {n : Nat} (h : n ≤ 1000) : okR (n : Int) = true := by
  unfold okR
  simp only [decide_eq_true_eq]
  omega
theorem rng1_ok {m : M (List PV)} {ev ev' : SL} {z : Int} (h : m ev = .ok [.int z] ev') (hz : okR z = true) : mRng1 m ev = .ok (rgP 0 z.toNat) ev' := by
  simp only [mRng1_ap, bnd_ap, h, hz, if_true, ret_ap]
theorem rng1_nat {m : M (List PV)} {ev ev' : SL} {n : Nat} (h : m ev = .ok [.int n] ev') (hn : n ≤ 1000) : mRng1 m ev = .ok (rgP 0 n) ev' := by
  have e := rng1_ok h (okR_small hn)
  rw [Int.toNat_natCast] at e
  exact e
theorem erase_perm : ∀ (L : List Int) (i : Nat) (h : i < L.length), (L[i] :: L.eraseIdx i).Perm L
  | x :: L, 0, _ => .refl _
  | x :: L, i + 1, h => by
    have := erase_perm L i (by simpa using h)
    exact (List.Perm.swap x _ _).trans (this.cons x)
theorem map_eraseIdx : ∀ (L : List Int) (i : Nat), (L.map PV.int).eraseIdx i = (L.eraseIdx i).map .int
  | [], i => by simp
  | x :: L, 0 => rfl
  | x :: L, i + 1 => by simp [map_eraseIdx L i]
def ordB : M Fl := sq (mAppPop 4 2 (look (eOp aMod (look (eCall gInt (kCons (pVar 3) (Pv.ret [])))) (look (eOp aSub (pVar 1) (pVar 5)))))) (sq (bnd (eOp aDiv (pVar 3) (look (eOp aSub (pVar 1) (pVar 5)))) (setR 3)) (sq (mIfS (blOf (eOp (gEq false) (pVar 3) (look (eC (.int 0))))) (sq (bnd (eFn fn__law_rich (aCons (eOp gAdd (look (eOp gAdd (pVar 0) (pVar 5))) (look (eC (.int 1)))) (Pv.ret []))) (setR 3)) (Pv.ret .nx)) (Pv.ret .nx)) (Pv.ret .nx)))
def ordS (c : Int) (n : Nat) (L O : List Int) (r : Int) (s5 : Pv.Slot) : SL := [.val (.int c), .val (.int n), .own (L.map .int), .val (.int r), .own (O.map .int), s5, .no]
theorem ord_step (c : Int) (n j : Nat) (L O : List Int) (r : Int) (hj : j < n) (hn : n ≤ 25) (hL : L.length = n - j) (hO : O.length = j) :
    ∃ (i : Nat) (h : i < L.length) (r' : Int), ordB (ordS c n L O r (.val (.int j))) = .ok .nx (ordS c n (L.eraseIdx i) (O ++ [L[i]]) r' (.val (.int j))) := by
  have hpos : (0 : Int) < (n : Int) - (j : Int) := by omega
  have hlt := Int.emod_lt_of_pos r hpos
  have hge := Int.emod_nonneg r (show (n : Int) - (j : Int) ≠ 0 by omega)
  obtain ⟨i, hi⟩ : ∃ i : Nat, r % ((n : Int) - (j : Int)) = (i : Int) := ⟨(r % ((n : Int) - (j : Int))).toNat, by omega⟩
  have hiL : i < L.length := by omega
  have hs : seqIndex? (i : Int) L.length = some i := by
    unfold seqIndex?
    simp
    omega
  have hd : (n : Int) - (j : Int) < 1073741824 := by omega
  have hget : (L.map PV.int)[i]? = some (.int L[i]) := by rw [List.getElem?_map, List.getElem?_eq_getElem hiL]; rfl
  have hjn : (j : Int) < n := by omega
  have b1 : -(9223372036854775808 : Int) ≤ (i : Int) := by omega
  have b2 : (i : Int) < 9223372036854775808 := by omega
  have b3 : O.length < 16777216 := by omega
  unfold ordB ordS
  by_cases h0 : r / ((n : Int) - (j : Int)) = 0
  · refine ⟨i, hiL, richV (c + j + 1), ?_⟩
    simp [hjn, hi, b1, b2, b3, hs, hiL, hd, h0, rich_eq, map_eraseIdx]
  · refine ⟨i, hiL, r / ((n : Int) - (j : Int)), ?_⟩
    simp [hjn, hi, b1, b2, b3, hs, hiL, hd, h0, rich_eq, map_eraseIdx]

theorem ord_loop (c : Int) (n : Nat) (hn : n ≤ 25) (r : Int) : ∃ (O : List Int) (r' : Int) (s5 : Pv.Slot), loop (tName 5) ordB (rgP 0 n) (ordS c n (upTo 0 n) [] r .no) = .ok .nx (ordS c n [] O r' s5) ∧ O.Perm (upTo 0 n) := by
  obtain ⟨ev', e1, e2⟩ := loop_inv (t := tName 5) (mb := ordB) (ps := rgP 0 n) (I := fun k ev => ∃ (L O : List Int) (r : Int) (s5 : Pv.Slot), ev = ordS c n L O r s5 ∧ L.length = n - k ∧ O.length = k ∧ (O ++ L).Perm (upTo 0 n)) (Q := fun _ => False) 0 (ev := ordS c n (upTo 0 n) [] r .no)
    (fun j p ev hp hI => by
      obtain ⟨hj, rfl⟩ := rgP_get hp
      obtain ⟨L, O, r, s5, rfl, hL, hO, hP⟩ := hI
      simp only [Nat.zero_add] at hL hO ⊢
      obtain ⟨i, hi, r', e⟩ := ord_step c n j L O r hj hn hL hO
      refine ⟨ordS c n L O r (.val (.int j)), ?_, .inl ⟨_, e, L.eraseIdx i, O ++ [L[i]], r', _, rfl, ?_, ?_, ?_⟩⟩
      · rw [Int.zero_add]; rfl
      · rw [List.length_eraseIdx_of_lt hi]; omega
      · rw [List.length_append, List.length_singleton, hO]
      · rw [List.append_assoc, List.singleton_append]
        exact ((erase_perm L i hi).append_left O).trans hP)
    ⟨upTo 0 n, [], r, .no, rfl, by rw [upTo_len]; omega, rfl, by simp⟩
  rcases e2 with ⟨L, O, r', s5, rfl, hL, hO, hP⟩ | h
  · rw [rgP_len] at hL
    have hL0 : L = [] := List.eq_nil_of_length_eq_zero (by omega)
    subst hL0
    exact ⟨O, r', s5, e1, by simpa using hP⟩
  · exact h.elim
theorem order_ok (c : Int) (n : Nat) (hn : n ≤ 25) : ∃ o : List Int, fn__law_order [.int c, .int n] = .ok (.tup (o.map .int), false) ∧ o.Perm (upTo 0 n) := by
  obtain ⟨O, r', s5, e, hP⟩ := ord_loop c n hn (richV c)
  refine ⟨O, ?_, hP⟩
  have hcomp : compr (tName 6) (Pv.ret true) (eVar 6) [6] [] (rgP 0 n) [.val (.int c), .val (.int n), .no, .no, .no, .no, .no] = .ok ((upTo 0 n).map .int) [.val (.int c), .val (.int n), .no, .no, .no, .no, .no] := by
    have hsz : ([] : List PV).length + (rgP 0 n).length ≤ SZ := by
      rw [rgP_len, List.length_nil, SZ]; omega
    rw [compr_id (rgP 0 n) [] _ rfl hsz, rgP_eq, List.nil_append]
  unfold fn__law_order st__law_order
  refine runF_ok (ev' := ordS c n [] O r' s5) ?_ rfl (by decide)
  show sq _ _ [.val (.int c), .val (.int n), .no, .no, .no, .no, .no] = _
  rw [sq_nx (ev' := [.val (.int c), .val (.int n), .own ((upTo 0 n).map .int), .no, .no, .no, .no]) (by
    refine (bnd_ok (comp_ok (rng1_nat (n := n) (ev' := [.val (.int c), .val (.int n), .no, .no, .no, .no, .no]) ?_ (by omega)) hcomp)).trans ?_
    · simp
    · rfl)]
  rw [sq_nx (ev' := [.val (.int c), .val (.int n), .own ((upTo 0 n).map .int), .val (.int (richV c)), .no, .no, .no]) (by simp [rich_eq])]
  rw [sq_nx (ev' := ordS c n (upTo 0 n) [] (richV c) .no) (by simp; rfl)]
  rw [sq_nx (ev' := ordS c n [] O r' s5) (by
    refine (bnd_ok (rng1_nat (n := n) (ev' := ordS c n (upTo 0 n) [] (richV c) .no) ?_ (by omega))).trans ?_
    · unfold ordS; simp
    · exact e)]
  exact sq_rt (by unfold ordS; simp)
end K01

set_option Elab.async false
set_option linter.all false
set_option maxRecDepth 100000
namespace K01
open Pv PySem PySem.Spec L2
open PyProof.Rows hiding St
theorem enc_node (w : Str) (ps : List G) (x : Bool) : ∃ q, enc (.node w ps x) = .tup (.str w :: .tup (encs ps) :: q) ∧ q = if x then [.tup []] else [] := by unfold enc; exact ⟨_, rfl, rfl⟩
theorem at0 {p : PV} {q : List PV} : atI (p :: q) 0 = some p := by
  have : atI (p :: q) ((0 : Nat) : Int) = some p := atI_nat rfl
  exact this
theorem at1 {p r : PV} {q : List PV} : atI (p :: r :: q) 1 = some r := by
  have : atI (p :: r :: q) ((1 : Nat) : Int) = some r := atI_nat rfl
  exact this
theorem lea_loop (r_ : Fn) (v : PV) : ∀ (gs : List G) (acc : List Int) (s2 : Pv.Slot), (∀ g ∈ gs, r_ [enc g] = .ok (.lst ((lea g).map .int), true)) → acc.length + (leas gs).length ≤ 1000 →
    ∃ s', loop (tName 2) (sq (bnd (eOp gAdd (pVar 1) (look (eFn r_ (aCons (eVar 2) (Pv.ret []))))) (setR 1)) (Pv.ret .nx)) (encs gs) [.val v, .own (acc.map .int), s2] = .ok .nx [.val v, .own ((acc ++ leas gs).map .int), s']
  | [], acc, s2, _, _ => ⟨s2, by unfold encs leas; simp⟩
  | g :: gs, acc, s2, hr, hz => by
    have h1 := hr g (by simp)
    unfold leas at hz
    rw [List.length_append] at hz
    have hl : acc.length + (lea g).length ≤ 16777216 := by omega
    obtain ⟨s', e⟩ := lea_loop r_ v gs (acc ++ lea g) (.val (enc g)) (fun g hg => hr g (by simp [hg])) (by rw [List.length_append]; omega)
    refine ⟨s', ?_⟩
    unfold encs leas
    rw [loop]
    rw [List.append_assoc] at e
    rw [← e]
    simp [h1, hl]
/-! ### words, sizes -/
mutual
def wd (b : Nat) : G → Bool
  | .leaf _ => true
  | .node w ps _ => PyData.strOk w && (wds b ps && decide (ps.length ≤ b))
def wds (b : Nat) : List G → Bool
  | [] => true
  | g :: gs => wd b g && wds b gs
end
mutual
theorem isD_enc : ∀ g : G, isD (enc g) = true
  | .leaf i => by unfold enc isD; rfl
  | .node w ps x => by
    unfold enc isD
    cases x <;> simp [isDs, isD, isDs_encs ps]
theorem isDs_encs : ∀ gs : List G, isDs (encs gs) = true
  | [] => by unfold encs isDs; rfl
  | g :: gs => by unfold encs isDs; rw [isD_enc g, isDs_encs gs]; rfl
end
mutual
theorem lay_enc {b : Nat} : ∀ g : G, wd b g = true → PyData.canLay0 (toD (enc g)) = true
  | .leaf i, _ => by unfold enc toD PyData.canLay0; rfl
  | .node w ps x, h => by
    unfold wd at h
    rw [Bool.and_eq_true, Bool.and_eq_true] at h
    unfold enc toD
    cases x <;> simp [toDs, toD, PyData.canLay0, PyData.canLayAll0, h.1, lay_encs ps h.2.1]
theorem lay_encs {b : Nat} : ∀ gs : List G, wds b gs = true → PyData.canLayAll0 (toDs (encs gs)) = true
  | [], _ => by unfold encs toDs PyData.canLayAll0; rfl
  | g :: gs, h => by
    unfold wds at h
    rw [Bool.and_eq_true] at h
    unfold encs toDs PyData.canLayAll0
    rw [lay_enc g h.1, lay_encs gs h.2]; rfl
end
mutual
theorem depth_enc : ∀ g : G, PyData.depth (toD (enc g)) = 2 * dep g
  | .leaf i => by unfold enc toD PyData.depth dep; rfl
  | .node w ps x => by
    have := depth_encs ps
    unfold enc toD dep
    cases x <;> simp [toDs, toD, PyData.depth, PyData.depthAll, this] <;> omega
theorem depth_encs : ∀ gs : List G, PyData.depthAll (toDs (encs gs)) = 2 * deps gs
  | [] => by unfold encs toDs PyData.depthAll deps; rfl
  | g :: gs => by
    unfold encs toDs PyData.depthAll deps
    rw [depth_enc g, depth_encs gs]
    omega
end
theorem okD_enc {b : Nat} (g : G) (h : wd b g = true) (hd : dep g ≤ 31) : okD (enc g) = true := by
  unfold okD SeqAt.shaped
  rw [isD_enc, lay_enc g h, depth_enc]
  simp
  omega
theorem okD_encs {b : Nat} (gs : List G) (h : wds b gs = true) (hd : deps gs ≤ 31) : okD (.lst (encs gs)) = true := by
  unfold okD SeqAt.shaped isD toD PyData.canLay0 PyData.depth
  rw [isDs_encs, lay_encs gs h, depth_encs]
  simp
  omega
theorem encs_cons (g : G) (gs : List G) : encs (g :: gs) = enc g :: encs gs := by rw [encs]
theorem encs_nil : encs [] = [] := by rw [encs]
theorem deps_cons (g : G) (gs : List G) : deps (g :: gs) = max (dep g) (deps gs) := by rw [deps]
theorem wds_cons {b : Nat} (g : G) (gs : List G) : wds b (g :: gs) = (wd b g && wds b gs) := by rw [wds]
/-! ### has_form -/
theorem compr_sel {v : Nat} {mt : M Bool} : ∀ (gs : List G) (acc : List PV) (ev : SL), ev[v]? = some .no → (∀ g ∈ gs, mt (ev.set v (.val (enc g))) = .ok (!form g) (ev.set v (.val (enc g)))) → acc.length + gs.length ≤ SZ → compr (tName v) mt (eVar v) [v] acc (encs gs) ev = .ok (acc ++ encs (gs.filter fun g => !form g)) ev
  | [], acc, ev, _, _, _ => by rw [encs_nil, compr]; simp [encs_nil]
  | g :: gs, acc, ev, h, hm, hz => by
    have hl : v < ev.length := (List.getElem?_eq_some_iff.mp h).1
    rw [List.length_cons] at hz
    have e1 : wipeE (ev.set v (.val (enc g))) [v] = ev := by
      show (ev.set v (.val (enc g))).set v .no = ev
      rw [List.set_set]
      apply List.ext_getElem?
      intro i
      by_cases hi : v = i
      · subst hi; rw [List.getElem?_set_self hl, h]
      · rw [List.getElem?_set_ne hi]
    have h1 := hm g (by simp)
    rw [encs_cons, compr]
    cases c : form g with
    | true =>
      rw [c] at h1
      have e2 : turn (tName v) mt (eVar v) (enc g) ev = .ok none (ev.set v (.val (enc g))) := by
        unfold turn
        simp [hl, h1]
      simp only [e2]
      rw [e1, compr_sel gs acc ev h (fun g hg => hm g (by simp [hg])) (by omega), List.filter_cons]
      simp [c]
    | false =>
      rw [c] at h1
      have e2 : turn (tName v) mt (eVar v) (enc g) ev = .ok (some (enc g)) (ev.set v (.val (enc g))) := by
        unfold turn
        simp [hl, h1]
      simp only [e2]
      rw [if_pos (by omega), e1, compr_sel gs (acc ++ [enc g]) ev h (fun g hg => hm g (by simp [hg])) (by rw [List.length_append, List.length_singleton]; omega), List.filter_cons]
      simp [c, encs_cons]
theorem forms_sel : ∀ gs : List G, forms gs = (gs.filter fun g => !form g).isEmpty
  | [] => by unfold forms; rfl
  | g :: gs => by
    unfold forms
    rw [forms_sel gs, List.filter_cons]
    cases form g <;> simp
theorem wds_filter {b : Nat} (f : G → Bool) : ∀ gs : List G, wds b gs = true → wds b (gs.filter f) = true
  | [], h => h
  | g :: gs, h => by
    unfold wds at h
    rw [Bool.and_eq_true] at h
    rw [List.filter_cons]
    split
    · rw [wds_cons, h.1, wds_filter f gs h.2]; rfl
    · exact wds_filter f gs h.2
theorem deps_filter (f : G → Bool) : ∀ gs : List G, deps (gs.filter f) ≤ deps gs
  | [] => Nat.le_refl _
  | g :: gs => by
    have := deps_filter f gs
    rw [List.filter_cons]
    split
    · rw [deps_cons, deps_cons]; omega
    · rw [deps_cons]; omega
theorem wd_mem {b : Nat} : ∀ {gs : List G} {g : G}, wds b gs = true → g ∈ gs → wd b g = true
  | p :: ps, g, h, hm => by
    unfold wds at h
    rw [Bool.and_eq_true] at h
    rcases List.mem_cons.mp hm with rfl | hm
    · exact h.1
    · exact wd_mem h.2 hm
theorem gEq_nil {b : Nat} (gs : List G) (h : wds b gs = true) (hd : deps gs ≤ 31) : gEq false (.lst (encs gs)) (.lst []) = some (.bl gs.isEmpty, false) := by
  have e1 := okD_encs gs h hd
  have e2 : okD (.lst []) = true := by decide +kernel
  unfold gEq
  simp only [e1, e2, Bool.and_self, if_true]
  unfold toD PyData.eqv
  cases gs with
  | nil => unfold encs toDs PyData.eqvAll; rfl
  | cons g gs => unfold encs toDs PyData.eqvAll; rfl
theorem inAR (w : Str) : gIn true (.str w) (.lst [.str "any", .str "row"]) = some (.bl (!wordOk w), false) := by
  have e : inP (.str w) [.str "any", .str "row"] = wordOk w := by
    show (("any" : Str) == w || (("row" : Str) == w || false)) = (w == "any" || w == "row")
    rw [Bool.or_false, BEq.comm (a := ("any" : Str)), BEq.comm (a := ("row" : Str))]
  show (if (flatP (.str w) && [PV.str "any", PV.str "row"].all flatP) = true then vB (xor true (inP (.str w) [.str "any", .str "row"])) else none) = _
  rw [e, if_pos (by rfl)]
  cases wordOk w <;> rfl
theorem len_word (w : Str) (n : Nat) : decide ((n : Int) < 2 + (if decide (w = "row") = true then 1 else 0)) = decide (n < least w) := by
  unfold least
  by_cases h : w = "row"
  · subst h
    simp only [decide_true, if_true]
    by_cases c : n < 3
    · rw [decide_eq_true c, decide_eq_true]; omega
    · rw [decide_eq_false c, decide_eq_false]; omega
  · simp only [h, decide_false, Bool.false_eq_true, if_false]
    by_cases c : n < 2
    · rw [decide_eq_true c, decide_eq_true]; omega
    · rw [decide_eq_false c, decide_eq_false]; omega
end K01

set_option Elab.async false
set_option linter.all false
set_option maxRecDepth 100000
namespace K01
open Pv PySem PySem.Spec L2
open PyProof.Rows hiding St
/-! ### cuts -/
theorem cut_mid {α : Type} (xs : List α) (a k : Nat) (h : a ≤ xs.length) : cutP xs (some (a : Int)) (some ((a : Int) + (k : Int))) = (xs.drop a).take k := by
  unfold cutP
  rw [show ((a : Int) + (k : Int)) = ((a + k : Nat) : Int) by omega, HT.sIx_nat, HT.sIx_nat, Nat.min_eq_left h]
  by_cases c : a + k ≤ xs.length
  · rw [Nat.min_eq_left c, Nat.add_sub_cancel_left]
  · rw [Nat.min_eq_right (by omega), List.take_of_length_le (by rw [List.length_drop]; omega), List.take_of_length_le (by rw [List.length_drop]; omega)]
theorem cut_pre {α : Type} (xs : List α) (a : Nat) (h : a ≤ xs.length) : cutP xs none (some (a : Int)) = xs.take a := by
  unfold cutP
  rw [HT.sIx_nat, HT.sIx_none, Nat.min_eq_left h]
  rfl
theorem cut_suf {α : Type} (xs : List α) (a : Nat) : cutP xs (some (a : Int)) none = xs.drop a := by
  unfold cutP
  rw [HT.sIx_nat, HT.sIx_none]
  by_cases c : a ≤ xs.length
  · rw [Nat.min_eq_left c, List.take_of_length_le (by rw [List.length_drop]; omega)]
  · rw [Nat.min_eq_right (by omega), List.drop_of_length_le (Nat.le_refl _), List.drop_of_length_le (by omega), List.take_nil]
theorem cut_sufk {α : Type} (xs : List α) (a k : Nat) : cutP xs (some ((a : Int) + (k : Int))) none = xs.drop (a + k) := by
  rw [show ((a : Int) + (k : Int)) = ((a + k : Nat) : Int) by omega, cut_suf]
/-! ### lists of trees -/
theorem forms_cons (g : G) (gs : List G) : forms (g :: gs) = (form g && forms gs) := by rw [forms]
theorem leas_cons (g : G) (gs : List G) : leas (g :: gs) = lea g ++ leas gs := by rw [leas]
theorem encs_app : ∀ a b : List G, encs (a ++ b) = encs a ++ encs b := fun a b => by rw [encs_map, encs_map, encs_map, List.map_append]
theorem forms_app : ∀ a b : List G, forms (a ++ b) = (forms a && forms b)
  | [], b => by rw [List.nil_append, show forms [] = true by rw [forms]]; rfl
  | g :: a, b => by rw [List.cons_append, forms_cons, forms_cons, forms_app a b, Bool.and_assoc]
theorem leas_app : ∀ a b : List G, leas (a ++ b) = leas a ++ leas b
  | [], b => by rw [List.nil_append, show leas [] = [] by rw [leas]]; rfl
  | g :: a, b => by rw [List.cons_append, leas_cons, leas_cons, leas_app a b, List.append_assoc]
theorem deps_app : ∀ a b : List G, deps (a ++ b) = max (deps a) (deps b)
  | [], b => by rw [List.nil_append, show deps [] = 0 by rw [deps]]; omega
  | g :: a, b => by rw [List.cons_append, deps_cons, deps_cons, deps_app a b]; omega
theorem wds_app {m : Nat} : ∀ a b : List G, wds m (a ++ b) = (wds m a && wds m b)
  | [], b => by rw [List.nil_append, show wds m [] = true by rw [wds]]; rfl
  | g :: a, b => by rw [List.cons_append, wds_cons, wds_cons, wds_app a b, Bool.and_assoc]
/-- what the parts are, ahead of each turn -/
structure Good (n : Nat) (P : List G) : Prop where
  f : forms P = true
  l : (leas P).Perm (upTo 0 n)
  d : deps P + P.length ≤ n
  w : wds 24 P = true
  one : 1 ≤ P.length
theorem good_group {n : Nat} {P : List G} (h : Good n P) (hn : n ≤ 24) {a k : Nat} {w : Str} (ha : a < P.length) (hw : wordOk w = true) (hs : PyData.strOk w = true) (hl : least w ≤ ((P.drop a).take k).length) (h2 : 2 ≤ ((P.drop a).take k).length) :
    Good n (P.take a ++ [G.node w ((P.drop a).take k) false] ++ P.drop (a + k)) := by
  have e : P.take a ++ (P.drop a).take k ++ P.drop (a + k) = P := by
    rw [List.append_assoc, ← List.drop_drop, List.take_append_drop, List.take_append_drop]
  have hf := h.f
  have hL := h.l
  have hd := h.d
  have hwd := h.w
  have hlen := congrArg List.length e
  rw [← e, forms_app, forms_app] at hf
  rw [← e, leas_app, leas_app] at hL
  have hde : deps P = max (max (deps (P.take a)) (deps ((P.drop a).take k))) (deps (P.drop (a + k))) := by
    conv => lhs; rw [← e]
    rw [deps_app, deps_app]
  rw [← e, wds_app, wds_app] at hwd
  simp only [Bool.and_eq_true] at hf hwd
  rw [List.length_append, List.length_append] at hlen
  have n0 : forms [] = true := by rw [forms]
  have n1 : leas [] = [] := by rw [leas]
  have n2 : deps [] = 0 := by rw [deps]
  have n3 : wds 24 [] = true := by rw [wds]
  have t1 : form (G.node w ((P.drop a).take k) false) = true := by rw [form]; simp only [hw, hf.1.2, decide_eq_true hl]; rfl
  have t2 : lea (G.node w ((P.drop a).take k) false) = leas ((P.drop a).take k) := by rw [lea]
  have t3 : dep (G.node w ((P.drop a).take k) false) = deps ((P.drop a).take k) + 1 := by rw [dep]
  have t4 : wd 24 (G.node w ((P.drop a).take k) false) = true := by
    rw [wd, hs, hwd.1.2, decide_eq_true (by omega : ((P.drop a).take k).length ≤ 24)]; rfl
  refine ⟨?_, ?_, ?_, ?_, ?_⟩
  · rw [forms_app, forms_app, forms_cons, t1, n0, hf.1.1, hf.2]; rfl
  · rw [leas_app, leas_app, leas_cons, t2, n1, List.append_nil]; exact hL
  · rw [deps_app, deps_app, deps_cons, t3, n2, List.length_append, List.length_append, List.length_singleton]
    omega
  · rw [wds_app, wds_app, wds_cons, t4, n3, hwd.1.1, hwd.2]; rfl
  · rw [List.length_append, List.length_append, List.length_singleton]; omega
end K01

set_option Elab.async false
set_option linter.all false
set_option maxRecDepth 100000
namespace K01
open Pv PySem PySem.Spec L2
open PyProof.Rows hiding St
/-! ### _law_tree -/
def trS (c n : Int) (P : List G) (r : Int) (s4 s5 s6 s7 s8 : Pv.Slot) : SL := [.val (.int c), .val (.int n), .own (encs P), .val (.int r), s4, s5, s6, s7, s8]
def tb1 : M Fl := mIfS (blOf (eOp cLt (look (eCall gLen (kCons (pVar 2) (Pv.ret [])))) (look (eC (.int 2))))) (sq (Pv.ret .bk) (Pv.ret .nx)) (Pv.ret .nx)
def tb2 : M Fl := bnd (eOp gAdd (look (eC (.int 2))) (look (eOp aMod (look (eCall gInt (kCons (pVar 3) (Pv.ret [])))) (look (eC (.int 4)))))) (setR 5)
def tb3 : M Fl := mIfS (blOf (eOp (gEq false) (look (eOp aMod (look (eCall gInt (kCons (look (eOp aDiv (pVar 3) (look (eC (.int 1024))))) (Pv.ret [])))) (look (eC (.int 8))))) (look (eC (.int 5))))) (sq (bnd (eC (.int 24)) (setR 5)) (Pv.ret .nx)) (Pv.ret .nx)
def tb4 : M Fl := bnd (eOp aMod (look (eCall gInt (kCons (look (eOp aDiv (pVar 3) (look (eC (.int 4))))) (Pv.ret [])))) (look (eCall gLen (kCons (pVar 2) (Pv.ret []))))) (setR 6)
def tb5 : M Fl := bnd (eSl (pVar 2) (soInt (pVar 6)) (soInt (look (eOp gAdd (pVar 6) (pVar 5))))) (setR 7)
def tb6w : M Fl := mIfS (mAnd (blOf (eOp cGt (look (eCall gLen (kCons (pVar 7) (Pv.ret [])))) (look (eC (.int 2))))) (blOf (eOp (gEq false) (look (eOp aMod (look (eCall gInt (kCons (look (eOp aDiv (pVar 3) (look (eC (.int 64))))) (Pv.ret [])))) (look (eC (.int 2))))) (look (eC (.int 1)))))) (sq (bnd (eC (.str "row")) (setR 8)) (Pv.ret .nx)) (Pv.ret .nx)
def tb6p : M Fl := bnd (eOp gAdd (look (eOp gAdd (look (eSl (pVar 2) (Pv.ret none) (soInt (pVar 6)))) (look (mLst (aCons (mTup (aCons (eVar 8) (aCons (eCall gTuple (kCons (pVar 7) (Pv.ret []))) (Pv.ret [])))) (Pv.ret [])))))) (look (eSl (pVar 2) (soInt (look (eOp gAdd (pVar 6) (pVar 5)))) (Pv.ret none)))) (setR 2)
def tb6 : M Fl := mIfS (blOf (eOp cGt (look (eCall gLen (kCons (pVar 7) (Pv.ret [])))) (look (eC (.int 1))))) (sq (bnd (eC (.str "any")) (setR 8)) (sq tb6w (sq tb6p (Pv.ret .nx)))) (Pv.ret .nx)
def tb7 : M Fl := bnd (eOp gAdd (look (eOp gAdd (look (eOp aDiv (pVar 3) (look (eC (.int 5))))) (look (eOp aMul (look (eC (.int 1000003))) (pVar 4))))) (look (eC (.int 17)))) (setR 3)
def treB : M Fl := sq tb1 (sq tb2 (sq tb3 (sq tb4 (sq tb5 (sq tb6 (sq tb7 (Pv.ret .nx)))))))
section
variable {c n : Int} {P : List G} {r : Int} {s4 s5 s6 s7 s8 : Pv.Slot}
theorem tb1_bk (h : P.length < 2) : tb1 (trS c n P r s4 s5 s6 s7 s8) = .ok .bk (trS c n P r s4 s5 s6 s7 s8) := by
  unfold tb1 trS
  have : ((encs P).length : Int) < 2 := by rw [encs_len]; omega
  simp [this]
theorem tb1_nx (h : ¬ P.length < 2) : tb1 (trS c n P r s4 s5 s6 s7 s8) = .ok .nx (trS c n P r s4 s5 s6 s7 s8) := by
  unfold tb1 trS
  have : ¬ ((encs P).length : Int) < 2 := by rw [encs_len]; omega
  simp [this]
theorem tb23 : ∃ k : Nat, 2 ≤ k ∧ ∀ m : M Fl, sq tb2 (sq tb3 m) (trS c n P r s4 s5 s6 s7 s8) = m (trS c n P r s4 (.val (.int k)) s6 s7 s8) := by
  have h1 := Int.emod_nonneg r (show (4 : Int) ≠ 0 by omega)
  obtain ⟨k, hk⟩ : ∃ k : Nat, r % 4 = (k : Int) := ⟨(r % 4).toNat, by omega⟩
  have e2 : tb2 (trS c n P r s4 s5 s6 s7 s8) = .ok .nx (trS c n P r s4 (.val (.int ((2 + k : Nat) : Int))) s6 s7 s8) := by
    unfold tb2 trS
    rw [show (((2 + k : Nat) : Int)) = 2 + (k : Int) by omega, ← hk]
    simp
  by_cases q : r / 1024 % 8 = 5
  · refine ⟨24, by omega, fun m => ?_⟩
    rw [sq_nx e2, sq_nx (ev' := trS c n P r s4 (.val (.int (24 : Nat))) s6 s7 s8)]
    unfold tb3 trS
    simp [q]
  · refine ⟨2 + k, by omega, fun m => ?_⟩
    rw [sq_nx e2, sq_nx (ev' := trS c n P r s4 (.val (.int ((2 + k : Nat) : Int))) s6 s7 s8)]
    unfold tb3 trS
    simp [q]
theorem tb4_ok (h : 2 ≤ P.length) : ∃ a : Nat, a < P.length ∧ tb4 (trS c n P r s4 s5 s6 s7 s8) = .ok .nx (trS c n P r s4 s5 (.val (.int a)) s7 s8) := by
  have hp : (0 : Int) < (encs P).length := by rw [encs_len]; omega
  have h1 := Int.emod_nonneg (r / 4) (show ((encs P).length : Int) ≠ 0 by omega)
  have h2 := Int.emod_lt_of_pos (r / 4) hp
  obtain ⟨a, ha⟩ : ∃ a : Nat, r / 4 % (encs P).length = (a : Int) := ⟨(r / 4 % (encs P).length).toNat, by omega⟩
  refine ⟨a, by rw [ha, encs_len] at h2; omega, ?_⟩
  unfold tb4 trS
  have hp' : 0 < (encs P).length := by omega
  rw [← ha]
  simp [hp']
theorem tb5_ok {a k : Nat} (h : a < P.length) : tb5 (trS c n P r s4 (.val (.int k)) (.val (.int a)) s7 s8) = .ok .nx (trS c n P r s4 (.val (.int k)) (.val (.int a)) (.own (encs ((P.drop a).take k))) s8) := by
  unfold tb5 trS
  have e := cut_mid (encs P) a k (by rw [encs_len]; omega)
  have e2 : ((encs P).drop a).take k = encs ((P.drop a).take k) := by rw [encs_map, encs_map, List.map_take, List.map_drop]
  rw [e2] at e
  simp [e]
theorem tb7_ok {j : Nat} : ∃ r' : Int, tb7 (trS c n P r (.val (.int j)) s5 s6 s7 s8) = .ok .nx (trS c n P r' (.val (.int j)) s5 s6 s7 s8) := by
  refine ⟨r / 5 + 1000003 * j + 17, ?_⟩
  unfold tb7 trS
  simp
theorem tb6p_ok {a k : Nat} {w : Str} {C : List G} (h : a < P.length) (hl : P.length ≤ 24) (hc : C.length ≤ 24) : tb6p (trS c n P r s4 (.val (.int k)) (.val (.int a)) (.own (encs C)) (.val (.str w))) = .ok .nx (trS c n (P.take a ++ [G.node w C false] ++ P.drop (a + k)) r s4 (.val (.int k)) (.val (.int a)) (.own (encs C)) (.val (.str w))) := by
  unfold tb6p trS
  have e1 := cut_pre (encs P) a (by rw [encs_len]; omega)
  have e2 := cut_sufk (encs P) a k
  have l1 : ((encs P).take a).length ≤ 24 := by rw [List.length_take, encs_len]; omega
  have l2 : ((encs P).drop (a + k)).length ≤ 24 := by rw [List.length_drop, encs_len]; omega
  have e3 : encs (P.take a ++ [G.node w C false] ++ P.drop (a + k)) = (encs P).take a ++ (.tup [.str w, .tup (encs C)] :: (encs P).drop (a + k)) := by
    rw [encs_app, encs_app, encs_cons, encs_nil, enc, encs_map (P.take a), encs_map (P.drop (a + k)), encs_map P, List.map_take, List.map_drop, List.append_assoc]
    rfl
  have l3 : ((encs P).take a).length + 1 ≤ 16777216 := by omega
  have l4 : ((encs P).take a).length + 1 + ((encs P).drop (a + k)).length ≤ 16777216 := by omega
  rw [e3]
  generalize (encs P).take a = X at *
  generalize (encs P).drop (a + k) = Y at *
  simp [e1, e2, l3, l4]
theorem tb6_ok {a k m : Nat} (hG : Good m P) (hm : m ≤ 24) (h : a < P.length) : ∃ (P' : List G) (s8' : Pv.Slot), Good m P' ∧ tb6 (trS c n P r s4 (.val (.int k)) (.val (.int a)) (.own (encs ((P.drop a).take k))) s8) = .ok .nx (trS c n P' r s4 (.val (.int k)) (.val (.int a)) (.own (encs ((P.drop a).take k))) s8') := by
  have hlen : P.length ≤ 24 := by have := hG.d; omega
  have hC : ((P.drop a).take k).length ≤ 24 := by rw [List.length_take, List.length_drop]; omega
  have sA : PyData.strOk "any" = true := by decide +kernel
  have sR : PyData.strOk "row" = true := by decide +kernel
  have wA : wordOk "any" = true := by decide +kernel
  have wR : wordOk "row" = true := by decide +kernel
  have lA : least "any" = 2 := by decide +kernel
  have lR : least "row" = 3 := by decide +kernel
  by_cases c1 : 1 < ((P.drop a).take k).length
  · have t0 : ∀ m : M Fl, sq (bnd (eC (.str "any")) (setR 8)) m (trS c n P r s4 (.val (.int k)) (.val (.int a)) (.own (encs ((P.drop a).take k))) s8) = m (trS c n P r s4 (.val (.int k)) (.val (.int a)) (.own (encs ((P.drop a).take k))) (.val (.str "any"))) := fun m => sq_nx (by unfold trS; simp)
    have t1 : tb6 (trS c n P r s4 (.val (.int k)) (.val (.int a)) (.own (encs ((P.drop a).take k))) s8) = sq tb6w (sq tb6p (Pv.ret .nx)) (trS c n P r s4 (.val (.int k)) (.val (.int a)) (.own (encs ((P.drop a).take k))) (.val (.str "any"))) := by
      unfold tb6
      rw [if_t (ev' := trS c n P r s4 (.val (.int k)) (.val (.int a)) (.own (encs ((P.drop a).take k))) s8), t0]
      have : (1 : Int) < ((encs ((P.drop a).take k)).length : Int) := by rw [encs_len]; omega
      unfold trS
      simp [this]
    by_cases c2 : 2 < ((P.drop a).take k).length ∧ r / 64 % 2 = 1
    · refine ⟨_, .val (.str "row"), good_group (k := k) hG hm h (w := "row") wR sR (by rw [lR]; omega) (by omega), ?_⟩
      have t2 : tb6w (trS c n P r s4 (.val (.int k)) (.val (.int a)) (.own (encs ((P.drop a).take k))) (.val (.str "any"))) = .ok .nx (trS c n P r s4 (.val (.int k)) (.val (.int a)) (.own (encs ((P.drop a).take k))) (.val (.str "row"))) := by
        have : (2 : Int) < ((encs ((P.drop a).take k)).length : Int) := by rw [encs_len]; omega
        unfold tb6w trS
        simp [this, c2.2]
      rw [t1, sq_nx t2, sq_nx (tb6p_ok h hlen hC)]
      rfl
    · refine ⟨_, .val (.str "any"), good_group (k := k) hG hm h (w := "any") wA sA (by rw [lA]; omega) (by omega), ?_⟩
      have t2 : tb6w (trS c n P r s4 (.val (.int k)) (.val (.int a)) (.own (encs ((P.drop a).take k))) (.val (.str "any"))) = .ok .nx (trS c n P r s4 (.val (.int k)) (.val (.int a)) (.own (encs ((P.drop a).take k))) (.val (.str "any"))) := by
        unfold tb6w trS
        by_cases c3 : 2 < ((P.drop a).take k).length
        · have h3 : (2 : Int) < ((encs ((P.drop a).take k)).length : Int) := by rw [encs_len]; omega
          have h4 : ¬ r / 64 % 2 = 1 := fun z => c2 ⟨c3, z⟩
          simp [h3, h4]
        · have h3 : ¬ (2 : Int) < ((encs ((P.drop a).take k)).length : Int) := by rw [encs_len]; omega
          simp [h3]
      rw [t1, sq_nx t2, sq_nx (tb6p_ok h hlen hC)]
      rfl
  · refine ⟨P, s8, hG, ?_⟩
    unfold tb6
    rw [if_f (ev' := trS c n P r s4 (.val (.int k)) (.val (.int a)) (.own (encs ((P.drop a).take k))) s8)]
    · rfl
    have : ¬ (1 : Int) < ((encs ((P.drop a).take k)).length : Int) := by rw [encs_len]; omega
    unfold trS
    simp [this]
theorem treB_ok {m j : Nat} (hG : Good m P) (hm : m ≤ 24) (h : 2 ≤ P.length) : ∃ (P' : List G) (r' : Int) (s5' s6' s7' s8' : Pv.Slot), Good m P' ∧ treB (trS c n P r (.val (.int j)) s5 s6 s7 s8) = .ok .nx (trS c n P' r' (.val (.int j)) s5' s6' s7' s8') := by
  unfold treB
  rw [sq_nx (tb1_nx (by omega))]
  obtain ⟨k, hk, e2⟩ := tb23 (c := c) (n := n) (P := P) (r := r) (s4 := .val (.int j)) (s5 := s5) (s6 := s6) (s7 := s7) (s8 := s8)
  rw [e2]
  obtain ⟨a, ha, e3⟩ := tb4_ok (c := c) (n := n) (r := r) (s4 := .val (.int j)) (s5 := .val (.int k)) (s6 := s6) (s7 := s7) (s8 := s8) h
  rw [sq_nx e3, sq_nx (tb5_ok ha)]
  obtain ⟨P', s8', hG', e4⟩ := tb6_ok (c := c) (n := n) (r := r) (s4 := .val (.int j)) (s8 := s8) (k := k) hG hm ha
  rw [sq_nx e4]
  obtain ⟨r', e5⟩ := tb7_ok (c := c) (n := n) (P := P') (r := r) (j := j) (s5 := .val (.int k)) (s6 := .val (.int a)) (s7 := .own (encs ((P.drop a).take k))) (s8 := s8')
  rw [sq_nx e5]
  exact ⟨P', r', _, _, _, _, hG', rfl⟩
theorem tre_loop {m : Nat} (hG : Good m P) (hm : m ≤ 24) : ∃ (P' : List G) (r' : Int) (s4' s5' s6' s7' s8' : Pv.Slot), Good m P' ∧ loop (tName 4) treB (rgP 0 30) (trS c n P r s4 s5 s6 s7 s8) = .ok .nx (trS c n P' r' s4' s5' s6' s7' s8') := by
  obtain ⟨ev', e1, e2⟩ := loop_inv (t := tName 4) (mb := treB) (ps := rgP 0 30) (I := fun _ ev => ∃ (P' : List G) (r' : Int) (s4' s5' s6' s7' s8' : Pv.Slot), Good m P' ∧ ev = trS c n P' r' s4' s5' s6' s7' s8') (Q := fun ev => ∃ (P' : List G) (r' : Int) (s4' s5' s6' s7' s8' : Pv.Slot), Good m P' ∧ ev = trS c n P' r' s4' s5' s6' s7' s8') 0 (ev := trS c n P r s4 s5 s6 s7 s8)
    (fun j p ev hp hI => by
      obtain ⟨hj, rfl⟩ := rgP_get hp
      obtain ⟨P', r', t4, t5, t6, t7, t8, hG', rfl⟩ := hI
      refine ⟨trS c n P' r' (.val (.int j)) t5 t6 t7 t8, ?_, ?_⟩
      · rw [Int.zero_add]; rfl
      by_cases h2 : P'.length < 2
      · refine .inr ⟨trS c n P' r' (.val (.int j)) t5 t6 t7 t8, ?_, P', r', _, _, _, _, _, hG', rfl⟩
        unfold treB
        exact sq_bk (tb1_bk h2)
      · obtain ⟨P2, r2, u5, u6, u7, u8, hG2, e⟩ := treB_ok (c := c) (n := n) (r := r') (s5 := t5) (s6 := t6) (s7 := t7) (s8 := t8) (j := j) hG' hm (by omega)
        exact .inl ⟨_, e, P2, r2, _, _, _, _, _, hG2, rfl⟩)
    ⟨P, r, s4, s5, s6, s7, s8, hG, rfl⟩
  have e2 : ∃ (P' : List G) (r' : Int) (s4' s5' s6' s7' s8' : Pv.Slot), Good m P' ∧ ev' = trS c n P' r' s4' s5' s6' s7' s8' := by
    rcases e2 with h | h <;> exact h
  obtain ⟨P', r', t4, t5, t6, t7, t8, hG', rfl⟩ := e2
  exact ⟨P', r', t4, t5, t6, t7, t8, hG', e1⟩
end
theorem good_one {n : Nat} {P : List G} (h : Good n P) (hn : n ≤ 24) : ∃ g, form g = true ∧ (lea g).Perm (upTo 0 n) ∧ dep g + 1 ≤ n ∧ wd 24 g = true ∧ ∀ (c : Int) (r : Int) (s4 s5 s6 s7 s8 : Pv.Slot), ∃ (T : List G), encs T = [enc g] ∧ (mIfS (blOf (eOp cGt (look (eCall gLen (kCons (pVar 2) (Pv.ret [])))) (look (eC (.int 1))))) (sq (bnd (mLst (aCons (mTup (aCons (eC (.str "any")) (aCons (eCall gTuple (kCons (pVar 2) (Pv.ret []))) (Pv.ret [])))) (Pv.ret []))) (setR 2)) (Pv.ret .nx)) (Pv.ret .nx)) (trS c n P r s4 s5 s6 s7 s8) = .ok .nx (trS c n T r s4 s5 s6 s7 s8) := by
  by_cases c1 : 1 < P.length
  · have wA : wordOk "any" = true := by decide +kernel
    have sA : PyData.strOk "any" = true := by decide +kernel
    have lA : least "any" = 2 := by decide +kernel
    have hd := h.d
    refine ⟨.node "any" P false, ?_, ?_, ?_, ?_, fun c r s4 s5 s6 s7 s8 => ⟨[.node "any" P false], by rw [encs_cons, encs_nil], ?_⟩⟩
    · rw [form, wA, lA, h.f, decide_eq_true (by omega : 2 ≤ P.length)]; rfl
    · rw [lea]; exact h.l
    · rw [dep]; omega
    · rw [wd, sA, h.w, decide_eq_true (by omega : P.length ≤ 24)]; rfl
    · have h1 : (1 : Int) < ((encs P).length : Int) := by rw [encs_len]; omega
      rw [if_t (ev' := trS c n P r s4 s5 s6 s7 s8)]
      · unfold trS
        rw [encs_cons, encs_nil, enc]
        simp
      · unfold trS
        simp [h1]
  · obtain ⟨g, rfl⟩ : ∃ g, P = [g] := by
      have := h.one
      match P, h, c1 with
      | [g], _, _ => exact ⟨g, rfl⟩
      | [], h, _ => exact absurd h.one (by simp)
      | _ :: _ :: _, _, c => exact absurd (by simp) c
    have hf := h.f
    have hl := h.l
    have hd := h.d
    have hw := h.w
    rw [forms_cons, show forms [] = true by rw [forms], Bool.and_true] at hf
    rw [leas_cons, show leas [] = [] by rw [leas], List.append_nil] at hl
    rw [deps_cons, show deps [] = 0 by rw [deps], List.length_singleton] at hd
    rw [wds_cons, show wds 24 [] = true by rw [wds], Bool.and_true] at hw
    refine ⟨g, hf, hl, by omega, hw, fun c r s4 s5 s6 s7 s8 => ⟨[g], by rw [encs_cons, encs_nil], ?_⟩⟩
    rw [if_f (ev' := trS c n [g] r s4 s5 s6 s7 s8)]
    · rfl
    · unfold trS
      rw [encs_cons, encs_nil]
      simp
theorem leaf_good : ∀ (l : List Int), forms (l.map .leaf) = true ∧ leas (l.map .leaf) = l ∧ deps (l.map .leaf) = 0 ∧ wds 24 (l.map .leaf) = true ∧ encs (l.map .leaf) = l.map .int
  | [] => by simp [forms, leas, deps, wds, encs]
  | i :: l => by
    obtain ⟨h1, h2, h3, h4, h5⟩ := leaf_good l
    rw [List.map_cons, List.map_cons, forms_cons, leas_cons, deps_cons, wds_cons, encs_cons, h1, h2, h3, h4, h5]
    simp [form, lea, dep, wd, enc]
end K01

set_option Elab.async false
set_option linter.all false
set_option maxRecDepth 100000
namespace K01
open Pv PySem PySem.Spec L2
open PyProof.Rows hiding St
/-! ### the least of some numbers -/
def Lst : List Int → Int
  | [] => 0
  | x :: r => lmin x r
theorem lst_spec {l : List Int} (h : l ≠ []) : Lst l ∈ l ∧ ∀ x ∈ l, Lst l ≤ x := by
  cases l with
  | nil => exact absurd rfl h
  | cons x r =>
    obtain ⟨h1, h2, h3⟩ := lmin_le r x
    refine ⟨?_, fun y hy => ?_⟩
    · rcases h3 with h3 | h3
      · show lmin x r ∈ x :: r
        rw [h3]; simp
      · exact List.mem_cons_of_mem _ h3
    · rcases List.mem_cons.mp hy with rfl | hy
      · exact h1
      · exact h2 y hy
theorem lst_uniq {l : List Int} {m : Int} (h : m ∈ l) (h2 : ∀ x ∈ l, m ≤ x) : Lst l = m := by
  have hn : l ≠ [] := fun z => by rw [z] at h; cases h
  obtain ⟨a, b⟩ := lst_spec hn
  have := b m h
  have := h2 _ a
  omega
theorem lst_perm {l m : List Int} (p : l.Perm m) : Lst l = Lst m := by
  by_cases h : m = []
  · subst h
    rw [List.perm_nil.mp p]
  · obtain ⟨a, b⟩ := lst_spec h
    exact lst_uniq (p.mem_iff.mpr a) fun x hx => b x (p.mem_iff.mp hx)
/-! ### trees with at least one leaf -/
theorem lea_ne : ∀ (g : G), form g = true → lea g ≠ []
  | .leaf i, _ => by rw [lea]; simp
  | .node w ps x, h => by
    rw [form] at h
    simp only [Bool.and_eq_true, decide_eq_true_eq] at h
    rw [lea]
    cases ps with
    | nil =>
      have := h.2.2.1
      unfold least at this
      split at this <;> simp at this
    | cons g gs =>
      rw [leas_cons]
      have h4 := h.2.2.2
      rw [forms_cons, Bool.and_eq_true] at h4
      have := lea_ne g h4.1
      intro z
      exact this (List.append_eq_nil_iff.mp z).1
theorem lst_leas : ∀ (gs : List G), gs ≠ [] → (∀ g ∈ gs, lea g ≠ []) → Lst (gs.map fun g => Lst (lea g)) = Lst (leas gs) := by
  intro gs hn he
  have hm : ∀ (gs : List G), (∀ g ∈ gs, lea g ≠ []) → ∀ x, x ∈ leas gs ↔ ∃ g ∈ gs, x ∈ lea g := by
    intro gs
    induction gs with
    | nil => intro _ x; rw [show leas [] = [] by rw [leas]]; simp
    | cons g gs ih =>
      intro he x
      rw [leas_cons, List.mem_append, ih (fun g hg => he g (by simp [hg])) x]
      simp
  symm
  have hne : (gs.map fun g => Lst (lea g)) ≠ [] := by simpa using hn
  obtain ⟨a, b⟩ := lst_spec hne
  obtain ⟨g, hg, e⟩ := List.mem_map.mp a
  refine lst_uniq ?_ fun x hx => ?_
  · rw [← e]
    exact (hm gs he _).mpr ⟨g, hg, (lst_spec (he g hg)).1⟩
  · obtain ⟨g', hg', hx'⟩ := (hm gs he x).mp hx
    have h1 := b _ (List.mem_map.mpr ⟨g', hg', rfl⟩)
    have h2 := (lst_spec (he g' hg')).2 x hx'
    omega
theorem leas_mem {gs : List G} {x : Int} : x ∈ leas gs ↔ ∃ g ∈ gs, x ∈ lea g := by
  induction gs with
  | nil => rw [show leas [] = [] by rw [leas]]; simp
  | cons g gs ih => rw [leas_cons, List.mem_append, ih]; simp
theorem leas_perm {a b : List G} (h : a.Perm b) : (leas a).Perm (leas b) := by
  induction h with
  | nil => exact .refl _
  | cons g _ ih => rw [leas_cons, leas_cons]; exact ih.append_left _
  | swap x y l => rw [leas_cons, leas_cons, leas_cons, leas_cons, ← List.append_assoc, ← List.append_assoc]; exact List.perm_append_comm.append_right _
  | trans _ _ h1 h2 => exact h1.trans h2
theorem forms_all {gs : List G} : forms gs = true ↔ ∀ g ∈ gs, form g = true := by
  induction gs with
  | nil => rw [show forms [] = true by rw [forms]]; simp
  | cons g gs ih => rw [forms_cons, Bool.and_eq_true, ih]; simp
theorem deps_eq {a b : List G} (h : ∀ n, (∀ g ∈ a, dep g ≤ n) ↔ ∀ g ∈ b, dep g ≤ n) : deps a = deps b := by
  have key : ∀ (gs : List G) n, deps gs ≤ n ↔ ∀ g ∈ gs, dep g ≤ n := by
    intro gs
    induction gs with
    | nil => intro n; rw [show deps [] = 0 by rw [deps]]; simp
    | cons g gs ih => intro n; rw [deps_cons, Nat.max_le, ih]; simp
  have h1 := (key a (deps b)).mpr ((h _).mpr ((key b _).mp (Nat.le_refl _)))
  have h2 := (key b (deps a)).mpr ((h _).mp ((key a _).mp (Nat.le_refl _)))
  omega
theorem deps_perm {a b : List G} (h : a.Perm b) : deps a = deps b := deps_eq fun n => ⟨fun z g hg => z g (h.mem_iff.mpr hg), fun z g hg => z g (h.mem_iff.mp hg)⟩
theorem wds_all {b : Nat} {gs : List G} : wds b gs = true ↔ ∀ g ∈ gs, wd b g = true := by
  induction gs with
  | nil => rw [show wds b [] = true by rw [wds]]; simp
  | cons g gs ih => rw [wds_cons, Bool.and_eq_true, ih]; simp
/-! ### two lists of trees, part by part -/
theorem nodup_leas {gs : List G} (h : (leas gs).Nodup) (hf : ∀ g ∈ gs, lea g ≠ []) : (gs.map fun g => Lst (lea g)).Nodup := by
  induction gs with
  | nil => exact .nil
  | cons g gs ih =>
    rw [leas_cons, List.nodup_append] at h
    rw [List.map_cons, List.nodup_cons]
    refine ⟨fun z => ?_, ih h.2.1 fun g hg => hf g (by simp [hg])⟩
    obtain ⟨q, hq, e⟩ := List.mem_map.mp z
    have a := (lst_spec (hf g (by simp))).1
    have b := (lst_spec (hf q (by simp [hq]))).1
    exact h.2.2 _ a _ (leas_mem.mpr ⟨q, hq, b⟩) e.symm
/-! ### the normal form -/
def keyG (g : G) : Int × G := (Lst (lea g), g)
def sortG (gs : List G) : List G := (sortK (gs.map keyG)).map (·.2)
theorem sortG_perm (gs : List G) : (sortG gs).Perm gs := by
  unfold sortG
  refine ((sortK_perm _).map _).trans ?_
  rw [List.map_map]
  have : ((fun z : Int × G => z.2) ∘ keyG) = id := rfl
  rw [this, List.map_id]
theorem sortG_keys (gs : List G) : (sortG gs).map keyG = sortK (gs.map keyG) := by
  unfold sortG
  rw [List.map_map]
  have : ∀ z ∈ sortK (gs.map keyG), (keyG ∘ fun z : Int × G => z.2) z = z := fun z hz => by
    obtain ⟨g, _, rfl⟩ := List.mem_map.mp ((sortK_perm _).mem_iff.mp hz)
    rfl
  rw [List.map_congr_left this, List.map_id']
theorem sortG_sorted (gs : List G) : ((sortG gs).map fun g => Lst (lea g)).Pairwise (· ≤ ·) := by
  have h := sortK_sorted (gs.map keyG)
  rw [← sortG_keys, List.pairwise_map] at h
  rw [List.pairwise_map]
  exact h
theorem sortG_uniq {a b : List G} (h : a.Perm b) (hn : (a.map fun g => Lst (lea g)).Nodup) : sortG a = sortG b := by
  unfold sortG
  congr 1
  refine sortK_uniq ?_ (sortK_sorted _) (sortK_sorted _) ?_
  · exact (sortK_perm _).trans ((h.map _).trans (sortK_perm _).symm)
  · refine (((sortK_perm _).map (·.1)).nodup_iff).mpr ?_
    rw [List.map_map]
    exact hn
theorem sortG_self {a : List G} (hs : (a.map fun g => Lst (lea g)).Pairwise (· ≤ ·)) (hn : (a.map fun g => Lst (lea g)).Nodup) : sortG a = a := by
  have e : sortK (a.map keyG) = a.map keyG := by
    refine sortK_uniq (sortK_perm _) (sortK_sorted _) ?_ ?_
    · rw [List.pairwise_map] at hs ⊢
      exact hs
    · refine (((sortK_perm _).map (·.1)).nodup_iff).mpr ?_
      rw [List.map_map]
      exact hn
  unfold sortG
  rw [e, List.map_map]
  have : ((fun z : Int × G => z.2) ∘ keyG) = id := rfl
  rw [this, List.map_id]
def firstL (gs : List G) : Int := Lst (lea (gs.headD (.leaf 0)))
def lastL (gs : List G) : Int := Lst (lea (gs.getLastD (.leaf 0)))
mutual
def arr : G → G
  | .leaf i => .leaf i
  | .node w ps _ => .node w (if w = "any" then sortG (arrs ps) else if lastL (arrs ps) < firstL (arrs ps) then (arrs ps).reverse else arrs ps) false
def arrs : List G → List G
  | [] => []
  | g :: gs => arr g :: arrs gs
end
theorem arrs_map : ∀ gs : List G, arrs gs = gs.map arr
  | [] => by rw [arrs]; rfl
  | g :: gs => by rw [arrs, List.map_cons, arrs_map gs]
def put (w : Str) (qs : List G) : List G := if w = "any" then sortG qs else if lastL qs < firstL qs then qs.reverse else qs
theorem put_perm (w : Str) (qs : List G) : (put w qs).Perm qs := by
  unfold put
  split
  · exact sortG_perm qs
  · split
    · exact List.reverse_perm qs
    · exact .refl _
theorem arr_node (w : Str) (ps : List G) (x : Bool) : arr (.node w ps x) = .node w (put w (arrs ps)) false := by rw [arr]; rfl
mutual
theorem arr_lea : ∀ g : G, (lea (arr g)).Perm (lea g)
  | .leaf i => by rw [arr]
  | .node w ps x => by
    rw [arr_node, lea, lea]
    exact (leas_perm (put_perm w _)).trans (arrs_leas ps)
theorem arrs_leas : ∀ gs : List G, (leas (arrs gs)).Perm (leas gs)
  | [] => by rw [arrs]
  | g :: gs => by rw [arrs, leas_cons, leas_cons]; exact (arr_lea g).append (arrs_leas gs)
end
mutual
theorem arr_dep : ∀ g : G, dep (arr g) = dep g
  | .leaf i => by rw [arr]
  | .node w ps x => by rw [arr_node, dep, dep, deps_perm (put_perm w _), arrs_deps ps]
theorem arrs_deps : ∀ gs : List G, deps (arrs gs) = deps gs
  | [] => by rw [arrs]
  | g :: gs => by rw [arrs, deps_cons, deps_cons, arr_dep g, arrs_deps gs]
end
theorem arrs_len (gs : List G) : (arrs gs).length = gs.length := by rw [arrs_map, List.length_map]
mutual
theorem arr_wd {b : Nat} : ∀ g : G, wd b g = true → wd b (arr g) = true
  | .leaf i, h => by rw [arr]; exact h
  | .node w ps x, h => by
    rw [wd, Bool.and_eq_true, Bool.and_eq_true, decide_eq_true_eq] at h
    rw [arr_node, wd, h.1, (put_perm w _).length_eq, arrs_len, decide_eq_true h.2.2, wds_all.mpr fun g hg => wds_all.mp (arrs_wds ps h.2.1) g ((put_perm w _).mem_iff.mp hg)]
    rfl
theorem arrs_wds {b : Nat} : ∀ gs : List G, wds b gs = true → wds b (arrs gs) = true
  | [], h => by rw [arrs]; exact h
  | g :: gs, h => by
    rw [wds_cons, Bool.and_eq_true] at h
    rw [arrs, wds_cons, arr_wd g h.1, arrs_wds gs h.2]
    rfl
end
mutual
theorem arr_form : ∀ g : G, form g = true → form (arr g) = true
  | .leaf i, h => by rw [arr]; exact h
  | .node w ps x, h => by
    rw [form] at h
    simp only [Bool.and_eq_true, decide_eq_true_eq] at h
    rw [arr_node, form, h.2.1, (put_perm w _).length_eq, arrs_len, decide_eq_true h.2.2.1, forms_all.mpr fun g hg => forms_all.mp (arrs_forms ps h.2.2.2) g ((put_perm w _).mem_iff.mp hg)]
    rfl
theorem arrs_forms : ∀ gs : List G, forms gs = true → forms (arrs gs) = true
  | [], h => by rw [arrs]; exact h
  | g :: gs, h => by
    rw [forms_cons, Bool.and_eq_true] at h
    rw [arrs, forms_cons, arr_form g h.1, arrs_forms gs h.2]
    rfl
end
end K01

set_option Elab.async false
set_option linter.all false
set_option maxRecDepth 100000
namespace K01
open Pv PySem PySem.Spec L2
open PyProof.Rows hiding St
/-! ### the normal form of a normal form, and of a tree in another sequence -/
theorem list_ht {gs : List G} (h : 2 ≤ gs.length) : ∃ a m b, gs = a :: (m ++ [b]) := by
  match gs, h with
  | a :: g :: gs, _ =>
    refine ⟨a, (g :: gs).dropLast, (g :: gs).getLast (by simp), ?_⟩
    rw [List.dropLast_concat_getLast]
theorem first_of (a : G) (m : List G) : firstL (a :: m) = Lst (lea a) := rfl
theorem last_of (m : List G) (b : G) : lastL (m ++ [b]) = Lst (lea b) := by
  unfold lastL
  rw [List.getLastD_concat]
theorem ht_ne {gs : List G} (h2 : 2 ≤ gs.length) (hn : (gs.map fun g => Lst (lea g)).Nodup) : firstL gs ≠ lastL gs := by
  obtain ⟨a, m, b, rfl⟩ := list_ht h2
  rw [first_of, ← List.cons_append, last_of]
  intro e
  rw [List.map_cons, List.nodup_cons] at hn
  exact hn.1 (by rw [e]; simp)
theorem rev_ht {gs : List G} (h2 : 2 ≤ gs.length) : firstL gs.reverse = lastL gs ∧ lastL gs.reverse = firstL gs := by
  obtain ⟨a, m, b, rfl⟩ := list_ht h2
  have e : (a :: (m ++ [b])).reverse = b :: (m.reverse ++ [a]) := by simp
  rw [e, first_of, first_of, ← List.cons_append, last_of, ← List.cons_append, last_of]
  exact ⟨rfl, rfl⟩
/-- put does not mind how its parts come -/
theorem put_any {a b : List G} (h : a.Perm b) (hn : (a.map fun g => Lst (lea g)).Nodup) : put "any" a = put "any" b := by
  unfold put
  rw [if_pos rfl, if_pos rfl, sortG_uniq h hn]
theorem put_rev {w : Str} (hw : w ≠ "any") {a : List G} (h2 : 2 ≤ a.length) (hn : (a.map fun g => Lst (lea g)).Nodup) : put w a.reverse = put w a := by
  obtain ⟨e1, e2⟩ := rev_ht h2
  have hne := ht_ne h2 hn
  unfold put
  rw [if_neg hw, if_neg hw, e1, e2]
  by_cases c : lastL a < firstL a
  · rw [if_pos c, if_neg (by omega)]
  · rw [if_neg c, if_pos (by omega), List.reverse_reverse]
theorem put_put {w : Str} {a : List G} (h2 : 2 ≤ a.length) (hn : (a.map fun g => Lst (lea g)).Nodup) : put w (put w a) = put w a := by
  by_cases hw : w = "any"
  · subst hw
    exact (put_any (put_perm "any" a).symm hn).symm
  · by_cases c : lastL a < firstL a
    · have e : put w a = a.reverse := by unfold put; rw [if_neg hw, if_pos c]
      rw [e, put_rev hw h2 hn, e]
    · have e : put w a = a := by unfold put; rw [if_neg hw, if_neg c]
      rw [e, e]
theorem keys_arrs : ∀ gs : List G, ((arrs gs).map fun g => Lst (lea g)) = gs.map fun g => Lst (lea g)
  | [] => by rw [arrs]
  | g :: gs => by rw [arrs, List.map_cons, List.map_cons, lst_perm (arr_lea g), keys_arrs gs]
theorem all_ne {gs : List G} (h : forms gs = true) : ∀ g ∈ gs, lea g ≠ [] := fun g hg => lea_ne g (forms_all.mp h g hg)
theorem least_2 (w : Str) : 2 ≤ least w := by unfold least; split <;> omega
mutual
theorem arr_arr : ∀ g : G, form g = true → (lea g).Nodup → arr (arr g) = arr g
  | .leaf i, _, _ => by rw [arr, arr]
  | .node w ps x, h, hn => by
    rw [form] at h
    simp only [Bool.and_eq_true, decide_eq_true_eq] at h
    rw [lea] at hn
    have h2 : 2 ≤ (arrs ps).length := by have := least_2 w; rw [arrs_len]; omega
    have hk : ((arrs ps).map fun g => Lst (lea g)).Nodup := by rw [keys_arrs]; exact nodup_leas hn (all_ne h.2.2.2)
    have ih : (put w (arrs ps)).map arr = put w (arrs ps) := by
      have : ∀ g ∈ put w (arrs ps), arr g = g := fun g hg => by
        have hg' := (put_perm w _).mem_iff.mp hg
        rw [arrs_map] at hg'
        obtain ⟨q, hq, rfl⟩ := List.mem_map.mp hg'
        exact arrs_arrs ps h.2.2.2 hn q hq
      rw [List.map_congr_left this, List.map_id']
    rw [arr_node, arr_node, arrs_map (put w (arrs ps)), ih, put_put h2 hk]
theorem arrs_arrs : ∀ gs : List G, forms gs = true → (leas gs).Nodup → ∀ q ∈ gs, arr (arr q) = arr q
  | [], _, _, q, hq => by cases hq
  | g :: gs, h, hn, q, hq => by
    rw [forms_cons, Bool.and_eq_true] at h
    rw [leas_cons, List.nodup_append] at hn
    rcases List.mem_cons.mp hq with e | hq
    · rw [e]; exact arr_arr g h.1 hn.1
    · exact arrs_arrs gs h.2 hn.2.1 q hq
end
/-- a tree with its parts in another sequence -/
structure Sh (g q : G) : Prop where
  f : form q = true
  l : (lea q).Perm (lea g)
  d : dep q = dep g
  w : wd 24 q = true
  a : arr q = arr g
def Shs : List G → List G → Prop
  | [], [] => True
  | g :: gs, q :: qs => Sh g q ∧ Shs gs qs
  | _, _ => False
theorem shs_facts : ∀ {gs qs : List G}, Shs gs qs → forms qs = true ∧ (leas qs).Perm (leas gs) ∧ deps qs = deps gs ∧ wds 24 qs = true ∧ arrs qs = arrs gs ∧ qs.length = gs.length
  | [], [], _ => by simp [forms, leas, deps, wds, arrs]
  | g :: gs, q :: qs, h => by
    obtain ⟨a, b⟩ := h
    obtain ⟨h1, h2, h3, h4, h5, h6⟩ := shs_facts b
    rw [forms_cons, leas_cons, leas_cons, deps_cons, deps_cons, wds_cons, arrs, arrs, a.f, h1, a.d, h3, a.w, h4, a.a, h5, List.length_cons, List.length_cons, h6]
    exact ⟨rfl, a.l.append h2, rfl, rfl, rfl, rfl⟩
  | [], q :: qs, h => h.elim
  | g :: gs, [], h => h.elim
theorem shs_snoc : ∀ {gs qs : List G} {g q : G}, Shs gs qs → Sh g q → Shs (gs ++ [g]) (qs ++ [q])
  | [], [], g, q, _, h => ⟨h, trivial⟩
  | a :: gs, b :: qs, g, q, h, h' => ⟨h.1, shs_snoc h.2 h'⟩
  | [], b :: qs, _, _, h, _ => h.elim
  | a :: gs, [], _, _, h, _ => h.elim
/-- the parts of an any in any sequence, those of a row in this one or in reverse -/
theorem sh_node {w : Str} {ps qs rs : List G} (hf : form (.node w ps false) = true) (hw : wd 24 (.node w ps false) = true) (hn : (leas ps).Nodup) (h : Shs ps qs) (hr : rs.Perm qs) (ho : w = "any" ∨ rs = qs ∨ rs = qs.reverse) : Sh (.node w ps false) (.node w rs false) := by
  obtain ⟨h1, h2, h3, h4, h5, h6⟩ := shs_facts h
  rw [form] at hf
  simp only [Bool.and_eq_true, decide_eq_true_eq] at hf
  rw [wd, Bool.and_eq_true, Bool.and_eq_true, decide_eq_true_eq] at hw
  have hl2 := least_2 w
  have hk : ((arrs qs).map fun g => Lst (lea g)).Nodup := by rw [h5, keys_arrs]; exact nodup_leas hn (all_ne hf.2.2.2)
  refine ⟨?_, ?_, ?_, ?_, ?_⟩
  · rw [form, hf.2.1, hr.length_eq, h6, decide_eq_true hf.2.2.1, forms_all.mpr fun g hg => forms_all.mp h1 g (hr.mem_iff.mp hg)]
    rfl
  · rw [lea, lea]; exact (leas_perm hr).trans h2
  · rw [dep, dep, deps_perm hr, h3]
  · rw [wd, hw.1, hr.length_eq, h6, decide_eq_true hw.2.2, wds_all.mpr fun g hg => wds_all.mp h4 g (hr.mem_iff.mp hg)]
    rfl
  · rw [arr_node, arr_node, ← h5]
    congr 1
    have hA : (arrs rs).Perm (arrs qs) := by rw [arrs_map, arrs_map]; exact hr.map _
    by_cases hw : w = "any"
    · subst hw
      exact (put_any hA.symm hk).symm
    · rcases ho with ho | ho | ho
      · exact absurd ho hw
      · rw [ho]
      · have e : arrs rs = (arrs qs).reverse := by rw [ho, arrs_map, arrs_map, List.map_reverse]
        rw [e, put_rev hw (by rw [arrs_len, h6]; omega) hk]
end K01

set_option Elab.async false
set_option linter.all false
set_option maxRecDepth 100000
namespace K01
open Pv PySem PySem.Spec L2
open PyProof.Rows hiding St
/-! ### comprehensions over parts -/
theorem compr_encI {v : Nat} {me : M RV} {g : G → Int} {fr : Bool} {ev : SL} (h : ev[v]? = some .no) : ∀ (gs : List G) (acc : List PV), (∀ q ∈ gs, me (ev.set v (.val (enc q))) = .ok (.int (g q), fr) (ev.set v (.val (enc q)))) → acc.length + gs.length ≤ SZ → compr (tName v) (Pv.ret true) me [v] acc (encs gs) ev = .ok (acc ++ (gs.map g).map .int) ev
  | [], acc, _, _ => by rw [encs_nil, compr]; simp
  | q :: gs, acc, hm, hz => by
    rw [List.length_cons] at hz
    have h1 := turn_map h (hm q (by simp))
    rw [encs_cons, compr]
    simp only [h1]
    rw [if_pos (by omega), wipe_one h, compr_encI (g := g) h gs (acc ++ [PV.int (g q)]) (fun p hp => hm p (by simp [hp])) (by rw [List.length_append, List.length_singleton]; omega)]
    simp
theorem compr_encG {v : Nat} {me : M RV} {g : G → G} {ev : SL} (h : ev[v]? = some .no) : ∀ (gs : List G) (acc : List PV), (∀ q ∈ gs, me (ev.set v (.val (enc q))) = .ok (enc (g q), false) (ev.set v (.val (enc q)))) → acc.length + gs.length ≤ SZ → compr (tName v) (Pv.ret true) me [v] acc (encs gs) ev = .ok (acc ++ encs (gs.map g)) ev
  | [], acc, _, _ => by rw [encs_nil, compr, List.map_nil, encs_nil, List.append_nil]; rfl
  | q :: gs, acc, hm, hz => by
    rw [List.length_cons] at hz
    have h1 := turn_map h (hm q (by simp))
    rw [encs_cons, compr]
    simp only [h1]
    rw [if_pos (by omega), wipe_one h, compr_encG (g := g) h gs (acc ++ [enc (g q)]) (fun p hp => hm p (by simp [hp])) (by rw [List.length_append, List.length_singleton]; omega), List.map_cons, encs_cons, List.append_assoc]
    rfl
theorem enc_ne (g : G) : ∀ ps, enc g ≠ .lst ps := by
  intro ps
  cases g <;> (unfold enc; exact fun z => nomatch z)
theorem enc_two (w : Str) (ps : List G) : enc (.node w ps false) = .tup [.str w, .tup (encs ps)] := by unfold enc; rfl
theorem form_node {w : Str} {ps : List G} {x : Bool} (h : form (.node w ps x) = true) : x = false ∧ wordOk w = true ∧ least w ≤ ps.length ∧ forms ps = true := by
  rw [form] at h
  simp only [Bool.and_eq_true, decide_eq_true_eq, Bool.not_eq_true'] at h
  exact h
/-! ### least_thing -/
/-! ### arranged -/
theorem insK_map {α β : Type} (f : α → β) (z : Int × α) : ∀ l : List (Int × α), insK (z.1, f z.2) (l.map fun y => (y.1, f y.2)) = (insK z l).map fun y => (y.1, f y.2)
  | [] => rfl
  | y :: l => by
    unfold insK
    rw [List.map_cons]
    dsimp only
    split
    · rfl
    · rw [List.map_cons, insK_map f z l]
theorem sortK_map {α β : Type} (f : α → β) : ∀ l : List (Int × α), sortK (l.map fun y => (y.1, f y.2)) = (sortK l).map fun y => (y.1, f y.2)
  | [] => rfl
  | z :: l => by rw [List.map_cons, sortK, sortK, sortK_map f l, insK_map]
theorem sort_encs (gs : List G) : (sortK ((gs.map fun g => Lst (lea g)).zip (encs gs))).map (·.2) = encs (sortG gs) := by
  have e : ((gs.map fun g => Lst (lea g)).zip (encs gs)) = (gs.map keyG).map fun y => (y.1, enc y.2) := by
    rw [encs_map, List.map_map]
    induction gs with
    | nil => rfl
    | cons g gs ih => rw [List.map_cons, List.map_cons, List.zip_cons_cons, ih]; rfl
  rw [e, sortK_map, List.map_map, encs_map]
  unfold sortG
  rw [List.map_map]
  rfl
theorem nd_mem : ∀ {ps : List G}, (leas ps).Nodup → ∀ g ∈ ps, (lea g).Nodup
  | [], _, g, hg => by cases hg
  | q :: qs, hn, g, hg => by
    rw [leas_cons, List.nodup_append] at hn
    rcases List.mem_cons.mp hg with e | hg
    · rw [e]; exact hn.1
    · exact nd_mem hn.2.1 g hg
theorem at_last (ps : List PV) (p : PV) : atI (ps ++ [p]) (-1) = some p := atI_last ps p
end K01

set_option Elab.async false
set_option linter.all false
set_option maxRecDepth 100000
namespace K01
open Pv PySem PySem.Spec L2
open PyProof.Rows hiding St
/-! ### normal -/
/-! ### _law_shuffled -/
theorem insert_2 {ps : List PV} {i : Int} {p : PV} : gInsert ps [.int i, p] = if ps.length < SZ ∧ 0 ≤ i ∧ i < 2 ^ 63 then some (ps.take i.toNat ++ [p] ++ ps.drop i.toNat) else none := rfl
def shB (r_ : Fn) : M Fl := sq (bnd (eFn r_ (aCons (eVar 4) (aCons (eOp gAdd (look (eOp aDiv (pVar 3) (look (eC (.int 3))))) (look (eC (.int 5)))) (Pv.ret [])))) (setR 5)) (sq (mIfS (blOf (eOp (gEq false) (look (eOp gIx (pVar 0) (look (eC (.int 0))))) (look (eC (.str "any"))))) (sq (mMet 2 (aCons (eOp aMod (look (eCall gInt (kCons (pVar 3) (Pv.ret [])))) (look (eOp gAdd (look (eCall gLen (kCons (pVar 2) (Pv.ret [])))) (look (eC (.int 1)))))) (aCons (eVar 5) (Pv.ret []))) gInsert) (Pv.ret .nx)) (sq (mMet 2 (aCons (eVar 5) (Pv.ret [])) gAppend) (Pv.ret .nx))) (sq (bnd (eOp gAdd (look (eOp aDiv (pVar 3) (look (eC (.int 7))))) (look (eC (.int 99)))) (setR 3)) (Pv.ret .nx)))
def shS (w : Str) (A : List PV) (c : Int) (Q : List G) (r : Int) (s4 s5 : Pv.Slot) : SL := [.val (.tup [.str w, .tup A]), .val (.int c), .own (encs Q), .val (.int r), s4, s5]
theorem sh_step {r_ : Fn} {w : Str} {A : List PV} {c r : Int} {Q : List G} {g q : G} {s5 : Pv.Slot} (hr : ∀ c, ∃ q, r_ [enc g, .int c] = .ok (enc q, false) ∧ Sh g q) (hQ : Q.length ≤ 100) :
    ∃ (q : G) (Q' : List G) (r' : Int) (s5' : Pv.Slot), shB r_ (shS w A c Q r (.val (enc g)) s5) = .ok .nx (shS w A c Q' r' (.val (enc g)) s5') ∧ Sh g q ∧ Q'.Perm (Q ++ [q]) ∧ (w = "any" ∨ Q' = Q ++ [q]) := by
  obtain ⟨q, eq, hS⟩ := hr (r / 3 + 5)
  have hl : (encs Q).length = Q.length := encs_len Q
  have hz : (encs Q).length < 16777216 := by omega
  by_cases hw : w = "any"
  · have p1 : (0 : Int) < ((encs Q).length : Int) + 1 := by omega
    have h1 := Int.emod_nonneg r (show ((encs Q).length : Int) + 1 ≠ 0 by omega)
    have h2 := Int.emod_lt_of_pos r p1
    obtain ⟨k, hk⟩ : ∃ k : Nat, r % (((encs Q).length : Int) + 1) = (k : Int) := ⟨(r % (((encs Q).length : Int) + 1)).toNat, by omega⟩
    have hkQ : k ≤ Q.length := by omega
    have ei : gInsert (encs Q) [.int (k : Int), enc q] = some (encs (Q.take k ++ [q] ++ Q.drop k)) := by
      rw [insert_2, if_pos ⟨by rw [SZ]; exact hz, by omega, by omega⟩, Int.toNat_natCast, encs_app, encs_app, encs_cons, encs_nil, encs_map (Q.take k), encs_map (Q.drop k), List.map_take, List.map_drop, encs_map]
    refine ⟨q, Q.take k ++ [q] ++ Q.drop k, r / 7 + 99, .val (enc q), ?_, hS, ?_, .inl hw⟩
    · unfold shB shS
      generalize encs (Q.take k ++ [q] ++ Q.drop k) = E1 at *
      generalize enc q = T1 at *
      generalize enc g = T at *
      generalize encs Q = EQ at *
      simp [eq, at0, hw, p1, hk, ei]
    · have : (Q.take k ++ [q] ++ Q.drop k).Perm (Q.take k ++ Q.drop k ++ [q]) := by
        rw [List.append_assoc, List.append_assoc]
        exact List.perm_append_comm.append_left _
      rw [List.take_append_drop] at this
      exact this
  · refine ⟨q, Q ++ [q], r / 7 + 99, .val (enc q), ?_, hS, .refl _, .inr rfl⟩
    unfold shB shS
    have ea : encs (Q ++ [q]) = encs Q ++ [enc q] := by rw [encs_app, encs_cons, encs_nil]
    rw [ea]
    generalize enc q = T1 at *
    generalize enc g = T at *
    generalize encs Q = EQ at *
    simp [eq, at0, hw, hz]
theorem sh_loop {r_ : Fn} {w : Str} {A : List PV} {c : Int} : ∀ (gs ds qs Q : List G) (r : Int) (s4 s5 : Pv.Slot), (∀ g ∈ gs, ∀ c, ∃ q, r_ [enc g, .int c] = .ok (enc q, false) ∧ Sh g q) → Q.length + gs.length ≤ 100 → Shs ds qs → Q.Perm qs → (w = "any" ∨ Q = qs) →
    ∃ (Q' qs' : List G) (r' : Int) (s4' s5' : Pv.Slot), loop (tName 4) (shB r_) (encs gs) (shS w A c Q r s4 s5) = .ok .nx (shS w A c Q' r' s4' s5') ∧ Shs (ds ++ gs) qs' ∧ Q'.Perm qs' ∧ (w = "any" ∨ Q' = qs')
  | [], ds, qs, Q, r, s4, s5, _, _, h1, h2, h3 => ⟨Q, qs, r, s4, s5, by rw [encs_nil]; rfl, by rw [List.append_nil]; exact h1, h2, h3⟩
  | g :: gs, ds, qs, Q, r, s4, s5, hr, hz, h1, h2, h3 => by
    rw [List.length_cons] at hz
    obtain ⟨q, Q1, r1, s51, e1, hS, hP, hO⟩ := sh_step (r_ := r_) (w := w) (A := A) (c := c) (r := r) (Q := Q) (g := g) (q := g) (s5 := s5) (hr g (by simp)) (by omega)
    have hl : Q1.length = Q.length + 1 := by rw [hP.length_eq, List.length_append, List.length_singleton]
    obtain ⟨Q', qs', r', s4', s5', e2, k1, k2, k3⟩ := sh_loop (r_ := r_) (w := w) (A := A) (c := c) gs (ds ++ [g]) (qs ++ [q]) Q1 r1 (.val (enc g)) s51 (fun p hp => hr p (by simp [hp])) (by omega) (shs_snoc h1 hS) (hP.trans (h2.append_right _)) (by
      rcases h3 with h | h
      · exact .inl h
      · rcases hO with h' | h'
        · exact .inl h'
        · exact .inr (by rw [h', h]))
    refine ⟨Q', qs', r', s4', s5', ?_, by rw [List.append_assoc] at k1; exact k1, k2, k3⟩
    rw [encs_cons, loop]
    have et : tName 4 (enc g) (shS w A c Q r s4 s5) = some (shS w A c Q r (.val (enc g)) s5) := rfl
    simp only [et, e1, e2]
end K01

set_option linter.all false
/-! Starts in a line and around a ring. -/
namespace Ring
def one (b : Bool) : Nat := if b then 1 else 0
/-- how many stretches of true begin in the list, behind p -/
def ls : Bool → List Bool → Nat
  | _, [] => 0
  | p, x :: r => one (x && !p) + ls x r
def lastOr : Bool → List Bool → Bool
  | p, [] => p
  | _, x :: r => lastOr x r
theorem ls_app : ∀ (p : Bool) (a c : List Bool), ls p (a ++ c) = ls p a + ls (lastOr p a) c
  | p, [], c => by simp [ls, lastOr]
  | p, x :: a, c => by rw [List.cons_append, ls, ls, lastOr, ls_app x a c, Nat.add_assoc]
theorem turns : ∀ (p : Bool) (b : List Bool), ls p b + one p = ls (!p) (b.map not) + one (lastOr p b)
  | p, [] => by simp [ls, lastOr]
  | p, x :: r => by
    have := turns x r
    rw [List.map_cons, ls, ls, lastOr]
    cases x <;> cases p <;> simp [one] at this ⊢ <;> omega
theorem ls_le (b : List Bool) : ls true b ≤ ls false b ∧ ls false b ≤ ls true b + 1 := by
  cases b with
  | nil => simp [ls]
  | cons x r => cases x <;> simp [ls, one] <;> omega
theorem lastOr_any {p q : Bool} {b : List Bool} (h : b ≠ []) : lastOr p b = lastOr q b := by
  cases b with
  | nil => exact absurd rfl h
  | cons x r => rfl
/-- a stretch of true or of false in the line: at most one start around -/
theorem ring_iff {b : List Bool} (h : b ≠ []) : (ls false b ≤ 1 ∨ ls false (b.map not) ≤ 1) ↔ ls (lastOr false b) b ≤ 1 := by
  have t2 := turns true b
  have e := lastOr_any (p := true) (q := false) h
  have l := ls_le b
  simp only [Bool.not_true, one, if_true] at t2
  rw [e] at t2
  cases c : lastOr false b with
  | true =>
    rw [c] at t2
    simp only [if_true] at t2
    omega
  | false =>
    rw [c] at t2
    simp only [Bool.false_eq_true, if_false] at t2
    omega
/-- the places at which something begins -/
theorem starts_eq : ∀ (b : List Bool) (p : Bool), ((List.range b.length).filter fun k => b.getD k false && !(if k = 0 then p else b.getD (k - 1) false)).length = ls p b
  | [], p => rfl
  | x :: r, p => by
    have ih := starts_eq r x
    rw [List.length_cons, List.range_succ_eq_map, List.filter_cons, ls, ← ih]
    have e : (List.filter (fun k => (x :: r).getD k false && !(if k = 0 then p else (x :: r).getD (k - 1) false)) (List.map Nat.succ (List.range r.length))).length = (List.filter (fun k => r.getD k false && !(if k = 0 then x else r.getD (k - 1) false)) (List.range r.length)).length := by
      rw [List.filter_map, List.length_map]
      congr 1
      refine List.filter_congr fun k hk => ?_
      simp only [Function.comp]
      cases k with
      | zero => simp
      | succ k => simp
    by_cases c : ((x :: r).getD 0 false && !(if 0 = 0 then p else (x :: r).getD (0 - 1) false)) = true
    · rw [if_pos c, List.length_cons, e]
      have : (x && !p) = true := by simpa using c
      rw [this, one, if_pos rfl]
      omega
    · rw [if_neg c, e]
      have : (x && !p) = false := by simpa using c
      rw [this, one, if_neg (by simp)]
      omega
theorem ls_zero : ∀ {c : List Bool}, ls false c = 0 → ∀ x ∈ c, x = false
  | [], _ => by simp
  | true :: r, h => by simp [ls, one] at h
  | false :: r, h => by
    have h2 : ls false r = 0 := by simpa [ls, one] using h
    intro x hx
    rcases List.mem_cons.mp hx with rfl | hx
    · rfl
    · exact ls_zero h2 x hx
theorem ls_false : ∀ (p : Bool) {c : List Bool}, (∀ x ∈ c, x = false) → ls p c = 0
  | _, [], _ => rfl
  | p, x :: r, h => by
    have hx := h x (by simp)
    subst hx
    rw [ls, ls_false false fun y hy => h y (by simp [hy])]
    simp [one]
theorem ls_true : ∀ {c : List Bool}, (∀ x ∈ c, x = true) → ls true c = 0
  | [], _ => rfl
  | x :: r, h => by
    have hx := h x (by simp)
    subst hx
    rw [ls, ls_true fun y hy => h y (by simp [hy])]
    simp [one]
/-- from a true to a true: one start exactly if all are true -/
theorem full_iff {r : List Bool} (h : lastOr true r = true) : ls false (true :: r) ≤ 1 ↔ ∀ x ∈ true :: r, x = true := by
  have t := turns true r
  rw [h] at t
  simp only [Bool.not_true, one, if_true] at t
  have e : ls false (true :: r) = 1 + ls true r := by simp [ls, one]
  rw [e]
  constructor
  · intro q
    have z : ls false (r.map not) = 0 := by omega
    intro x hx
    rcases List.mem_cons.mp hx with rfl | hx
    · rfl
    · have := ls_zero z (!x) (List.mem_map.mpr ⟨x, hx, rfl⟩)
      cases x <;> simp at this ⊢
  · intro q
    have := ls_true (c := r) fun x hx => q x (by simp [hx])
    omega
/-- falses around change nothing -/
theorem ls_mid {a s c : List Bool} (ha : ∀ x ∈ a, x = false) (hc : ∀ x ∈ c, x = false) : ls false (a ++ s ++ c) = ls false s := by
  have l0 : ∀ {a : List Bool}, (∀ x ∈ a, x = false) → lastOr false a = false := by
    intro a
    induction a with
    | nil => intro _; rfl
    | cons x r ih =>
      intro h
      have hx := h x (by simp)
      subst hx
      rw [lastOr]
      exact ih fun y hy => h y (by simp [hy])
  rw [List.append_assoc, ls_app, ls_false false ha, l0 ha, Nat.zero_add, ls_app, ls_false _ hc, Nat.add_zero]
/-- the count of true -/
theorem count_all : ∀ (s : List Bool), (s.filter id).length = s.length ↔ ∀ x ∈ s, x = true
  | [] => by simp
  | true :: r => by simp [count_all r]
  | false :: r => by
    have := List.length_filter_le id r
    simp
    omega
theorem lastOr_end : ∀ (p : Bool) (a : List Bool) (x : Bool), lastOr p (a ++ [x]) = x
  | _, [], _ => rfl
  | _, y :: a, x => by rw [List.cons_append, lastOr, lastOr_end y a x]
theorem idx_at : ∀ {o : List Int} {i : Nat}, o.Nodup → (h : i < o.length) → o.idxOf o[i] = i
  | x :: o, 0, _, _ => by simp
  | x :: o, i + 1, n, h => by
    have n2 := List.nodup_cons.mp n
    have hi : i < o.length := by simpa using h
    have ne : x ≠ o[i] := fun z => n2.1 (z ▸ List.getElem_mem hi)
    have ih := idx_at n2.2 hi
    simp only [List.getElem_cons_succ]
    rw [List.idxOf_cons]
    have : (x == o[i]) = false := by simpa using ne
    rw [this, ih]
    rfl
/-- the stretch from the first to the last place is as long as the set exactly if one stretch begins -/
theorem tog_iff {o l : List Int} (no : o.Nodup) (nl : l.Nodup) (sub : ∀ t ∈ l, t ∈ o) {f e : Nat} (hfe : f ≤ e) (he : e < o.length) (hf : o[f]'(by omega) ∈ l) (hE : o[e] ∈ l) (hall : ∀ t ∈ l, f ≤ o.idxOf t ∧ o.idxOf t ≤ e) :
    ((o.drop f).take (e + 1 - f)).length = l.length ↔ ls false (o.map fun t => decide (t ∈ l)) ≤ 1 := by
  have dec : o = o.take f ++ (o.drop f).take (e + 1 - f) ++ o.drop (e + 1) := by
    have h1 : o.drop (e + 1) = (o.drop f).drop (e + 1 - f) := by rw [List.drop_drop]; congr 1; omega
    rw [h1, List.append_assoc, List.take_append_drop, List.take_append_drop]
  have nA : ∀ t ∈ o.take f, t ∉ l := fun t ht hl => by
    obtain ⟨i, hi, rfl⟩ := List.mem_iff_getElem.mp ht
    rw [List.length_take] at hi
    have := (hall _ hl).1
    rw [List.getElem_take, idx_at no (by omega)] at this
    omega
  have nC : ∀ t ∈ o.drop (e + 1), t ∉ l := fun t ht hl => by
    obtain ⟨i, hi, rfl⟩ := List.mem_iff_getElem.mp ht
    rw [List.length_drop] at hi
    have := (hall _ hl).2
    rw [List.getElem_drop, idx_at no (by omega)] at this
    omega
  have nS : ∀ t ∈ l, t ∈ (o.drop f).take (e + 1 - f) := fun t ht => by
    have h := sub t ht
    rw [dec] at h
    rcases List.mem_append.mp h with h | h
    · rcases List.mem_append.mp h with h | h
      · exact absurd ht (nA t h)
      · exact h
    · exact absurd ht (nC t h)
  have S1 : (o.drop f).take (e + 1 - f) = o[f]'(by omega) :: (o.drop (f + 1)).take (e - f) := by
    rw [List.drop_eq_getElem_cons (by omega : f < o.length), show e + 1 - f = (e - f) + 1 by omega, List.take_succ_cons]
  have S2 : (o.drop f).take (e + 1 - f) = (o.drop f).take (e - f) ++ [o[e]] := by
    rw [show e + 1 - f = (e - f) + 1 by omega, List.take_succ, List.getElem?_drop, show f + (e - f) = e by omega, List.getElem?_eq_getElem he]
    rfl
  have nodS : ((o.drop f).take (e + 1 - f)).Nodup := by
    have := no
    rw [dec] at this
    exact (List.nodup_append.mp (List.nodup_append.mp this).1).2.1
  have cnt : (((o.drop f).take (e + 1 - f)).filter fun t => decide (t ∈ l)).length = l.length := by
    refine List.Perm.length_eq ((List.perm_ext_iff_of_nodup (nodS.sublist List.filter_sublist) nl).mpr fun t => ?_)
    rw [List.mem_filter, decide_eq_true_eq]
    exact ⟨fun h => h.2, fun h => ⟨nS t h, h⟩⟩
  generalize (o.drop f).take (e + 1 - f) = S at *
  have bS : (S.map fun t => decide (t ∈ l)) = true :: ((o.drop (f + 1)).take (e - f)).map fun t => decide (t ∈ l) := by
    rw [S1, List.map_cons, decide_eq_true hf]
  have lst : lastOr true (((o.drop (f + 1)).take (e - f)).map fun t => decide (t ∈ l)) = true := by
    have h1 : lastOr false (S.map fun t => decide (t ∈ l)) = true := by
      rw [S2, List.map_append, List.map_cons, List.map_nil, lastOr_end, decide_eq_true hE]
    rw [bS, lastOr] at h1
    exact h1
  have key : ls false (o.map fun t => decide (t ∈ l)) = ls false (S.map fun t => decide (t ∈ l)) := by
    have h := congrArg (List.map fun t => decide (t ∈ l)) dec
    rw [List.map_append, List.map_append] at h
    rw [h]
    refine ls_mid (fun x hx => ?_) (fun x hx => ?_)
    · obtain ⟨t, ht, rfl⟩ := List.mem_map.mp hx
      exact decide_eq_false (nA t ht)
    · obtain ⟨t, ht, rfl⟩ := List.mem_map.mp hx
      exact decide_eq_false (nC t ht)
  rw [key, bS, full_iff lst, ← bS, ← count_all, List.filter_map, List.length_map, List.length_map, ← cnt]
  show S.length = (S.filter fun t => decide (t ∈ l)).length ↔ (S.filter fun t => decide (t ∈ l)).length = S.length
  exact eq_comm
end Ring

set_option Elab.async false
set_option linter.all false
set_option maxRecDepth 100000
namespace K01
open Pv PySem PySem.Spec L2
open PyProof.Rows hiding St
/-! ### sets and orders -/
theorem okR_mid {z : Int} (h : -5 ≤ z) (h2 : z ≤ 100) : okR z = true := by
  unfold okR
  simp only [decide_eq_true_eq]
  omega
def isSet (n : Int) (l : List Int) : Bool := decide (1 ≤ n ∧ n ≤ 24) && decide (l = (Pv.upTo 0 n.toNat).filter fun i => decide (i ∈ l))
def isOrder (n : Int) (l : List Int) : Bool := decide (1 ≤ n ∧ n ≤ 24) && decide (isort l = Pv.upTo 0 n.toNat)
theorem set_ok (n : Int) (l : List Int) : fn_check_set [.int n, .tup (l.map .int)] = if isSet n l then .ok (.tup (l.map .int), false) else .exc "InvalidTable" := by
  have e0 := num_ok n
  unfold isSet fn_check_set st_check_set
  by_cases c : 1 ≤ n ∧ n ≤ 24
  · have hr := okR_mid (z := n) (by omega) (by omega)
    have hc : compr (tName 2) (blOf (eOp (gIn false) (pVar 2) (pVar 1))) (eVar 2) [2] [] (rgP 0 n.toNat) [.val (.int n), .val (.tup (l.map .int)), .no] = .ok (((Pv.upTo 0 n.toNat).filter fun i => decide (i ∈ l)).map .int) [.val (.int n), .val (.tup (l.map .int)), .no] := by
      rw [rgP_eq]
      exact compr_int _ _ rfl (fun i _ => by simp [gIn_tup]) (by rw [upTo_len, SZ]; omega)
    have h2 : mComp (mRng1 (kCons (pVar 0) (Pv.ret []))) (tName 2) (blOf (eOp (gIn false) (pVar 2) (pVar 1))) (eVar 2) [2] [.val (.int n), .val (.tup (l.map .int)), .no] = .ok (.lst (((Pv.upTo 0 n.toNat).filter fun i => decide (i ∈ l)).map .int), true) [.val (.int n), .val (.tup (l.map .int)), .no] :=
      comp_ok (rng1_ok (ev' := [.val (.int n), .val (.tup (l.map .int)), .no]) (by simp) hr) hc
    by_cases q : l = (Pv.upTo 0 n.toNat).filter fun i => decide (i ∈ l)
    · rw [if_pos (by rw [decide_eq_true c, decide_eq_true q]; rfl)]
      have e := gEq_lstI true l ((Pv.upTo 0 n.toNat).filter fun i => decide (i ∈ l))
      rw [decide_eq_true q] at e
      simp [-mComp_ap, e0, c, h2, e]
    · rw [if_neg (by rw [decide_eq_true c, decide_eq_false q]; simp)]
      have e := gEq_lstI true l ((Pv.upTo 0 n.toNat).filter fun i => decide (i ∈ l))
      rw [decide_eq_false q] at e
      simp [-mComp_ap, e0, c, h2, e]
  · rw [if_neg (by rw [decide_eq_false c]; simp)]
    simp [e0, c]
theorem order_is (n : Int) (l : List Int) : fn_check_order [.int n, .tup (l.map .int)] = if isOrder n l then .ok (.tup (l.map .int), false) else .exc "InvalidOrder" := by
  have e0 := num_ok n
  unfold isOrder fn_check_order st_check_order
  by_cases c : 1 ≤ n ∧ n ≤ 24
  · have e1 : okRg (0, n) = true := by
      unfold okRg okR
      simp only [Bool.and_eq_true, decide_eq_true_eq]
      have : SZ = 16777216 := rfl
      omega
    have e := gEq_lstI true (isort l) (Pv.upTo 0 n.toNat)
    by_cases q : isort l = Pv.upTo 0 n.toNat
    · rw [if_pos (by rw [decide_eq_true c, decide_eq_true q]; rfl)]
      rw [decide_eq_true q] at e
      simp [e0, c, e1, rgP_eq, e]
    · rw [if_neg (by rw [decide_eq_true c, decide_eq_false q]; simp)]
      rw [decide_eq_false q] at e
      simp [e0, c, e1, rgP_eq, e]
  · rw [if_neg (by rw [decide_eq_false c]; simp)]
    simp [e0, c]
theorem compr_mapI {v : Nat} {me : M RV} {g : Int → Int} {fr : Bool} (l : List Int) (ev : SL) (h : ev[v]? = some .no) (hm : ∀ i ∈ l, me (ev.set v (.val (.int i))) = .ok (.int (g i), fr) (ev.set v (.val (.int i)))) (hz : l.length ≤ SZ) : compr (tName v) (Pv.ret true) me [v] [] (l.map .int) ev = .ok ((l.map g).map .int) ev := by
  have fm : ∀ l : List Int, (l.map PV.int).filterMap (fun p => match p with
    | .int i => some (PV.int (g i))
    | _ => none) = (l.map g).map .int := by
    intro l
    induction l with
    | nil => rfl
    | cons i l ih => rw [List.map_cons, List.filterMap_cons, ih]; rfl
  rw [compr_fm (f := fun p => match p with
    | .int i => some (PV.int (g i))
    | _ => none) (l.map .int) [] ev h (fun p hp => by
      obtain ⟨i, hi, rfl⟩ := List.mem_map.mp hp
      exact turn_map h (hm i hi)) (by rw [List.length_nil, List.length_map]; omega), List.nil_append, fm]
/-! ### where a set stands in an order -/
def places (o l : List Int) : List Int := l.map fun t => ((o.idxOf t : Nat) : Int)
theorem set_mem {n : Int} {l : List Int} (h : isSet n l = true) {t : Int} (ht : t ∈ l) : t ∈ Pv.upTo 0 n.toNat := by
  unfold isSet at h
  simp only [Bool.and_eq_true, decide_eq_true_eq] at h
  rw [h.2] at ht
  exact (List.mem_filter.mp ht).1
theorem order_perm {n : Int} {l : List Int} (h : isOrder n l = true) : l.Perm (Pv.upTo 0 n.toNat) := by
  unfold isOrder at h
  simp only [Bool.and_eq_true, decide_eq_true_eq] at h
  rw [← h.2]
  exact (isort_perm l).symm
theorem set_len {n : Int} {l : List Int} (h : isSet n l = true) : l.length ≤ 24 := by
  have h' := h
  unfold isSet at h'
  simp only [Bool.and_eq_true, decide_eq_true_eq] at h'
  have := List.length_filter_le (fun i => decide (i ∈ l)) (Pv.upTo 0 n.toNat)
  rw [← h'.2, upTo_len] at this
  omega
theorem gMin_l (p : Int) (ps : List Int) : gMin [.lst ((p :: ps).map .int)] = some (.int (lmin p ps), false) := by
  show (match intsP ((p :: ps).map .int) with
    | some (m :: r) => vI (lmin m r)
    | _ => none) = _
  rw [intsP_map]
  rfl
theorem gMax_l (p : Int) (ps : List Int) : gMax [.lst ((p :: ps).map .int)] = some (.int (lmax p ps), false) := by
  show (match intsP ((p :: ps).map .int) with
    | some (m :: r) => vI (lmax m r)
    | _ => none) = _
  rw [intsP_map]
  rfl
def stretchV : List Int → PV
  | [] => .non
  | p :: ps => .tup [.int (lmin p ps), .int (lmax p ps)]
theorem cut_map (xs : List Int) (lo hi : Option Int) : cutP (xs.map PV.int) lo hi = (cutP xs lo hi).map .int := by
  unfold cutP
  rw [List.length_map, ← List.map_drop, ← List.map_take]
def spanL (o : List Int) : List Int → List Int
  | [] => []
  | p :: ps => isort (cutP o (some (lmin p ps)) (some (lmax p ps + 1)))
theorem isort_len (l : List Int) : (isort l).length = l.length := (isort_perm l).length_eq
def tog (o l : List Int) : Bool := decide ((spanL o (places o l)).length = l.length)
theorem upTo_pair (n : Nat) : (Pv.upTo 0 n).Pairwise (· < ·) := by
  unfold Pv.upTo
  rw [List.pairwise_map]
  refine List.Pairwise.imp ?_ List.pairwise_lt_range
  intro a b h
  omega
theorem upTo_nodup (n : Nat) : (Pv.upTo 0 n).Nodup := (upTo_pair n).imp fun h => by omega
theorem set_nodup {n : Int} {l : List Int} (h : isSet n l = true) : l.Nodup := by
  unfold isSet at h
  simp only [Bool.and_eq_true, decide_eq_true_eq] at h
  rw [h.2]
  exact (upTo_nodup _).sublist List.filter_sublist
/-! ### sets made of a range -/
theorem filter_set {n : Int} (h : 1 ≤ n ∧ n ≤ 24) (P : Int → Bool) : isSet n ((Pv.upTo 0 n.toNat).filter P) = true := by
  unfold isSet
  rw [decide_eq_true h, Bool.true_and, decide_eq_true_eq]
  refine List.filter_congr fun i hi => ?_
  by_cases c : P i = true
  · rw [c, decide_eq_true (List.mem_filter.mpr ⟨hi, c⟩)]
  · rw [Bool.not_eq_true] at c
    rw [c, decide_eq_false fun z => by
      have := (List.mem_filter.mp z).2
      rw [c] at this
      cases this]
/-- sorted things of a range, none twice -/
theorem isort_set {n : Int} (h : 1 ≤ n ∧ n ≤ 24) {s : List Int} (ns : s.Nodup) (hs : ∀ t ∈ s, t ∈ Pv.upTo 0 n.toNat) : isSet n (isort s) = true := by
  have e : isort s = (Pv.upTo 0 n.toNat).filter fun i => decide (i ∈ s) := by
    refine (isort_of ?_ ?_).symm
    · exact (List.perm_ext_iff_of_nodup ((upTo_nodup _).sublist List.filter_sublist) ns).mpr fun t => by
        rw [List.mem_filter, decide_eq_true_eq]
        exact ⟨fun z => z.2, fun z => ⟨hs t z, z⟩⟩
    · exact ((upTo_pair _).imp fun h => by omega).sublist List.filter_sublist
  rw [e]
  exact filter_set h _
theorem tog_eq {o l : List Int} (no : o.Nodup) (nl : l.Nodup) (sub : ∀ t ∈ l, t ∈ o) : tog o l = decide (Ring.ls false (o.map fun t => decide (t ∈ l)) ≤ 1) := by
  unfold tog
  cases l with
  | nil =>
    have : Ring.ls false (o.map fun t => decide (t ∈ ([] : List Int))) = 0 := Ring.ls_false _ fun x hx => by
      obtain ⟨t, _, rfl⟩ := List.mem_map.mp hx
      simp
    rw [this]
    rfl
  | cons t ts =>
    have hp : places o (t :: ts) = ((o.idxOf t : Nat) : Int) :: places o ts := rfl
    obtain ⟨a1, a2, a3⟩ := lmin_le (places o ts) ((o.idxOf t : Nat) : Int)
    obtain ⟨b1, b2, b3⟩ := lmax_le (places o ts) ((o.idxOf t : Nat) : Int)
    rw [hp, spanL]
    generalize hm : lmin ((o.idxOf t : Nat) : Int) (places o ts) = m at *
    generalize hM : lmax ((o.idxOf t : Nat) : Int) (places o ts) = M at *
    have at_ : ∀ z : Int, (z = ((o.idxOf t : Nat) : Int) ∨ z ∈ places o ts) → ∃ s ∈ t :: ts, z = ((o.idxOf s : Nat) : Int) := fun z hz => by
      rcases hz with h | h
      · exact ⟨t, by simp, h⟩
      · obtain ⟨s, hs, rfl⟩ := List.mem_map.mp h
        exact ⟨s, by simp [hs], rfl⟩
    obtain ⟨s1, q1, r1⟩ := at_ m a3
    obtain ⟨s2, q2, r2⟩ := at_ M b3
    have i1 := List.idxOf_lt_length_of_mem (sub s1 q1)
    have i2 := List.idxOf_lt_length_of_mem (sub s2 q2)
    have g1 : o[o.idxOf s1] = s1 := List.getElem_idxOf i1
    have g2 : o[o.idxOf s2] = s2 := List.getElem_idxOf i2
    have all : ∀ s ∈ t :: ts, o.idxOf s1 ≤ o.idxOf s ∧ o.idxOf s ≤ o.idxOf s2 := fun s hs => by
      rcases List.mem_cons.mp hs with rfl | hs
      · omega
      · have h1 := a2 _ (List.mem_map.mpr ⟨s, hs, rfl⟩ : ((o.idxOf s : Nat) : Int) ∈ places o ts)
        have h2 := b2 _ (List.mem_map.mpr ⟨s, hs, rfl⟩ : ((o.idxOf s : Nat) : Int) ∈ places o ts)
        omega
    have key := Ring.tog_iff no nl sub (f := o.idxOf s1) (e := o.idxOf s2) ((all s1 q1).2) i2 (by rw [g1]; exact q1) (by rw [g2]; exact q2) all
    have hc : cutP o (some m) (some (M + 1)) = (o.drop (o.idxOf s1)).take (o.idxOf s2 + 1 - o.idxOf s1) := by
      unfold cutP
      rw [r1, r2, show (((o.idxOf s2 : Nat) : Int) + 1) = ((o.idxOf s2 + 1 : Nat) : Int) by omega, HT.sIx_nat, HT.sIx_nat, Nat.min_eq_left (by omega), Nat.min_eq_left (by omega)]
    rw [isort_len, hc]
    exact decide_eq_decide.mpr key
def tabV (T : List (List Int)) : List PV := T.map fun s => .tup (s.map .int)
/-! ### check_table, opened_table -/
def ctB (F : Fn) : M Fl := sq (bnd (eFn F (aCons (eVar 0) (aCons (eVar 2) (Pv.ret [])))) fun _ => Pv.ret .nx) (Pv.ret .nx)
theorem ct_loop {F : Fn} {n : Int} {v : PV} : ∀ (T : List (List Int)) (s2 : Pv.Slot), (∀ s ∈ T, F [.int n, .tup (s.map .int)] = .ok (.tup (s.map .int), false)) → ∃ s2', loop (tName 2) (ctB F) (tabV T) [.val (.int n), .val v, s2] = .ok .nx [.val (.int n), .val v, s2']
  | [], s2, _ => ⟨s2, rfl⟩
  | t :: T, s2, h => by
    obtain ⟨s2', e⟩ := ct_loop (F := F) (n := n) (v := v) T (.val (.tup (t.map .int))) fun s hs => h s (by simp [hs])
    refine ⟨s2', ?_⟩
    have h1 := h t (by simp)
    have ea : tabV (t :: T) = .tup (t.map .int) :: tabV T := rfl
    have eb : ctB F [.val (.int n), .val v, .val (.tup (t.map .int))] = .ok .nx [.val (.int n), .val v, .val (.tup (t.map .int))] := by
      unfold ctB
      generalize t.map PV.int = W at *
      simp [h1]
    have et : tName 2 (.tup (t.map .int)) [.val (.int n), .val v, s2] = some [.val (.int n), .val v, .val (.tup (t.map .int))] := rfl
    rw [ea, loop]
    simp only [et, eb, e]
theorem table_ok (n : Int) (T : List (List Int)) (h : 1 ≤ n ∧ n ≤ 24) (hT : T.length ≤ 40) (hs : ∀ s ∈ T, isSet n s = true) : fn_check_table [.int n, .tup (tabV T)] = .ok (.tup (tabV T), false) := by
  have e0 := num_ok n
  rw [decide_eq_true h] at e0
  obtain ⟨s2', e⟩ := ct_loop (F := fn_check_set) (n := n) (v := .tup (tabV T)) T .no fun s q => by rw [set_ok, if_pos (hs s q)]
  have hl : ¬ (40 : Int) < ((tabV T).length : Int) := by unfold tabV; rw [List.length_map]; omega
  unfold fn_check_table st_check_table
  refine runF_ok (ev' := [.val (.int n), .val (.tup (tabV T)), s2']) ?_ rfl (by decide)
  have a1 : ∀ F : Fn, F [.int n] = .ok (.bl true, false) → mIfS (mNot (tTru (look (eFn F (aCons (eVar 0) (Pv.ret [])))))) (sq (mRaise "InvalidTable") (Pv.ret .nx)) (Pv.ret .nx) [.val (.int n), .val (.tup (tabV T)), .no] = .ok .nx [.val (.int n), .val (.tup (tabV T)), .no] := fun F q => by
    generalize tabV T = V
    simp [q]
  refine (sq_nx (a1 _ e0)).trans ?_
  refine (sq_nx (ev' := [.val (.int n), .val (.tup (tabV T)), .no]) (by generalize tabV T = V at *; simp [hl])).trans ?_
  refine (sq_nx (ev' := [.val (.int n), .val (.tup (tabV T)), s2']) ((bnd_ok (ev' := [.val (.int n), .val (.tup (tabV T)), .no]) (a := tabV T) (by generalize tabV T = V; simp)).trans e)).trans ?_
  refine sq_rt ?_
  generalize tabV T = V
  simp
theorem order_size {o : List Int} (h : isOrder o.length o = true) : 1 ≤ (o.length : Int) ∧ (o.length : Int) ≤ 24 := by
  unfold isOrder at h
  simp only [Bool.and_eq_true, decide_eq_true_eq] at h
  exact h.1
end K01

set_option Elab.async false
set_option linter.all false
set_option maxRecDepth 100000
namespace K01
open Pv PySem PySem.Spec L2
open PyProof.Rows hiding St
/-! ### factorials, counts -/
theorem fac_pos : ∀ n, 1 ≤ facN n
  | 0 => Nat.le_refl _
  | n + 1 => by rw [facN]; exact Nat.mul_le_mul (fac_pos n) (Nat.le_add_left 1 n)
theorem fac_mul (s : Nat) : ∀ m, facN (m + 1) * facN s * (s + 1) ≤ facN (m + 1 + s)
  | 0 => by
    rw [show 0 + 1 + s = s + 1 by omega, show facN (s + 1) = facN s * (s + 1) from rfl, show facN (0 + 1) = 1 from rfl, Nat.one_mul]
    exact Nat.le_refl _
  | m + 1 => by
    have ih := fac_mul s m
    rw [show m + 1 + 1 + s = (m + 1 + s) + 1 by omega, show facN (m + 1 + s + 1) = facN (m + 1 + s) * (m + 1 + s + 1) from rfl, show facN (m + 1 + 1) = facN (m + 1) * (m + 1 + 1) from rfl]
    have h1 : m + 1 + 1 ≤ m + 1 + s + 1 := by omega
    have h2 := Nat.mul_le_mul ih h1
    calc facN (m + 1) * (m + 1 + 1) * facN s * (s + 1) = facN (m + 1) * facN s * (s + 1) * (m + 1 + 1) := by
          rw [Nat.mul_right_comm (facN (m + 1)) (m + 1 + 1) (facN s), Nat.mul_right_comm _ (m + 1 + 1) (s + 1)]
      _ ≤ _ := h2
theorem fac_mono : ∀ {a b : Nat}, a ≤ b → facN a ≤ facN b
  | a, 0, h => by rw [Nat.le_zero.mp h]; exact Nat.le_refl _
  | a, b + 1, h => by
    by_cases c : a = b + 1
    · rw [c]; exact Nat.le_refl _
    · have ih := fac_mono (show a ≤ b by omega)
      rw [facN]
      calc facN a ≤ facN b := ih
        _ = facN b * 1 := (Nat.mul_one _).symm
        _ ≤ facN b * (b + 1) := Nat.mul_le_mul_left _ (by omega)
mutual
def cntN : G → Nat
  | .leaf _ => 1
  | .node w ps _ => (if w = "any" then facN ps.length else 2) * prodN ps
def prodN : List G → Nat
  | [] => 1
  | g :: gs => cntN g * prodN gs
end
theorem lea_pos (g : G) (h : form g = true) : 1 ≤ (lea g).length := by
  have := lea_ne g h
  cases e : lea g with
  | nil => exact absurd e this
  | cons a l => simp
theorem leas_len : ∀ gs : List G, forms gs = true → gs.length ≤ (leas gs).length
  | [], _ => Nat.zero_le _
  | g :: gs, h => by
    rw [forms_cons, Bool.and_eq_true] at h
    rw [leas_cons, List.length_append, List.length_cons]
    have := lea_pos g h.1
    have := leas_len gs h.2
    omega
mutual
theorem cnt_le : ∀ g : G, form g = true → cntN g ≤ facN (lea g).length
  | .leaf i, _ => by rw [cntN]; exact fac_pos _
  | .node w ps x, h => by
    obtain ⟨_, f1, f2, f3⟩ := form_node h
    have := prod_le ps f3
    rw [cntN, lea]
    split
    · exact this
    · rename_i hw
      have h2 : 2 ≤ facN ps.length := by
        have := least_2 w
        have := fac_mono (show 2 ≤ ps.length by omega)
        have : facN 2 = 2 := rfl
        omega
      exact Nat.le_trans (Nat.mul_le_mul_right _ h2) this
theorem prod_le : ∀ gs : List G, forms gs = true → facN gs.length * prodN gs ≤ facN (leas gs).length
  | [], _ => by rw [prodN]; simp [leas, facN]
  | g :: gs, h => by
    rw [forms_cons, Bool.and_eq_true] at h
    have h1 := cnt_le g h.1
    have h2 := prod_le gs h.2
    have h3 := leas_len gs h.2
    have h4 := lea_pos g h.1
    obtain ⟨m, hm⟩ : ∃ m, (lea g).length = m + 1 := ⟨(lea g).length - 1, by omega⟩
    have h5 := fac_mul (leas gs).length m
    rw [prodN, List.length_cons, facN, leas_cons, List.length_append, hm]
    rw [hm] at h1
    calc facN gs.length * (gs.length + 1) * (cntN g * prodN gs) = cntN g * (facN gs.length * prodN gs) * (gs.length + 1) := by
          simp only [Nat.mul_assoc, Nat.mul_comm, Nat.mul_left_comm]
      _ ≤ facN (m + 1) * facN (leas gs).length * ((leas gs).length + 1) := Nat.mul_le_mul (Nat.mul_le_mul h1 h2) (by omega)
      _ ≤ _ := h5
end
theorem fac10 : facN 10 = 3628800 := by decide
theorem cnt_small {g : G} (h : form g = true) (hl : (lea g).length ≤ 10) : cntN g ≤ 3628800 := by
  have := cnt_le g h
  have h2 := fac_mono hl
  rw [fac10] at h2
  omega
theorem aMul_r {i : Int} {j : Nat} (h : j ≤ 3628800) : aMul (.int i) (.int (j : Int)) = some (.int (i * j), false) := by
  rw [aMul_ii, if_pos]
  have : smallI (j : Int) = true := by
    rw [smallI_eq]
    exact decide_eq_true (by omega)
  rw [this, Bool.or_true]
/-! ### counted, _law_product, _law_count -/
theorem mul_loop {r_ : Fn} {A B C : Pv.Slot} {v : Nat → PV} (hr : ∀ (gs : List G), True) : True := trivial
theorem counted_loop {r_ : Fn} {A B C : Pv.Slot} : ∀ (gs : List G) (m : Int) (s4 : Pv.Slot), (∀ g ∈ gs, r_ [enc g] = .ok (.int (cntN g : Nat), false) ∧ cntN g ≤ 3628800) →
    ∃ s4', loop (tName 4) (sq (bnd (eOp aMul (pVar 3) (look (eFn r_ (aCons (eVar 4) (Pv.ret []))))) (setR 3)) (Pv.ret .nx)) (encs gs) [A, B, C, .val (.int m), s4] = .ok .nx [A, B, C, .val (.int (m * (prodN gs : Nat))), s4']
  | [], m, s4, _ => ⟨s4, by rw [encs_nil, prodN]; simp⟩
  | g :: gs, m, s4, h => by
    obtain ⟨h1, h2⟩ := h g (by simp)
    have h3 := aMul_r (i := m) h2
    obtain ⟨s4', e⟩ := counted_loop (r_ := r_) (A := A) (B := B) (C := C) gs (m * (cntN g : Nat)) (.val (enc g)) fun q hq => h q (by simp [hq])
    refine ⟨s4', ?_⟩
    have e2 : m * ((prodN (g :: gs) : Nat) : Int) = m * (cntN g : Nat) * (prodN gs : Nat) := by rw [prodN, Int.natCast_mul, Int.mul_assoc]
    rw [encs_cons, loop, e2, ← e]
    have et : tName 4 (enc g) [A, B, C, .val (.int m), s4] = some [A, B, C, .val (.int m), .val (enc g)] := rfl
    simp only [et]
    have eb : sq (bnd (eOp aMul (pVar 3) (look (eFn r_ (aCons (eVar 4) (Pv.ret []))))) (setR 3)) (Pv.ret .nx) [A, B, C, .val (.int m), .val (enc g)] = .ok .nx [A, B, C, .val (.int (m * (cntN g : Nat))), .val (enc g)] := by
      generalize ((cntN g : Nat) : Int) = z at *
      generalize enc g = T at *
      simp [-aMul_ii, h1, h3]
    simp only [eb]
end K01

set_option Elab.async false
set_option linter.all false
set_option maxRecDepth 100000
namespace K01
open Pv PySem PySem.Spec L2
open PyProof.Rows hiding St
/-! ### _law_product, _law_count -/
theorem t1 {A : Pv.Slot} {z1 z2 z3 : Int} (h : aMul (.int z1) (.int z3) = some (.int z2, false)) : sq (bnd (eOp aMul (pVar 1) (pVar 2)) (setR 1)) (Pv.ret .nx) [A, .val (.int z1), .val (.int z3)] = .ok .nx [A, .val (.int z2), .val (.int z3)] := by
  simp [-aMul_ii, h]
theorem t2 {r_ : Fn} {A : Pv.Slot} {T : PV} {m z z2 : Int} (h1 : r_ [T] = .ok (.int z, false)) (h3 : aMul (.int m) (.int z) = some (.int z2, false)) : sq (bnd (eOp aMul (pVar 1) (look (eFn r_ (aCons (eVar 2) (Pv.ret []))))) (setR 1)) (Pv.ret .nx) [A, .val (.int m), .val T] = .ok .nx [A, .val (.int z2), .val T] := by
  simp [-aMul_ii, h1, h3]
theorem s3t {F : Fn} {w : Str} {L : List PV} {y z : Int} (hq : gEq false (.str w) (.str "any") = some (.bl true, false)) (hgl : gLen [.tup L] = some (.int y, false)) (hp : F [.int y] = .ok (.int z, false)) (B : Pv.Slot) :
    mIfS (blOf (eOp (gEq false) (look (eOp gIx (pVar 0) (look (eC (.int 0))))) (look (eC (.str "any"))))) (sq (bnd (eFn F (aCons (eCall gLen (kCons (look (eOp gIx (pVar 0) (look (eC (.int 1))))) (Pv.ret []))) (Pv.ret []))) (setR 1)) (Pv.ret .nx)) (Pv.ret .nx) [.val (.tup [.str w, .tup L]), B, .no] = .ok .nx [.val (.tup [.str w, .tup L]), .val (.int z), .no] := by
  simp [-gLen_t, -gEq_ss, hq, at0, at1, hgl, hp]
theorem s3f {F : Fn} {w : Str} {L : List PV} (hq : gEq false (.str w) (.str "any") = some (.bl false, false)) (B : Pv.Slot) :
    mIfS (blOf (eOp (gEq false) (look (eOp gIx (pVar 0) (look (eC (.int 0))))) (look (eC (.str "any"))))) (sq (bnd (eFn F (aCons (eCall gLen (kCons (look (eOp gIx (pVar 0) (look (eC (.int 1))))) (Pv.ret []))) (Pv.ret []))) (setR 1)) (Pv.ret .nx)) (Pv.ret .nx) [.val (.tup [.str w, .tup L]), B, .no] = .ok .nx [.val (.tup [.str w, .tup L]), B, .no] := by
  simp [-gEq_ss, hq, at0]
theorem hr_l {m z : Int} : kCons (look (eC (.int 2))) (kCons (look (eOp gAdd (pVar 0) (look (eC (.int 1))))) (Pv.ret [])) [.val (.int z), .val (.int m), .no] = .ok [.int 2, .int (z + 1)] [.val (.int z), .val (.int m), .no] := by
  simp
theorem rng2_ok {m : M (List PV)} {ev ev' : SL} {i j : Int} (h : m ev = .ok [.int i, .int j] ev') (hi : okR i = true) (hj : okR j = true) : mRng2 m ev = .ok (rgP i (j - i).toNat) ev' := by
  simp only [mRng2_ap, bnd_ap, h, hi, hj, Bool.and_self, if_true, ret_ap]
theorem lcount_loop {r_ : Fn} {A : Pv.Slot} : ∀ (gs : List G) (m : Int) (s2 : Pv.Slot), (∀ g ∈ gs, r_ [enc g] = .ok (.int (cntN g : Nat), false) ∧ cntN g ≤ 3628800) →
    ∃ s2', loop (tName 2) (sq (bnd (eOp aMul (pVar 1) (look (eFn r_ (aCons (eVar 2) (Pv.ret []))))) (setR 1)) (Pv.ret .nx)) (encs gs) [A, .val (.int m), s2] = .ok .nx [A, .val (.int (m * (prodN gs : Nat))), s2']
  | [], m, s2, _ => ⟨s2, by rw [encs_nil, prodN]; simp⟩
  | g :: gs, m, s2, h => by
    obtain ⟨h1, h2⟩ := h g (by simp)
    have h3 := aMul_r (i := m) h2
    obtain ⟨s2', e⟩ := lcount_loop (r_ := r_) (A := A) gs (m * (cntN g : Nat)) (.val (enc g)) fun q hq => h q (by simp [hq])
    refine ⟨s2', ?_⟩
    have e2 : m * ((prodN (g :: gs) : Nat) : Int) = m * (cntN g : Nat) * (prodN gs : Nat) := by rw [prodN, Int.natCast_mul, Int.mul_assoc]
    rw [encs_cons, loop, e2, ← e]
    have et : tName 2 (enc g) [A, .val (.int m), s2] = some [A, .val (.int m), .val (enc g)] := rfl
    simp only [et]
    have eb : sq (bnd (eOp aMul (pVar 1) (look (eFn r_ (aCons (eVar 2) (Pv.ret []))))) (setR 1)) (Pv.ret .nx) [A, .val (.int m), .val (enc g)] = .ok .nx [A, .val (.int (m * (cntN g : Nat))), .val (enc g)] := by
      exact t2 h1 h3
    simp only [eb]
/-! ### check_own_tree, count -/
structure Tree (n : Nat) (g : G) : Prop where
  f : form g = true
  l : (lea g).Perm (Pv.upTo 0 n)
  d : dep g + 1 ≤ n
  w : wd 24 g = true
  n1 : 1 ≤ n
  n2 : n ≤ 24
theorem Tree.len {n : Nat} {g : G} (t : Tree n g) : (lea g).length = n := by rw [t.l.length_eq, upTo_len]
theorem Tree.nd {n : Nat} {g : G} (t : Tree n g) : (lea g).Nodup := t.l.nodup_iff.mpr (upTo_nodup n)
theorem Tree.nn {n : Nat} {g : G} (t : Tree n g) : ∀ i ∈ lea g, 0 ≤ i := fun i hi => by
  have := t.l.mem_iff.mp hi
  unfold Pv.upTo at this
  obtain ⟨k, _, rfl⟩ := List.mem_map.mp this
  omega
theorem Tree.ct {n : Nat} {g : G} (t : Tree n g) : ct g = some (lea g) := ct_ok g t.f t.nn t.nd
theorem isort_up {l : List Int} {n : Nat} (h : l.Perm (Pv.upTo 0 n)) : isort l = Pv.upTo 0 n := (isort_of h.symm ((upTo_pair n).imp fun h => by omega)).symm
end K01

set_option Elab.async false
set_option linter.all false
set_option maxRecDepth 100000
namespace K01
open Pv PySem PySem.Spec L2
open PyProof.Rows hiding St
/-! ### the sets of a tree -/
def rowS : List G → List (List Int)
  | a :: b :: r => isort (lea a ++ lea b) :: rowS (b :: r)
  | _ => []
def ownS (w : Str) (ps : List G) : List (List Int) := if w = "any" then [isort (leas ps)] else rowS ps
mutual
def setsG : G → List (List Int)
  | .leaf _ => []
  | .node w ps _ => ownS w ps ++ setsL ps
def setsL : List G → List (List Int)
  | [] => []
  | g :: gs => setsG g ++ setsL gs
end
/-- what a tree of this program must be for its defs to read it -/
structure Tr (g : G) : Prop where
  f : form g = true
  w : wd 24 g = true
  d : dep g < 40
  z : (lea g).length ≤ 24
  n : (lea g).Nodup
  p : ∀ i ∈ lea g, 0 ≤ i
theorem lea_sub : ∀ {ps : List G} {g : G}, g ∈ ps → (lea g).Sublist (leas ps)
  | q :: ps, g, h => by
    rw [leas]
    rcases List.mem_cons.mp h with rfl | h
    · exact List.sublist_append_left _ _
    · exact (lea_sub h).trans (List.sublist_append_right _ _)
theorem Tr.part {w : Str} {ps : List G} {x : Bool} (t : Tr (.node w ps x)) {g : G} (h : g ∈ ps) : Tr g := by
  obtain ⟨f, w', d, z, n, p⟩ := t
  obtain ⟨rfl, f1, f2, f3⟩ := form_node f
  rw [wd, Bool.and_eq_true, Bool.and_eq_true, decide_eq_true_eq] at w'
  rw [dep] at d
  rw [lea] at z n p
  have s := lea_sub h
  exact ⟨forms_all.mp f3 g h, wds_all.mp w'.2.1 g h, by have := dep_mem h; omega, by have := s.length_le; omega, n.sublist s, fun i hi => p i (s.subset hi)⟩
theorem isort_app {a b : List Int} : isort (isort a ++ isort b) = isort (a ++ b) :=
  (isort_of ((isort_perm _).trans ((isort_perm a).append (isort_perm b))) (isort_sorted _))
theorem own_step {F : Fn} {A B C : Pv.Slot} {T1 T2 : PV} {a b : List Int} {acc : List PV} {s4 s5 : Pv.Slot} (h1 : F [T1] = .ok (.tup (a.map .int), false)) (h2 : F [T2] = .ok (.tup (b.map .int), false)) (hl : a.length + b.length ≤ 1000) (hz : acc.length < 1000) :
    sq (mMet 3 (aCons (eCall gTuple (kCons (look (eCall gSorted (kCons (look (eOp gAdd (look (eFn F (aCons (eVar 4) (Pv.ret [])))) (look (eFn F (aCons (eVar 5) (Pv.ret [])))))) (Pv.ret [])))) (Pv.ret []))) (Pv.ret [])) gAppend) (Pv.ret .nx) [A, B, C, .own acc, .val T1, .val T2] = .ok .nx [A, B, C, .own (acc ++ [.tup ((isort (a ++ b)).map .int)]), .val T1, .val T2] := by
  have hq : a.length + b.length ≤ 16777216 := by omega
  have hq2 : acc.length < 16777216 := by omega
  have hi : intsP (a.map PV.int ++ b.map PV.int) = some (a ++ b) := by rw [← List.map_append, intsP_map]
  simp [h1, h2, hq, hq2, hi]
theorem own_loop {F : Fn} {A B C : Pv.Slot} : ∀ (ps : List G) (acc : List (List Int)) (s4 s5 : Pv.Slot), (∀ g ∈ ps, F [enc g] = .ok (.tup ((isort (lea g)).map .int), false) ∧ (lea g).length ≤ 24) → acc.length + ps.length ≤ 1000 →
    ∃ s4' s5', loop (tNames [4, 5]) (sq (mMet 3 (aCons (eCall gTuple (kCons (look (eCall gSorted (kCons (look (eOp gAdd (look (eFn F (aCons (eVar 4) (Pv.ret [])))) (look (eFn F (aCons (eVar 5) (Pv.ret [])))))) (Pv.ret [])))) (Pv.ret []))) (Pv.ret [])) gAppend) (Pv.ret .nx)) (zipP (encs ps) ((encs ps).drop 1)) [A, B, C, .own (tabV acc), s4, s5] = .ok .nx [A, B, C, .own (tabV (acc ++ rowS ps)), s4', s5']
  | [], acc, s4, s5, _, _ => ⟨s4, s5, by rw [encs_nil, rowS, List.append_nil]; rfl; simp⟩
  | [g], acc, s4, s5, _, _ => ⟨s4, s5, by rw [encs_cons, encs_nil, rowS, List.append_nil]; rfl; simp⟩
  | a :: b :: r, acc, s4, s5, h, hz => by
    simp only [List.length_cons] at hz
    obtain ⟨h1, l1⟩ := h a (by simp)
    obtain ⟨h2, l2⟩ := h b (by simp)
    obtain ⟨s4', s5', e⟩ := own_loop (F := F) (A := A) (B := B) (C := C) (b :: r) (acc ++ [isort (lea a ++ lea b)]) (.val (enc a)) (.val (enc b)) (fun g hg => h g (List.mem_cons_of_mem _ hg)) (by simp only [List.length_append, List.length_cons, List.length_nil]; omega)
    refine ⟨s4', s5', ?_⟩
    have hs := own_step (F := F) (A := A) (B := B) (C := C) (acc := tabV acc) (s4 := s4) (s5 := s5) h1 h2 (by rw [isort_len, isort_len]; omega) (by unfold tabV; rw [List.length_map]; omega)
    rw [isort_app] at hs
    have ez : zipP (encs (a :: b :: r)) ((encs (a :: b :: r)).drop 1) = .itm [enc a, enc b] :: zipP (encs (b :: r)) ((encs (b :: r)).drop 1) := by
      rw [encs_cons, encs_cons]; rfl
    have et : tNames [4, 5] (.itm [enc a, enc b]) [A, B, C, .own (tabV acc), s4, s5] = some [A, B, C, .own (tabV acc), .val (enc a), .val (enc b)] := rfl
    have ea : tabV (acc ++ [isort (lea a ++ lea b)]) = tabV acc ++ [.tup ((isort (lea a ++ lea b)).map .int)] := by unfold tabV; rw [List.map_append]; rfl
    rw [ez, loop]
    simp only [et, hs]
    rw [← ea, e, rowS, List.append_assoc]
    rfl
theorem cut1 {α : Type} (xs : List α) : cutP xs (some 1) none = xs.drop 1 := by
  unfold cutP
  cases xs with
  | nil => rfl
  | cons x r =>
    have h1 : HT.sIx (x :: r).length 0 (some 1) = 1 := by
      have := HT.sIx_nat (n := (x :: r).length) (d := 0) (k := 1)
      simpa using this
    have h2 : HT.sIx (x :: r).length (x :: r).length none = (x :: r).length := rfl
    rw [h1, h2]
    simp
theorem own1 {w : Str} {L : List PV} {T : PV} (hT : T = .tup [.str w, .tup L]) : sq (bnd (eVar 0) fun r => mTgt (tNames [1, 2]) r.1) (Pv.ret .nx) [.val T, .no, .no, .no, .no, .no] = .ok .nx [.val T, .val (.str w), .val (.tup L), .no, .no, .no] := by
  subst hT
  simp
end K01

set_option Elab.async false
set_option linter.all false
set_option maxRecDepth 100000
namespace K01
open Pv PySem PySem.Spec L2
open PyProof.Rows hiding St
/-! ### own_sets, listed_sets, sets_of -/
theorem own2t {F : Fn} {T X : PV} {B : Pv.Slot} {w : Str} (hq : gEq false (.str w) (.str "any") = some (.bl true, false)) (h : F [T] = .ok (X, false)) : mIfS (blOf (eOp (gEq false) (pVar 1) (look (eC (.str "any"))))) (sq (bnd (mLst (aCons (eFn F (aCons (eVar 0) (Pv.ret []))) (Pv.ret []))) mRet) (Pv.ret .nx)) (Pv.ret .nx) [.val T, .val (.str w), B, .no, .no, .no] = .ok (.rt (.lst [X], true)) [.val T, .val (.str w), B, .no, .no, .no] := by
  simp [-gEq_ss, hq, h]
theorem own2f {F : Fn} {T : PV} {B : Pv.Slot} {w : Str} (hq : gEq false (.str w) (.str "any") = some (.bl false, false)) : mIfS (blOf (eOp (gEq false) (pVar 1) (look (eC (.str "any"))))) (sq (bnd (mLst (aCons (eFn F (aCons (eVar 0) (Pv.ret []))) (Pv.ret []))) mRet) (Pv.ret .nx)) (Pv.ret .nx) [.val T, .val (.str w), B, .no, .no, .no] = .ok .nx [.val T, .val (.str w), B, .no, .no, .no] := by
  simp [-gEq_ss, hq]
theorem own3 {A B C : Pv.Slot} : sq (bnd (mLst (Pv.ret [])) (setR 3)) (Pv.ret .nx) [A, B, C, .no, .no, .no] = .ok .nx [A, B, C, .own [], .no, .no] := by
  simp
theorem own4 {A B : Pv.Slot} {L S : List PV} : mZip (aCons (eVar 2) (aCons (eSl (pVar 2) (soInt (look (eC (.int 1)))) (Pv.ret none)) (Pv.ret []))) [A, B, .val (.tup L), .own S, .no, .no] = .ok (zipP L (L.drop 1)) [A, B, .val (.tup L), .own S, .no, .no] := by
  unfold mZip
  simp [cut1]
theorem own5 {A B C s4 s5 : Pv.Slot} {S : List PV} : sq (mRetV 3) (Pv.ret .nx) [A, B, C, .own S, s4, s5] = .ok (.rt (.lst S, true)) [A, B, C, .own S, s4, s5] := by
  simp
theorem list_step {r_ : Fn} {A : Pv.Slot} {T : PV} {acc X : List PV} (h : r_ [T] = .ok (.lst X, true)) (hl : acc.length + X.length ≤ 16777216) : sq (mMet 1 (aCons (eFn r_ (aCons (eVar 2) (Pv.ret []))) (Pv.ret [])) gExtend) (Pv.ret .nx) [A, .own acc, .val T] = .ok .nx [A, .own (acc ++ X), .val T] := by
  cases A <;> simp [h, hl]
theorem tabV_app (a b : List (List Int)) : tabV (a ++ b) = tabV a ++ tabV b := by unfold tabV; rw [List.map_append]
theorem tabV_len (a : List (List Int)) : (tabV a).length = a.length := by unfold tabV; rw [List.length_map]
theorem list_loop {r_ : Fn} {A : Pv.Slot} : ∀ (gs : List G) (acc : List (List Int)) (s2 : Pv.Slot), (∀ g ∈ gs, r_ [enc g] = .ok (.lst (tabV (setsG g)), true)) → acc.length + (setsL gs).length ≤ 1000 →
    ∃ s2', loop (tName 2) (sq (mMet 1 (aCons (eFn r_ (aCons (eVar 2) (Pv.ret []))) (Pv.ret [])) gExtend) (Pv.ret .nx)) (encs gs) [A, .own (tabV acc), s2] = .ok .nx [A, .own (tabV (acc ++ setsL gs)), s2']
  | [], acc, s2, _, _ => ⟨s2, by rw [encs_nil, setsL, List.append_nil]; rfl⟩
  | g :: gs, acc, s2, h, hz => by
    rw [setsL, List.length_append] at hz
    obtain ⟨s2', e⟩ := list_loop (r_ := r_) (A := A) gs (acc ++ setsG g) (.val (enc g)) (fun q hq => h q (by simp [hq])) (by rw [List.length_append]; omega)
    refine ⟨s2', ?_⟩
    have hs := list_step (A := A) (acc := tabV acc) (h g (by simp)) (by rw [tabV_len, tabV_len]; omega)
    have et : tName 2 (enc g) [A, .own (tabV acc), s2] = some [A, .own (tabV acc), .val (enc g)] := rfl
    rw [encs_cons, loop]
    simp only [et, hs]
    rw [← tabV_app, e, setsL, List.append_assoc]
theorem rowS_len : ∀ ps : List G, (rowS ps).length = ps.length - 1
  | [] => by rw [rowS]; rfl; simp
  | [a] => by rw [rowS]; rfl; simp
  | a :: b :: r => by rw [rowS, List.length_cons, rowS_len (b :: r)]; simp
theorem form_len {w : Str} {ps : List G} {x : Bool} (h : form (.node w ps x) = true) : 2 ≤ ps.length := by
  obtain ⟨_, _, h3, _⟩ := form_node h
  have := least_2 w
  omega
mutual
theorem sets_len : ∀ g : G, form g = true → (setsG g).length + 1 ≤ (lea g).length
  | .leaf i, _ => by rw [setsG, lea]; simp
  | .node w ps x, h => by
    have h2 := form_len h
    obtain ⟨_, _, _, h4⟩ := form_node h
    have := setsL_len ps h4
    rw [setsG, lea, List.length_append]
    unfold ownS
    split
    · simp only [List.length_cons, List.length_nil]; omega
    · rw [rowS_len]; omega
theorem setsL_len : ∀ gs : List G, forms gs = true → (setsL gs).length + gs.length ≤ (leas gs).length
  | [], _ => by rw [setsL, leas]; simp
  | g :: gs, h => by
    rw [forms_cons, Bool.and_eq_true] at h
    have h1 := sets_len g h.1
    have h2 := setsL_len gs h.2
    rw [setsL, leas, List.length_append, List.length_append, List.length_cons]
    omega
end
theorem tabV_tupI (T : List (List Int)) : tabV T = T.map tupI := rfl
theorem isort_ne {l : List Int} (h : l ≠ []) : isort l ≠ [] := fun z => h (List.eq_nil_of_length_eq_zero (by rw [← isort_len, z]; rfl))
end K01

set_option Elab.async false
set_option linter.all false
set_option maxRecDepth 100000
namespace K01
open Pv PySem PySem.Spec L2
open PyProof.Rows hiding St
/-! ### a set of a tree is a stretch of its leaves -/
theorem row_in : ∀ (ps : List G) (s : List Int), forms ps = true → s ∈ rowS ps → ∃ A C B, leas ps = A ++ C ++ B ∧ s = isort C ∧ C ≠ []
  | [], s, _, h => by rw [rowS] at h; cases h; simp
  | [a], s, _, h => by rw [rowS] at h; cases h; simp
  | a :: b :: r, s, hf, h => by
    rw [rowS] at h
    rw [forms_cons, Bool.and_eq_true] at hf
    rcases List.mem_cons.mp h with rfl | h
    · refine ⟨[], lea a ++ lea b, leas r, by rw [leas, leas]; simp, rfl, fun z => ?_⟩
      exact lea_ne a hf.1 (List.append_eq_nil_iff.mp z).1
    · obtain ⟨A, C, B, e, e2, e3⟩ := row_in (b :: r) s hf.2 h
      exact ⟨lea a ++ A, C, B, by rw [leas, e]; simp, e2, e3⟩
mutual
theorem sets_in : ∀ (g : G) (s : List Int), form g = true → s ∈ setsG g → ∃ A C B, lea g = A ++ C ++ B ∧ s = isort C ∧ C ≠ []
  | .leaf i, s, _, h => by rw [setsG] at h; cases h
  | .node w ps x, s, hf, h => by
    have h0 := lea_ne _ hf
    obtain ⟨_, _, _, f3⟩ := form_node hf
    rw [setsG] at h
    rw [lea] at h0 ⊢
    rcases List.mem_append.mp h with h | h
    · unfold ownS at h
      split at h
      · obtain rfl := List.mem_singleton.mp h
        exact ⟨[], leas ps, [], by simp, rfl, h0⟩
      · exact row_in ps s f3 h
    · exact setsL_in ps s f3 h
theorem setsL_in : ∀ (gs : List G) (s : List Int), forms gs = true → s ∈ setsL gs → ∃ A C B, leas gs = A ++ C ++ B ∧ s = isort C ∧ C ≠ []
  | [], s, _, h => by rw [setsL] at h; cases h
  | g :: gs, s, hf, h => by
    rw [setsL] at h
    rw [forms_cons, Bool.and_eq_true] at hf
    rcases List.mem_append.mp h with h | h
    · obtain ⟨A, C, B, e, e2, e3⟩ := sets_in g s hf.1 h
      exact ⟨A, C, B ++ leas gs, by rw [leas, e]; simp, e2, e3⟩
    · obtain ⟨A, C, B, e, e2, e3⟩ := setsL_in gs s hf.2 h
      exact ⟨lea g ++ A, C, B, by rw [leas, e]; simp, e2, e3⟩
end
theorem tog_of {A C B : List Int} (n : (A ++ C ++ B).Nodup) : tog (A ++ C ++ B) (isort C) = true := by
  have mem : ∀ t, t ∈ isort C ↔ t ∈ C := fun t => (isort_perm C).mem_iff
  have n2 := n
  rw [List.append_assoc] at n2
  obtain ⟨nA, nCB, dA⟩ := List.nodup_append.mp n2
  obtain ⟨nC, nB, dC⟩ := List.nodup_append.mp nCB
  rw [tog_eq n ((isort_perm C).nodup_iff.mpr nC) (fun t ht => by have := (mem t).mp ht; simp [this])]
  rw [List.map_append, List.map_append, Ring.ls_mid]
  · have h1 := Ring.ls_true (c := C.map fun t => decide (t ∈ isort C)) (fun x hx => by
      obtain ⟨t, ht, rfl⟩ := List.mem_map.mp hx
      exact decide_eq_true ((mem t).mpr ht))
    have h2 := (Ring.ls_le (C.map fun t => decide (t ∈ isort C))).2
    exact decide_eq_true (by omega)
  · intro x hx
    obtain ⟨t, ht, rfl⟩ := List.mem_map.mp hx
    exact decide_eq_false fun z => dA t ht t (List.mem_append_left _ ((mem t).mp z)) rfl
  · intro x hx
    obtain ⟨t, ht, rfl⟩ := List.mem_map.mp hx
    exact decide_eq_false fun z => dC t ((mem t).mp z) t ht rfl
/-! ### the normal form has the same sets -/
theorem rowS_snoc : ∀ (l : List G) (a b : G), rowS (l ++ [a] ++ [b]) = rowS (l ++ [a]) ++ [isort (lea a ++ lea b)]
  | [], a, b => by
    show rowS [a, b] = rowS [a] ++ _
    rw [rowS]
    have : ∀ c : G, rowS [c] = [] := fun c => by rw [rowS]; simp
    rw [this, this]
    rfl
  | [c], a, b => by
    show rowS [c, a, b] = rowS [c, a] ++ _
    have : ∀ c : G, rowS [c] = [] := fun c => by rw [rowS]; simp
    rw [rowS, rowS, rowS, this, this]
    rfl
  | c :: d :: l, a, b => by
    have := rowS_snoc (d :: l) a b
    show rowS (c :: d :: (l ++ [a] ++ [b])) = rowS (c :: d :: (l ++ [a])) ++ _
    rw [rowS, rowS, List.cons_append]
    congr 1
theorem rowS_rev : ∀ ps : List G, (rowS ps.reverse).Perm (rowS ps)
  | [] => List.Perm.refl _
  | [a] => List.Perm.refl _
  | a :: b :: r => by
    have ih := rowS_rev (b :: r)
    have e : (a :: b :: r).reverse = r.reverse ++ [b] ++ [a] := by simp
    have e2 : (b :: r).reverse = r.reverse ++ [b] := by simp
    rw [e, rowS_snoc, ← e2, rowS]
    have e3 : isort (lea b ++ lea a) = isort (lea a ++ lea b) := isort_of ((isort_perm _).trans List.perm_append_comm) (isort_sorted _)
    rw [e3]
    exact (List.perm_append_comm (l₁ := rowS (b :: r).reverse) (l₂ := [isort (lea a ++ lea b)])).trans (ih.cons _)
theorem rowS_arrs : ∀ ps : List G, rowS (arrs ps) = rowS ps
  | [] => rfl
  | [a] => by
    have : ∀ c : G, rowS [c] = [] := fun c => by rw [rowS]; simp
    show rowS [arr a] = _
    rw [this, this]
  | a :: b :: r => by
    have e := rowS_arrs (b :: r)
    have h : arrs (a :: b :: r) = arr a :: arr b :: arrs r := by rw [arrs, arrs]
    have h2 : arrs (b :: r) = arr b :: arrs r := by rw [arrs]
    rw [h2] at e
    rw [h, rowS, rowS, e]
    congr 1
    exact isort_of ((isort_perm _).trans ((arr_lea a).append (arr_lea b))) (isort_sorted _)
theorem setsL_perm {a b : List G} (h : a.Perm b) : (setsL a).Perm (setsL b) := by
  induction h with
  | nil => exact List.Perm.refl _
  | cons x _ ih => rw [setsL, setsL]; exact ih.append_left _
  | swap x y l =>
    rw [setsL, setsL, setsL, setsL, ← List.append_assoc, ← List.append_assoc]
    exact List.perm_append_comm.append_right _
  | trans _ _ i1 i2 => exact i1.trans i2
theorem isort_perm_eq {a b : List Int} (h : a.Perm b) : isort a = isort b := isort_of ((isort_perm a).trans h) (isort_sorted a)
mutual
theorem arr_sets : ∀ g : G, (setsG (arr g)).Perm (setsG g)
  | .leaf i => by rw [arr]
  | .node w ps x => by
    have ih := arrs_sets ps
    rw [arr_node, setsG, setsG]
    refine List.Perm.append ?_ ((setsL_perm (put_perm w (arrs ps))).trans ih)
    unfold ownS
    by_cases c : w = "any"
    · rw [if_pos c, if_pos c, isort_perm_eq ((leas_perm (put_perm w (arrs ps))).trans (arrs_leas ps))]
    · rw [if_neg c, if_neg c]
      unfold put
      rw [if_neg c]
      split
      · exact (rowS_rev (arrs ps)).trans (by rw [rowS_arrs])
      · rw [rowS_arrs]
theorem arrs_sets : ∀ gs : List G, (setsL (arrs gs)).Perm (setsL gs)
  | [] => by rw [arrs]
  | g :: gs => by
    rw [arrs, setsL, setsL]
    exact (arr_sets g).append (arrs_sets gs)
end
/-- a set of g is a stretch of the leaves of each tree that has the same normal form -/
theorem told_set {g q : G} (hq : form q = true) (ha : arr q = arr g) {s : List Int} (hs : s ∈ setsG g) : ∃ A C B, lea q = A ++ C ++ B ∧ s = isort C ∧ C ≠ [] := by
  have h1 := (arr_sets g).mem_iff.mpr hs
  rw [← ha] at h1
  exact sets_in q s hq ((arr_sets q).mem_iff.mp h1)
end K01

set_option Elab.async false
set_option linter.all false
set_option maxRecDepth 100000
namespace K01
open Pv PySem PySem.Spec L2
open PyProof.Rows hiding St
/-! ### first_parted, tells -/
def fpB (F : Fn) : M Fl := sq (mIfS (mNot (tTru (look (eFn F (aCons (eVar 0) (aCons (eVar 3) (Pv.ret []))))))) (sq (mRetV 2) (Pv.ret .nx)) (Pv.ret .nx)) (Pv.ret .nx)
theorem fp_step {F : Fn} {O T B : PV} {s2 : Pv.Slot} (hO : ∀ ps, O ≠ .lst ps) (hT : ∀ ps, T ≠ .lst ps) (h : F [O, T] = .ok (.bl true, false)) : fpB F [.val O, .val B, s2, .val T] = .ok .nx [.val O, .val B, s2, .val T] := by
  unfold fpB
  simp [h]
theorem fp_loop {F : Fn} {O B : PV} (hO : ∀ ps, O ≠ .lst ps) : ∀ (S : List (List Int)) (k : Nat) (s2 s3 : Pv.Slot), (∀ s ∈ S, F [O, .tup (s.map .int)] = .ok (.bl true, false)) →
    ∃ s2' s3', loop (tNames [2, 3]) (fpB F) (((List.range' k S.length).zip (tabV S)).map fun q => .itm [.int (q.1 : Nat), q.2]) [.val O, .val B, s2, s3] = .ok .nx [.val O, .val B, s2', s3']
  | [], k, s2, s3, _ => ⟨s2, s3, rfl⟩
  | s :: S, k, s2, s3, h => by
    obtain ⟨s2', s3', e⟩ := fp_loop (F := F) (O := O) (B := B) hO S (k + 1) (.val (.int (k : Nat))) (.val (.tup (s.map .int))) fun t ht => h t (by simp [ht])
    refine ⟨s2', s3', ?_⟩
    have hs := fp_step (F := F) (O := O) (B := B) (s2 := .val (.int (k : Nat))) (T := .tup (s.map .int)) hO (fun ps z => by cases z) (h s (by simp))
    have ez : ((List.range' k (s :: S).length).zip (tabV (s :: S))).map (fun q => PV.itm [.int (q.1 : Nat), q.2]) = .itm [.int (k : Nat), .tup (s.map .int)] :: ((List.range' (k + 1) S.length).zip (tabV S)).map fun q => .itm [.int (q.1 : Nat), q.2] := rfl
    have et : tNames [2, 3] (.itm [.int (k : Nat), .tup (s.map .int)]) [.val O, .val B, s2, s3] = some [.val O, .val B, .val (.int (k : Nat)), .val (.tup (s.map .int))] := rfl
    rw [ez, loop]
    simp only [et, hs]
    exact e
theorem enumP_tab (S : List (List Int)) : enumP (tabV S) = ((List.range' 0 S.length).zip (tabV S)).map fun q => .itm [.int (q.1 : Nat), q.2] := by
  unfold enumP
  rw [tabV_len, List.range_eq_range']
theorem fp1 {F : Fn} {O B : PV} {n : Int} (hl : gLen [O] = some (.int n, false)) (hO : ∀ ps, O ≠ .lst ps) (h : F [.int n, O] = .ok (O, false)) : sq (bnd (eFn F (aCons (eCall gLen (kCons (pVar 0) (Pv.ret []))) (aCons (eVar 0) (Pv.ret [])))) fun _ => Pv.ret .nx) (Pv.ret .nx) [.val O, .val B, .no, .no] = .ok .nx [.val O, .val B, .no, .no] := by
  simp [hl, h]
theorem fp2 {F : Fn} {O B : PV} {n : Int} (hl : gLen [O] = some (.int n, false)) (hO : ∀ ps, O ≠ .lst ps) (h : F [.int n, B] = .ok (B, false)) : sq (bnd (eFn F (aCons (eCall gLen (kCons (pVar 0) (Pv.ret []))) (aCons (eVar 1) (Pv.ret [])))) fun _ => Pv.ret .nx) (Pv.ret .nx) [.val O, .val B, .no, .no] = .ok .nx [.val O, .val B, .no, .no] := by
  simp [hl, h]
end K01

set_option linter.all false
set_option Elab.async false
set_option maxRecDepth 100000
set_option autoImplicit false
namespace K01
open Pv PySem PySem.Spec L2
open PyProof.Rows hiding St
/-! ### orders that a tree tells, part by part -/
mutual
def tol : G → List Int → Prop
  | .leaf i, o => o = [i]
  | .node w ps _, o => ∃ os : List (List Int), tols ps os ∧ (if w = "any" then ∃ os' : List (List Int), os'.Perm os ∧ o = os'.flatten else o = os.flatten ∨ o = os.reverse.flatten)
def tols : List G → List (List Int) → Prop
  | [], os => os = []
  | g :: gs, os => ∃ o r, os = o :: r ∧ tol g o ∧ tols gs r
end
/-- orders told by trees side by side -/
def sqT : List G → List Int → Prop
  | [], o => o = []
  | g :: gs, o => ∃ a b, o = a ++ b ∧ tol g a ∧ sqT gs b
theorem sq_tols : ∀ (gs : List G) (o : List Int), sqT gs o ↔ ∃ os, tols gs os ∧ o = os.flatten
  | [], o => by
    unfold sqT
    constructor
    · rintro rfl; exact ⟨[], by unfold tols; rfl, rfl⟩
    · rintro ⟨os, h, rfl⟩; unfold tols at h; rw [h]; rfl
  | g :: gs, o => by
    unfold sqT
    constructor
    · rintro ⟨a, b, rfl, h1, h2⟩
      obtain ⟨os, h3, rfl⟩ := (sq_tols gs b).mp h2
      exact ⟨a :: os, by unfold tols; exact ⟨a, os, rfl, h1, h3⟩, by rw [List.flatten_cons]⟩
    · rintro ⟨os, h, rfl⟩
      unfold tols at h
      obtain ⟨a, r, rfl, h1, h2⟩ := h
      exact ⟨a, r.flatten, by rw [List.flatten_cons], h1, (sq_tols gs _).mpr ⟨r, h2, rfl⟩⟩
theorem sq_app : ∀ (a b : List G) (o : List Int), sqT (a ++ b) o ↔ ∃ x y, o = x ++ y ∧ sqT a x ∧ sqT b y
  | [], b, o => by
    rw [List.nil_append]
    constructor
    · intro h; exact ⟨[], o, rfl, by unfold sqT; rfl, h⟩
    · rintro ⟨x, y, rfl, h1, h2⟩; unfold sqT at h1; rw [h1]; exact h2
  | g :: a, b, o => by
    rw [List.cons_append]
    constructor
    · intro h
      unfold sqT at h
      obtain ⟨x, y, rfl, h1, h2⟩ := h
      obtain ⟨x2, y2, rfl, h3, h4⟩ := (sq_app a b y).mp h2
      exact ⟨x ++ x2, y2, by rw [List.append_assoc], by unfold sqT; exact ⟨x, x2, rfl, h1, h3⟩, h4⟩
    · rintro ⟨x, y, rfl, h1, h2⟩
      unfold sqT at h1
      obtain ⟨u, v, rfl, h3, h4⟩ := h1
      unfold sqT
      exact ⟨u, v ++ y, by rw [List.append_assoc], h3, (sq_app a b _).mpr ⟨v, y, rfl, h4, h2⟩⟩
theorem sq_one (g : G) (o : List Int) : sqT [g] o ↔ tol g o := by
  unfold sqT
  constructor
  · rintro ⟨a, b, rfl, h, h2⟩; unfold sqT at h2; rw [h2, List.append_nil]; exact h
  · intro h; exact ⟨o, [], by rw [List.append_nil], h, by unfold sqT; rfl⟩
theorem sq_cons (g : G) (gs : List G) (o : List Int) : sqT (g :: gs) o ↔ ∃ a b, o = a ++ b ∧ tol g a ∧ sqT gs b := by
  constructor
  · intro h; unfold sqT at h; exact h
  · intro h; unfold sqT; exact h
theorem sq_nil (o : List Int) : sqT [] o ↔ o = [] := by
  constructor
  · intro h; unfold sqT at h; exact h
  · intro h; unfold sqT; exact h
/-- tols along a permutation -/
theorem tols_perm {gs qs : List G} (p : gs.Perm qs) : ∀ {os : List (List Int)}, tols gs os → ∃ os', os'.Perm os ∧ tols qs os' := by
  induction p with
  | nil => exact fun h => ⟨_, .refl _, h⟩
  | cons g _ ih =>
    intro os h
    unfold tols at h
    obtain ⟨a, r, rfl, h1, h2⟩ := h
    obtain ⟨r', hp, h3⟩ := ih h2
    exact ⟨a :: r', hp.cons a, by unfold tols; exact ⟨a, r', rfl, h1, h3⟩⟩
  | swap x y l =>
    intro os h
    unfold tols at h
    obtain ⟨a, r, rfl, h1, h2⟩ := h
    unfold tols at h2
    obtain ⟨b, r, rfl, h3, h4⟩ := h2
    refine ⟨b :: a :: r, .swap _ _ _, ?_⟩
    unfold tols
    refine ⟨b, a :: r, rfl, h3, ?_⟩
    unfold tols
    exact ⟨a, r, rfl, h1, h4⟩
  | trans _ _ i1 i2 =>
    intro os h
    obtain ⟨o1, p1, h1⟩ := i1 h
    obtain ⟨o2, p2, h2⟩ := i2 h1
    exact ⟨o2, p2.trans p1, h2⟩
theorem perm_tols : ∀ {os' os : List (List Int)}, os'.Perm os → ∀ {gs : List G}, tols gs os → ∃ qs, qs.Perm gs ∧ tols qs os' := by
  intro os' os p
  induction p with
  | nil => exact fun h => ⟨_, .refl _, h⟩
  | cons a _ ih =>
    intro gs h
    cases gs with
    | nil => unfold tols at h; cases h
    | cons g gs =>
      unfold tols at h
      obtain ⟨b, r, e, h1, h2⟩ := h
      cases e
      obtain ⟨qs, hp, h3⟩ := ih h2
      exact ⟨g :: qs, hp.cons g, by unfold tols; exact ⟨_, _, rfl, h1, h3⟩⟩
  | swap x y l =>
    intro gs h
    cases gs with
    | nil => unfold tols at h; cases h
    | cons g gs =>
      unfold tols at h
      obtain ⟨b, r, e, h1, h2⟩ := h
      cases e
      cases gs with
      | nil => unfold tols at h2; cases h2
      | cons q gs =>
        unfold tols at h2
        obtain ⟨b, r, e, h3, h4⟩ := h2
        cases e
        refine ⟨q :: g :: gs, .swap _ _ _, ?_⟩
        unfold tols
        refine ⟨_, _, rfl, h3, ?_⟩
        unfold tols
        exact ⟨_, _, rfl, h1, h4⟩
  | trans _ _ i1 i2 =>
    intro gs h
    obtain ⟨q1, p1, h1⟩ := i2 h
    obtain ⟨q2, p2, h2⟩ := i1 h1
    exact ⟨q2, p2.trans p1, h2⟩
theorem tol_any (ps : List G) (x : Bool) (o : List Int) : tol (.node "any" ps x) o ↔ ∃ qs, qs.Perm ps ∧ sqT qs o := by
  unfold tol
  simp only [if_true]
  constructor
  · rintro ⟨os, h, os', p, rfl⟩
    obtain ⟨qs, hp, hq⟩ := perm_tols p h
    exact ⟨qs, hp, (sq_tols _ _).mpr ⟨os', hq, rfl⟩⟩
  · rintro ⟨qs, hp, h⟩
    obtain ⟨os', h1, rfl⟩ := (sq_tols _ _).mp h
    obtain ⟨os, p, h2⟩ := tols_perm hp h1
    exact ⟨os, h2, os', p.symm, rfl⟩
theorem tols_app : ∀ (a b : List G) (os : List (List Int)), tols (a ++ b) os ↔ ∃ x y, os = x ++ y ∧ tols a x ∧ tols b y
  | [], b, os => by
    rw [List.nil_append]
    constructor
    · intro h; exact ⟨[], os, rfl, by unfold tols; rfl, h⟩
    · rintro ⟨x, y, rfl, h1, h2⟩; unfold tols at h1; rw [h1]; exact h2
  | g :: a, b, os => by
    rw [List.cons_append]
    constructor
    · intro h
      unfold tols at h
      obtain ⟨x, r, rfl, h1, h2⟩ := h
      obtain ⟨x2, y2, rfl, h3, h4⟩ := (tols_app a b r).mp h2
      exact ⟨x :: x2, y2, rfl, by unfold tols; exact ⟨x, x2, rfl, h1, h3⟩, h4⟩
    · rintro ⟨x, y, rfl, h1, h2⟩
      unfold tols at h1
      obtain ⟨u, v, rfl, h3, h4⟩ := h1
      unfold tols
      exact ⟨u, v ++ y, rfl, h3, (tols_app a b _).mpr ⟨v, y, rfl, h4, h2⟩⟩
theorem tols_rev : ∀ (gs : List G) (os : List (List Int)), tols gs os → tols gs.reverse os.reverse
  | [], os, h => by unfold tols at h; rw [h]; show tols [] []; unfold tols; rfl
  | g :: gs, os, h => by
    unfold tols at h
    obtain ⟨a, r, rfl, h1, h2⟩ := h
    rw [List.reverse_cons, List.reverse_cons]
    refine (tols_app _ _ _).mpr ⟨_, _, rfl, tols_rev gs r h2, ?_⟩
    unfold tols
    exact ⟨a, [], rfl, h1, by unfold tols; rfl⟩
theorem tol_row {w : Str} (hw : w ≠ "any") (ps : List G) (x : Bool) (o : List Int) : tol (.node w ps x) o ↔ sqT ps o ∨ sqT ps.reverse o := by
  unfold tol
  rw [sq_tols, sq_tols]
  constructor
  · rintro ⟨os, h, e⟩
    rw [if_neg hw] at e
    rcases e with e | e
    · exact .inl ⟨os, h, e⟩
    · exact .inr ⟨os.reverse, tols_rev _ _ h, e⟩
  · rintro (⟨os, h, e⟩ | ⟨os, h, e⟩)
    · exact ⟨os, h, by rw [if_neg hw]; exact .inl e⟩
    · have := tols_rev _ _ h
      rw [List.reverse_reverse] at this
      exact ⟨os.reverse, this, by rw [if_neg hw, List.reverse_reverse]; exact .inr e⟩
mutual
theorem tol_perm : ∀ (g : G) {o : List Int}, tol g o → o.Perm (lea g)
  | .leaf i, o, h => by unfold tol at h; rw [h, lea]
  | .node w ps x, o, h => by
    unfold tol at h
    obtain ⟨os, h, e⟩ := h
    have p := tols_leas ps h
    rw [lea]
    split at e
    · obtain ⟨os', q, rfl⟩ := e
      exact q.flatten.trans p
    · rcases e with rfl | rfl
      · exact p
      · exact (List.reverse_perm os).flatten.trans p
theorem tols_leas : ∀ (gs : List G) {os : List (List Int)}, tols gs os → os.flatten.Perm (leas gs)
  | [], os, h => by unfold tols at h; rw [h, leas]; exact .refl _
  | g :: gs, os, h => by
    unfold tols at h
    obtain ⟨a, r, rfl, h1, h2⟩ := h
    rw [List.flatten_cons, leas]
    exact (tol_perm g h1).append (tols_leas gs h2)
end
theorem sq_perm {gs : List G} {o : List Int} (h : sqT gs o) : o.Perm (leas gs) := by
  obtain ⟨os, h2, rfl⟩ := (sq_tols _ _).mp h
  exact tols_leas gs h2
mutual
theorem tol_rev : ∀ (g : G) {o : List Int}, tol g o → tol g o.reverse
  | .leaf i, o, h => by unfold tol at h; rw [h]; unfold tol; rfl
  | .node w ps x, o, h => by
    unfold tol at h
    obtain ⟨os, h, e⟩ := h
    have h2 := tols_revs ps h
    unfold tol
    refine ⟨os.map List.reverse, h2, ?_⟩
    split at e
    · rename_i c
      rw [if_pos c]
      obtain ⟨os', q, rfl⟩ := e
      refine ⟨(os'.map List.reverse).reverse, (List.reverse_perm _).trans (q.map _), ?_⟩
      rw [List.reverse_flatten]
    · rename_i c
      rw [if_neg c]
      rcases e with rfl | rfl
      · right; rw [List.reverse_flatten]
      · left; rw [List.reverse_flatten, List.map_reverse, List.reverse_reverse]
theorem tols_revs : ∀ (gs : List G) {os : List (List Int)}, tols gs os → tols gs (os.map List.reverse)
  | [], os, h => by unfold tols at h; rw [h]; unfold tols; rfl
  | g :: gs, os, h => by
    unfold tols at h
    obtain ⟨a, r, rfl, h1, h2⟩ := h
    rw [List.map_cons]
    unfold tols
    exact ⟨_, _, rfl, tol_rev g h1, tols_revs gs h2⟩
end
theorem sq_rev {gs : List G} {o : List Int} (h : sqT gs o) : sqT gs.reverse o.reverse := by
  obtain ⟨os, h2, rfl⟩ := (sq_tols _ _).mp h
  refine (sq_tols _ _).mpr ⟨(os.map List.reverse).reverse, ?_, ?_⟩
  · exact tols_rev _ _ (tols_revs _ h2)
  · rw [List.reverse_flatten]
theorem sq_rev_iff {gs : List G} {o : List Int} : sqT gs.reverse o ↔ sqT gs o.reverse := by
  constructor
  · intro h; have := sq_rev h; rwa [List.reverse_reverse] at this
  · intro h; have := sq_rev h; rwa [List.reverse_reverse] at this
end K01

set_option linter.all false
set_option Elab.async false
set_option maxRecDepth 100000
set_option autoImplicit false
namespace K01
open Pv PySem PySem.Spec L2
open PyProof.Rows hiding St
/-! ### what stands together in blocks; p tells the chosen things -/
def noF (p : Int → Bool) (o : List Int) : Prop := ∀ x ∈ o, p x = false
def alF (p : Int → Bool) (o : List Int) : Prop := ∀ x ∈ o, p x = true
def suf (p : Int → Bool) (o : List Int) : Prop := ∃ a b, o = a ++ b ∧ noF p a ∧ alF p b
def pre (p : Int → Bool) (o : List Int) : Prop := ∃ a b, o = a ++ b ∧ alF p a ∧ noF p b
def mid (p : Int → Bool) (o : List Int) : Prop := ∃ a b c, o = a ++ b ++ c ∧ noF p a ∧ alF p b ∧ noF p c
section
variable {p : Int → Bool}
theorem noF_app {a b : List Int} : noF p (a ++ b) ↔ noF p a ∧ noF p b := by
  unfold noF
  constructor
  · intro h; exact ⟨fun x hx => h x (by simp [hx]), fun x hx => h x (by simp [hx])⟩
  · rintro ⟨h1, h2⟩ x hx
    rcases List.mem_append.mp hx with h | h
    · exact h1 x h
    · exact h2 x h
theorem alF_app {a b : List Int} : alF p (a ++ b) ↔ alF p a ∧ alF p b := by
  unfold alF
  constructor
  · intro h; exact ⟨fun x hx => h x (by simp [hx]), fun x hx => h x (by simp [hx])⟩
  · rintro ⟨h1, h2⟩ x hx
    rcases List.mem_append.mp hx with h | h
    · exact h1 x h
    · exact h2 x h
theorem noF_nil : noF p [] := fun _ h => by cases h
theorem alF_nil : alF p [] := fun _ h => by cases h
theorem noF_perm {a b : List Int} (h : a.Perm b) : noF p a ↔ noF p b := by
  unfold noF
  exact ⟨fun z x hx => z x (h.mem_iff.mpr hx), fun z x hx => z x (h.mem_iff.mp hx)⟩
theorem alF_perm {a b : List Int} (h : a.Perm b) : alF p a ↔ alF p b := by
  unfold alF
  exact ⟨fun z x hx => z x (h.mem_iff.mpr hx), fun z x hx => z x (h.mem_iff.mp hx)⟩
theorem noF_rev {a : List Int} : noF p a.reverse ↔ noF p a := noF_perm (List.reverse_perm a)
theorem alF_rev {a : List Int} : alF p a.reverse ↔ alF p a := alF_perm (List.reverse_perm a)
theorem suf_no {o : List Int} (h : noF p o) : suf p o := ⟨o, [], by rw [List.append_nil], h, alF_nil⟩
theorem suf_al {o : List Int} (h : alF p o) : suf p o := ⟨[], o, rfl, noF_nil, h⟩
theorem pre_no {o : List Int} (h : noF p o) : pre p o := ⟨[], o, rfl, alF_nil, h⟩
theorem pre_al {o : List Int} (h : alF p o) : pre p o := ⟨o, [], by rw [List.append_nil], h, noF_nil⟩
theorem mid_suf {o : List Int} (h : suf p o) : mid p o := by
  obtain ⟨a, b, rfl, h1, h2⟩ := h
  exact ⟨a, b, [], by rw [List.append_nil], h1, h2, noF_nil⟩
theorem mid_pre {o : List Int} (h : pre p o) : mid p o := by
  obtain ⟨a, b, rfl, h1, h2⟩ := h
  exact ⟨[], a, b, rfl, noF_nil, h1, h2⟩
theorem suf_rev {o : List Int} : suf p o.reverse ↔ pre p o := by
  constructor
  · rintro ⟨a, b, e, h1, h2⟩
    refine ⟨b.reverse, a.reverse, ?_, alF_rev.mpr h2, noF_rev.mpr h1⟩
    rw [← List.reverse_append, ← e, List.reverse_reverse]
  · rintro ⟨a, b, rfl, h1, h2⟩
    exact ⟨b.reverse, a.reverse, by rw [List.reverse_append], noF_rev.mpr h2, alF_rev.mpr h1⟩
theorem mid_rev {o : List Int} : mid p o.reverse ↔ mid p o := by
  have key : ∀ {o : List Int}, mid p o → mid p o.reverse := by
    rintro o ⟨a, b, c, rfl, h1, h2, h3⟩
    refine ⟨c.reverse, b.reverse, a.reverse, ?_, noF_rev.mpr h3, alF_rev.mpr h2, noF_rev.mpr h1⟩
    rw [List.reverse_append, List.reverse_append, List.append_assoc]
  exact ⟨fun h => by have := key h; rwa [List.reverse_reverse] at this, key⟩
theorem suf_app {o r : List Int} : suf p (o ++ r) ↔ (noF p o ∧ suf p r) ∨ (suf p o ∧ alF p r) := by
  constructor
  · rintro ⟨a, b, e, h1, h2⟩
    rcases List.append_eq_append_iff.mp e with ⟨c, rfl, rfl⟩ | ⟨c, rfl, rfl⟩
    · rw [noF_app] at h1
      exact .inl ⟨h1.1, c, b, rfl, h1.2, h2⟩
    · rw [alF_app] at h2
      exact .inr ⟨⟨a, c, rfl, h1, h2.1⟩, h2.2⟩
  · rintro (⟨h1, a, b, rfl, h2, h3⟩ | ⟨⟨a, b, rfl, h1, h2⟩, h3⟩)
    · exact ⟨o ++ a, b, by rw [List.append_assoc], noF_app.mpr ⟨h1, h2⟩, h3⟩
    · exact ⟨a, b ++ r, by rw [List.append_assoc], h1, alF_app.mpr ⟨h2, h3⟩⟩
theorem pre_app {o r : List Int} : pre p (o ++ r) ↔ (alF p o ∧ pre p r) ∨ (pre p o ∧ noF p r) := by
  constructor
  · rintro ⟨a, b, e, h1, h2⟩
    rcases List.append_eq_append_iff.mp e with ⟨c, rfl, rfl⟩ | ⟨c, rfl, rfl⟩
    · rw [alF_app] at h1
      exact .inl ⟨h1.1, c, b, rfl, h1.2, h2⟩
    · rw [noF_app] at h2
      exact .inr ⟨⟨a, c, rfl, h1, h2.1⟩, h2.2⟩
  · rintro (⟨h1, a, b, rfl, h2, h3⟩ | ⟨⟨a, b, rfl, h1, h2⟩, h3⟩)
    · exact ⟨o ++ a, b, by rw [List.append_assoc], alF_app.mpr ⟨h1, h2⟩, h3⟩
    · exact ⟨a, b ++ r, by rw [List.append_assoc], h1, noF_app.mpr ⟨h2, h3⟩⟩
theorem mid_app {o r : List Int} : mid p (o ++ r) ↔ (noF p o ∧ mid p r) ∨ (suf p o ∧ pre p r) ∨ (mid p o ∧ noF p r) := by
  constructor
  · rintro ⟨a, b, c, e, h1, h2, h3⟩
    rw [List.append_assoc] at e
    rcases List.append_eq_append_iff.mp e with ⟨d, rfl, e2⟩ | ⟨d, rfl, e2⟩
    · rw [noF_app] at h1
      exact .inl ⟨h1.1, d, b, c, by rw [e2, List.append_assoc], h1.2, h2, h3⟩
    · rcases List.append_eq_append_iff.mp e2.symm with ⟨f, rfl, rfl⟩ | ⟨f, rfl, rfl⟩
      · rw [alF_app] at h2
        exact .inr (.inl ⟨⟨a, d, rfl, h1, h2.1⟩, f, c, rfl, h2.2, h3⟩)
      · rw [noF_app] at h3
        exact .inr (.inr ⟨⟨a, b, f, by rw [List.append_assoc], h1, h2, h3.1⟩, h3.2⟩)
  · rintro (⟨h, a, b, c, rfl, h1, h2, h3⟩ | ⟨⟨a, b, rfl, h1, h2⟩, c, d, rfl, h3, h4⟩ | ⟨⟨a, b, c, rfl, h1, h2, h3⟩, h4⟩)
    · exact ⟨o ++ a, b, c, by simp [List.append_assoc], noF_app.mpr ⟨h, h1⟩, h2, h3⟩
    · exact ⟨a, b ++ c, d, by simp [List.append_assoc], h1, alF_app.mpr ⟨h2, h3⟩, h4⟩
    · exact ⟨a, b, c ++ r, by simp [List.append_assoc], h1, h2, noF_app.mpr ⟨h3, h4⟩⟩
end
/-! ### fills: 0 empty, 1 partly, 2 full -/
def fil (p : Int → Bool) (g : G) : Nat := if (lea g).all p then 2 else if (lea g).any p then 1 else 0
theorem fil_2 {p : Int → Bool} {g : G} : fil p g = 2 ↔ alF p (lea g) := by
  unfold fil alF
  by_cases h : (lea g).all p = true
  · rw [if_pos h]; simp; simpa using h
  · rw [if_neg h]
    constructor
    · intro z; split at z <;> cases z
    · intro z; exact absurd (by simpa using z) h
theorem fil_0 {p : Int → Bool} {g : G} (hn : lea g ≠ []) : fil p g = 0 ↔ noF p (lea g) := by
  unfold fil noF
  obtain ⟨y, hy⟩ := List.exists_mem_of_ne_nil _ hn
  by_cases h : (lea g).all p = true
  · rw [if_pos h]
    constructor
    · intro z; cases z
    · intro z
      have h1 := List.all_eq_true.mp h y hy
      rw [z y hy] at h1; cases h1
  · rw [if_neg h]
    by_cases h2 : (lea g).any p = true
    · rw [if_pos h2]
      constructor
      · intro z; cases z
      · intro z
        obtain ⟨x, hx, hp⟩ := List.any_eq_true.mp h2
        rw [z x hx] at hp; cases hp
    · rw [if_neg h2]
      refine ⟨fun _ x hx => ?_, fun _ => rfl⟩
      rw [Bool.not_eq_true, List.any_eq_false] at h2
      simpa using h2 x hx
theorem fil_le (p : Int → Bool) (g : G) : fil p g ≤ 2 := by
  unfold fil; split
  · exact Nat.le_refl _
  · split <;> omega
theorem fil_cases (p : Int → Bool) (g : G) : fil p g = 0 ∨ fil p g = 1 ∨ fil p g = 2 := by have := fil_le p g; omega
section
variable {p : Int → Bool}
theorem tol_no {g : G} {o : List Int} (h : tol g o) (hn : lea g ≠ []) : noF p o ↔ fil p g = 0 := by rw [fil_0 hn]; exact noF_perm (tol_perm g h)
theorem tol_al {g : G} {o : List Int} (h : tol g o) : alF p o ↔ fil p g = 2 := by rw [fil_2]; exact alF_perm (tol_perm g h)
/-- all parts have a leaf -/
def NE (gs : List G) : Prop := ∀ g ∈ gs, lea g ≠ []
theorem NE.cons {g : G} {gs : List G} : NE (g :: gs) ↔ lea g ≠ [] ∧ NE gs := by unfold NE; simp
theorem NE.app {a b : List G} : NE (a ++ b) ↔ NE a ∧ NE b := by
  unfold NE
  exact ⟨fun h => ⟨fun g hg => h g (by simp [hg]), fun g hg => h g (by simp [hg])⟩, fun h g hg => (List.mem_append.mp hg).elim (h.1 g) (h.2 g)⟩
theorem NE.perm {a b : List G} (h : a.Perm b) : NE a ↔ NE b := by
  unfold NE
  exact ⟨fun z x hx => z x (h.mem_iff.mpr hx), fun z x hx => z x (h.mem_iff.mp hx)⟩
def allE (p : Int → Bool) (gs : List G) : Prop := ∀ g ∈ gs, fil p g = 0
def allFu (p : Int → Bool) (gs : List G) : Prop := ∀ g ∈ gs, fil p g = 2
theorem allE_nil : allE p [] := fun g hg => nomatch hg
theorem allFu_nil : allFu p [] := fun g hg => nomatch hg
theorem sq_no : ∀ {gs : List G} {o : List Int}, sqT gs o → NE gs → (noF p o ↔ allE p gs)
  | [], o, h, _ => by
    rw [(sq_nil o).mp h]
    exact ⟨fun _ => allE_nil, fun _ => noF_nil⟩
  | g :: gs, o, h, hn => by
    obtain ⟨a, b, rfl, h1, h2⟩ := (sq_cons _ _ _).mp h
    rw [NE.cons] at hn
    rw [noF_app, tol_no h1 hn.1, sq_no h2 hn.2]
    unfold allE; simp
theorem sq_al : ∀ {gs : List G} {o : List Int}, sqT gs o → (alF p o ↔ allFu p gs)
  | [], o, h => by
    rw [(sq_nil o).mp h]
    exact ⟨fun _ => allFu_nil, fun _ => alF_nil⟩
  | g :: gs, o, h => by
    obtain ⟨a, b, rfl, h1, h2⟩ := (sq_cons _ _ _).mp h
    rw [alF_app, tol_al h1, sq_al h2]
    unfold allFu; simp
/-- trees side by side, the chosen things at the end: empty ones, at most one of any fill, full ones -/
theorem sq_suf : ∀ {gs : List G} {o : List Int}, sqT gs o → NE gs → suf p o → ∃ (e m f : List G) (a b c : List Int), gs = e ++ m ++ f ∧ o = a ++ b ++ c ∧ sqT e a ∧ sqT m b ∧ sqT f c ∧ allE p e ∧ allFu p f ∧ suf p b ∧ ((m = [] ∧ b = []) ∨ ∃ g, m = [g] ∧ fil p g = 1)
  | [], o, h, _, _ => ⟨[], [], [], [], [], [], rfl, (sq_nil o).mp h, (sq_nil _).mpr rfl, (sq_nil _).mpr rfl, (sq_nil _).mpr rfl, allE_nil, allFu_nil, suf_no noF_nil, .inl ⟨rfl, rfl⟩⟩
  | g :: gs, o, h, hn, hs => by
    obtain ⟨a, b, rfl, h1, h2⟩ := (sq_cons _ _ _).mp h
    rw [NE.cons] at hn
    rcases suf_app.mp hs with ⟨k1, k2⟩ | ⟨k1, k2⟩
    · obtain ⟨e, m, f, x, y, z, rfl, rfl, q1, q2, q3, q4, q5, q6, q7⟩ := sq_suf h2 hn.2 k2
      refine ⟨g :: e, m, f, a ++ x, y, z, rfl, by simp [List.append_assoc], (sq_cons _ _ _).mpr ⟨a, x, rfl, h1, q1⟩, q2, q3, ?_, q5, q6, q7⟩
      intro t ht
      rcases List.mem_cons.mp ht with rfl | ht
      · exact (tol_no h1 hn.1).mp k1
      · exact q4 t ht
    · have hf := (sq_al h2).mp k2
      rcases fil_cases p g with c | c | c
      · refine ⟨[g], [], gs, a, [], b, rfl, by simp, (sq_one _ _).mpr h1, (sq_nil _).mpr rfl, h2, fun t ht => by rw [List.mem_singleton] at ht; rw [ht]; exact c, hf, suf_no noF_nil, .inl ⟨rfl, rfl⟩⟩
      · exact ⟨[], [g], gs, [], a, b, rfl, by simp, (sq_nil _).mpr rfl, (sq_one _ _).mpr h1, h2, allE_nil, hf, k1, .inr ⟨g, rfl, c⟩⟩
      · refine ⟨[], [], g :: gs, [], [], a ++ b, rfl, by simp, (sq_nil _).mpr rfl, (sq_nil _).mpr rfl, (sq_cons _ _ _).mpr ⟨a, b, rfl, h1, h2⟩, allE_nil, ?_, suf_no noF_nil, .inl ⟨rfl, rfl⟩⟩
        intro t ht
        rcases List.mem_cons.mp ht with rfl | ht
        · exact c
        · exact hf t ht
theorem suf_of {e f : List G} {a b c : List Int} (h1 : sqT e a) (h2 : sqT f c) (ne : NE e) (he : allE p e) (hf : allFu p f) (hb : suf p b) : suf p (a ++ b ++ c) := by
  rw [List.append_assoc]
  exact suf_app.mpr (.inl ⟨(sq_no h1 ne).mpr he, suf_app.mpr (.inr ⟨hb, (sq_al h2).mpr hf⟩)⟩)
/-- the chosen things at the beginning -/
theorem sq_pre {gs : List G} {o : List Int} (h : sqT gs o) (hn : NE gs) (hs : pre p o) : ∃ (f m e : List G) (a b c : List Int), gs = f ++ m ++ e ∧ o = a ++ b ++ c ∧ sqT f a ∧ sqT m b ∧ sqT e c ∧ allFu p f ∧ allE p e ∧ pre p b ∧ ((m = [] ∧ b = []) ∨ ∃ g, m = [g] ∧ fil p g = 1) := by
  obtain ⟨e, m, f, a, b, c, h1, h2, h3, h4, h5, h6, h7, h8, h9⟩ := sq_suf (p := p) (sq_rev h) ((NE.perm (List.reverse_perm gs)).mpr hn) (suf_rev.mpr hs)
  refine ⟨f.reverse, m.reverse, e.reverse, c.reverse, b.reverse, a.reverse, ?_, ?_, sq_rev h5, sq_rev h4, sq_rev h3, fun g hg => h7 g (List.mem_reverse.mp hg), fun g hg => h6 g (List.mem_reverse.mp hg), ?_, ?_⟩
  · rw [← List.reverse_reverse gs, h1]; simp [List.append_assoc]
  · rw [← List.reverse_reverse o, h2]; simp [List.append_assoc]
  · rw [← suf_rev, List.reverse_reverse]; exact h8
  · rcases h9 with ⟨rfl, rfl⟩ | ⟨g, rfl, c⟩
    · exact .inl ⟨rfl, rfl⟩
    · exact .inr ⟨g, rfl, c⟩
end
end K01

set_option Elab.async false
set_option linter.all false
set_option maxRecDepth 100000
namespace K01
open Pv PySem PySem.Spec L2
open PyProof.Rows hiding St
def pS (S : List Int) : Int → Bool := fun x => decide (x ∈ S)
theorem isort_mem {l : List Int} {x : Int} : x ∈ isort l ↔ x ∈ l := (isort_perm l).mem_iff
theorem pS_t {S : List Int} {x : Int} : pS S x = true ↔ x ∈ S := by unfold pS; simp
theorem pS_f {S : List Int} {x : Int} : pS S x = false ↔ x ∉ S := by unfold pS; simp
theorem nd_perm {α : Type} : ∀ {l m : List α}, l.Nodup → (∀ x ∈ l, x ∈ m) → m.length ≤ l.length → l.Perm m
  | [], m, _, _, h => by rw [List.eq_nil_of_length_eq_zero (Nat.le_zero.mp h)]
  | a :: l, m, n, s, h => by
    obtain ⟨m1, m2, rfl⟩ := List.append_of_mem (s a (by simp))
    rw [List.nodup_cons] at n
    refine List.Perm.trans (List.Perm.cons a (nd_perm (m := m1 ++ m2) n.2 (fun x hx => ?_) ?_)) List.perm_middle.symm
    · have := s x (by simp [hx])
      simp only [List.mem_append, List.mem_cons] at this ⊢
      rcases this with h | rfl | h
      · exact .inl h
      · exact absurd hx n.1
      · exact .inr h
    · simp only [List.length_append, List.length_cons] at h ⊢; omega
/-- mid, by the places of the chosen ones -/
theorem mid_places {p : Int → Bool} : ∀ (o : List Int), mid p o ↔ ∀ (i j k : Nat) (x y z : Int), i < j → j < k → o[i]? = some x → o[j]? = some y → o[k]? = some z → p x = true → p z = true → p y = true := by
  intro o
  constructor
  · rintro ⟨a, b, c, rfl, h1, h2, h3⟩ i j k x y z hij hjk hx hy hz px pz
    have ia : a.length ≤ i := by
      refine Classical.byContradiction fun q => ?_
      rw [List.append_assoc, List.getElem?_append_left (by omega)] at hx
      have := h1 x (List.mem_of_getElem? hx)
      rw [px] at this; cases this
    have kb : k < a.length + b.length := by
      refine Classical.byContradiction fun q => ?_
      rw [List.getElem?_append_right (by rw [List.length_append]; omega)] at hz
      have := h3 z (List.mem_of_getElem? hz)
      rw [pz] at this; cases this
    rw [List.getElem?_append_left (by rw [List.length_append]; omega), List.getElem?_append_right (by omega)] at hy
    exact h2 y (List.mem_of_getElem? hy)
  · intro h
    induction o with
    | nil => exact ⟨[], [], [], rfl, noF_nil, alF_nil, noF_nil⟩
    | cons t o ih =>
      obtain ⟨a, b, c, e, h1, h2, h3⟩ := ih fun i j k x y z hij hjk hx hy hz px pz => h (i + 1) (j + 1) (k + 1) x y z (by omega) (by omega) (by simpa using hx) (by simpa using hy) (by simpa using hz) px pz
      by_cases pt : p t = true
      · cases b with
        | nil => exact ⟨[], [t], a ++ c, by rw [e]; simp, noF_nil, fun x hx => by rw [List.mem_singleton.mp hx]; exact pt, noF_app.mpr ⟨h1, h3⟩⟩
        | cons u b =>
          cases a with
          | nil =>
            refine ⟨[], t :: u :: b, c, by rw [e]; simp, noF_nil, fun x hx => ?_, h3⟩
            rcases List.mem_cons.mp hx with rfl | hx
            · exact pt
            · exact h2 x hx
          | cons v a =>
            exfalso
            have hv := h1 v (by simp)
            have := h 0 1 (1 + (v :: a).length) t v u (by omega) (by simp) rfl (by rw [e]; rfl) (by
              rw [e, show 1 + (v :: a).length = (v :: a).length + 1 by omega, List.getElem?_cons_succ, List.append_assoc, List.getElem?_append_right (Nat.le_refl _)]
              simp) pt (h2 u (by simp))
            rw [hv] at this; cases this
      · refine ⟨t :: a, b, c, by rw [e]; rfl, fun x hx => ?_, h2, h3⟩
        rcases List.mem_cons.mp hx with rfl | hx
        · simpa using pt
        · exact h1 x hx
theorem cutn {α : Type} (xs : List α) (a : Nat) : cutP xs none (some (a : Int)) = xs.take a := by
  by_cases h : a ≤ xs.length
  · exact cut_pre xs a h
  · unfold cutP
    rw [HT.sIx_nat, HT.sIx_none, Nat.min_eq_right (by omega), List.take_of_length_le (i := a) (by omega)]
    simp
def sv__law_digits : M Fl := sq (bnd (mLst (Pv.ret [])) (setR 2)) (sq (bnd (mSeq (eVar 1)) (loop (tName 3) (sq (mMet 2 (aCons (eOp aMod (look (eCall gInt (kCons (pVar 0) (Pv.ret [])))) (pVar 3)) (Pv.ret [])) gAppend) (sq (bnd (eOp aDiv (pVar 0) (pVar 3)) (setR 0)) (Pv.ret .nx))))) (sq (mRetV 2) (Pv.ret .nx)))
theorem un__law_digits : fn__law_digits = runF 4 2 (sv__law_digits ) := rfl
def dg : Int → List Int → List Int
  | _, [] => []
  | c, s :: r => c % s :: dg (c / s) r
theorem dg_len : ∀ (c : Int) (l : List Int), (dg c l).length = l.length
  | _, [] => rfl
  | c, s :: r => by rw [dg, List.length_cons, List.length_cons, dg_len]
def dgB : M Fl := sq (mMet 2 (aCons (eOp aMod (look (eCall gInt (kCons (pVar 0) (Pv.ret [])))) (pVar 3)) (Pv.ret [])) gAppend) (sq (bnd (eOp aDiv (pVar 0) (pVar 3)) (setR 0)) (Pv.ret .nx))
theorem dg_step {c s : Int} {V : PV} {A : List PV} (h : 0 < s ∧ s < 1073741824) (hz : A.length ≤ 1000) : dgB [.val (.int c), .val V, .own A, .val (.int s)] = .ok .nx [.val (.int (c / s)), .val V, .own (A ++ [.int (c % s)]), .val (.int s)] := by
  have z : A.length < 16777216 := by omega
  unfold dgB
  simp [h.1, h.2, z]
theorem dg_loop {V : PV} : ∀ (l : List Int) (c : Int) (A : List Int) (s3 : Pv.Slot), (∀ s ∈ l, 0 < s ∧ s < 1073741824) → A.length + l.length ≤ 1000 → ∃ c' s3', loop (tName 3) dgB (l.map .int) [.val (.int c), .val V, .own (A.map .int), s3] = .ok .nx [.val (.int c'), .val V, .own ((A ++ dg c l).map .int), s3']
  | [], c, A, s3, _, _ => ⟨c, s3, by rw [dg, List.append_nil]; rfl⟩
  | s :: l, c, A, s3, h, hz => by
    rw [List.length_cons] at hz
    obtain ⟨c', s3', e⟩ := dg_loop (V := V) l (c / s) (A ++ [c % s]) (.val (.int s)) (fun x hx => h x (by simp [hx])) (by rw [List.length_append, List.length_singleton]; omega)
    refine ⟨c', s3', ?_⟩
    have et : tName 3 (.int s) [.val (.int c), .val V, .own (A.map .int), s3] = some [.val (.int c), .val V, .own (A.map .int), .val (.int s)] := rfl
    have eb := dg_step (c := c) (V := V) (A := A.map .int) (h s (by simp)) (by rw [List.length_map]; omega)
    rw [List.map_cons]
    refine (loop_nx et eb).trans ?_
    rw [List.map_append] at e
    rw [dg, show A ++ c % s :: dg (c / s) l = A ++ [c % s] ++ dg (c / s) l by simp]
    exact e
theorem dg_1 {c c' : Int} {L D : List PV} {s3 : Pv.Slot} (e : loop (tName 3) dgB L [.val (.int c), .val (.lst L), .own [], .no] = .ok .nx [.val (.int c'), .val (.lst L), .own D, s3]) : runF 4 2 sv__law_digits [.int c, .lst L] = .ok (.lst D, true) := by
  refine runF_ok (ev' := [.val (.int c'), .val (.lst L), .own D, s3]) ?_ rfl (by decide)
  unfold sv__law_digits
  refine (sq_nx (ev' := [.val (.int c), .val (.lst L), .own [], .no]) (by simp)).trans ?_
  refine (sq_nx (ev' := [.val (.int c'), .val (.lst L), .own D, s3]) ?_).trans (sq_rt (by simp))
  show bnd (mSeq (eVar 1)) (loop (tName 3) dgB) _ = _
  exact (bnd_ok (a := L) (ev' := [.val (.int c), .val (.lst L), .own [], .no]) (by simp)).trans e
theorem digits_ok (c : Int) (l : List Int) (h : ∀ s ∈ l, 0 < s ∧ s < 1073741824) (hz : l.length ≤ 1000) : fn__law_digits [.int c, .lst (l.map .int)] = .ok (.lst ((dg c l).map .int), true) := by
  obtain ⟨c', s3', e⟩ := dg_loop (V := .lst (l.map .int)) l c [] .no h (by simpa using hz)
  rw [un__law_digits]
  exact dg_1 e
theorem dg_get : ∀ {l : List Int} {c : Int} {k : Nat} {s : Int}, l[k]? = some s → (∀ s ∈ l, 0 < s) → ∃ x, atI ((dg c l).map PV.int) (k : Nat) = some (.int x) ∧ 0 ≤ x ∧ x < s
  | [], c, k, s, h, _ => by cases h
  | a :: l, c, 0, s, h, hp => by
    cases h
    have := hp a (by simp)
    exact ⟨c % a, at0, Int.emod_nonneg _ (by omega), Int.emod_lt_of_pos _ this⟩
  | a :: l, c, k + 1, s, h, hp => by
    obtain ⟨x, h1, h2⟩ := dg_get (c := c / a) (k := k) (by simpa using h) (fun x hx => hp x (by simp [hx]))
    refine ⟨x, ?_, h2⟩
    have hk : k < (dg (c / a) l).length := by
      have := (List.getElem?_eq_some_iff.mp (show l[k]? = some s by simpa using h)).1
      rw [dg_len]; exact this
    rw [dg, List.map_cons]
    have e1 : ((dg (c / a) l).map PV.int)[k]? = some (.int x) := by
      have e2 : atI ((dg (c / a) l).map PV.int) (k : Nat) = ((dg (c / a) l).map PV.int)[k]? := by
        rw [List.getElem?_eq_getElem (by rw [List.length_map]; exact hk)]
        exact atI_nat (List.getElem?_eq_getElem (by rw [List.length_map]; exact hk))
      rw [← e2]; exact h1
    exact atI_nat (by rw [List.getElem?_cons_succ]; exact e1)
def sv__law_together : M Fl := sq (bnd (mComp (mRng1 (kCons (look (eCall gLen (kCons (pVar 0) (Pv.ret [])))) (Pv.ret []))) (tName 3) (blOf (eOp (gIn false) (look (eOp gIx (pVar 0) (pVar 3))) (pVar 1))) (eVar 3) [3]) (setR 2)) (sq (bnd (vOr (eOp cLt (look (eCall gLen (kCons (pVar 2) (Pv.ret [])))) (look (eC (.int 2)))) (eOp (gEq false) (look (eOp aSub (look (eOp gIx (pVar 2) (look (vNeg (look (eC (.int 1))))))) (look (eOp gIx (pVar 2) (look (eC (.int 0))))))) (look (eOp aSub (look (eCall gLen (kCons (pVar 2) (Pv.ret [])))) (look (eC (.int 1))))))) mRet) (Pv.ret .nx))
/-- the places of the chosen ones -/
def plc (S o : List Int) : List Int := (Pv.upTo 0 o.length).filter fun i => decide (o.getD i.toNat 0 ∈ S)
theorem plc_mem {S o : List Int} {i : Nat} : (i : Int) ∈ plc S o ↔ ∃ x, o[i]? = some x ∧ x ∈ S := by
  unfold plc Pv.upTo
  rw [List.mem_filter, List.mem_map]
  constructor
  · rintro ⟨⟨k, hk, e⟩, h⟩
    have : k = i := by omega
    subst this
    rw [List.mem_range] at hk
    refine ⟨o[k], List.getElem?_eq_getElem hk, ?_⟩
    simpa [List.getD_eq_getElem?_getD, List.getElem?_eq_getElem hk] using h
  · rintro ⟨x, hx, h⟩
    have hk := (List.getElem?_eq_some_iff.mp hx).1
    refine ⟨⟨i, List.mem_range.mpr hk, by omega⟩, ?_⟩
    simp [List.getD_eq_getElem?_getD, hx, h]
theorem plc_nat {S o : List Int} {z : Int} (h : z ∈ plc S o) : ∃ i : Nat, z = (i : Int) ∧ i < o.length := by
  unfold plc Pv.upTo at h
  obtain ⟨k, hk, e⟩ := List.mem_map.mp (List.mem_filter.mp h).1
  exact ⟨k, by omega, List.mem_range.mp hk⟩
theorem plc_asc (S o : List Int) : (plc S o).Pairwise (· < ·) := (upTo_pair o.length).sublist List.filter_sublist
/-- ascending places without a gap -/
theorem asc_gap : ∀ {l : List Int} {a b : Int}, (a :: (l ++ [b])).Pairwise (· < ·) → ((b - a = (l.length : Int) + 1) ↔ ∀ x, a ≤ x → x ≤ b → x ∈ a :: (l ++ [b]))
  | l, a, b, h => by
    have hb : ∀ x ∈ a :: (l ++ [b]), a ≤ x ∧ x ≤ b := fun x hx => by
      rw [List.pairwise_cons, List.pairwise_append] at h
      have hab := h.1 b (by simp)
      rcases List.mem_cons.mp hx with rfl | hx
      · omega
      · rcases List.mem_append.mp hx with hx | hx
        · have := h.1 x (by simp [hx])
          have := h.2.2.2 x hx b (by simp)
          omega
        · rw [List.mem_singleton.mp hx]; omega
    have nd : (a :: (l ++ [b])).Nodup := h.imp fun z => by omega
    have hab : a < b := by
      rw [List.pairwise_cons] at h
      exact h.1 b (by simp)
    have sub : ∀ x ∈ a :: (l ++ [b]), x ∈ (List.range (b - a + 1).toNat).map fun (i : Nat) => a + (i : Int) := fun x hx => by
      have := hb x hx
      exact List.mem_map.mpr ⟨(x - a).toNat, List.mem_range.mpr (by omega), by omega⟩
    have len : (a :: (l ++ [b])).length = l.length + 2 := by simp
    constructor
    · intro e x h1 h2
      have p := nd_perm nd sub (by rw [List.length_map, List.length_range, len]; omega)
      exact p.mem_iff.mpr (List.mem_map.mpr ⟨(x - a).toNat, List.mem_range.mpr (by omega), by omega⟩)
    · intro e
      have nd2 : ((List.range (b - a + 1).toNat).map fun (i : Nat) => a + (i : Int)).Nodup := by
        rw [List.nodup_iff_pairwise_ne, List.pairwise_map]
        exact List.pairwise_lt_range.imp fun z => by omega
      have hl : ((List.range (b - a + 1).toNat).map fun (i : Nat) => a + (i : Int)).length ≤ (a :: (l ++ [b])).length := by
        refine Classical.byContradiction fun z => ?_
        have p := nd_perm nd2 (m := a :: (l ++ [b])) (fun x hx => by
          obtain ⟨i, hi, rfl⟩ := List.mem_map.mp hx
          rw [List.mem_range] at hi
          exact e _ (by omega) (by omega)) (by omega)
        rw [p.length_eq] at z; omega
      have p := nd_perm nd sub hl
      have := p.length_eq
      rw [List.length_map, List.length_range, len] at this
      omega
/-- without a gap: together -/
theorem plc_mid {S o : List Int} : mid (pS S) o ↔ ∀ x y z : Int, x ∈ plc S o → z ∈ plc S o → x ≤ y → y ≤ z → y ∈ plc S o := by
  rw [mid_places]
  unfold pS
  constructor
  · intro h x y z hx hz h1 h2
    obtain ⟨i, rfl, hi⟩ := plc_nat hx
    obtain ⟨k, rfl, hk⟩ := plc_nat hz
    obtain ⟨j, rfl⟩ : ∃ j : Nat, y = (j : Int) := ⟨y.toNat, by omega⟩
    obtain ⟨a, ha, hS⟩ := plc_mem.mp hx
    obtain ⟨c, hc, hS2⟩ := plc_mem.mp hz
    by_cases e1 : i = j
    · rw [← e1]; exact hx
    · by_cases e2 : j = k
      · rw [e2]; exact hz
      · have hj : j < o.length := by omega
        have := h i j k a o[j] c (by omega) (by omega) ha (List.getElem?_eq_getElem hj) hc (by simpa using hS) (by simpa using hS2)
        exact plc_mem.mpr ⟨o[j], List.getElem?_eq_getElem hj, by simpa using this⟩
  · intro h i j k x y z h1 h2 hx hy hz px pz
    have a := plc_mem.mpr ⟨x, hx, by simpa using px⟩
    have c := plc_mem.mpr ⟨z, hz, by simpa using pz⟩
    obtain ⟨y', e, hy'⟩ := plc_mem.mp (h _ (j : Int) _ a c (by omega) (by omega))
    rw [hy] at e; cases e
    simpa using hy'
theorem plc_ok (S o : List Int) : mid (pS S) o ↔ (plc S o).length < 2 ∨ ∃ a l b, plc S o = a :: (l ++ [b]) ∧ b - a = (l.length : Int) + 1 := by
  have asc := plc_asc S o
  rw [plc_mid]
  generalize plc S o = P at *
  match P, asc with
  | [], _ => exact ⟨fun _ => .inl (by simp), fun _ x y z hx => by cases hx⟩
  | [a], _ =>
    refine ⟨fun _ => .inl (by simp), fun _ x y z hx hz h1 h2 => ?_⟩
    rw [List.mem_singleton] at hx hz ⊢
    omega
  | a :: c :: r, asc =>
    obtain ⟨l, b, e⟩ : ∃ l b, c :: r = l ++ [b] := by
      rcases List.eq_nil_or_concat (c :: r) with z | ⟨l, b, z⟩
      · cases z
      · exact ⟨l, b, by rw [z, List.concat_eq_append]⟩
    rw [e] at asc ⊢
    have g := asc_gap asc
    have hb : ∀ x ∈ a :: (l ++ [b]), a ≤ x ∧ x ≤ b := fun x hx => by
      rw [List.pairwise_cons, List.pairwise_append] at asc
      have hab := asc.1 b (by simp)
      rcases List.mem_cons.mp hx with rfl | hx
      · omega
      · rcases List.mem_append.mp hx with hx | hx
        · have := asc.1 x (by simp [hx])
          have := asc.2.2.2 x hx b (by simp)
          omega
        · rw [List.mem_singleton.mp hx]; omega
    constructor
    · intro h
      exact .inr ⟨a, l, b, rfl, g.mpr fun x h1 h2 => h a x b (by simp) (by simp) h1 h2⟩
    · rintro (h | ⟨a', l', b', e1, e2⟩)
      · simp at h; omega
      · injection e1 with e3 e4
        have e5 := List.append_inj' e4 rfl
        have e6 : b = b' := by simpa using e5.2
        subst e3; rw [← e5.1, ← e6] at e2
        have := g.mp e2
        exact fun x y z hx hz h1 h2 => this y (by have := hb x hx; omega) (by have := hb z hz; omega)
def toB : M Fl := bnd (vOr (eOp cLt (look (eCall gLen (kCons (pVar 2) (Pv.ret [])))) (look (eC (.int 2)))) (eOp (gEq false) (look (eOp aSub (look (eOp gIx (pVar 2) (look (vNeg (look (eC (.int 1))))))) (look (eOp gIx (pVar 2) (look (eC (.int 0))))))) (look (eOp aSub (look (eCall gLen (kCons (pVar 2) (Pv.ret [])))) (look (eC (.int 1))))))) mRet
theorem toB_ok {A B : Pv.Slot} (P : List Int) : ∃ b : Bool, toB [A, B, .own (P.map .int), .no] = .ok (.rt (.bl b, false)) [A, B, .own (P.map .int), .no] ∧ (b = true ↔ P.length < 2 ∨ ∃ a l c, P = a :: (l ++ [c]) ∧ c - a = (l.length : Int) + 1) := by
  have neg : vNeg (look (eC (.int 1))) = eC (.int (-1)) := rfl
  have hl : (P.map PV.int).length = P.length := List.length_map _
  by_cases c : P.length < 2
  · refine ⟨true, ?_, ⟨fun _ => .inl c, fun _ => rfl⟩⟩
    unfold toB
    have : (P.length : Int) < 2 := by omega
    generalize P.map PV.int = V at *
    simp [hl, this]
  · obtain ⟨a, l, b, e⟩ : ∃ a l b, P = a :: (l ++ [b]) := by
      match P, c with
      | [], c => simp at c
      | [_], c => simp at c
      | a :: d :: r, _ =>
        rcases List.eq_nil_or_concat (d :: r) with z | ⟨l, b, z⟩
        · cases z
        · exact ⟨a, l, b, by rw [z, List.concat_eq_append]⟩
    have c' : ¬ (P.length : Int) < 2 := by omega
    have e0 : atI (P.map PV.int) 0 = some (.int a) := by rw [e]; exact at0
    have e1 : atI (P.map PV.int) (-1) = some (.int b) := by
      rw [e, show (a :: (l ++ [b])).map PV.int = (a :: l).map PV.int ++ [.int b] by simp]
      exact atI_last _ _
    have el : (P.length : Int) - 1 = (l.length : Int) + 1 := by rw [e, List.length_cons, List.length_append, List.length_singleton]; omega
    refine ⟨decide (b - a = (l.length : Int) + 1), ?_, ?_⟩
    · unfold toB
      generalize P.map PV.int = V at *
      generalize P.length = n at *
      simp [neg, hl, c', e0, e1, el]
    · rw [decide_eq_true_eq]
      constructor
      · intro h; exact .inr ⟨a, l, b, e, h⟩
      · rintro (h | ⟨a', l', b', e2, h⟩)
        · exact absurd h c
        · rw [e] at e2
          injection e2 with e3 e4
          have e5 := List.append_inj' e4 rfl
          have e6 : b = b' := by simpa using e5.2
          rw [e3, e6, e5.1]; exact h
def bit (r i : Int) : Bool := decide (r / (i + 1) / (1 + i * i) % 2 = 1)
def setT : M Bool := blOf (eOp (gEq false) (look (eOp aMod (look (eCall gInt (kCons (look (eOp aDiv (look (eOp aDiv (pVar 2) (look (eOp gAdd (pVar 3) (look (eC (.int 1))))))) (look (eOp gAdd (look (eC (.int 1))) (look (eOp aMul (pVar 3) (pVar 3))))))) (Pv.ret [])))) (look (eC (.int 2))))) (look (eC (.int 1))))
theorem setT_ok {c n r i : Int} (h : 0 ≤ i) (h2 : i < 100) : setT [.val (.int c), .val (.int n), .val (.int r), .val (.int i)] = .ok (bit r i) [.val (.int c), .val (.int n), .val (.int r), .val (.int i)] := by
  have q0 : 0 ≤ i * i := Int.mul_nonneg h h
  have q1 : i * i ≤ 99 * 99 := Int.mul_le_mul (by omega) (by omega) h (by omega)
  have a1 : 0 < i + 1 ∧ i + 1 < 1073741824 := by omega
  have a2 : 0 < 1 + i * i ∧ 1 + i * i < 1073741824 := by omega
  have a3 : (smallI i || smallI i) = true := by
    unfold smallI
    rw [decide_eq_true (by omega)]
    rfl
  unfold setT bit
  have m : aMul (.int i) (.int i) = some (.int (i * i), false) := by rw [aMul_ii, if_pos a3]
  have d1 : aDiv (.int r) (.int (i + 1)) = some (.int (r / (i + 1)), false) := by rw [aDiv_ii, if_pos a1]
  have d2 : aDiv (.int (r / (i + 1))) (.int (1 + i * i)) = some (.int (r / (i + 1) / (1 + i * i)), false) := by rw [aDiv_ii, if_pos a2]
  simp [-aMul_ii, -aDiv_ii, m, d1, d2]
noncomputable def drawnSet (c n : Int) : List Int := (Pv.upTo 0 n.toNat).filter (bit (richV c))
theorem lawset_ok (c n : Int) (h0 : 0 ≤ n) (h : n ≤ 24) : fn__law_set [.int c, .int n] = .ok (.tup ((drawnSet c n).map .int), false) := by
  have hc : compr (tName 3) setT (eVar 3) [3] [] (rgP 0 n.toNat) [.val (.int c), .val (.int n), .val (.int (richV c)), .no] = .ok ((drawnSet c n).map .int) [.val (.int c), .val (.int n), .val (.int (richV c)), .no] := by
    rw [rgP_eq]
    refine compr_int _ _ rfl (fun i hi => ?_) (by rw [upTo_len, SZ]; omega)
    unfold Pv.upTo at hi
    obtain ⟨k, hk, rfl⟩ := List.mem_map.mp hi
    rw [List.mem_range] at hk
    exact setT_ok (by omega) (by omega)
  have h2 : mComp (mRng1 (kCons (pVar 1) (Pv.ret []))) (tName 3) setT (eVar 3) [3] [.val (.int c), .val (.int n), .val (.int (richV c)), .no] = .ok (.lst ((drawnSet c n).map .int), true) [.val (.int c), .val (.int n), .val (.int (richV c)), .no] :=
    comp_ok (rng1_ok (ev' := [.val (.int c), .val (.int n), .val (.int (richV c)), .no]) (by simp) (okR_mid (by omega) (by omega))) hc
  have h3 : ∀ (m : M RV) (L : List PV), m [.val (.int c), .val (.int n), .val (.int (richV c)), .no] = .ok (.lst L, true) [.val (.int c), .val (.int n), .val (.int (richV c)), .no] → sq (bnd (eCall gTuple (kCons (look m) (Pv.ret []))) mRet) (Pv.ret .nx) [.val (.int c), .val (.int n), .val (.int (richV c)), .no] = .ok (.rt (.tup L, false)) [.val (.int c), .val (.int n), .val (.int (richV c)), .no] := fun m L h => by simp [h]
  have h4 : ∀ F : Fn, F [.int c] = .ok (.int (richV c), false) → bnd (eFn F (aCons (eVar 0) (Pv.ret []))) (setR 2) [.val (.int c), .val (.int n), .no, .no] = .ok .nx [.val (.int c), .val (.int n), .val (.int (richV c)), .no] := fun F h => by simp [h]
  unfold fn__law_set st__law_set
  refine runF_ok (ev' := [.val (.int c), .val (.int n), .val (.int (richV c)), .no]) ?_ rfl (by decide)
  exact (sq_nx (h4 _ (rich_eq c))).trans (h3 _ _ h2)
theorem cut_sub (o : List Int) (lo hi : Option Int) : (cutP o lo hi).Sublist o := by
  unfold cutP
  exact (List.take_sublist _ _).trans (List.drop_sublist _ _)

theorem minmax (x y : Int) : ∃ lo hi : Int, gMin [.int x, .int y] = some (.int lo, false) ∧ gMax [.int x, .int y] = some (.int hi, false) ∧ lo ≤ hi ∧ (lo = x ∨ lo = y) ∧ (hi = x ∨ hi = y) := by
  have e1 : gMin [.int x, .int y] = some (.int (lmin x [y]), false) := rfl
  have e2 : gMax [.int x, .int y] = some (.int (lmax x [y]), false) := rfl
  obtain ⟨a1, a2, a3⟩ := lmin_le [y] x
  obtain ⟨b1, b2, b3⟩ := lmax_le [y] x
  refine ⟨_, _, e1, e2, by omega, ?_, ?_⟩
  · rcases a3 with h | h
    · exact .inl h
    · exact .inr (List.mem_singleton.mp h)
  · rcases b3 with h | h
    · exact .inl h
    · exact .inr (List.mem_singleton.mp h)
def sv__law_stretch (F_law_digits F_law_rich : Fn) : M Fl := sq (bnd (eFn F_law_digits (aCons (eFn F_law_rich (aCons (eVar 0) (Pv.ret []))) (aCons (mLst (aCons (eCall gLen (kCons (pVar 1) (Pv.ret []))) (aCons (eCall gLen (kCons (pVar 1) (Pv.ret []))) (Pv.ret [])))) (Pv.ret [])))) (setR 2)) (sq (bnd (eCall gMin (kCons (look (eOp gIx (pVar 2) (look (eC (.int 0))))) (kCons (look (eOp gIx (pVar 2) (look (eC (.int 1))))) (Pv.ret [])))) (setR 3)) (sq (bnd (eCall gMax (kCons (look (eOp gIx (pVar 2) (look (eC (.int 0))))) (kCons (look (eOp gIx (pVar 2) (look (eC (.int 1))))) (Pv.ret [])))) (setR 4)) (sq (bnd (eCall gTuple (kCons (look (eCall gSorted (kCons (look (eSl (pVar 1) (soInt (pVar 3)) (soInt (look (eOp gAdd (pVar 4) (look (eC (.int 1)))))))) (Pv.ret [])))) (Pv.ret []))) mRet) (Pv.ret .nx))))
theorem un__law_stretch : fn__law_stretch = runF 5 2 (sv__law_stretch fn__law_digits fn__law_rich) := rfl
theorem st_1 {Fd Fr : Fn} {O : List PV} {c r x y lo hi : Int} {D W V : List PV} (h0 : Fr [.int c] = .ok (.int r, false)) (h1 : Fd [.int r, .lst [.int (O.length : Nat), .int (O.length : Nat)]] = .ok (.lst D, true)) (d0 : atI D 0 = some (.int x)) (d1 : atI D 1 = some (.int y)) (e1 : gMin [.int x, .int y] = some (.int lo, false)) (e2 : gMax [.int x, .int y] = some (.int hi, false)) (hc : cutP O (some lo) (some (hi + 1)) = W) (hs : gSorted [.tup W] = some (.lst V, true)) : runF 5 2 (sv__law_stretch Fd Fr) [.int c, .tup O] = .ok (.tup V, false) := by
  unfold sv__law_stretch
  simp [h0, h1, d0, d1, e1, e2, hc, hs]
theorem stretch_ok2 (c : Int) (o : List Int) (h1 : 1 ≤ o.length) (h : o.length ≤ 24) : ∃ S : List Int, fn__law_stretch [.int c, .tup (o.map .int)] = .ok (.tup ((isort S).map .int), false) ∧ S.Sublist o := by
  have e0 := rich_eq c
  have hl : (o.map PV.int).length = o.length := List.length_map _
  have e1 := digits_ok (richV c) [(o.length : Int), (o.length : Int)] (fun s hs => by
    have : s = (o.length : Int) := by simpa using hs
    rw [this]; exact ⟨by omega, by omega⟩) (by simp)
  obtain ⟨x, d0, _⟩ := dg_get (l := [(o.length : Int), (o.length : Int)]) (c := richV c) (k := 0) rfl (fun s hs => by
    have : s = (o.length : Int) := by simpa using hs
    rw [this]; omega)
  obtain ⟨y, d1, _⟩ := dg_get (l := [(o.length : Int), (o.length : Int)]) (c := richV c) (k := 1) rfl (fun s hs => by
    have : s = (o.length : Int) := by simpa using hs
    rw [this]; omega)
  obtain ⟨lo, hi, m1, m2, _⟩ := minmax x y
  refine ⟨cutP o (some lo) (some (hi + 1)), ?_, cut_sub _ _ _⟩
  rw [un__law_stretch]
  have e2 : ([(o.length : Int), (o.length : Int)] : List Int).map PV.int = [.int ((o.map PV.int).length : Nat), .int ((o.map PV.int).length : Nat)] := by rw [hl]; rfl
  rw [e2] at e1
  exact st_1 e0 e1 d0 d1 m1 m2 (cut_map o _ _) (by rw [gSorted_t, intsP_map']; rfl)
theorem cell_z (ns : List Int) {z : Int} (h : 0 ≤ z) : ∃ r : Int, fn__law_cell [.scr ns, .int z] = .ok (.int r, false) := by
  obtain ⟨k, rfl⟩ : ∃ k : Nat, z = (k : Int) := ⟨z.toNat, by omega⟩
  exact cell_ok ns k

def tabB (Fc Fs Fr : Fn) : M Fl := sq (mIfS (blOf (eOp cLt (look (eOp gAdd (pVar 1) (pVar 5))) (look (eCall gLen (kCons (pVar 0) (Pv.ret [])))))) (sq (bnd (eOp gAdd (look (eFn Fc (aCons (eVar 0) (aCons (eOp gAdd (pVar 1) (pVar 5)) (Pv.ret []))))) (pVar 5)) (setR 6)) (sq (mIfS (blOf (eOp (gEq false) (look (eOp aMod (look (eCall gInt (kCons (pVar 6) (Pv.ret [])))) (look (eC (.int 8))))) (look (eC (.int 3))))) (sq (mMet 4 (aCons (eFn Fs (aCons (eOp aDiv (pVar 6) (look (eC (.int 8)))) (aCons (eVar 2) (Pv.ret [])))) (Pv.ret [])) gAppend) (Pv.ret .nx)) (sq (mMet 4 (aCons (eFn Fr (aCons (eOp aDiv (pVar 6) (look (eC (.int 8)))) (aCons (eVar 3) (Pv.ret [])))) (Pv.ret [])) gAppend) (Pv.ret .nx))) (Pv.ret .nx))) (Pv.ret .nx)) (Pv.ret .nx)
def tabS (ns : List Int) (a : Nat) (n : Int) (o : List Int) (T : List (List Int)) (s5 s6 : Pv.Slot) : SL := [.val (.scr ns), .val (.int a), .val (.int n), .val (.tup (o.map .int)), .own (tabV T), s5, s6]
theorem tab_step {Fc Fs Fr : Fn} {ns : List Int} {a : Nat} {n : Int} {o : List Int} {Ok : List Int → Prop} (hc : ∀ k : Nat, ∃ r : Int, Fc [.scr ns, .int k] = .ok (.int r, false)) (hs : ∀ c : Int, ∃ s, Fs [.int c, .int n] = .ok (.tup (s.map .int), false) ∧ Ok s) (hr : ∀ c : Int, ∃ s, Fr [.int c, .tup (o.map .int)] = .ok (.tup (s.map .int), false) ∧ Ok s)
    (T : List (List Int)) (hT : T.length ≤ 100) (j : Nat) (s6 : Pv.Slot) : ∃ T' s6', tabB Fc Fs Fr (tabS ns a n o T (.val (.int j)) s6) = .ok .nx (tabS ns a n o T' (.val (.int j)) s6') ∧ (T' = T ∨ ∃ s, Ok s ∧ T' = T ++ [s]) := by
  unfold tabB tabS
  have hl : (tabV T).length < 16777216 := by unfold tabV; rw [List.length_map]; omega
  by_cases c : a + j < ns.length
  · obtain ⟨r, e⟩ := hc (a + j)
    have e' : Fc [.scr ns, .int ((a : Int) + (j : Int))] = .ok (.int r, false) := e
    have c' : (a : Int) + (j : Int) < (ns.length : Int) := by omega
    obtain ⟨s, es, ks⟩ := hs ((r + j) / 8)
    obtain ⟨t, et, kt⟩ := hr ((r + j) / 8)
    by_cases q : (r + j) % 8 = 3
    · refine ⟨T ++ [s], .val (.int (r + j)), ?_, .inr ⟨s, ks, rfl⟩⟩
      have ea : tabV (T ++ [s]) = tabV T ++ [.tup (s.map .int)] := by unfold tabV; rw [List.map_append]; rfl
      rw [ea]
      generalize tabV T = V at *
      generalize o.map PV.int = O at *
      generalize s.map PV.int = W at *
      simp [c', e', q, es, hl]
    · refine ⟨T ++ [t], .val (.int (r + j)), ?_, .inr ⟨t, kt, rfl⟩⟩
      have ea : tabV (T ++ [t]) = tabV T ++ [.tup (t.map .int)] := by unfold tabV; rw [List.map_append]; rfl
      rw [ea]
      generalize tabV T = V at *
      generalize o.map PV.int = O at *
      generalize t.map PV.int = W at *
      simp [c', e', q, et, hl]
  · have c' : ¬ (a : Int) + (j : Int) < (ns.length : Int) := by omega
    refine ⟨T, s6, ?_, .inl rfl⟩
    simp [c']
theorem tab_loop {Fc Fs Fr : Fn} {ns : List Int} {a : Nat} {n : Int} {o : List Int} {Ok : List Int → Prop} (hc : ∀ k : Nat, ∃ r : Int, Fc [.scr ns, .int k] = .ok (.int r, false)) (hs : ∀ c : Int, ∃ s, Fs [.int c, .int n] = .ok (.tup (s.map .int), false) ∧ Ok s) (hr : ∀ c : Int, ∃ s, Fr [.int c, .tup (o.map .int)] = .ok (.tup (s.map .int), false) ∧ Ok s) :
    ∃ (T : List (List Int)) (s5 s6 : Pv.Slot), loop (tName 5) (tabB Fc Fs Fr) (rgP 0 8) (tabS ns a n o [] .no .no) = .ok .nx (tabS ns a n o T s5 s6) ∧ T.length ≤ 8 ∧ ∀ s ∈ T, Ok s := by
  obtain ⟨ev', e1, e2⟩ := loop_inv (t := tName 5) (mb := tabB Fc Fs Fr) (ps := rgP 0 8) (I := fun k ev => k ≤ 8 ∧ ∃ (T : List (List Int)) (s5 s6 : Pv.Slot), ev = tabS ns a n o T s5 s6 ∧ T.length ≤ k ∧ ∀ s ∈ T, Ok s) (Q := fun _ => False) 0 (ev := tabS ns a n o [] .no .no)
    (fun j p ev hp hI => by
      obtain ⟨hj, rfl⟩ := rgP_get hp
      obtain ⟨hk, T, s5, s6, rfl, hT, hO⟩ := hI
      obtain ⟨T', s6', e, hT'⟩ := tab_step (a := a) hc hs hr T (by omega) j s6
      refine ⟨tabS ns a n o T (.val (.int j)) s6, by rw [Int.zero_add]; rfl, .inl ⟨_, e, by omega, T', _, s6', rfl, ?_, ?_⟩⟩
      · rcases hT' with rfl | ⟨s, _, rfl⟩
        · omega
        · rw [List.length_append, List.length_singleton]; omega
      · rcases hT' with rfl | ⟨s, ks, rfl⟩
        · exact hO
        · intro t ht
          rcases List.mem_append.mp ht with ht | ht
          · exact hO t ht
          · rw [List.mem_singleton] at ht
            rw [ht]; exact ks)
    ⟨by omega, [], .no, .no, rfl, Nat.le_refl _, fun s hs => by cases hs⟩
  rcases e2 with ⟨_, T, s5, s6, rfl, hT, hO⟩ | h
  · rw [rgP_len] at hT
    exact ⟨T, s5, s6, e1, by omega, hO⟩
  · exact h.elim
theorem table_lem (ns : List Int) (a : Nat) (n : Nat) (o : List Int) (h1 : 1 ≤ n) (h : n ≤ 24) (ho : o.Perm (Pv.upTo 0 n)) : ∃ T : List (List Int), fn__law_table [.scr ns, .int a, .int n, .tup (o.map .int)] = .ok (.tup (tabV T), false) ∧ T.length ≤ 8 ∧ ∀ s ∈ T, isSet n s = true := by
  have ol : o.length = n := by rw [ho.length_eq, upTo_len]
  have hn : 1 ≤ (n : Int) ∧ (n : Int) ≤ 24 := by omega
  obtain ⟨T, s5, s6, e, hT, hO⟩ := tab_loop (Fc := fn__law_cell) (Fs := fn__law_set) (Fr := fn__law_stretch) (ns := ns) (a := a) (n := n) (o := o) (Ok := fun s => isSet n s = true) (fun k => cell_ok ns k)
    (fun c => ⟨_, lawset_ok c n (by omega) (by omega), by unfold drawnSet; exact filter_set hn _⟩)
    (fun c => by
      obtain ⟨S, eS, hS⟩ := stretch_ok2 c o (by omega) (by omega)
      refine ⟨_, eS, isort_set hn ((ho.nodup_iff.mpr (upTo_nodup _)).sublist hS) fun t ht => ?_⟩
      rw [Int.toNat_natCast]
      exact ho.mem_iff.mp (hS.subset ht))
  refine ⟨T, ?_, hT, hO⟩
  have key : ∀ ev : SL, mRng1 (kCons (look (eC (.int 8))) (Pv.ret [])) ev = .ok (rgP 0 8) ev := fun ev => rng1_nat (n := 8) rfl (by omega)
  generalize rgP 0 8 = q at e key
  unfold fn__law_table st__law_table
  refine runF_ok (ev' := tabS ns a n o T s5 s6) ?_ rfl (by decide)
  refine (sq_nx (ev' := tabS ns a n o [] .no .no) (by unfold tabS; generalize o.map PV.int = O; simp [tabV])).trans ?_
  refine (sq_nx (ev' := tabS ns a n o T s5 s6) ((bnd_ok (key _)).trans e)).trans ?_
  refine sq_rt ?_
  unfold tabS
  generalize o.map PV.int = O
  generalize tabV T = V
  simp
theorem toDs_tab : ∀ T : List (List Int), isDs (tabV T) = true ∧ PyData.canLayAll0 (toDs (tabV T)) = true ∧ PyData.depthAll (toDs (tabV T)) ≤ 1
  | [] => by
    unfold tabV
    rw [List.map_nil]
    unfold isDs toDs PyData.canLayAll0 PyData.depthAll
    exact ⟨rfl, rfl, by omega⟩
  | t :: T => by
    obtain ⟨h1, h2, h3⟩ := toDs_tab T
    rw [show tabV (t :: T) = .tup (t.map .int) :: tabV T from rfl]
    unfold isDs toDs PyData.canLayAll0 PyData.depthAll
    unfold isD toD PyData.canLay0 PyData.depth
    rw [h1, h2, isDs_ints, toDs_ints, lay_ints, depth_ints]
    exact ⟨rfl, rfl, by omega⟩
theorem okD_tab (T : List (List Int)) : okD (.tup (tabV T)) = true := by
  obtain ⟨h1, h2, h3⟩ := toDs_tab T
  unfold okD isD toD SeqAt.shaped PyData.canLay0 PyData.depth
  rw [h1, h2, decide_eq_true (by omega)]
  rfl
def sv_gap_count : M Fl := sq (bnd (mComp (mSeq (eVar 0)) (tName 4) (Pv.ret true) (eOp (gIn false) (pVar 4) (pVar 1)) [4]) (setR 2)) (sq (bnd (mComp (mZip (aCons (eOp gAdd (look (mLst (aCons (eC (.bl false)) (Pv.ret [])))) (pVar 2)) (aCons (eVar 2) (Pv.ret [])))) (tNames [5, 6]) (Pv.ret true) (vAnd (eVar 6) (vNot (eVar 5))) [5, 6]) (setR 3)) (sq (bnd (eCall gMax (kCons (look (eC (.int 0))) (kCons (look (eOp aSub (look (mCountB (pVar 3) (look (eC (.bl true))))) (look (eC (.int 1))))) (Pv.ret [])))) mRet) (Pv.ret .nx)))
def sv__law_gap_count : M Fl := sq (bnd (mComp (mSeq (eVar 0)) (tName 4) (Pv.ret true) (eCall gInt (kCons (look (eOp (gIn false) (pVar 4) (pVar 1))) (Pv.ret []))) [4]) (setR 2)) (sq (bnd (eCall gLen (kCons (look (mComp (mRng1 (kCons (look (eCall gLen (kCons (pVar 2) (Pv.ret [])))) (Pv.ret []))) (tName 5) (mAnd (blOf (eOp (gEq false) (look (eOp gIx (pVar 2) (pVar 5))) (look (eC (.int 1))))) (mOr (blOf (eOp (gEq false) (pVar 5) (look (eC (.int 0))))) (blOf (eOp (gEq false) (look (eOp gIx (pVar 2) (look (eOp aSub (pVar 5) (look (eC (.int 1))))))) (look (eC (.int 0))))))) (eVar 5) [5])) (Pv.ret []))) (setR 3)) (sq (bnd (eCall gMax (kCons (look (eC (.int 0))) (kCons (look (eOp aSub (pVar 3) (look (eC (.int 1))))) (Pv.ret [])))) mRet) (Pv.ret .nx)))
def sv_gaps (Fcheck_order Fcheck_table Fgap_count : Fn) : M Fl := sq (bnd (eFn Fcheck_order (aCons (eCall gLen (kCons (pVar 0) (Pv.ret []))) (aCons (eVar 0) (Pv.ret [])))) fun _ => Pv.ret .nx) (sq (bnd (eFn Fcheck_table (aCons (eCall gLen (kCons (pVar 0) (Pv.ret []))) (aCons (eVar 1) (Pv.ret [])))) fun _ => Pv.ret .nx) (sq (bnd (eCall gTuple (kCons (look (mComp (mSeq (eVar 1)) (tName 2) (Pv.ret true) (eFn Fgap_count (aCons (eVar 0) (aCons (eVar 2) (Pv.ret [])))) [2])) (Pv.ret []))) mRet) (Pv.ret .nx)))
def sv_first_parted (Fcheck_order Fcheck_table Fstands_together : Fn) : M Fl := sq (bnd (eFn Fcheck_order (aCons (eCall gLen (kCons (pVar 0) (Pv.ret []))) (aCons (eVar 0) (Pv.ret [])))) fun _ => Pv.ret .nx) (sq (bnd (eFn Fcheck_table (aCons (eCall gLen (kCons (pVar 0) (Pv.ret []))) (aCons (eVar 1) (Pv.ret [])))) fun _ => Pv.ret .nx) (sq (bnd (mEnum (eVar 1)) (loop (tNames [2, 3]) (sq (mIfS (mNot (tTru (look (eFn Fstands_together (aCons (eVar 0) (aCons (eVar 3) (Pv.ret []))))))) (sq (mRetV 2) (Pv.ret .nx)) (Pv.ret .nx)) (Pv.ret .nx)))) (sq (bnd (eC .non) mRet) (Pv.ret .nx))))
def sv__law_is_bool : M Fl := sq (bnd (vAnd (mIsi "bool" (pVar 0)) (eOp (gEq false) (pVar 0) (pVar 1))) mRet) (Pv.ret .nx)
/-! ### the places of a set -/
theorem set_asc {n : Int} {S : List Int} (h : isSet n S = true) : S.Pairwise (· < ·) := by
  unfold isSet at h
  rw [Bool.and_eq_true, decide_eq_true_eq, decide_eq_true_eq] at h
  rw [h.2]
  exact (upTo_pair _).sublist List.filter_sublist
theorem plc_perm {o S : List Int} (no : o.Nodup) (nS : S.Nodup) (sub : ∀ t ∈ S, t ∈ o) : (places o S).Perm (plc S o) := by
  have n1 : (places o S).Nodup := by
    unfold places
    refine List.pairwise_map.mpr (nS.imp_of_mem fun {a b} ha hb hne z => hne ?_)
    have : o.idxOf a = o.idxOf b := by omega
    have h1 := List.getElem_idxOf (List.idxOf_lt_length_of_mem (sub a ha))
    have h2 := List.getElem_idxOf (List.idxOf_lt_length_of_mem (sub b hb))
    rw [← h1, ← h2]
    congr 1
  have n2 : (plc S o).Nodup := (plc_asc S o).imp fun h => by omega
  refine (List.perm_ext_iff_of_nodup n1 n2).mpr fun z => ?_
  unfold places
  rw [List.mem_map]
  constructor
  · rintro ⟨t, ht, rfl⟩
    have hl := List.idxOf_lt_length_of_mem (sub t ht)
    exact plc_mem.mpr ⟨t, by rw [List.getElem?_eq_getElem hl, List.getElem_idxOf hl], ht⟩
  · intro hz
    obtain ⟨i, rfl, hi⟩ := plc_nat hz
    obtain ⟨x, hx, hxS⟩ := plc_mem.mp hz
    rw [List.getElem?_eq_getElem hi] at hx
    injection hx with hx
    refine ⟨x, hxS, ?_⟩
    rw [← hx, Ring.idx_at no hi]
theorem span_facts {o S : List Int} (no : o.Nodup) (nS : S.Nodup) (sub : ∀ t ∈ S, t ∈ o) : (S = [] ∧ plc S o = []) ∨ ∃ (a b : Nat) (p : Int) (ps r q : List Int), places o S = p :: ps ∧ plc S o = (a : Int) :: r ∧ plc S o = q ++ [(b : Int)] ∧ lmin p ps = a ∧ lmax p ps = b ∧ a ≤ b ∧ b < o.length := by
  have pp := plc_perm no nS sub
  cases hp : places o S with
  | nil =>
    refine .inl ⟨?_, ?_⟩
    · unfold places at hp; exact List.map_eq_nil_iff.mp hp
    · rw [hp] at pp; exact pp.symm.eq_nil
  | cons p ps =>
    right
    rw [hp] at pp
    have asc := plc_asc S o
    cases hc : plc S o with
    | nil => rw [hc] at pp; exact absurd pp.length_eq (by simp)
    | cons a r =>
      have hl : (a :: r) ≠ [] := by simp
      obtain ⟨q, b, hq⟩ : ∃ q b, a :: r = q ++ [b] := ⟨_, _, (List.dropLast_concat_getLast hl).symm⟩
      have ma : a ∈ plc S o := by rw [hc]; simp
      have mb : b ∈ plc S o := by rw [hc, hq]; simp
      obtain ⟨a', rfl, ha⟩ := plc_nat ma
      obtain ⟨b', rfl, hb⟩ := plc_nat mb
      rw [hc] at asc
      have mina : ∀ x ∈ plc S o, (a' : Int) ≤ x := fun x hx => by
        rw [hc] at hx
        rcases List.mem_cons.mp hx with rfl | hx
        · exact Int.le_refl _
        · have := (List.pairwise_cons.mp asc).1 x hx; omega
      have maxb : ∀ x ∈ plc S o, x ≤ (b' : Int) := fun x hx => by
        rw [hc, hq] at hx
        rw [hq] at asc
        rcases List.mem_append.mp hx with hx | hx
        · have := (List.pairwise_append.mp asc).2.2 x hx b' (by simp); omega
        · rw [List.mem_singleton.mp hx]; exact Int.le_refl _
      obtain ⟨m1, m2, m3⟩ := lmin_le ps p
      obtain ⟨x1, x2, x3⟩ := lmax_le ps p
      have inP : ∀ z, z ∈ p :: ps ↔ z ∈ plc S o := fun z => pp.mem_iff
      have l1 : lmin p ps ∈ p :: ps := by rcases m3 with h | h <;> simp [h]
      have l2 : lmax p ps ∈ p :: ps := by rcases x3 with h | h <;> simp [h]
      have u1 := mina _ ((inP _).mp l1)
      have u2 := maxb _ ((inP _).mp l2)
      have v1 : lmin p ps ≤ a' := by
        rcases List.mem_cons.mp ((inP _).mpr ma) with h | h
        · omega
        · exact m2 _ h
      have v2 : (b' : Int) ≤ lmax p ps := by
        rcases List.mem_cons.mp ((inP _).mpr mb) with h | h
        · omega
        · exact x2 _ h
      have hab := maxb _ ma
      exact ⟨a', b', p, ps, r, q, rfl, rfl, hq, by omega, by omega, by omega, hb⟩
theorem cut_len (o : List Int) (a b : Nat) (h : a ≤ b) (hb : b < o.length) : (cutP o (some (a : Int)) (some ((b : Int) + 1))).length = b + 1 - a := by
  have e : cutP o (some (a : Int)) (some ((b : Int) + 1)) = (o.drop a).take (b + 1 - a) := by
    unfold cutP
    have h1 : HT.sIx o.length 0 (some (a : Int)) = a := by
      have := HT.sIx_nat (n := o.length) (d := 0) (k := a)
      omega
    have h2 : HT.sIx o.length o.length (some ((b : Int) + 1)) = b + 1 := by
      have := HT.sIx_nat (n := o.length) (d := o.length) (k := b + 1)
      rw [show (((b + 1 : Nat)) : Int) = (b : Int) + 1 by omega] at this
      omega
    rw [h1, h2]
  rw [e, List.length_take, List.length_drop]
  omega
theorem tog_iff_mid {o S : List Int} (no : o.Nodup) (nS : S.Nodup) (sub : ∀ t ∈ S, t ∈ o) : tog o S = true ↔ mid (pS S) o := by
  rw [plc_ok]
  have pp := (plc_perm no nS sub).length_eq
  have pl : (places o S).length = S.length := by unfold places; rw [List.length_map]
  rcases span_facts no nS sub with ⟨rfl, h⟩ | ⟨a, b, p, ps, r, q, h1, h2, h3, h4, h5, h6, h7⟩
  · rw [h]
    constructor
    · intro _; exact .inl (by simp)
    · intro _; unfold tog places spanL; simp
  · have hs : tog o S = decide (b + 1 - a = S.length) := by
      unfold tog
      rw [h1, spanL, isort_len, h4, h5, cut_len o a b h6 h7]
    rw [hs, decide_eq_true_eq]
    have hl : (plc S o).length = S.length := by omega
    constructor
    · intro z
      by_cases c : (plc S o).length < 2
      · exact .inl c
      · right
        rw [h2] at h3 c
        cases q with
        | nil =>
          have := congrArg List.length h3
          simp at this
          rw [this] at c
          simp at c
        | cons x q =>
          rw [List.cons_append] at h3
          injection h3 with e1 e2
          refine ⟨a, q, b, by rw [h2, e2], ?_⟩
          rw [h2, e2, List.length_cons, List.length_append, List.length_singleton] at hl
          omega
    · rintro (z | ⟨x, l, y, e, z⟩)
      · rw [h2] at h3 z hl
        rw [List.length_cons] at z hl
        have hr : r = [] := List.eq_nil_of_length_eq_zero (by omega)
        rw [hr] at h3
        have : (q ++ [(b : Int)]).length = 1 := by rw [← h3]; rfl
        rw [List.length_append, List.length_singleton] at this
        have hq : q = [] := List.eq_nil_of_length_eq_zero (by omega)
        rw [hq] at h3
        injection h3 with e1 _
        rw [hr, List.length_nil] at hl
        omega
      · rw [e] at h2 h3 hl
        injection h2 with e1 _
        rw [← List.cons_append] at h3
        have e2 := List.append_inj_right' h3 rfl
        injection e2 with e2 _
        rw [List.length_cons, List.length_append, List.length_singleton] at hl
        omega
/-! ### gaps -/
def bits (o S : List Int) : List Bool := o.map fun t => decide (t ∈ S)
def starts : Bool → List Bool → List Bool
  | _, [] => []
  | p, c :: r => (c && !p) :: starts c r
theorem starts_count : ∀ (p : Bool) (b : List Bool), (starts p b).count true = Ring.ls p b
  | _, [] => rfl
  | p, c :: r => by
    rw [starts, List.count_cons, starts_count c r, Ring.ls]
    cases c <;> cases p <;> simp [Ring.one] <;> omega
theorem starts_len : ∀ (p : Bool) (b : List Bool), (starts p b).length = b.length
  | _, [] => rfl
  | p, c :: r => by rw [starts, List.length_cons, List.length_cons, starts_len c r]
theorem in_c {A : Pv.Slot} {S : List Int} {s2 s3 s5 s6 : Pv.Slot} : ∀ (o : List Int) (acc : List PV), acc.length + o.length ≤ SZ → compr (tName 4) (Pv.ret true) (eOp (gIn false) (pVar 4) (pVar 1)) [4] acc (o.map .int) [A, .val (.tup (S.map .int)), s2, s3, .no, s5, s6] = .ok (acc ++ (bits o S).map .bl) [A, .val (.tup (S.map .int)), s2, s3, .no, s5, s6]
  | [], acc, _ => by rw [List.map_nil, compr]; unfold bits; simp
  | t :: o, acc, hz => by
    rw [List.length_cons] at hz
    have g := gIn_tup false t S
    rw [Bool.false_xor] at g
    have ht : turn (tName 4) (Pv.ret true) (eOp (gIn false) (pVar 4) (pVar 1)) (.int t) [A, .val (.tup (S.map .int)), s2, s3, .no, s5, s6] = .ok (some (.bl (decide (t ∈ S)))) [A, .val (.tup (S.map .int)), s2, s3, .val (.int t), s5, s6] := by
      unfold turn
      generalize S.map PV.int = W at *
      simp [g]
    have hw : wipeE [A, .val (.tup (S.map .int)), s2, s3, .val (.int t), s5, s6] [4] = [A, .val (.tup (S.map .int)), s2, s3, .no, s5, s6] := rfl
    rw [List.map_cons, compr]
    simp only [ht]
    rw [hw, if_pos (by omega)]
    have := in_c (A := A) (S := S) (s2 := s2) (s3 := s3) (s5 := s5) (s6 := s6) o (acc ++ [.bl (decide (t ∈ S))]) (by rw [List.length_append, List.length_singleton]; omega)
    rw [List.append_assoc] at this
    exact this
theorem zip_c {A B C D : Pv.Slot} : ∀ (b : List Bool) (p : Bool) (acc : List PV), acc.length + b.length ≤ SZ → compr (tNames [5, 6]) (Pv.ret true) (vAnd (eVar 6) (vNot (eVar 5))) [5, 6] acc (zipP (.bl p :: b.map .bl) (b.map .bl)) [A, B, C, D, .no, .no, .no] = .ok (acc ++ (starts p b).map .bl) [A, B, C, D, .no, .no, .no]
  | [], p, acc, _ => by
    rw [show zipP (PV.bl p :: ([] : List Bool).map .bl) (([] : List Bool).map .bl) = [] from rfl, compr, starts]
    simp
  | c :: b, p, acc, hz => by
    rw [List.length_cons] at hz
    have ez : zipP (PV.bl p :: (c :: b).map .bl) ((c :: b).map .bl) = .itm [.bl p, .bl c] :: zipP (.bl c :: b.map .bl) (b.map .bl) := rfl
    have ht : turn (tNames [5, 6]) (Pv.ret true) (vAnd (eVar 6) (vNot (eVar 5))) (.itm [.bl p, .bl c]) [A, B, C, D, .no, .no, .no] = .ok (some (.bl (c && !p))) [A, B, C, D, .no, .val (.bl p), .val (.bl c)] := by
      have et : tNames [5, 6] (.itm [.bl p, .bl c]) [A, B, C, D, .no, .no, .no] = some [A, B, C, D, .no, .val (.bl p), .val (.bl c)] := rfl
      unfold turn
      cases c <;> cases p <;> simp [et]
    have hw : wipeE [A, B, C, D, .no, .val (.bl p), .val (.bl c)] [5, 6] = [A, B, C, D, .no, .no, .no] := rfl
    rw [ez, compr]
    simp only [ht]
    rw [hw, if_pos (by omega)]
    have := zip_c (A := A) (B := B) (C := C) (D := D) b c (acc ++ [.bl (c && !p)]) (by rw [List.length_append, List.length_singleton]; omega)
    rw [List.append_assoc] at this
    exact this
noncomputable def gapN (o S : List Int) : Int := lmax 0 [((Ring.ls false (bits o S) : Nat) : Int) - 1]
/-! ### the law's own count -/
def bI (b : Bool) : Int := if b then 1 else 0
theorem in_i {A : Pv.Slot} {S : List Int} {s2 s3 s5 : Pv.Slot} : ∀ (o : List Int) (acc : List PV), acc.length + o.length ≤ SZ → compr (tName 4) (Pv.ret true) (eCall gInt (kCons (look (eOp (gIn false) (pVar 4) (pVar 1))) (Pv.ret []))) [4] acc (o.map .int) [A, .val (.tup (S.map .int)), s2, s3, .no, s5] = .ok (acc ++ ((bits o S).map bI).map .int) [A, .val (.tup (S.map .int)), s2, s3, .no, s5]
  | [], acc, _ => by rw [List.map_nil, compr]; unfold bits; simp
  | t :: o, acc, hz => by
    rw [List.length_cons] at hz
    have g := gIn_tup false t S
    rw [Bool.false_xor] at g
    have gi : gInt [.bl (decide (t ∈ S))] = some (.int (bI (decide (t ∈ S))), false) := by
      unfold bI
      cases decide (t ∈ S) <;> rfl
    have ht : turn (tName 4) (Pv.ret true) (eCall gInt (kCons (look (eOp (gIn false) (pVar 4) (pVar 1))) (Pv.ret []))) (.int t) [A, .val (.tup (S.map .int)), s2, s3, .no, s5] = .ok (some (.int (bI (decide (t ∈ S))))) [A, .val (.tup (S.map .int)), s2, s3, .val (.int t), s5] := by
      unfold turn
      generalize S.map PV.int = W at *
      generalize bI (decide (t ∈ S)) = B at *
      simp [g, gi]
    have hw : wipeE [A, .val (.tup (S.map .int)), s2, s3, .val (.int t), s5] [4] = [A, .val (.tup (S.map .int)), s2, s3, .no, s5] := rfl
    rw [List.map_cons, compr]
    simp only [ht]
    rw [hw, if_pos (by omega)]
    have := in_i (A := A) (S := S) (s2 := s2) (s3 := s3) (s5 := s5) o (acc ++ [.int (bI (decide (t ∈ S)))]) (by rw [List.length_append, List.length_singleton]; omega)
    rw [List.append_assoc] at this
    exact this
def stP (b : List Bool) (i : Int) : Bool := b.getD i.toNat false && (decide (i = 0) || !(b.getD (i.toNat - 1) false))
theorem stP_len (b : List Bool) : ((Pv.upTo 0 b.length).filter (stP b)).length = Ring.ls false b := by
  rw [← Ring.starts_eq b false]
  unfold Pv.upTo
  rw [List.filter_map, List.length_map]
  congr 1
  refine List.filter_congr fun k _ => ?_
  simp only [Function.comp]
  unfold stP
  cases k with
  | zero => simp
  | succ k =>
    have h1 : (0 + ((k + 1 : Nat) : Int)).toNat = k + 1 := by omega
    have h2 : ¬ (0 + ((k + 1 : Nat) : Int)) = 0 := by omega
    rw [h1, decide_eq_false h2]
    simp
theorem st_test {A B : Pv.Slot} {b : List Bool} {s3 s4 : Pv.Slot} {i : Int} (hi : i ∈ Pv.upTo 0 b.length) : mAnd (blOf (eOp (gEq false) (look (eOp gIx (pVar 2) (pVar 5))) (look (eC (.int 1))))) (mOr (blOf (eOp (gEq false) (pVar 5) (look (eC (.int 0))))) (blOf (eOp (gEq false) (look (eOp gIx (pVar 2) (look (eOp aSub (pVar 5) (look (eC (.int 1))))))) (look (eC (.int 0)))))) [A, B, .own ((b.map bI).map .int), s3, s4, .val (.int i)] = .ok (stP b i) [A, B, .own ((b.map bI).map .int), s3, s4, .val (.int i)] := by
  unfold Pv.upTo at hi
  obtain ⟨k, hk, rfl⟩ := List.mem_map.mp hi
  rw [List.mem_range] at hk
  have e1 : atI ((b.map bI).map PV.int) ((k : Nat) : Int) = some (.int (bI b[k])) := atI_nat (by simp [hk])
  have gd : b.getD k false = b[k] := by simp [hk]
  have one : ∀ c : Bool, gEq false (.int (bI c)) (.int 1) = some (.bl c, false) := fun c => by cases c <;> rfl
  have zer : ∀ c : Bool, gEq false (.int (bI c)) (.int 0) = some (.bl (!c), false) := fun c => by cases c <;> rfl
  unfold stP
  rw [show (0 : Int) + (k : Int) = (k : Int) by omega, Int.toNat_natCast, gd]
  obtain ⟨K, hK⟩ : ∃ K : Int, K = (k : Int) := ⟨_, rfl⟩
  rw [← hK] at e1 ⊢
  have o1 := one b[k]
  generalize b[k] = c at *
  by_cases k0 : K = 0
  · subst k0
    generalize (b.map bI).map PV.int = W at *
    generalize bI c = C at *
    cases c <;> simp [-gEq_ii, e1, o1, show gEq false (.int 0) (.int 0) = some (.bl true, false) from rfl]
  · have e2 : atI ((b.map bI).map PV.int) (K - 1) = some (.int (bI (b.getD (k - 1) false))) := by
      have : K - 1 = ((k - 1 : Nat) : Int) := by omega
      rw [this]
      have hk1 : k - 1 < b.length := by omega
      exact atI_nat (by simp [hk1])
    have z1 := zer (b.getD (k - 1) false)
    have z0 : gEq false (.int K) (.int 0) = some (.bl false, false) := by rw [gEq_ii, decide_eq_false k0]; rfl
    rw [decide_eq_false k0]
    generalize b.getD (k - 1) false = e at *
    generalize (b.map bI).map PV.int = W at *
    generalize bI c = C at *
    generalize bI e = E at *
    cases c <;> simp [-gEq_ii, e1, o1, e2, z1, z0]
theorem lg_2 {mc : M RV} {V W U Z : List PV} {L : Int} (h : mc [.val (.tup V), .val (.tup W), .own U, .no, .no, .no] = .ok (.lst Z, true) [.val (.tup V), .val (.tup W), .own U, .no, .no, .no]) (gl : gLen [.lst Z] = some (.int L, false)) : bnd (eCall gLen (kCons (look mc) (Pv.ret []))) (setR 3) [.val (.tup V), .val (.tup W), .own U, .no, .no, .no] = .ok .nx [.val (.tup V), .val (.tup W), .own U, .val (.int L), .no, .no] := by
  generalize gLen = g at *
  simp [h, gl]
theorem lg_1 {V W U Z : List PV} {G L : Int} (m1 : mComp (mSeq (eVar 0)) (tName 4) (Pv.ret true) (eCall gInt (kCons (look (eOp (gIn false) (pVar 4) (pVar 1))) (Pv.ret []))) [4] [.val (.tup V), .val (.tup W), .no, .no, .no, .no] = .ok (.lst U, true) [.val (.tup V), .val (.tup W), .no, .no, .no, .no])
    (m2 : mComp (mRng1 (kCons (look (eCall gLen (kCons (pVar 2) (Pv.ret [])))) (Pv.ret []))) (tName 5) (mAnd (blOf (eOp (gEq false) (look (eOp gIx (pVar 2) (pVar 5))) (look (eC (.int 1))))) (mOr (blOf (eOp (gEq false) (pVar 5) (look (eC (.int 0))))) (blOf (eOp (gEq false) (look (eOp gIx (pVar 2) (look (eOp aSub (pVar 5) (look (eC (.int 1))))))) (look (eC (.int 0))))))) (eVar 5) [5] [.val (.tup V), .val (.tup W), .own U, .no, .no, .no] = .ok (.lst Z, true) [.val (.tup V), .val (.tup W), .own U, .no, .no, .no])
    (hL : L = (Z.length : Nat)) (gm : gMax [.int 0, .int (L - 1)] = some (.int G, false)) : runF 6 2 sv__law_gap_count [.tup V, .tup W] = .ok (.int G, false) := by
  have gl : gLen [.lst Z] = some (.int L, false) := by rw [hL]; rfl
  refine runF_ok (ev' := [.val (.tup V), .val (.tup W), .own U, .val (.int L), .no, .no]) ?_ rfl (by decide)
  unfold sv__law_gap_count
  refine (sq_nx (ev' := [.val (.tup V), .val (.tup W), .own U, .no, .no, .no]) ((bnd_ok m1).trans rfl)).trans ?_
  refine (sq_nx (ev' := [.val (.tup V), .val (.tup W), .own U, .val (.int L), .no, .no]) (lg_2 m2 gl)).trans ?_
  refine sq_rt ?_
  simp [gm]
end K01

set_option Elab.async false
set_option linter.all false
set_option maxRecDepth 100000
namespace K01
open Pv PySem PySem.Spec L2
open PyProof.Rows hiding St
def sv_check_things (Fis_number_of_things : Fn) : M Fl := sq (mIfS (mNot (tTru (look (eFn Fis_number_of_things (aCons (eVar 0) (Pv.ret [])))))) (sq (mRaise "OutOfRange") (Pv.ret .nx)) (Pv.ret .nx)) (sq (mRetV 0) (Pv.ret .nx))
theorem un_check_things : fn_check_things = runF 1 1 (sv_check_things fn_is_number_of_things) := rfl
def sv_check_table (Fis_number_of_things Fcheck_set : Fn) : M Fl := sq (mIfS (mNot (tTru (look (eFn Fis_number_of_things (aCons (eVar 0) (Pv.ret [])))))) (sq (mRaise "InvalidTable") (Pv.ret .nx)) (Pv.ret .nx)) (sq (mIfS (blOf (eOp cGt (look (eCall gLen (kCons (pVar 1) (Pv.ret [])))) (look (eC (.int 40))))) (sq (mRaise "InvalidTable") (Pv.ret .nx)) (Pv.ret .nx)) (sq (bnd (mSeq (eVar 1)) (loop (tName 2) (sq (bnd (eFn Fcheck_set (aCons (eVar 0) (aCons (eVar 2) (Pv.ret [])))) fun _ => Pv.ret .nx) (Pv.ret .nx)))) (sq (mRetV 1) (Pv.ret .nx))))
theorem un_check_table : fn_check_table = runF 3 2 (sv_check_table fn_is_number_of_things fn_check_set) := rfl
def sv__law_within : M Fl := sq (bnd (eOp (gEq false) (look (mComp (mSeq (eVar 1)) (tName 2) (mOr (blOf (eOp cLt (pVar 2) (look (eC (.int 0))))) (blOf (eOp cGe (pVar 2) (pVar 0)))) (eVar 2) [2])) (look (mLst (Pv.ret [])))) mRet) (Pv.ret .nx)
theorem un__law_within : fn__law_within = runF 3 2 (sv__law_within ) := rfl
def sv__law_is_set (F_law_within : Fn) : M Fl := sq (bnd (vAnd (eOp (gEq false) (look (eCall gList (kCons (pVar 1) (Pv.ret [])))) (look (eCall gSorted (kCons (pVar 1) (Pv.ret []))))) (vAnd (eOp (gEq false) (look (mComp (mRng2 (kCons (look (eC (.int 1))) (kCons (look (eCall gLen (kCons (pVar 1) (Pv.ret [])))) (Pv.ret [])))) (tName 2) (blOf (eOp (gEq false) (look (eOp gIx (pVar 1) (look (eOp aSub (pVar 2) (look (eC (.int 1))))))) (look (eOp gIx (pVar 1) (pVar 2))))) (eVar 2) [2])) (look (mLst (Pv.ret [])))) (eFn F_law_within (aCons (eVar 0) (aCons (eVar 1) (Pv.ret [])))))) mRet) (Pv.ret .nx)
theorem un__law_is_set : fn__law_is_set = runF 3 2 (sv__law_is_set fn__law_within) := rfl
def sv__law_bent (F_law_digits F_law_rich : Fn) : M Fl := sq (bnd (eFn F_law_digits (aCons (eFn F_law_rich (aCons (eVar 1) (Pv.ret []))) (aCons (mLst (aCons (eC (.int 4)) (aCons (eC (.int 30)) (aCons (eC (.int 30)) (Pv.ret []))))) (Pv.ret [])))) (setR 2)) (sq (mIfS (mOr (blOf (eOp (gEq false) (look (eOp gIx (pVar 2) (look (eC (.int 0))))) (look (eC (.int 0))))) (blOf (eOp (gEq false) (look (eCall gLen (kCons (pVar 0) (Pv.ret [])))) (look (eC (.int 0)))))) (sq (bnd (eOp gAdd (pVar 0) (look (mTup (aCons (eOp aSub (look (eOp gIx (pVar 2) (look (eC (.int 1))))) (look (eC (.int 3)))) (Pv.ret []))))) mRet) (Pv.ret .nx)) (Pv.ret .nx)) (sq (bnd (eOp aMod (look (eCall gInt (kCons (look (eOp gIx (pVar 2) (look (eC (.int 2))))) (Pv.ret [])))) (look (eCall gLen (kCons (pVar 0) (Pv.ret []))))) (setR 3)) (sq (mIfS (blOf (eOp (gEq false) (look (eOp gIx (pVar 2) (look (eC (.int 0))))) (look (eC (.int 1))))) (sq (bnd (eOp gAdd (look (eSl (pVar 0) (Pv.ret none) (soInt (pVar 3)))) (look (eSl (pVar 0) (soInt (look (eOp gAdd (pVar 3) (look (eC (.int 1)))))) (Pv.ret none)))) mRet) (Pv.ret .nx)) (Pv.ret .nx)) (sq (mIfS (blOf (eOp (gEq false) (look (eOp gIx (pVar 2) (look (eC (.int 0))))) (look (eC (.int 2))))) (sq (bnd (eOp gAdd (look (eOp gAdd (look (eSl (pVar 0) (Pv.ret none) (soInt (pVar 3)))) (look (mTup (aCons (eOp aSub (look (eOp gIx (pVar 2) (look (eC (.int 1))))) (look (eC (.int 3)))) (Pv.ret [])))))) (look (eSl (pVar 0) (soInt (look (eOp gAdd (pVar 3) (look (eC (.int 1)))))) (Pv.ret none)))) mRet) (Pv.ret .nx)) (Pv.ret .nx)) (sq (bnd (mRevA (pVar 0)) mRet) (Pv.ret .nx))))))
theorem un__law_bent : fn__law_bent = runF 4 2 (sv__law_bent fn__law_digits fn__law_rich) := rfl
def sv__law_word (Fcheck_set Fcheck_table Fcheck_order Fcheck_things : Fn) : M Fl := sq (mTry (sq (mIfS (blOf (eOp (gEq false) (pVar 1) (look (eC (.int 0))))) (sq (bnd (eOp gIx (look (mLst (aCons (eC (.str "")) (aCons (eC (.str "wrong")) (Pv.ret []))))) (look (eCall gInt (kCons (look (eOp (gEq true) (look (eFn Fcheck_set (aCons (eVar 0) (aCons (eVar 2) (Pv.ret []))))) (pVar 2))) (Pv.ret []))))) mRet) (Pv.ret .nx)) (Pv.ret .nx)) (sq (mIfS (blOf (eOp (gEq false) (pVar 1) (look (eC (.int 1))))) (sq (bnd (eOp gIx (look (mLst (aCons (eC (.str "")) (aCons (eC (.str "wrong")) (Pv.ret []))))) (look (eCall gInt (kCons (look (eOp (gEq true) (look (eFn Fcheck_table (aCons (eVar 0) (aCons (eVar 2) (Pv.ret []))))) (pVar 2))) (Pv.ret []))))) mRet) (Pv.ret .nx)) (Pv.ret .nx)) (sq (mIfS (blOf (eOp (gEq false) (pVar 1) (look (eC (.int 2))))) (sq (bnd (eOp gIx (look (mLst (aCons (eC (.str "")) (aCons (eC (.str "wrong")) (Pv.ret []))))) (look (eCall gInt (kCons (look (eOp (gEq true) (look (eFn Fcheck_order (aCons (eVar 0) (aCons (eVar 2) (Pv.ret []))))) (pVar 2))) (Pv.ret []))))) mRet) (Pv.ret .nx)) (Pv.ret .nx)) (sq (bnd (eOp gIx (look (mLst (aCons (eC (.str "")) (aCons (eC (.str "wrong")) (Pv.ret []))))) (look (eCall gInt (kCons (look (eOp (gEq true) (look (eFn Fcheck_things (aCons (eVar 0) (Pv.ret [])))) (pVar 0))) (Pv.ret []))))) mRet) (Pv.ret .nx))))) is__law_word 3 (fun d_ a_ => pickC d_ [("UnpartedError", sq (bnd (mLst (aCons (mIsE 3 false a_) (aCons (mIsE 3 false a_) (aCons (mIsE 3 false a_) (Pv.ret []))))) (setR 4)) (sq (bnd (mRng1 (kCons (look (eC (.int 3))) (Pv.ret []))) (loop (tName 5) (sq (mIfS (mAnd (blOf (eOp (gEq false) (pVar 4) (look (mComp (mRng1 (kCons (look (eC (.int 3))) (Pv.ret []))) (tName 6) (Pv.ret true) (eOp (gEq false) (pVar 6) (pVar 5)) [6])))) (tTru (look (mIsE 3 true a_)))) (sq (bnd (eOp gIx (look (mLst (aCons (eC (.str "table")) (aCons (eC (.str "order")) (aCons (eC (.str "range")) (Pv.ret [])))))) (pVar 5)) mRet) (Pv.ret .nx)) (Pv.ret .nx)) (Pv.ret .nx)))) (Pv.ret .nx))), ("InvalidTable", sq (bnd (mLst (aCons (mIsE 3 true a_) (aCons (mIsE 3 false a_) (aCons (mIsE 3 false a_) (Pv.ret []))))) (setR 4)) (sq (bnd (mRng1 (kCons (look (eC (.int 3))) (Pv.ret []))) (loop (tName 5) (sq (mIfS (mAnd (blOf (eOp (gEq false) (pVar 4) (look (mComp (mRng1 (kCons (look (eC (.int 3))) (Pv.ret []))) (tName 6) (Pv.ret true) (eOp (gEq false) (pVar 6) (pVar 5)) [6])))) (tTru (look (mIsE 3 true a_)))) (sq (bnd (eOp gIx (look (mLst (aCons (eC (.str "table")) (aCons (eC (.str "order")) (aCons (eC (.str "range")) (Pv.ret [])))))) (pVar 5)) mRet) (Pv.ret .nx)) (Pv.ret .nx)) (Pv.ret .nx)))) (Pv.ret .nx))), ("InvalidOrder", sq (bnd (mLst (aCons (mIsE 3 false a_) (aCons (mIsE 3 true a_) (aCons (mIsE 3 false a_) (Pv.ret []))))) (setR 4)) (sq (bnd (mRng1 (kCons (look (eC (.int 3))) (Pv.ret []))) (loop (tName 5) (sq (mIfS (mAnd (blOf (eOp (gEq false) (pVar 4) (look (mComp (mRng1 (kCons (look (eC (.int 3))) (Pv.ret []))) (tName 6) (Pv.ret true) (eOp (gEq false) (pVar 6) (pVar 5)) [6])))) (tTru (look (mIsE 3 true a_)))) (sq (bnd (eOp gIx (look (mLst (aCons (eC (.str "table")) (aCons (eC (.str "order")) (aCons (eC (.str "range")) (Pv.ret [])))))) (pVar 5)) mRet) (Pv.ret .nx)) (Pv.ret .nx)) (Pv.ret .nx)))) (Pv.ret .nx))), ("OutOfRange", sq (bnd (mLst (aCons (mIsE 3 false a_) (aCons (mIsE 3 false a_) (aCons (mIsE 3 true a_) (Pv.ret []))))) (setR 4)) (sq (bnd (mRng1 (kCons (look (eC (.int 3))) (Pv.ret []))) (loop (tName 5) (sq (mIfS (mAnd (blOf (eOp (gEq false) (pVar 4) (look (mComp (mRng1 (kCons (look (eC (.int 3))) (Pv.ret []))) (tName 6) (Pv.ret true) (eOp (gEq false) (pVar 6) (pVar 5)) [6])))) (tTru (look (mIsE 3 true a_)))) (sq (bnd (eOp gIx (look (mLst (aCons (eC (.str "table")) (aCons (eC (.str "order")) (aCons (eC (.str "range")) (Pv.ret [])))))) (pVar 5)) mRet) (Pv.ret .nx)) (Pv.ret .nx)) (Pv.ret .nx)))) (Pv.ret .nx)))])) (sq (bnd (eC (.str "other")) mRet) (Pv.ret .nx))
theorem un__law_word : fn__law_word = runF 7 3 (sv__law_word fn_check_set fn_check_table fn_check_order fn_check_things) := rfl

def okN (n : Int) : Bool := decide (1 ≤ n ∧ n ≤ 24)
theorem tg_1 {F : Fn} {n : Int} {b : Bool} (h : F [.int n] = .ok (.bl b, false)) : runF 1 1 (sv_check_things F) [.int n] = if b then .ok (.int n, false) else .exc "OutOfRange" := by
  unfold sv_check_things
  cases b <;> simp [h]
theorem things_is (n : Int) : fn_check_things [.int n] = if okN n then .ok (.int n, false) else .exc "OutOfRange" := by
  rw [un_check_things]
  exact tg_1 (num_ok n)
theorem okD_ltab (T : List (List Int)) : okD (.lst (tabV T)) = true := by
  obtain ⟨h1, h2, h3⟩ := toDs_tab T
  unfold okD isD toD SeqAt.shaped PyData.canLay0 PyData.depth
  rw [h1, h2, decide_eq_true (by omega)]
  rfl
theorem gEq_tnil (T : List (List Int)) : gEq false (.lst (tabV T)) (.lst []) = some (.bl (decide (T = [])), false) := by
  have e1 := okD_ltab T
  have e2 : okD (.lst []) = true := by decide +kernel
  unfold gEq
  simp only [e1, e2, Bool.and_self, if_true]
  unfold toD PyData.eqv
  cases T with
  | nil => unfold tabV toDs; rw [List.map_nil]; unfold toDs PyData.eqvAll; rfl
  | cons t T => unfold tabV; rw [List.map_cons]; unfold toDs PyData.eqvAll; rfl
/-! ### check_table -/
theorem ct_no {F : Fn} {n : Int} {v : PV} {P : List Int → Bool} (hF : ∀ s : List Int, F [.int n, .tup (s.map .int)] = if P s then .ok (.tup (s.map .int), false) else .exc "InvalidTable") : ∀ (T : List (List Int)) (s2 : Pv.Slot), T.all P = false → ∃ ev', loop (tName 2) (ctB F) (tabV T) [.val (.int n), .val v, s2] = .exc "InvalidTable" ev'
  | [], s2, h => by simp at h
  | s :: T, s2, h => by
    have et : tName 2 (.tup (s.map .int)) [.val (.int n), .val v, s2] = some [.val (.int n), .val v, .val (.tup (s.map .int))] := rfl
    have e := hF s
    rw [List.all_cons] at h
    show ∃ ev', loop (tName 2) (ctB F) (.tup (s.map .int) :: tabV T) _ = _
    cases c : P s with
    | true =>
      rw [c] at e h
      have eb : ctB F [.val (.int n), .val v, .val (.tup (s.map .int))] = .ok .nx [.val (.int n), .val v, .val (.tup (s.map .int))] := by
        unfold ctB
        generalize s.map PV.int = S at e
        simp [e]
      rw [loop_nx et eb]
      exact ct_no hF T _ (by simpa using h)
    | false =>
      rw [c] at e
      have eb : ctB F [.val (.int n), .val v, .val (.tup (s.map .int))] = .exc "InvalidTable" [.val (.int n), .val v, .val (.tup (s.map .int))] := by
        unfold ctB
        generalize s.map PV.int = S at e
        simp [e]
      exact ⟨_, loop_exc et eb⟩
theorem tb_1 {Fn_ Fs : Fn} {n : Int} {V : PV} (h : Fn_ [.int n] = .ok (.bl false, false)) : runF 3 2 (sv_check_table Fn_ Fs) [.int n, V] = .exc "InvalidTable" := by
  unfold sv_check_table
  simp [h]
theorem tb_2 {Fn_ Fs : Fn} {n z : Int} {V : List PV} (h : Fn_ [.int n] = .ok (.bl true, false)) (hl : gLen [.tup V] = some (.int z, false)) (hz : 40 < z) : runF 3 2 (sv_check_table Fn_ Fs) [.int n, .tup V] = .exc "InvalidTable" := by
  unfold sv_check_table
  simp [-gLen_t, h, hl, hz]
theorem tb_3 {Fn_ Fs : Fn} {n z : Int} {V : List PV} {ev' : SL} (h : Fn_ [.int n] = .ok (.bl true, false)) (hl : gLen [.tup V] = some (.int z, false)) (hz : ¬ 40 < z) (hc : loop (tName 2) (ctB Fs) V [.val (.int n), .val (.tup V), .no] = .exc "InvalidTable" ev') : runF 3 2 (sv_check_table Fn_ Fs) [.int n, .tup V] = .exc "InvalidTable" := by
  unfold sv_check_table
  unfold ctB at hc
  simp [-gLen_t, h, hl, hz, hc]
theorem tb_4 {Fn_ Fs : Fn} {n z : Int} {V : List PV} {s2 : Pv.Slot} (h : Fn_ [.int n] = .ok (.bl true, false)) (hl : gLen [.tup V] = some (.int z, false)) (hz : ¬ 40 < z) (hc : loop (tName 2) (ctB Fs) V [.val (.int n), .val (.tup V), .no] = .ok .nx [.val (.int n), .val (.tup V), s2]) : runF 3 2 (sv_check_table Fn_ Fs) [.int n, .tup V] = .ok (.tup V, false) := by
  unfold sv_check_table
  unfold ctB at hc
  simp [-gLen_t, h, hl, hz, hc]
def isTab (n : Int) (T : List (List Int)) : Bool := okN n && (decide (T.length ≤ 40) && T.all (isSet n))
theorem table_is (n : Int) (T : List (List Int)) : fn_check_table [.int n, .tup (tabV T)] = if isTab n T then .ok (.tup (tabV T), false) else .exc "InvalidTable" := by
  have e := num_ok n
  have hl : gLen [.tup (tabV T)] = some (.int (T.length : Nat), false) := by rw [gLen_t, tabV, List.length_map]
  rw [un_check_table]
  unfold isTab okN
  by_cases c : 1 ≤ n ∧ n ≤ 24
  · rw [decide_eq_true c] at e ⊢
    by_cases c2 : T.length ≤ 40
    · rw [decide_eq_true c2, Bool.true_and, Bool.true_and]
      cases c3 : T.all (isSet n) with
      | true =>
        obtain ⟨s2, q⟩ := ct_loop (F := fn_check_set) (n := n) (v := .tup (tabV T)) T .no (fun s hs => by
          have := set_ok n s
          rw [List.all_eq_true.mp c3 s hs] at this
          exact this)
        exact tb_4 e hl (by omega) q
      | false =>
        obtain ⟨ev', q⟩ := ct_no (F := fn_check_set) (n := n) (v := .tup (tabV T)) (P := isSet n) (set_ok n) T .no c3
        exact tb_3 e hl (by omega) q
    · rw [decide_eq_false c2, Bool.false_and, Bool.and_false]
      exact tb_2 e hl (by omega)
  · rw [decide_eq_false c] at e ⊢
    rw [Bool.false_and]
    exact tb_1 e
/-! ### _law_is_set -/
def outs (n : Int) (l : List Int) : List Int := l.filter fun t => decide (t < 0) || decide (t ≥ n)
def twos (l : List Int) : List Int := (Pv.upTo 1 (l.length - 1)).filter fun i => decide (l.getD (i - 1).toNat 0 = l.getD i.toNat 0)
theorem wi_1 {mc : M RV} {n : Int} {S : PV} {L : List PV} {b : Bool} (h : mc [.val (.int n), .val S, .no] = .ok (.lst L, true) [.val (.int n), .val S, .no]) (e : gEq false (.lst L) (.lst []) = some (.bl b, false)) : runF 3 2 (sq (bnd (eOp (gEq false) (look mc) (look (mLst (Pv.ret [])))) mRet) (Pv.ret .nx)) [.int n, S] = .ok (.bl b, false) := by
  simp [h, e]
theorem gEq_inil (l : List Int) : gEq false (.lst (l.map .int)) (.lst []) = some (.bl (decide (l = [])), false) := by
  have := gEq_lstI false l []
  rw [List.map_nil] at this
  rw [this]; simp
theorem within_ok (n : Int) (l : List Int) (hz : l.length ≤ 1000) : fn__law_within [.int n, .tup (l.map .int)] = .ok (.bl (decide (outs n l = [])), false) := by
  rw [un__law_within]
  unfold sv__law_within
  refine wi_1 (L := (outs n l).map .int) ?_ (gEq_inil _)
  refine comp_ok (ev1 := [.val (.int n), .val (.tup (l.map .int)), .no]) (ev2 := [.val (.int n), .val (.tup (l.map .int)), .no]) (ps := l.map .int) (qs := (outs n l).map .int) ?_ ?_
  · generalize l.map PV.int = S; simp
  · exact compr_int (P := fun t => decide (t < 0) || decide (t ≥ n)) l [.val (.int n), .val (.tup (l.map .int)), .no] rfl (fun i _ => by generalize l.map PV.int = S; by_cases c : i < 0 <;> simp [c]) (by rw [SZ]; omega)
theorem is_1 {mc : M RV} {F : Fn} {n : Int} {S U L : List PV} {b1 b2 b3 : Bool} (e1 : gEq false (.lst S) (.lst U) = some (.bl b1, false)) (hs : gSorted [.tup S] = some (.lst U, true)) (h : mc [.val (.int n), .val (.tup S), .no] = .ok (.lst L, true) [.val (.int n), .val (.tup S), .no]) (e : gEq false (.lst L) (.lst []) = some (.bl b2, false)) (h3 : F [.int n, .tup S] = .ok (.bl b3, false)) :
    runF 3 2 (sq (bnd (vAnd (eOp (gEq false) (look (eCall gList (kCons (pVar 1) (Pv.ret [])))) (look (eCall gSorted (kCons (pVar 1) (Pv.ret []))))) (vAnd (eOp (gEq false) (look mc) (look (mLst (Pv.ret [])))) (eFn F (aCons (eVar 0) (aCons (eVar 1) (Pv.ret [])))))) mRet) (Pv.ret .nx)) [.int n, .tup S] = .ok (.bl (b1 && (b2 && b3)), false) := by
  cases b1 <;> cases b2 <;> simp [hs, e1, h, e, h3]
def mcT : M RV := mComp (mRng2 (kCons (look (eC (.int 1))) (kCons (look (eCall gLen (kCons (pVar 1) (Pv.ret [])))) (Pv.ret [])))) (tName 2) (blOf (eOp (gEq false) (look (eOp gIx (pVar 1) (look (eOp aSub (pVar 2) (look (eC (.int 1))))))) (look (eOp gIx (pVar 1) (pVar 2))))) (eVar 2) [2]
theorem sv_is (F : Fn) : sv__law_is_set F = sq (bnd (vAnd (eOp (gEq false) (look (eCall gList (kCons (pVar 1) (Pv.ret [])))) (look (eCall gSorted (kCons (pVar 1) (Pv.ret []))))) (vAnd (eOp (gEq false) (look mcT) (look (mLst (Pv.ret [])))) (eFn F (aCons (eVar 0) (aCons (eVar 1) (Pv.ret [])))))) mRet) (Pv.ret .nx) := rfl
theorem rg_1 {S : List PV} {n z : Int} (hl : gLen [.tup S] = some (.int z, false)) : kCons (look (eC (.int 1))) (kCons (look (eCall gLen (kCons (pVar 1) (Pv.ret [])))) (Pv.ret [])) [.val (.int n), .val (.tup S), .no] = .ok [.int 1, .int z] [.val (.int n), .val (.tup S), .no] := by
  simp [-gLen_t, hl]
theorem pr_1 {S : List PV} {n i x y : Int} (a1 : atI S (i - 1) = some (.int x)) (a2 : atI S i = some (.int y)) : blOf (eOp (gEq false) (look (eOp gIx (pVar 1) (look (eOp aSub (pVar 2) (look (eC (.int 1))))))) (look (eOp gIx (pVar 1) (pVar 2)))) [.val (.int n), .val (.tup S), .val (.int i)] = .ok (decide (x = y)) [.val (.int n), .val (.tup S), .val (.int i)] := by
  simp [a1, a2]
theorem twos_ok (n : Int) (l : List Int) (hz : l.length ≤ 1000) : mcT [.val (.int n), .val (.tup (l.map .int)), .no] = .ok (.lst ((twos l).map .int), true) [.val (.int n), .val (.tup (l.map .int)), .no] := by
  have hl : gLen [.tup (l.map PV.int)] = some (.int (l.length : Nat), false) := by rw [gLen_t, List.length_map]
  have hr : rgP 1 ((l.length : Int) - 1).toNat = (Pv.upTo 1 (l.length - 1)).map .int := by
    rw [rgP_eq]; congr 2; omega
  unfold mcT
  refine comp_ok (ev1 := [.val (.int n), .val (.tup (l.map .int)), .no]) (ev2 := [.val (.int n), .val (.tup (l.map .int)), .no]) (ps := (Pv.upTo 1 (l.length - 1)).map .int) (qs := (twos l).map .int) ?_ ?_
  · rw [← hr]
    exact rng2_ok (rg_1 hl) (okR_mid (by omega) (by omega)) (okR_small (by omega))
  · refine compr_int (P := fun i => decide (l.getD (i - 1).toNat 0 = l.getD i.toNat 0)) (Pv.upTo 1 (l.length - 1)) [.val (.int n), .val (.tup (l.map .int)), .no] rfl (fun i hi => ?_) (by rw [upTo_len, SZ]; omega)
    unfold Pv.upTo at hi
    obtain ⟨k, hk, rfl⟩ := List.mem_map.mp hi
    rw [List.mem_range] at hk
    have a1 : atI (l.map PV.int) (1 + (k : Int) - 1) = some (.int (l.getD (1 + (k : Int) - 1).toNat 0)) := by
      have e0 : (1 + (k : Int) - 1) = (k : Nat) := by omega
      rw [e0]
      refine atI_nat ?_
      rw [List.getElem?_map, Int.toNat_natCast, List.getD_eq_getElem?_getD, List.getElem?_eq_getElem (by omega)]
      rfl
    have a2 : atI (l.map PV.int) (1 + (k : Int)) = some (.int (l.getD (1 + (k : Int)).toNat 0)) := by
      have e0 : (1 + (k : Int)) = ((1 + k : Nat) : Int) := by omega
      rw [e0]
      refine atI_nat ?_
      rw [List.getElem?_map, Int.toNat_natCast, List.getD_eq_getElem?_getD, List.getElem?_eq_getElem (by omega)]
      rfl
    exact pr_1 a1 a2
theorem lawisset_ok (n : Int) (l : List Int) (hz : l.length ≤ 1000) : fn__law_is_set [.int n, .tup (l.map .int)] = .ok (.bl (decide (l = isort l) && (decide (twos l = []) && decide (outs n l = []))), false) := by
  have e1 : gEq false (.lst (l.map .int)) (.lst ((isort l).map .int)) = some (.bl (decide (l = isort l)), false) := by
    rw [gEq_lstI false l (isort l)]; simp
  have e2 : gSorted [.tup (l.map .int)] = some (.lst ((isort l).map .int), true) := by simp
  rw [un__law_is_set, sv_is]
  exact is_1 e1 e2 (twos_ok n l hz) (gEq_inil _) (within_ok n l hz)
theorem mem_upTo' {n t : Int} (h : t ∈ Pv.upTo 0 n.toNat) : 0 ≤ t ∧ t < n := by
  unfold Pv.upTo at h
  obtain ⟨k, hk, rfl⟩ := List.mem_map.mp h
  rw [List.mem_range] at hk
  omega
theorem upTo_mem' {n t : Int} (h : 0 ≤ t ∧ t < n) : t ∈ Pv.upTo 0 n.toNat := by
  unfold Pv.upTo
  exact List.mem_map.mpr ⟨t.toNat, List.mem_range.mpr (by omega), by omega⟩
theorem isset_iff {n : Int} (h : 1 ≤ n ∧ n ≤ 24) (l : List Int) : (decide (l = isort l) && (decide (twos l = []) && decide (outs n l = []))) = isSet n l := by
  cases c : isSet n l with
  | true =>
    have pw := set_asc c
    have e1 : l = isort l := isort_of (List.Perm.refl _) (pw.imp fun h => Int.le_of_lt h)
    have e2 : twos l = [] := List.filter_eq_nil_iff.mpr fun i hi => by
      unfold Pv.upTo at hi
      obtain ⟨k, hk, rfl⟩ := List.mem_map.mp hi
      rw [List.mem_range] at hk
      have h1 : k < l.length := by omega
      have h2 : k + 1 < l.length := by omega
      have := List.pairwise_iff_getElem.mp pw k (k + 1) h1 h2 (by omega)
      have t1 : (1 + (k : Int) - 1).toNat = k := by omega
      have t2 : (1 + (k : Int)).toNat = k + 1 := by omega
      rw [t1, t2, List.getD_eq_getElem?_getD, List.getD_eq_getElem?_getD, List.getElem?_eq_getElem h1, List.getElem?_eq_getElem h2, decide_eq_true_eq]
      show ¬ l[k] = l[k + 1]
      omega
    have e3 : outs n l = [] := List.filter_eq_nil_iff.mpr fun t ht => by
      have := mem_upTo' (set_mem c ht)
      rw [Bool.or_eq_true, decide_eq_true_eq, decide_eq_true_eq]
      omega
    rw [decide_eq_true e1, decide_eq_true e2, decide_eq_true e3]; rfl
  | false =>
    by_cases e1 : l = isort l
    · by_cases e2 : twos l = []
      · by_cases e3 : outs n l = []
        · exfalso
          have ps : l.Pairwise (· ≤ ·) := by rw [e1]; exact isort_sorted l
          have pw : l.Pairwise (· < ·) := by
            refine List.pairwise_iff_getElem.mpr fun i j hi hj hij => ?_
            have h2 : i + 1 < l.length := by omega
            have a1 : l[i] ≤ l[i + 1] := List.pairwise_iff_getElem.mp ps i (i + 1) hi h2 (by omega)
            have a2 : l[i + 1] ≤ l[j] := by
              by_cases z : i + 1 = j
              · subst z; exact Int.le_refl _
              · exact List.pairwise_iff_getElem.mp ps (i + 1) j h2 hj (by omega)
            have a3 : l[i] ≠ l[i + 1] := fun z => by
              have := List.filter_eq_nil_iff.mp e2 (1 + (i : Int)) (by
                unfold Pv.upTo
                exact List.mem_map.mpr ⟨i, List.mem_range.mpr (by omega), rfl⟩)
              have t1 : (1 + (i : Int) - 1).toNat = i := by omega
              have t2 : (1 + (i : Int)).toNat = i + 1 := by omega
              rw [t1, t2, List.getD_eq_getElem?_getD, List.getD_eq_getElem?_getD, List.getElem?_eq_getElem hi, List.getElem?_eq_getElem h2, decide_eq_true_eq] at this
              exact this z
            omega
          have q := isort_set h (s := l) (pw.imp fun h => by omega) fun t ht => by
            have := List.filter_eq_nil_iff.mp e3 t ht
            rw [Bool.or_eq_true, decide_eq_true_eq, decide_eq_true_eq] at this
            exact upTo_mem' (by omega)
          rw [← e1, c] at q
          cases q
        · rw [decide_eq_false e3, Bool.and_false, Bool.and_false]
      · rw [decide_eq_false e2, Bool.false_and, Bool.and_false]
    · rw [decide_eq_false e1, Bool.false_and]
end K01

set_option Elab.async false
set_option linter.all false
set_option maxRecDepth 100000
namespace K01
open Pv PySem PySem.Spec L2
open PyProof.Rows hiding St
def suW : Str → Addr → M Fl := (fun d_ a_ => pickC d_ [("UnpartedError", sq (bnd (mLst (aCons (mIsE 3 false a_) (aCons (mIsE 3 false a_) (aCons (mIsE 3 false a_) (Pv.ret []))))) (setR 4)) (sq (bnd (mRng1 (kCons (look (eC (.int 3))) (Pv.ret []))) (loop (tName 5) (sq (mIfS (mAnd (blOf (eOp (gEq false) (pVar 4) (look (mComp (mRng1 (kCons (look (eC (.int 3))) (Pv.ret []))) (tName 6) (Pv.ret true) (eOp (gEq false) (pVar 6) (pVar 5)) [6])))) (tTru (look (mIsE 3 true a_)))) (sq (bnd (eOp gIx (look (mLst (aCons (eC (.str "table")) (aCons (eC (.str "order")) (aCons (eC (.str "range")) (Pv.ret [])))))) (pVar 5)) mRet) (Pv.ret .nx)) (Pv.ret .nx)) (Pv.ret .nx)))) (Pv.ret .nx))), ("InvalidTable", sq (bnd (mLst (aCons (mIsE 3 true a_) (aCons (mIsE 3 false a_) (aCons (mIsE 3 false a_) (Pv.ret []))))) (setR 4)) (sq (bnd (mRng1 (kCons (look (eC (.int 3))) (Pv.ret []))) (loop (tName 5) (sq (mIfS (mAnd (blOf (eOp (gEq false) (pVar 4) (look (mComp (mRng1 (kCons (look (eC (.int 3))) (Pv.ret []))) (tName 6) (Pv.ret true) (eOp (gEq false) (pVar 6) (pVar 5)) [6])))) (tTru (look (mIsE 3 true a_)))) (sq (bnd (eOp gIx (look (mLst (aCons (eC (.str "table")) (aCons (eC (.str "order")) (aCons (eC (.str "range")) (Pv.ret [])))))) (pVar 5)) mRet) (Pv.ret .nx)) (Pv.ret .nx)) (Pv.ret .nx)))) (Pv.ret .nx))), ("InvalidOrder", sq (bnd (mLst (aCons (mIsE 3 false a_) (aCons (mIsE 3 true a_) (aCons (mIsE 3 false a_) (Pv.ret []))))) (setR 4)) (sq (bnd (mRng1 (kCons (look (eC (.int 3))) (Pv.ret []))) (loop (tName 5) (sq (mIfS (mAnd (blOf (eOp (gEq false) (pVar 4) (look (mComp (mRng1 (kCons (look (eC (.int 3))) (Pv.ret []))) (tName 6) (Pv.ret true) (eOp (gEq false) (pVar 6) (pVar 5)) [6])))) (tTru (look (mIsE 3 true a_)))) (sq (bnd (eOp gIx (look (mLst (aCons (eC (.str "table")) (aCons (eC (.str "order")) (aCons (eC (.str "range")) (Pv.ret [])))))) (pVar 5)) mRet) (Pv.ret .nx)) (Pv.ret .nx)) (Pv.ret .nx)))) (Pv.ret .nx))), ("OutOfRange", sq (bnd (mLst (aCons (mIsE 3 false a_) (aCons (mIsE 3 false a_) (aCons (mIsE 3 true a_) (Pv.ret []))))) (setR 4)) (sq (bnd (mRng1 (kCons (look (eC (.int 3))) (Pv.ret []))) (loop (tName 5) (sq (mIfS (mAnd (blOf (eOp (gEq false) (pVar 4) (look (mComp (mRng1 (kCons (look (eC (.int 3))) (Pv.ret []))) (tName 6) (Pv.ret true) (eOp (gEq false) (pVar 6) (pVar 5)) [6])))) (tTru (look (mIsE 3 true a_)))) (sq (bnd (eOp gIx (look (mLst (aCons (eC (.str "table")) (aCons (eC (.str "order")) (aCons (eC (.str "range")) (Pv.ret [])))))) (pVar 5)) mRet) (Pv.ret .nx)) (Pv.ret .nx)) (Pv.ret .nx)))) (Pv.ret .nx)))])
def mcW : M RV := mComp (mRng1 (kCons (look (eC (.int 3))) (Pv.ret []))) (tName 6) (Pv.ret true) (eOp (gEq false) (pVar 6) (pVar 5)) [6]
def lbW : M Fl := sq (mIfS (mAnd (blOf (eOp (gEq false) (pVar 4) (look mcW))) (tTru (look (mIsE 3 true 0)))) (sq (bnd (eOp gIx (look (mLst (aCons (eC (.str "table")) (aCons (eC (.str "order")) (aCons (eC (.str "range")) (Pv.ret [])))))) (pVar 5)) mRet) (Pv.ret .nx)) (Pv.ret .nx)) (Pv.ret .nx)
def sgW (b1 b2 b3 : Bool) : M Fl := sq (bnd (mLst (aCons (mIsE 3 b1 0) (aCons (mIsE 3 b2 0) (aCons (mIsE 3 b3 0) (Pv.ret []))))) (setR 4)) (sq (bnd (mRng1 (kCons (look (eC (.int 3))) (Pv.ret []))) (loop (tName 5) lbW)) (Pv.ret .nx))
theorem su_t : suW "InvalidTable" 0 = sgW true false false := by
  unfold suW sgW lbW mcW
  rw [pick_tl (by decide), pick_hd]
theorem su_o : suW "InvalidOrder" 0 = sgW false true false := by
  unfold suW sgW lbW mcW
  rw [pick_tl (by decide), pick_tl (by decide), pick_hd]
theorem su_r : suW "OutOfRange" 0 = sgW false false true := by
  unfold suW sgW lbW mcW
  rw [pick_tl (by decide), pick_tl (by decide), pick_tl (by decide), pick_hd]
theorem lb_no {mc : M RV} {a b c s5 : Pv.Slot} {L V : List PV} (h : mc [a, b, c, .val (.opq (.ref 0)), .own L, s5, .no] = .ok (.lst V, true) [a, b, c, .val (.opq (.ref 0)), .own L, s5, .no]) (e : gEq false (.lst L) (.lst V) = some (.bl false, false)) : (sq (mIfS (mAnd (blOf (eOp (gEq false) (pVar 4) (look mc))) (tTru (look (mIsE 3 true 0)))) (sq (bnd (eOp gIx (look (mLst (aCons (eC (.str "table")) (aCons (eC (.str "order")) (aCons (eC (.str "range")) (Pv.ret [])))))) (pVar 5)) mRet) (Pv.ret .nx)) (Pv.ret .nx)) (Pv.ret .nx)) [a, b, c, .val (.opq (.ref 0)), .own L, s5, .no] = .ok .nx [a, b, c, .val (.opq (.ref 0)), .own L, s5, .no] := by
  simp [h, e]
theorem lb_yes {mc : M RV} {a b c : Pv.Slot} {k : Int} {L V : List PV} {w : PV} (h : mc [a, b, c, .val (.opq (.ref 0)), .own L, .val (.int k), .no] = .ok (.lst V, true) [a, b, c, .val (.opq (.ref 0)), .own L, .val (.int k), .no]) (e : gEq false (.lst L) (.lst V) = some (.bl true, false)) (hw : atI [.str "table", .str "order", .str "range"] k = some w) : (sq (mIfS (mAnd (blOf (eOp (gEq false) (pVar 4) (look mc))) (tTru (look (mIsE 3 true 0)))) (sq (bnd (eOp gIx (look (mLst (aCons (eC (.str "table")) (aCons (eC (.str "order")) (aCons (eC (.str "range")) (Pv.ret [])))))) (pVar 5)) mRet) (Pv.ret .nx)) (Pv.ret .nx)) (Pv.ret .nx)) [a, b, c, .val (.opq (.ref 0)), .own L, .val (.int k), .no] = .ok (.rt (w, false)) [a, b, c, .val (.opq (.ref 0)), .own L, .val (.int k), .no] := by
  simp [h, e, hw, mIsE]
theorem mc_k (k : Int) {a b c x s4 : Pv.Slot} : mcW [a, b, c, x, s4, .val (.int k), .no] = .ok (.lst [.bl (decide (0 = k)), .bl (decide (1 = k)), .bl (decide (2 = k))], true) [a, b, c, x, s4, .val (.int k), .no] := by
  have hr : ∀ ev : SL, mRng1 (kCons (look (eC (.int 3))) (Pv.ret [])) ev = .ok ([(0 : Int), 1, 2].map PV.int) ev := fun ev => rng1_nat (n := 3) rfl (by omega)
  unfold mcW
  exact comp_gen (e := PV.int) (c := fun _ => true) (g := fun i => .bl (decide (i = k))) (l := [0, 1, 2]) (hr _) rfl (fun i _ => rfl) (fun i _ _ => ⟨false, by simp⟩) (by decide)
theorem sg_in {b1 b2 b3 : Bool} {a b c : Pv.Slot} : bnd (mLst (aCons (mIsE 3 b1 0) (aCons (mIsE 3 b2 0) (aCons (mIsE 3 b3 0) (Pv.ret []))))) (setR 4) [a, b, c, .val (.opq (.ref 0)), .no, .no, .no] = .ok .nx [a, b, c, .val (.opq (.ref 0)), .own [.bl b1, .bl b2, .bl b3], .no, .no] := rfl
theorem gEq_b3 (a b c x y z : Bool) : gEq false (.lst [.bl a, .bl b, .bl c]) (.lst [.bl x, .bl y, .bl z]) = some (.bl (decide (a = x) && (decide (b = y) && decide (c = z))), false) := by
  cases a <;> cases b <;> cases c <;> cases x <;> cases y <;> cases z <;> rfl
theorem sg_run {b1 b2 b3 : Bool} {a b c : Pv.Slot} {r : RV} {ev' : SL} (h : loop (tName 5) lbW ([(0 : Int), 1, 2].map PV.int) [a, b, c, .val (.opq (.ref 0)), .own [.bl b1, .bl b2, .bl b3], .no, .no] = .ok (.rt r) ev') : sgW b1 b2 b3 [a, b, c, .val (.opq (.ref 0)), .no, .no, .no] = .ok (.rt r) ev' := by
  have hr : ∀ ev : SL, mRng1 (kCons (look (eC (.int 3))) (Pv.ret [])) ev = .ok ([(0 : Int), 1, 2].map PV.int) ev := fun ev => rng1_nat (n := 3) rfl (by omega)
  unfold sgW
  exact (sq_nx sg_in).trans (sq_rt ((bnd_ok (hr _)).trans h))
theorem tn5 {a b c d e f : Pv.Slot} {p : PV} (hp : ∀ ps, p ≠ .lst ps) (nv : f = .no ∨ ∃ q, f = .val (.int q)) : tName 5 p [a, b, c, d, e, f, .no] = some [a, b, c, d, e, .val p, .no] := by
  cases p <;> first | rfl | exact absurd rfl (hp _)
theorem st_no {a b c s5 : Pv.Slot} {L : List PV} {k : Int} {ks : List PV} (nv : s5 = .no ∨ ∃ q, s5 = .val (.int q)) (e : gEq false (.lst L) (.lst [.bl (decide (0 = k)), .bl (decide (1 = k)), .bl (decide (2 = k))]) = some (.bl false, false)) : loop (tName 5) lbW (.int k :: ks) [a, b, c, .val (.opq (.ref 0)), .own L, s5, .no] = loop (tName 5) lbW ks [a, b, c, .val (.opq (.ref 0)), .own L, .val (.int k), .no] :=
  loop_nx (tn5 (fun _ h => by cases h) nv) (lb_no (mc_k k) e)
theorem st_yes {a b c s5 : Pv.Slot} {L : List PV} {k : Int} {ks : List PV} {w : PV} (nv : s5 = .no ∨ ∃ q, s5 = .val (.int q)) (e : gEq false (.lst L) (.lst [.bl (decide (0 = k)), .bl (decide (1 = k)), .bl (decide (2 = k))]) = some (.bl true, false)) (hw : atI [.str "table", .str "order", .str "range"] k = some w) : loop (tName 5) lbW (.int k :: ks) [a, b, c, .val (.opq (.ref 0)), .own L, s5, .no] = .ok (.rt (w, false)) [a, b, c, .val (.opq (.ref 0)), .own L, .val (.int k), .no] :=
  loop_rt (tn5 (fun _ h => by cases h) nv) (lb_yes (mc_k k) e hw)
theorem sg_t (a b c : Pv.Slot) : ∃ ev', sgW true false false [a, b, c, .val (.opq (.ref 0)), .no, .no, .no] = .ok (.rt (.str "table", false)) ev' :=
  ⟨_, sg_run (st_yes (.inl rfl) (gEq_b3 ..) (atI_nat (j := 0) rfl))⟩
theorem sg_o (a b c : Pv.Slot) : ∃ ev', sgW false true false [a, b, c, .val (.opq (.ref 0)), .no, .no, .no] = .ok (.rt (.str "order", false)) ev' :=
  ⟨_, sg_run ((st_no (.inl rfl) (gEq_b3 ..)).trans (st_yes (.inr ⟨_, rfl⟩) (gEq_b3 ..) (atI_nat (j := 1) rfl)))⟩
theorem sg_r (a b c : Pv.Slot) : ∃ ev', sgW false false true [a, b, c, .val (.opq (.ref 0)), .no, .no, .no] = .ok (.rt (.str "range", false)) ev' :=
  ⟨_, sg_run ((st_no (.inl rfl) (gEq_b3 ..)).trans ((st_no (.inr ⟨_, rfl⟩) (gEq_b3 ..)).trans (st_yes (.inr ⟨_, rfl⟩) (gEq_b3 ..) (atI_nat (j := 2) rfl))))⟩
def mbW (Fcheck_set Fcheck_table Fcheck_order Fcheck_things : Fn) : M Fl := (sq (mIfS (blOf (eOp (gEq false) (pVar 1) (look (eC (.int 0))))) (sq (bnd (eOp gIx (look (mLst (aCons (eC (.str "")) (aCons (eC (.str "wrong")) (Pv.ret []))))) (look (eCall gInt (kCons (look (eOp (gEq true) (look (eFn Fcheck_set (aCons (eVar 0) (aCons (eVar 2) (Pv.ret []))))) (pVar 2))) (Pv.ret []))))) mRet) (Pv.ret .nx)) (Pv.ret .nx)) (sq (mIfS (blOf (eOp (gEq false) (pVar 1) (look (eC (.int 1))))) (sq (bnd (eOp gIx (look (mLst (aCons (eC (.str "")) (aCons (eC (.str "wrong")) (Pv.ret []))))) (look (eCall gInt (kCons (look (eOp (gEq true) (look (eFn Fcheck_table (aCons (eVar 0) (aCons (eVar 2) (Pv.ret []))))) (pVar 2))) (Pv.ret []))))) mRet) (Pv.ret .nx)) (Pv.ret .nx)) (sq (mIfS (blOf (eOp (gEq false) (pVar 1) (look (eC (.int 2))))) (sq (bnd (eOp gIx (look (mLst (aCons (eC (.str "")) (aCons (eC (.str "wrong")) (Pv.ret []))))) (look (eCall gInt (kCons (look (eOp (gEq true) (look (eFn Fcheck_order (aCons (eVar 0) (aCons (eVar 2) (Pv.ret []))))) (pVar 2))) (Pv.ret []))))) mRet) (Pv.ret .nx)) (Pv.ret .nx)) (sq (bnd (eOp gIx (look (mLst (aCons (eC (.str "")) (aCons (eC (.str "wrong")) (Pv.ret []))))) (look (eCall gInt (kCons (look (eOp (gEq true) (look (eFn Fcheck_things (aCons (eVar 0) (Pv.ret [])))) (pVar 0))) (Pv.ret []))))) mRet) (Pv.ret .nx)))))
theorem w_sv (F1 F2 F3 F4 : Fn) : sv__law_word F1 F2 F3 F4 = sq (mTry (mbW F1 F2 F3 F4) is__law_word 3 suW) (sq (bnd (eC (.str "other")) mRet) (Pv.ret .nx)) := rfl
theorem w_ok {F1 F2 F3 F4 : Fn} {n k : Int} {v : PV} {w : PV} {ev' : SL} (h : mbW F1 F2 F3 F4 [.val (.int n), .val (.int k), .val v, .no, .no, .no, .no] = .ok (.rt (w, false)) ev') : runF 7 3 (sv__law_word F1 F2 F3 F4) [.int n, .int k, v] = .ok (w, false) := by
  rw [w_sv]
  refine runF_ok (ev' := ev') (sq_rt ?_) rfl (by decide)
  show mTry _ _ _ _ [.val (.int n), .val (.int k), .val v, .no, .no, .no, .no] = _
  unfold mTry
  rw [h]
theorem w_no {F1 F2 F3 F4 : Fn} {n k : Int} {v : PV} {c w : Str} (h : mbW F1 F2 F3 F4 [.val (.int n), .val (.int k), .val v, .no, .no, .no, .no] = .exc c [.val (.int n), .val (.int k), .val v, .no, .no, .no, .no]) (his : is__law_word c = some true)
    (hs : ∃ ev', suW c 0 [.val (.int n), .val (.int k), .val v, .val (.opq (.ref 0)), .no, .no, .no] = .ok (.rt (.str w, false)) ev') : runF 7 3 (sv__law_word F1 F2 F3 F4) [.int n, .int k, v] = .ok (.str w, false) := by
  obtain ⟨ev', hs⟩ := hs
  rw [w_sv]
  refine runF_ok (ev' := ev'.set 3 .no) (sq_rt ?_) rfl (by decide)
  show mTry _ _ _ _ [.val (.int n), .val (.int k), .val v, .no, .no, .no, .no] = _
  unfold mTry
  rw [h]
  show (match is__law_word c with | some true => _ | some false => _ | none => _) = _
  rw [his]
  show (if 3 < 7 then _ else _) = _
  rw [if_pos (by omega)]
  show (match suW c 0 [.val (.int n), .val (.int k), .val v, .val (.opq (.ref 0)), .no, .no, .no] with | .ok f ev2 => _ | .exc _ _ => _ | .bad => _) = _
  rw [hs]
theorem m0_ok {F1 F2 F3 F4 : Fn} {n : Int} {v : PV} (hv : ∀ ps, v ≠ .lst ps) (h : F1 [.int n, v] = .ok (v, false)) (e : gEq true v v = some (.bl false, false)) : mbW F1 F2 F3 F4 [.val (.int n), .val (.int 0), .val v, .no, .no, .no, .no] = .ok (.rt (.str "", false)) [.val (.int n), .val (.int 0), .val v, .no, .no, .no, .no] := by
  have a0 : atI [PV.str "", PV.str "wrong"] (0 : Int) = some (.str "") := (atI_nat (j := 0) rfl : atI [PV.str "", PV.str "wrong"] ((0 : Nat) : Int) = _)
  unfold mbW
  simp [hv, h, e, a0]
theorem m0_no {F1 F2 F3 F4 : Fn} {n : Int} {v : PV} {c : Str} (hv : ∀ ps, v ≠ .lst ps) (h : F1 [.int n, v] = .exc c) : mbW F1 F2 F3 F4 [.val (.int n), .val (.int 0), .val v, .no, .no, .no, .no] = .exc c [.val (.int n), .val (.int 0), .val v, .no, .no, .no, .no] := by
  unfold mbW
  simp [hv, h]
theorem m1_ok {F1 F2 F3 F4 : Fn} {n : Int} {v : PV} (hv : ∀ ps, v ≠ .lst ps) (h : F2 [.int n, v] = .ok (v, false)) (e : gEq true v v = some (.bl false, false)) : mbW F1 F2 F3 F4 [.val (.int n), .val (.int 1), .val v, .no, .no, .no, .no] = .ok (.rt (.str "", false)) [.val (.int n), .val (.int 1), .val v, .no, .no, .no, .no] := by
  have a0 : atI [PV.str "", PV.str "wrong"] (0 : Int) = some (.str "") := (atI_nat (j := 0) rfl : atI [PV.str "", PV.str "wrong"] ((0 : Nat) : Int) = _)
  unfold mbW
  simp [hv, h, e, a0]
theorem m1_no {F1 F2 F3 F4 : Fn} {n : Int} {v : PV} {c : Str} (hv : ∀ ps, v ≠ .lst ps) (h : F2 [.int n, v] = .exc c) : mbW F1 F2 F3 F4 [.val (.int n), .val (.int 1), .val v, .no, .no, .no, .no] = .exc c [.val (.int n), .val (.int 1), .val v, .no, .no, .no, .no] := by
  unfold mbW
  simp [hv, h]
theorem m2_ok {F1 F2 F3 F4 : Fn} {n : Int} {v : PV} (hv : ∀ ps, v ≠ .lst ps) (h : F3 [.int n, v] = .ok (v, false)) (e : gEq true v v = some (.bl false, false)) : mbW F1 F2 F3 F4 [.val (.int n), .val (.int 2), .val v, .no, .no, .no, .no] = .ok (.rt (.str "", false)) [.val (.int n), .val (.int 2), .val v, .no, .no, .no, .no] := by
  have a0 : atI [PV.str "", PV.str "wrong"] (0 : Int) = some (.str "") := (atI_nat (j := 0) rfl : atI [PV.str "", PV.str "wrong"] ((0 : Nat) : Int) = _)
  unfold mbW
  simp [hv, h, e, a0]
theorem m2_no {F1 F2 F3 F4 : Fn} {n : Int} {v : PV} {c : Str} (hv : ∀ ps, v ≠ .lst ps) (h : F3 [.int n, v] = .exc c) : mbW F1 F2 F3 F4 [.val (.int n), .val (.int 2), .val v, .no, .no, .no, .no] = .exc c [.val (.int n), .val (.int 2), .val v, .no, .no, .no, .no] := by
  unfold mbW
  simp [hv, h]
theorem m3_ok {F1 F2 F3 F4 : Fn} {n : Int} {v : PV} (hv : ∀ ps, v ≠ .lst ps) (h : F4 [.int n] = .ok (.int n, false)) (e : gEq true (.int n) (.int n) = some (.bl false, false)) : mbW F1 F2 F3 F4 [.val (.int n), .val (.int 3), .val v, .no, .no, .no, .no] = .ok (.rt (.str "", false)) [.val (.int n), .val (.int 3), .val v, .no, .no, .no, .no] := by
  have a0 : atI [PV.str "", PV.str "wrong"] (0 : Int) = some (.str "") := (atI_nat (j := 0) rfl : atI [PV.str "", PV.str "wrong"] ((0 : Nat) : Int) = _)
  unfold mbW
  simp [hv, h, e, a0]
theorem m3_no {F1 F2 F3 F4 : Fn} {n : Int} {v : PV} {c : Str} (hv : ∀ ps, v ≠ .lst ps) (h : F4 [.int n] = .exc c) : mbW F1 F2 F3 F4 [.val (.int n), .val (.int 3), .val v, .no, .no, .no, .no] = .exc c [.val (.int n), .val (.int 3), .val v, .no, .no, .no, .no] := by
  unfold mbW
  simp [hv, h]
theorem word3 (n : Int) : fn__law_word [.int n, .int 3, .non] = .ok (.str (if okN n then "" else "range"), false) := by
  have e := things_is n
  rw [un__law_word]
  cases c : okN n with
  | true => rw [c] at e; exact w_ok (m3_ok (fun _ h => by cases h) e (by rw [gEq_ii]; simp))
  | false => rw [c] at e; exact w_no (m3_no (fun _ h => by cases h) e) (by decide) (by rw [su_r]; exact sg_r ..)
theorem word0 (n : Int) (l : List Int) : fn__law_word [.int n, .int 0, .tup (l.map .int)] = .ok (.str (if isSet n l then "" else "table"), false) := by
  have e := set_ok n l
  rw [un__law_word]
  cases c : isSet n l with
  | true => rw [c] at e; exact w_ok (m0_ok (fun _ h => by cases h) e (gEq_self true (okD_tupI l)))
  | false => rw [c] at e; exact w_no (m0_no (fun _ h => by cases h) e) (by decide) (by rw [su_t]; exact sg_t ..)
theorem word1 (n : Int) (T : List (List Int)) : fn__law_word [.int n, .int 1, .tup (tabV T)] = .ok (.str (if isTab n T then "" else "table"), false) := by
  have e := table_is n T
  rw [un__law_word]
  cases c : isTab n T with
  | true => rw [c] at e; exact w_ok (m1_ok (fun _ h => by cases h) e (gEq_self true (okD_tab T)))
  | false => rw [c] at e; exact w_no (m1_no (fun _ h => by cases h) e) (by decide) (by rw [su_t]; exact sg_t ..)
theorem word2 (n : Int) (l : List Int) : fn__law_word [.int n, .int 2, .tup (l.map .int)] = .ok (.str (if isOrder n l then "" else "order"), false) := by
  have e := order_is n l
  rw [un__law_word]
  cases c : isOrder n l with
  | true => rw [c] at e; exact w_ok (m2_ok (fun _ h => by cases h) e (gEq_self true (okD_tupI l)))
  | false => rw [c] at e; exact w_no (m2_no (fun _ h => by cases h) e) (by decide) (by rw [su_o]; exact sg_o ..)
end K01

set_option Elab.async false
set_option linter.all false
set_option maxRecDepth 100000
namespace K01
open Pv PySem PySem.Spec L2
open PyProof.Rows hiding St
def sv_law (F_law_digits F_law_rich F_law_cell F_law_order F_law_set F_law_bent F_law_table F_law_word F_law_is_set : Fn) : M Fl := sq (bnd (eFn F_law_digits (aCons (eFn F_law_rich (aCons (eFn F_law_cell (aCons (eVar 0) (aCons (eC (.int 0)) (Pv.ret [])))) (Pv.ret []))) (aCons (mLst (aCons (eC (.int 30)) (aCons (eC (.int 2)) (aCons (eC (.int 2)) (aCons (eC (.int 6)) (Pv.ret [])))))) (Pv.ret [])))) (setR 1)) (sq (bnd (eOp aSub (look (eOp gIx (pVar 1) (look (eC (.int 0))))) (look (eC (.int 2)))) (setR 2)) (sq (bnd (eCall gMax (kCons (look (eC (.int 1))) (kCons (look (eCall gMin (kCons (pVar 2) (kCons (look (eC (.int 24))) (Pv.ret []))))) (Pv.ret [])))) (setR 3)) (sq (bnd (vAnd (eOp cGt (pVar 2) (look (eC (.int 0)))) (eOp cLt (pVar 2) (look (eC (.int 25))))) (setR 4)) (sq (bnd (eFn F_law_order (aCons (eFn F_law_cell (aCons (eVar 0) (aCons (eC (.int 1)) (Pv.ret [])))) (aCons (eVar 3) (Pv.ret [])))) (setR 5)) (sq (bnd (eFn F_law_set (aCons (eFn F_law_cell (aCons (eVar 0) (aCons (eC (.int 2)) (Pv.ret [])))) (aCons (eVar 3) (Pv.ret [])))) (setR 6)) (sq (mIfS (blOf (eOp (gEq false) (look (eOp gIx (pVar 1) (look (eC (.int 1))))) (look (eC (.int 1))))) (sq (bnd (eFn F_law_bent (aCons (eVar 5) (aCons (eFn F_law_cell (aCons (eVar 0) (aCons (eC (.int 3)) (Pv.ret [])))) (Pv.ret [])))) (setR 5)) (sq (bnd (eFn F_law_bent (aCons (eVar 6) (aCons (eFn F_law_cell (aCons (eVar 0) (aCons (eC (.int 4)) (Pv.ret [])))) (Pv.ret [])))) (setR 6)) (Pv.ret .nx))) (Pv.ret .nx)) (sq (bnd (eFn F_law_table (aCons (eVar 0) (aCons (eC (.int 6)) (aCons (eVar 3) (aCons (eFn F_law_order (aCons (eFn F_law_cell (aCons (eVar 0) (aCons (eC (.int 5)) (Pv.ret [])))) (aCons (eVar 3) (Pv.ret [])))) (Pv.ret [])))))) (setR 7)) (sq (mIfS (blOf (eOp (gEq false) (look (eOp gIx (pVar 1) (look (eC (.int 2))))) (look (eC (.int 1))))) (sq (bnd (eOp gAdd (pVar 7) (look (mTup (aCons (eVar 6) (Pv.ret []))))) (setR 7)) (Pv.ret .nx)) (Pv.ret .nx)) (sq (mIfS (blOf (eOp (gEq false) (look (eOp gIx (pVar 1) (look (eC (.int 3))))) (look (eC (.int 0))))) (sq (bnd (eOp gMulT (look (mTup (aCons (eVar 6) (Pv.ret [])))) (look (eC (.int 41)))) (setR 7)) (Pv.ret .nx)) (Pv.ret .nx)) (sq (mIfS (blOf (eOp (gEq true) (look (eFn F_law_word (aCons (eVar 2) (aCons (eC (.int 3)) (aCons (eC .non) (Pv.ret [])))))) (look (eOp gIx (look (mLst (aCons (eC (.str "range")) (aCons (eC (.str "")) (Pv.ret []))))) (look (eCall gInt (kCons (pVar 4) (Pv.ret [])))))))) (sq (bnd (eC (.bl false)) mRet) (Pv.ret .nx)) (Pv.ret .nx)) (sq (mIfS (blOf (eOp (gEq true) (look (eFn F_law_word (aCons (eVar 2) (aCons (eC (.int 0)) (aCons (eVar 6) (Pv.ret [])))))) (look (eOp gIx (look (mLst (aCons (eC (.str "table")) (aCons (eC (.str "")) (Pv.ret []))))) (look (eCall gInt (kCons (look (vAnd (eVar 4) (eFn F_law_is_set (aCons (eVar 2) (aCons (eVar 6) (Pv.ret [])))))) (Pv.ret [])))))))) (sq (bnd (eC (.bl false)) mRet) (Pv.ret .nx)) (Pv.ret .nx)) (sq (bnd (vAnd (eVar 4) (vAnd (eOp cLt (look (eCall gLen (kCons (pVar 7) (Pv.ret [])))) (look (eC (.int 41)))) (eOp (gEq false) (look (mComp (mSeq (eVar 7)) (tName 9) (mNot (tTru (look (eFn F_law_is_set (aCons (eVar 2) (aCons (eVar 9) (Pv.ret []))))))) (eVar 9) [9])) (look (mLst (Pv.ret [])))))) (setR 8)) (sq (mIfS (blOf (eOp (gEq true) (look (eFn F_law_word (aCons (eVar 2) (aCons (eC (.int 1)) (aCons (eVar 7) (Pv.ret [])))))) (look (eOp gIx (look (mLst (aCons (eC (.str "table")) (aCons (eC (.str "")) (Pv.ret []))))) (look (eCall gInt (kCons (pVar 8) (Pv.ret [])))))))) (sq (bnd (eC (.bl false)) mRet) (Pv.ret .nx)) (Pv.ret .nx)) (sq (bnd (eOp (gEq false) (look (eFn F_law_word (aCons (eVar 2) (aCons (eC (.int 2)) (aCons (eVar 5) (Pv.ret [])))))) (look (eOp gIx (look (mLst (aCons (eC (.str "order")) (aCons (eC (.str "")) (Pv.ret []))))) (look (eCall gInt (kCons (look (vAnd (eVar 4) (eOp (gEq false) (look (eCall gSorted (kCons (pVar 5) (Pv.ret [])))) (look (mComp (mRng1 (kCons (pVar 2) (Pv.ret []))) (tName 10) (Pv.ret true) (eVar 10) [10]))))) (Pv.ret []))))))) mRet) (Pv.ret .nx)))))))))))))))
theorem un_law : fn_law = runF 11 1 (sv_law fn__law_digits fn__law_rich fn__law_cell fn__law_order fn__law_set fn__law_bent fn__law_table fn__law_word fn__law_is_set) := rfl
def l1 (F_law_digits F_law_rich F_law_cell : Fn) : M Fl := bnd (eFn F_law_digits (aCons (eFn F_law_rich (aCons (eFn F_law_cell (aCons (eVar 0) (aCons (eC (.int 0)) (Pv.ret [])))) (Pv.ret []))) (aCons (mLst (aCons (eC (.int 30)) (aCons (eC (.int 2)) (aCons (eC (.int 2)) (aCons (eC (.int 6)) (Pv.ret [])))))) (Pv.ret [])))) (setR 1)
def l2 : M Fl := bnd (eOp aSub (look (eOp gIx (pVar 1) (look (eC (.int 0))))) (look (eC (.int 2)))) (setR 2)
def l3 : M Fl := bnd (eCall gMax (kCons (look (eC (.int 1))) (kCons (look (eCall gMin (kCons (pVar 2) (kCons (look (eC (.int 24))) (Pv.ret []))))) (Pv.ret [])))) (setR 3)
def l4 : M Fl := bnd (vAnd (eOp cGt (pVar 2) (look (eC (.int 0)))) (eOp cLt (pVar 2) (look (eC (.int 25))))) (setR 4)
def l5 (F_law_order F_law_cell : Fn) : M Fl := bnd (eFn F_law_order (aCons (eFn F_law_cell (aCons (eVar 0) (aCons (eC (.int 1)) (Pv.ret [])))) (aCons (eVar 3) (Pv.ret [])))) (setR 5)
def l6 (F_law_set F_law_cell : Fn) : M Fl := bnd (eFn F_law_set (aCons (eFn F_law_cell (aCons (eVar 0) (aCons (eC (.int 2)) (Pv.ret [])))) (aCons (eVar 3) (Pv.ret [])))) (setR 6)
def l7 (F_law_bent F_law_cell : Fn) : M Fl := mIfS (blOf (eOp (gEq false) (look (eOp gIx (pVar 1) (look (eC (.int 1))))) (look (eC (.int 1))))) (sq (bnd (eFn F_law_bent (aCons (eVar 5) (aCons (eFn F_law_cell (aCons (eVar 0) (aCons (eC (.int 3)) (Pv.ret [])))) (Pv.ret [])))) (setR 5)) (sq (bnd (eFn F_law_bent (aCons (eVar 6) (aCons (eFn F_law_cell (aCons (eVar 0) (aCons (eC (.int 4)) (Pv.ret [])))) (Pv.ret [])))) (setR 6)) (Pv.ret .nx))) (Pv.ret .nx)
def l8 (F_law_table F_law_order F_law_cell : Fn) : M Fl := bnd (eFn F_law_table (aCons (eVar 0) (aCons (eC (.int 6)) (aCons (eVar 3) (aCons (eFn F_law_order (aCons (eFn F_law_cell (aCons (eVar 0) (aCons (eC (.int 5)) (Pv.ret [])))) (aCons (eVar 3) (Pv.ret [])))) (Pv.ret [])))))) (setR 7)
def l9 : M Fl := mIfS (blOf (eOp (gEq false) (look (eOp gIx (pVar 1) (look (eC (.int 2))))) (look (eC (.int 1))))) (sq (bnd (eOp gAdd (pVar 7) (look (mTup (aCons (eVar 6) (Pv.ret []))))) (setR 7)) (Pv.ret .nx)) (Pv.ret .nx)
def l10 : M Fl := mIfS (blOf (eOp (gEq false) (look (eOp gIx (pVar 1) (look (eC (.int 3))))) (look (eC (.int 0))))) (sq (bnd (eOp gMulT (look (mTup (aCons (eVar 6) (Pv.ret [])))) (look (eC (.int 41)))) (setR 7)) (Pv.ret .nx)) (Pv.ret .nx)
def l11 (F_law_word : Fn) : M Fl := mIfS (blOf (eOp (gEq true) (look (eFn F_law_word (aCons (eVar 2) (aCons (eC (.int 3)) (aCons (eC .non) (Pv.ret [])))))) (look (eOp gIx (look (mLst (aCons (eC (.str "range")) (aCons (eC (.str "")) (Pv.ret []))))) (look (eCall gInt (kCons (pVar 4) (Pv.ret [])))))))) (sq (bnd (eC (.bl false)) mRet) (Pv.ret .nx)) (Pv.ret .nx)
def l12 (F_law_word F_law_is_set : Fn) : M Fl := mIfS (blOf (eOp (gEq true) (look (eFn F_law_word (aCons (eVar 2) (aCons (eC (.int 0)) (aCons (eVar 6) (Pv.ret [])))))) (look (eOp gIx (look (mLst (aCons (eC (.str "table")) (aCons (eC (.str "")) (Pv.ret []))))) (look (eCall gInt (kCons (look (vAnd (eVar 4) (eFn F_law_is_set (aCons (eVar 2) (aCons (eVar 6) (Pv.ret [])))))) (Pv.ret [])))))))) (sq (bnd (eC (.bl false)) mRet) (Pv.ret .nx)) (Pv.ret .nx)
def l13 (F_law_is_set : Fn) : M Fl := bnd (vAnd (eVar 4) (vAnd (eOp cLt (look (eCall gLen (kCons (pVar 7) (Pv.ret [])))) (look (eC (.int 41)))) (eOp (gEq false) (look (mComp (mSeq (eVar 7)) (tName 9) (mNot (tTru (look (eFn F_law_is_set (aCons (eVar 2) (aCons (eVar 9) (Pv.ret []))))))) (eVar 9) [9])) (look (mLst (Pv.ret [])))))) (setR 8)
def l14 (F_law_word : Fn) : M Fl := mIfS (blOf (eOp (gEq true) (look (eFn F_law_word (aCons (eVar 2) (aCons (eC (.int 1)) (aCons (eVar 7) (Pv.ret [])))))) (look (eOp gIx (look (mLst (aCons (eC (.str "table")) (aCons (eC (.str "")) (Pv.ret []))))) (look (eCall gInt (kCons (pVar 8) (Pv.ret [])))))))) (sq (bnd (eC (.bl false)) mRet) (Pv.ret .nx)) (Pv.ret .nx)
def l15 (F_law_word : Fn) : M Fl := bnd (eOp (gEq false) (look (eFn F_law_word (aCons (eVar 2) (aCons (eC (.int 2)) (aCons (eVar 5) (Pv.ret [])))))) (look (eOp gIx (look (mLst (aCons (eC (.str "order")) (aCons (eC (.str "")) (Pv.ret []))))) (look (eCall gInt (kCons (look (vAnd (eVar 4) (eOp (gEq false) (look (eCall gSorted (kCons (pVar 5) (Pv.ret [])))) (look (mComp (mRng1 (kCons (pVar 2) (Pv.ret []))) (tName 10) (Pv.ret true) (eVar 10) [10]))))) (Pv.ret []))))))) mRet

/-! ### _law_bent -/
section
variable {Fd Fr : Fn} {c r x0 x1 x2 z a : Int} {D S R P1 P2 : List PV}
theorem bt_0 (h0 : Fr [.int c] = .ok (.int r, false)) (h1 : Fd [.int r, .lst [.int 4, .int 30, .int 30]] = .ok (.lst D, true)) (d0 : atI D 0 = some (.int x0)) (d1 : atI D 1 = some (.int x1)) (hl : gLen [.tup S] = some (.int z, false)) (c0 : x0 = 0 ∨ z = 0) (ha : gAdd (.tup S) (.tup [.int (x1 - 3)]) = some (.tup R, false)) : runF 4 2 (sv__law_bent Fd Fr) [.tup S, .int c] = .ok (.tup R, false) := by
  unfold sv__law_bent
  by_cases q : x0 = 0
  · simp [-gLen_t, -gAdd_tt, h0, h1, d0, d1, hl, q, ha]
  · have z0 : z = 0 := by omega
    simp [-gLen_t, -gAdd_tt, h0, h1, d0, d1, hl, q, z0, ha]
theorem bt_1 (h0 : Fr [.int c] = .ok (.int r, false)) (h1 : Fd [.int r, .lst [.int 4, .int 30, .int 30]] = .ok (.lst D, true)) (d0 : atI D 0 = some (.int 1)) (d2 : atI D 2 = some (.int x2)) (hl : gLen [.tup S] = some (.int z, false)) (c0 : z ≠ 0) (hm : aMod (.int x2) (.int z) = some (.int a, false)) (k1 : cutP S none (some a) = P1) (k2 : cutP S (some (a + 1)) none = P2) (ha : gAdd (.tup P1) (.tup P2) = some (.tup R, false)) : runF 4 2 (sv__law_bent Fd Fr) [.tup S, .int c] = .ok (.tup R, false) := by
  unfold sv__law_bent
  simp [-gLen_t, -gAdd_tt, -aMod_ii, h0, h1, d0, d2, hl, c0, hm, k1, k2, ha]
theorem bt_2 {R1 : List PV} (h0 : Fr [.int c] = .ok (.int r, false)) (h1 : Fd [.int r, .lst [.int 4, .int 30, .int 30]] = .ok (.lst D, true)) (d0 : atI D 0 = some (.int 2)) (d1 : atI D 1 = some (.int x1)) (d2 : atI D 2 = some (.int x2)) (hl : gLen [.tup S] = some (.int z, false)) (c0 : z ≠ 0) (hm : aMod (.int x2) (.int z) = some (.int a, false)) (k1 : cutP S none (some a) = P1) (k2 : cutP S (some (a + 1)) none = P2) (ha : gAdd (.tup P1) (.tup [.int (x1 - 3)]) = some (.tup R1, false)) (hb : gAdd (.tup R1) (.tup P2) = some (.tup R, false)) : runF 4 2 (sv__law_bent Fd Fr) [.tup S, .int c] = .ok (.tup R, false) := by
  unfold sv__law_bent
  simp [-gLen_t, -gAdd_tt, -aMod_ii, h0, h1, d0, d1, d2, hl, c0, hm, k1, k2, ha, hb]
theorem bt_3 (h0 : Fr [.int c] = .ok (.int r, false)) (h1 : Fd [.int r, .lst [.int 4, .int 30, .int 30]] = .ok (.lst D, true)) (d0 : atI D 0 = some (.int x0)) (d2 : atI D 2 = some (.int x2)) (hl : gLen [.tup S] = some (.int z, false)) (c0 : z ≠ 0) (q0 : x0 ≠ 0) (q1 : x0 ≠ 1) (q2 : x0 ≠ 2) (hm : aMod (.int x2) (.int z) = some (.int a, false)) : runF 4 2 (sv__law_bent Fd Fr) [.tup S, .int c] = .ok (.tup S.reverse, false) := by
  unfold sv__law_bent
  simp [-gLen_t, -gAdd_tt, -aMod_ii, h0, h1, d0, d2, hl, c0, hm, q0, q1, q2, mRevA]
end
theorem gAdd_n {A B : List PV} (h : A.length + B.length ≤ 1000) : gAdd (.tup A) (.tup B) = some (.tup (A ++ B), false) := by rw [gAdd_tt, if_pos (by rw [SZ]; omega)]
theorem cut_lo (l : List Int) (a : Nat) : (cutP l none (some (a : Int))).length ≤ a := by
  unfold cutP HT.sIx
  rw [List.length_take, List.length_drop]
  simp only
  rw [if_neg (by omega)]
  omega
theorem cut_hi (l : List Int) (a : Nat) : (cutP l (some ((a : Int))) none).length ≤ l.length - a := by
  unfold cutP HT.sIx
  rw [List.length_take, List.length_drop]
  simp only
  rw [if_neg (by omega)]
  omega
theorem bent_ok (l : List Int) (c : Int) (h : l.length ≤ 24) : ∃ l' : List Int, fn__law_bent [.tup (l.map .int), .int c] = .ok (.tup (l'.map .int), false) ∧ l'.length ≤ 25 := by
  obtain ⟨r, er⟩ := rich_ok c
  have eD := digits_ok r [4, 30, 30] (fun s hs => by
    simp only [List.mem_cons, List.not_mem_nil, or_false] at hs
    rcases hs with rfl | rfl | rfl <;> omega) (by simp)
  obtain ⟨x0, e0, p0, p0'⟩ := dg_get (l := [4, 30, 30]) (c := r) (k := 0) (s := 4) rfl (fun s hs => by
    simp only [List.mem_cons, List.not_mem_nil, or_false] at hs
    rcases hs with rfl | rfl | rfl <;> omega)
  obtain ⟨x1, e1, p1, p1'⟩ := dg_get (l := [4, 30, 30]) (c := r) (k := 1) (s := 30) rfl (fun s hs => by
    simp only [List.mem_cons, List.not_mem_nil, or_false] at hs
    rcases hs with rfl | rfl | rfl <;> omega)
  obtain ⟨x2, e2, p2, p2'⟩ := dg_get (l := [4, 30, 30]) (c := r) (k := 2) (s := 30) rfl (fun s hs => by
    simp only [List.mem_cons, List.not_mem_nil, or_false] at hs
    rcases hs with rfl | rfl | rfl <;> omega)
  generalize (dg r [4, 30, 30]).map PV.int = D at eD e0 e1 e2
  have hl : gLen [.tup (l.map PV.int)] = some (.int (l.length : Nat), false) := by rw [gLen_t, List.length_map]
  rw [un__law_bent]
  by_cases c0 : x0 = 0 ∨ ((l.length : Nat) : Int) = 0
  · refine ⟨l ++ [x1 - 3], ?_, by rw [List.length_append, List.length_singleton]; omega⟩
    rw [List.map_append]
    exact bt_0 er eD e0 e1 hl c0 (gAdd_n (by rw [List.length_map, List.length_singleton]; omega))
  · have z0 : ((l.length : Nat) : Int) ≠ 0 := fun z => c0 (.inr z)
    have q0 : x0 ≠ 0 := fun z => c0 (.inl z)
    have hm : aMod (.int x2) (.int (l.length : Nat)) = some (.int (x2 % (l.length : Nat)), false) := by rw [aMod_ii, if_pos (by omega)]
    have b1 := Int.emod_nonneg x2 z0
    have b2 := Int.emod_lt_of_pos x2 (show (0 : Int) < (l.length : Nat) by omega)
    obtain ⟨a, ha⟩ : ∃ a : Nat, x2 % (l.length : Nat) = (a : Int) := ⟨(x2 % (l.length : Nat)).toNat, by omega⟩
    rw [ha] at hm b1 b2
    have k1 : ∀ (lo hi : Option Int), (cutP l lo hi).length ≤ 24 := fun lo hi => by
      unfold cutP
      rw [List.length_take, List.length_drop]
      omega
    by_cases q1 : x0 = 1
    · rw [q1] at e0
      refine ⟨cutP l none (some (a : Int)) ++ cutP l (some ((a : Int) + 1)) none, ?_, ?_⟩
      · rw [List.map_append]
        exact bt_1 er eD e0 e2 hl z0 hm (cut_map ..) (cut_map ..) (gAdd_n (by rw [List.length_map, List.length_map]; have := k1 none (some (a : Int)); have := k1 (some ((a : Int) + 1)) none; omega))
      · have w1 : (cutP l none (some (a : Int))).length ≤ a := cut_lo l a
        have w2 : (cutP l (some ((a : Int) + 1)) none).length ≤ l.length - (a + 1) := cut_hi l (a + 1)
        rw [List.length_append]; omega
    · by_cases q2 : x0 = 2
      · rw [q2] at e0
        refine ⟨cutP l none (some (a : Int)) ++ [x1 - 3] ++ cutP l (some ((a : Int) + 1)) none, ?_, ?_⟩
        · rw [List.map_append, List.map_append]
          exact bt_2 er eD e0 e1 e2 hl z0 hm (cut_map ..) (cut_map ..) (gAdd_n (by rw [List.length_map, List.length_singleton]; have := k1 none (some (a : Int)); omega)) (gAdd_n (by rw [List.length_append, List.length_map, List.length_map]; have := k1 none (some (a : Int)); have := k1 (some ((a : Int) + 1)) none; simp only [List.map_cons, List.map_nil, List.length_singleton]; omega))
        · have w1 : (cutP l none (some (a : Int))).length ≤ a := cut_lo l a
          have w2 : (cutP l (some ((a : Int) + 1)) none).length ≤ l.length - (a + 1) := cut_hi l (a + 1)
          rw [List.length_append, List.length_append, List.length_singleton]; omega
      · refine ⟨l.reverse, ?_, by rw [List.length_reverse]; omega⟩
        rw [List.map_reverse]
        exact bt_3 er eD e0 e2 hl z0 q0 q1 q2 hm

section
variable {ns : List Int} {D L V W : List PV} {N O C T X Y Z : PV} {a b c e r n z m i j x y : Int} {s1 s2 s3 s4 s5 s6 s7 s8 s9 s10 : Pv.Slot}
theorem l1_ok {F_law_digits F_law_rich F_law_cell : Fn} (h : F_law_cell [.scr ns, .int 0] = .ok (.int c, false)) (h1 : F_law_rich [.int c] = .ok (.int r, false)) (h2 : F_law_digits [.int r, .lst [.int 30, .int 2, .int 2, .int 6]] = .ok (.lst D, true)) : l1 F_law_digits F_law_rich F_law_cell [.val (.scr ns), .no, .no, .no, .no, .no, .no, .no, .no, .no, .no] = .ok .nx [.val (.scr ns), .own D, .no, .no, .no, .no, .no, .no, .no, .no, .no] := by
  unfold l1
  simp [h, h1, h2]
theorem l2_ok (x0 : atI D 0 = some (.int a)) : l2 [.val (.scr ns), .own D, .no, .no, .no, .no, .no, .no, .no, .no, .no] = .ok .nx [.val (.scr ns), .own D, .val (.int (a - 2)), .no, .no, .no, .no, .no, .no, .no, .no] := by
  unfold l2
  simp [x0]
theorem l3_ok (h : gMin [.int n, .int 24] = some (.int m, false)) (h2 : gMax [.int 1, .int m] = some (.int z, false)) : l3 [.val (.scr ns), .own D, .val (.int n), .no, .no, .no, .no, .no, .no, .no, .no] = .ok .nx [.val (.scr ns), .own D, .val (.int n), .val (.int z), .no, .no, .no, .no, .no, .no, .no] := by
  unfold l3
  simp [h, h2]
theorem l4_ok  : l4 [.val (.scr ns), .own D, .val (.int n), .val (.int z), .no, .no, .no, .no, .no, .no, .no] = .ok .nx [.val (.scr ns), .own D, .val (.int n), .val (.int z), .val (.bl (okN n)), .no, .no, .no, .no, .no, .no] := by
  unfold l4 okN
  by_cases c1 : 0 < n
  · by_cases c2 : n < 25
    · rw [decide_eq_true (show 1 ≤ n ∧ n ≤ 24 by omega)]
      simp [c1, c2]
    · rw [decide_eq_false (show ¬ (1 ≤ n ∧ n ≤ 24) by omega)]
      simp [c1, c2]
  · rw [decide_eq_false (show ¬ (1 ≤ n ∧ n ≤ 24) by omega)]
    simp [c1]
theorem l5_ok {F_law_order F_law_cell : Fn} (hO : ∀ ps, O ≠ .lst ps) (h : F_law_cell [.scr ns, .int 1] = .ok (.int c, false)) (h1 : F_law_order [.int c, .int z] = .ok (O, false)) : l5 F_law_order F_law_cell [.val (.scr ns), .own D, .val N, .val (.int z), s4, .no, .no, .no, .no, .no, .no] = .ok .nx [.val (.scr ns), .own D, .val N, .val (.int z), s4, .val O, .no, .no, .no, .no, .no] := by
  unfold l5
  simp [h, h1, hO]
theorem l6_ok {F_law_set F_law_cell : Fn} (hC : ∀ ps, C ≠ .lst ps) (h : F_law_cell [.scr ns, .int 2] = .ok (.int c, false)) (h1 : F_law_set [.int c, .int z] = .ok (C, false)) : l6 F_law_set F_law_cell [.val (.scr ns), .own D, .val N, .val (.int z), s4, .val O, .no, .no, .no, .no, .no] = .ok .nx [.val (.scr ns), .own D, .val N, .val (.int z), s4, .val O, .val C, .no, .no, .no, .no] := by
  unfold l6
  simp [h, h1, hC]
theorem l7_no {F1 F2 : Fn} (x1 : atI D 1 = some (.int e)) (he : e ≠ 1) : l7 F1 F2 [.val (.scr ns), .own D, .val N, .val (.int z), s4, .val O, .val C, .no, .no, .no, .no] = .ok .nx [.val (.scr ns), .own D, .val N, .val (.int z), s4, .val O, .val C, .no, .no, .no, .no] := by
  unfold l7
  simp [x1, he]
theorem l7_yes {F1 F2 : Fn} (hO : ∀ ps, O ≠ .lst ps) (hC : ∀ ps, C ≠ .lst ps) (hX : ∀ ps, X ≠ .lst ps) (hY : ∀ ps, Y ≠ .lst ps) (x1 : atI D 1 = some (.int 1)) (h : F2 [.scr ns, .int 3] = .ok (.int c, false)) (h1 : F1 [O, .int c] = .ok (X, false)) (h2 : F2 [.scr ns, .int 4] = .ok (.int r, false)) (h3 : F1 [C, .int r] = .ok (Y, false)) : l7 F1 F2 [.val (.scr ns), .own D, .val N, .val (.int z), s4, .val O, .val C, .no, .no, .no, .no] = .ok .nx [.val (.scr ns), .own D, .val N, .val (.int z), s4, .val X, .val Y, .no, .no, .no, .no] := by
  unfold l7
  simp [x1, h, h1, h2, h3, hO, hC, hX, hY]
theorem l8_ok {F_law_table F_law_order F_law_cell : Fn} (hX : ∀ ps, X ≠ .lst ps) (h : F_law_cell [.scr ns, .int 5] = .ok (.int c, false)) (h1 : F_law_order [.int c, .int z] = .ok (X, false)) (h2 : F_law_table [.scr ns, .int 6, .int z, X] = .ok (.tup V, false)) : l8 F_law_table F_law_order F_law_cell [.val (.scr ns), .own D, .val N, .val (.int z), s4, .val O, .val C, .no, .no, .no, .no] = .ok .nx [.val (.scr ns), .own D, .val N, .val (.int z), s4, .val O, .val C, .val (.tup V), .no, .no, .no] := by
  unfold l8
  simp [h, h1, h2, hX]
theorem l9_no (x2 : atI D 2 = some (.int e)) (he : e ≠ 1) : l9 [.val (.scr ns), .own D, .val N, .val (.int z), s4, .val O, .val C, .val (.tup V), .no, .no, .no] = .ok .nx [.val (.scr ns), .own D, .val N, .val (.int z), s4, .val O, .val C, .val (.tup V), .no, .no, .no] := by
  unfold l9
  simp [x2, he]
theorem l9_yes (hC : ∀ ps, C ≠ .lst ps) (x2 : atI D 2 = some (.int 1)) (ha : gAdd (.tup V) (.tup [C]) = some (.tup W, false)) : l9 [.val (.scr ns), .own D, .val N, .val (.int z), s4, .val O, .val C, .val (.tup V), .no, .no, .no] = .ok .nx [.val (.scr ns), .own D, .val N, .val (.int z), s4, .val O, .val C, .val (.tup W), .no, .no, .no] := by
  unfold l9
  simp [-gAdd_tt, x2, ha, hC]
theorem l10_no (x3 : atI D 3 = some (.int e)) (he : e ≠ 0) : l10 [.val (.scr ns), .own D, .val N, .val (.int z), s4, .val O, .val C, .val (.tup V), .no, .no, .no] = .ok .nx [.val (.scr ns), .own D, .val N, .val (.int z), s4, .val O, .val C, .val (.tup V), .no, .no, .no] := by
  unfold l10
  simp [x3, he]
theorem l10_yes (hC : ∀ ps, C ≠ .lst ps) (x3 : atI D 3 = some (.int 0)) (ha : gMulT (.tup [C]) (.int 41) = some (.tup W, false)) : l10 [.val (.scr ns), .own D, .val N, .val (.int z), s4, .val O, .val C, .val (.tup V), .no, .no, .no] = .ok .nx [.val (.scr ns), .own D, .val N, .val (.int z), s4, .val O, .val C, .val (.tup W), .no, .no, .no] := by
  unfold l10
  simp [-gMulT_ti, x3, ha, hC]
theorem l11_ok {F_law_word : Fn} {k : Bool} (hN : ∀ ps, N ≠ .lst ps) (h : F_law_word [N, .int 3, .non] = .ok (.str (if k then "" else "range"), false)) : l11 F_law_word [.val (.scr ns), .own D, .val N, s3, .val (.bl k), .val O, .val C, .val T, .no, .no, .no] = .ok .nx [.val (.scr ns), .own D, .val N, s3, .val (.bl k), .val O, .val C, .val T, .no, .no, .no] := by
  have a0 : atI [PV.str "range", PV.str ""] (0 : Int) = some (.str "range") := (atI_nat (j := 0) rfl : atI [PV.str "range", PV.str ""] ((0 : Nat) : Int) = _)
  have a1 : atI [PV.str "range", PV.str ""] (1 : Int) = some (.str "") := (atI_nat (j := 1) rfl : atI [PV.str "range", PV.str ""] ((1 : Nat) : Int) = _)
  unfold l11
  cases k <;> simp at h <;> simp [h, a0, a1, hN]
theorem l12_ok {F1 F2 : Fn} {k s : Bool} (hN : ∀ ps, N ≠ .lst ps) (hC : ∀ ps, C ≠ .lst ps) (h : F1 [N, .int 0, C] = .ok (.str (if k && s then "" else "table"), false)) (h2 : F2 [N, C] = .ok (.bl s, false)) : l12 F1 F2 [.val (.scr ns), .own D, .val N, s3, .val (.bl k), .val O, .val C, .val T, .no, .no, .no] = .ok .nx [.val (.scr ns), .own D, .val N, s3, .val (.bl k), .val O, .val C, .val T, .no, .no, .no] := by
  have a0 : atI [PV.str "table", PV.str ""] (0 : Int) = some (.str "table") := (atI_nat (j := 0) rfl : atI [PV.str "table", PV.str ""] ((0 : Nat) : Int) = _)
  have a1 : atI [PV.str "table", PV.str ""] (1 : Int) = some (.str "") := (atI_nat (j := 1) rfl : atI [PV.str "table", PV.str ""] ((1 : Nat) : Int) = _)
  unfold l12
  cases k <;> cases s <;> simp at h <;> simp [h, h2, a0, a1, hN, hC]
theorem l13_var {mc : M RV} {k q : Bool} (gl : gLen [.tup V] = some (.int z, false)) (h : k = true → z < 41 → mc [.val (.scr ns), .own D, .val N, s3, .val (.bl k), .val O, .val C, .val (.tup V), .no, .no, .no] = .ok (.lst L, true) [.val (.scr ns), .own D, .val N, s3, .val (.bl k), .val O, .val C, .val (.tup V), .no, .no, .no]) (h2 : k = true → z < 41 → gEq false (.lst L) (.lst []) = some (.bl q, false)) : (bnd (vAnd (eVar 4) (vAnd (eOp cLt (look (eCall gLen (kCons (pVar 7) (Pv.ret [])))) (look (eC (.int 41)))) (eOp (gEq false) (look mc) (look (mLst (Pv.ret [])))))) (setR 8)) [.val (.scr ns), .own D, .val N, s3, .val (.bl k), .val O, .val C, .val (.tup V), .no, .no, .no] = .ok .nx [.val (.scr ns), .own D, .val N, s3, .val (.bl k), .val O, .val C, .val (.tup V), .val (.bl (k && (decide (z < 41) && q))), .no, .no] := by
  cases k with
  | false => simp
  | true =>
    by_cases c : z < 41
    · have h := h rfl c
      have h2 := h2 rfl c
      simp [-gLen_t, gl, c, h, h2]
    · simp [-gLen_t, gl, c]
def mc13 (F_law_is_set : Fn) : M RV := mComp (mSeq (eVar 7)) (tName 9) (mNot (tTru (look (eFn F_law_is_set (aCons (eVar 2) (aCons (eVar 9) (Pv.ret []))))))) (eVar 9) [9]
theorem l13_eq (F : Fn) : l13 F = bnd (vAnd (eVar 4) (vAnd (eOp cLt (look (eCall gLen (kCons (pVar 7) (Pv.ret [])))) (look (eC (.int 41)))) (eOp (gEq false) (look (mc13 F)) (look (mLst (Pv.ret [])))))) (setR 8) := rfl
theorem l14_ok {F_law_word : Fn} {k g : Bool} (hN : ∀ ps, N ≠ .lst ps) (hT : ∀ ps, T ≠ .lst ps) (h : F_law_word [N, .int 1, T] = .ok (.str (if g then "" else "table"), false)) : l14 F_law_word [.val (.scr ns), .own D, .val N, s3, .val (.bl k), .val O, .val C, .val T, .val (.bl g), .no, .no] = .ok .nx [.val (.scr ns), .own D, .val N, s3, .val (.bl k), .val O, .val C, .val T, .val (.bl g), .no, .no] := by
  have a0 : atI [PV.str "table", PV.str ""] (0 : Int) = some (.str "table") := (atI_nat (j := 0) rfl : atI [PV.str "table", PV.str ""] ((0 : Nat) : Int) = _)
  have a1 : atI [PV.str "table", PV.str ""] (1 : Int) = some (.str "") := (atI_nat (j := 1) rfl : atI [PV.str "table", PV.str ""] ((1 : Nat) : Int) = _)
  unfold l14
  cases g <;> simp at h <;> simp [h, a0, a1, hN, hT]
theorem l15_var {mc : M RV} {F_law_word : Fn} {k q : Bool} {U : List PV} (hN : ∀ ps, N ≠ .lst ps) (h : F_law_word [N, .int 2, .tup V] = .ok (.str (if k && q then "" else "order"), false)) (hs : gSorted [.tup V] = some (.lst U, true)) (h1 : k = true → mc [.val (.scr ns), .own D, .val N, s3, .val (.bl k), .val (.tup V), .val C, .val T, s8, .no, .no] = .ok (.lst L, true) [.val (.scr ns), .own D, .val N, s3, .val (.bl k), .val (.tup V), .val C, .val T, s8, .no, .no]) (h2 : k = true → gEq false (.lst U) (.lst L) = some (.bl q, false)) : (bnd (eOp (gEq false) (look (eFn F_law_word (aCons (eVar 2) (aCons (eC (.int 2)) (aCons (eVar 5) (Pv.ret [])))))) (look (eOp gIx (look (mLst (aCons (eC (.str "order")) (aCons (eC (.str "")) (Pv.ret []))))) (look (eCall gInt (kCons (look (vAnd (eVar 4) (eOp (gEq false) (look (eCall gSorted (kCons (pVar 5) (Pv.ret [])))) (look mc)))) (Pv.ret []))))))) mRet) [.val (.scr ns), .own D, .val N, s3, .val (.bl k), .val (.tup V), .val C, .val T, s8, .no, .no] = .ok (.rt (.bl true, false)) [.val (.scr ns), .own D, .val N, s3, .val (.bl k), .val (.tup V), .val C, .val T, s8, .no, .no] := by
  have a0 : atI [PV.str "order", PV.str ""] (0 : Int) = some (.str "order") := (atI_nat (j := 0) rfl : atI [PV.str "order", PV.str ""] ((0 : Nat) : Int) = _)
  have a1 : atI [PV.str "order", PV.str ""] (1 : Int) = some (.str "") := (atI_nat (j := 1) rfl : atI [PV.str "order", PV.str ""] ((1 : Nat) : Int) = _)
  cases k with
  | false => 
    simp at h
    simp [h, a0, a1, hN]
  | true =>
    have h1 := h1 rfl
    have h2 := h2 rfl
    cases q <;> simp at h <;> simp [h, hs, h1, h2, a0, a1, hN]
def mc15 : M RV := mComp (mRng1 (kCons (pVar 2) (Pv.ret []))) (tName 10) (Pv.ret true) (eVar 10) [10]
theorem l15_eq (F_law_word : Fn) : l15 F_law_word = bnd (eOp (gEq false) (look (eFn F_law_word (aCons (eVar 2) (aCons (eC (.int 2)) (aCons (eVar 5) (Pv.ret [])))))) (look (eOp gIx (look (mLst (aCons (eC (.str "order")) (aCons (eC (.str "")) (Pv.ret []))))) (look (eCall gInt (kCons (look (vAnd (eVar 4) (eOp (gEq false) (look (eCall gSorted (kCons (pVar 5) (Pv.ret [])))) (look mc15)))) (Pv.ret []))))))) mRet := rfl
end
end K01

set_option Elab.async false
set_option linter.all false
set_option maxRecDepth 100000
namespace K01
open Pv PySem PySem.Spec L2
open PyProof.Rows hiding St

theorem tupne (L : List PV) : ∀ ps, PV.tup L ≠ .lst ps := fun ps z => by cases z
theorem mt13 {F : Fn} {n : Int} {S : PV} {s0 s1 s3 s4 s5 s6 s7 s8 s10 : Pv.Slot} {b : Bool} (hS : ∀ ps, S ≠ .lst ps) (h : F [.int n, S] = .ok (.bl b, false)) : mNot (tTru (look (eFn F (aCons (eVar 2) (aCons (eVar 9) (Pv.ret [])))))) [s0, s1, .val (.int n), s3, s4, s5, s6, s7, s8, .val S, s10] = .ok (!b) [s0, s1, .val (.int n), s3, s4, s5, s6, s7, s8, .val S, s10] := by
  have tr : truP (.bl b) = some b := rfl
  simp [h, tr]
theorem mc13_ok {F : Fn} {n : Int} {T : List (List Int)} {P : List Int → Bool} {s0 s1 s3 s4 s5 s6 s8 s10 : Pv.Slot} (hF : ∀ s ∈ T, F [.int n, .tup (s.map .int)] = .ok (.bl (P s), false)) (hz : T.length ≤ 1000) : mc13 F [s0, s1, .val (.int n), s3, s4, s5, s6, .val (.tup (tabV T)), s8, .no, s10] = .ok (.lst (tabV (T.filter fun s => !P s)), true) [s0, s1, .val (.int n), s3, s4, s5, s6, .val (.tup (tabV T)), s8, .no, s10] := by
  unfold mc13
  refine comp_gen (e := fun s : List Int => .tup (s.map .int)) (c := fun s => !P s) (g := fun s : List Int => .tup (s.map .int)) (l := T) ?_ rfl (fun s hs => ?_) (fun s _ _ => ⟨false, ?_⟩) (by omega)
  · show mSeq (eVar 7) _ = .ok (tabV T) _
    generalize tabV T = V
    simp
  · exact mt13 (tupne _) (hF s hs)
  · generalize s.map PV.int = S
    simp
theorem mc15_ok {n : Int} (h : 1 ≤ n ∧ n ≤ 24) {s0 s1 s3 s4 s5 s6 s7 s8 s9 : Pv.Slot} : mc15 [s0, s1, .val (.int n), s3, s4, s5, s6, s7, s8, s9, .no] = .ok (.lst ((Pv.upTo 0 n.toNat).map .int), true) [s0, s1, .val (.int n), s3, s4, s5, s6, s7, s8, s9, .no] := by
  have hr : mRng1 (kCons (pVar 2) (Pv.ret [])) [s0, s1, .val (.int n), s3, s4, s5, s6, s7, s8, s9, .no] = .ok ((Pv.upTo 0 n.toNat).map .int) [s0, s1, .val (.int n), s3, s4, s5, s6, s7, s8, s9, .no] := by
    rw [← rgP_eq]
    exact rng1_ok (by simp) (okR_mid (by omega) (by omega))
  unfold mc15
  have e := comp_gen (e := PV.int) (c := fun _ => true) (g := PV.int) (mt := Pv.ret true) (me := eVar 10) (v := 10) (l := Pv.upTo 0 n.toNat) hr rfl (fun i _ => rfl) (fun i _ _ => ⟨false, by simp⟩) (by rw [upTo_len]; omega)
  rw [List.filter_eq_self.mpr (fun _ _ => rfl)] at e
  exact e
theorem minz (n : Int) : ∃ (m : Int) (z : Nat), gMin [.int n, .int 24] = some (.int m, false) ∧ gMax [.int 1, .int m] = some (.int (z : Nat), false) ∧ 1 ≤ z ∧ z ≤ 24 := by
  have f1 : gMin [.int n, .int 24] = some (.int (lmin n [24]), false) := rfl
  have g1 : lmin n [24] = if 24 < n then 24 else n := rfl
  have hm : lmin n [24] ≤ 24 := by rw [g1]; split <;> omega
  generalize lmin n [24] = m at f1 hm
  have f2 : gMax [.int 1, .int m] = some (.int (lmax 1 [m]), false) := rfl
  have g2 : lmax 1 [m] = if 1 < m then m else 1 := rfl
  have hz : 1 ≤ lmax 1 [m] ∧ lmax 1 [m] ≤ 24 := by rw [g2]; split <;> omega
  generalize lmax 1 [m] = z at f2 hz
  refine ⟨m, z.toNat, f1, ?_, by omega, by omega⟩
  rw [Int.toNat_of_nonneg (by omega)]
  exact f2
theorem all_tab {P : List Int → Bool} (T : List (List Int)) : decide ((T.filter fun s => !P s) = []) = T.all P := by
  cases c : T.all P with
  | true =>
    refine decide_eq_true (List.filter_eq_nil_iff.mpr fun s hs => ?_)
    rw [List.all_eq_true.mp c s hs]; simp
  | false =>
    refine decide_eq_false fun z => ?_
    have : T.all P = true := List.all_eq_true.mpr fun s hs => by
      have := List.filter_eq_nil_iff.mp z s hs
      cases q : P s with
      | true => rfl
      | false => rw [q] at this; exact absurd rfl this
    rw [c] at this; cases this
theorem tab_rep (l : List Int) (k : Nat) : (List.replicate k [PV.tup (l.map .int)]).flatten = tabV (List.replicate k l) := by
  unfold tabV
  induction k with
  | zero => rfl
  | succ k ih => rw [List.replicate_succ, List.replicate_succ, List.flatten_cons, List.map_cons, ih]; rfl
theorem law_true (ns : List Int) (h : ns.length ≤ 63) : fn_law [.scr ns] = .ok (.bl true, false) := by
  obtain ⟨c0, ec0⟩ := cell_z ns (z := 0) (by omega)
  obtain ⟨c1, ec1⟩ := cell_z ns (z := 1) (by omega)
  obtain ⟨c2, ec2⟩ := cell_z ns (z := 2) (by omega)
  obtain ⟨c3, ec3⟩ := cell_z ns (z := 3) (by omega)
  obtain ⟨c4, ec4⟩ := cell_z ns (z := 4) (by omega)
  obtain ⟨c5, ec5⟩ := cell_z ns (z := 5) (by omega)
  obtain ⟨r, er⟩ := rich_ok c0
  have pos : ∀ s ∈ [(30 : Int), 2, 2, 6], 0 < s := fun s hs => by
    simp only [List.mem_cons, List.not_mem_nil, or_false] at hs
    rcases hs with rfl | rfl | rfl | rfl <;> omega
  have eD := digits_ok r [30, 2, 2, 6] (fun s hs => by
    simp only [List.mem_cons, List.not_mem_nil, or_false] at hs
    rcases hs with rfl | rfl | rfl | rfl <;> omega) (by simp)
  obtain ⟨a0, x0, p0, p0'⟩ := dg_get (l := [30, 2, 2, 6]) (c := r) (k := 0) (s := 30) rfl pos
  obtain ⟨a1, x1, p1, p1'⟩ := dg_get (l := [30, 2, 2, 6]) (c := r) (k := 1) (s := 2) rfl pos
  obtain ⟨a2, x2, p2, p2'⟩ := dg_get (l := [30, 2, 2, 6]) (c := r) (k := 2) (s := 2) rfl pos
  obtain ⟨a3, x3, p3, p3'⟩ := dg_get (l := [30, 2, 2, 6]) (c := r) (k := 3) (s := 6) rfl pos
  generalize (dg r [30, 2, 2, 6]).map PV.int = D at eD x0 x1 x2 x3
  have q1 := l1_ok (ns := ns) ec0 er eD
  have q2 := l2_ok (ns := ns) x0
  generalize a0 - 2 = n at q2
  obtain ⟨m, z, e1, e2, z1, z2⟩ := minz n
  have q3 := l3_ok (ns := ns) (D := D) (n := n) e1 e2
  have q4 := l4_ok (ns := ns) (D := D) (n := n) (z := (z : Nat))
  obtain ⟨o, eo, po⟩ := order_ok c1 z (by omega)
  have lo : o.length = z := by rw [po.length_eq, upTo_len]
  have q5 := l5_ok (ns := ns) (D := D) (N := .int n) (s4 := .val (.bl (okN n))) (tupne _) ec1 eo
  have es := lawset_ok c2 (z : Nat) (by omega) (by omega)
  have ls : (drawnSet c2 (z : Nat)).length ≤ 24 := set_len (n := (z : Nat)) (by unfold drawnSet; exact filter_set (by omega) _)
  generalize drawnSet c2 (z : Nat) = C0 at es ls
  have q6 := l6_ok (ns := ns) (D := D) (N := .int n) (s4 := .val (.bl (okN n))) (O := .tup (o.map .int)) (tupne _) ec2 es
  obtain ⟨O, C, q7, lO, lC⟩ : ∃ O C : List Int, (l7 fn__law_bent fn__law_cell) [.val (.scr ns), .own D, .val (.int n), .val (.int (z : Nat)), .val (.bl (okN n)), .val (.tup (o.map .int)), .val (.tup (C0.map .int)), .no, .no, .no, .no] = .ok .nx [.val (.scr ns), .own D, .val (.int n), .val (.int (z : Nat)), .val (.bl (okN n)), .val (.tup (O.map .int)), .val (.tup (C.map .int)), .no, .no, .no, .no] ∧ O.length ≤ 25 ∧ C.length ≤ 25 := by
    by_cases c : a1 = 1
    · subst c
      obtain ⟨O, h1, h2⟩ := bent_ok o c3 (by omega)
      obtain ⟨C, h3, h4⟩ := bent_ok C0 c4 ls
      exact ⟨O, C, l7_yes (tupne _) (tupne _) (tupne _) (tupne _) x1 ec3 h1 ec4 h3, h2, h4⟩
    · exact ⟨o, C0, l7_no x1 c, by omega, by omega⟩
  obtain ⟨o2, eo2, po2⟩ := order_ok c5 z (by omega)
  obtain ⟨T8, eT, lT, sT⟩ := table_lem ns 6 z o2 z1 z2 po2
  have q8 := l8_ok (ns := ns) (D := D) (N := .int n) (s4 := .val (.bl (okN n))) (O := .tup (O.map .int)) (C := .tup (C.map .int)) (tupne _) ec5 eo2 eT
  have w8 : ∀ s ∈ T8, s.length ≤ 25 := fun s hs => Nat.le_trans (set_len (sT s hs)) (by omega)
  obtain ⟨T9, q9, lT9, w9⟩ : ∃ T9 : List (List Int), l9 [.val (.scr ns), .own D, .val (.int n), .val (.int (z : Nat)), .val (.bl (okN n)), .val (.tup (O.map .int)), .val (.tup (C.map .int)), .val (.tup (tabV T8)), .no, .no, .no] = .ok .nx [.val (.scr ns), .own D, .val (.int n), .val (.int (z : Nat)), .val (.bl (okN n)), .val (.tup (O.map .int)), .val (.tup (C.map .int)), .val (.tup (tabV T9)), .no, .no, .no] ∧ T9.length ≤ 41 ∧ ∀ s ∈ T9, s.length ≤ 25 := by
    by_cases c : a2 = 1
    · subst c
      refine ⟨T8 ++ [C], l9_yes (tupne _) x2 ?_, by rw [List.length_append, List.length_singleton]; omega, fun s hs => ?_⟩
      · rw [gAdd_n (by unfold tabV; rw [List.length_map, List.length_singleton]; omega)]
        unfold tabV
        rw [List.map_append]; rfl
      · rcases List.mem_append.mp hs with hs | hs
        · exact w8 s hs
        · rw [List.mem_singleton.mp hs]; exact lC
    · exact ⟨T8, l9_no x2 c, by omega, w8⟩
  obtain ⟨T, q10, lT, wT⟩ : ∃ T : List (List Int), l10 [.val (.scr ns), .own D, .val (.int n), .val (.int (z : Nat)), .val (.bl (okN n)), .val (.tup (O.map .int)), .val (.tup (C.map .int)), .val (.tup (tabV T9)), .no, .no, .no] = .ok .nx [.val (.scr ns), .own D, .val (.int n), .val (.int (z : Nat)), .val (.bl (okN n)), .val (.tup (O.map .int)), .val (.tup (C.map .int)), .val (.tup (tabV T)), .no, .no, .no] ∧ T.length ≤ 41 ∧ ∀ s ∈ T, s.length ≤ 25 := by
    by_cases c : a3 = 0
    · subst c
      refine ⟨List.replicate 41 C, l10_yes (tupne _) x3 ?_, by rw [List.length_replicate]; omega, fun s hs => ?_⟩
      · rw [gMulT_ti, if_pos (by rw [List.length_singleton]; omega)]
        rw [show (41 : Int).toNat = 41 from rfl, tab_rep]
      · rw [(List.mem_replicate.mp hs).2]; exact lC
    · exact ⟨T9, l10_no x3 c, lT9, w9⟩
  have q11 := l11_ok (ns := ns) (D := D) (N := .int n) (s3 := .val (.int (z : Nat))) (k := okN n) (O := .tup (O.map .int)) (C := .tup (C.map .int)) (T := .tup (tabV T)) (fun _ z => by cases z) (word3 n)
  have is_ok : ∀ l : List Int, l.length ≤ 25 → ∃ s : Bool, fn__law_is_set [.int n, .tup (l.map .int)] = .ok (.bl s, false) ∧ (okN n && s) = isSet n l := fun l hl => by
    refine ⟨_, lawisset_ok n l (by omega), ?_⟩
    by_cases c : 1 ≤ n ∧ n ≤ 24
    · unfold okN
      rw [decide_eq_true c, Bool.true_and]
      exact isset_iff c l
    · unfold okN isSet
      rw [decide_eq_false c, Bool.false_and, Bool.false_and]
  obtain ⟨sC, eC, kC⟩ := is_ok C lC
  have wC := word0 n C
  rw [← kC] at wC
  have q12 := l12_ok (ns := ns) (D := D) (N := .int n) (s3 := .val (.int (z : Nat))) (k := okN n) (O := .tup (O.map .int)) (C := .tup (C.map .int)) (T := .tup (tabV T)) (fun _ z => by cases z) (tupne _) wC eC
  have gl : gLen [.tup (tabV T)] = some (.int (T.length : Nat), false) := by rw [gLen_t, tabV, List.length_map]
  have q13 := l13_var (ns := ns) (D := D) (N := .int n) (s3 := .val (.int (z : Nat))) (k := okN n) (q := T.all (isSet n)) (O := .tup (O.map .int)) (C := .tup (C.map .int)) (mc := mc13 fn__law_is_set) (L := tabV (T.filter fun s => !isSet n s)) gl
    (fun hk _ => mc13_ok (P := isSet n) (fun s hs => by
      obtain ⟨b, e1, e2⟩ := is_ok s (wT s hs)
      rw [hk, Bool.true_and] at e2
      rw [← e2]; exact e1) (by omega))
    (fun _ _ => by rw [gEq_tnil, all_tab])
  rw [← l13_eq] at q13
  have eg : (okN n && (decide (((T.length : Nat) : Int) < 41) && T.all (isSet n))) = isTab n T := by
    unfold isTab
    rw [show decide (((T.length : Nat) : Int) < 41) = decide (T.length ≤ 40) from decide_eq_decide.mpr (by omega)]
  rw [eg] at q13
  have q14 := l14_ok (ns := ns) (D := D) (N := .int n) (s3 := .val (.int (z : Nat))) (k := okN n) (g := isTab n T) (O := .tup (O.map .int)) (C := .tup (C.map .int)) (T := .tup (tabV T)) (fun _ z => by cases z) (tupne _) (word1 n T)
  have q15 := l15_var (ns := ns) (D := D) (N := .int n) (s3 := .val (.int (z : Nat))) (s8 := .val (.bl (isTab n T))) (k := okN n) (q := decide (isort O = Pv.upTo 0 n.toNat)) (V := O.map .int) (U := (isort O).map .int) (C := .tup (C.map .int)) (T := .tup (tabV T)) (mc := mc15) (F_law_word := fn__law_word) (L := (Pv.upTo 0 n.toNat).map .int) (fun _ z => by cases z) (word2 n O) (by simp)
    (fun hk => mc15_ok (of_decide_eq_true hk))
    (fun _ => by rw [gEq_lstI]; simp)
  rw [← l15_eq] at q15
  rw [un_law]
  refine runF_ok (ev' := [.val (.scr ns), .own D, .val (.int n), .val (.int (z : Nat)), .val (.bl (okN n)), .val (.tup (O.map .int)), .val (.tup (C.map .int)), .val (.tup (tabV T)), .val (.bl (isTab n T)), .no, .no]) ?_ rfl (by decide)
  refine (sq_nx q1).trans ?_
  refine (sq_nx q2).trans ?_
  refine (sq_nx q3).trans ?_
  refine (sq_nx q4).trans ?_
  refine (sq_nx q5).trans ?_
  refine (sq_nx q6).trans ?_
  refine (sq_nx q7).trans ?_
  refine (sq_nx q8).trans ?_
  refine (sq_nx q9).trans ?_
  refine (sq_nx q10).trans ?_
  refine (sq_nx q11).trans ?_
  refine (sq_nx q12).trans ?_
  refine (sq_nx q13).trans ?_
  refine (sq_nx q14).trans ?_
  exact sq_rt q15
end K01

set_option Elab.async false
set_option linter.all false
set_option maxRecDepth 100000
set_option maxHeartbeats 0
open PySem PySem.W PySem.Calls PyProof.Rows
theorem PySem.Challenge.cw_unpartedrows_k01_sets_tables_and_orders_holds : PySem.Challenge.rw_unpartedrows_k01_sets_tables_and_orders.Holds := by
  w_on; o_law
  refine HandSHeadRun.head_any (r := OpenLaw.row PySem.Challenge.rw_unpartedrows_k01_sets_tables_and_orders) (q := K01.qv) (H := K01.hk) (ob := K01.ob) (M := 30000) (loose := K01.looseL) (d := HandSHeadRun.topDef (OpenLaw.row PySem.Challenge.rw_unpartedrows_k01_sets_tables_and_orders).prog 25) (kwd := []) K01.ob_eq
    (by kernel_rfl) (fun s => by kernel_rfl) K01.run (by kernel_rfl) (by kernel_rfl) (by kernel_rfl) (by rfl) (by first | assumption | decide +kernel) (by decide +kernel) ⟨rfl, rfl, rfl, rfl, rfl, by decide +kernel⟩ ?hw ?hc
  case hw => w_witness2
  case hc =>
    refine Pv.walk_law (l := PySem.Challenge.rw_unpartedrows_k01_sets_tables_and_orders) (n := 63) (k := 5) (x := "script") rfl (by decide) (by kernel_rfl) ⟨rfl, by decide, by decide⟩ ?F (fun w H s e s' ⟨_, _, _, _, _, _, _, _, _, _, _, _, h⟩ => h)
    intro w mg fa h Y G hmg0
    obtain ⟨K, KX, c⟩ := Y
    have hmg : mg ("law" : PySem.Str) = some (.ref fa) := by
      have e : (HandSHeadRun.topDef (OpenLaw.row PySem.Challenge.rw_unpartedrows_k01_sets_tables_and_orders).prog 25).name = ("law" : PySem.Str) := by kernel_rfl
      rw [← e]
      exact hmg0
    obtain ⟨fd, hb, hF⟩ := K01.facts (P := (PySem.Challenge.rw_unpartedrows_k01_sets_tables_and_orders).prog) (w := w) KX G hmg c
    exact ⟨K, fd, K01.fn_law, Pv.cmK K, KX, hb, K01.law_true, fun base _ _ => hF base⟩
