import PyProof.Rows.All
import HandS.ForExc
import HandS.ForMost
import HandS.Style
import HandS.CallSlots
import HandS.TryOnly
import HandS.SortInts
import HandS.Wide
import HandS.TupMul
import HandS.Conv
import HandS.SortKw
import HandS.IsInst
import HandS.ExcIs
import HandS.More
import KE.KIndexOf
import HandS.Star
import HandS.Zip
import HandS.HeadHook4
import HandS.HeadEnd
import HandS.Head2
import HandS.SetFor
import HandS.ExcValue
import KE.KSortKeyAny
import HandS.Rev
import HandS.Iter
import KE.GoesEnum
import HandS.TupSets
import HandS.SortOrd
import HandS.SortRule
import HandS.Gcd
import KE.KMathGC
import HandS.WideBits
import HandS.TupAny
import PyProof.ZipIter
import PyProof.CallType
import PyProof.MeetsIn
import PyProof.Walk
import PyProof.WalkLemmas
import PyProof.RangeIter
import PyProof.RulesTry
import PyProof.TupleOfSeq
import HandS.TupLe
import HandS.FltList
import KE.LtSeq
import KE.DataFind
import KE.GoesRev
import PyProof.Rows.SetFrom
import HandS.Strs
import HandS.Text
import HandS.FStr
import KE.DataMinMax
import Wide.All
import OpenK.AllK
import Wide.FinOn
import KE.KStateDown
import HandS.Head3
import Lean
import PySem.Challenge.RW_unpartedrows_k22_whole_nearest_orders
set_option Elab.async false
set_option linter.all false
set_option maxRecDepth 100000
set_option maxHeartbeats 0
namespace Pv
open PySem PySem.Spec L2
open PyProof.Rows hiding St
abbrev Fr := PySem.W.Frag
abbrev CM := Str → Value
def cmK (K : Fr) : CM := fun x => .ref (He.ga K x)
def excCB (K : Fr) (x : Str) : Bool := decide (PySem.W.findIn K (.ref (He.ga K x)) "__getattribute__" = some (some (.builtin "BaseException.__getattribute__"))) && (decide (PySem.W.findIn K (.ref (He.ga K x)) "__getattr__" = some none) && (decide (PySem.W.subIn K (.ref (He.ga K x)) (.type "BaseException") = some true) && (PySem.W.hasDictIn K (He.ga K x) &&
  (decide (PySem.W.findIn K (.ref (He.ga K x)) "__class__" = some (some (.builtin "object.__class__"))) && (decide (PySem.W.specialIn K (.builtin "object.__class__") "__get__" = some (some (.builtin "getset_descriptor.__get__"))) && (decide (PySem.W.takesIn K (.builtin "object.__class__") = some true) && decide (PySem.W.mroIn K (He.ga K x) (.type "object") = some true)))))))
def isNB (K : Fr) (d : Str) (c : Fr → Value) (b : Bool) : Bool := excCB K d && decide (PySem.W.kitOne K (.ref (He.ga K d)) (c K) = some b)
def dOf (kvs : List (Str × Int)) : Str → Option Int := fun z => (kvs.find? fun q => q.1 == z).map (·.2)
def entOf (e : DictEntry) : Option (Str × Int) := match e.key, e.val with
  | .str x _, .int i _ => some (x, i)
  | _, _ => none
def dictIs (K : Fr) (a : Addr) (kvs : List (Str × Int)) : Bool := match K.lookup a with
  | some ⟨_, _, .dict es _, _⟩ => decide (es.toList.map entOf = kvs.map some)
  | _ => false
def mgIs (K : Fr) (x : Str) (v : Value) : Bool := decide (PySem.W.nsIn K mainGlobals x = some (some v))
end Pv
namespace K22
open Pv PySem PySem.Spec L2
open PyProof.Rows hiding St
def topS (i : Nat) : Stmt := PySem.Challenge.pw_unpartedrows_k22_whole_nearest_orders.main.body.getD i (.Pass ⟨0, 0, 0, 0⟩)
def D_is_number_of_things : He.DefD := ⟨("is_number_of_things", none), "is_number_of_things", "is_number_of_things", defArgs (topS 8), defBody (topS 8), defScope (topS 8), [], []⟩
def D_check_order : He.DefD := ⟨("check_order", none), "check_order", "check_order", defArgs (topS 9), defBody (topS 9), defScope (topS 9), [], []⟩
def D_checked_parts : He.DefD := ⟨("checked_parts", none), "checked_parts", "checked_parts", defArgs (topS 13), defBody (topS 13), defScope (topS 13), [], []⟩
def D_checked_things : He.DefD := ⟨("checked_things", none), "checked_things", "checked_things", defArgs (topS 14), defBody (topS 14), defScope (topS 14), [], []⟩
def D_things_of : He.DefD := ⟨("things_of", none), "things_of", "things_of", defArgs (topS 15), defBody (topS 15), defScope (topS 15), [], []⟩
def D_check_tree : He.DefD := ⟨("check_tree", none), "check_tree", "check_tree", defArgs (topS 16), defBody (topS 16), defScope (topS 16), [], []⟩
def D_check_own_tree : He.DefD := ⟨("check_own_tree", none), "check_own_tree", "check_own_tree", defArgs (topS 17), defBody (topS 17), defScope (topS 17), [], []⟩
def D_check_narrow : He.DefD := ⟨("check_narrow", none), "check_narrow", "check_narrow", defArgs (topS 18), defBody (topS 18), defScope (topS 18), [], []⟩
def D_joined : He.DefD := ⟨("joined", none), "joined", "joined", defArgs (topS 20), defBody (topS 20), defScope (topS 20), [], []⟩
def D_least_listed : He.DefD := ⟨("least_listed", none), "least_listed", "least_listed", defArgs (topS 21), defBody (topS 21), defScope (topS 21), [], []⟩
def D_least_order : He.DefD := ⟨("least_order", none), "least_order", "least_order", defArgs (topS 22), defBody (topS 22), defScope (topS 22), [], []⟩
def D_turned : He.DefD := ⟨("turned", none), "turned", "turned", defArgs (topS 24), defBody (topS 24), defScope (topS 24), [], []⟩
def D_distance : He.DefD := ⟨("distance", none), "distance", "distance", defArgs (topS 25), defBody (topS 25), defScope (topS 25), [], []⟩
def D_put_behind : He.DefD := ⟨("put_behind", none), "put_behind", "put_behind", defArgs (topS 26), defBody (topS 26), defScope (topS 26), [], []⟩
def D_best_sequence : He.DefD := ⟨("best_sequence", none), "best_sequence", "best_sequence", defArgs (topS 27), defBody (topS 27), defScope (topS 27), [], []⟩
def D_best_direction : He.DefD := ⟨("best_direction", none), "best_direction", "best_direction", defArgs (topS 28), defBody (topS 28), defScope (topS 28), [], []⟩
def D_nearest_listed : He.DefD := ⟨("nearest_listed", none), "nearest_listed", "nearest_listed", defArgs (topS 29), defBody (topS 29), defScope (topS 29), [], []⟩
def D_nearest : He.DefD := ⟨("nearest", none), "nearest", "nearest", defArgs (topS 30), defBody (topS 30), defScope (topS 30), [], []⟩
def D__law_cell : He.DefD := ⟨("_law_cell", none), "_law_cell", "_law_cell", defArgs (topS 32), defBody (topS 32), defScope (topS 32), [], []⟩
def D__law_digits : He.DefD := ⟨("_law_digits", none), "_law_digits", "_law_digits", defArgs (topS 33), defBody (topS 33), defScope (topS 33), [], []⟩
def D__law_rich : He.DefD := ⟨("_law_rich", none), "_law_rich", "_law_rich", defArgs (topS 34), defBody (topS 34), defScope (topS 34), [], []⟩
def D__law_is_integer : He.DefD := ⟨("_law_is_integer", none), "_law_is_integer", "_law_is_integer", defArgs (topS 35), defBody (topS 35), defScope (topS 35), [], []⟩
def D__law_order : He.DefD := ⟨("_law_order", none), "_law_order", "_law_order", defArgs (topS 36), defBody (topS 36), defScope (topS 36), [], []⟩
def D__law_things : He.DefD := ⟨("_law_things", none), "_law_things", "_law_things", defArgs (topS 37), defBody (topS 37), defScope (topS 37), [], []⟩
def D__law_told : He.DefD := ⟨("_law_told", none), "_law_told", "_law_told", defArgs (topS 38), defBody (topS 38), defScope (topS 38), [], []⟩
def D__law_tree : He.DefD := ⟨("_law_tree", none), "_law_tree", "_law_tree", defArgs (topS 39), defBody (topS 39), defScope (topS 39), [], []⟩
def D__law_shuffled : He.DefD := ⟨("_law_shuffled", none), "_law_shuffled", "_law_shuffled", defArgs (topS 40), defBody (topS 40), defScope (topS 40), [], []⟩
def D__law_orders : He.DefD := ⟨("_law_orders", none), "_law_orders", "_law_orders", defArgs (topS 41), defBody (topS 41), defScope (topS 41), [], []⟩
def D__law_drawn_order : He.DefD := ⟨("_law_drawn_order", none), "_law_drawn_order", "_law_drawn_order", defArgs (topS 42), defBody (topS 42), defScope (topS 42), [], []⟩
def D__law_distance : He.DefD := ⟨("_law_distance", none), "_law_distance", "_law_distance", defArgs (topS 43), defBody (topS 43), defScope (topS 43), [], []⟩
def D__law_most_parts : He.DefD := ⟨("_law_most_parts", none), "_law_most_parts", "_law_most_parts", defArgs (topS 44), defBody (topS 44), defScope (topS 44), [], []⟩
def D_law : He.DefD := ⟨("law", none), "law", "law", defArgs (topS 45), defBody (topS 45), defScope (topS 45), [], []⟩
def fnL : List He.DefD := [D_is_number_of_things, D_check_order, D_checked_parts, D_checked_things, D_things_of, D_check_tree, D_check_own_tree, D_check_narrow, D_joined, D_least_listed, D_least_order, D_turned, D_distance, D_put_behind, D_best_sequence, D_best_direction, D_nearest_listed, D_nearest, D__law_cell, D__law_digits, D__law_rich, D__law_is_integer, D__law_order, D__law_things, D__law_told, D__law_tree, D__law_shuffled, D__law_orders, D__law_drawn_order, D__law_distance, D__law_most_parts, D_law]
def faL : List He.Fa := [.glo "is_number_of_things", .glo "check_order", .glo "checked_parts", .glo "checked_things", .glo "things_of", .glo "check_tree", .glo "check_own_tree", .glo "check_narrow", .glo "joined", .glo "least_listed", .glo "least_order", .glo "turned", .glo "distance", .glo "put_behind", .glo "best_sequence", .glo "best_direction", .glo "nearest_listed", .glo "nearest", .glo "_law_cell", .glo "_law_digits", .glo "_law_rich", .glo "_law_is_integer", .glo "_law_order", .glo "_law_things", .glo "_law_told", .glo "_law_tree", .glo "_law_shuffled", .glo "_law_orders", .glo "_law_drawn_order", .glo "_law_distance", .glo "_law_most_parts", .glo "law", .free "bool", .free "int", .free "isinstance", .free "len", .free "list", .free "max", .free "min", .free "range", .free "set", .free "sorted", .free "sum", .free "tuple", .int "MOST_THINGS" 24, .int "MOST_PARTS" 8, .glo "LEAST_PARTS", .exc "InvalidOrder", .exc "InvalidTree", .exc "OutOfRange", .glo "InvalidOrder", .glo "InvalidTree", .glo "OutOfRange", .glo "UnpartedError", .exm "InvalidOrder" "OutOfRange" false, .exm "InvalidTree" "OutOfRange" false, .exm "OutOfRange" "OutOfRange" true, .exm "UnpartedError" "OutOfRange" false]
def tsL : List He.Tab := [((fun K => He.ga K "LEAST_PARTS"), ["any", "row"])]
def exL (K : Fr) : Bool := dictIs K (He.ga K "LEAST_PARTS") [("any", 2), ("row", 3)] && (mgIs K "combinations" (.type "itertools.combinations"))
abbrev R : PySem.W.OpenRow := PySem.W.OpenLaw.row PySem.Challenge.rw_unpartedrows_k22_whole_nearest_orders
abbrev qv : Program := PySem.W.view R.prog [45]
abbrev hk : PySem.W.Hook := He.hookX 5 faL fnL tsL [] exL
def ob (s : PySem.W.SharedT) : He.AlX := He.obsX 5 faL fnL tsL [] exL (HandSHeadRun.getT s)
def looseL : List PySem.Str := (["combinations", "UnpartedError", "InvalidOrder", "InvalidTree", "OutOfRange", "MOST_THINGS", "is_number_of_things", "check_order", "LEAST_PARTS", "MOST_PARTS", "checked_parts", "checked_things", "things_of", "check_tree", "check_own_tree", "check_narrow", "joined", "least_listed", "least_order", "turned"] : List PySem.Str) ++ (["distance", "put_behind", "best_sequence", "best_direction", "nearest_listed", "nearest", "_law_cell", "_law_digits", "_law_rich", "_law_is_integer", "_law_order", "_law_things", "_law_told", "_law_tree", "_law_shuffled", "_law_orders", "_law_drawn_order", "_law_distance", "_law_most_parts"] : List PySem.Str)
end K22
namespace K22
open Pv PySem PySem.Spec PySem.W L2
open PyProof.Rows hiding St
theorem run0 (w : World) : HandSHeadRun.RunEqI R qv hk ob 30000 looseL (w.withFollow "special-get-raises" false) := by unfold HandSHeadRun.RunEqI; kernel_rfl
theorem run1 (w : World) : HandSHeadRun.RunEqI R qv hk ob 30000 looseL (w.withFollow "special-get-raises" true) := by unfold HandSHeadRun.RunEqI; kernel_rfl
theorem run (w : World) : HandSHeadRun.RunEqI R qv hk ob 30000 looseL w := byRow2 "special-get-raises" (P := fun w => HandSHeadRun.RunEqI R qv hk ob 30000 looseL w) run0 run1 w
end K22
set_option Elab.async false
set_option linter.all false
set_option maxRecDepth 100000
namespace Pv
open PySem PySem.Spec L2
inductive PV where
  | non | bl (b : Bool) | int (i : Int) | str (x : Str) | tup (xs : List PV) | lst (xs : List PV) | opq (v : V) | scr (ns : List Int) | itm (xs : List PV) | dct (ks : List Int) (xs : List PV)
abbrev FS := Addr → Prop
def RdL (K : Fr) (F : FS) (H : Hp) (a : Addr) (xs : List V) : Prop :=
  (F a ∧ Rd H a (.lst xs)) ∨ ∃ (o : Obj) (its : Array Value) (n : Nat), K.lookup a = some o ∧ o.cls = .type "list" ∧ o.dict = none ∧ o.data = .seq its n ∧ its.size ≤ sizeLine ∧ Vals xs its.toList
def TpX (K : Fr) (H : Hp) (a : Addr) (xs : List V) : Prop :=
  (∃ o : Obj, H a = some (.frz o (.tup xs)) ∧ o.cls = .type "tuple" ∧ o.dict = none) ∨ ∃ (o : Obj) (its : Array Value) (n : Nat), K.lookup a = some o ∧ o.cls = .type "tuple" ∧ o.dict = none ∧ o.data = .seq its n ∧ its.size ≤ sizeLine ∧ Vals xs its.toList
theorem TpX.sqT {K : Fr} {H : Hp} {a : Addr} {xs : List V} (h : TpX K H a xs) : SqT K H a xs := by
  rcases h with ⟨o, h, _⟩ | ⟨o, its, n, h1, h2, _, h3⟩
  · exact .inl (.inr ⟨o, h⟩)
  · exact .inr ⟨o, its, n, h1, h2, h3⟩
def kvO (ks : List Int) (xs : List V) : List (Key × V) := (ks.map Sum.inl).zip xs
mutual
def Rep (K : Fr) (F : FS) (H : Hp) : V → PV → Prop
  | v, .non => v = .non
  | v, .bl b => v = .bl b
  | v, .int i => v = .int i
  | v, .str x => v = .str x
  | v, .tup ps => ∃ a xs, v = .ref a ∧ TpX K H a xs ∧ RepL K F H xs ps
  | v, .itm ps => ∃ a xs, v = .ref a ∧ SqT K H a xs ∧ RepL K F H xs ps
  | v, .lst ps => ∃ a xs, v = .ref a ∧ (F a ∧ H a = some (.lst xs)) ∧ RepL K F H xs ps
  | v, .opq u => v = u
  | v, .dct ks ps => ∃ a xs, v = .ref a ∧ (F a ∧ H a = some (.dK (kvO ks xs)) ∧ ks.length = xs.length) ∧ RepL K F H xs ps
  | v, .scr ns => ∃ a, v = .ref a ∧ RdL K F H a (ns.map V.int)
def RepL (K : Fr) (F : FS) (H : Hp) : List V → List PV → Prop
  | vs, [] => vs = []
  | vs, p :: ps => ∃ x r, vs = x :: r ∧ Rep K F H x p ∧ RepL K F H r ps
end
section
variable {K : Fr} {F F' : FS} {H H' : Hp}
theorem RdL.seq {a : Addr} {xs : List V} (h : RdL K F H a xs) : SqL K H a xs := by
  rcases h with ⟨_, h⟩ | h
  · exact .inl h
  · exact .inr h
theorem Rd.same {a : Addr} {o : HO} (s : Same H H') (h : Rd H a o) : Rd H' a o := by
  rcases h with h | ⟨u, h⟩
  · exact .inl (s _ _ h)
  · exact .inr ⟨u, s _ _ h⟩
theorem SqT.same {a : Addr} {xs : List V} (s : Same H H') (h : SqT K H a xs) : SqT K H' a xs := by
  rcases h with h | h
  · exact .inl (Rd.same s h)
  · exact .inr h
structure Keep (F : FS) (H H' : Hp) : Prop where
  tup : ∀ a xs, H a = some (.tup xs) → H' a = some (.tup xs)
  frz : ∀ a o u, H a = some (.frz o u) → H' a = some (.frz o u)
  lst : ∀ a o, F a → H a = some o → H' a = some o
theorem Keep.of (s : Same H H') : Keep F H H' := ⟨fun _ _ h => s _ _ h, fun _ _ _ h => s _ _ h, fun _ _ _ h => s _ _ h⟩
theorem Keep.refl : Keep F H H := ⟨fun _ _ h => h, fun _ _ _ h => h, fun _ _ _ h => h⟩
theorem Keep.sqT {a : Addr} {xs : List V} (k : Keep F H H') (h : SqT K H a xs) : SqT K H' a xs := by
  rcases h with (h | ⟨o, h⟩) | h
  · exact .inl (.inl (k.tup _ _ h))
  · exact .inl (.inr ⟨o, k.frz _ _ _ h⟩)
  · exact .inr h
theorem Keep.tpX {a : Addr} {xs : List V} (k : Keep F H H') (h : TpX K H a xs) : TpX K H' a xs := by
  rcases h with ⟨o, h, z⟩ | h
  · exact .inl ⟨o, k.frz _ _ _ h, z⟩
  · exact .inr h
theorem Keep.rdL {a : Addr} {xs : List V} (k : Keep F H H') (s : ∀ a, F a → F' a) (h : RdL K F H a xs) : RdL K F' H' a xs := by
  rcases h with ⟨f, h | ⟨o, h⟩⟩ | h
  · exact .inl ⟨s _ f, .inl (k.lst _ _ f h)⟩
  · exact .inl ⟨s _ f, .inr ⟨o, k.lst _ _ f h⟩⟩
  · exact .inr h
mutual
theorem Rep.mono (k : Keep F H H') (s : ∀ a, F a → F' a) : ∀ {v : V} (p : PV), Rep K F H v p → Rep K F' H' v p
  | _, .non, h => h
  | _, .bl _, h => h
  | _, .int _, h => h
  | _, .str _, h => h
  | _, .opq _, h => h
  | _, .tup ps, h => by
    unfold Rep at h ⊢
    obtain ⟨a, xs, e, q, r⟩ := h
    exact ⟨a, xs, e, k.tpX q, RepL.mono k s ps r⟩
  | _, .itm ps, h => by
    unfold Rep at h ⊢
    obtain ⟨a, xs, e, q, r⟩ := h
    exact ⟨a, xs, e, k.sqT q, RepL.mono k s ps r⟩
  | _, .lst ps, h => by
    unfold Rep at h ⊢
    obtain ⟨a, xs, e, q, r⟩ := h
    exact ⟨a, xs, e, ⟨s _ q.1, k.lst _ _ q.1 q.2⟩, RepL.mono k s ps r⟩
  | _, .scr ns, h => by
    unfold Rep at h ⊢
    obtain ⟨a, e, q⟩ := h
    exact ⟨a, e, k.rdL s q⟩
  | _, .dct ks ps, h => by
    unfold Rep at h ⊢
    obtain ⟨a, xs, e, q, r⟩ := h
    exact ⟨a, xs, e, ⟨s _ q.1, k.lst _ _ q.1 q.2.1, q.2.2⟩, RepL.mono k s ps r⟩
theorem RepL.mono (k : Keep F H H') (s : ∀ a, F a → F' a) : ∀ {vs : List V} (ps : List PV), RepL K F H vs ps → RepL K F' H' vs ps
  | _, [], h => h
  | _, p :: ps, h => by
    unfold RepL at h ⊢
    obtain ⟨x, r, e, h1, h2⟩ := h
    exact ⟨x, r, e, Rep.mono k s p h1, RepL.mono k s ps h2⟩
end
theorem RepL.length : ∀ {vs : List V} {ps : List PV}, RepL K F H vs ps → vs.length = ps.length
  | vs, [], h => by unfold RepL at h; rw [h]; rfl
  | vs, p :: ps, h => by
    unfold RepL at h
    obtain ⟨x, r, e, _, h2⟩ := h
    rw [e, List.length_cons, List.length_cons, RepL.length h2]
theorem RepL.nil : RepL K F H [] [] := by unfold RepL; rfl
theorem RepL.cons {v : V} {vs : List V} {p : PV} {ps : List PV} (h : Rep K F H v p) (r : RepL K F H vs ps) : RepL K F H (v :: vs) (p :: ps) := by
  unfold RepL; exact ⟨v, vs, rfl, h, r⟩
theorem RepL.cons_inv {v : V} {vs : List V} {p : PV} {ps : List PV} (h : RepL K F H (v :: vs) (p :: ps)) : Rep K F H v p ∧ RepL K F H vs ps := by
  unfold RepL at h
  obtain ⟨x, r, e, h1, h2⟩ := h
  cases e
  exact ⟨h1, h2⟩
theorem RepL.nil_inv {vs : List V} (h : RepL K F H vs []) : vs = [] := by unfold RepL at h; exact h
theorem RepL.get : ∀ {vs : List V} {ps : List PV} {i : Nat} {p : PV}, RepL K F H vs ps → ps[i]? = some p → ∃ v, vs[i]? = some v ∧ Rep K F H v p
  | _, [], i, p, _, e => by simp at e
  | vs, q :: ps, 0, p, h, e => by
    unfold RepL at h
    obtain ⟨x, r, rfl, h1, h2⟩ := h
    simp at e; subst e
    exact ⟨x, rfl, h1⟩
  | vs, q :: ps, i + 1, p, h, e => by
    unfold RepL at h
    obtain ⟨x, r, rfl, h1, h2⟩ := h
    obtain ⟨v, e1, e2⟩ := RepL.get (i := i) h2 (by simpa using e)
    exact ⟨v, by simpa using e1, e2⟩
theorem RepL.append : ∀ {vs ws : List V} {ps qs : List PV}, RepL K F H vs ps → RepL K F H ws qs → RepL K F H (vs ++ ws) (ps ++ qs)
  | vs, ws, [], qs, h, h' => by rw [RepL.nil_inv h]; exact h'
  | vs, ws, p :: ps, qs, h, h' => by
    unfold RepL at h
    obtain ⟨x, r, rfl, h1, h2⟩ := h
    exact RepL.cons h1 (RepL.append h2 h')
theorem RepL.take : ∀ {vs : List V} {ps : List PV} (n : Nat), RepL K F H vs ps → RepL K F H (vs.take n) (ps.take n)
  | vs, ps, 0, h => by simp; exact RepL.nil
  | vs, [], n + 1, h => by rw [RepL.nil_inv h]; simp; exact RepL.nil
  | vs, p :: ps, n + 1, h => by
    unfold RepL at h
    obtain ⟨x, r, rfl, h1, h2⟩ := h
    simp only [List.take_succ_cons]
    exact RepL.cons h1 (RepL.take n h2)
theorem RepL.drop : ∀ {vs : List V} {ps : List PV} (n : Nat), RepL K F H vs ps → RepL K F H (vs.drop n) (ps.drop n)
  | vs, ps, 0, h => by simpa using h
  | vs, [], n + 1, h => by rw [RepL.nil_inv h]; simp; exact RepL.nil
  | vs, p :: ps, n + 1, h => by
    unfold RepL at h
    obtain ⟨x, r, rfl, h1, h2⟩ := h
    simp only [List.drop_succ_cons]
    exact RepL.drop n h2
theorem RepL.reverse : ∀ {vs : List V} {ps : List PV}, RepL K F H vs ps → RepL K F H vs.reverse ps.reverse
  | vs, [], h => by rw [RepL.nil_inv h]; exact RepL.nil
  | vs, p :: ps, h => by
    unfold RepL at h
    obtain ⟨x, r, rfl, h1, h2⟩ := h
    rw [List.reverse_cons, List.reverse_cons]
    exact RepL.append (RepL.reverse h2) (RepL.cons h1 RepL.nil)
theorem RepL.eraseIdx : ∀ {vs : List V} {ps : List PV} (n : Nat), RepL K F H vs ps → RepL K F H (vs.eraseIdx n) (ps.eraseIdx n)
  | vs, [], n, h => by rw [RepL.nil_inv h]; simp; exact RepL.nil
  | vs, p :: ps, 0, h => by
    unfold RepL at h
    obtain ⟨x, r, rfl, h1, h2⟩ := h
    exact h2
  | vs, p :: ps, n + 1, h => by
    unfold RepL at h
    obtain ⟨x, r, rfl, h1, h2⟩ := h
    exact RepL.cons h1 (RepL.eraseIdx n h2)
theorem RepL.set {q : PV} {w : V} (hw : Rep K F H w q) : ∀ {vs : List V} {ps : List PV} (n : Nat), RepL K F H vs ps → RepL K F H (vs.set n w) (ps.set n q)
  | vs, [], n, h => by rw [RepL.nil_inv h]; simp; exact RepL.nil
  | vs, p :: ps, 0, h => by
    unfold RepL at h
    obtain ⟨x, r, rfl, h1, h2⟩ := h
    exact RepL.cons hw h2
  | vs, p :: ps, n + 1, h => by
    unfold RepL at h
    obtain ⟨x, r, rfl, h1, h2⟩ := h
    exact RepL.cons h1 (RepL.set hw n h2)
theorem RepL.ints : ∀ {vs : List V} {ns : List Int}, RepL K F H vs (ns.map .int) → vs = ns.map V.int
  | vs, [], h => RepL.nil_inv h
  | vs, n :: ns, h => by
    rw [List.map_cons] at h
    unfold RepL at h
    obtain ⟨x, r, rfl, h1, h2⟩ := h
    unfold Rep at h1
    rw [h1, RepL.ints h2]; rfl
theorem RepL.of_ints : ∀ (ns : List Int), RepL K F H (ns.map V.int) (ns.map .int)
  | [] => RepL.nil
  | n :: ns => RepL.cons (by unfold Rep; rfl) (RepL.of_ints ns)
end
inductive Slot where
  | no | val (p : PV) | own (ps : List PV) | dow (ks : List Int) (ps : List PV)
def Slot.isO : Slot → Bool
  | .own _ => true
  | .dow _ _ => true
  | _ => false
abbrev SL := List Slot
def SlotR (K : Fr) (F : FS) (H0 H : Hp) : Slot → Option V → Prop
  | .no, _ => True
  | .val p, o => ∃ v, o = some v ∧ Rep K F H v p
  | .own ps, o => ∃ a xs, o = some (.ref a) ∧ H a = some (.lst xs) ∧ RepL K F H xs ps ∧ ¬ F a ∧ H0 a = none
  | .dow ks ps, o => ∃ a xs, o = some (.ref a) ∧ (H a = some (.dK (kvO ks xs)) ∧ ks.length = xs.length) ∧ RepL K F H xs ps ∧ ¬ F a ∧ H0 a = none
structure ER (K : Fr) (F : FS) (H0 : Hp) (ev : SL) (σ : St) (H : Hp) : Prop where
  len : ev.length = σ.length
  slot : ∀ (i : Nat) s, ev[i]? = some s → ∃ o, σ[i]? = some o ∧ SlotR K F H0 H s o
  inj : ∀ (i j : Nat) (a : Addr) (p q : Slot), (ev[i]? = some p ∧ p.isO = true) → (ev[j]? = some q ∧ q.isO = true) → σ[i]? = some (some (.ref a)) → σ[j]? = some (some (.ref a)) → i = j
  dom : ∀ a, F a → H a ≠ none
  same : Same H0 H
def Ow (ev : SL) (σ : St) (a : Addr) : Prop := ∃ (i : Nat) (q : Slot), (ev[i]? = some q ∧ q.isO = true) ∧ σ[i]? = some (some (.ref a))
theorem ER.ow {K : Fr} {F : FS} {H0 H : Hp} {ev : SL} {σ : St} {a : Addr} (R : ER K F H0 ev σ H) (o : Ow ev σ a) : ¬ F a ∧ H0 a = none ∧ ∃ o, H a = some o ∧ ((∃ xs, o = .lst xs) ∨ ∃ kvs, o = .dK kvs) := by
  obtain ⟨i, q, ⟨e, hq⟩, s⟩ := o
  obtain ⟨o, so, r⟩ := R.slot i _ e
  rw [s] at so
  cases so
  cases q with
  | no => cases hq
  | val p => cases hq
  | own ps =>
    obtain ⟨b, xs, e1, e2, _, e3, e4⟩ := r
    cases e1
    exact ⟨e3, e4, _, e2, .inl ⟨xs, rfl⟩⟩
  | dow ks ps =>
    obtain ⟨b, xs, e1, e2, _, e3, e4⟩ := r
    cases e1
    exact ⟨e3, e4, _, e2.1, .inr ⟨_, rfl⟩⟩
abbrev RV := PV × Bool
def ResR (K : Fr) (F : FS) (H0 : Hp) (ev : SL) (σ : St) (Hs H : Hp) : RV → V → Prop
  | (p, false), v => Rep K F H v p
  | (p, true), v => ∃ a xs ps, v = .ref a ∧ p = .lst ps ∧ H a = some (.lst xs) ∧ RepL K F H xs ps ∧ ¬ F a ∧ Hs a = none ∧ ¬ Ow ev σ a
def Grow (F F' : FS) (H : Hp) (ev : SL) (σ : St) : Prop := ∀ a, F' a → F a ∨ H a = none ∨ Ow ev σ a
structure Aft (K : Fr) (F : FS) (H0 : Hp) (ev ev' : SL) (σ : St) (H : Hp) (F' : FS) (H' : Hp) : Prop where
  sub : ∀ a, F a → F' a
  grow : Grow F F' H ev σ
  same : Same H H'
  er : ER K F' H0 ev' σ H'
  ow : ∀ a, Ow ev' σ a → Ow ev σ a
inductive R (α : Type) where
  | ok (a : α) (ev : SL) | exc (c : Str) (ev : SL) | bad
abbrev M (α : Type) := SL → R α
def ret {α : Type} (a : α) : M α := fun ev => .ok a ev
def bnd {α β : Type} (m : M α) (f : α → M β) : M β := fun ev => match m ev with
  | .ok a ev' => f a ev'
  | .exc c ev' => .exc c ev'
  | .bad => .bad
def bad {α : Type} : M α := fun _ => .bad
def sE (X : Cx) (e : Expr) : TE := fun σ H Q => ∀ (pins : List (Addr × Obj)) (s : Shared), L2.Inv X pins σ H s → wpAny (model X.prog X.w) X.A (eval e X.env) (EP X pins σ Q) X.xe s
theorem sE_pe {X : Cx} {e : Expr} : PE X e (sE X e) := ⟨fun pins s σ H Q I h => h pins s I⟩
theorem sE_of {X : Cx} {e : Expr} {t : TE} {σ : St} {H : Hp} {Q : VK} (p : PE X e t) (h : t σ H Q) : sE X e σ H Q := fun pins s I => p.run pins s σ H Q I h
structure SE (X : Cx) (W : WX) (cm : CM) (e : Expr) (m : M RV) : Prop where
  run : ∀ (F : FS) (H0 : Hp) (ev : SL) (σ : St) (H : Hp) (Q : VK), ER X.K F H0 ev σ H →
    (match m ev with
      | .ok r ev' => ∀ F' v H', Aft X.K F H0 ev ev' σ H F' H' → ResR X.K F' H0 ev' σ H H' r v → Q v H'
      | .exc c ev' => ∀ F' H', Aft X.K F H0 ev ev' σ H F' H' → W (cm c) none σ H'
      | .bad => False) → sE X e σ H Q
def sT (X : Cx) (e : Expr) : TT := fun σ H Q => ∀ (pins : List (Addr × Obj)) (s : Shared), L2.Inv X pins σ H s → wpAny (model X.prog X.w) X.A (PySem.isTrue e X.env (eval e X.env)) (TP X pins σ Q) X.xe s
theorem sT_pt {X : Cx} {e : Expr} : PT X e (sT X e) := ⟨fun pins s σ H Q I h => h pins s I⟩
theorem sT_of {X : Cx} {e : Expr} {t : TT} {σ : St} {H : Hp} {Q : Bool → Hp → Prop} (p : PT X e t) (h : t σ H Q) : sT X e σ H Q := fun pins s I => p.run pins s σ H Q I h
structure ST (X : Cx) (W : WX) (cm : CM) (e : Expr) (m : M Bool) : Prop where
  run : ∀ (F : FS) (H0 : Hp) (ev : SL) (σ : St) (H : Hp) (Q : Bool → Hp → Prop), ER X.K F H0 ev σ H →
    (match m ev with
      | .ok b ev' => ∀ F' H', Aft X.K F H0 ev ev' σ H F' H' → Q b H'
      | .exc c ev' => ∀ F' H', Aft X.K F H0 ev ev' σ H F' H' → W (cm c) none σ H'
      | .bad => False) → sT X e σ H Q
section
variable {K : Fr} {F F1 F2 : FS} {H0 H H1 H2 : Hp} {ev ev1 ev2 : SL} {σ : St}
theorem ER.aft (r : ER K F H0 ev σ H) : Aft K F H0 ev ev σ H F H := ⟨fun _ h => h, fun _ h => .inl h, Same.refl _, r, fun _ h => h⟩
theorem Aft.trans (a : Aft K F H0 ev ev1 σ H F1 H1) (b : Aft K F1 H0 ev1 ev2 σ H1 F2 H2) : Aft K F H0 ev ev2 σ H F2 H2 where
  sub := fun x h => b.sub x (a.sub x h)
  grow := fun x h => by
    rcases b.grow x h with h | h | h
    · exact a.grow x h
    · exact .inr (.inl (a.same.free h))
    · exact .inr (.inr (a.ow x h))
  same := a.same.trans b.same
  er := b.er
  ow := fun x h => a.ow x (b.ow x h)
theorem ER.more (r : ER K F H0 ev σ H) (hs : ∀ a, F a → F1 a) (hd : ∀ a, F1 a → H a ≠ none) (ho : ∀ a, Ow ev σ a → ¬ F1 a) : ER K F1 H0 ev σ H where
  len := r.len
  slot := fun i s e => by
    obtain ⟨o, e1, q⟩ := r.slot i s e
    refine ⟨o, e1, ?_⟩
    cases s with
    | no => trivial
    | val p =>
      obtain ⟨v, e2, q⟩ := q
      exact ⟨v, e2, Rep.mono .refl hs p q⟩
    | own ps =>
      obtain ⟨a, xs, e2, e3, q, nf, e4⟩ := q
      exact ⟨a, xs, e2, e3, RepL.mono .refl hs ps q, ho a ⟨i, _, ⟨e, rfl⟩, by rw [e1, e2]⟩, e4⟩
    | dow ks ps =>
      obtain ⟨a, xs, e2, e3, q, nf, e4⟩ := q
      exact ⟨a, xs, e2, e3, RepL.mono .refl hs ps q, ho a ⟨i, _, ⟨e, rfl⟩, by rw [e1, e2]⟩, e4⟩
  inj := r.inj
  dom := hd
  same := r.same
theorem ResR.share {r : RV} {v : V} (a : Aft K F H0 ev ev1 σ H F1 H1) (q : ResR K F1 H0 ev1 σ H H1 r v) : ∃ F2, Aft K F H0 ev ev1 σ H F2 H1 ∧ Rep K F2 H1 v r.1 ∧ ∀ y, F1 y → F2 y := by
  obtain ⟨p, fr⟩ := r
  cases fr with
  | false => exact ⟨F1, a, q, fun _ h => h⟩
  | true =>
    obtain ⟨x, xs, ps, rfl, rfl, h, r, nf, hx, now⟩ := q
    refine ⟨fun y => F1 y ∨ y = x, ⟨fun y h => .inl (a.sub y h), fun y hy => ?_, a.same, ?_, a.ow⟩, ?_, fun y h => .inl h⟩
    · rcases hy with hy | hy
      · exact a.grow y hy
      · exact .inr (.inl (by rw [hy]; exact hx))
    · refine a.er.more (fun y h => .inl h) (fun y hy => ?_) (fun y hy hh => ?_)
      · rcases hy with hy | hy
        · exact a.er.dom y hy
        · rw [hy, h]; exact fun z => nomatch z
      · rcases hh with hh | hh
        · exact (a.er.ow hy).1 hh
        · rw [hh] at hy; exact now hy
    · show Rep K _ H1 _ (.lst ps)
      unfold Rep
      exact ⟨x, xs, rfl, ⟨.inr rfl, h⟩, RepL.mono .refl (fun y h => .inl h) ps r⟩
end
end Pv
set_option Elab.async false
set_option linter.all false
set_option maxRecDepth 100000
namespace Pv
open PySem PySem.Spec L2
def Wt (K : Fr) (W : WX) (cm : CM) (F : FS) (H0 : Hp) (ev : SL) (σ : St) (H : Hp) {α : Type} (m : M α) (P : α → SL → FS → Hp → Prop) : Prop := match m ev with
  | .ok r ev' => ∀ F' H', Aft K F H0 ev ev' σ H F' H' → P r ev' F' H'
  | .exc c ev' => ∀ F' H', Aft K F H0 ev ev' σ H F' H' → W (cm c) none σ H'
  | .bad => False
section
variable {K : Fr} {W : WX} {cm : CM} {F F1 : FS} {H0 H H1 : Hp} {ev ev1 : SL} {σ : St} {α β : Type}
theorem Wt.from {m : M α} {P : α → SL → FS → Hp → Prop} (a : Aft K F H0 ev ev1 σ H F1 H1) (h : match m ev1 with
    | .ok r ev' => ∀ F' H', Aft K F H0 ev ev' σ H F' H' → P r ev' F' H'
    | .exc c ev' => ∀ F' H', Aft K F H0 ev ev' σ H F' H' → W (cm c) none σ H'
    | .bad => False) : Wt K W cm F1 H0 ev1 σ H1 m P := by
  unfold Wt
  cases e : m ev1 with
  | ok r ev' => rw [e] at h; exact fun F' H' b => h F' H' (a.trans b)
  | exc c ev' => rw [e] at h; exact fun F' H' b => h F' H' (a.trans b)
  | bad => rw [e] at h; exact h
theorem Wt.bnd {m : M α} {f : α → M β} {P : β → SL → FS → Hp → Prop} (h : Wt K W cm F H0 ev σ H (bnd m f) P) :
    Wt K W cm F H0 ev σ H m fun a ev1 F1 H1 => Aft K F H0 ev ev1 σ H F1 H1 ∧ Wt K W cm F1 H0 ev1 σ H1 (f a) P := by
  unfold Wt Pv.bnd at h
  unfold Wt
  cases e : m ev with
  | ok r ev' =>
    simp only [e] at h
    exact fun F' H' b => ⟨b, Wt.from b h⟩
  | exc c ev' => simp only [e] at h; exact h
  | bad => simp only [e] at h
theorem Wt.ret {a : α} {P : α → SL → FS → Hp → Prop} (r : ER K F H0 ev σ H) (h : Wt K W cm F H0 ev σ H (ret a) P) : P a ev F H := h F H r.aft
theorem Wt.mono {m : M α} {P P' : α → SL → FS → Hp → Prop} (h : Wt K W cm F H0 ev σ H m P) (hp : ∀ a ev' F' H', Aft K F H0 ev ev' σ H F' H' → P a ev' F' H' → P' a ev' F' H') : Wt K W cm F H0 ev σ H m P' := by
  unfold Wt at h ⊢
  cases e : m ev with
  | ok r ev' => rw [e] at h; exact fun F' H' b => hp _ _ _ _ b (h F' H' b)
  | exc c ev' => rw [e] at h; exact h
  | bad => rw [e] at h; exact h
end
theorem SE.go {X : Cx} {W : WX} {cm : CM} {e : Expr} {m : M RV} (s : SE X W cm e m) {F : FS} {H0 H : Hp} {ev : SL} {σ : St} {Q : VK} (r : ER X.K F H0 ev σ H)
    (h : Wt X.K W cm F H0 ev σ H m fun r ev' F' H' => ∀ v, ResR X.K F' H0 ev' σ H H' r v → Q v H') : sE X e σ H Q := by
  refine s.run F H0 ev σ H Q r ?_
  unfold Wt at h
  cases e : m ev with
  | ok r ev' => rw [e] at h; exact fun F' v H' b q => h F' H' b v q
  | exc c ev' => rw [e] at h; exact h
  | bad => rw [e] at h; exact h
theorem SE.mk' {X : Cx} {W : WX} {cm : CM} {e : Expr} {m : M RV} (s : ∀ (F : FS) (H0 H : Hp) (ev : SL) (σ : St) (Q : VK), ER X.K F H0 ev σ H →
    (Wt X.K W cm F H0 ev σ H m fun r ev' F' H' => ∀ v, ResR X.K F' H0 ev' σ H H' r v → Q v H') → sE X e σ H Q) : SE X W cm e m := ⟨fun F H0 ev σ H Q r h => by
  refine s F H0 H ev σ Q r ?_
  unfold Wt
  cases e : m ev with
  | ok r ev' => rw [e] at h; exact fun F' H' b v q => h F' v H' b q
  | exc c ev' => rw [e] at h; exact h
  | bad => rw [e] at h; exact h⟩
theorem ST.go {X : Cx} {W : WX} {cm : CM} {e : Expr} {m : M Bool} (s : ST X W cm e m) {F : FS} {H0 H : Hp} {ev : SL} {σ : St} {Q : Bool → Hp → Prop} (r : ER X.K F H0 ev σ H)
    (h : Wt X.K W cm F H0 ev σ H m fun b _ _ H' => Q b H') : sT X e σ H Q := by
  refine s.run F H0 ev σ H Q r ?_
  unfold Wt at h
  cases e : m ev with
  | ok r ev' => rw [e] at h; exact h
  | exc c ev' => rw [e] at h; exact h
  | bad => rw [e] at h; exact h
theorem ST.mk' {X : Cx} {W : WX} {cm : CM} {e : Expr} {m : M Bool} (s : ∀ (F : FS) (H0 H : Hp) (ev : SL) (σ : St) (Q : Bool → Hp → Prop), ER X.K F H0 ev σ H →
    (Wt X.K W cm F H0 ev σ H m fun b _ _ H' => Q b H') → sT X e σ H Q) : ST X W cm e m := ⟨fun F H0 ev σ H Q r h => by
  refine s F H0 H ev σ Q r ?_
  unfold Wt
  cases e : m ev with
  | ok r ev' => rw [e] at h; exact h
  | exc c ev' => rw [e] at h; exact h
  | bad => rw [e] at h; exact h⟩
def RepT (K : Fr) (F : FS) (H : Hp) (v : V) : PV → Prop
  | .lst ps => ∃ a xs, v = .ref a ∧ H a = some (.lst xs) ∧ RepL K F H xs ps
  | p => Rep K F H v p
theorem RepT.of {K : Fr} {F : FS} {H : Hp} {v : V} : ∀ {p : PV}, Rep K F H v p → RepT K F H v p
  | .non, h => h
  | .bl _, h => h
  | .int _, h => h
  | .str _, h => h
  | .tup _, h => h
  | .itm _, h => h
  | .opq _, h => h
  | .lst ps, h => by
    unfold Rep at h
    obtain ⟨a, xs, e, q, r⟩ := h
    exact ⟨a, xs, e, q.2, r⟩
  | .scr _, h => h
  | .dct _ _, h => h
theorem RepT.mono {K : Fr} {F F' : FS} {H H' : Hp} {v : V} (s : Same H H') (f : ∀ a, F a → F' a) : ∀ {p : PV}, RepT K F H v p → RepT K F' H' v p
  | .non, h => h
  | .bl _, h => h
  | .int _, h => h
  | .str _, h => h
  | .tup ps, h => Rep.mono (.of s) f (.tup ps) h
  | .itm ps, h => Rep.mono (.of s) f (.itm ps) h
  | .opq _, h => h
  | .lst ps, h => by
    obtain ⟨a, xs, e, q, r⟩ := h
    exact ⟨a, xs, e, s _ _ q, RepL.mono (.of s) f ps r⟩
  | .scr ns, h => Rep.mono (.of s) f (.scr ns) h
  | .dct ks ps, h => Rep.mono (.of s) f (.dct ks ps) h
theorem ResR.top {K : Fr} {F : FS} {H0 H Hs : Hp} {ev : SL} {σ : St} {r : RV} {v : V} (q : ResR K F H0 ev σ Hs H r v) : RepT K F H v r.1 := by
  obtain ⟨p, fr⟩ := r
  cases fr with
  | false => exact RepT.of q
  | true =>
    obtain ⟨a, xs, ps, rfl, rfl, h, r, _⟩ := q
    exact ⟨a, xs, rfl, h, r⟩
structure SP (X : Cx) (W : WX) (cm : CM) (e : Expr) (m : M PV) : Prop where
  go : ∀ {F : FS} {H0 H : Hp} {ev : SL} {σ : St} {Q : VK}, ER X.K F H0 ev σ H →
    (Wt X.K W cm F H0 ev σ H m fun p _ F' H' => ∀ v, RepT X.K F' H' v p → Q v H') → sE X e σ H Q
def look (m : M RV) : M PV := bnd m fun r => ret r.1
theorem SE.look {X : Cx} {W : WX} {cm : CM} {e : Expr} {m : M RV} (s : SE X W cm e m) : SP X W cm e (look m) := ⟨fun {F H0 H ev σ Q} r h => by
  refine s.go r (h.bnd.mono fun a ev' F' H' b ⟨_, h'⟩ v q => ?_)
  exact Wt.ret (P := fun p _ F' H' => ∀ v, RepT X.K F' H' v p → Q v H') b.er h' v q.top⟩
section
variable {X : Cx} {W : WX} {cm : CM}
def eVar (i : Nat) : M RV := fun ev => match ev[i]? with
  | some (.val p) => .ok (p, false) ev
  | some (.own ps) => .ok (.lst ps, false) (ev.set i (.val (.lst ps)))
  | some (.dow ks ps) => .ok (.dct ks ps, false) (ev.set i (.val (.dct ks ps)))
  | _ => .bad
def pVar (i : Nat) : M PV := fun ev => match ev[i]? with
  | some (.val p) => .ok p ev
  | some (.own ps) => .ok (.lst ps) ev
  | _ => .bad
theorem getElem?_set_some {α : Type} {l : List α} {i j : Nat} {a b : α} (h : (l.set i a)[j]? = some b) : (i = j ∧ b = a) ∨ (i ≠ j ∧ l[j]? = some b) := by
  by_cases e : i = j
  · subst e
    rw [List.getElem?_set] at h
    simp only [if_true] at h
    split at h
    · exact .inl ⟨rfl, (Option.some.inj h).symm⟩
    · cases h
  · rw [List.getElem?_set_ne e] at h
    exact .inr ⟨e, h⟩
theorem ER.freezeG {K : Fr} {F : FS} {H0 H : Hp} {ev : SL} {σ : St} {i : Nat} {q0 : Slot} {p0 : PV} {a : Addr} (r : ER K F H0 ev σ H) (e : ev[i]? = some q0) (hq : q0.isO = true) (s : σ[i]? = some (some (.ref a))) (rp : Rep K (fun x => F x ∨ x = a) H (.ref a) p0) :
    Aft K F H0 ev (ev.set i (.val p0)) σ H (fun x => F x ∨ x = a) H := by
  obtain ⟨nf, h0, oo, ha, _⟩ := r.ow ⟨i, q0, ⟨e, hq⟩, s⟩
  have ow' : ∀ x, Ow (ev.set i (.val p0)) σ x → Ow ev σ x ∧ x ≠ a := fun x ⟨j, qs, e1, e2⟩ => by
    rcases getElem?_set_some e1.1 with ⟨_, z⟩ | ⟨ne, z⟩
    · rw [z] at e1; cases e1.2
    · refine ⟨⟨j, qs, ⟨z, e1.2⟩, e2⟩, fun z' => ?_⟩
      subst z'
      exact ne (r.inj i j x _ _ ⟨e, hq⟩ ⟨z, e1.2⟩ s e2)
  refine ⟨fun _ h => .inl h, fun x hx => ?_, Same.refl _, ?_, fun x h => (ow' x h).1⟩
  · rcases hx with hx | hx
    · exact .inl hx
    · exact .inr (.inr ⟨i, q0, ⟨e, hq⟩, by rw [hx]; exact s⟩)
  · refine ⟨by rw [List.length_set]; exact r.len, fun j sl ej => ?_, fun j k b qs rs e1 e2 s1 s2 => ?_, fun x hx => ?_, r.same⟩
    · rcases getElem?_set_some ej with ⟨z, rfl⟩ | ⟨ne, z⟩
      · subst z
        exact ⟨_, s, .ref a, rfl, rp⟩
      · obtain ⟨o, e1, q⟩ := r.slot j sl z
        refine ⟨o, e1, ?_⟩
        cases sl with
        | no => trivial
        | val p =>
          obtain ⟨v, e2, q⟩ := q
          exact ⟨v, e2, Rep.mono .refl (fun _ h => .inl h) p q⟩
        | own qs =>
          obtain ⟨b, ys, e2, e3, q, nf', e4⟩ := q
          refine ⟨b, ys, e2, e3, RepL.mono .refl (fun _ h => .inl h) qs q, fun hb => ?_, e4⟩
          rcases hb with hb | hb
          · exact nf' hb
          · subst hb
            exact ne (r.inj i j b _ _ ⟨e, hq⟩ ⟨z, rfl⟩ s (by rw [e1, e2]))
        | dow ks qs =>
          obtain ⟨b, ys, e2, e3, q, nf', e4⟩ := q
          refine ⟨b, ys, e2, e3, RepL.mono .refl (fun _ h => .inl h) qs q, fun hb => ?_, e4⟩
          rcases hb with hb | hb
          · exact nf' hb
          · subst hb
            exact ne (r.inj i j b _ _ ⟨e, hq⟩ ⟨z, rfl⟩ s (by rw [e1, e2]))
    · rcases getElem?_set_some e1.1 with ⟨_, z⟩ | ⟨_, z1⟩
      · rw [z] at e1; cases e1.2
      · rcases getElem?_set_some e2.1 with ⟨_, z⟩ | ⟨_, z2⟩
        · rw [z] at e2; cases e2.2
        · exact r.inj j k b _ _ ⟨z1, e1.2⟩ ⟨z2, e2.2⟩ s1 s2
    · rcases hx with hx | hx
      · exact r.dom x hx
      · rw [hx, ha]; exact fun z => nomatch z
theorem ER.freeze {K : Fr} {F : FS} {H0 H : Hp} {ev : SL} {σ : St} {i : Nat} {ps : List PV} {a : Addr} (r : ER K F H0 ev σ H) (e : ev[i]? = some (.own ps)) (s : σ[i]? = some (some (.ref a))) :
    Aft K F H0 ev (ev.set i (.val (.lst ps))) σ H (fun x => F x ∨ x = a) H ∧ Rep K (fun x => F x ∨ x = a) H (.ref a) (.lst ps) := by
  have rp : Rep K (fun x => F x ∨ x = a) H (.ref a) (.lst ps) := by
    obtain ⟨o, e1, b, ys, e2, e3, q, _⟩ := r.slot i _ e
    rw [s] at e1; cases e1; cases e2
    unfold Rep
    exact ⟨a, ys, rfl, ⟨.inr rfl, e3⟩, RepL.mono .refl (fun _ h => .inl h) ps q⟩
  exact ⟨r.freezeG e rfl s rp, rp⟩
theorem ER.freezeD {K : Fr} {F : FS} {H0 H : Hp} {ev : SL} {σ : St} {i : Nat} {ks : List Int} {ps : List PV} {a : Addr} (r : ER K F H0 ev σ H) (e : ev[i]? = some (.dow ks ps)) (s : σ[i]? = some (some (.ref a))) :
    Aft K F H0 ev (ev.set i (.val (.dct ks ps))) σ H (fun x => F x ∨ x = a) H ∧ Rep K (fun x => F x ∨ x = a) H (.ref a) (.dct ks ps) := by
  have rp : Rep K (fun x => F x ∨ x = a) H (.ref a) (.dct ks ps) := by
    obtain ⟨o, e1, b, ys, e2, e3, q, _⟩ := r.slot i _ e
    rw [s] at e1; cases e1; cases e2
    unfold Rep
    exact ⟨a, ys, rfl, ⟨.inr rfl, e3⟩, RepL.mono .refl (fun _ h => .inl h) ps q⟩
  exact ⟨r.freezeG e rfl s rp, rp⟩
theorem e_var {i : Nat} {x : Str} {pos : Pos} (hN : X.N[i]? = some x := by rfl) (hv : Vis X.env.scope x := by first | exact Or.inl rfl | exact Or.inr (Or.inl rfl) | exact Or.inr (Or.inr rfl)) (hd : (x == ("__debug__" : Str)) = false := by decide)
    (hcd : (x == ("__classdict__" : Str)) = false := by decide) : SE X W cm (.Name x pos) (eVar i) := .mk' fun F H0 H ev σ Q r h => by
  refine sE_of (pe_var hN hv hd hcd) ?_
  unfold Wt eVar at h
  cases e : ev[i]? with
  | none => simp only [e] at h
  | some sl =>
    cases sl with
    | no => simp only [e] at h
    | val p =>
      simp only [e] at h
      obtain ⟨o, e1, v, rfl, q⟩ := r.slot i _ e
      exact ⟨v, e1, h F H r.aft v q⟩
    | own ps =>
      simp only [e] at h
      obtain ⟨o, e1, a, xs, rfl, _⟩ := r.slot i _ e
      obtain ⟨a1, a2⟩ := r.freeze e e1
      exact ⟨_, e1, h _ H a1 _ a2⟩
    | dow ks ps =>
      simp only [e] at h
      obtain ⟨o, e1, a, xs, rfl, _⟩ := r.slot i _ e
      obtain ⟨a1, a2⟩ := r.freezeD e e1
      exact ⟨_, e1, h _ H a1 _ a2⟩
theorem p_var {i : Nat} {x : Str} {pos : Pos} (hN : X.N[i]? = some x := by rfl) (hv : Vis X.env.scope x := by first | exact Or.inl rfl | exact Or.inr (Or.inl rfl) | exact Or.inr (Or.inr rfl)) (hd : (x == ("__debug__" : Str)) = false := by decide)
    (hcd : (x == ("__classdict__" : Str)) = false := by decide) : SP X W cm (.Name x pos) (pVar i) := ⟨fun {F H0 H ev σ Q} r h => by
  refine sE_of (pe_var hN hv hd hcd) ?_
  unfold Wt pVar at h
  cases e : ev[i]? with
  | none => simp only [e] at h
  | some sl =>
    cases sl with
    | no => simp only [e] at h
    | val p =>
      simp only [e] at h
      obtain ⟨o, e1, v, rfl, q⟩ := r.slot i _ e
      exact ⟨v, e1, h F H r.aft v (.of q)⟩
    | own ps =>
      simp only [e] at h
      obtain ⟨o, e1, a, xs, rfl, e2, q, _⟩ := r.slot i _ e
      exact ⟨_, e1, h F H r.aft _ ⟨a, xs, rfl, e2, q⟩⟩
    | dow ks ps => simp only [e] at h⟩
def eC (p : PV) : M RV := ret (p, false)
theorem e_cst {e : Expr} {p : PV} {v : V} (he : PE X e (tC v)) (hp : ∀ F H, Rep X.K F H v p) : SE X W cm e (eC p) := .mk' fun F H0 H ev σ Q r h => sE_of he (Wt.ret r h v (hp F H))
theorem e_int {i : Int} {j : Nat} {pos : Pos} : SE X W cm (.Constant (.int i) j pos) (eC (.int i)) := e_cst pe_int fun _ _ => by unfold Rep; rfl
theorem e_bl {b : Bool} {j : Nat} {pos : Pos} : SE X W cm (.Constant (.bool b) j pos) (eC (.bl b)) := e_cst pe_bl fun _ _ => by unfold Rep; rfl
theorem e_non {j : Nat} {pos : Pos} : SE X W cm (.Constant .none j pos) (eC .non) := e_cst pe_non fun _ _ => by unfold Rep; rfl
theorem e_str {x : Str} {j : Nat} {pos : Pos} : SE X W cm (.Constant (.str x) j pos) (eC (.str x)) := e_cst pe_str fun _ _ => by unfold Rep; rfl
theorem e_gint {x : Str} {i : Int} {t : Tok} {pos : Pos} (hm : X.mg x = some (.int i t)) (hg : Gl X x := by rfl) (hd : (x == ("__debug__" : Str)) = false := by decide) : SE X W cm (.Name x pos) (eC (.int i)) :=
  e_cst (pe_glob hg hm (v := .int i) ⟨_, rfl⟩ hd) fun _ _ => by unfold Rep; rfl
def sOp (X : Cx) (f : Value → Value → Sem Value) : R2 := fun x y H Q => ∀ (pins : List (Addr × Obj)) (s : Shared) (σ : St) (v u : Value), L2.Inv X pins σ H s → L2.RelV x v → L2.RelV y u → wpAny (model X.prog X.w) X.A (f v u) (EP X pins σ Q) X.xe s
theorem sOp_ok {f : Value → Value → Sem Value} : OpR X f (sOp X f) := fun pins s σ H x y v u Q I rx ry h => h pins s σ v u I rx ry
theorem sOp_of {f : Value → Value → Sem Value} {r : R2} {x y : V} {H : Hp} {Q : VK} (o : OpR X f r) (h : r x y H Q) : sOp X f x y H Q := fun pins s σ v u I rx ry => o pins s σ H x y v u Q I rx ry h
def OpOk (X : Cx) (f : Value → Value → Sem Value) (g : PV → PV → Option RV) : Prop := ∀ (F : FS) (H0 H : Hp) (ev : SL) (σ : St) (x y : V) (p q : PV) (r : RV) (Q : VK), ER X.K F H0 ev σ H → RepT X.K F H x p → RepT X.K F H y q → g p q = some r →
  (∀ F' v H', Aft X.K F H0 ev ev σ H F' H' → ResR X.K F' H0 ev σ H H' r v → Q v H') → sOp X f x y H Q
def opt {α : Type} : Option α → M α
  | some a => ret a
  | none => bad
def eOp (g : PV → PV → Option RV) (a b : M PV) : M RV := bnd a fun x => bnd b fun y => opt (g x y)
theorem ResR.later {K : Fr} {F : FS} {H0 H Hs Hs' : Hp} {ev : SL} {σ : St} {r : RV} {v : V} (s : Same Hs' Hs) (q : ResR K F H0 ev σ Hs H r v) : ResR K F H0 ev σ Hs' H r v := by
  obtain ⟨p, fr⟩ := r
  cases fr with
  | false => exact q
  | true =>
    obtain ⟨a, xs, ps, e1, e2, h, r, nf, n, o⟩ := q
    exact ⟨a, xs, ps, e1, e2, h, r, nf, s.free n, o⟩
theorem op2 {f : Value → Value → Sem Value} {g : PV → PV → Option RV} (ho : OpOk X f g) {a b : Expr} {ma mb : M PV} (ha : SP X W cm a ma) (hb : SP X W cm b mb) {F : FS} {H0 H : Hp} {ev : SL} {σ : St} {Q : VK} (r : ER X.K F H0 ev σ H)
    (h : Wt X.K W cm F H0 ev σ H (eOp g ma mb) fun r ev' F' H' => ∀ v, ResR X.K F' H0 ev' σ H H' r v → Q v H') : tOp (sOp X f) (sE X a) (sE X b) σ H Q := by
  refine ha.go r (h.bnd.mono fun p ev1 F1 H1 a1 ⟨_, h1⟩ x rx => ?_)
  refine hb.go a1.er (h1.bnd.mono fun q ev2 F2 H2 a2 ⟨_, h2⟩ y ry => ?_)
  cases e : g p q with
  | none => rw [e] at h2; exact h2.elim
  | some z =>
    rw [e] at h2
    refine ho F2 H0 H2 ev2 σ x y p q z Q a2.er (rx.mono a2.same a2.sub) ry e fun F' v H' a3 rr => ?_
    exact h2 F' H' a3 v (rr.later (a1.same.trans a2.same))
theorem e_bin {op : Operator} {g : PV → PV → Option RV} {a b : Expr} {ma mb : M PV} {pos : Pos} (ho : OpOk X (binaryOp op) g) (ha : SP X W cm a ma) (hb : SP X W cm b mb) : SE X W cm (.BinOp a op b pos) (eOp g ma mb) := .mk' fun F H0 H ev σ Q r h =>
  sE_of (pe_op sOp_ok sE_pe sE_pe) (op2 ho ha hb r h)
theorem e_cmp {op : CmpOp} {g : PV → PV → Option RV} {a b : Expr} {ma mb : M PV} {pos : Pos} (ho : OpOk X (compareOp op) g) (ha : SP X W cm a ma) (hb : SP X W cm b mb) (hm : behindInMarks op b = false := by first | exact nomark _ | rfl) : SE X W cm (.Compare a [op] [b] pos) (eOp g ma mb) := .mk' fun F H0 H ev σ Q r h =>
  sE_of (pe_cmpR sOp_ok sE_pe sE_pe hm) (op2 ho ha hb r h)
theorem OpOk.pure {f : Value → Value → Sem Value} {g : PV → PV → Option RV} (h : ∀ (F : FS) (H : Hp) (x y : V) (p q : PV) (r : RV), RepT X.K F H x p → RepT X.K F H y q → g p q = some r → ∃ (z : V) (rr : R2), OpR X f rr ∧ (∀ Q : VK, Q z H → rr x y H Q) ∧ r.2 = false ∧ Rep X.K F H z r.1) : OpOk X f g :=
  fun F H0 H ev σ x y p q r Q er rx ry e hq => by
    obtain ⟨z, rr, o, h1, h2, h3⟩ := h F H x y p q r rx ry e
    refine sOp_of o (h1 Q (hq F z H er.aft ?_))
    obtain ⟨r1, r2⟩ := r
    simp only at h2 h3
    rw [h2]
    exact h3
def vI (i : Int) : Option RV := some (.int i, false)
def vB (b : Bool) : Option RV := some (.bl b, false)
def gII (g : Int → Int → Option RV) : PV → PV → Option RV
  | .int i, .int j => g i j
  | _, _ => none
theorem OpOk.ii {f : Value → Value → Sem Value} {C : Int → Int → Prop} {z : Int → Int → V} {g : Int → Int → Option RV} (o : OpR X f fun x y H Q => ∃ i j, x = .int i ∧ y = .int j ∧ C i j ∧ Q (z i j) H)
    (hg : ∀ i j r, g i j = some r → C i j ∧ r.2 = false ∧ ∀ F H, Rep X.K F H (z i j) r.1) : OpOk X f (gII g) := .pure fun F H x y p q r rx ry e => by
  unfold gII at e
  split at e
  · rename_i i j
    have ex : x = .int i := rx
    have ey : y = .int j := ry
    subst ex ey
    obtain ⟨c, n, rp⟩ := hg i j r e
    exact ⟨z i j, _, o, fun Q hq => ⟨i, j, rfl, rfl, c, hq⟩, n, rp F H⟩
  · cases e
theorem OpR.free {f : Value → Value → Sem Value} {z : Int → Int → V} (o : OpR X f (rI0 z)) : OpR X f fun x y H Q => ∃ i j, x = .int i ∧ y = .int j ∧ True ∧ Q (z i j) H :=
  fun pins s σ H x y v u Q I rx ry ⟨i, j, a, b, _, h⟩ => o pins s σ H x y v u Q I rx ry ⟨i, j, a, b, h⟩
def aSub : PV → PV → Option RV := gII fun i j => vI (i - j)
def smallI (i : Int) : Bool := decide (-(2 ^ 64) < i ∧ i < 2 ^ 64)
def aMul : PV → PV → Option RV := gII fun i j => if smallI i || smallI j then vI (i * j) else none
def aDiv : PV → PV → Option RV := gII fun i j => if 0 < j ∧ j < 1073741824 then vI (i / j) else none
def aMod : PV → PV → Option RV := gII fun i j => if 0 < j then vI (i % j) else none
def aPow : PV → PV → Option RV := gII fun i j => if 0 ≤ j ∧ j ≤ 1000000 ∧ i.natAbs < 2 ^ 64 then vI (i ^ j.toNat) else none
theorem o_sub : OpOk X (binaryOp .Sub) aSub := .ii (OpR.free op_sub) fun i j r e => by cases e; exact ⟨trivial, rfl, fun _ _ => by unfold Rep; rfl⟩
theorem o_mul : OpOk X (binaryOp .Mult) aMul := .ii op_mul fun i j r e => by
  split at e
  · rename_i c
    cases e
    refine ⟨?_, rfl, fun _ _ => by unfold Rep; rfl⟩
    rw [Bool.or_eq_true] at c
    unfold smallI at c
    rcases c with c | c
    · exact .inl (of_decide_eq_true c)
    · exact .inr (of_decide_eq_true c)
  · cases e
theorem o_div : OpOk X (binaryOp .FloorDiv) aDiv := .ii op_fdiv fun i j r e => by
  split at e
  · rename_i c
    cases e
    exact ⟨⟨by have := c.1; omega, by have := c.2; omega⟩, rfl, fun _ _ => by unfold Rep; rfl⟩
  · cases e
theorem o_mod : OpOk X (binaryOp .Mod) aMod := .ii op_mod fun i j r e => by
  split at e
  · rename_i c
    cases e
    exact ⟨c, rfl, fun _ _ => by unfold Rep; rfl⟩
  · cases e
theorem o_pow : OpOk X (binaryOp .Pow) aPow := .ii op_pow fun i j r e => by
  split at e
  · rename_i c
    cases e
    exact ⟨c, rfl, fun _ _ => by unfold Rep; rfl⟩
  · cases e
def cLt : PV → PV → Option RV := gII fun i j => vB (decide (i < j))
def cLe : PV → PV → Option RV := gII fun i j => vB (decide (i ≤ j))
def cGt : PV → PV → Option RV := gII fun i j => vB (decide (j < i))
def cGe : PV → PV → Option RV := gII fun i j => vB (decide (j ≤ i))
theorem o_lt : OpOk X (compareOp .Lt) cLt := .ii (OpR.free op_lt) fun i j r e => by cases e; exact ⟨trivial, rfl, fun _ _ => by unfold Rep; rfl⟩
theorem o_le : OpOk X (compareOp .LtE) cLe := .ii (OpR.free op_le) fun i j r e => by cases e; exact ⟨trivial, rfl, fun _ _ => by unfold Rep; rfl⟩
theorem o_gt : OpOk X (compareOp .Gt) cGt := .ii (OpR.free op_gt) fun i j r e => by cases e; exact ⟨trivial, rfl, fun _ _ => by unfold Rep; rfl⟩
theorem o_ge : OpOk X (compareOp .GtE) cGe := .ii (OpR.free op_ge) fun i j r e => by cases e; exact ⟨trivial, rfl, fun _ _ => by unfold Rep; rfl⟩
end
end Pv
set_option Elab.async false
set_option linter.all false
set_option maxRecDepth 100000
namespace Pv
open PySem PySem.Spec L2
open PyProof.Rows hiding St
section
variable {K : Fr} {F F' : FS} {H0 H H' Hs : Hp} {ev : SL} {σ : St}
theorem ER.later (r : ER K F H0 ev σ H) (s : Same H H') : ER K F H0 ev σ H' where
  len := r.len
  slot := fun i sl e => by
    obtain ⟨o, e1, q⟩ := r.slot i sl e
    refine ⟨o, e1, ?_⟩
    cases sl with
    | no => trivial
    | val p =>
      obtain ⟨v, e2, q⟩ := q
      exact ⟨v, e2, Rep.mono (.of s) (fun _ h => h) p q⟩
    | own ps =>
      obtain ⟨a, xs, e2, e3, q, nf, e4⟩ := q
      exact ⟨a, xs, e2, s _ _ e3, RepL.mono (.of s) (fun _ h => h) ps q, nf, e4⟩
    | dow ks ps =>
      obtain ⟨a, xs, e2, e3, q, nf, e4⟩ := q
      exact ⟨a, xs, e2, ⟨s _ _ e3.1, e3.2⟩, RepL.mono (.of s) (fun _ h => h) ps q, nf, e4⟩
  inj := r.inj
  dom := fun a f z => r.dom a f (s.free z)
  same := r.same.trans s
theorem ER.step (r : ER K F H0 ev σ H) (s : Same H H') : Aft K F H0 ev ev σ H F H' := ⟨fun _ h => h, fun _ h => .inl h, s, r.later s, fun _ h => h⟩
theorem same_upd {p : Addr} {o : HO} (h : H p = none) : Same H (upd H p o) := fun b x e => by
  rw [upd_ne (ne_of_none e h)]
  exact e
theorem ER.fresh (r : ER K F H0 ev σ H) {p : Addr} {o : HO} (h : H p = none) : Aft K F H0 ev ev σ H F (upd H p o) := r.step (same_upd h)
def NewT (xs : List V) (Q : VK) (H : Hp) : Prop := ∀ (p : Addr) (o : Obj), H p = none → o.cls = .type "tuple" → o.dict = none → Q (.ref p) (upd H p (.frz o (.tup xs)))
theorem ER.newT (r : ER K F H0 ev σ H) {p : Addr} {o : Obj} {xs : List V} {ps : List PV} (h : H p = none) (hc : o.cls = .type "tuple") (hd : o.dict = none) (q : RepL K F H xs ps) : ResR K F H0 ev σ Hs (upd H p (.frz o (.tup xs))) (.tup ps, false) (.ref p) := by
  show Rep K F _ _ _
  unfold Rep
  exact ⟨p, xs, rfl, .inl ⟨o, upd_same, hc, hd⟩, RepL.mono (.of (same_upd h)) (fun _ h => h) ps q⟩
theorem ER.newL (r : ER K F H0 ev σ H) (s : Same Hs H) {p : Addr} {xs : List V} {ps : List PV} (h : H p = none) (q : RepL K F H xs ps) : ResR K F H0 ev σ Hs (upd H p (.lst xs)) (.lst ps, true) (.ref p) := by
  refine ⟨p, xs, ps, rfl, rfl, upd_same, RepL.mono (.of (same_upd h)) (fun _ h => h) ps q, fun f => r.dom p f h, s.free h, fun o => ?_⟩
  obtain ⟨_, _, ys, e, _⟩ := r.ow o
  rw [h] at e; cases e
theorem OpOk.mk {X : Cx} {f : Value → Value → Sem Value} {g : PV → PV → Option RV} (h : ∀ (F : FS) (H0 H : Hp) (ev : SL) (σ : St) (x y : V) (p q : PV) (r : RV) (Q : VK), ER X.K F H0 ev σ H → RepT X.K F H x p → RepT X.K F H y q → g p q = some r →
    (∀ F' v H', Aft X.K F H0 ev ev σ H F' H' → ResR X.K F' H0 ev σ H H' r v → Q v H') → ∃ rr : R2, OpR X f rr ∧ rr x y H Q) : OpOk X f g := fun F H0 H ev σ x y p q r Q er rx ry e hq => by
  obtain ⟨rr, o, hh⟩ := h F H0 H ev σ x y p q r Q er rx ry e hq
  exact sOp_of o hh
end
def flatP : PV → Bool
  | .non => true | .bl _ => true | .int _ => true | .str _ => true
  | _ => false
def toV : PV → V
  | .bl b => .bl b | .int i => .int i | .str x => .str x | .opq v => v
  | _ => .non
theorem flat_toV {K : Fr} {F : FS} {H : Hp} {v : V} : ∀ {p : PV}, flatP p = true → RepT K F H v p → v = toV p ∧ flatV v = true
  | .non, _, h => by have h' : v = .non := h; subst h'; exact ⟨rfl, rfl⟩
  | .bl _, _, h => by have h' : v = .bl _ := h; subst h'; exact ⟨rfl, rfl⟩
  | .int _, _, h => by have h' : v = .int _ := h; subst h'; exact ⟨rfl, rfl⟩
  | .str _, _, h => by have h' : v = .str _ := h; subst h'; exact ⟨rfl, rfl⟩
  | .tup _, h, _ => nomatch h
  | .itm _, h, _ => nomatch h
  | .lst _, h, _ => nomatch h
  | .opq _, h, _ => nomatch h
  | .scr _, h, _ => nomatch h
theorem flat_toVs {K : Fr} {F : FS} {H : Hp} : ∀ {vs : List V} {ps : List PV}, ps.all flatP = true → RepL K F H vs ps → vs = ps.map toV ∧ vs.all flatV = true
  | vs, [], _, h => by rw [h.nil_inv]; exact ⟨rfl, rfl⟩
  | vs, p :: ps, f, h => by
    unfold RepL at h
    obtain ⟨x, r, rfl, h1, h2⟩ := h
    rw [List.all_cons, Bool.and_eq_true] at f
    obtain ⟨e1, e2⟩ := flat_toV f.1 (.of h1)
    obtain ⟨e3, e4⟩ := flat_toVs f.2 h2
    exact ⟨by rw [List.map_cons, ← e1, ← e3], by rw [List.all_cons, e2, e4]; rfl⟩
mutual
def isD : PV → Bool
  | .opq _ => false
  | .scr _ => false
  | .itm _ => false
  | .dct _ _ => false
  | .tup ps => isDs ps
  | .lst ps => isDs ps
  | _ => true
def isDs : List PV → Bool
  | [] => true
  | p :: ps => isD p && isDs ps
end
mutual
def toD : PV → PyData
  | .non => .none | .bl b => .bool b | .int i => .int i | .str x => .str x | .tup ps => .tuple (toDs ps) | .lst ps => .list (toDs ps) | .opq _ => .none | .scr _ => .none | .itm _ => .none | .dct _ _ => .none
def toDs : List PV → List PyData
  | [] => []
  | p :: ps => toD p :: toDs ps
end
mutual
theorem Rep.dp {K : Fr} {F : FS} {H : Hp} : ∀ {v : V} (p : PV), isD p = true → Rep K F H v p → Dp K H v (toD p)
  | v, .non, _, h => by unfold Rep at h; subst h; exact .non
  | v, .bl b, _, h => by unfold Rep at h; subst h; exact .bl b
  | v, .int i, _, h => by unfold Rep at h; subst h; exact .int i
  | v, .str x, _, h => by unfold Rep at h; subst h; exact .str x
  | v, .opq _, d, _ => by unfold isD at d; cases d
  | v, .scr _, d, _ => by unfold isD at d; cases d
  | v, .itm _, d, _ => by unfold isD at d; cases d
  | v, .dct _ _, d, _ => by unfold isD at d; cases d
  | v, .tup ps, d, h => by
    unfold Rep at h
    unfold isD at d
    obtain ⟨a, xs, rfl, q, r⟩ := h
    exact .tup q.sqT (RepL.dp ps d r)
  | v, .lst ps, d, h => by
    unfold Rep at h
    unfold isD at d
    obtain ⟨a, xs, rfl, q, r⟩ := h
    exact .lst (SqL.of q.2) (RepL.dp ps d r)
theorem RepL.dp {K : Fr} {F : FS} {H : Hp} : ∀ {vs : List V} (ps : List PV), isDs ps = true → RepL K F H vs ps → DpAll K H vs (toDs ps)
  | vs, [], _, h => by rw [h.nil_inv]; exact .nil
  | vs, p :: ps, d, h => by
    unfold RepL at h
    obtain ⟨x, r, rfl, h1, h2⟩ := h
    unfold isDs at d
    rw [Bool.and_eq_true] at d
    exact .cons (Rep.dp p d.1 h1) (RepL.dp ps d.2 h2)
end
theorem RepT.dp {K : Fr} {F : FS} {H : Hp} {v : V} : ∀ (p : PV), isD p = true → RepT K F H v p → Dp K H v (toD p)
  | .lst ps, d, h => by
    unfold isD at d
    obtain ⟨a, xs, rfl, q, r⟩ := h
    exact .lst (SqL.of q) (RepL.dp ps d r)
  | .non, d, h => Rep.dp (F := F) .non d h
  | .bl b, d, h => Rep.dp (F := F) (.bl b) d h
  | .int b, d, h => Rep.dp (F := F) (.int b) d h
  | .str b, d, h => Rep.dp (F := F) (.str b) d h
  | .tup b, d, h => Rep.dp (F := F) (.tup b) d h
  | .opq b, d, h => Rep.dp (F := F) (.opq b) d h
  | .scr b, d, h => Rep.dp (F := F) (.scr b) d h
  | .itm b, d, h => Rep.dp (F := F) (.itm b) d h
  | .dct b c, d, h => Rep.dp (F := F) (.dct b c) d h
def okD (p : PV) : Bool := isD p && SeqAt.shaped (toD p)
def gEq (neg : Bool) : PV → PV → Option RV
  | .int i, .int j => vB (xor neg (decide (i = j)))
  | .bl i, .bl j => vB (xor neg (decide (i = j)))
  | .str i, .str j => vB (xor neg (decide (i = j)))
  | p, q => if okD p && okD q then vB (xor neg (PyData.eqv (toD p) (toD q))) else none
section
variable {X : Cx} {W : WX} {cm : CM}
theorem rep_bl {K : Fr} {F : FS} {H : Hp} {b : Bool} : Rep K F H (.bl b) (.bl b) := by unfold Rep; rfl
theorem rep_int {K : Fr} {F : FS} {H : Hp} {b : Int} : Rep K F H (.int b) (.int b) := by unfold Rep; rfl
theorem rep_str {K : Fr} {F : FS} {H : Hp} {b : Str} : Rep K F H (.str b) (.str b) := by unfold Rep; rfl
theorem rep_non {K : Fr} {F : FS} {H : Hp} : Rep K F H .non .non := by unfold Rep; rfl
theorem o_eq (hu : X.A.units + 64 < cLine) : OpOk X (compareOp .Eq) (gEq false) := .pure fun F H x y p q r rx ry e => by
  unfold gEq at e
  split at e
  · have ex : x = .int _ := rx
    have ey : y = .int _ := ry
    subst ex ey
    cases e
    refine ⟨.bl _, _, op_eq, fun Q hq => ⟨rfl, hq⟩, rfl, ?_⟩
    rw [Bool.false_xor, show (decide (V.int _ = V.int _)) = _ from dec_int, Bool.beq_eq_decide_eq]
    exact rep_bl
  · have ex : x = .bl _ := rx
    have ey : y = .bl _ := ry
    subst ex ey
    cases e
    refine ⟨.bl _, _, op_eq, fun Q hq => ⟨rfl, hq⟩, rfl, ?_⟩
    rw [Bool.false_xor, show (decide (V.bl _ = V.bl _)) = _ from dec_bl, Bool.beq_eq_decide_eq]
    exact rep_bl
  · have ex : x = .str _ := rx
    have ey : y = .str _ := ry
    subst ex ey
    cases e
    refine ⟨.bl _, _, op_eq, fun Q hq => ⟨rfl, hq⟩, rfl, ?_⟩
    rw [Bool.false_xor, show (decide (V.str _ = V.str _)) = _ from dec_str, Bool.beq_eq_decide_eq]
    exact rep_bl
  · split at e
    · rename_i c
      cases e
      unfold okD at c
      simp only [Bool.and_eq_true] at c
      refine ⟨.bl _, _, op_eqD hu, fun Q hq => ⟨_, _, rx.dp p c.1.1, ry.dp q c.2.1, c.1.2, c.2.2, hq⟩, rfl, ?_⟩
      rw [Bool.false_xor]
      exact rep_bl
    · cases e
theorem o_ne (hu : X.A.units + 64 < cLine) : OpOk X (compareOp .NotEq) (gEq true) := .pure fun F H x y p q r rx ry e => by
  unfold gEq at e
  split at e
  · have ex : x = .int _ := rx
    have ey : y = .int _ := ry
    subst ex ey
    cases e
    refine ⟨.bl _, _, op_ne, fun Q hq => ⟨rfl, hq⟩, rfl, ?_⟩
    rw [Bool.true_xor, show (decide (V.int _ = V.int _)) = _ from dec_int, Bool.beq_eq_decide_eq]
    exact rep_bl
  · have ex : x = .bl _ := rx
    have ey : y = .bl _ := ry
    subst ex ey
    cases e
    refine ⟨.bl _, _, op_ne, fun Q hq => ⟨rfl, hq⟩, rfl, ?_⟩
    rw [Bool.true_xor, show (decide (V.bl _ = V.bl _)) = _ from dec_bl, Bool.beq_eq_decide_eq]
    exact rep_bl
  · have ex : x = .str _ := rx
    have ey : y = .str _ := ry
    subst ex ey
    cases e
    refine ⟨.bl _, _, op_ne, fun Q hq => ⟨rfl, hq⟩, rfl, ?_⟩
    rw [Bool.true_xor, show (decide (V.str _ = V.str _)) = _ from dec_str, Bool.beq_eq_decide_eq]
    exact rep_bl
  · split at e
    · rename_i c
      cases e
      unfold okD at c
      simp only [Bool.and_eq_true] at c
      refine ⟨.bl _, _, op_neD hu, fun Q hq => ⟨_, _, rx.dp p c.1.1, ry.dp q c.2.1, c.1.2, c.2.2, hq⟩, rfl, ?_⟩
      rw [Bool.true_xor]
      exact rep_bl
    · cases e
def items : PV → Option (List PV)
  | .lst ps => some ps | .tup ps => some ps | .scr ns => some (ns.map .int)
  | _ => none
theorem RepT.items {K : Fr} {F : FS} {H : Hp} {v : V} {p : PV} {ps : List PV} (h : RepT K F H v p) (e : items p = some ps) : ∃ a xs, v = .ref a ∧ (SqL K H a xs ∨ SqT K H a xs) ∧ RepL K F H xs ps := by
  cases p <;> unfold Pv.items at e <;> cases e
  · have h' : Rep K F H v (.tup ps) := h
    unfold Rep at h'
    obtain ⟨a, xs, rfl, q, r⟩ := h'
    exact ⟨a, xs, rfl, .inr q.sqT, r⟩
  · obtain ⟨a, xs, rfl, q, r⟩ := h
    exact ⟨a, xs, rfl, .inl (SqL.of q), r⟩
  · have h' : Rep K F H v (.scr _) := h
    unfold Rep at h'
    obtain ⟨a, rfl, q⟩ := h'
    exact ⟨a, _, rfl, .inl q.seq, RepL.of_ints _⟩
def inP (p : PV) (ps : List PV) : Bool := inV (toV p) (ps.map toV)
def gIn (neg : Bool) (p q : PV) : Option RV := match items q with
  | some ps => if flatP p && ps.all flatP then vB (xor neg (inP p ps)) else none
  | none => none
theorem o_notIn : OpOk X (compareOp .NotIn) (gIn true) := .pure fun F H x y p q r rx ry e => by
  unfold gIn at e
  split at e
  · rename_i ps hi
    split at e
    · rename_i c
      cases e
      rw [Bool.and_eq_true] at c
      obtain ⟨a, xs, rfl, hq, rl⟩ := ry.items hi
      obtain ⟨e1, f1⟩ := flat_toV c.1 rx
      obtain ⟨e2, f2⟩ := flat_toVs c.2 rl
      refine ⟨.bl _, _, op_notIn_seq, fun Q hq' => ⟨a, xs, rfl, hq, f1, f2, hq'⟩, rfl, ?_⟩
      rw [e1, e2, Bool.true_xor]
      exact rep_bl
    · cases e
  · cases e
def isNon : PV → Bool
  | .non => true
  | _ => false
theorem RepT.non_iff {K : Fr} {F : FS} {H : Hp} {v : V} : ∀ {p : PV}, (∀ u, p ≠ .opq u) → RepT K F H v p → decide (v = V.non) = isNon p
  | .non, _, h => by have h' : v = .non := h; subst h'; rfl
  | .bl _, _, h => by have h' : v = .bl _ := h; subst h'; rfl
  | .int _, _, h => by have h' : v = .int _ := h; subst h'; rfl
  | .str _, _, h => by have h' : v = .str _ := h; subst h'; rfl
  | .opq u, n, _ => absurd rfl (n u)
  | .tup ps, _, h => by
    have h' : Rep K F H v (.tup ps) := h
    unfold Rep at h'
    obtain ⟨a, xs, rfl, _⟩ := h'
    rfl
  | .lst ps, _, h => by
    obtain ⟨a, xs, rfl, _⟩ := h
    rfl
  | .itm ps, _, h => by
    have h' : Rep K F H v (.itm ps) := h
    unfold Rep at h'
    obtain ⟨a, xs, rfl, _⟩ := h'
    rfl
  | .scr ns, _, h => by
    have h' : Rep K F H v (.scr ns) := h
    unfold Rep at h'
    obtain ⟨a, rfl, _⟩ := h'
    rfl
  | .dct ks ps, _, h => by
    have h' : Rep K F H v (.dct ks ps) := h
    unfold Rep at h'
    obtain ⟨a, xs, rfl, _⟩ := h'
    rfl
def isOpq : PV → Bool
  | .opq _ => true
  | _ => false
def gIs (neg : Bool) (p q : PV) : Option RV := if isOpq p then none else if isNon q then vB (xor neg (isNon p)) else none
theorem isNon_eq : ∀ {q : PV}, isNon q = true → q = .non
  | .non, _ => rfl
  | .bl _, h => nomatch h
  | .int _, h => nomatch h
  | .str _, h => nomatch h
  | .opq _, h => nomatch h
  | .tup _, h => nomatch h
  | .lst _, h => nomatch h
  | .scr _, h => nomatch h
  | .itm _, h => nomatch h
theorem o_is : OpOk X (compareOp .Is) (gIs false) := .pure fun F H x y p q r rx ry e => by
  unfold gIs at e
  split at e
  · cases e
  · rename_i hp
    split at e
    · rename_i c
      cases e
      have eq := isNon_eq c
      subst eq
      have ey : y = .non := ry
      subst ey
      refine ⟨.bl _, _, op_isN, fun Q hq => ⟨rfl, hq⟩, rfl, ?_⟩
      rw [RepT.non_iff (fun u z => hp (by rw [z]; rfl)) rx, Bool.false_xor]
      exact rep_bl
    · cases e
def SZ : Nat := 16777216
theorem catT_nil : OpR X (binaryOp .Add) (fun x y H Q => ∃ a b ys, x = .ref a ∧ y = .ref b ∧ SqT X.K H a [] ∧ SqT X.K H b ys ∧ Q (.ref b) H) := by
  intro pins s σ H x y v u Q I rx ry h
  obtain ⟨a, b, ys, rfl, rfl, ha, hb, q⟩ := h
  cases rx
  cases ry
  obtain ⟨its, r1, p1, _⟩ := I.tuple ha
  obtain ⟨its2, r2, p2, _⟩ := I.tuple hb
  cases r1
  obtain ⟨⟨cls, dd, data, sl⟩, ho, hc, n, hd⟩ := id p1
  obtain ⟨⟨cls2, dd2, data2, sl2⟩, ho2, hc2, n2, hd2⟩ := id p2
  simp only at hc hd hc2 hd2
  subst hc hd hc2 hd2
  refine concat_meets ⟨_, ho, rfl⟩ ⟨_, ho2, rfl⟩ noFill_tuple_add seq_tuple_add PySem.F.slot_tuple_add PySem.F.entry_tuple_add (PySem.F.args_tuple_add_2 _ _)
    (tuple_addW0 a b #[] its2.toArray n n2 dd dd2 sl sl2 rfl) ⟨ho, ho2, ?_⟩
  exact ⟨.ref b, H, I, rfl, q⟩
abbrev tupO (us : List Value) : Obj := { cls := .type "tuple", data := .seq us.toArray }
theorem Inv.newTup {pins : List (Addr × Obj)} {σ : St} {H : Hp} {s : Shared} {us : List Value} {xs : List V} {Q : VK} {h' : Heap} {t' : Nat} (I : L2.Inv X pins σ H s) (k : ∀ b o, s.heap.get? b = some o → h'.get? b = some o) (r : Vals xs us) (hz : xs.length ≤ sizeLine) (h : NewT xs Q H) :
    EP X pins σ Q (.ref h'.objs.size) { s with heap := h'.push (tupO us), toks := t' } := by
  have J : L2.Inv X pins σ H { s with heap := h' } := I.kept (t' := s.toks) k
  have hn : H h'.objs.size = none := J.hok.fresh (Nat.le_refl _)
  exact ⟨.ref h'.objs.size, _, J.laid (o := .frz (tupO us) (.tup xs)) (t' := t') (fun b o e => Heap.get?_push_of_some _ e) (Nat.le_refl _) ⟨Heap.get?_push_size _ rfl, hz, us, r, ⟨_, Heap.get?_push_size _ rfl, rfl, _, rfl⟩⟩, rfl, h _ _ hn rfl rfl⟩
theorem pe_tupX {es : List Expr} {k : Nat} {pos : Pos} {t : TA} (h : PA X es t) : PE X (.Tuple es k pos) (fun σ H Q => t σ H fun xs H1 => xs.length ≤ sizeLine ∧ NewT xs Q H1) := ⟨fun pins s σ H Q I hq =>
  wpAny_Tuple_spliced (thn (h.run pos pins s σ H _ I hq) fun us s1 z => match z with
    | ⟨xs, H1, J, r, hz, q⟩ => ⟨by rw [← r.length]; exact hz, Inv.newTup J (fun _ _ e => e) r hz q⟩)⟩
theorem cat_X : OpR X (binaryOp .Add) (fun x y H Q => ∃ a b xs ys, x = .ref a ∧ y = .ref b ∧ SqT X.K H a xs ∧ SqT X.K H b ys ∧ xs ≠ [] ∧ xs.length + ys.length ≤ sizeLine ∧ (ys = [] → Q (.ref a) H) ∧ (ys ≠ [] → NewT (xs ++ ys) Q H)) := by
  rintro pins s σ H x y v u Q I rx ry ⟨a, b, xs, ys, rfl, rfl, ha, hb, hx, hz, q1, q2⟩
  cases rx; cases ry
  obtain ⟨l1, r1, p1, -⟩ := I.tuple ha
  obtain ⟨l2, r2, p2, -⟩ := I.tuple hb
  have hzz : l1.length + l2.length ≤ sizeLine := by rw [← r1.length, ← r2.length]; exact hz
  exact HT.cat_tup p1 p2 (mt r1.nil_iff.mp hx) (fun z => ⟨.ref a, H, I, rfl, q1 (r2.nil_iff.mp z)⟩)
    (fun z => Inv.newTup I (fun _ _ e => e) (r1.append r2) (by rw [List.length_append]; exact hz) (q2 (mt r2.nil_iff.mpr z))) hzz
theorem cut_X : SlR X (fun x lo hi H Q => ∃ a xs, x = .ref a ∧ SqT X.K H a xs ∧ ¬ (HT.sIx xs.length 0 lo = 0 ∧ HT.sIx xs.length xs.length hi = xs.length) ∧ NewT (cutV xs lo hi) Q H) := by
  rintro pins s σ H x v vl vu lo hi sl Q I rx hs pl pu ⟨a, xs, rfl, hx, hw, q⟩
  cases rx
  obtain ⟨us, r, p, hz⟩ := I.tuple hx
  have hl : us.toArray.size = xs.length := by rw [List.size_toArray, r.length]
  refine ⟨_, _, PyProof.Rows.slot_tuple_getitem.lookup, p.typeIs, HT.getItem_tuple_cut p hs pl pu (by rw [hl]; exact hw) ?_ (by rw [hl]; exact hz)⟩
  rw [hl]
  exact Inv.newTup I (fun _ _ e => e) ((r.drop _).take _) (Nat.le_trans (cutV_length xs lo hi) hz) q
theorem tupL_X : CallR X (.type "tuple") (fun vs H Q => ∃ p ys, vs = [.ref p] ∧ SqL X.K H p ys ∧ NewT ys Q H) := by
  rintro pins s σ H vs us Q I r ⟨p, ys, rfl, hy, q⟩
  obtain ⟨u, rfl, ru⟩ := vals1 r
  cases ru
  obtain ⟨its, ri, pl, hz⟩ := I.list hy
  exact call_tuple_list pl.isList (fun h' kp => Inv.newTup I kp ri hz q) (by simp only [List.size_toArray, ← ri.length]; exact hz)
end
end Pv
set_option Elab.async false
set_option linter.all false
set_option maxRecDepth 100000
namespace Pv
open PySem PySem.Spec L2
open PyProof.Rows hiding St
section
variable {prog : Program} {w : World} {A : Around} {E : Value → Shared → Prop} {s : Shared}
theorem getItem_tuple_whole {t sl : Addr} {items : Array Value} {vl vu : Value} {lo hi : Option Int} {Q : Value → Shared → Prop} (ht : IsTup s.heap t items) (hs : s.heap.IsSliceOf sl vl vu .none) (pl : IsPart vl lo) (pu : IsPart vu hi)
    (hw : HT.sIx items.size 0 lo = 0 ∧ HT.sIx items.size items.size hi = items.size) (h : Q (.ref t) s) : wpAny (model prog w) A (getItem (.ref t) (.ref sl)) Q E s := by
  obtain ⟨os, hos, hcs, hds⟩ := id hs
  have hTs : s.TypeIs (.ref sl) "slice" := ⟨os, hos, hcs⟩
  unfold getItem
  try with_reducible refine wpAny_holding ?_
  first | refine wpAny_bind (wpAny_pure ?_) | skip
  refine wpAny_bind (wpAny_sequenceKey ht.typeIs (by decide) ?_)
  refine wpAny_bind (wpAny_callSpecial?_slot (name := Str.ofString "__getitem__") ht.typeIs PyProof.Rows.slot_tuple_getitem
    (wpAny_call_entry PyProof.Rows.slot_tuple_getitem ht.typeIs entry_tuple_getitem ?_ (args_tuple_getitem _ _)))
  show wpAny _ _ (Builtin.Tuple.tupleItemsOf (.ref t) >>= _) _ _ s
  refine wpAny_bind (tupleItemsOf_ ht ?_)
  refine wpAny_bind (wpAny_typeOf hTs ?_)
  rw [if_pos (by decide)]
  refine wpAny_bind (HT.sliceApplied_gen hs pl pu ?_)
  have hyes : ((((HT.sIx items.size 0 lo : Nat) : Int) == 0 && (1 : Int) == 1 && (HT.sIx items.size items.size hi - HT.sIx items.size 0 lo) == items.size) = true) := by
    rw [hw.1, hw.2]
    simp
  show wpAny _ _ (if (((HT.sIx items.size 0 lo : Nat) : Int) == 0 && (1 : Int) == 1 && (HT.sIx items.size items.size hi - HT.sIx items.size 0 lo) == items.size) = true then _ else _) _ _ s
  rw [if_pos hyes]
  unfold Builtin.Tuple.tupleIsExact
  refine wpAny_bind (wpAny_bind (wpAny_typeOf ht.typeIs ?_))
  refine wpAny_pure ?_
  simp only [beq_self_eq_true, if_true]
  refine wpAny_bind (wpAny_rule ?_)
  exact wpAny_pure ⟨_, rfl, wpAny_pure h⟩
end
section
variable {X : Cx}
theorem sl_tupW : SlR X (fun x lo hi H Q => ∃ a xs, x = .ref a ∧ SqT X.K H a xs ∧ (HT.sIx xs.length 0 lo = 0 ∧ HT.sIx xs.length xs.length hi = xs.length) ∧ Q (.ref a) H) := by
  intro pins s σ H x v vl vu lo hi sl Q I rx hs pl pu h
  obtain ⟨a, xs, rfl, hx, hw, q⟩ := h
  cases rx
  obtain ⟨its, r, ht, hz⟩ := I.tuple hx
  have hlen : its.toArray.size = xs.length := by rw [List.size_toArray]; exact r.length.symm
  refine ⟨"tuple", _, PyProof.Rows.slot_tuple_getitem.lookup, ht.typeIs, ?_⟩
  exact getItem_tuple_whole ht hs pl pu (by rw [hlen]; exact hw) ⟨.ref a, H, I, rfl, q⟩
end
end Pv
set_option Elab.async false
set_option linter.all false
set_option maxRecDepth 100000
namespace Pv
open PySem PySem.Spec L2
open PyProof.Rows hiding St
section
variable {X : Cx} {W : WX} {cm : CM}
def gAdd : PV → PV → Option RV
  | .int i, .int j => vI (i + j)
  | .tup ps, .tup qs => if ps.length + qs.length ≤ SZ then some (.tup (ps ++ qs), false) else none
  | .lst ps, .lst qs => if ps.length + qs.length ≤ SZ then some (.lst (ps ++ qs), true) else none
  | .str x, .str y => if x.length + y.length ≤ SZ then some (.str (x ++ y), false) else none
  | _, _ => none
theorem o_addG : OpOk X (binaryOp .Add) gAdd := .mk fun F H0 H ev σ x y p q r Q er rx ry e hq => by
  unfold gAdd at e
  split at e
  · have ex : x = .int _ := rx
    have ey : y = .int _ := ry
    subst ex ey
    cases e
    exact ⟨_, op_add, _, _, rfl, rfl, hq F _ H er.aft (rep_int (K := X.K) (F := F) (H := H))⟩
  · rename_i ps qs
    split at e
    · rename_i hz
      cases e
      have rx' : Rep X.K F H x (.tup ps) := rx
      have ry' : Rep X.K F H y (.tup qs) := ry
      unfold Rep at rx' ry'
      obtain ⟨a, xs, rfl, hx, r1⟩ := rx'
      obtain ⟨b, ys, rfl, hy, r2⟩ := ry'
      by_cases h0 : xs = []
      · subst h0
        have e0 : ps = [] := by
          cases ps with
          | nil => rfl
          | cons _ _ => have := r1.length; simp at this
        subst e0
        refine ⟨_, catT_nil, a, b, ys, rfl, rfl, hx.sqT, hy.sqT, hq F _ H er.aft ?_⟩
        show Rep X.K F H _ (.tup qs)
        unfold Rep
        exact ⟨b, ys, rfl, hy, r2⟩
      · refine ⟨_, cat_X, a, b, xs, ys, rfl, rfl, hx.sqT, hy.sqT, h0, by rw [r1.length, r2.length]; exact hz, fun z => ?_, fun z p o hp hc hd => ?_⟩
        · subst z
          have e0 : qs = [] := by
            cases qs with
            | nil => rfl
            | cons _ _ => have := r2.length; simp at this
          subst e0
          rw [List.append_nil] at hq
          refine hq F _ H er.aft ?_
          show Rep X.K F H _ (.tup ps)
          unfold Rep
          exact ⟨a, xs, rfl, hx, r1⟩
        · exact hq F _ _ (er.fresh hp) (er.newT hp hc hd (r1.append r2))
    · cases e
  · rename_i ps qs
    split at e
    · rename_i hz
      cases e
      obtain ⟨a, xs, rfl, hx, r1⟩ := rx
      obtain ⟨b, ys, rfl, hy, r2⟩ := ry
      refine ⟨_, op_cat, a, b, xs, ys, rfl, rfl, hx, hy, by rw [r1.length, r2.length]; exact hz, fun p hp => ?_⟩
      exact hq F _ _ (er.fresh hp) (er.newL (Same.refl _) hp (r1.append r2))
    · cases e
  · split at e
    · rename_i hz
      cases e
      have ex : x = .str _ := rx
      have ey : y = .str _ := ry
      subst ex ey
      exact ⟨_, op_add_str, _, _, rfl, rfl, hz, hq F _ H er.aft (rep_str (K := X.K) (F := F) (H := H))⟩
    · cases e
  · cases e
def sIxO (X : Cx) : R2 := fun x y H Q => ∀ (value slice : Expr) (pins : List (Addr × Obj)) (s : Shared) (σ : St) (v u : Value), L2.Inv X pins σ H s → L2.RelV x v → L2.RelV y u →
    subscripted slice false v u = operate [v, u] (getItem v u) → wpAny (model X.prog X.w) X.A (PyProof.Rows.subscriptTail value slice v u) (EP X pins σ Q) X.xe s
theorem sIxO_ok : IxR X (sIxO X) := fun value slice pins s σ H x y v u Q I rx ry h hs => h value slice pins s σ v u I rx ry hs
theorem sIxO_of {r : R2} {x y : V} {H : Hp} {Q : VK} (o : IxR X r) (h : r x y H Q) : sIxO X x y H Q := fun value slice pins s σ v u I rx ry hs => o value slice pins s σ H x y v u Q I rx ry h hs
def gIx : PV → PV → Option RV
  | .tup ps, .int i => (atI ps i).map fun p => (p, false)
  | .lst ps, .int i => (atI ps i).map fun p => (p, false)
  | .scr ns, .int i => (atI ns i).map fun n => (.int n, false)
  | _, _ => none
theorem RepL.atI {K : Fr} {F : FS} {H : Hp} {vs : List V} {ps : List PV} {i : Int} {p : PV} (h : RepL K F H vs ps) (e : L2.atI ps i = some p) : ∃ v, L2.atI vs i = some v ∧ Rep K F H v p := by
  unfold L2.atI at e ⊢
  rw [h.length]
  cases q : ixN ps.length i with
  | none => rw [q] at e; cases e
  | some j =>
    rw [q] at e
    exact h.get e
theorem atI_ints {ns : List Int} {i n : Int} (e : L2.atI ns i = some n) : L2.atI (ns.map V.int) i = some (.int n) := by
  unfold L2.atI at e ⊢
  rw [List.length_map]
  cases q : ixN ns.length i with
  | none => rw [q] at e; cases e
  | some j =>
    rw [q] at e
    simp only [Option.bind_some] at e ⊢
    rw [List.getElem?_map, e]; rfl
theorem res_bl {K : Fr} {F : FS} {H0 Hs H : Hp} {ev : SL} {σ : St} {b : Bool} : ResR K F H0 ev σ Hs H (.bl b, false) (.bl b) := by
  show Rep K F H _ _
  exact rep_bl
theorem res_int {K : Fr} {F : FS} {H0 Hs H : Hp} {ev : SL} {σ : St} {b : Int} : ResR K F H0 ev σ Hs H (.int b, false) (.int b) := by
  show Rep K F H _ _
  exact rep_int
theorem gIx_int {p q : PV} {r : RV} (e : gIx p q = some r) : ∃ i, q = .int i := by
  cases q with
  | int i => exact ⟨i, rfl⟩
  | _ => cases p <;> cases e
theorem ix_ok {F : FS} {H0 H : Hp} {ev : SL} {σ : St} {x y : V} {Q : VK} {i : Int} {r : RV} (ry : RepT X.K F H y (.int i)) {p : PV} (rx : RepT X.K F H x p) (e : gIx p (.int i) = some r)
    (hq : ∀ v, ResR X.K F H0 ev σ H H r v → Q v H) : sIxO X x y H Q := by
  have ey : y = .int _ := ry
  subst ey
  cases p with
  | tup ps =>
    have rx' : Rep X.K F H x (.tup ps) := rx
    unfold Rep at rx'
    obtain ⟨a, xs, rfl, hx, r1⟩ := rx'
    unfold gIx at e
    obtain ⟨p, e1, rfl⟩ := Option.map_eq_some_iff.mp e
    obtain ⟨v, e2, r2⟩ := r1.atI e1
    exact sIxO_of ix_tup ⟨a, xs, i, v, rfl, rfl, hx.sqT, e2, hq v r2⟩
  | lst ps =>
    obtain ⟨a, xs, rfl, hx, r1⟩ := rx
    unfold gIx at e
    obtain ⟨p, e1, rfl⟩ := Option.map_eq_some_iff.mp e
    obtain ⟨v, e2, r2⟩ := r1.atI e1
    exact sIxO_of ix_list ⟨a, xs, i, v, rfl, rfl, SqL.of hx, e2, hq v r2⟩
  | scr ns =>
    have rx' : Rep X.K F H x (.scr ns) := rx
    unfold Rep at rx'
    obtain ⟨a, rfl, hx⟩ := rx'
    unfold gIx at e
    obtain ⟨p, e1, rfl⟩ := Option.map_eq_some_iff.mp e
    exact sIxO_of ix_list ⟨a, _, i, _, rfl, rfl, hx.seq, atI_ints e1, hq _ res_int⟩
  | _ => cases e
theorem e_ix {a b : Expr} {ma mb : M PV} {pos : Pos} (ha : SP X W cm a ma) (hb : SP X W cm b mb) (hs : PlainIx b := by exact fun _ _ => rfl) : SE X W cm (.Subscript a b pos) (eOp gIx ma mb) := .mk' fun F H0 H ev σ Q r h => by
  refine sE_of (pe_ix sIxO_ok sE_pe sE_pe hs) ?_
  refine ha.go r (h.bnd.mono fun p ev1 F1 H1 a1 hh x rx => ?_)
  refine hb.go a1.er (hh.2.bnd.mono fun q ev2 F2 H2 a2 hh2 y ry => ?_)
  have h2 := hh2.2
  have rx2 := rx.mono a2.same a2.sub
  cases e : gIx p q with
  | none => rw [e] at h2; exact h2.elim
  | some z =>
    rw [e] at h2
    obtain ⟨i, rfl⟩ := gIx_int e
    exact ix_ok ry rx2 e fun v rv => Wt.ret a2.er h2 v (rv.later (a1.same.trans a2.same))
structure SO (X : Cx) (W : WX) (cm : CM) (e : Option Expr) (m : M (Option Int)) : Prop where
  go : ∀ {F : FS} {H0 H : Hp} {ev : SL} {σ : St} {Q : Option Int → Hp → Prop}, ER X.K F H0 ev σ H → (Wt X.K W cm F H0 ev σ H m fun o _ F' H' => Q o H') →
    ∀ (pins : List (Addr × Obj)) (s : Shared), L2.Inv X pins σ H s → wpAny (model X.prog X.w) X.A (evalPart e X.env) (fun u s' => ∃ o H', L2.Inv X pins σ H' s' ∧ IsPart u o ∧ Q o H') X.xe s
def sPO (X : Cx) (e : Option Expr) : TO := fun σ H Q => ∀ (pins : List (Addr × Obj)) (s : Shared), L2.Inv X pins σ H s → wpAny (model X.prog X.w) X.A (evalPart e X.env) (fun u s' => ∃ o H', L2.Inv X pins σ H' s' ∧ IsPart u o ∧ Q o H') X.xe s
theorem sPO_ok {e : Option Expr} : PO X e (sPO X e) := ⟨fun pins s σ H Q I h => h pins s I⟩
theorem so_none : SO X W cm none (ret none) := ⟨fun {F H0 H ev σ Q} r h pins s I => po_none.run pins s σ H Q I (Wt.ret r h)⟩
def soInt (m : M PV) : M (Option Int) := bnd m fun p => match p with
  | .int i => ret (some i)
  | _ => bad
theorem so_some {e : Expr} {m : M PV} (he : SP X W cm e m) : SO X W cm (some e) (soInt m) := ⟨fun {F H0 H ev σ Q} r h pins s I => by
  refine (po_some (sE_pe (e := e))).run pins s σ H Q I ?_
  refine he.go r (h.bnd.mono fun p ev1 F1 H1 a1 ⟨n1, h1⟩ x rx => ?_)
  cases p with
  | int i =>
    have ex : x = .int i := rx
    exact ⟨i, ex, Wt.ret (P := fun o _ _ H' => Q o H') a1.er h1⟩
  | _ => exact h1.elim⟩
def cutP {α : Type} (xs : List α) (lo hi : Option Int) : List α := (xs.drop (HT.sIx xs.length 0 lo)).take (HT.sIx xs.length xs.length hi - HT.sIx xs.length 0 lo)
def gSl (p : PV) (lo hi : Option Int) : Option RV := match p with
  | .tup ps => some (.tup (cutP ps lo hi), false)
  | .lst ps => some (.lst (cutP ps lo hi), true)
  | _ => none
def eSl (a : M PV) (lo hi : M (Option Int)) : M RV := bnd a fun p => bnd lo fun l => bnd hi fun h => opt (gSl p l h)
def sSl (X : Cx) : V → Option Int → Option Int → Hp → VK → Prop := fun x lo hi H Q => ∀ (pins : List (Addr × Obj)) (s : Shared) (σ : St) (v vl vu : Value) (sl : Addr), L2.Inv X pins σ H s → L2.RelV x v → s.heap.IsSliceOf sl vl vu .none → IsPart vl lo → IsPart vu hi →
    ∃ T id, typeLookup (.type T) "__getitem__" = pure (some (.builtin id)) ∧ s.TypeIs v T ∧ wpAny (model X.prog X.w) X.A (getItem v (.ref sl)) (EP X pins σ Q) X.xe s
theorem sSl_ok : SlR X (sSl X) := fun pins s σ H x v vl vu lo hi sl Q I rx hs pl pu h => h pins s σ v vl vu sl I rx hs pl pu
theorem sSl_of {r : V → Option Int → Option Int → Hp → VK → Prop} {x : V} {lo hi : Option Int} {H : Hp} {Q : VK} (o : SlR X r) (h : r x lo hi H Q) : sSl X x lo hi H Q := fun pins s σ v vl vu sl I rx hs pl pu => o pins s σ H x v vl vu lo hi sl Q I rx hs pl pu h
theorem RepL.cut {K : Fr} {F : FS} {H : Hp} {vs : List V} {ps : List PV} {lo hi : Option Int} (h : RepL K F H vs ps) : RepL K F H (cutV vs lo hi) (cutP ps lo hi) := by
  unfold cutV cutP
  rw [h.length]
  exact (h.drop _).take _
theorem e_sl {a : Expr} {lo hi : Option Expr} {ma : M PV} {ml mh : M (Option Int)} {pos p2 : Pos} (ha : SP X W cm a ma) (hl : SO X W cm lo ml) (hh : SO X W cm hi mh) : SE X W cm (.Subscript a (.Slice lo hi none p2) pos) (eSl ma ml mh) := .mk' fun F H0 H ev σ Q r h => by
  refine sE_of (pe_slice sSl_ok sE_pe sPO_ok sPO_ok) ?_
  refine ha.go r (h.bnd.mono fun p ev1 F1 H1 a1 ⟨n1, h1⟩ x rx => ?_)
  refine hl.go a1.er (h1.bnd.mono fun l ev2 F2 H2 a2 ⟨n2, h2⟩ => ?_)
  refine hh.go a2.er (h2.bnd.mono fun u ev3 F3 H3 a3 ⟨n3, h3⟩ => ?_)
  have rx3 := (rx.mono a2.same a2.sub).mono a3.same a3.sub
  have s3 : Same H H3 := a1.same.trans (a2.same.trans a3.same)
  cases p with
  | tup ps =>
    have rx' : Rep X.K F3 H3 x (.tup ps) := rx3
    unfold Rep at rx'
    obtain ⟨a, xs, rfl, hx, r1⟩ := rx'
    by_cases hw : HT.sIx xs.length 0 l = 0 ∧ HT.sIx xs.length xs.length u = xs.length
    · refine sSl_of sl_tupW ⟨a, xs, rfl, hx.sqT, hw, ?_⟩
      have ec : cutP ps l u = ps := by
        unfold cutP
        rw [← r1.length, hw.1, hw.2, List.drop_zero, r1.length, Nat.sub_zero, List.take_length]
      have h4 : Wt X.K W cm F3 H0 ev3 σ H3 (ret ((PV.tup ps, false) : RV)) fun r ev' F' H' => ∀ v, ResR X.K F' H0 ev' σ H H' r v → Q v H' := by
        rw [← ec]
        exact h3
      refine Wt.ret a3.er h4 _ ?_
      show Rep X.K F3 H3 _ (.tup ps)
      unfold Rep
      exact ⟨a, xs, rfl, hx, r1⟩
    · refine sSl_of cut_X ⟨a, xs, rfl, hx.sqT, hw, fun p o hp hc hd => ?_⟩
      exact h3 F3 _ (a3.er.fresh hp) _ (a3.er.newT hp hc hd r1.cut)
  | lst ps =>
    obtain ⟨a, xs, rfl, hx, r1⟩ := rx3
    refine sSl_of sl_list ⟨a, xs, rfl, SqL.of hx, fun p hp => ?_⟩
    exact h3 F3 _ (a3.er.fresh hp) _ (a3.er.newL s3 hp r1.cut)
  | _ => exact h3.elim
def truP : PV → Option Bool
  | .non => some false
  | .bl b => some b
  | .int i => some (i != 0)
  | .tup ps => some (!ps.isEmpty)
  | .lst ps => some (!ps.isEmpty)
  | _ => none
theorem RepL.isEmpty {K : Fr} {F : FS} {H : Hp} {vs : List V} {ps : List PV} (h : RepL K F H vs ps) : vs.isEmpty = ps.isEmpty := by
  cases ps with
  | nil => rw [h.nil_inv]; rfl
  | cons p ps =>
    unfold RepL at h
    obtain ⟨x, r, rfl, _⟩ := h
    rfl
theorem RepT.tru {K : Fr} {F : FS} {H : Hp} {v : V} {p : PV} {b : Bool} (h : RepT K F H v p) (e : truP p = some b) : TruV K v H b := by
  cases p <;> unfold truP at e <;> cases e
  · have h' : v = .non := h; subst h'; rfl
  · have h' : v = .bl _ := h; subst h'; rfl
  · have h' : v = .int _ := h; subst h'; rfl
  · have h' : Rep K F H v (.tup _) := h
    unfold Rep at h'
    obtain ⟨a, xs, rfl, q, r⟩ := h'
    exact .inr (.inl ⟨xs, q.sqT, by rw [r.isEmpty]⟩)
  · obtain ⟨a, xs, rfl, q, r⟩ := h
    exact .inl ⟨xs, SqL.of q, by rw [r.isEmpty]⟩
def tTru (m : M PV) : M Bool := bnd m fun p => opt (truP p)
theorem t_val {e : Expr} {m : M PV} (s : SP X W cm e m) (he : ∀ whole, PySem.isTrue e X.env whole = (do let v ← whole; standAt e.pos; holding [v] (truthy v)) := by intro _; rfl) : ST X W cm e (tTru m) := .mk' fun F H0 H ev σ Q r h => by
  refine sT_of (pt_truth sE_pe he) ?_
  refine s.go r (h.bnd.mono fun p ev1 F1 H1 a1 ⟨n1, h1⟩ x rx => ?_)
  cases e1 : truP p with
  | none => rw [e1] at h1; exact h1.elim
  | some b => rw [e1] at h1; exact ⟨b, rx.tru e1, Wt.ret (P := fun b _ _ H' => Q b H') a1.er h1⟩
def blOf (m : M RV) : M Bool := bnd m fun r => match r.1 with
  | .bl b => ret b
  | _ => bad
theorem t_cmp {op : CmpOp} {g : PV → PV → Option RV} {a b : Expr} {ma mb : M PV} {pos : Pos} (ho : OpOk X (compareOp op) g) (ha : SP X W cm a ma) (hb : SP X W cm b mb) (hm : behindInMarks op b = false := by first | exact nomark _ | rfl) : ST X W cm (.Compare a [op] [b] pos) (blOf (eOp g ma mb)) := .mk' fun F H0 H ev σ Q r h => by
  refine sT_of (pt_cmpR sOp_ok sE_pe sE_pe hm) ?_
  refine op2 ho ha hb r (h.bnd.mono fun z ev1 F1 H1 a1 ⟨n1, h1⟩ v rv => ?_)
  obtain ⟨p, fr⟩ := z
  cases p with
  | bl b =>
    have e : v = .bl b := by
      have := rv.top
      exact this
    exact ⟨b, e, Wt.ret (P := fun b _ _ H' => Q b H') a1.er h1⟩
  | _ => exact h1.elim
def eChain (g g' : PV → PV → Option RV) (a b c : M PV) : M RV := bnd a fun x => bnd b fun y => bnd (opt (g x y)) fun r => match r.1 with
  | .bl true => bnd c fun z => opt (g' y z)
  | .bl false => ret (.bl false, false)
  | _ => bad
theorem op_opt {f : Value → Value → Sem Value} {g : PV → PV → Option RV} (ho : OpOk X f g) {F : FS} {H0 H : Hp} {ev : SL} {σ : St} {x y : V} {p q : PV} {Q : VK} {P : RV → SL → FS → Hp → Prop} (r : ER X.K F H0 ev σ H) (rx : RepT X.K F H x p) (ry : RepT X.K F H y q)
    (h : Wt X.K W cm F H0 ev σ H (opt (g p q)) P) (hP : ∀ z F' H' v, Aft X.K F H0 ev ev σ H F' H' → ResR X.K F' H0 ev σ H H' z v → P z ev F' H' → Q v H') : sOp X f x y H Q := by
  cases e : g p q with
  | none => rw [e] at h; exact h.elim
  | some z =>
    rw [e] at h
    exact ho F H0 H ev σ x y p q z Q r rx ry e fun F' v H' a rr => hP z F' H' v a rr (h F' H' a)
theorem chain2 {op op' : CmpOp} {g g' : PV → PV → Option RV} {a b c : Expr} {ma mb mc : M PV} (ho : OpOk X (compareOp op) g) (ho' : OpOk X (compareOp op') g') (ha : SP X W cm a ma) (hb : SP X W cm b mb) (hc : SP X W cm c mc) {F : FS} {H0 H : Hp} {ev : SL} {σ : St} {Q : VK} (r : ER X.K F H0 ev σ H)
    (h : Wt X.K W cm F H0 ev σ H (eChain g g' ma mb mc) fun r ev' F' H' => ∀ v, ResR X.K F' H0 ev' σ H H' r v → Q v H') : tChain (sOp X (compareOp op)) (sOp X (compareOp op')) (sE X a) (sE X b) (sE X c) σ H Q := by
  refine ha.go r (h.bnd.mono fun p ev1 F1 H1 a1 ⟨n1, h1⟩ x rx => ?_)
  refine hb.go a1.er (h1.bnd.mono fun q ev2 F2 H2 a2 ⟨n2, h2⟩ y ry => ?_)
  refine op_opt ho a2.er (rx.mono a2.same a2.sub) ry h2.bnd fun z F3 H3 v a3 rz ⟨n3, h3⟩ => ?_
  obtain ⟨p', fr⟩ := z
  cases p' with
  | bl k =>
    have e : v = .bl k := rz.top
    refine ⟨k, e, ?_⟩
    cases k with
    | true =>
      refine iteT ?_
      refine hc.go a3.er (h3.bnd.mono fun w ev4 F4 H4 a4 ⟨n4, h4⟩ u ru => ?_)
      refine op_opt ho' a4.er ((ry.mono a3.same a3.sub).mono a4.same a4.sub) ru h4 fun z F5 H5 v a5 rz hp => ?_
      exact hp v (rz.later (a1.same.trans (a2.same.trans (a3.same.trans a4.same))))
    | false => exact iteF (Wt.ret a3.er h3 _ res_bl)
  | _ => exact h3.elim
theorem e_chain {op op' : CmpOp} {g g' : PV → PV → Option RV} {a b c : Expr} {ma mb mc : M PV} {pos : Pos} (ho : OpOk X (compareOp op) g) (ho' : OpOk X (compareOp op') g') (ha : SP X W cm a ma) (hb : SP X W cm b mb) (hc : SP X W cm c mc)
    (hm : lastMarks [op, op'] [b, c] = false := by with_unfolding_all rfl) : SE X W cm (.Compare a [op, op'] [b, c] pos) (eChain g g' ma mb mc) := .mk' fun F H0 H ev σ Q r h =>
  sE_of (pe_chain sOp_ok sOp_ok sE_pe sE_pe sE_pe hm) (chain2 ho ho' ha hb hc r h)
def mNot (m : M Bool) : M Bool := bnd m fun b => ret (!b)
theorem t_not {a : Expr} {m : M Bool} {pos : Pos} (s : ST X W cm a m) : ST X W cm (.UnaryOp .Not a pos) (mNot m) := .mk' fun F H0 H ev σ Q r h => by
  refine sT_of (pt_not sT_pt) ?_
  exact s.go r (h.bnd.mono fun b ev1 F1 H1 a1 ⟨n1, h1⟩ => Wt.ret (P := fun b _ _ H' => Q b H') a1.er h1)
def sW (X : Cx) (e : Expr) : TT := fun σ H Q => ∀ (whole : Sem Value) (pins : List (Addr × Obj)) (s : Shared), L2.Inv X pins σ H s → wpAny (model X.prog X.w) X.A (PySem.isTrue e X.env whole) (TP X pins σ Q) X.xe s
theorem sW_pw {e : Expr} : PW X e (sW X e) := ⟨fun wh pins s σ H Q I h => h wh pins s I⟩
theorem sW_of {e : Expr} {t : TT} {σ : St} {H : Hp} {Q : Bool → Hp → Prop} (p : PW X e t) (h : t σ H Q) : sW X e σ H Q := fun wh pins s I => p.run wh pins s σ H Q I h
structure SW (X : Cx) (W : WX) (cm : CM) (e : Expr) (m : M Bool) : Prop where
  go : ∀ {F : FS} {H0 H : Hp} {ev : SL} {σ : St} {Q : Bool → Hp → Prop}, ER X.K F H0 ev σ H → (Wt X.K W cm F H0 ev σ H m fun b _ _ H' => Q b H') → sW X e σ H Q
theorem t_w {e : Expr} {m : M Bool} (s : SW X W cm e m) : ST X W cm e m := .mk' fun F H0 H ev σ Q r h => sT_of (PW.pt sW_pw) (s.go r h)
def mAnd (a b : M Bool) : M Bool := bnd a fun x => if x then b else ret false
def mOr (a b : M Bool) : M Bool := bnd a fun x => if x then ret true else b
theorem w_one {a : Expr} {m : M Bool} {pos : Pos} (s : ST X W cm a m) : SW X W cm (.BoolOp .And [a] pos) m := ⟨fun {F H0 H ev σ Q} r h => sW_of (pw_and1 sT_pt) (s.go r h)⟩
theorem w_oneO {a : Expr} {m : M Bool} {pos : Pos} (s : ST X W cm a m) : SW X W cm (.BoolOp .Or [a] pos) m := ⟨fun {F H0 H ev σ Q} r h => sW_of (pw_or1 sT_pt) (s.go r h)⟩
theorem w_and {a b : Expr} {rest : List Expr} {ma mb : M Bool} {pos : Pos} (s : ST X W cm a ma) (u : SW X W cm (.BoolOp .And (b :: rest) pos) mb) : SW X W cm (.BoolOp .And (a :: b :: rest) pos) (mAnd ma mb) := ⟨fun {F H0 H ev σ Q} r h => by
  refine sW_of (pw_and sT_pt sW_pw) ?_
  refine s.go r (h.bnd.mono fun k ev1 F1 H1 a1 ⟨n1, h1⟩ => ?_)
  cases k with
  | true => exact iteT (u.go a1.er h1)
  | false => exact iteF (Wt.ret (P := fun b _ _ H' => Q b H') a1.er h1)⟩
theorem w_or {a b : Expr} {rest : List Expr} {ma mb : M Bool} {pos : Pos} (s : ST X W cm a ma) (u : SW X W cm (.BoolOp .Or (b :: rest) pos) mb) : SW X W cm (.BoolOp .Or (a :: b :: rest) pos) (mOr ma mb) := ⟨fun {F H0 H ev σ Q} r h => by
  refine sW_of (pw_or sT_pt sW_pw) ?_
  refine s.go r (h.bnd.mono fun k ev1 F1 H1 a1 ⟨n1, h1⟩ => ?_)
  cases k with
  | true => exact iteT (Wt.ret (P := fun b _ _ H' => Q b H') a1.er h1)
  | false => exact iteF (u.go a1.er h1)⟩
def vAnd (a b : M RV) : M RV := bnd a fun r => match r.1 with
  | .bl true => b
  | .bl false => ret (.bl false, false)
  | _ => bad
def vOr (a b : M RV) : M RV := bnd a fun r => match r.1 with
  | .bl true => ret (.bl true, false)
  | .bl false => b
  | _ => bad
def vNot (a : M RV) : M RV := bnd a fun r => match r.1 with
  | .bl b => ret (.bl (!b), false)
  | _ => bad
theorem e_one {op : BoolOp} {a : Expr} {m : M RV} {pos : Pos} (s : SE X W cm a m) : SE X W cm (.BoolOp op [a] pos) m := .mk' fun F H0 H ev σ Q r h => sE_of (pe_one sE_pe) (s.go r h)
theorem e_and {a b : Expr} {rest : List Expr} {ma mb : M RV} {pos : Pos} (s : SE X W cm a ma) (u : SE X W cm (.BoolOp .And (b :: rest) pos) mb) : SE X W cm (.BoolOp .And (a :: b :: rest) pos) (vAnd ma mb) := .mk' fun F H0 H ev σ Q r h => by
  refine sE_of (pe_and sE_pe sE_pe) ?_
  refine s.go r (h.bnd.mono fun z ev1 F1 H1 a1 ⟨n1, h1⟩ v rv => ?_)
  obtain ⟨p, fr⟩ := z
  cases p with
  | bl k =>
    refine ⟨k, rv.top, ?_⟩
    cases k with
    | true => exact iteT (u.go a1.er (h1.mono fun z ev2 F2 H2 a2 hp v rv => hp v (rv.later a1.same)))
    | false => exact iteF (Wt.ret a1.er h1 _ res_bl)
  | _ => exact h1.elim
theorem e_or {a b : Expr} {rest : List Expr} {ma mb : M RV} {pos : Pos} (s : SE X W cm a ma) (u : SE X W cm (.BoolOp .Or (b :: rest) pos) mb) : SE X W cm (.BoolOp .Or (a :: b :: rest) pos) (vOr ma mb) := .mk' fun F H0 H ev σ Q r h => by
  refine sE_of (pe_or sE_pe sE_pe) ?_
  refine s.go r (h.bnd.mono fun z ev1 F1 H1 a1 ⟨n1, h1⟩ v rv => ?_)
  obtain ⟨p, fr⟩ := z
  cases p with
  | bl k =>
    refine ⟨k, rv.top, ?_⟩
    cases k with
    | true => exact iteT (Wt.ret a1.er h1 _ res_bl)
    | false => exact iteF (u.go a1.er (h1.mono fun z ev2 F2 H2 a2 hp v rv => hp v (rv.later a1.same)))
  | _ => exact h1.elim
theorem e_not {a : Expr} {m : M RV} {pos : Pos} (s : SE X W cm a m) : SE X W cm (.UnaryOp .Not a pos) (vNot m) := .mk' fun F H0 H ev σ Q r h => by
  refine sE_of (pe_not sE_pe) ?_
  refine s.go r (h.bnd.mono fun z ev1 F1 H1 a1 ⟨n1, h1⟩ v rv => ?_)
  obtain ⟨p, fr⟩ := z
  cases p with
  | bl k => exact ⟨k, rv.top, Wt.ret a1.er h1 _ res_bl⟩
  | _ => exact h1.elim
def vNeg (a : M PV) : M RV := bnd a fun p => match p with
  | .int i => ret (.int (-i), false)
  | _ => bad
def mIf (c : M Bool) (a b : M RV) : M RV := bnd c fun k => if k then a else b
theorem e_if {c a b : Expr} {mc : M Bool} {ma mb : M RV} {pos : Pos} (sc : ST X W cm c mc) (sa : SE X W cm a ma) (sb : SE X W cm b mb) : SE X W cm (.IfExp c a b pos) (mIf mc ma mb) := .mk' fun F H0 H ev σ Q r h => by
  refine sE_of (pe_ifExp sT_pt sE_pe sE_pe) ?_
  refine sc.go r (h.bnd.mono fun k ev1 F1 H1 a1 ⟨n1, h1⟩ => ?_)
  cases k with
  | true => exact iteT (sa.go a1.er (h1.mono fun z ev2 F2 H2 a2 hp v rv => hp v (rv.later a1.same)))
  | false => exact iteF (sb.go a1.er (h1.mono fun z ev2 F2 H2 a2 hp v rv => hp v (rv.later a1.same)))
def sA (X : Cx) (es : List Expr) : TA := fun σ H Q => ∀ (pos : Pos) (pins : List (Addr × Obj)) (s : Shared), L2.Inv X pins σ H s → wpAny (model X.prog X.w) X.A (spliced (backTo pos (starEach es X.env))) (AP X pins σ Q) X.xe s
theorem sA_pa {es : List Expr} : PA X es (sA X es) := ⟨fun pos pins s σ H Q I h => h pos pins s I⟩
theorem sA_of {es : List Expr} {t : TA} {σ : St} {H : Hp} {Q : List V → Hp → Prop} (p : PA X es t) (h : t σ H Q) : sA X es σ H Q := fun pos pins s I => p.run pos pins s σ H Q I h
structure SA (X : Cx) (W : WX) (cm : CM) (es : List Expr) (m : M (List PV)) : Prop where
  go : ∀ {F : FS} {H0 H : Hp} {ev : SL} {σ : St} {Q : List V → Hp → Prop}, ER X.K F H0 ev σ H → (Wt X.K W cm F H0 ev σ H m fun ps ev' F' H' => ∀ F2 vs, Aft X.K F H0 ev ev' σ H F2 H' → RepL X.K F2 H' vs ps → Q vs H') → sA X es σ H Q
theorem a_nil : SA X W cm [] (ret []) := ⟨fun {F H0 H ev σ Q} r h => sA_of pa_nil (Wt.ret (P := fun ps ev' F' H' => ∀ F2 vs, Aft X.K F H0 ev ev' σ H F2 H' → RepL X.K F2 H' vs ps → Q vs H') r h F [] r.aft RepL.nil)⟩
def aCons (a : M RV) (r : M (List PV)) : M (List PV) := bnd a fun x => bnd r fun ps => ret (x.1 :: ps)
theorem a_cons {e : Expr} {es : List Expr} {m : M RV} {ms : M (List PV)} (s : SE X W cm e m) (u : SA X W cm es ms) (hs : starEach (e :: es) X.env = (false, eval e X.env) :: starEach es X.env := by rfl) : SA X W cm (e :: es) (aCons m ms) := ⟨fun {F H0 H ev σ Q} r h => by
  refine sA_of (pa_cons sE_pe sA_pa hs) ?_
  refine s.go r ?_
  unfold Wt at h ⊢
  unfold aCons Pv.bnd at h
  cases e1 : m ev with
  | bad => simp only [e1] at h
  | exc c ev1 => simp only [e1] at h; exact h
  | ok z ev1 =>
    simp only [e1] at h
    intro F1 H1 a1 v rv
    obtain ⟨G, aG, rG, _⟩ := rv.share a1
    refine u.go aG.er ?_
    unfold Wt
    cases e2 : ms ev1 with
    | bad => simp only [e2] at h
    | exc c ev2 => simp only [e2] at h; exact fun F2 H2 a2 => h F2 H2 (aG.trans a2)
    | ok ps ev2 =>
      simp only [e2, Pv.ret] at h
      intro F2 H2 a2 F3 vs a3 rs
      exact h F2 H2 (aG.trans a2) F3 (v :: vs) (aG.trans a3) (RepL.cons (rG.mono (.of a3.same) a3.sub) rs)⟩
def mTup (m : M (List PV)) : M RV := bnd m fun ps => if ps.length ≤ SZ then ret (.tup ps, false) else bad
def mLst (m : M (List PV)) : M RV := bnd m fun ps => if ps.length ≤ SZ then ret (.lst ps, true) else bad
theorem e_tup {es : List Expr} {k : Nat} {m : M (List PV)} {pos : Pos} (s : SA X W cm es m) : SE X W cm (.Tuple es k pos) (mTup m) := .mk' fun F H0 H ev σ Q r h => by
  refine sE_of (pe_tupX sA_pa) ?_
  refine s.go r ?_
  unfold Wt at h ⊢
  unfold mTup Pv.bnd at h
  cases e1 : m ev with
  | bad => simp only [e1] at h
  | exc c ev1 => simp only [e1] at h; exact h
  | ok ps ev1 =>
    simp only [e1] at h
    intro F1 H1 _ F2 vs a2 rs
    by_cases hz : ps.length ≤ SZ
    · rw [if_pos hz] at h
      refine ⟨by rw [rs.length]; exact hz, fun p o hp hc hd => ?_⟩
      exact h F2 _ (a2.trans (a2.er.fresh hp)) _ (a2.er.newT hp hc hd rs)
    · rw [if_neg hz] at h
      exact h.elim
theorem e_lst {es : List Expr} {m : M (List PV)} {pos : Pos} (s : SA X W cm es m) : SE X W cm (.List es pos) (mLst m) := .mk' fun F H0 H ev σ Q r h => by
  refine sE_of (pe_lst sA_pa) ?_
  refine s.go r ?_
  unfold Wt at h ⊢
  unfold mLst Pv.bnd at h
  cases e1 : m ev with
  | bad => simp only [e1] at h
  | exc c ev1 => simp only [e1] at h; exact h
  | ok ps ev1 =>
    simp only [e1] at h
    intro F1 H1 _ F2 vs a2 rs
    by_cases hz : ps.length ≤ SZ
    · rw [if_pos hz] at h
      refine ⟨by rw [rs.length]; exact hz, fun p hp => ?_⟩
      exact h F2 _ (a2.trans (a2.er.fresh hp)) _ (a2.er.newL a2.same hp rs)
    · rw [if_neg hz] at h
      exact h.elim
end
end Pv
set_option Elab.async false
set_option linter.all false
set_option maxRecDepth 100000
set_option maxHeartbeats 1000000
namespace SrtO
open PySem PyProof.Rows Srt
section
variable {prog : Program} {w : World} {A : Around} {E : Value → Shared → Prop} {s : Shared}
theorem collect_sq {l : Addr} {vs : List Value} {o : Obj} {n : Nat} {T : String} {Q : List Value → Shared → Prop} (hT : T = "list" ∨ T = "tuple") (ho : s.heap.get? l = some o) (hc : o.cls = .type T) (hd : o.data = .seq vs.toArray n)
    (h : Q vs { s with heap := (s.heap.push (seqObj "list" #[] 0)).update s.heap.objs.size (Obj.mapSeq (· ++ vs.toArray)) }) (hsz : vs.length ≤ sizeLine) :
    wpAny (model prog w) A (collect (.ref l)) Q E s := by
  unfold collect
  refine wpAny_bind (wpAny_runValue (codeAny_builtin entry_proto_collect' ?_))
  show wpAny _ _ (do again (.builtin "list.__iadd__" ⟨[← newList [], .ref l], []⟩)) _ _ s
  refine wpAny_bind (wpAny_newList (wpAny_pure ⟨Code.quiet_builtin _ (by decide +kernel), codeAny_builtin entry_list_iadd' ?_⟩))
  show wpAny _ _ (Builtin.List.listExtendWith (.ref s.heap.objs.size) (.ref l) (.ref s.heap.objs.size)) _ _ { s with heap := s.heap.push (seqObj "list" #[] 0) }
  unfold Builtin.List.listExtendWith
  have ho' : (s.heap.push (seqObj "list" #[] 0)).get? l = some o := Heap.get?_push_of_some _ ho
  refine wpAny_bind (wpAny_typeOf (T := T) ⟨o, ho', hc⟩ ?_)
  have ht : (Builtin.List.listSameRef (.ref s.heap.objs.size) (.ref l) || Value.type T == Value.type "list" || Value.type T == Value.type "tuple") = true := by
    rcases hT with rfl | rfl <;> simp
  rw [if_pos ht]
  refine wpAny_bind (listItems_at ho' hd ?_)
  refine wpAny_bind (listItems_at (xs := #[]) (n := 0) (Heap.get?_push_size _ rfl) rfl ?_)
  rw [if_neg (by simp)]
  refine wpAny_bind (listUpdate_at (xs := #[]) (n := 0) (Heap.get?_push_size _ rfl) rfl ?_ (Nat.zero_le _) (by show (#[] ++ vs.toArray).size ≤ sizeLine + 1; simp only [Array.size_append, List.size_toArray, List.length_nil]; omega))
  refine wpAny_pure ?_
  show wpAny (model prog w) A (do
      let o ← load s.heap.objs.size
      match o.data with
      | .seq xs _ => pure xs.toList
      | _ => unsupported "internal:collect") Q E { s with heap := (s.heap.push (seqObj "list" #[] 0)).update s.heap.objs.size (Obj.mapSeq (· ++ vs.toArray)) }
  refine wpAny_bind (wpAny_load (get?_update_seq (Heap.get?_push_size _ rfl) _) ?_)
  show wpAny _ _ (pure ((#[] : Array Value) ++ vs.toArray).toList) Q E _
  rw [show ((#[] : Array Value) ++ vs.toArray).toList = vs by simp]
  exact wpAny_pure h
theorem sorted_ordT {l : Addr} {vs : List Value} {ltv : Value → Value → Bool} {Q : Value → Shared → Prop} (O : Swo ltv) (hl : IsTup s.heap l vs.toArray) (hz : vs.length ≤ sizeLine)
    (hS : 2 ≤ vs.length → ∀ (h₁ : Heap) (a : Addr), h₁.get? a = some (seqObj "list" vs.toArray 0) → (∀ b o, s.heap.get? b = some o → b ≠ a ∧ h₁.get? b = some o) → SortableO prog w A.in1.in1 { s with heap := h₁ } a vs ltv)
    (h : ∀ out : List Value, Srtd ltv out → Stb ltv out vs → Q (.ref (s.heap.objs.size + 1)) { s with heap := sortedAll s.heap vs out.toArray }) :
    wpAny (model prog w) A (call (.builtin "sorted") [.ref l]) Q E s := by
  refine Calls.call_function_entry kind_sorted plain_sorted entry_sorted (args_sorted1 _) ?_
  unfold Builtin.«sorted»
  refine wpAny_bind (m := checkCount "sorted" 1 1 _) (wpAny_pure ?_)
  obtain ⟨o, ho, hc, n, hd⟩ := hl
  refine wpAny_bind (collect_sq (.inr rfl) ho hc hd ?_ hz)
  refine wpAny_bind (wpAny_newList ?_ hz)
  have hsz : ((s.heap.push (seqObj "list" #[] 0)).update s.heap.objs.size (Obj.mapSeq (· ++ vs.toArray))).objs.size = s.heap.objs.size + 1 := by
    rw [Heap.size_update, size_push']
  have hoL : (((s.heap.push (seqObj "list" #[] 0)).update s.heap.objs.size (Obj.mapSeq (· ++ vs.toArray))).push (seqObj "list" vs.toArray 0)).get? (s.heap.objs.size + 1) = some (seqObj "list" vs.toArray 0) := by
    rw [← hsz]; exact Heap.get?_push_size _ rfl
  have keep : ∀ b o, s.heap.get? b = some o → b ≠ s.heap.objs.size + 1 ∧ (((s.heap.push (seqObj "list" #[] 0)).update s.heap.objs.size (Obj.mapSeq (· ++ vs.toArray))).push (seqObj "list" vs.toArray 0)).get? b = some o := fun b o q => by
    have hlt : b < s.heap.objs.size := Heap.lt_size q
    refine ⟨Nat.ne_of_lt (Nat.lt_succ_of_lt hlt), Heap.get?_push_of_some _ ?_⟩
    rw [Heap.get?_update_ne _ _ _ _ (Nat.ne_of_lt hlt)]
    exact Heap.get?_push_of_some _ q
  show wpAny _ _ _ _ _ { s with heap := ((s.heap.push (seqObj "list" #[] 0)).update s.heap.objs.size (Obj.mapSeq (· ++ vs.toArray))).push (seqObj "list" vs.toArray 0) }
  rw [hsz]
  refine wpAny_bind (wpAny_holding (wpAny_call_entry slot_list_sort ⟨_, hoL, rfl⟩ entry_list_sort (list_sort_ord O hoL hz (fun h2 => hS h2 _ _ hoL keep) fun out hs hb => ⟨_, rfl, ?_⟩) (args_list_sort _)))
  exact wpAny_pure ⟨_, rfl, h out hs hb⟩
end
end SrtO
namespace Pv
open PySem PySem.Spec L2
open PyProof.Rows hiding St
def ins (i : Int) : List Int → List Int
  | [] => [i]
  | j :: r => if i ≤ j then i :: j :: r else j :: ins i r
def isort : List Int → List Int
  | [] => []
  | i :: r => ins i (isort r)
theorem ins_perm (i : Int) : ∀ l : List Int, (ins i l).Perm (i :: l)
  | [] => .refl _
  | j :: r => by
    unfold ins
    split
    · exact .refl _
    · exact ((ins_perm i r).cons j).trans (.swap i j r)
theorem isort_perm : ∀ l : List Int, (isort l).Perm l
  | [] => .refl _
  | i :: r => (ins_perm i (isort r)).trans ((isort_perm r).cons i)
theorem ins_sorted (i : Int) : ∀ {l : List Int}, l.Pairwise (· ≤ ·) → (ins i l).Pairwise (· ≤ ·)
  | [], _ => by unfold ins; simp
  | j :: r, h => by
    obtain ⟨h1, h2⟩ := List.pairwise_cons.mp h
    unfold ins
    split
    · rename_i c
      refine List.pairwise_cons.mpr ⟨fun x hx => ?_, h⟩
      rcases List.mem_cons.mp hx with rfl | hx
      · exact c
      · have := h1 x hx; omega
    · rename_i c
      refine List.pairwise_cons.mpr ⟨fun x hx => ?_, ins_sorted i h2⟩
      rcases List.mem_cons.mp ((ins_perm i r).mem_iff.mp hx) with rfl | hx
      · omega
      · exact h1 x hx
theorem isort_sorted : ∀ l : List Int, (isort l).Pairwise (· ≤ ·)
  | [] => .nil
  | i :: r => ins_sorted i (isort_sorted r)
theorem sorted_uniq : ∀ {l m : List Int}, l.Perm m → l.Pairwise (· ≤ ·) → m.Pairwise (· ≤ ·) → l = m
  | [], m, p, _, _ => (List.nil_perm.mp p).symm
  | x :: l, [], p, _, _ => by have := p.length_eq; simp at this
  | x :: l, y :: m, p, hl, hm => by
    obtain ⟨a1, a2⟩ := List.pairwise_cons.mp hl
    obtain ⟨b1, b2⟩ := List.pairwise_cons.mp hm
    have e : x = y := by
      have h1 : x ∈ y :: m := p.mem_iff.mp List.mem_cons_self
      have h2 : y ∈ x :: l := p.mem_iff.mpr List.mem_cons_self
      have c1 : y ≤ x := by
        rcases List.mem_cons.mp h1 with e | h
        · omega
        · exact b1 x h
      have c2 : x ≤ y := by
        rcases List.mem_cons.mp h2 with e | h
        · omega
        · exact a1 y h
      omega
    subst e
    rw [sorted_uniq (List.Perm.cons_inv p) a2 b2]
theorem isort_of {l m : List Int} (p : m.Perm l) (h : m.Pairwise (· ≤ ·)) : m = isort l := sorted_uniq (p.trans (isort_perm l).symm) h (isort_sorted l)
section
variable {X : Cx}
theorem cr_sortedTI : CallR X (.builtin "sorted") (fun vs H Q => ∃ (a : Addr) (ns : List Int), vs = [V.ref a] ∧ SqT X.K H a (ns.map V.int) ∧
    ∀ (ns' : List Int) (p : Addr), ns'.Perm ns → ns'.Pairwise (· ≤ ·) → H p = none → Q (.ref p) (upd H p (.lst (ns'.map V.int)))) := by
  intro pins s σ H vs us Q I r h
  obtain ⟨a, ns, rfl, hs, q⟩ := h
  obtain ⟨its, rv, hl, hz⟩ := I.tuple hs
  rw [Vals.ref1 r]
  have hi := rv.ints
  refine SrtO.sorted_ordT SrtO.swo_int hl (by rw [← rv.length]; exact hz) (fun h2 h₁ a' _ _ => SrtO.ints_sortable hi h2) fun out h1 h2 => ?_
  obtain ⟨k1, k2, k3⟩ := SrtO.ints_out hi h1 h2
  obtain ⟨ep, he'⟩ := PyProof.Rows.sortedAll_at s.heap its out.toArray
  have hlen : ((out.map SrtO.iv).map V.int).length ≤ sizeLine := by
    rw [List.length_map, k2.length_eq]
    rw [List.length_map] at hz
    exact hz
  exact ⟨.ref _, upd H (s.heap.objs.size + 1) (.lst ((out.map SrtO.iv).map V.int)), I.laid (t' := s.toks) (fun _ _ => PyProof.Rows.sortedAll_old) (Nat.le_succ _) ⟨hlen, out, ep, vals_of_ints k1, he'⟩, rfl, q _ _ k2 k3 (I.hok.fresh (Nat.le_succ _))⟩
end
section
variable {X : Cx} {W : WX} {cm : CM}
def RepTL (K : Fr) (F : FS) (H : Hp) : List V → List PV → Prop
  | [], [] => True
  | v :: vs, p :: ps => RepT K F H v p ∧ RepTL K F H vs ps
  | _, _ => False
structure SK (X : Cx) (W : WX) (cm : CM) (es : List Expr) (m : M (List PV)) : Prop where
  go : ∀ {F : FS} {H0 H : Hp} {ev : SL} {σ : St} {Q : List V → Hp → Prop}, ER X.K F H0 ev σ H → (Wt X.K W cm F H0 ev σ H m fun ps ev' F' H' => ∀ vs, RepTL X.K F' H' vs ps → Q vs H') → sA X es σ H Q
theorem k_nil : SK X W cm [] (ret []) := ⟨fun {F H0 H ev σ Q} r h => sA_of pa_nil (Wt.ret (P := fun ps ev' F' H' => ∀ vs, RepTL X.K F' H' vs ps → Q vs H') r h [] trivial)⟩
def kCons (a : M PV) (r : M (List PV)) : M (List PV) := bnd a fun x => bnd r fun ps => ret (x :: ps)
theorem k_cons {e : Expr} {es : List Expr} {m : M PV} {ms : M (List PV)} (s : SP X W cm e m) (u : SK X W cm es ms) (hs : starEach (e :: es) X.env = (false, eval e X.env) :: starEach es X.env := by rfl) : SK X W cm (e :: es) (kCons m ms) := ⟨fun {F H0 H ev σ Q} r h => by
  refine sA_of (pa_cons sE_pe sA_pa hs) ?_
  refine s.go r (h.bnd.mono fun p ev1 F1 H1 a1 hh v rv => ?_)
  refine u.go a1.er (hh.2.bnd.mono fun ps ev2 F2 H2 a2 hh2 vs rs => ?_)
  exact Wt.ret (P := fun ps ev' F' H' => ∀ vs, RepTL X.K F' H' vs ps → Q vs H') a2.er hh2.2 (v :: vs) ⟨rv.mono a2.same a2.sub, rs⟩⟩
def sCl (X : Cx) (f : Value) : List V → Hp → VK → Prop := fun xs H Q => ∀ (pins : List (Addr × Obj)) (s : Shared) (σ : St) (us : List Value), L2.Inv X pins σ H s → Vals xs us → wpAny (model X.prog X.w) X.A (call f us) (EP X pins σ Q) X.xe s
theorem sCl_ok {f : Value} : CallR X f (sCl X f) := fun pins s σ H xs us Q I r h => h pins s σ us I r
theorem sCl_of {f : Value} {r : List V → Hp → VK → Prop} {xs : List V} {H : Hp} {Q : VK} (o : CallR X f r) (h : r xs H Q) : sCl X f xs H Q := fun pins s σ us I rv => o pins s σ H xs us Q I rv h
def CallOk (X : Cx) (f : Value) (g : List PV → Option RV) : Prop := ∀ (F : FS) (H0 H : Hp) (ev : SL) (σ : St) (vs : List V) (ps : List PV) (r : RV) (Q : VK), ER X.K F H0 ev σ H → RepTL X.K F H vs ps → g ps = some r →
  (∀ F' v H', Aft X.K F H0 ev ev σ H F' H' → ResR X.K F' H0 ev σ H H' r v → Q v H') → sCl X f vs H Q
def eCall (g : List PV → Option RV) (a : M (List PV)) : M RV := bnd a fun ps => opt (g ps)
theorem call2 {f : Value} {g : List PV → Option RV} (ho : CallOk X f g) {es : List Expr} {ma : M (List PV)} (ha : SK X W cm es ma) {F : FS} {H0 H : Hp} {ev : SL} {σ : St} {Q : VK} (r : ER X.K F H0 ev σ H)
    (h : Wt X.K W cm F H0 ev σ H (eCall g ma) fun r ev' F' H' => ∀ v, ResR X.K F' H0 ev' σ H H' r v → Q v H') : tCB (sCl X f) (sA X es) σ H Q := by
  refine ha.go r (h.bnd.mono fun ps ev1 F1 H1 a1 hh vs rs => ?_)
  have h2 := hh.2
  cases e : g ps with
  | none => rw [e] at h2; exact h2.elim
  | some z =>
    rw [e] at h2
    exact ho F1 H0 H1 ev1 σ vs ps z Q a1.er rs e fun F' v H' a3 rr => h2 F' H' a3 v (rr.later a1.same)
theorem e_callB {id : String} {x : Str} {p pos : Pos} {e : Expr} {es : List Expr} {g : List PV → Option RV} {ma : M (List PV)} (hc : CallOk X (.builtin id) g) (hm : X.mg x = none) (hv : bootBuiltins x = some (.builtin id)) (ha : SK X W cm (e :: es) ma) (hg : Gl X x := by rfl) (hn : x ≠ "__name__" := by decide) (hdb : (x == ("__debug__" : Str)) = false := by decide)
    (he : starEach (e :: es) X.env = (false, eval e X.env) :: starEach es X.env := by rfl) (hpl : (backTo pos (starEach es X.env)).any (·.1) = false := by rfl) : SE X W cm (.Call (.Name x p) (e :: es) [] pos) (eCall g ma) := .mk' fun F H0 H ev σ Q r h =>
  sE_of (pe_callB sCl_ok hg hm hv sA_pa hn hdb he hpl) (call2 hc ha r h)
theorem e_callTy {T : String} {x : Str} {p pos : Pos} {e : Expr} {es : List Expr} {g : List PV → Option RV} {ma : M (List PV)} (hc : CallOk X (.type T) g) (hm : X.mg x = none) (hv : bootBuiltins x = some (.type T)) (ha : SK X W cm (e :: es) ma) (hg : Gl X x := by rfl) (hn : x ≠ "__name__" := by decide) (hdb : (x == ("__debug__" : Str)) = false := by decide)
    (he : starEach (e :: es) X.env = (false, eval e X.env) :: starEach es X.env := by rfl) (hpl : (backTo pos (starEach es X.env)).any (·.1) = false := by rfl) : SE X W cm (.Call (.Name x p) (e :: es) [] pos) (eCall g ma) := .mk' fun F H0 H ev σ Q r h =>
  sE_of (pe_callTy sCl_ok hg hm hv sA_pa hn hdb he hpl) (call2 hc ha r h)
theorem RepTL.one {K : Fr} {F : FS} {H : Hp} {vs : List V} {p : PV} (h : RepTL K F H vs [p]) : ∃ v, vs = [v] ∧ RepT K F H v p := by
  cases vs with
  | nil => exact h.elim
  | cons v vs =>
    cases vs with
    | nil => exact ⟨v, rfl, h.1⟩
    | cons _ _ => exact h.2.elim
theorem RepTL.two {K : Fr} {F : FS} {H : Hp} {vs : List V} {p q : PV} (h : RepTL K F H vs [p, q]) : ∃ v w, vs = [v, w] ∧ RepT K F H v p ∧ RepT K F H w q := by
  cases vs with
  | nil => exact h.elim
  | cons v vs =>
    obtain ⟨w, rfl, h2⟩ := RepTL.one h.2
    exact ⟨v, w, rfl, h.1, h2⟩
def gLen : List PV → Option RV
  | [p] => match items p with
    | some ps => vI ps.length
    | none => match p with
      | .str x => if x.length ≤ SZ then vI x.length else none
      | _ => none
  | _ => none
theorem c_len : CallOk X (.builtin "len") gLen := fun F H0 H ev σ vs ps r Q er rs e hq => by
  unfold gLen at e
  split at e
  · rename_i p
    obtain ⟨v, rfl, rv⟩ := rs.one
    split at e
    · rename_i ps hi
      cases e
      obtain ⟨a, xs, rfl, hs, rl⟩ := rv.items hi
      refine sCl_of call_len_seq ⟨a, xs, rfl, hs, hq F _ H er.aft ?_⟩
      rw [rl.length]
      exact res_int
    · split at e
      · split at e
        · rename_i hz
          cases e
          have ex : v = .str _ := rv
          subst ex
          exact sCl_of call_len_str ⟨_, rfl, hz, hq F _ H er.aft res_int⟩
        · cases e
      · cases e
  · cases e
def gList : List PV → Option RV
  | [p] => match items p with
    | some ps => some (.lst ps, true)
    | none => none
  | _ => none
theorem c_list : CallOk X (.type "list") gList := fun F H0 H ev σ vs ps r Q er rs e hq => by
  unfold gList at e
  split at e
  · rename_i p
    obtain ⟨v, rfl, rv⟩ := rs.one
    split at e
    · rename_i ps hi
      cases e
      obtain ⟨a, xs, rfl, hs, rl⟩ := rv.items hi
      exact sCl_of call_list_of ⟨a, xs, rfl, hs, fun l hl => hq F _ _ (er.fresh hl) (er.newL (Same.refl _) hl rl)⟩
    · cases e
  · cases e
def gTuple : List PV → Option RV
  | [.tup ps] => some (.tup ps, false)
  | [.lst ps] => some (.tup ps, false)
  | _ => none
theorem c_tuple : CallOk X (.type "tuple") gTuple := fun F H0 H ev σ vs ps r Q er rs e hq => by
  unfold gTuple at e
  split at e
  · rename_i ps
    obtain ⟨v, rfl, rv⟩ := rs.one
    cases e
    have rv' : Rep X.K F H v (.tup ps) := rv
    unfold Rep at rv'
    obtain ⟨a, xs, rfl, hx, rl⟩ := rv'
    refine sCl_of call_tuple_of ⟨a, xs, rfl, .inr ⟨hx.sqT, hq F _ H er.aft ?_⟩⟩
    exact rv
  · rename_i ps
    obtain ⟨v, rfl, rv⟩ := rs.one
    cases e
    obtain ⟨a, xs, rfl, hx, rl⟩ := rv
    exact sCl_of tupL_X ⟨a, xs, rfl, SqL.of hx, fun l o hl hc hd => hq F _ _ (er.fresh hl) (er.newT hl hc hd rl)⟩
  · cases e
def gInt : List PV → Option RV
  | [.int i] => vI i
  | [.bl b] => vI (if b then 1 else 0)
  | _ => none
theorem c_int : CallOk X (.type "int") gInt := fun F H0 H ev σ vs ps r Q er rs e hq => by
  unfold gInt at e
  split at e
  · obtain ⟨v, rfl, rv⟩ := rs.one
    cases e
    have ex : v = .int _ := rv
    subst ex
    exact sCl_of call_int1 (.inl ⟨_, rfl, hq F _ H er.aft res_int⟩)
  · obtain ⟨v, rfl, rv⟩ := rs.one
    cases e
    have ex : v = .bl _ := rv
    subst ex
    exact sCl_of call_int1 (.inr ⟨_, rfl, hq F _ H er.aft res_int⟩)
  · cases e
def intsP : List PV → Option (List Int)
  | [] => some []
  | .int i :: ps => (intsP ps).map (i :: ·)
  | _ => none
theorem intsP_eq : ∀ {ps : List PV} {ns : List Int}, intsP ps = some ns → ps = ns.map .int
  | [], ns, e => by unfold intsP at e; cases e; rfl
  | .int i :: ps, ns, e => by
    unfold intsP at e
    obtain ⟨ms, e1, rfl⟩ := Option.map_eq_some_iff.mp e
    rw [intsP_eq e1]; rfl
  | .non :: _, _, e => by unfold intsP at e; cases e
  | .bl _ :: _, _, e => by unfold intsP at e; cases e
  | .str _ :: _, _, e => by unfold intsP at e; cases e
  | .tup _ :: _, _, e => by unfold intsP at e; cases e
  | .lst _ :: _, _, e => by unfold intsP at e; cases e
  | .opq _ :: _, _, e => by unfold intsP at e; cases e
  | .scr _ :: _, _, e => by unfold intsP at e; cases e
  | .itm _ :: _, _, e => by unfold intsP at e; cases e
theorem intsP_map : ∀ ns : List Int, intsP (ns.map .int) = some ns
  | [] => rfl
  | n :: ns => by rw [List.map_cons]; unfold intsP; rw [intsP_map ns]; rfl
def lmin : Int → List Int → Int
  | m, [] => m
  | m, i :: r => lmin (if i < m then i else m) r
def lmax : Int → List Int → Int
  | m, [] => m
  | m, i :: r => lmax (if i > m then i else m) r
theorem lmin_le : ∀ (r : List Int) (m : Int), lmin m r ≤ m ∧ (∀ y ∈ r, lmin m r ≤ y) ∧ (lmin m r = m ∨ lmin m r ∈ r)
  | [], m => ⟨Int.le_refl _, fun _ h => absurd h (by simp), Or.inl rfl⟩
  | i :: r, m => by
    unfold lmin
    obtain ⟨h1, h2, h3⟩ := lmin_le r (if i < m then i else m)
    by_cases c : i < m
    · rw [if_pos c] at h1 h2 h3 ⊢
      refine ⟨by omega, fun y hy => ?_, ?_⟩
      · rcases List.mem_cons.mp hy with rfl | hy
        · exact h1
        · exact h2 y hy
      · rcases h3 with h3 | h3
        · exact .inr (by rw [h3]; exact List.mem_cons_self)
        · exact .inr (List.mem_cons_of_mem _ h3)
    · rw [if_neg c] at h1 h2 h3 ⊢
      refine ⟨h1, fun y hy => ?_, ?_⟩
      · rcases List.mem_cons.mp hy with rfl | hy
        · omega
        · exact h2 y hy
      · rcases h3 with h3 | h3
        · exact .inl h3
        · exact .inr (List.mem_cons_of_mem _ h3)
theorem lmax_le : ∀ (r : List Int) (m : Int), m ≤ lmax m r ∧ (∀ y ∈ r, y ≤ lmax m r) ∧ (lmax m r = m ∨ lmax m r ∈ r)
  | [], m => ⟨Int.le_refl _, fun _ h => absurd h (by simp), Or.inl rfl⟩
  | i :: r, m => by
    unfold lmax
    obtain ⟨h1, h2, h3⟩ := lmax_le r (if i > m then i else m)
    by_cases c : i > m
    · rw [if_pos c] at h1 h2 h3 ⊢
      refine ⟨by omega, fun y hy => ?_, ?_⟩
      · rcases List.mem_cons.mp hy with rfl | hy
        · exact h1
        · exact h2 y hy
      · rcases h3 with h3 | h3
        · exact .inr (by rw [h3]; exact List.mem_cons_self)
        · exact .inr (List.mem_cons_of_mem _ h3)
    · rw [if_neg c] at h1 h2 h3 ⊢
      refine ⟨h1, fun y hy => ?_, ?_⟩
      · rcases List.mem_cons.mp hy with rfl | hy
        · omega
        · exact h2 y hy
      · rcases h3 with h3 | h3
        · exact .inl h3
        · exact .inr (List.mem_cons_of_mem _ h3)
def gMax : List PV → Option RV
  | [.int i, .int j] => vI (if j > i then j else i)
  | [.lst ps] => match intsP ps with
    | some (m :: r) => vI (lmax m r)
    | _ => none
  | _ => none
theorem c_max (hc : X.calm = true) : CallOk X (.builtin "max") gMax := fun F H0 H ev σ vs ps r Q er rs e hq => by
  unfold gMax at e
  split at e
  · obtain ⟨v, w, rfl, rv, rw'⟩ := rs.two
    cases e
    have ex : v = .int _ := rv
    have ey : w = .int _ := rw'
    subst ex ey
    exact sCl_of (call_max2 hc) ⟨_, _, rfl, hq F _ H er.aft res_int⟩
  · obtain ⟨v, rfl, rv⟩ := rs.one
    split at e
    · rename_i m r hi
      cases e
      obtain ⟨a, xs, rfl, hx, rl⟩ := rv
      rw [intsP_eq hi] at rl
      have ex := rl.ints
      subst ex
      refine sCl_of (cr_max hc) ⟨a, m :: r, rfl, SqL.of hx, by simp, fun z hz hle => ?_⟩
      obtain ⟨h1, h2, h3⟩ := lmax_le r m
      have e1 : z = lmax m r := by
        have k1 : lmax m r ∈ m :: r := by
          rcases h3 with h3 | h3
          · rw [h3]; exact List.mem_cons_self
          · exact List.mem_cons_of_mem _ h3
        have k2 := hle _ k1
        have k3 : z ≤ lmax m r := by
          rcases List.mem_cons.mp hz with rfl | hz
          · exact h1
          · exact h2 z hz
        omega
      rw [e1]
      exact hq F _ H er.aft res_int
    · cases e
  · cases e
def gSorted : List PV → Option RV
  | [.lst ps] => (intsP ps).map fun ns => (.lst ((isort ns).map .int), true)
  | [.tup ps] => (intsP ps).map fun ns => (.lst ((isort ns).map .int), true)
  | _ => none
theorem c_sorted : CallOk X (.builtin "sorted") gSorted := fun F H0 H ev σ vs ps r Q er rs e hq => by
  unfold gSorted at e
  split at e
  · obtain ⟨v, rfl, rv⟩ := rs.one
    obtain ⟨ns, hi, rfl⟩ := Option.map_eq_some_iff.mp e
    obtain ⟨a, xs, rfl, hx, rl⟩ := rv
    rw [intsP_eq hi] at rl
    have ex := rl.ints
    subst ex
    refine sCl_of cr_sortedI ⟨a, ns, rfl, SqL.of hx, fun ns' p h1 h2 hp => ?_⟩
    rw [isort_of h1 h2]
    exact hq F _ _ (er.fresh hp) (er.newL (Same.refl _) hp (RepL.of_ints _))
  · rename_i ps
    obtain ⟨v, rfl, rv⟩ := rs.one
    obtain ⟨ns, hi, rfl⟩ := Option.map_eq_some_iff.mp e
    have rv' : Rep X.K F H v (.tup ps) := rv
    unfold Rep at rv'
    obtain ⟨a, xs, rfl, hx, rl⟩ := rv'
    rw [intsP_eq hi] at rl
    have ex := rl.ints
    subst ex
    refine sCl_of cr_sortedTI ⟨a, ns, rfl, hx.sqT, fun ns' p h1 h2 hp => ?_⟩
    rw [isort_of h1 h2]
    exact hq F _ _ (er.fresh hp) (er.newL (Same.refl _) hp (RepL.of_ints _))
  · cases e
end
end Pv
set_option Elab.async false
set_option linter.all false
set_option maxRecDepth 100000
namespace Pv
open PySem PySem.Spec L2
open PyProof.Rows hiding St
inductive Rf where
  | ok (r : RV) | exc (c : Str) | bad
abbrev Fn := List PV → Rf
def spP (K : Fr) (cm : CM) (f : Fn) : Sp := fun vs H Q E => ∃ (F : FS) (ps : List PV), (∀ a, F a → H a ≠ none) ∧ RepL K F H vs ps ∧ match f ps with
  | .ok r => ∀ F' v H', Same H H' → (∀ a, F a → F' a) → (∀ a, F' a → F a ∨ H a = none) → (∀ a, F' a → H' a ≠ none) → ResR K F' H [] [] H H' r v → Q v H'
  | .exc c => ∀ H', Same H H' → E (cm c) none H'
  | .bad => False
structure Cal (P : Program) (w : World) (K : Fr) (mg : Str → Option Value) (base : Heap) (cm : CM) (k : Nat) (x : Str) (f : Fn) : Prop where
  ex : ∃ (fa : Addr) (fd : FuncData) (ps : List Str), FnOk P w K mg base (L2.CX P w) k fa fd ps (spP K cm f) ∧ mg x = some (.ref fa) ∧ PySem.W.keepIn K (.ref fa) = true ∧ Binds K fd ps []
theorem Cal.mono {P : Program} {w : World} {K : Fr} {mg : Str → Option Value} {base : Heap} {cm : CM} {k j : Nat} {x : Str} {f : Fn} (c : Cal P w K mg base cm k x f) (h : k ≤ j) : Cal P w K mg base cm j x f := by
  obtain ⟨fa, fd, ps, a, b⟩ := c.ex
  exact ⟨fa, fd, ps, a.mono h, b⟩
theorem Cal.imp {P : Program} {w : World} {K : Fr} {mg : Str → Option Value} {base : Heap} {cm : CM} {k : Nat} {x : Str} {f g : Fn} (c : Cal P w K mg base cm k x f) (h : ∀ ps, g ps ≠ .bad → f ps = g ps) : Cal P w K mg base cm k x g := by
  obtain ⟨fa, fd, ps, a, b⟩ := c.ex
  refine ⟨fa, fd, ps, a.imp fun vs H Q E q => ?_, b⟩
  obtain ⟨F, qs, h1, h2, h4⟩ := q
  refine ⟨F, qs, h1, h2, ?_⟩
  have hb : g qs ≠ .bad := fun z => by rw [z] at h4; exact h4
  rw [h qs hb]
  exact h4
def eFn (f : Fn) (m : M (List PV)) : M RV := fun ev => match m ev with
  | .ok ps ev' => match f ps with
    | .ok r => .ok r ev'
    | .exc c => .exc c ev'
    | .bad => .bad
  | .exc c ev' => .exc c ev'
  | .bad => .bad
section
variable {X : Cx} {W : WX} {cm : CM}
theorem ER.after {K : Fr} {F F' : FS} {H0 H H' : Hp} {ev : SL} {σ : St} (r : ER K F H0 ev σ H) (s : Same H H') (h1 : ∀ a, F a → F' a) (h2 : ∀ a, F' a → F a ∨ H a = none) (h3 : ∀ a, F' a → H' a ≠ none) : Aft K F H0 ev ev σ H F' H' :=
  ⟨h1, fun a h => (h2 a h).imp_right .inl, s, (r.later s).more h1 h3 (fun a o f => by
    obtain ⟨n1, n2, xs, e, _⟩ := r.ow o
    rcases h2 a f with h | h
    · exact n1 h
    · rw [e] at h; cases h), fun _ h => h⟩
theorem ResR.own {K : Fr} {F F' : FS} {H0 H H' H1 : Hp} {ev : SL} {σ : St} {r : RV} {v : V} (er : ER K F H0 ev σ H) (q : ResR K F' H1 [] [] H H' r v) : ResR K F' H0 ev σ H H' r v := by
  obtain ⟨p, fr⟩ := r
  cases fr with
  | false => exact q
  | true =>
    obtain ⟨a, xs, ps, e1, e2, e3, e4, e5, e6, _⟩ := q
    refine ⟨a, xs, ps, e1, e2, e3, e4, e5, e6, fun o => ?_⟩
    obtain ⟨_, _, ys, e, _⟩ := er.ow o
    rw [e6] at e; cases e
theorem e_call {k : Nat} {x : Str} {p pos : Pos} {e : Expr} {es : List Expr} {f : Fn} {ma : M (List PV)} (c : Cal X.prog X.w X.K X.mg X.base cm k x f) (hr : Room k X.A) (tk : Takes X W) (ha : SA X W cm (e :: es) ma) (hg : Gl X x := by rfl)
    (hdb : (x == ("__debug__" : Str)) = false := by decide)
    (he : starEach (e :: es) X.env = (false, eval e X.env) :: starEach es X.env := by rfl) (hpl : (backTo pos (starEach es X.env)).any (·.1) = false := by rfl) :
    SE X W cm (.Call (.Name x p) (e :: es) [] pos) (eFn f ma) := .mk' fun F H0 H ev σ Q r h => by
  obtain ⟨fa, fd, ps, FO, hm, hk, hb⟩ := c.ex
  refine sE_of (pe_callS (E := fun σ => L2.WE W σ) FO hr hg hm hk hb (fun σ => passAt tk σ) sA_pa hdb he hpl) ?_
  refine ha.go r ?_
  unfold Wt at h ⊢
  unfold eFn at h
  cases e1 : ma ev with
  | bad => simp only [e1] at h
  | exc c ev1 => simp only [e1] at h; exact h
  | ok qs ev1 =>
    simp only [e1] at h
    intro F1 H1 _ F2 vs a2 rs
    refine ⟨F2, qs, a2.er.dom, rs, ?_⟩
    cases e2 : f qs with
    | ok z =>
      simp only [e2] at h
      intro F' v H' s h1 h2 h3 q
      have a3 := a2.er.after s h1 h2 h3
      exact h F' H' (a2.trans a3) v ((ResR.own a2.er q).later a2.same)
    | exc c =>
      simp only [e2] at h
      intro H' s
      exact h F2 H' (a2.trans (a2.er.step s))
    | bad => simp only [e2] at h
end
end Pv
set_option Elab.async false
set_option linter.all false
set_option maxRecDepth 100000
namespace Pv
open PySem PySem.Spec L2
open PyProof.Rows hiding St
inductive Fl where
  | nx | rt (r : RV) | bk | ct
structure BS (K : Fr) (F0 F : FS) (H0 : Hp) (ev : SL) (σ : St) (H : Hp) : Prop where
  er : ER K F H0 ev σ H
  sub : ∀ a, F0 a → F a
  base : ∀ a, F a → F0 a ∨ H0 a = none
structure AS (K : Fr) (F0 F : FS) (H0 H : Hp) (F' : FS) (ev' : SL) (σ' : St) (H' : Hp) : Prop where
  bs : BS K F0 F' H0 ev' σ' H'
  sub : ∀ a, F a → F' a
  keep : Keep F H H'
section
variable {K : Fr} {F0 F F1 F2 : FS} {H0 H H1 H2 : Hp} {ev ev1 ev2 : SL} {σ σ1 σ2 : St}
theorem Keep.trans (a : Keep F H H1) (s : ∀ a, F a → F1 a) (b : Keep F1 H1 H2) : Keep F H H2 :=
  ⟨fun x xs h => b.tup _ _ (a.tup _ _ h), fun x o u h => b.frz _ _ _ (a.frz _ _ _ h), fun x o f h => b.lst _ _ (s _ f) (a.lst _ _ f h)⟩
theorem AS.trans (a : AS K F0 F H0 H F1 ev1 σ1 H1) (b : AS K F0 F1 H0 H1 F2 ev2 σ2 H2) : AS K F0 F H0 H F2 ev2 σ2 H2 :=
  ⟨b.bs, fun x h => b.sub x (a.sub x h), a.keep.trans a.sub b.keep⟩
theorem BS.as (b : BS K F0 F H0 ev σ H) : AS K F0 F H0 H F ev σ H := ⟨b, fun _ h => h, .refl⟩
theorem BS.aft (b : BS K F0 F H0 ev σ H) (a : Aft K F H0 ev ev1 σ H F1 H1) : AS K F0 F H0 H F1 ev1 σ H1 :=
  ⟨⟨a.er, fun x h => a.sub x (b.sub x h), fun x h => by
    rcases a.grow x h with h | h | h
    · exact b.base x h
    · exact .inr (b.er.same.free h)
    · exact .inr (b.er.ow h).2.1⟩, a.sub, .of a.same⟩
end
def RetR (K : Fr) (F0 : FS) (H0 H' : Hp) (r : RV) (v : V) : Prop := ∃ F', (∀ a, F0 a → F' a) ∧ (∀ a, F' a → F0 a ∨ H0 a = none) ∧ (∀ a, F' a → H' a ≠ none) ∧ Same H0 H' ∧ ResR K F' H0 [] [] H0 H' r v
def Ws (K : Fr) (W : WX) (cm : CM) (F0 F : FS) (H0 : Hp) (D : Ends) (ev : SL) (σ : St) (H : Hp) (m : M Fl) : Prop := match m ev with
  | .ok .nx ev' => ∀ F' σ' H', AS K F0 F H0 H F' ev' σ' H' → D.nx σ' H'
  | .ok .bk ev' => ∀ F' σ' H', AS K F0 F H0 H F' ev' σ' H' → D.bk σ' H'
  | .ok .ct ev' => ∀ F' σ' H', AS K F0 F H0 H F' ev' σ' H' → D.ct σ' H'
  | .ok (.rt r) _ => ∀ v H', RetR K F0 H0 H' r v → D.rt v H'
  | .exc c ev' => ∀ F' σ' H', AS K F0 F H0 H F' ev' σ' H' → W (cm c) none σ' H'
  | .bad => False
theorem Ws.from {K : Fr} {W : WX} {cm : CM} {F0 F F1 : FS} {H0 H H1 : Hp} {D : Ends} {ev ev1 : SL} {σ σ1 : St} {m m1 : M Fl} (a : AS K F0 F H0 H F1 ev1 σ1 H1) (e : m ev = m1 ev1) (h : Ws K W cm F0 F H0 D ev σ H m) : Ws K W cm F0 F1 H0 D ev1 σ1 H1 m1 := by
  unfold Ws at h ⊢
  rw [e] at h
  cases q : m1 ev1 with
  | ok f ev' =>
    cases f with
    | nx => rw [q] at h; exact fun F' σ' H' b => h F' σ' H' (a.trans b)
    | bk => rw [q] at h; exact fun F' σ' H' b => h F' σ' H' (a.trans b)
    | ct => rw [q] at h; exact fun F' σ' H' b => h F' σ' H' (a.trans b)
    | rt r => rw [q] at h; exact h
  | exc c ev' => rw [q] at h; exact fun F' σ' H' b => h F' σ' H' (a.trans b)
  | bad => rw [q] at h; exact h
def sS (X : Cx) (st : Stmt) : TS := fun D σ H => ∀ (pins : List (Addr × Obj)) (s : Shared), L2.Inv X pins σ H s → wpAny (model X.prog X.w) X.A (exec st X.env) (L2.SP X pins D) X.xe s
def sSs (X : Cx) (st : List Stmt) : TS := fun D σ H => ∀ (pins : List (Addr × Obj)) (s : Shared), L2.Inv X pins σ H s → wpAny (model X.prog X.w) X.A (execs st X.env) (L2.SP X pins D) X.xe s
theorem sS_ps {X : Cx} {st : Stmt} : PS X st (sS X st) := ⟨fun pins s σ H D I h => h pins s I⟩
theorem sSs_ps {X : Cx} {st : List Stmt} : PSs X st (sSs X st) := ⟨fun pins s σ H D I h => h pins s I⟩
theorem sS_of {X : Cx} {st : Stmt} {t : TS} {D : Ends} {σ : St} {H : Hp} (p : PS X st t) (h : t D σ H) : sS X st D σ H := fun pins s I => p.run pins s σ H D I h
theorem sSs_of {X : Cx} {st : List Stmt} {t : TS} {D : Ends} {σ : St} {H : Hp} (p : PSs X st t) (h : t D σ H) : sSs X st D σ H := fun pins s I => p.run pins s σ H D I h
structure SS (X : Cx) (W : WX) (cm : CM) (st : Stmt) (m : M Fl) : Prop where
  go : ∀ {F0 F : FS} {H0 H : Hp} {ev : SL} {σ : St} {D : Ends}, BS X.K F0 F H0 ev σ H → Ws X.K W cm F0 F H0 D ev σ H m → sS X st D σ H
structure SB (X : Cx) (W : WX) (cm : CM) (st : List Stmt) (m : M Fl) : Prop where
  go : ∀ {F0 F : FS} {H0 H : Hp} {ev : SL} {σ : St} {D : Ends}, BS X.K F0 F H0 ev σ H → Ws X.K W cm F0 F H0 D ev σ H m → sSs X st D σ H
section
variable {X : Cx} {W : WX} {cm : CM}
theorem Ws.expr {K : Fr} {F0 F : FS} {H0 H : Hp} {D : Ends} {ev : SL} {σ : St} {α : Type} {m : M α} {k : α → M Fl} (b : BS K F0 F H0 ev σ H) (h : Ws K W cm F0 F H0 D ev σ H (bnd m k)) :
    Wt K W cm F H0 ev σ H m fun a ev1 F1 H1 => Aft K F H0 ev ev1 σ H F1 H1 ∧ Ws K W cm F0 F1 H0 D ev1 σ H1 (k a) := by
  unfold Ws Pv.bnd at h
  unfold Wt
  cases e : m ev with
  | ok r ev' =>
    simp only [e] at h
    exact fun F' H' a => ⟨a, Ws.from (σ := σ) (m := fun _ => k r ev') (ev := ev) (b.aft a) rfl (by unfold Ws; exact h)⟩
  | exc c ev' => simp only [e] at h; exact fun F' H' a => h F' σ H' (b.aft a)
  | bad => simp only [e] at h
theorem Ws.nx {K : Fr} {F0 F : FS} {H0 H : Hp} {D : Ends} {ev : SL} {σ : St} {m : M Fl} {ev' : SL} {F' : FS} {σ' : St} {H' : Hp} (h : Ws K W cm F0 F H0 D ev σ H m) (e : m ev = .ok .nx ev') (a : AS K F0 F H0 H F' ev' σ' H') : D.nx σ' H' := by
  unfold Ws at h
  rw [e] at h
  exact h F' σ' H' a
theorem Ws.not_bad {K : Fr} {F0 F : FS} {H0 H : Hp} {D : Ends} {ev : SL} {σ : St} {m : M Fl} (h : Ws K W cm F0 F H0 D ev σ H m) : m ev ≠ .bad := fun e => by
  unfold Ws at h
  rw [e] at h
  exact h
def sq (a b : M Fl) : M Fl := fun ev => match a ev with
  | .ok .nx ev' => b ev'
  | r => r
theorem b_nil : SB X W cm [] (ret .nx) := ⟨fun {F0 F H0 H ev σ D} b h => sSs_of pss_nil (h.nx rfl b.as)⟩
theorem b_cons {st : Stmt} {rest : List Stmt} {m ms : M Fl} (s : SS X W cm st m) (u : SB X W cm rest ms) : SB X W cm (st :: rest) (sq m ms) := ⟨fun {F0 F H0 H ev σ D} b h => by
  refine sSs_of (pss_cons sS_ps sSs_ps) ?_
  show sS X st { D with nx := sSs X rest D } σ H
  refine s.go b ?_
  unfold Ws at h ⊢
  unfold sq at h
  cases e : m ev with
  | ok f ev' =>
    cases f with
    | nx =>
      simp only [e] at h
      exact fun F' σ' H' a => u.go a.bs (Ws.from (σ := σ) (m := fun _ => ms ev') (ev := ev) a rfl (by unfold Ws; exact h))
    | bk => simp only [e] at h; exact h
    | ct => simp only [e] at h; exact h
    | rt r => simp only [e] at h; exact h
  | exc c ev' => simp only [e] at h; exact h
  | bad => simp only [e] at h⟩
theorem s_break {pos : Pos} : SS X W cm (.Break pos) (ret .bk) := ⟨fun {F0 F H0 H ev σ D} b h => sS_of ps_break (by unfold Ws Pv.ret at h; exact h F σ H b.as)⟩
theorem s_expr {e : Expr} {m : M RV} {pos : Pos} (s : SE X W cm e m) (hs : swapsWith e none pos.line X.env = pure false := by rfl) : SS X W cm (.Expr e pos) (bnd m fun _ => ret .nx) := ⟨fun {F0 F H0 H ev σ D} b h => by
  refine sS_of (ps_expr sE_pe hs) ?_
  exact s.go b.er ((h.expr b).mono fun r ev1 F1 H1 a hh v rv => hh.2.nx rfl ((b.aft a).bs.as))⟩
def mRet (r : RV) : M Fl := fun ev => .ok (.rt r) ev
theorem Ws.rt {K : Fr} {F0 F : FS} {H0 H : Hp} {D : Ends} {ev : SL} {σ : St} {m : M Fl} {ev' : SL} {r : RV} {v : V} {H' : Hp} (h : Ws K W cm F0 F H0 D ev σ H m) (e : m ev = .ok (.rt r) ev') (a : RetR K F0 H0 H' r v) : D.rt v H' := by
  unfold Ws at h
  rw [e] at h
  exact h v H' a
theorem BS.ret {K : Fr} {F0 F : FS} {H0 H : Hp} {ev : SL} {σ : St} {r : RV} {v : V} {Hs : Hp} (b : BS K F0 F H0 ev σ H) (s : Same H0 Hs) (q : ResR K F H0 ev σ Hs H r v) : RetR K F0 H0 H r v := by
  refine ⟨F, b.sub, b.base, b.er.dom, b.er.same, ?_⟩
  obtain ⟨p, fr⟩ := r
  cases fr with
  | false => exact q
  | true =>
    obtain ⟨a, xs, ps, e1, e2, e3, e4, e5, e6, e7⟩ := q
    exact ⟨a, xs, ps, e1, e2, e3, e4, e5, s.free e6, fun ⟨i, qs, z, _⟩ => by simp at z⟩
theorem s_ret {e : Expr} {m : M RV} {pos : Pos} (s : SE X W cm e m) : SS X W cm (.Return (some e) pos) (bnd m mRet) := ⟨fun {F0 F H0 H ev σ D} b h => by
  refine sS_of (ps_ret sE_pe) ?_
  exact s.go b.er ((h.expr b).mono fun r ev1 F1 H1 a hh v rv => hh.2.rt rfl ((b.aft a).bs.ret b.er.same rv))⟩
def mRetV (i : Nat) : M Fl := fun ev => match ev[i]? with
  | some (.own ps) => .ok (.rt (.lst ps, true)) ev
  | some (.val p) => .ok (.rt (p, false)) ev
  | some (.dow ks ps) => .ok (.rt (.dct ks ps, false)) (ev.set i (.val (.dct ks ps)))
  | _ => .bad
theorem s_retV {i : Nat} {x : Str} {p pos : Pos} (hN : X.N[i]? = some x := by rfl) (hv : Vis X.env.scope x := by first | exact Or.inl rfl | exact Or.inr (Or.inl rfl) | exact Or.inr (Or.inr rfl)) (hd : (x == ("__debug__" : Str)) = false := by decide)
    (hcd : (x == ("__classdict__" : Str)) = false := by decide) : SS X W cm (.Return (some (.Name x p)) pos) (mRetV i) := ⟨fun {F0 F H0 H ev σ D} b h => by
  refine sS_of (ps_ret (pe_var hN hv hd hcd)) ?_
  unfold Ws mRetV at h
  cases e : ev[i]? with
  | none => simp only [e] at h
  | some sl =>
    cases sl with
    | no => simp only [e] at h
    | val q =>
      simp only [e] at h
      obtain ⟨o, e1, v, rfl, rq⟩ := b.er.slot i _ e
      exact ⟨v, e1, h v H (b.ret (Hs := H0) (Same.refl _) (r := (q, false)) rq)⟩
    | own ps =>
      simp only [e] at h
      obtain ⟨o, e1, a, xs, rfl, e2, rq, nf, e3⟩ := b.er.slot i _ e
      refine ⟨_, e1, h _ H ⟨F, b.sub, b.base, b.er.dom, b.er.same, a, xs, ps, rfl, rfl, e2, rq, nf, e3, fun ⟨i, qs, z, _⟩ => by simp at z⟩⟩
    | dow ks ps =>
      simp only [e] at h
      obtain ⟨o, e1, a, xs, rfl, e2, rq, nf, e3⟩ := b.er.slot i _ e
      obtain ⟨a1, a2⟩ := b.er.freezeD e e1
      exact ⟨_, e1, h _ H ((b.aft a1).bs.ret (Hs := H0) (Same.refl _) (r := (.dct ks ps, false)) a2)⟩⟩
def mIfS (c : M Bool) (a b : M Fl) : M Fl := bnd c fun k => if k then a else b
theorem s_if {c : Expr} {a b : List Stmt} {mc : M Bool} {ma mb : M Fl} {pos : Pos} (sc : ST X W cm c mc) (sa : SB X W cm a ma) (sb : SB X W cm b mb) : SS X W cm (.If c a b pos) (mIfS mc ma mb) := ⟨fun {F0 F H0 H ev σ D} b h => by
  refine sS_of (ps_if sT_pt sSs_ps sSs_ps) ?_
  refine sc.go b.er ((h.expr b).mono fun k ev1 F1 H1 a hh => ?_)
  cases k with
  | true => exact iteT (sa.go (b.aft a).bs hh.2)
  | false => exact iteF (sb.go (b.aft a).bs hh.2)⟩
def setR (i : Nat) (r : RV) : M Fl := fun ev => if i < ev.length then .ok .nx (ev.set i (match r with
  | (.lst ps, true) => .own ps
  | (p, _) => .val p)) else .bad
theorem ER.store {K : Fr} {F : FS} {H0 H : Hp} {ev : SL} {σ : St} {i : Nat} {v : V} {p : PV} (r : ER K F H0 ev σ H) (hi : i < ev.length) (q : Rep K F H v p) : ER K F H0 (ev.set i (.val p)) (σ.set i (some v)) H where
  len := by rw [List.length_set, List.length_set]; exact r.len
  slot := fun j sl e => by
    by_cases hj : i = j
    · subst hj
      rw [List.getElem?_set_self hi] at e
      cases e
      exact ⟨some v, List.getElem?_set_self (by rw [← r.len]; exact hi), v, rfl, q⟩
    · rw [List.getElem?_set_ne hj] at e ⊢
      exact r.slot j sl e
  inj := fun j k a ps qs e1 e2 s1 s2 => by
    have nj : i ≠ j := fun z => by
      subst z
      rw [List.getElem?_set_self hi] at e1; obtain ⟨z1, z2⟩ := e1; cases z1; cases z2
    have nk : i ≠ k := fun z => by
      subst z
      rw [List.getElem?_set_self hi] at e2; obtain ⟨z1, z2⟩ := e2; cases z1; cases z2
    rw [List.getElem?_set_ne nj] at e1 s1
    rw [List.getElem?_set_ne nk] at e2 s2
    exact r.inj j k a ps qs e1 e2 s1 s2
  dom := r.dom
  same := r.same
theorem ER.storeG {K : Fr} {F : FS} {H0 H : Hp} {ev : SL} {σ : St} {i : Nat} {a : Addr} {q0 : Slot} (r : ER K F H0 ev σ H) (hi : i < ev.length) (hq : SlotR K F H0 H q0 (some (.ref a))) (e5 : ¬ Ow ev σ a) :
    ER K F H0 (ev.set i q0) (σ.set i (some (.ref a))) H where
  len := by rw [List.length_set, List.length_set]; exact r.len
  slot := fun j sl e => by
    by_cases hj : i = j
    · subst hj
      rw [List.getElem?_set_self hi] at e
      cases e
      exact ⟨_, List.getElem?_set_self (by rw [← r.len]; exact hi), hq⟩
    · rw [List.getElem?_set_ne hj] at e ⊢
      exact r.slot j sl e
  inj := fun j k b qs rs f1 f2 s1 s2 => by
    have hiσ : i < σ.length := by rw [← r.len]; exact hi
    by_cases hj : i = j
    · by_cases hk : i = k
      · omega
      · subst hj
        rw [List.getElem?_set_self hiσ] at s1
        cases s1
        rw [List.getElem?_set_ne hk] at f2 s2
        exact absurd ⟨k, rs, f2, s2⟩ e5
    · rw [List.getElem?_set_ne hj] at f1 s1
      by_cases hk : i = k
      · subst hk
        rw [List.getElem?_set_self hiσ] at s2
        cases s2
        exact absurd ⟨j, qs, f1, s1⟩ e5
      · rw [List.getElem?_set_ne hk] at f2 s2
        exact r.inj j k b qs rs f1 f2 s1 s2
  dom := r.dom
  same := r.same
theorem ER.storeO {K : Fr} {F : FS} {H0 H : Hp} {ev : SL} {σ : St} {i : Nat} {a : Addr} {xs : List V} {ps : List PV} (r : ER K F H0 ev σ H) (hi : i < ev.length) (e1 : H a = some (.lst xs)) (e2 : RepL K F H xs ps) (e3 : ¬ F a) (e4 : H0 a = none) (e5 : ¬ Ow ev σ a) :
    ER K F H0 (ev.set i (.own ps)) (σ.set i (some (.ref a))) H := r.storeG hi ⟨a, xs, rfl, e1, e2, e3, e4⟩ e5
theorem BS.set {K : Fr} {F0 F : FS} {H0 H Hs : Hp} {ev : SL} {σ : St} {i : Nat} {r : RV} {v : V} {ev' : SL} (b : BS K F0 F H0 ev σ H) (s : Same H0 Hs) (q : ResR K F H0 ev σ Hs H r v) (e : setR i r ev = .ok .nx ev') : AS K F0 F H0 H F ev' (σ.set i (some v)) H := by
  unfold setR at e
  split at e
  · rename_i hi
    cases e
    refine ⟨⟨?_, b.sub, b.base⟩, fun _ h => h, .refl⟩
    obtain ⟨p, fr⟩ := r
    cases fr with
    | false =>
      have q' : Rep K F H v p := q
      cases p <;> exact b.er.store hi q'
    | true =>
      obtain ⟨a, xs, ps, rfl, rfl, e3, e4, e5, e6, e7⟩ := q
      exact b.er.storeO hi e3 e4 e5 (s.free e6) e7
  · cases e
theorem setR_nx {i : Nat} {r : RV} {ev : SL} (h : setR i r ev ≠ .bad) : ∃ ev', setR i r ev = .ok .nx ev' := by
  unfold setR at h ⊢
  split
  · exact ⟨_, rfl⟩
  · rename_i hi
    rw [if_neg hi] at h
    exact absurd rfl h
theorem s_set {i : Nat} {x : Str} {e : Expr} {m : M RV} {pos pos' : Pos} (hNd : X.N.Nodup) (s : SE X W cm e m) (hi : X.N[i]? = some x := by rfl) (hx : L2.Loc X.env.scope x := by first | exact Or.inl rfl | exact Or.inr rfl)
    (hs : swapsWith e (some (.Name x pos')) pos.line X.env = pure false := by rfl) (hf : X.fn x = true ∨ X.env.scope.names.lookup x = some .local := by first | exact .inl rfl | exact .inr rfl) : SS X W cm (.Assign [.Name x pos'] e pos) (bnd m (setR i)) := ⟨fun {F0 F H0 H ev σ D} b h => by
  refine sS_of (ps_set hNd hi hx sE_pe hs hf) ?_
  refine s.go b.er ((h.expr b).mono fun r ev1 F1 H1 a hh v rv => ?_)
  obtain ⟨ev', e1⟩ := setR_nx hh.2.not_bad
  exact hh.2.nx e1 ((b.aft a).bs.set b.er.same rv e1)⟩
theorem ow_store {ev : SL} {σ : St} {i : Nat} {p : PV} {v : Option V} {a : Addr} : Ow (ev.set i (.val p)) (σ.set i v) a → Ow ev σ a := fun ⟨j, ps, e1, e2⟩ => by
  rcases getElem?_set_some e1.1 with ⟨_, z⟩ | ⟨ne, z⟩
  · rw [z] at e1; cases e1.2
  · rw [List.getElem?_set_ne ne] at e2
    exact ⟨j, ps, ⟨z, e1.2⟩, e2⟩
def But (js : List Nat) (σ σ' : St) : Prop := σ'.length = σ.length ∧ ∀ j, j ∉ js → σ'[j]? = σ[j]?
structure SG (X : Cx) (W : WX) (tg : Expr) (t : PV → SL → Option SL) (js : List Nat) : Prop where
  go : ∀ {F0 F : FS} {H0 H : Hp} {ev ev' : SL} {σ : St} {v : V} {p : PV} {Q : St → Hp → Prop}, BS X.K F0 F H0 ev σ H → Rep X.K F H v p → t p ev = some ev' → (∀ σ', AS X.K F0 F H0 H F ev' σ' H → But js σ σ' → (∀ a, Ow ev' σ' a → Ow ev σ a) → Q σ' H) →
    ∀ (pins : List (Addr × Obj)) (s : Shared) (u : Value), L2.Inv X pins σ H s → RelV v u → wpAny (model X.prog X.w) X.A (assign tg X.env u) (fun _ s' => ∃ σ' H', L2.Inv X pins σ' H' s' ∧ Q σ' H') X.xe s
def tName (i : Nat) : PV → SL → Option SL := fun p ev => if i < ev.length then some (ev.set i (.val p)) else none
theorem g_name {i : Nat} {x : Str} {pos : Pos} (hNd : X.N.Nodup) (hi : X.N[i]? = some x := by rfl) (hx : L2.Loc X.env.scope x := by first | exact Or.inl rfl | exact Or.inr rfl) (hf : X.fn x = true ∨ X.env.scope.names.lookup x = some .local := by first | exact .inl rfl | exact .inr rfl) : SG X W (.Name x pos) (tName i) [i] :=
  ⟨fun {F0 F H0 H ev ev' σ v p Q} b q e h pins s u I r => by
    refine (pg_name hNd hi hx hf).run pins s σ H v u Q I r ?_
    unfold tName at e
    split at e
    · rename_i hl
      cases e
      exact h _ ⟨⟨b.er.store hl q, b.sub, b.base⟩, fun _ h => h, .refl⟩ ⟨by rw [List.length_set], fun j hj => List.getElem?_set_ne (fun z => hj (by simp [z]))⟩ (fun a => ow_store)
    · cases e⟩
def tNames : List Nat → PV → SL → Option SL
  | is, .tup ps => tN2 is ps
  | is, .itm ps => tN2 is ps
  | _, _ => fun _ => none
where tN2 : List Nat → List PV → SL → Option SL
  | [], [], ev => some ev
  | i :: is, p :: ps, ev => (tName i p ev).bind (tN2 is ps)
  | _, _, _ => none
structure SGs (X : Cx) (W : WX) (ts : List Expr) (is : List Nat) : Prop where
  go : ∀ {F0 F : FS} {H0 H : Hp} {ev ev' : SL} {σ : St} {vs : List V} {ps : List PV} {Q : St → Hp → Prop}, BS X.K F0 F H0 ev σ H → RepL X.K F H vs ps → tNames.tN2 is ps ev = some ev' → (∀ σ', AS X.K F0 F H0 H F ev' σ' H → But is σ σ' → (∀ a, Ow ev' σ' a → Ow ev σ a) → Q σ' H) →
    ∃ t, PGs X ts t ∧ t vs σ H Q
theorem gs_nil : SGs X W [] [] := ⟨fun {F0 F H0 H ev ev' σ vs ps Q} b r e h => by
  cases ps with
  | nil =>
    unfold tNames.tN2 at e
    cases e
    exact ⟨_, pgs_nil, r.nil_inv, h σ b.as ⟨rfl, fun _ _ => rfl⟩ fun _ h => h⟩
  | cons p ps => unfold tNames.tN2 at e; cases e⟩
theorem gs_cons {i : Nat} {x : Str} {pos : Pos} {ts : List Expr} {is : List Nat} (hNd : X.N.Nodup) (u : SGs X W ts is) (hi : X.N[i]? = some x := by rfl) (hx : L2.Loc X.env.scope x := by first | exact Or.inl rfl | exact Or.inr rfl) (hf : X.fn x = true ∨ X.env.scope.names.lookup x = some .local := by first | exact .inl rfl | exact .inr rfl) : SGs X W (.Name x pos :: ts) (i :: is) :=
  ⟨fun {F0 F H0 H ev ev' σ vs ps Q} b r e h => by
    cases ps with
    | nil => unfold tNames.tN2 at e; cases e
    | cons p ps =>
      unfold RepL at r
      obtain ⟨y, ys, rfl, r1, r2⟩ := r
      unfold tNames.tN2 at e
      obtain ⟨ev1, e1, e2⟩ := Option.bind_eq_some_iff.mp e
      unfold tName at e1
      split at e1
      · rename_i hl
        cases e1
        have b1 : BS X.K F0 F H0 (ev.set i (.val p)) (σ.set i (some y)) H := ⟨b.er.store hl r1, b.sub, b.base⟩
        obtain ⟨t, ht, hq⟩ := u.go (Q := Q) b1 r2 e2 fun σ' a bt ho => h σ' ⟨a.bs, a.sub, a.keep⟩ ⟨bt.1.trans (by rw [List.length_set]), fun j hj => (bt.2 j fun z => hj (List.mem_cons_of_mem _ z)).trans (List.getElem?_set_ne fun z => hj (by simp [z]))⟩ fun a o => ow_store (ho a o)
        exact ⟨_, pgs_cons (pg_name hNd hi hx hf) ht, y, ys, rfl, hq⟩
      · cases e1⟩
end
end Pv
set_option Elab.async false
set_option linter.all false
set_option maxRecDepth 100000
namespace Pv
open PySem PySem.Spec L2
open PyProof.Rows hiding St
section
variable {X : Cx} {W : WX} {cm : CM}
theorem g_names {ts : List Expr} {is : List Nat} {k : Nat} {pos : Pos} (hc : X.calm = true) (u : SGs X W ts is) (hl : (assignEach ts X.env).length = is.length := by rfl) (hf : List.findIdx? (fun x => x.fst) (assignEach ts X.env) = none := by rfl) : SG X W (.Tuple ts k pos) (tNames is) is :=
  ⟨fun {F0 F H0 H ev ev' σ v p Q} b q e h pins s w I r => by
    have len : ∀ (is : List Nat) (ps : List PV) (ev : SL) (e : tNames.tN2 is ps ev = some ev'), ps.length = is.length := by
      intro is
      induction is with
      | nil =>
        intro ps ev e
        cases ps with
        | nil => rfl
        | cons _ _ => unfold tNames.tN2 at e; cases e
      | cons i is ih =>
        intro ps ev e
        cases ps with
        | nil => unfold tNames.tN2 at e; cases e
        | cons p ps =>
          unfold tNames.tN2 at e
          obtain ⟨ev1, _, e2⟩ := Option.bind_eq_some_iff.mp e
          rw [List.length_cons, List.length_cons, ih _ _ e2]
    have main : ∀ (ps : List PV) (a : Addr) (xs : List V), v = .ref a → SqT X.K H a xs → RepL X.K F H xs ps → tNames.tN2 is ps ev = some ev' → wpAny (model X.prog X.w) X.A (assign (.Tuple ts k pos) X.env w) (fun _ s' => ∃ σ' H', L2.Inv X pins σ' H' s' ∧ Q σ' H') X.xe s := fun ps a xs ea hx rl e => by
      subst ea
      obtain ⟨t, ht, hq⟩ := u.go (Q := Q) b rl e h
      exact (pg_tup hc ht (n := is.length) hl hf).run pins s σ H (.ref a) w Q I r ⟨a, xs, rfl, hx, by rw [rl.length]; exact len is ps ev e, hq⟩
    cases p with
    | tup ps =>
      have q' : Rep X.K F H v (.tup ps) := q
      unfold Rep at q'
      obtain ⟨a, xs, ea, hx, rl⟩ := q'
      exact main ps a xs ea hx.sqT rl e
    | itm ps =>
      have q' : Rep X.K F H v (.itm ps) := q
      unfold Rep at q'
      obtain ⟨a, xs, ea, hx, rl⟩ := q'
      exact main ps a xs ea hx rl e
    | _ => unfold tNames at e; cases e⟩
def mTgt (t : PV → SL → Option SL) (p : PV) : M Fl := fun ev => match t p ev with
  | some ev' => .ok .nx ev'
  | none => .bad
def sG (X : Cx) (tg : Expr) : TG := fun v σ H Q => ∀ (pins : List (Addr × Obj)) (s : Shared) (u : Value), L2.Inv X pins σ H s → RelV v u → wpAny (model X.prog X.w) X.A (assign tg X.env u) (fun _ s' => ∃ σ' H', L2.Inv X pins σ' H' s' ∧ Q σ' H') X.xe s
theorem sG_pg {tg : Expr} : PG X tg (sG X tg) := ⟨fun pins s σ H v u Q I r h => h pins s u I r⟩
theorem s_unpack {ts : List Expr} {is : List Nat} {k : Nat} {tpos pos : Pos} {e : Expr} {m : M RV} (s : SE X W cm e m) (g : SG X W (.Tuple ts k tpos) (tNames is) is)
    (hs : swapsWithSole [.Tuple ts k tpos] e pos.line X.env = pure false := by rfl) (hw : swappedStores [.Tuple ts k tpos] e X.env = pure none := by rfl) (ha : List.map (fun x => x.snd) (assignEach [.Tuple ts k tpos] X.env) = [assign (.Tuple ts k tpos) X.env] := by rfl) : SS X W cm (.Assign [.Tuple ts k tpos] e pos) (bnd m fun r => mTgt (tNames is) r.1) := ⟨fun {F0 F H0 H ev σ D} b h => by
  refine sS_of (ps_asg sE_pe sG_pg hs hw ha) ?_
  refine s.go b.er ((h.expr b).mono fun r ev1 F1 H1 a hh v rv => ?_)
  obtain ⟨F2, a2, r2, f12⟩ := rv.share a
  have h2 := hh.2
  intro pins s' u I ru
  have h3 := h2.not_bad
  unfold mTgt at h3
  cases e1 : tNames is r.1 ev1 with
  | none => rw [e1] at h3; exact absurd rfl h3
  | some ev2 =>
    refine g.go (b.aft a2).bs r2 e1 (fun σ' as _ _ => ?_) pins s' u I ru
    exact h2.nx (F' := F2) (by unfold mTgt; rw [e1]) ⟨as.bs, f12, ⟨as.keep.tup, as.keep.frz, fun a o f => as.keep.lst a o (f12 a f)⟩⟩⟩
theorem ER.keepO {K : Fr} {F : FS} {H0 H : Hp} {ev : SL} {σ : St} {i : Nat} {a : Addr} {q0 : Slot} (r : ER K F H0 ev σ H) (e : ev[i]? = some q0 ∧ q0.isO = true) (s : σ[i]? = some (some (.ref a))) (ob : HO) : Keep F H (upd H a ob) := by
  obtain ⟨nf, h0, oo, ha, hoo⟩ := r.ow ⟨i, q0, e, s⟩
  have n1 : ∀ zs, oo ≠ .tup zs := fun zs z => by
    rcases hoo with ⟨_, w⟩ | ⟨_, w⟩ <;> rw [w] at z <;> cases z
  have n2 : ∀ o u, oo ≠ .frz o u := fun o u z => by
    rcases hoo with ⟨_, w⟩ | ⟨_, w⟩ <;> rw [w] at z <;> cases z
  exact ⟨fun b zs h => by
      rw [upd_ne (fun z => by rw [z, ha] at h; exact n1 zs (Option.some.inj h))]; exact h, fun b o u h => by
      rw [upd_ne (fun z => by rw [z, ha] at h; exact n2 o u (Option.some.inj h))]; exact h, fun b o f h => by
      rw [upd_ne (fun z => by rw [z] at f; exact nf f)]; exact h⟩
theorem ER.setG {K : Fr} {F : FS} {H0 H : Hp} {ev : SL} {σ : St} {i : Nat} {a : Addr} {q0 q1 : Slot} {ob : HO} (r : ER K F H0 ev σ H) (e : ev[i]? = some q0 ∧ q0.isO = true) (s : σ[i]? = some (some (.ref a))) (hs : SlotR K F H0 (upd H a ob) q1 (some (.ref a))) :
    ER K F H0 (ev.set i q1) σ (upd H a ob) := by
  obtain ⟨nf, h0, oo, ha, hoo⟩ := r.ow ⟨i, q0, e, s⟩
  have kp := r.keepO e s ob
  have hi : i < ev.length := (List.getElem?_eq_some_iff.mp e.1).1
  refine ⟨by rw [List.length_set]; exact r.len, fun j sl ej => ?_, fun j k b rs ts e1 e2 s1 s2 => ?_, fun b f z => ?_, fun b o h => ?_⟩
  · rcases getElem?_set_some ej with ⟨z, rfl⟩ | ⟨ne, z⟩
    · subst z
      exact ⟨_, s, hs⟩
    · obtain ⟨o, e1, q1⟩ := r.slot j sl z
      refine ⟨o, e1, ?_⟩
      cases sl with
      | no => trivial
      | val p =>
        obtain ⟨v, e2, q2⟩ := q1
        exact ⟨v, e2, Rep.mono kp (fun _ h => h) p q2⟩
      | own rs =>
        obtain ⟨b, zs, e2, e3, q2, nf2, e4⟩ := q1
        refine ⟨b, zs, e2, ?_, RepL.mono kp (fun _ h => h) rs q2, nf2, e4⟩
        rw [upd_ne (fun w => by
          subst w
          exact ne (r.inj i j b _ _ e ⟨z, rfl⟩ s (by rw [e1, e2])))]
        exact e3
      | dow ks rs =>
        obtain ⟨b, zs, e2, e3, q2, nf2, e4⟩ := q1
        refine ⟨b, zs, e2, ?_, RepL.mono kp (fun _ h => h) rs q2, nf2, e4⟩
        rw [upd_ne (fun w => by
          subst w
          exact ne (r.inj i j b _ _ e ⟨z, rfl⟩ s (by rw [e1, e2])))]
        exact e3
  · have old : ∀ {l : Nat} {u : Slot}, ((ev.set i q1)[l]? = some u ∧ u.isO = true) → ∃ u', ev[l]? = some u' ∧ u'.isO = true := fun {l u} z => by
      rcases getElem?_set_some z.1 with ⟨w, _⟩ | ⟨_, w⟩
      · subst w; exact ⟨q0, e⟩
      · exact ⟨u, w, z.2⟩
    obtain ⟨u1, z1⟩ := old e1
    obtain ⟨u2, z2⟩ := old e2
    exact r.inj j k b u1 u2 z1 z2 s1 s2
  · by_cases w : b = a
    · subst w; exact nf f
    · rw [upd_ne w] at z
      exact r.dom b f z
  · have w : b ≠ a := fun w => by
      rw [w, h0] at h; cases h
    rw [upd_ne w]
    exact r.same b o h
theorem ER.setOwn {K : Fr} {F : FS} {H0 H : Hp} {ev : SL} {σ : St} {i : Nat} {a : Addr} {ps qs : List PV} {ys : List V} (r : ER K F H0 ev σ H) (e : ev[i]? = some (.own ps)) (s : σ[i]? = some (some (.ref a))) (q : RepL K F H ys qs) :
    ER K F H0 (ev.set i (.own qs)) σ (upd H a (.lst ys)) ∧ Keep F H (upd H a (.lst ys)) := by
  have kp := r.keepO ⟨e, rfl⟩ s (.lst ys)
  obtain ⟨nf, h0, _⟩ := r.ow ⟨i, _, ⟨e, rfl⟩, s⟩
  exact ⟨r.setG ⟨e, rfl⟩ s ⟨a, ys, rfl, upd_same, RepL.mono kp (fun _ h => h) qs q, nf, h0⟩, kp⟩
theorem BS.setOwn {K : Fr} {F0 F : FS} {H0 H : Hp} {ev : SL} {σ : St} {i : Nat} {a : Addr} {ps qs : List PV} {ys : List V} (b : BS K F0 F H0 ev σ H) (e : ev[i]? = some (.own ps)) (s : σ[i]? = some (some (.ref a))) (q : RepL K F H ys qs) :
    AS K F0 F H0 H F (ev.set i (.own qs)) σ (upd H a (.lst ys)) :=
  let ⟨e1, e2⟩ := b.er.setOwn e s q
  ⟨⟨e1, b.sub, b.base⟩, fun _ h => h, e2⟩
def mMet (i : Nat) (m : M (List PV)) (g : List PV → List PV → Option (List PV)) : M Fl := fun ev => match ev[i]? with
  | some (.own _) => bnd m (fun as ev1 => match ev1[i]? with
    | some (.own ps) => match g ps as with
      | some qs => .ok .nx (ev1.set i (.own qs))
      | none => .bad
    | _ => .bad) ev
  | _ => .bad
def MetOk (X : Cx) (id : String) (g : List PV → List PV → Option (List PV)) : Prop := ∀ (F : FS) (H : Hp) (a : Addr) (xs vs : List V) (ps as qs : List PV), H a = some (.lst xs) → RepL X.K F H xs ps → RepL X.K F H vs as → g ps as = some qs →
  ∃ (r : V → List V → Hp → VK → Prop) (ys : List V) (z : V), MtR X id r ∧ RepL X.K F H ys qs ∧ ∀ Q : VK, Q z (upd H a (.lst ys)) → r (.ref a) vs H Q
def sMt (X : Cx) (id : String) : V → List V → Hp → VK → Prop := fun x xs H Q => ∀ (pins : List (Addr × Obj)) (s : Shared) (σ : St) (v : Value) (us : List Value), L2.Inv X pins σ H s → RelV x v → Vals xs us → wpAny (model X.prog X.w) X.A (call (.builtin id) (v :: us)) (EP X pins σ Q) X.xe s
theorem sMt_ok {id : String} : MtR X id (sMt X id) := fun pins s σ H x xs v us Q I rx rs h => h pins s σ v us I rx rs
theorem sMt_of {id : String} {r : V → List V → Hp → VK → Prop} {x : V} {xs : List V} {H : Hp} {Q : VK} (o : MtR X id r) (h : r x xs H Q) : sMt X id x xs H Q := fun pins s σ v us I rx rs => o pins s σ H x xs v us Q I rx rs h
theorem own_of {K : Fr} {F F' : FS} {H0 H H' : Hp} {ev ev' : SL} {σ : St} {i : Nat} {ps : List PV} {a : Addr} (b : ER K F H0 ev σ H) (h : Aft K F H0 ev ev' σ H F' H') (e : ev'[i]? = some (.own ps)) (s : σ[i]? = some (some (.ref a))) : ∃ xs, H' a = some (.lst xs) ∧ RepL K F' H' xs ps := by
  obtain ⟨o, e1, c, xs, e2, e3, q, _⟩ := h.er.slot i _ e
  rw [s] at e1; cases e1; cases e2
  exact ⟨xs, e3, q⟩
theorem s_met {i : Nat} {x name : Str} {id : String} {e : Expr} {es : List Expr} {m : M (List PV)} {g : List PV → List PV → Option (List PV)} {p apos cpos pos : Pos} (slot : PySem.Slot "list" name id) (hty : typeOf (Value.builtin id) = pure (Value.type "method_descriptor")) (hg : MetOk X id g)
    (ha : SA X W cm (e :: es) m) (hi : X.N[i]? = some x := by rfl) (hv : Vis X.env.scope x := by first | exact Or.inl rfl | exact Or.inr (Or.inl rfl) | exact Or.inr (Or.inr rfl)) (hd : (x == ("__debug__" : Str)) = false := by decide) (hcd : (x == ("__classdict__" : Str)) = false := by decide)
    (hbase : attributeBase (.Name x p) name X.env (eval (.Name x p) X.env) = eval (.Name x p) X.env := by rfl)
    (hfew : ((((backTo cpos (starEach (e :: es) X.env)).all fun x => !x.fst) && (backToKw cpos (keywordEach [] X.env)).all fun x => x.fst.isSome) && decide (((e :: es).length + ([] : List Keyword).length + if ([] : List Keyword).isEmpty = true then 0 else 1) < 30)) = true := by rfl)
    (hline : (apos.endLine == cpos.line) = true := by rfl) (hst : starEach (e :: es) X.env = (false, eval e X.env) :: starEach es X.env := by rfl) (hpl : ((backTo cpos (starEach es X.env)).any fun x => x.fst) = false := by rfl)
    (hs : swapsWith (.Call (.Attribute (.Name x p) name apos) (e :: es) [] cpos) none pos.line X.env = pure false := by rfl) :
    SS X W cm (.Expr (.Call (.Attribute (.Name x p) name apos) (e :: es) [] cpos) pos) (mMet i m g) := ⟨fun {F0 F H0 H ev σ D} b h => by
  refine sS_of (ps_expr (pe_bm PySem.F.plainAttrs_list slot hty sMt_ok (pe_var hi hv hd hcd) sA_pa hbase hfew hline hst hpl) hs) ?_
  have hb := h.not_bad
  unfold mMet at hb
  cases e0 : ev[i]? with
  | none => rw [e0] at hb; exact absurd rfl hb
  | some sl =>
    cases sl with
    | no => rw [e0] at hb; exact absurd rfl hb
    | val q => rw [e0] at hb; exact absurd rfl hb
    | dow ks q => rw [e0] at hb; exact absurd rfl hb
    | own ps0 =>
      obtain ⟨o, e1, a, xs0, rfl, e2, q0, nf, e3⟩ := b.er.slot i _ e0
      refine ⟨_, e1, .inl ⟨rfl, xs0, SqL.of e2⟩, ?_⟩
      have h1 : Ws X.K W cm F0 F H0 D ev σ H (bnd m fun as ev1 => match ev1[i]? with
          | some (.own ps) => match g ps as with
            | some qs => .ok .nx (ev1.set i (.own qs))
            | none => .bad
          | _ => .bad) := by
        unfold Ws mMet at h
        simp only [e0] at h
        unfold Ws
        exact h
      refine ha.go b.er ?_
      unfold Wt
      have hw := h1
      unfold Ws Pv.bnd at hw
      cases em : m ev with
      | bad => simp only [em] at hw
      | exc c ev1 => simp only [em] at hw; exact fun F' H' a' => hw F' σ H' (b.aft a')
      | ok as ev1 =>
        simp only [em] at hw
        intro F1 H1 _ F2 vs a2 rs
        cases e5 : ev1[i]? with
        | none => simp only [e5] at hw
        | some sl =>
          cases sl with
          | no => simp only [e5] at hw
          | val q => simp only [e5] at hw
          | dow ks q => simp only [e5] at hw
          | own ps =>
            simp only [e5] at hw
            cases e6 : g ps as with
            | none => simp only [e6] at hw
            | some qs =>
              simp only [e6] at hw
              obtain ⟨xs, hx, rx⟩ := own_of b.er a2 e5 e1
              obtain ⟨r, ys, z, o1, o2, o3⟩ := hg F2 H1 a xs vs ps as qs hx rx rs e6
              refine sMt_of o1 (o3 _ ?_)
              exact hw F2 σ _ ((b.aft a2).trans ((b.aft a2).bs.setOwn e5 e1 o2))⟩
def gAppend : List PV → List PV → Option (List PV)
  | ps, [p] => if ps.length < SZ then some (ps ++ [p]) else none
  | _, _ => none
theorem RepL.one {K : Fr} {F : FS} {H : Hp} {vs : List V} {p : PV} (h : RepL K F H vs [p]) : ∃ v, vs = [v] ∧ Rep K F H v p := by
  unfold RepL at h
  obtain ⟨x, r, rfl, h1, h2⟩ := h
  exact ⟨x, by rw [h2.nil_inv], h1⟩
theorem k_append : MetOk X "list.append" gAppend := fun F H a xs vs ps as qs hx rx rs e => by
  unfold gAppend at e
  split at e
  · rename_i p
    split at e
    · rename_i hz
      cases e
      obtain ⟨v, rfl, rv⟩ := rs.one
      exact ⟨_, xs ++ [v], _, mt_append, rx.append (RepL.cons rv RepL.nil), fun Q hq => ⟨a, xs, v, rfl, rfl, hx, by rw [rx.length]; exact hz, hq⟩⟩
    · cases e
  · cases e
def gExtend : List PV → List PV → Option (List PV)
  | ps, [.lst qs] => if ps.length + qs.length ≤ SZ then some (ps ++ qs) else none
  | _, _ => none
theorem k_extend : MetOk X "list.extend" gExtend := fun F H a xs vs ps as qs hx rx rs e => by
  unfold gExtend at e
  split at e
  · rename_i qs'
    split at e
    · rename_i hz
      cases e
      obtain ⟨v, rfl, rv⟩ := rs.one
      unfold Rep at rv
      obtain ⟨c, ys, rfl, ⟨_, hy⟩, ry⟩ := rv
      exact ⟨_, xs ++ ys, _, mt_extend, rx.append ry, fun Q hq => ⟨a, c, xs, ys, rfl, rfl, hx, hy, by rw [rx.length, ry.length]; exact hz, hq⟩⟩
    · cases e
  · cases e
end
end Pv
set_option Elab.async false
set_option linter.all false
set_option maxRecDepth 100000
namespace Pv
open PySem PySem.Spec L2
open PyProof.Rows hiding St
section
variable {X : Cx} {W : WX} {cm : CM}
def mAppPop (i j : Nat) (m : M PV) : M Fl := fun ev => match ev[i]?, ev[j]? with
  | some (.own _), some (.own _) => if i = j then .bad else bnd m (fun p ev1 => match ev1[i]?, ev1[j]?, p with
    | some (.own ps), some (.own qs), .int k => if -(2 ^ 63) ≤ k ∧ k < 2 ^ 63 ∧ ps.length < SZ then match seqIndex? k qs.length with
      | some n => match qs[n]? with
        | some q => .ok .nx ((ev1.set j (.own (qs.eraseIdx n))).set i (.own (ps ++ [q])))
        | none => .bad
      | none => .bad
      else .bad
    | _, _, _ => .bad) ev
  | _, _ => .bad
theorem s_appPop {i j : Nat} {x y : Str} {e : Expr} {m : M PV} {p p2 apos apos2 cpos cpos2 pos : Pos} (ha : Pv.SP X W cm e m) (hi : X.N[i]? = some x := by rfl) (hj : X.N[j]? = some y := by rfl)
    (hv : Vis X.env.scope x := by first | exact Or.inl rfl | exact Or.inr (Or.inl rfl) | exact Or.inr (Or.inr rfl)) (hd : (x == ("__debug__" : Str)) = false := by decide) (hcd : (x == ("__classdict__" : Str)) = false := by decide)
    (hv2 : Vis X.env.scope y := by first | exact Or.inl rfl | exact Or.inr (Or.inl rfl) | exact Or.inr (Or.inr rfl)) (hd2 : (y == ("__debug__" : Str)) = false := by decide) (hcd2 : (y == ("__classdict__" : Str)) = false := by decide)
    (hbase : attributeBase (.Name x p) "append" X.env (eval (.Name x p) X.env) = eval (.Name x p) X.env := by rfl)
    (hfew : ((((backTo cpos (starEach [Expr.Call (.Attribute (.Name y p2) "pop" apos2) [e] [] cpos2] X.env)).all fun x => !x.fst) && (backToKw cpos (keywordEach [] X.env)).all fun x => x.fst.isSome) && decide (([Expr.Call (.Attribute (.Name y p2) "pop" apos2) [e] [] cpos2].length + ([] : List Keyword).length + if ([] : List Keyword).isEmpty = true then 0 else 1) < 30)) = true := by rfl)
    (hline : (apos.endLine == cpos.line) = true := by rfl) (hst : starEach [Expr.Call (.Attribute (.Name y p2) "pop" apos2) [e] [] cpos2] X.env = (false, eval (Expr.Call (.Attribute (.Name y p2) "pop" apos2) [e] [] cpos2) X.env) :: starEach [] X.env := by rfl)
    (hbase2 : attributeBase (.Name y p2) "pop" X.env (eval (.Name y p2) X.env) = eval (.Name y p2) X.env := by rfl)
    (hfew2 : ((((backTo cpos2 (starEach [e] X.env)).all fun x => !x.fst) && (backToKw cpos2 (keywordEach [] X.env)).all fun x => x.fst.isSome) && decide (([e].length + ([] : List Keyword).length + if ([] : List Keyword).isEmpty = true then 0 else 1) < 30)) = true := by rfl)
    (hline2 : (apos2.endLine == cpos2.line) = true := by rfl) (hst2 : starEach [e] X.env = (false, eval e X.env) :: starEach [] X.env := by rfl)
    (hs : swapsWith (.Call (.Attribute (.Name x p) "append" apos) [Expr.Call (.Attribute (.Name y p2) "pop" apos2) [e] [] cpos2] [] cpos) none pos.line X.env = pure false := by rfl) :
    SS X W cm (.Expr (.Call (.Attribute (.Name x p) "append" apos) [Expr.Call (.Attribute (.Name y p2) "pop" apos2) [e] [] cpos2] [] cpos) pos) (mAppPop i j m) := ⟨fun {F0 F H0 H ev σ D} b h => by
  refine sS_of (ps_expr (pe_bm PySem.F.plainAttrs_list PySem.F.slot_list_append PySem.F.type_list_append mt_append (pe_var hi hv hd hcd)
    (pa_cons (pe_bm PySem.F.plainAttrs_list PySem.F.slot_list_pop PySem.F.type_list_pop mt_popAt (pe_var hj hv2 hd2 hcd2) (pa_cons sE_pe pa_nil hst2) hbase2 hfew2 hline2 hst2 rfl) pa_nil hst) hbase hfew hline hst rfl) hs) ?_
  have hb := h.not_bad
  unfold mAppPop at hb
  split at hb
  rotate_left
  · exact absurd rfl hb
  rename_i ps0 qs0 e0 f0
  split at hb
  · exact absurd rfl hb
  rename_i nij
  obtain ⟨o, e1, a, xs0, rfl, e2, q0, nf, e3⟩ := b.er.slot i _ e0
  obtain ⟨o2, g1, c, ys0, rfl, g2, q1, nf2, g3⟩ := b.er.slot j _ f0
  refine ⟨_, e1, .inl ⟨rfl, xs0, SqL.of e2⟩, _, g1, .inl ⟨rfl, ys0, SqL.of g2⟩, ?_⟩
  have nac : a ≠ c := fun z => nij (b.er.inj i j a _ _ ⟨e0, rfl⟩ ⟨f0, rfl⟩ e1 (by rw [g1, z]))
  have h1 : Ws X.K W cm F0 F H0 D ev σ H (bnd m fun p ev1 => match ev1[i]?, ev1[j]?, p with
      | some (.own ps), some (.own qs), .int k => if -(2 ^ 63) ≤ k ∧ k < 2 ^ 63 ∧ ps.length < SZ then match seqIndex? k qs.length with
        | some n => match qs[n]? with
          | some q => .ok .nx ((ev1.set j (.own (qs.eraseIdx n))).set i (.own (ps ++ [q])))
          | none => .bad
        | none => .bad
        else .bad
      | _, _, _ => .bad) := by
    unfold Ws mAppPop at h
    simp only [e0, f0, if_neg nij] at h
    unfold Ws
    exact h
  refine ha.go b.er ((h1.expr b).mono fun pv ev1 F1 H1 a1 hh v rv => ?_)
  have h2 := hh.2
  have hb2 := h2.not_bad
  split at hb2
  rotate_left
  · exact absurd rfl hb2
  rename_i ps qs k s1 s2
  split at hb2
  rotate_left
  · exact absurd rfl hb2
  rename_i hk
  split at hb2
  rotate_left
  · exact absurd rfl hb2
  rename_i n hn
  split at hb2
  rotate_left
  · exact absurd rfl hb2
  rename_i q hq
  have ek : v = .int k := rv
  subst ek
  obtain ⟨xs, hx, rx⟩ := own_of b.er a1 s1 e1
  obtain ⟨ys, hy, ry⟩ := own_of b.er a1 s2 g1
  obtain ⟨w, hw, rw'⟩ := ry.get hq
  refine ⟨c, ys, k, n, w, rfl, rfl, hy, hk.1, hk.2.1, by rw [ry.length]; exact hn, hw, ?_⟩
  have m1 := (b.aft a1).bs.setOwn s2 g1 (ry.eraseIdx n)
  have t1 : (ev1.set j (.own (qs.eraseIdx n)))[i]? = some (.own ps) := by
    rw [List.getElem?_set_ne (fun z => nij z.symm)]
    exact s1
  obtain ⟨o3, u1, a3, xs3, u2, u3, u4, _⟩ := m1.bs.er.slot i _ t1
  rw [e1] at u1; cases u1
  cases u2
  have exs : xs3 = xs := by
    rw [upd_ne nac, hx] at u3
    cases u3
    rfl
  subst exs
  have rq : Rep X.K F1 (upd H1 c (.lst (ys.eraseIdx n))) w q := Rep.mono m1.keep (fun _ h => h) q rw'
  have m2 := m1.bs.setOwn t1 e1 (u4.append (RepL.cons rq RepL.nil))
  refine ⟨a, xs3, w, rfl, rfl, u3, by rw [u4.length]; exact hk.2.2, ?_⟩
  refine h2.nx (F' := F1) ?_ (m1.trans m2)
  simp only [s1, s2, if_pos hk, hn, hq]⟩
def ItOk (K : Fr) (F : FS) (H : Hp) (J : It) (ps : List PV) : Prop := ∀ (i : Nat) (F2 : FS) (H2 : Hp), (∀ a, F a → F2 a) → Keep F H H2 → (i = ps.length → J.stop i H2) ∧ (∀ p, ps[i]? = some p → J.go i H2 ∧ ∀ x H3, J.yld i H2 x H3 → Same H2 H3 ∧ Rep K F2 H3 x p)
structure SI (X : Cx) (W : WX) (cm : CM) (tg iter : Expr) (m : M (List PV)) : Prop where
  ex : ∃ wi, PI X tg iter wi ∧ ∀ {F : FS} {H0 H : Hp} {ev : SL} {σ : St} {R : It → Hp → Prop}, ER X.K F H0 ev σ H → (Wt X.K W cm F H0 ev σ H m fun ps ev' F' H' => ∀ J F2, Aft X.K F H0 ev ev' σ H F2 H' → (∀ a, F' a → F2 a) → ItOk X.K F2 H' J ps → R J H') → wi σ H R
theorem itl_ok {K : Fr} {F : FS} {H : Hp} {a : Addr} {xs : List V} {ps : List PV} (f : F a) (hx : H a = some (.lst xs)) (r : RepL K F H xs ps) : ItOk K F H (Itl K a) ps := fun i F2 H2 s k => by
  have hx2 : SqL K H2 a xs := SqL.of (k.lst _ _ f hx)
  refine ⟨fun e => ⟨xs, hx2, by rw [r.length, e]; exact Nat.le_refl _⟩, fun p hp => ?_⟩
  obtain ⟨v, hv, rv⟩ := r.get hp
  refine ⟨⟨xs, v, hx2, hv⟩, fun x H3 y => ?_⟩
  obtain ⟨e, y⟩ := y
  subst e
  have e2 : v = x := Option.some.inj (hv.symm.trans (y xs hx2))
  subst e2
  exact ⟨Same.refl _, Rep.mono k s p rv⟩
theorem itt_ok {K : Fr} {F : FS} {H : Hp} {a : Addr} {xs : List V} {ps : List PV} (hx : TpX K H a xs) (r : RepL K F H xs ps) : ItOk K F H (Itt K a) ps := fun i F2 H2 s k => by
  have hx2 : SqT K H2 a xs := (k.tpX hx).sqT
  refine ⟨fun e => ⟨xs, hx2, by rw [r.length, e]; exact Nat.le_refl _⟩, fun p hp => ?_⟩
  obtain ⟨v, hv, rv⟩ := r.get hp
  refine ⟨⟨xs, v, hx2, hv⟩, fun x H3 y => ?_⟩
  obtain ⟨e, y⟩ := y
  subst e
  have e2 : v = x := Option.some.inj (hv.symm.trans (y xs hx2))
  subst e2
  exact ⟨Same.refl _, Rep.mono k s p rv⟩
def mLstOf (m : M RV) : M (List PV) := bnd m fun r => match r.1 with
  | .lst ps => ret ps
  | _ => bad
def mTupOf (m : M RV) : M (List PV) := bnd m fun r => match r.1 with
  | .tup ps => ret ps
  | _ => bad
theorem i_list {tg e : Expr} {m : M RV} (s : SE X W cm e m) : SI X W cm tg e (mLstOf m) := ⟨_, pi_list sE_pe, fun {F H0 H ev σ R} r h => by
  refine s.go r (h.bnd.mono fun z ev1 F1 H1 a1 hh v rv => ?_)
  obtain ⟨F2, a2, r2, f12⟩ := rv.share a1
  have h2 := hh.2
  cases e1 : z.1 with
  | lst ps =>
    simp only [e1] at h2
    rw [e1] at r2
    unfold Rep at r2
    obtain ⟨a, xs, rfl, ⟨f, hx⟩, rl⟩ := r2
    exact ⟨a, rfl, ⟨xs, SqL.of hx⟩, Wt.ret (P := fun ps ev' F' H' => ∀ J F2, Aft X.K F H0 ev ev' σ H F2 H' → (∀ a, F' a → F2 a) → ItOk X.K F2 H' J ps → R J H') a1.er h2 _ F2 a2 f12 (itl_ok f hx rl)⟩
  | _ => simp only [e1] at h2; exact h2.elim⟩
theorem i_tup {tg e : Expr} {m : M RV} (s : SE X W cm e m) : SI X W cm tg e (mTupOf m) := ⟨_, pi_tup sE_pe, fun {F H0 H ev σ R} r h => by
  refine s.go r (h.bnd.mono fun z ev1 F1 H1 a1 hh v rv => ?_)
  obtain ⟨F2, a2, r2, f12⟩ := rv.share a1
  have h2 := hh.2
  cases e1 : z.1 with
  | tup ps =>
    simp only [e1] at h2
    rw [e1] at r2
    unfold Rep at r2
    obtain ⟨a, xs, rfl, hx, rl⟩ := r2
    exact ⟨a, rfl, ⟨xs, hx.sqT⟩, Wt.ret (P := fun ps ev' F' H' => ∀ J F2, Aft X.K F H0 ev ev' σ H F2 H' → (∀ a, F' a → F2 a) → ItOk X.K F2 H' J ps → R J H') a1.er h2 _ F2 a2 f12 (itt_ok hx rl)⟩
  | _ => simp only [e1] at h2; exact h2.elim⟩
def rgP (lo : Int) (n : Nat) : List PV := (List.range n).map fun i => .int (lo + (i : Nat))
theorem itr_ok {K : Fr} {F : FS} {H : Hp} {lo : Int} {n : Nat} : ItOk K F H (Itr lo n) (rgP lo n) := fun i F2 H2 s k => by
  unfold rgP
  refine ⟨fun e => by rw [List.length_map, List.length_range] at e; exact Nat.le_of_eq e.symm, fun p hp => ?_⟩
  have hi : i < n := by
    have := (List.getElem?_eq_some_iff.mp hp).1
    rwa [List.length_map, List.length_range] at this
  refine ⟨hi, fun x H3 y => ?_⟩
  obtain ⟨rfl, rfl⟩ := y
  rw [List.getElem?_map, List.getElem?_range hi] at hp
  cases hp
  exact ⟨Same.refl _, rep_int⟩
def okR (i : Int) : Bool := decide (-(2 ^ 62) ≤ i ∧ i < 2 ^ 62)
def mRng1 (m : M (List PV)) : M (List PV) := bnd m fun ps => match ps with
  | [.int j] => if okR j then ret (rgP 0 j.toNat) else bad
  | _ => bad
def mRng2 (m : M (List PV)) : M (List PV) := bnd m fun ps => match ps with
  | [.int i, .int j] => if okR i && okR j then ret (rgP i (j - i).toNat) else bad
  | _ => bad
theorem i_range1 {tg a : Expr} {m : M (List PV)} {p pos : Pos} (hm : X.mg "range" = none) (s : SK X W cm [a] m) (hg : Gl X "range" := by rfl) (hs : starEach [a] X.env = [(false, eval a X.env)] := by rfl) : SI X W cm tg (.Call (.Name "range" p) [a] [] pos) (mRng1 m) := ⟨_, pi_range1 hg hm sA_pa hs, fun {F H0 H ev σ R} r h => by
  refine s.go r (h.bnd.mono fun ps ev1 F1 H1 a1 hh vs rs => ?_)
  have h2 := hh.2
  split at h2
  · rename_i j
    obtain ⟨v, rfl, rv⟩ := rs.one
    have ev0 : v = .int j := rv
    subst ev0
    split at h2
    · rename_i c
      unfold okR at c
      have c' := of_decide_eq_true c
      exact ⟨j, rfl, c'.1, c'.2, Wt.ret (P := fun ps ev' F' H' => ∀ J F2, Aft X.K F H0 ev ev' σ H F2 H' → (∀ a, F' a → F2 a) → ItOk X.K F2 H' J ps → R J H') a1.er h2 _ F1 a1 (fun _ h => h) itr_ok⟩
    · exact h2.elim
  · exact h2.elim⟩
theorem i_range2 {tg a b : Expr} {m : M (List PV)} {p pos : Pos} (hm : X.mg "range" = none) (s : SK X W cm [a, b] m) (hg : Gl X "range" := by rfl) (hs : starEach [a, b] X.env = [(false, eval a X.env), (false, eval b X.env)] := by rfl) (hs2 : starEach [b] X.env = [(false, eval b X.env)] := by rfl) : SI X W cm tg (.Call (.Name "range" p) [a, b] [] pos) (mRng2 m) := ⟨_, pi_range2 hg hm sA_pa hs hs2, fun {F H0 H ev σ R} r h => by
  refine s.go r (h.bnd.mono fun ps ev1 F1 H1 a1 hh vs rs => ?_)
  have h2 := hh.2
  split at h2
  · rename_i i j
    obtain ⟨v, w, rfl, rv, rw'⟩ := rs.two
    have ev0 : v = .int i := rv
    have ev1 : w = .int j := rw'
    subst ev0 ev1
    split at h2
    · rename_i c
      rw [Bool.and_eq_true] at c
      unfold okR at c
      have c1 := of_decide_eq_true c.1
      have c2 := of_decide_eq_true c.2
      exact ⟨i, j, rfl, ⟨c1.1, c1.2, c2.1, c2.2⟩, Wt.ret (P := fun ps ev' F' H' => ∀ J F2, Aft X.K F H0 ev ev' σ H F2 H' → (∀ a, F' a → F2 a) → ItOk X.K F2 H' J ps → R J H') a1.er h2 _ F1 a1 (fun _ h => h) itr_ok⟩
    · exact h2.elim
  · exact h2.elim⟩
def loop (t : PV → SL → Option SL) (mb : M Fl) : List PV → M Fl
  | [] => ret .nx
  | p :: ps => fun ev => match t p ev with
    | none => .bad
    | some ev1 => match mb ev1 with
      | .ok .nx ev2 => loop t mb ps ev2
      | .ok .ct ev2 => loop t mb ps ev2
      | .ok .bk ev2 => .ok .nx ev2
      | .ok (.rt r) ev2 => .ok (.rt r) ev2
      | .exc c ev2 => .exc c ev2
      | .bad => .bad
theorem s_for {tg iter : Expr} {body : List Stmt} {mi : M (List PV)} {t : PV → SL → Option SL} {mb : M Fl} {pos : Pos} {js : List Nat} (hp : PassesOwn (model X.prog X.w) X.A X.env X.xe) (hc : X.calm = true) (si : SI X W cm tg iter mi) (sg : SG X W tg t js) (sb : SB X W cm body mb)
    (hs : ∀ x, foldedSetIterable iter X.env x = pure x := by intro _; rfl) : SS X W cm (.For tg iter body [] pos) (bnd mi (loop t mb)) := ⟨fun {F0 F H0 H ev σ D} b h => by
  obtain ⟨wi, hpi, hwi⟩ := si.ex
  refine sS_of (ps_for hp hc hpi sG_pg sSs_ps hs) ?_
  refine hwi b.er ((h.expr b).mono fun ps ev1 F1 H1 a1 hh J F2 a2 f12 it => ?_)
  have hl : Ws X.K W cm F0 F2 H0 D ev1 σ H1 (loop t mb ps) := by
    have h2 := hh.2
    unfold Ws at h2 ⊢
    have up : ∀ {F' ev' σ' H'}, AS X.K F0 F2 H0 H1 F' ev' σ' H' → AS X.K F0 F1 H0 H1 F' ev' σ' H' := fun {F' ev' σ' H'} a => ⟨a.bs, fun x h => a.sub x (f12 x h), ⟨a.keep.tup, a.keep.frz, fun x o f => a.keep.lst x o (f12 x f)⟩⟩
    cases q : loop t mb ps ev1 with
    | ok f ev' =>
      cases f with
      | nx => rw [q] at h2; exact fun F' σ' H' a => h2 F' σ' H' (up a)
      | bk => rw [q] at h2; exact fun F' σ' H' a => h2 F' σ' H' (up a)
      | ct => rw [q] at h2; exact fun F' σ' H' a => h2 F' σ' H' (up a)
      | rt r => rw [q] at h2; exact h2
    | exc c ev' => rw [q] at h2; exact fun F' σ' H' a => h2 F' σ' H' (up a)
    | bad => rw [q] at h2; exact h2
  have b2 := (b.aft a2).bs
  refine ⟨fun i n σ' H' => n = ps.length - i ∧ i ≤ ps.length ∧ ∃ F' ev', BS X.K F0 F' H0 ev' σ' H' ∧ (∀ a, F2 a → F' a) ∧ Keep F2 H1 H' ∧ Ws X.K W cm F0 F' H0 D ev' σ' H' (loop t mb (ps.drop i)), ⟨ps.length, by simp, Nat.zero_le _, F2, ev1, b2, fun _ h => h, .refl, hl⟩, ?_⟩
  rintro i n σ' H' ⟨rfl, hi, F', ev', bs, f2, kp, hw⟩
  by_cases e : i = ps.length
  · refine .inl ⟨(it i F' H' f2 kp).1 e, ?_⟩
    rw [e, List.drop_length] at hw
    exact hw.nx rfl bs.as
  · have hlt : i < ps.length := by omega
    have ed : ps.drop i = ps[i] :: ps.drop (i + 1) := List.drop_eq_getElem_cons hlt
    rw [ed] at hw
    obtain ⟨go, yl⟩ := (it i F' H' f2 kp).2 ps[i] (List.getElem?_eq_getElem hlt)
    have hb := hw.not_bad
    unfold loop at hb
    cases e1 : t ps[i] ev' with
    | none => simp only [e1] at hb; exact absurd rfl hb
    | some ev2 =>
      refine .inr ⟨go, fun σ3 H3 => ∃ F3 ev3, BS X.K F0 F3 H0 ev3 σ3 H3 ∧ (∀ a, F2 a → F3 a) ∧ Keep F2 H1 H3 ∧ Ws X.K W cm F0 F3 H0 D ev3 σ3 H3 (loop t mb (ps.drop (i + 1))), fun σ3 H3 ⟨F3, ev3, x1, x2, x3, x4⟩ => ⟨_, by omega, rfl, hlt, F3, ev3, x1, x2, x3, x4⟩, fun x H4 y => ?_⟩
      obtain ⟨s4, r4⟩ := yl x H4 y
      have b4 : BS X.K F0 F' H0 ev' σ' H4 := ⟨bs.er.later s4, bs.sub, bs.base⟩
      have as4 : AS X.K F0 F' H0 H' F' ev' σ' H4 := ⟨b4, fun _ h => h, .of s4⟩
      intro pins s u I ru
      refine sg.go b4 r4 e1 (fun σ5 a5 _ _ => ?_) pins s u I ru
      -- the body
      have a6 : AS X.K F0 F' H0 H' F' ev2 σ5 H4 := as4.trans a5
      refine sb.go a5.bs ?_
      unfold Ws
      unfold Ws loop at hw
      simp only [e1] at hw
      have next : ∀ {ev7 : SL} {F7 : FS} {σ7 : St} {H7 : Hp}, AS X.K F0 F' H0 H4 F7 ev7 σ7 H7 → Ws X.K W cm F0 F' H0 D ev' σ' H' (fun _ => loop t mb (ps.drop (i + 1)) ev7) →
          ∃ F3 ev3, BS X.K F0 F3 H0 ev3 σ7 H7 ∧ (∀ a, F2 a → F3 a) ∧ Keep F2 H1 H7 ∧ Ws X.K W cm F0 F3 H0 D ev3 σ7 H7 (loop t mb (ps.drop (i + 1))) := fun {ev7 F7 σ7 H7} a7 w7 =>
        ⟨F7, ev7, a7.bs, fun a h => a7.sub a (f2 a h), kp.trans f2 ((as4.keep).trans (fun _ h => h) a7.keep), Ws.from (σ := σ') (m := fun _ => loop t mb (ps.drop (i + 1)) ev7) (ev := ev') (as4.trans a7) rfl w7⟩
      cases q : mb ev2 with
      | ok f ev7 =>
        cases f with
        | nx => simp only [q] at hw; exact fun F7 σ7 H7 a7 => next a7 (by unfold Ws; exact hw)
        | ct => simp only [q] at hw; exact fun F7 σ7 H7 a7 => next a7 (by unfold Ws; exact hw)
        | bk => simp only [q] at hw; exact fun F7 σ7 H7 a7 => hw F7 σ7 H7 (as4.trans a7)
        | rt r => simp only [q] at hw; exact hw
      | exc c ev7 => simp only [q] at hw; exact fun F7 σ7 H7 a7 => hw F7 σ7 H7 (as4.trans a7)
      | bad => simp only [q] at hw⟩
end
end Pv
set_option Elab.async false
set_option linter.all false
set_option maxRecDepth 100000
namespace Pv
open PySem PySem.Spec L2
open PyProof.Rows hiding St
section
variable {X : Cx} {W : WX} {cm : CM}
def mRaise (c : Str) : M Fl := fun ev => .exc c ev
structure ExK (K : Fr) (mg : Str → Option Value) (cm : CM) (x : Str) : Prop where
  ex : ∃ (C : Addr), cm x = .ref C ∧ mg x = some (.ref C) ∧ PySem.W.excIn K C [.type "ValueError", .type "Exception", .type "BaseException", .type "object"] "ValueError.__new__" = true ∧ PySem.W.keepIn K (.ref C) = true ∧ PySem.W.subIn K (.ref C) (.type "BaseException") = some true ∧ PySem.W.typeIn K (.ref C) = some (.type "type")
theorem s_raise {x m : Str} {j : Nat} {p p2 pos pos' : Pos} (hc : X.calm = true) (tk : Takes X W) (c : ExK X.K X.mg cm x) (hg : Gl X x := by rfl) (hd : (x == ("__debug__" : Str)) = false := by decide) :
    SS X W cm (.Raise (some (.Call (.Name x p) [.Constant (.str m) j p2] [] pos)) none pos') (mRaise x) := ⟨fun {F0 F H0 H ev σ D} b h => by
  obtain ⟨C, e, hm, h1, h2, h3, h4⟩ := c.ex
  refine sS_of (ps_raise hc tk (pmk_own PySem.F.excBase_ValueError h1 hm h2 (raises_own h3 h4) hg hd)) ?_
  unfold Ws mRaise at h
  have h5 := h F σ H b.as
  rw [e] at h5
  exact h5⟩
def mTry (mb : M Fl) (is : Str → Option Bool) (i : Nat) (ms : Str → Addr → M Fl) : M Fl := fun ev => match mb ev with
  | .exc d ev1 => match is d with
    | some true => if i < ev1.length then (match ms d 0 (ev1.set i (.val (.opq (.ref 0)))) with
      | .ok f ev2 => .ok f (ev2.set i .no)
      | .exc _ _ => .bad
      | .bad => .bad) else .bad
    | some false => .exc d ev1
    | none => .bad
  | r => r
def mTryO (mb : M Fl) (is : Str → Option Bool) (ms : Str → M Fl) : M Fl := fun ev => match mb ev with
  | .exc d ev1 => match is d with
    | some true => (match ms d ev1 with
      | .ok f ev2 => .ok f ev2
      | .exc _ _ => .bad
      | .bad => .bad)
    | some false => .exc d ev1
    | none => .bad
  | r => r
theorem s_tryOnly {x : Str} {cv : Value} {body suite : List Stmt} {b0 : Stmt} {np pos pos' : Pos} {mb : M Fl} {is : Str → Option Bool} {ms : Str → M Fl} (hs : X.stack = X.env :: X.outer) (hf : X.env.frame = some X.env.locals) (hn : Names X x cv) (tk : Takes X W)
    (his : ∀ d k, is d = some k → PySem.W.exmOne X.K (cm d) cv = some k)
    (sb : ∀ (W' : WX) (pn : List (Addr × Obj)) (xe : Value → Shared → Prop), Takes (X.tr pn xe) W' → PassesOwn (model X.prog X.w) X.A X.env xe → SB (X.tr pn xe) W' cm body mb)
    (su : ∀ (d : Str) (a : Addr) (oe : Obj) (pn : List (Addr × Obj)), is d = some true → Zc (cm d) none oe → (∃ vs, oe.data = .fields vs) → SB (X.suite a ((a, oe) :: pn)) (fun _ _ _ _ => False) cm (b0 :: suite) (ms d)) :
    SS X W cm (.Try body [.ExceptHandler (some (.Name x np)) none (b0 :: suite) pos'] [] [] pos) (mTryO mb is ms) := ⟨fun {F0 F H0 H ev σ D} b h => by
  refine sS_of (ps_try_only (tb := fun W' D σ H => ∀ (pn : List (Addr × Obj)) (xe : Value → Shared → Prop), Takes (X.tr pn xe) W' → PassesOwn (model X.prog X.w) X.A X.env xe → sSs (X.tr pn xe) body D σ H)
    (ts := fun a cls d D σ H => ∀ (oe : Obj) (pn : List (Addr × Obj)), Zc cls d oe → (∃ vs, oe.data = Data.fields vs) → sSs (X.suite a ((a, oe) :: pn)) (b0 :: suite) D σ H) hs hf hn tk
    (fun W' pn xe t hp => ⟨fun pins s σ H D I q => q pn xe t hp pins s I⟩) (fun a oe cls d pn z v => ⟨fun pins s σ H D I q => q oe pn z v pins s I⟩)) ?_
  intro pn xe t hp
  refine (sb _ pn xe t hp).go (X := X.tr pn xe) b ?_
  unfold Ws
  unfold Ws mTryO at h
  cases e : mb ev with
  | ok f ev1 =>
    rw [e] at h
    cases f <;> exact h
  | bad => rw [e] at h; exact h
  | exc d ev1 =>
    simp only [e] at h
    intro F1 σ1 H1 a1
    cases e2 : is d with
    | none => simp only [e2] at h
    | some k =>
      refine ⟨k, his d k e2, fun ek a na oe pn2 z v => ?_, fun ek => ?_⟩
      · subst ek
        simp only [e2] at h
        refine (su d a oe pn2 e2 z v).go (X := X.suite a ((a, oe) :: pn2)) a1.bs ?_
        unfold Ws
        cases e3 : ms d ev1 with
        | ok f ev3 =>
          simp only [e3] at h
          cases f with
          | nx => exact fun F3 σ3 H3 a3 => h F3 σ3 H3 (a1.trans a3)
          | bk => exact fun F3 σ3 H3 a3 => h F3 σ3 H3 (a1.trans a3)
          | ct => exact fun F3 σ3 H3 a3 => h F3 σ3 H3 (a1.trans a3)
          | rt r => exact h
        | exc c ev3 => simp only [e3] at h
        | bad => simp only [e3] at h
      · subst ek
        simp only [e2] at h
        exact h F1 σ1 H1 a1⟩
def runB (m : M Fl) (ev : SL) : Rf := match m ev with
  | .ok .nx _ => .ok (.non, false)
  | .ok (.rt r) _ => .ok r
  | .ok _ _ => .bad
  | .exc c _ => .exc c
  | .bad => .bad
def ev0 (n : Nat) (ps : List PV) : SL := ps.map .val ++ List.replicate (n - ps.length) .no
def runF (n k : Nat) (m : M Fl) : Fn := fun ps => if ps.length = k ∧ k ≤ n then runB m (ev0 n ps) else .bad
theorem start_er {K : Fr} {F : FS} {H : Hp} {N : List Str} {vs : List V} {ps : List PV} (d : ∀ a, F a → H a ≠ none) (r : RepL K F H vs ps) (hl : ps.length ≤ N.length) : ER K F H (ev0 N.length ps) (L2.start N vs) H where
  len := by
    unfold ev0 L2.start
    rw [List.length_append, List.length_append, List.length_map, List.length_map, List.length_replicate, List.length_replicate, r.length]
  slot := fun i sl e => by
    unfold ev0 at e
    unfold L2.start
    by_cases hi : i < ps.length
    · rw [List.getElem?_append_left (by rw [List.length_map]; exact hi), List.getElem?_map, List.getElem?_eq_getElem hi] at e
      cases e
      obtain ⟨v, e1, e2⟩ := r.get (List.getElem?_eq_getElem hi)
      refine ⟨some v, ?_, v, rfl, e2⟩
      rw [List.getElem?_append_left (by rw [List.length_map, r.length]; exact hi), List.getElem?_map, e1]
      rfl
    · rw [List.getElem?_append_right (by rw [List.length_map]; exact Nat.le_of_not_lt hi)] at e
      have hb := (List.getElem?_eq_some_iff.mp e).1
      rw [List.length_replicate] at hb
      rw [List.getElem?_replicate_of_lt hb] at e
      cases e
      rw [List.length_map] at hb
      refine ⟨none, ?_, trivial⟩
      rw [List.getElem?_append_right (by rw [List.length_map, r.length]; exact Nat.le_of_not_lt hi), List.length_map, List.getElem?_replicate_of_lt (by rw [r.length]; exact hb)]
  inj := fun i j a qs rs e1 _ _ _ => by
    unfold ev0 at e1
    by_cases hi : i < ps.length
    · rw [List.getElem?_append_left (by rw [List.length_map]; exact hi), List.getElem?_map, List.getElem?_eq_getElem hi] at e1
      obtain ⟨z1, z2⟩ := e1; cases z1; cases z2
    · rw [List.getElem?_append_right (by rw [List.length_map]; exact Nat.le_of_not_lt hi)] at e1
      have hb := (List.getElem?_eq_some_iff.mp e1.1).1
      rw [List.length_replicate] at hb
      rw [List.getElem?_replicate_of_lt hb] at e1
      obtain ⟨z1, z2⟩ := e1; cases z1; cases z2
  dom := d
  same := Same.refl _
theorem def_fn {P : Program} {w : World} {K : Fr} {mg : Str → Option Value} {base : Heap} {x qual : Str} {st : Stmt} {f : Addr} {fd : FuncData} {N ps : List Str} {k : Nat} {m : M Fl} (F : Fun K x qual st f fd) (S : FnScope N ps (defScope st))
    (body : ∀ (cdv : Value) (A : Around) (outer : List Env) (s : Shared) (H : Hp) (E : XK), Room k (A.deeper (PyProof.Rows.envOfC qual (defScope st) s.heap.objs.size f cdv)) →
      SB (cxOf (L2.CX P w) P w K mg base N qual (defScope st) f cdv A outer s H E) (fun cls d _ H => E cls d H) cm (defBody st) m) (hle : ps.length ≤ N.length) :
    FnOk P w K mg base (L2.CX P w) (k + 1) f fd ps (spP K cm (runF N.length ps.length m)) := by
  refine F.okX S (fun vs H Q E h => ?_) (fun cdv A outer s H vs Q E hr h => ?_)
  · obtain ⟨G, qs, _, r, h⟩ := h
    unfold runF at h
    by_cases c : qs.length = ps.length ∧ ps.length ≤ N.length
    · rw [r.length]
      exact c.1
    · rw [if_neg c] at h; exact h.elim
  · obtain ⟨G, qs, d, r, h⟩ := h
    unfold runF at h
    by_cases c : qs.length = ps.length ∧ ps.length ≤ N.length
    · rw [if_pos c] at h
      refine ⟨_, sSs_ps, ?_⟩
      have er := start_er (N := N) d r (by rw [c.1]; exact c.2)
      refine (body cdv A outer s H E hr).go (F0 := G) ⟨er, fun _ h => h, fun _ h => .inl h⟩ ?_
      unfold runB at h
      unfold Ws
      cases e : m (ev0 N.length qs) with
      | ok fl ev1 =>
        cases fl with
        | nx =>
          simp only [e] at h
          intro F' σ' H' a
          refine h F' .non H' a.bs.er.same a.bs.sub a.bs.base a.bs.er.dom ?_
          show Rep K F' H' .non .non
          exact rep_non
        | rt r =>
          simp only [e] at h
          intro v H' ⟨F', h1, h2, h3, h4, h5⟩
          exact h F' v H' h4 h1 h2 h3 h5
        | bk => simp only [e] at h
        | ct => simp only [e] at h
      | exc c ev1 =>
        simp only [e] at h
        intro F' σ' H' a
        exact h H' a.bs.er.same
      | bad => simp only [e] at h
    · rw [if_neg c] at h; exact h.elim
theorem def_ok {P : Program} {w : World} {K : Fr} {mg : Str → Option Value} {base : Heap} {x qual : Str} {st : Stmt} {f : Addr} {fd : FuncData} {N ps : List Str} {k : Nat} {m : M Fl} (F : Fun K x qual st f fd) (S : FnScope N ps (defScope st)) (hg : mg x = some (.ref f)) (hb : Binds K fd ps [])
    (body : ∀ (cdv : Value) (A : Around) (outer : List Env) (s : Shared) (H : Hp) (E : XK), Room k (A.deeper (PyProof.Rows.envOfC qual (defScope st) s.heap.objs.size f cdv)) →
      SB (cxOf (L2.CX P w) P w K mg base N qual (defScope st) f cdv A outer s H E) (fun cls d _ H => E cls d H) cm (defBody st) m) (hle : ps.length ≤ N.length) :
    Cal P w K mg base cm (k + 1) x (runF N.length ps.length m) :=
  ⟨f, fd, ps, def_fn F S body hle, hg, F.kp, hb⟩
end
end Pv
set_option Elab.async false
set_option linter.all false
set_option maxRecDepth 100000
namespace Pv
open PySem PySem.Spec L2
open PyProof.Rows hiding St
section
variable {X : Cx} {W : WX} {cm : CM}
def wipeE (ev : SL) : List Nat → SL
  | [] => ev
  | v :: vs => (wipeE ev vs).set v .no
def back (ev0 ev : SL) : List Nat → SL
  | [] => ev
  | v :: vs => (back ev0 ev vs).set v (match ev0[v]? with
    | some (.val p) => .val p
    | _ => .no)
theorem wipeE_len (ev : SL) : ∀ vs : List Nat, (wipeE ev vs).length = ev.length
  | [] => rfl
  | v :: vs => by unfold wipeE; rw [List.length_set, wipeE_len ev vs]
theorem ER.weaken {K : Fr} {F : FS} {H0 H : Hp} {ev ev' : SL} {σ σ' : St} (r : ER K F H0 ev σ H) (hl : ev'.length = ev.length) (hs : σ'.length = σ.length)
    (h : ∀ (i : Nat) s, ev'[i]? = some s → s = .no ∨ (ev[i]? = some s ∧ σ'[i]? = σ[i]?)) : ER K F H0 ev' σ' H where
  len := by rw [hl, hs, r.len]
  slot := fun i s e => by
    rcases h i s e with rfl | ⟨e1, e2⟩
    · have : i < σ'.length := by rw [hs, ← r.len, ← hl]; exact (List.getElem?_eq_some_iff.mp e).1
      exact ⟨_, List.getElem?_eq_getElem this, trivial⟩
    · obtain ⟨o, e3, q⟩ := r.slot i s e1
      exact ⟨o, by rw [e2]; exact e3, q⟩
  inj := fun i j a ps qs e1 e2 s1 s2 => by
    rcases h i _ e1.1 with z | ⟨f1, g1⟩
    · rw [z] at e1; cases e1.2
    rcases h j _ e2.1 with z | ⟨f2, g2⟩
    · rw [z] at e2; cases e2.2
    exact r.inj i j a ps qs ⟨f1, e1.2⟩ ⟨f2, e2.2⟩ (by rw [← g1]; exact s1) (by rw [← g2]; exact s2)
  dom := r.dom
  same := r.same
theorem wipeE_get {ev : SL} {i : Nat} {s : Slot} : ∀ {vs : List Nat}, (wipeE ev vs)[i]? = some s → s = .no ∨ (ev[i]? = some s ∧ i ∉ vs)
  | [], h => .inr ⟨h, by simp⟩
  | v :: vs, h => by
    unfold wipeE at h
    rcases getElem?_set_some h with ⟨_, e⟩ | ⟨ne, e⟩
    · exact .inl e
    · rcases wipeE_get e with e | ⟨e1, e2⟩
      · exact .inl e
      · exact .inr ⟨e1, fun z => by
          rcases List.mem_cons.mp z with z | z
          · exact ne z.symm
          · exact e2 z⟩
theorem wipe_get {σ : St} {i : Nat} : ∀ {vs : List Nat}, i ∉ vs → (wipe σ vs)[i]? = σ[i]?
  | [], _ => rfl
  | v :: vs, h => by
    unfold wipe
    rw [List.getElem?_set_ne (fun z => h (by rw [z]; exact List.mem_cons_self))]
    exact wipe_get fun z => h (List.mem_cons_of_mem _ z)
theorem ER.wiped {K : Fr} {F : FS} {H0 H : Hp} {ev : SL} {σ : St} (r : ER K F H0 ev σ H) (vs : List Nat) : ER K F H0 (wipeE ev vs) (wipe σ vs) H :=
  r.weaken (wipeE_len ev vs) (wipe_length σ vs) fun i s e => by
    rcases wipeE_get e with e | ⟨e1, e2⟩
    · exact .inl e
    · exact .inr ⟨e1, wipe_get e2⟩
def turn (t : PV → SL → Option SL) (mt : M Bool) (me : M RV) (p : PV) : M (Option PV) := fun ev => match t p ev with
  | none => .bad
  | some ev1 => bnd mt (fun k => if k then bnd me fun r => ret (some r.1) else ret none) ev1
def compr (t : PV → SL → Option SL) (mt : M Bool) (me : M RV) (vs : List Nat) : List PV → List PV → M (List PV)
  | acc, [] => ret acc
  | acc, p :: ps => fun ev => match turn t mt me p ev with
    | .ok (some q) ev1 => if acc.length < SZ then compr t mt me vs (acc ++ [q]) ps (wipeE ev1 vs) else .bad
    | .ok none ev1 => compr t mt me vs acc ps (wipeE ev1 vs)
    | _ => .bad
def mComp (mi : M (List PV)) (t : PV → SL → Option SL) (mt : M Bool) (me : M RV) (vs : List Nat) : M RV := bnd mi fun ps ev1 => match compr t mt me vs [] ps (wipeE ev1 vs) with
  | .ok qs ev2 => .ok (.lst qs, true) (back ev1 ev2 vs)
  | _ => .bad
abbrev Blk (X : Cx) (scope : Scope) (P : Cx → Prop) : Prop := ∀ (s : Shared) (H : Hp) (C : Addr) (cl : List (Str × Addr)) (fp : List Addr), P (X.blk s H scope (compEnvC scope cl C X.env) fp)
abbrev W0 : WX := fun _ _ _ _ => False
structure STs (X : Cx) (W : WX) (cm : CM) (es : List Expr) (m : M Bool) : Prop where
  go : ∀ {F : FS} {H0 H : Hp} {ev : SL} {σ : St} {Q : Bool → Hp → Prop}, ER X.K F H0 ev σ H → (Wt X.K W cm F H0 ev σ H m fun b _ _ H' => Q b H') → ∃ t, PTs X es t ∧ t σ H Q
theorem ts_nil : STs X W cm [] (ret true) := ⟨fun {F H0 H ev σ Q} r h => ⟨_, pts_nil, Wt.ret (P := fun b _ _ H' => Q b H') r h⟩⟩
theorem ts_one {c : Expr} {m : M Bool} (s : ST X W cm c m) : STs X W cm [c] m := ⟨fun {F H0 H ev σ Q} r h => ⟨_, pts_one sT_pt, s.go r h⟩⟩
def sTs (X : Cx) (es : List Expr) : TT := fun σ H Q => ∃ t, PTs X es t ∧ t σ H Q
theorem sTs_pt {es : List Expr} : PTs X es (sTs X es) := ⟨fun pins s σ H Q I h => by
  obtain ⟨t, p, q⟩ := h
  exact p.run pins s σ H Q I q⟩
theorem wipe_but {js vs : List Nat} {σ σ' : St} (h : But js σ σ') (hj : ∀ j ∈ js, j ∈ vs) : wipe σ' vs = wipe σ vs := by
  have e : ∀ (vs : List Nat), (∀ j, j ∉ vs → σ'[j]? = σ[j]?) → wipe σ' vs = wipe σ vs := by
    intro vs hv
    apply List.ext_getElem?
    intro i
    by_cases hi : i ∈ vs
    · have hl : (wipe σ' vs).length = (wipe σ vs).length := by rw [wipe_length, wipe_length]; exact h.1
      have none_at : ∀ (τ : St) (vs : List Nat), i ∈ vs → i < τ.length → (wipe τ vs)[i]? = some none := by
        intro τ vs
        induction vs with
        | nil => intro z; cases z
        | cons v vs ih =>
          intro z hl
          unfold wipe
          by_cases e : v = i
          · subst e
            rw [List.getElem?_set_self (by rw [wipe_length]; exact hl)]
          · rw [List.getElem?_set_ne e]
            rcases List.mem_cons.mp z with z | z
            · exact absurd z.symm e
            · exact ih z hl
      by_cases hb : i < σ.length
      · rw [none_at σ' vs hi (by rw [h.1]; exact hb), none_at σ vs hi hb]
      · rw [List.getElem?_eq_none (by rw [wipe_length, h.1]; exact Nat.le_of_not_lt hb), List.getElem?_eq_none (by rw [wipe_length]; exact Nat.le_of_not_lt hb)]
    · rw [wipe_get hi, wipe_get hi]
      exact hv i hi
  exact e vs fun j hj' => h.2 j fun z => hj' (hj j z)
theorem wipe_wipe {σ : St} (vs : List Nat) : wipe (wipe σ vs) vs = wipe σ vs := by
  apply List.ext_getElem?
  intro i
  cases q : (wipe σ vs)[i]? with
  | none =>
    have := List.getElem?_eq_none_iff.mp q
    exact List.getElem?_eq_none (by rw [wipe_length]; exact this)
  | some o =>
    by_cases hi : i ∈ vs
    · have none_at : ∀ (τ : St) (vs : List Nat), i ∈ vs → i < τ.length → (wipe τ vs)[i]? = some none := by
        intro τ vs
        induction vs with
        | nil => intro z; cases z
        | cons v vs ih =>
          intro z hl
          unfold wipe
          by_cases e : v = i
          · subst e
            rw [List.getElem?_set_self (by rw [wipe_length]; exact hl)]
          · rw [List.getElem?_set_ne e]
            rcases List.mem_cons.mp z with z | z
            · exact absurd z.symm e
            · exact ih z hl
      have hl : i < (wipe σ vs).length := (List.getElem?_eq_some_iff.mp q).1
      rw [none_at (wipe σ vs) vs hi hl]
      rw [none_at σ vs hi (by rw [wipe_length] at hl; exact hl)] at q
      exact q
    · rw [wipe_get hi]; exact q
theorem ER.side {K : Fr} {F : FS} {H0 H : Hp} {ev : SL} {σ : St} {D : Addr} {xs : List V} (r : ER K F H0 ev σ H) (nf : ¬ F D) (h0 : H0 D = none) (no : ¬ Ow ev σ D) (hD : ∃ ys, H D = some (.lst ys)) : ER K F H0 ev σ (upd H D (.lst xs)) ∧ Keep F H (upd H D (.lst xs)) := by
  obtain ⟨ys, hy⟩ := hD
  have kp : Keep F H (upd H D (.lst xs)) := ⟨fun b zs h => by
      rw [upd_ne (fun z => by rw [z, hy] at h; cases h)]; exact h, fun b o u h => by
      rw [upd_ne (fun z => by rw [z, hy] at h; cases h)]; exact h, fun b o f h => by
      rw [upd_ne (fun z => by rw [z] at f; exact nf f)]; exact h⟩
  refine ⟨⟨r.len, fun i sl e => ?_, r.inj, fun b f z => ?_, fun b o h => ?_⟩, kp⟩
  · obtain ⟨o, e1, q⟩ := r.slot i sl e
    refine ⟨o, e1, ?_⟩
    cases sl with
    | no => trivial
    | val p =>
      obtain ⟨v, e2, q⟩ := q
      exact ⟨v, e2, Rep.mono kp (fun _ h => h) p q⟩
    | own ps =>
      obtain ⟨a, zs, e2, e3, q, nf', e4⟩ := q
      refine ⟨a, zs, e2, ?_, RepL.mono kp (fun _ h => h) ps q, nf', e4⟩
      rw [upd_ne (fun w => by
        subst w
        exact no ⟨i, _, ⟨e, rfl⟩, by rw [e1, e2]⟩)]
      exact e3
    | dow ks ps =>
      obtain ⟨a, zs, e2, e3, q, nf', e4⟩ := q
      refine ⟨a, zs, e2, ?_, RepL.mono kp (fun _ h => h) ps q, nf', e4⟩
      rw [upd_ne (fun w => by
        subst w
        exact no ⟨i, _, ⟨e, rfl⟩, by rw [e1, e2]⟩)]
      exact e3
  · by_cases w : b = D
    · subst w; exact nf f
    · rw [upd_ne w] at z
      exact r.dom b f z
  · have w : b ≠ D := fun w => by
      rw [w, h0] at h; cases h
    rw [upd_ne w]
    exact r.same b o h
def cG (X : Cx) (scope : Scope) (tg : Expr) : TG := fun v σ H Q => ∀ (s : Shared) (H1 : Hp) (C : Addr) (cl : List (Str × Addr)) (fp : List Addr), sG (X.blk s H1 scope (compEnvC scope cl C X.env) fp) tg v σ H Q
def cT (X : Cx) (scope : Scope) (ifs : List Expr) : TT := fun σ H Q => ∀ (s : Shared) (H1 : Hp) (C : Addr) (cl : List (Str × Addr)) (fp : List Addr), sTs (X.blk s H1 scope (compEnvC scope cl C X.env) fp) ifs σ H Q
def cE (X : Cx) (scope : Scope) (elt : Expr) : TE := fun σ H Q => ∀ (s : Shared) (H1 : Hp) (C : Addr) (cl : List (Str × Addr)) (fp : List Addr), sE (X.blk s H1 scope (compEnvC scope cl C X.env) fp) elt σ H Q
theorem comp_core {elt tg : Expr} {ifs : List Expr} {scope : Scope} {vs js : List Nat} {mi : M (List PV)} {t : PV → SL → Option SL} {mt : M Bool} {me : M RV} {wi : TI}
    (hg : Blk X scope fun Y => SG Y W0 tg t js) (ht : Blk X scope fun Y => STs Y W0 cm ifs mt) (he : Blk X scope fun Y => SE Y W0 cm elt me) (hj : ∀ j ∈ js, j ∈ vs)
    (hwi : ∀ {F : FS} {H0 H : Hp} {ev : SL} {σ : St} {R : It → Hp → Prop}, ER X.K F H0 ev σ H → (Wt X.K W cm F H0 ev σ H mi fun ps ev' F' H' => ∀ J F2, Aft X.K F H0 ev ev' σ H F2 H' → (∀ a, F' a → F2 a) → ItOk X.K F2 H' J ps → R J H') → wi σ H R)
    {F : FS} {H0 H : Hp} {ev : SL} {σ : St} {Q : VK} (r : ER X.K F H0 ev σ H)
    (h : Wt X.K W cm F H0 ev σ H (mComp mi t mt me vs) fun r ev' F' H' => ∀ v, ResR X.K F' H0 ev' σ H H' r v → Q v H') :
    tLc wi (cG X scope tg)
      (cT X scope ifs)
      (cE X scope elt) vs σ H Q := by
  refine hwi r ?_
  unfold Wt
  unfold Wt mComp Pv.bnd at h
  cases em : mi ev with
  | bad => simp only [em] at h
  | exc c ev1 => simp only [em] at h; exact h
  | ok ps ev1 =>
  simp only [em] at h
  intro F1 H1 _ J F2 a2 _ it D hD
  cases eq : compr t mt me vs [] ps (wipeE ev1 vs) with
  | bad => simp only [eq] at h
  | exc c evf => simp only [eq] at h
  | ok qs evf =>
  simp only [eq] at h
  have hD0 : H0 D = none := a2.er.same.free hD
  have nFD : ¬ F2 D := fun f => a2.er.dom D f hD
  have nOD : ¬ Ow ev1 σ D := fun o => by
    obtain ⟨_, _, xs, e, _⟩ := a2.er.ow o
    rw [hD] at e; cases e
  have owW : ∀ a, Ow (wipeE ev1 vs) (wipe σ vs) a → Ow ev1 σ a := fun a ⟨i, zs, e1, e2⟩ => by
    rcases wipeE_get e1.1 with z | ⟨z, n⟩
    · rw [z] at e1; cases e1.2
    · exact ⟨i, zs, ⟨z, e1.2⟩, by rw [← wipe_get n]; exact e2⟩
  refine ⟨fun i n H' => n = ps.length - i ∧ i ≤ ps.length ∧ ∃ F' ev' acc accV, ER X.K F' H0 ev' (wipe σ vs) H' ∧ (∀ a, F2 a → F' a) ∧ Same H1 H' ∧ ¬ F' D ∧ H' D = some (.lst accV) ∧ RepL X.K F' H' accV acc ∧
    (∀ a, F' a → F2 a ∨ H1 a = none ∨ Ow (wipeE ev1 vs) (wipe σ vs) a) ∧ (∀ a, Ow ev' (wipe σ vs) a → Ow (wipeE ev1 vs) (wipe σ vs) a) ∧ compr t mt me vs acc (ps.drop i) ev' = .ok qs evf, ?_, ?_⟩
  · exact ⟨ps.length, by simp, Nat.zero_le _, F2, wipeE ev1 vs, [], [], (a2.er.wiped vs).later (same_upd hD), fun _ h => h, same_upd hD, nFD, upd_same, RepL.nil, fun _ h => .inl h, fun _ h => h, eq⟩
  · rintro i n H' ⟨rfl, hi, F', ev', acc, accV, er, f2, s1, nF, hDl, ra, gr, ow, hc⟩
    by_cases e : i = ps.length
    · refine .inl ⟨(it i F' H' f2 (.of s1)).1 e, ?_⟩
      rw [e, List.drop_length] at hc
      unfold compr Pv.ret at hc
      have e8 : acc = qs := by injection hc
      have e9 : ev' = evf := by injection hc
      rw [← e8, ← e9] at h
      have backlen : ∀ vs : List Nat, (back ev1 ev' vs).length = ev'.length := by
        intro vs
        induction vs with
        | nil => rfl
        | cons v vs ih => unfold back; rw [List.length_set, ih]
      have backget : ∀ (vs : List Nat) (i : Nat) (s : Slot), (back ev1 ev' vs)[i]? = some s → (i ∉ vs ∧ ev'[i]? = some s) ∨ s = .no ∨ ∃ p, s = .val p ∧ ev1[i]? = some (.val p) := by
        intro vs
        induction vs with
        | nil => intro i s h; exact .inl ⟨by simp, h⟩
        | cons v vs ih =>
          intro i s h
          unfold back at h
          rcases getElem?_set_some h with ⟨z, e⟩ | ⟨ne, e⟩
          · subst z
            split at e
            · rename_i p hp; exact .inr (.inr ⟨p, e, hp⟩)
            · exact .inr (.inl e)
          · rcases ih i s e with ⟨z1, z2⟩ | z
            · exact .inl ⟨fun z => (List.mem_cons.mp z).elim (fun z => ne z.symm) z1, z2⟩
            · exact .inr z
      have ow1 : ∀ a, Ow (back ev1 ev' vs) σ a → Ow ev' (wipe σ vs) a := fun a ⟨i, zs, e1, e2⟩ => by
        rcases backget vs i _ e1.1 with ⟨z1, z2⟩ | z | ⟨p, z, _⟩
        · exact ⟨i, zs, ⟨z2, e1.2⟩, by rw [wipe_get z1]; exact e2⟩
        · rw [z] at e1; cases e1.2
        · rw [z] at e1; cases e1.2
      have erB : ER X.K F' H0 (back ev1 ev' vs) σ H' := by
        refine ⟨by rw [backlen, er.len, wipe_length], fun i s e => ?_, fun i j a us ws e1 e2 s1 s2 => ?_, er.dom, er.same⟩
        · rcases backget vs i s e with ⟨z1, z2⟩ | z | ⟨p, z, z2⟩
          · obtain ⟨o, e1, q⟩ := er.slot i s z2
            exact ⟨o, by rw [← wipe_get z1]; exact e1, q⟩
          · subst z
            have : i < σ.length := by
              have h1 := (List.getElem?_eq_some_iff.mp e).1
              rw [backlen, er.len, wipe_length] at h1
              exact h1
            exact ⟨_, List.getElem?_eq_getElem this, trivial⟩
          · subst z
            obtain ⟨o, e1, v, e2, q⟩ := a2.er.slot i _ z2
            exact ⟨o, e1, v, e2, Rep.mono (.of s1) f2 p q⟩
        · rcases backget vs i _ e1.1 with ⟨z1, z2⟩ | z | ⟨p, z, _⟩
          · rcases backget vs j _ e2.1 with ⟨y1, y2⟩ | y | ⟨p, y, _⟩
            · exact er.inj i j a us ws ⟨z2, e1.2⟩ ⟨y2, e2.2⟩ (by rw [wipe_get z1]; exact s1) (by rw [wipe_get y1]; exact s2)
            · rw [y] at e2; cases e2.2
            · rw [y] at e2; cases e2.2
          · rw [z] at e1; cases e1.2
          · rw [z] at e1; cases e1.2
      refine h F' H' ⟨fun a h => f2 a (a2.sub a h), fun a h => ?_, a2.same.trans s1, erB, fun a h => a2.ow a (owW a (ow a (ow1 a h)))⟩ (.ref D) ⟨D, accV, acc, rfl, rfl, hDl, ra, nF, a2.same.free hD, fun o => nOD (owW D (ow D (ow1 D o)))⟩
      rcases gr a h with h | h | h
      · exact a2.grow a h
      · exact .inr (.inl (a2.same.free h))
      · exact .inr (.inr (a2.ow a (owW a h)))
    · have hlt : i < ps.length := by omega
      have ed : ps.drop i = ps[i] :: ps.drop (i + 1) := List.drop_eq_getElem_cons hlt
      rw [ed] at hc
      obtain ⟨go, yl⟩ := (it i F' H' f2 (.of s1)).2 ps[i] (List.getElem?_eq_getElem hlt)
      refine .inr ⟨go, fun H3 => ∃ F3 ev3 acc3 accV3, ER X.K F3 H0 ev3 (wipe σ vs) H3 ∧ (∀ a, F2 a → F3 a) ∧ Same H1 H3 ∧ ¬ F3 D ∧ H3 D = some (.lst accV3) ∧ RepL X.K F3 H3 accV3 acc3 ∧
        (∀ a, F3 a → F2 a ∨ H1 a = none ∨ Ow (wipeE ev1 vs) (wipe σ vs) a) ∧ (∀ a, Ow ev3 (wipe σ vs) a → Ow (wipeE ev1 vs) (wipe σ vs) a) ∧ compr t mt me vs acc3 (ps.drop (i + 1)) ev3 = .ok qs evf, fun H3 q => ⟨_, by omega, rfl, hlt, q⟩, fun x H4 y => ?_⟩
      obtain ⟨s4, r4⟩ := yl x H4 y
      unfold compr turn at hc
      cases e1 : t ps[i] ev' with
      | none => simp only [e1] at hc; cases hc
      | some ev2 =>
      simp only [e1] at hc
      have er4 := er.later s4
      intro s H9 C cl fp pins st u I ru
      refine (hg s H9 C cl fp).go (F0 := F') ⟨er4, fun _ h => h, fun _ h => .inl h⟩ r4 e1 (fun σ2 a5 bt ho => ?_) pins st u I ru
      have er5 : ER X.K F' H0 ev2 σ2 H4 := a5.bs.er
      have wσ : wipe σ2 vs = wipe σ vs := (wipe_but bt hj).trans (wipe_wipe vs)
      refine ⟨wσ, fun s H9 C cl fp => ?_⟩
      unfold Pv.bnd at hc
      cases e2 : mt ev2 with
      | bad => simp only [e2] at hc; cases hc
      | exc c ev3 => simp only [e2] at hc; cases hc
      | ok k ev3 =>
      simp only [e2] at hc
      refine (ht s H9 C cl fp).go er5 ?_
      unfold Wt
      rw [e2]
      intro F5 H5 a6
      have s5 : Same H1 H5 := s1.trans (s4.trans a6.same)
      have d5 : H5 D = some (.lst accV) := a6.same _ _ (s4 _ _ hDl)
      have oD : ∀ {a}, Ow ev2 σ2 a → Ow (wipeE ev1 vs) (wipe σ vs) a := fun {a} o => ow a (ho a o)
      have nO : ¬ Ow ev2 σ2 D := fun o => nOD (owW D (oD o))
      have nF5 : ¬ F5 D := fun f => by
        rcases a6.grow D f with z | z | z
        · exact nF z
        · rw [s4 _ _ hDl] at z; cases z
        · exact nO z
      have gr5 : ∀ a, F5 a → F2 a ∨ H1 a = none ∨ Ow (wipeE ev1 vs) (wipe σ vs) a := fun a f => by
        rcases a6.grow a f with z | z | z
        · exact gr a z
        · exact .inr (.inl (s1.free (s4.free z)))
        · exact .inr (.inr (oD z))
      have f5 : ∀ a, F2 a → F5 a := fun a f => a6.sub a (f2 a f)
      have ra5 : RepL X.K F5 H5 accV acc := RepL.mono (.of (s4.trans a6.same)) a6.sub acc ra
      have owE : ∀ {ev7 : SL} a, Ow (wipeE ev7 vs) (wipe σ vs) a → (∀ a, Ow ev7 σ2 a → Ow ev2 σ2 a) → Ow (wipeE ev1 vs) (wipe σ vs) a := fun {ev7} a ⟨i, zs, z1, z2⟩ hh => by
        rcases wipeE_get z1.1 with z | ⟨z, n⟩
        · rw [z] at z1; cases z1.2
        · refine oD (hh a ⟨i, zs, ⟨z, z1.2⟩, ?_⟩)
          rw [← wσ, wipe_get n] at z2
          exact z2
      cases k with
      | false =>
        simp only [Bool.false_eq_true, if_false, Pv.ret] at hc
        refine iteF ⟨F5, wipeE ev3 vs, acc, accV, ?_, f5, s5, nF5, d5, ra5, gr5, fun a o => owE a o a6.ow, hc⟩
        rw [← wσ]
        exact a6.er.wiped vs
      | true =>
        simp only [if_true] at hc
        refine iteT ?_
        intro s H9 C cl fp
        cases e3 : me ev3 with
        | bad => simp only [e3] at hc; cases hc
        | exc c ev4 => simp only [e3] at hc; cases hc
        | ok z ev4 =>
        simp only [e3, Pv.ret] at hc
        refine (he s H9 C cl fp).go a6.er ?_
        unfold Wt
        rw [e3]
        intro F6 H6 a7 v rv
        obtain ⟨F7, a8, r8, _⟩ := rv.share a7
        by_cases hz : acc.length < SZ
        · rw [if_pos hz] at hc
          have d6 : H6 D = some (.lst accV) := a8.same _ _ d5
          have nF7 : ¬ F7 D := fun f => by
            rcases a8.grow D f with z | z | z
            · exact nF5 z
            · rw [d5] at z; cases z
            · exact nO (a6.ow D z)
          have ra7 : RepL X.K F7 H6 accV acc := RepL.mono (.of a8.same) a8.sub acc ra5
          have erW : ER X.K F7 H0 (wipeE ev4 vs) (wipe σ vs) H6 := by
            rw [← wσ]
            exact a8.er.wiped vs
          have noW : ¬ Ow (wipeE ev4 vs) (wipe σ vs) D := fun o => nOD (owW D (owE D o fun a o => a6.ow a (a8.ow a o)))
          obtain ⟨erD, kD⟩ := erW.side (xs := accV ++ [v]) nF7 hD0 noW ⟨_, d6⟩
          refine ⟨accV, d6, by rw [ra7.length]; exact hz, F7, wipeE ev4 vs, acc ++ [z.1], accV ++ [v], erD, fun a f => a8.sub a (f5 a f), fun b o hb => ?_, nF7, upd_same, RepL.mono kD (fun _ h => h) _ (ra7.append (RepL.cons r8 RepL.nil)), fun a f => ?_, fun a o => owE a o fun a o => a6.ow a (a8.ow a o), hc⟩
          · rw [upd_ne (ne_of_none hb hD)]
            exact a8.same _ _ (s5 _ _ hb)
          · rcases a8.grow a f with z | z | z
            · exact gr5 a z
            · exact .inr (.inl (s5.free z))
            · exact .inr (.inr (oD (a6.ow a z)))
        · rw [if_neg hz] at hc; cases hc
theorem e_comp {elt tg iter : Expr} {ifs : List Expr} {scope : Scope} {own : List (Str × Nat)} {pos : Pos} {js : List Nat} {mi : M (List PV)} {t : PV → SL → Option SL} {mt : M Bool} {me : M RV} (hc : X.calm = true) (hNd : X.N.Nodup) (ok : BlkOk X.N X.env.scope scope own)
    (si : SI X W cm tg iter mi) (hg : Blk X scope fun Y => SG Y W0 tg t js) (ht : Blk X scope fun Y => STs Y W0 cm ifs mt) (he : Blk X scope fun Y => SE Y W0 cm elt me) (hj : ∀ j ∈ js, j ∈ own.map (·.2) := by decide)
    (hs : ∀ x, foldedSetIterable iter X.env x = pure x := by intro _; rfl) : SE X W cm (.ListComp elt [⟨tg, iter, ifs, 0⟩] scope pos) (mComp mi t mt me (own.map (·.2))) := .mk' fun F H0 H ev σ Q r h => by
  obtain ⟨wi, hpi, hwi⟩ := si.ex
  refine sE_of (pe_lc (g := cG X scope tg) (tt := cT X scope ifs) (te := cE X scope elt) hc hNd hpi ok (fun s H C cl fp => ⟨fun pins s' σ H' v u Q' I ru q => q s H C cl fp pins s' u I ru⟩)
    (fun s H C cl fp => ⟨fun pins s' σ H' Q' I q => sTs_pt.run pins s' σ H' Q' I (q s H C cl fp)⟩)
    (fun s H C cl fp => ⟨fun pins s' σ H' Q' I q => q s H C cl fp pins s' I⟩) hs) ?_
  exact comp_core hg ht he hj hwi r h
theorem s_setComp {i : Nat} {y : Str} {py : Pos} {elt tg iter : Expr} {ifs : List Expr} {scope : Scope} {own : List (Str × Nat)} {pos spos : Pos} {js : List Nat} {mi : M (List PV)} {t : PV → SL → Option SL} {mt : M Bool} {me : M RV} (hc : X.calm = true) (hNd : X.N.Nodup)
    (hsw : swapsWith (.ListComp elt [⟨tg, iter, ifs, 0⟩] scope pos) (some (.Name y py)) spos.line X.env = pure true) (ok : BlkOk X.N X.env.scope scope own)
    (si : SI X W cm tg iter mi) (hg : Blk X scope fun Y => SG Y W0 tg t js) (ht : Blk X scope fun Y => STs Y W0 cm ifs mt) (he : Blk X scope fun Y => SE Y W0 cm elt me) (hj : ∀ j ∈ js, j ∈ own.map (·.2) := by decide)
    (hy : X.N[i]? = some y := by rfl) (hyl : X.env.scope.names.lookup y = some .local := by rfl)
    (hs : ∀ x, foldedSetIterable iter X.env x = pure x := by intro _; rfl) : SS X W cm (.Assign [.Name y py] (.ListComp elt [⟨tg, iter, ifs, 0⟩] scope pos) spos) (bnd (mComp mi t mt me (own.map (·.2))) (setR i)) := ⟨fun {F0 F H0 H ev σ D} b h => by
  obtain ⟨wi, hpi, hwi⟩ := si.ex
  refine sS_of (ps_setLc (g := cG X scope tg) (tt := cT X scope ifs) (te := cE X scope elt) hc hNd hy hyl hsw hpi ok (fun s H C cl fp => ⟨fun pins s' σ H' v u Q' I ru q => q s H C cl fp pins s' u I ru⟩)
    (fun s H C cl fp => ⟨fun pins s' σ H' Q' I q => sTs_pt.run pins s' σ H' Q' I (q s H C cl fp)⟩)
    (fun s H C cl fp => ⟨fun pins s' σ H' Q' I q => q s H C cl fp pins s' I⟩) hs) ?_
  refine comp_core hg ht he hj hwi b.er ((h.expr b).mono fun r ev1 F1 H1 a hh v rv => ?_)
  obtain ⟨ev', e1⟩ := setR_nx hh.2.not_bad
  exact hh.2.nx e1 ((b.aft a).bs.set b.er.same rv e1)⟩
end
end Pv
set_option Elab.async false
set_option linter.all false
set_option maxRecDepth 100000
namespace Pv
open PySem PySem.Spec L2
open PyProof.Rows hiding St
section
variable {X : Cx} {W : WX} {cm : CM}
def tyP : PV → Option String
  | .non => some "NoneType" | .bl _ => some "bool" | .int _ => some "int" | .str _ => some "str" | .tup _ => some "tuple" | .lst _ => some "list"
  | _ => none
theorem RepT.ty {K : Fr} {F : FS} {H : Hp} {v : V} {p : PV} {t : String} (r : RepT K F H v p) (e : tyP p = some t) : TyX K H v (.type t) := by
  cases p with
  | non => cases e; have r' : v = .non := r; subst r'; exact .base .non
  | bl b => cases e; have r' : v = .bl b := r; subst r'; exact .base (.bl b)
  | int b => cases e; have r' : v = .int b := r; subst r'; exact .base (.int b)
  | str b => cases e; have r' : v = .str b := r; subst r'; exact .base (.str b)
  | lst ps =>
    cases e
    obtain ⟨a, xs, rfl, h, _⟩ := r
    exact .base (.lst h)
  | tup ps =>
    cases e
    have r' : Rep K F H v (.tup ps) := r
    unfold Rep at r'
    obtain ⟨a, xs, rfl, h, _⟩ := r'
    rcases h with ⟨o, h, _⟩ | ⟨o, its, n, h1, h2, _⟩
    · exact .fTuple h
    · exact .kTuple h1 h2
  | _ => cases e
def mIsi (T : String) (m : M PV) : M RV := bnd m fun p => match tyP p with
  | some t => match kitB t T with
    | some b => ret (.bl b, false)
    | none => bad
  | none => bad
theorem e_isi {T : String} {x : Str} {e : Expr} {m : M PV} {p p2 pos : Pos} (hm : X.mg "isinstance" = none) (hmT : X.mg x = none) (hvT : bootBuiltins x = some (.type T)) (s : Pv.SP X W cm e m) (hg : Gl X "isinstance" := by rfl) (hgT : Gl X x := by rfl) (hn : x ≠ "__name__" := by decide) (hd : (x == ("__debug__" : Str)) = false := by decide)
    (he : starEach [e, .Name x p2] X.env = (false, eval e X.env) :: starEach [.Name x p2] X.env := by rfl) (he2 : starEach [.Name x p2] X.env = (false, eval (.Name x p2) X.env) :: starEach [] X.env := by rfl) (hpl : (backTo pos (starEach [.Name x p2] X.env)).any (·.1) = false := by rfl) :
    SE X W cm (.Call (.Name "isinstance" p) [e, .Name x p2] [] pos) (mIsi T m) := .mk' fun F H0 H ev σ Q r h => by
  refine sE_of (pe_callB call_isi hg hm PyProof.Rows.boot_isinstance (pa_cons sE_pe (pa_cons (pe_bltn (v := .ty T) hgT hmT hvT rfl hn hd) pa_nil he2) he) (by decide) (by decide) he hpl) ?_
  refine s.go r (h.bnd.mono fun q ev1 F1 H1 a1 hh v rv => ?_)
  have h2 := hh.2
  cases e1 : tyP q with
  | none => simp only [e1] at h2; exact h2.elim
  | some t =>
    simp only [e1] at h2
    cases e2 : kitB t T with
    | none => simp only [e2] at h2; exact h2.elim
    | some b =>
      simp only [e2] at h2
      exact ⟨v, .ty T, .type t, .type T, b, rfl, .ty T, rv.ty e1, kit_ty e2, Wt.ret a1.er h2 _ res_bl⟩
def mIsE (i : Nat) (b : Bool) (a : Addr) : M RV := fun ev => match ev[i]? with
  | some (.val (.opq v)) => if v = .ref a then .ok (.bl b, false) ev else .bad
  | _ => .bad
inductive ClsN (X : Cx) (x : Str) : Value → Prop where
  | own (C : Addr) : X.mg x = some (.ref C) → ClsN X x (.ref C)
  | ty (T : String) : X.mg x = none → bootBuiltins x = some (.type T) → x ≠ "__name__" → ClsN X x (.type T)
structure KD (X : Cx) (x : Str) (d : Str → Option Int) : Prop where
  ex : ∃ (a : Addr) (es : Array DictEntry) (n : Nat), X.mg x = some (.ref a) ∧ KDict X.K X.w a es n ∧ ∀ z : Str, (d z = none → PySem.W.nsIn X.K a z = some none) ∧ ∀ i, d z = some i → ∃ t, PySem.W.nsIn X.K a z = some (some (.int i t))
def mKdIn (neg : Bool) (d : Str → Option Int) (m : M PV) : M RV := bnd m fun p => match p with
  | .str z => ret (.bl (xor neg (d z).isSome), false)
  | _ => bad
theorem t_kdNotIn {x : Str} {d : Str → Option Int} {e : Expr} {m : M PV} {p pos : Pos} (k : KD X x d) (s : Pv.SP X W cm e m) (hg : Gl X x := by rfl) (hd : (x == ("__debug__" : Str)) = false := by decide) : ST X W cm (.Compare e [.NotIn] [.Name x p] pos) (blOf (mKdIn true d m)) := .mk' fun F H0 H ev σ Q r h => by
  obtain ⟨a, es, n, hm, K, hz⟩ := k.ex
  refine sT_of (pt_cmpR (op_notIn_kd K) sE_pe (pe_glob (v := .ref a) hg hm rfl hd) rfl) ?_
  refine s.go r (h.bnd.bnd.mono fun q ev1 F1 H1 a1 hh v rv => ?_)
  have h2 := hh.2
  cases q with
  | str z =>
    have e1 : v = .str z := rv
    have h3 := (Wt.ret (P := fun (r : RV) ev' F' H' => Aft X.K F H0 ev ev' σ H F' H' ∧ Wt X.K W cm F' H0 ev' σ H' (match r.1 with
      | .bl b => ret b
      | _ => bad) fun b _ _ H' => Q b H') a1.er h2).2
    have h4 := Wt.ret (P := fun b _ _ H' => Q b H') a1.er h3
    cases e2 : d z with
    | none =>
      rw [e2] at h4
      exact ⟨z, none, e1, rfl, (hz z).1 e2, true, rfl, h4⟩
    | some i =>
      obtain ⟨t, e3⟩ := (hz z).2 i e2
      rw [e2] at h4
      exact ⟨z, _, e1, rfl, e3, false, rfl, h4⟩
  | _ => exact h2.elim
end
end Pv
set_option Elab.async false
set_option linter.all false
set_option maxRecDepth 100000
namespace Pv
open PySem PySem.Spec L2
open PyProof.Rows hiding St
section
variable {X : Cx} {W : WX} {cm : CM}
def mKdIx (d : Str → Option Int) (m : M PV) : M RV := bnd m fun p => match p with
  | .str z => match d z with
    | some i => ret (.int i, false)
    | none => bad
  | _ => bad
theorem e_kdIx {x : Str} {d : Str → Option Int} {e : Expr} {m : M PV} {p pos : Pos} (k : KD X x d) (s : Pv.SP X W cm e m) (hg : Gl X x := by rfl) (hd : (x == ("__debug__" : Str)) = false := by decide) (hs : PlainIx e := by exact fun _ _ => rfl) : SE X W cm (.Subscript (.Name x p) e pos) (mKdIx d m) := .mk' fun F H0 H ev σ Q r h => by
  obtain ⟨a, es, n, hm, K, hz⟩ := k.ex
  refine sE_of (pe_ix ix_kdict (pe_glob (v := .ref a) hg hm rfl hd) sE_pe hs) ?_
  refine s.go r (h.bnd.mono fun q ev1 F1 H1 a1 hh v rv => ?_)
  have h2 := hh.2
  cases q with
  | str z =>
    have e1 : v = .str z := rv
    cases e2 : d z with
    | none => simp only [e2] at h2; exact h2.elim
    | some i =>
      simp only [e2] at h2
      obtain ⟨t, e3⟩ := (hz z).2 i e2
      exact ⟨a, z, .int i, rfl, e1, ⟨es, n, _, K.at_, K.lit, e3, ⟨t, rfl⟩⟩, Wt.ret a1.er h2 _ res_int⟩
  | _ => exact h2.elim
def mRg1 (m : M PV) : M (Int × Int) := bnd m fun p => match p with
  | .int j => ret (0, j)
  | _ => bad
def okRg (r : Int × Int) : Bool := okR r.1 && okR r.2 && decide ((r.2 - r.1).toNat ≤ SZ)
def mLstRg (m : M (Int × Int)) : M RV := bnd m fun r => if okRg r then ret (.lst (rgP r.1 (r.2 - r.1).toNat), true) else bad
def mTupRg (m : M (Int × Int)) : M RV := bnd m fun r => if okRg r then ret (.tup (rgP r.1 (r.2 - r.1).toNat), false) else bad
structure SR (X : Cx) (W : WX) (cm : CM) (e : Expr) (m : M (Int × Int)) : Prop where
  ex : ∃ t, PRg X e t ∧ ∀ {F : FS} {H0 H : Hp} {ev : SL} {σ : St} {Q : Int → Int → Hp → Prop}, ER X.K F H0 ev σ H → (Wt X.K W cm F H0 ev σ H m fun r _ _ H' => Q r.1 r.2 H') → t σ H Q
theorem r_1 {a : Expr} {m : M PV} {p pos : Pos} (hm : X.mg "range" = none) (s : Pv.SP X W cm a m) (hg : Gl X "range" := by rfl) (na : starEach [a] X.env = (false, eval a X.env) :: starEach [] X.env := by rfl) : SR X W cm (.Call (.Name "range" p) [a] [] pos) (mRg1 m) := ⟨_, prg_1 hg hm sE_pe na, fun {F H0 H ev σ Q} r h => by
  refine s.go r (h.bnd.mono fun q ev1 F1 H1 a1 hh v rv => ?_)
  have h2 := hh.2
  cases q with
  | int j => exact ⟨j, rv, Wt.ret (P := fun (r : Int × Int) _ _ H' => Q r.1 r.2 H') a1.er h2⟩
  | _ => exact h2.elim⟩
theorem rgV_rep {K : Fr} {F : FS} {H : Hp} (a b : Int) : RepL K F H (rgV a b) (rgP a (b - a).toNat) := by
  have e1 : rgV a b = ((List.range (b - a).toNat).map fun i => a + (i : Nat)).map V.int := by
    unfold rgV
    rw [List.map_map]
    rfl
  have e2 : rgP a (b - a).toNat = ((List.range (b - a).toNat).map fun i => a + (i : Nat)).map PV.int := by
    unfold rgP
    rw [List.map_map]
    rfl
  rw [e1, e2]
  exact RepL.of_ints _
theorem okRg_ok {r : Int × Int} (h : okRg r = true) : RgOk r.1 r.2 := by
  unfold okRg okR at h
  simp only [Bool.and_eq_true, decide_eq_true_eq] at h
  exact ⟨h.1.1.1, h.1.1.2, h.1.2.1, h.1.2.2, h.2⟩
theorem e_lstRg {e : Expr} {m : M (Int × Int)} {p pos : Pos} (hc : X.calm = true) (hm : X.mg "list" = none) (s : SR X W cm e m) (hg : Gl X "list" := by rfl) (na : starEach [e] X.env = (false, eval e X.env) :: starEach [] X.env := by rfl) : SE X W cm (.Call (.Name "list" p) [e] [] pos) (mLstRg m) := .mk' fun F H0 H ev σ Q r h => by
  obtain ⟨t, ht, hq⟩ := s.ex
  refine sE_of (pe_listRg hc hg hm ht na) ?_
  refine hq r (h.bnd.mono fun q ev1 F1 H1 a1 hh => ?_)
  have h2 := hh.2
  by_cases c : okRg q = true
  · rw [if_pos c] at h2
    refine ⟨okRg_ok c, fun l hl => ?_⟩
    exact h2 F1 _ (a1.er.fresh hl) _ (a1.er.newL a1.same hl (rgV_rep _ _))
  · rw [if_neg c] at h2
    exact h2.elim
theorem tupRg_X {e : Expr} {te : L2.St → Hp → (Int → Int → Hp → Prop) → Prop} {p pos : Pos} (hc : X.calm = true) (hg : Gl X "tuple") (hm : X.mg "tuple" = none) (he : PRg X e te) (na : starEach [e] X.env = (false, eval e X.env) :: starEach [] X.env) :
    PE X (.Call (.Name "tuple" p) [e] [] pos) (fun σ H Q => te σ H fun a b H1 => RgOk a b ∧ NewT (rgV a b) Q H1) := ⟨fun pins s σ H Q I h => by
  refine Call_ (ld_blt I hg hm boot_tuple (PyProof.Rows.callWith_type1 (args_cons (thn (he pins s σ H _ I h) fun x s1 z => ?_) na) na))
  obtain ⟨r, a, b, t, u, v, H1, ex, hr, J, ok, q⟩ := z
  refine args_nil ?_
  subst ex
  have hc1 := ok.2.2.2.2
  refine call_tuple_range (n := (b - a).toNat) (J.ok.hd hc) hr (small_one ok.1 ok.2.1 ok.2.2.1 ok.2.2.2.1) (rangeSize_nat a b) hc1 fun h' tk acc hk hi => ?_
  obtain ⟨us, rfl⟩ : ∃ us : List Value, acc = us.toArray := ⟨acc.toList, by simp⟩
  exact Inv.newTup J hk (by simpa using vals_rg hi) (by unfold rgV; rw [List.length_map, List.length_range]; exact hc1) q⟩
theorem e_tupRg {e : Expr} {m : M (Int × Int)} {p pos : Pos} (hc : X.calm = true) (hm : X.mg "tuple" = none) (s : SR X W cm e m) (hg : Gl X "tuple" := by rfl) (na : starEach [e] X.env = (false, eval e X.env) :: starEach [] X.env := by rfl) : SE X W cm (.Call (.Name "tuple" p) [e] [] pos) (mTupRg m) := .mk' fun F H0 H ev σ Q r h => by
  obtain ⟨t, ht, hq⟩ := s.ex
  refine sE_of (tupRg_X hc hg hm ht na) ?_
  refine hq r (h.bnd.mono fun q ev1 F1 H1 a1 hh => ?_)
  have h2 := hh.2
  by_cases c : okRg q = true
  · rw [if_pos c] at h2
    refine ⟨okRg_ok c, fun l o hl h3 h4 => ?_⟩
    exact h2 F1 _ (a1.er.fresh hl) _ (a1.er.newT hl h3 h4 (rgV_rep _ _))
  · rw [if_neg c] at h2
    exact h2.elim
def dedup : List Int → List Int := fun ns => ns.foldl (fun σ k => if σ.any (· == k) then σ else σ ++ [k]) []
theorem lenSet_X {a : Expr} {ta : TE} {p p2 q pos : Pos} (hc : X.calm = true) (hg : Gl X "len") (hm : X.mg "len" = none) (hg2 : Gl X "set") (hm2 : X.mg "set" = none) (ha : PE X a ta) (na : starEach [a] X.env = (false, eval a X.env) :: starEach [] X.env) :
    PE X (.Call (.Name "len" p) [.Call (.Name "set" p2) [a] [] q] [] pos) (fun σ H Q => ta σ H fun x H1 => ∃ (l : Addr) (ns : List Int), x = .ref l ∧ SqL X.K H1 l (ns.map V.int) ∧ ns.length ≤ 1000 ∧ Q (.int ((dedup ns).length : Nat)) H1) := ⟨fun pins s σ H Q I h => by
  refine Call_ (ld_blt I hg hm boot_len (PyProof.Rows.callWith_builtin1 (args_cons ?_ rfl) rfl rfl))
  refine Call_ (ld_blt I hg2 hm2 boot_set (PyProof.Rows.callWith_type1 (args_cons (thn (ha.run pins s σ H _ I h) fun v s1 z => args_nil ?_) na) na rfl))
  obtain ⟨x, H1, J, r, l, ns, rfl, hq, hl, q1⟩ := z
  cases r
  obtain ⟨its, ri, pl, -⟩ := J.list hq
  have hlen : its.toArray.size = ns.length := by rw [List.size_toArray, ← ri.length, List.length_map]
  have ef : PyProof.Rows.firstMet (fun i => ns.getD i 0) its.toArray.size = dedup ns := by
    unfold PyProof.Rows.firstMet
    rw [hlen]
    have : (List.range ns.length).map (fun i => ns.getD i 0) = ns := by
      apply List.ext_getElem
      · rw [List.length_map, List.length_range]
      · intro i h1 h2
        simp only [List.getElem_map, List.getElem_range, List.getD_eq_getElem?_getD]
        rw [List.getElem?_eq_getElem h2]
        rfl
    rw [this]
    rfl
  have hle : (dedup ns).length ≤ ns.length := by
    rw [← ef, hlen]
    exact PyProof.Rows.firstMet_length_le _ _
  refine call_set_list (J.ok.hd hc) pl.isList (by simpa using ri.ints) (by rw [hlen]; unfold scanBound; omega) fun h' tk hS hk => args_nil ?_
  rw [ef] at hS
  obtain ⟨o, es, ep, t, ho, hex, hd, _, _, _, hf, hn⟩ := hS
  have J2 : L2.Inv X pins σ H1 { s1 with heap := h', toks := tk } := J.kept fun b o e => hk b o (Heap.lt_size e) e
  exact call_len_set ho hex hd hf (by rw [hn]; omega) ⟨.int ((dedup ns).length : Nat), H1, J2.tok _, ⟨_, by rw [hn]⟩, q1⟩⟩
def mLenSet (m : M PV) : M RV := bnd m fun p => match p with
  | .lst ps => match intsP ps with
    | some ns => if ns.length ≤ 1000 then ret (.int ((dedup ns).length : Nat), false) else bad
    | none => bad
  | _ => bad
theorem e_lenSet {a : Expr} {m : M PV} {p p2 q pos : Pos} (hc : X.calm = true) (hm : X.mg "len" = none) (hm2 : X.mg "set" = none) (s : Pv.SP X W cm a m) (hg : Gl X "len" := by rfl) (hg2 : Gl X "set" := by rfl) (na : starEach [a] X.env = (false, eval a X.env) :: starEach [] X.env := by rfl) :
    SE X W cm (.Call (.Name "len" p) [.Call (.Name "set" p2) [a] [] q] [] pos) (mLenSet m) := .mk' fun F H0 H ev σ Q r h => by
  refine sE_of (lenSet_X hc hg hm hg2 hm2 sE_pe na) ?_
  refine s.go r (h.bnd.mono fun q ev1 F1 H1 a1 hh v rv => ?_)
  have h2 := hh.2
  cases q with
  | lst ps =>
    cases e : intsP ps with
    | none => simp only [e] at h2; exact h2.elim
    | some ns =>
      simp only [e] at h2
      obtain ⟨l, xs, rfl, hx, rl⟩ := rv
      rw [intsP_eq e] at rl
      have ex := rl.ints
      subst ex
      by_cases c : ns.length ≤ 1000
      · rw [if_pos c] at h2
        exact ⟨l, ns, rfl, SqL.of hx, c, Wt.ret a1.er h2 _ res_int⟩
      · rw [if_neg c] at h2; exact h2.elim
  | _ => exact h2.elim
theorem pe_bmT {o e : Expr} {es : List Expr} {to : TE} {t : TA} {name : Str} {apos cpos : Pos} {id : String} {r : V → List V → Hp → VK → Prop} (slot : PySem.Slot "tuple" name id) (hty : typeOf (Value.builtin id) = pure (Value.type "method_descriptor")) (hm : MtR X id r) (ho : PE X o to) (ha : PA X (e :: es) t)
    (hbase : attributeBase o name X.env (eval o X.env) = eval o X.env)
    (hfew : ((((backTo cpos (starEach (e :: es) X.env)).all fun x => !x.fst) && (backToKw cpos (keywordEach [] X.env)).all fun x => x.fst.isSome) && decide (((e :: es).length + ([] : List Keyword).length + if ([] : List Keyword).isEmpty = true then 0 else 1) < 30)) = true)
    (hline : (apos.endLine == cpos.line) = true) (hs : starEach (e :: es) X.env = (false, eval e X.env) :: starEach es X.env) (hpl : ((backTo cpos (starEach es X.env)).any fun x => x.fst) = false) :
    PE X (.Call (.Attribute o name apos) (e :: es) [] cpos) (fun σ H Q => to σ H fun x H1 => (∃ p xs, x = .ref p ∧ TpX X.K H1 p xs) ∧ t σ H1 fun vs H2 => r x vs H2 Q) := ⟨fun pins s σ H Q I h =>
  wpAny_Call_method_late hbase hfew hline rfl (thn (ho.run pins s σ H _ I h) fun v s1 z => by
    obtain ⟨x, H1, J, rx, ⟨p, xs, rfl, hx⟩, q1⟩ := z
    cases rx
    have hob : ∃ ob, s1.heap.get? p = some ob ∧ ob.cls = .type "tuple" ∧ ob.dict = none := by
      rcases hx with ⟨o, h, h1, h2⟩ | ⟨o, its, n, h1, h2, h3, _⟩
      · exact ⟨o, (J.hok p _ h).1, h1, h2⟩
      · exact ⟨o, J.kIn p o h1, h2, h3⟩
    obtain ⟨ob, g1, g2, g3⟩ := hob
    refine ⟨"tuple", id, PySem.F.plainAttrs_tuple, slot, hty, ⟨ob, g1, g2⟩, fun a e => ?_, ?_⟩
    · cases e; exact ⟨ob, g1, g3⟩
    · have hA := ha.run cpos pins s1 σ H1 _ J q1
      rw [hs] at hA ⊢
      refine Calls.callWith_builtin (by show (false || (backTo cpos (starEach es X.env)).any (·.1)) = false; rw [hpl]; rfl) (Calls.evalArgs_plain (thn hA fun us s2 z => ?_))
      obtain ⟨vs, H2, J2, r2, q2⟩ := z
      exact hm pins s2 σ H2 (.ref p) vs (.ref p) us Q J2 rfl r2 q2)⟩
theorem mt_tupIx : MtR X "tuple.index" (fun x vs H Q => ∃ (p : Addr) (ns : List Int) (k : Int), x = .ref p ∧ vs = [.int k] ∧ SqT X.K H p (ns.map V.int) ∧ k ∈ ns ∧ Q (.int (ns.idxOf k : Nat)) H) := by
  rintro pins s σ H x vs v us Q I rx rs ⟨p, ns, k, rfl, rfl, hq, hk, q⟩
  cases rx
  obtain ⟨u, rfl, t, rfl⟩ := vals1 rs
  obtain ⟨its, ri, pl, -⟩ := I.tuple hq
  exact SeqAt.tuple_index_ints pl ri.ints hk ⟨.int (ns.idxOf k : Nat), H, I.tok _, ⟨_, rfl⟩, q⟩
theorem mt_lstIx : MtR X "list.index" (fun x vs H Q => ∃ (p : Addr) (ns : List Int) (k : Int), x = .ref p ∧ vs = [.int k] ∧ SqL X.K H p (ns.map V.int) ∧ k ∈ ns ∧ Q (.int (ns.idxOf k : Nat)) H) := by
  rintro pins s σ H x vs v us Q I rx rs ⟨p, ns, k, rfl, rfl, hq, hk, q⟩
  cases rx
  obtain ⟨u, rfl, t, rfl⟩ := vals1 rs
  obtain ⟨its, ri, pl, hz⟩ := I.list hq
  exact SeqAt.list_index_ints pl.isList ri.ints (by rwa [List.length_map] at hz) hk ⟨.int (ns.idxOf k : Nat), H, I.tok _, ⟨_, rfl⟩, q⟩
def gIndexT : PV → PV → Option RV
  | .tup ps, .int k => match intsP ps with
    | some ns => if k ∈ ns then vI (ns.idxOf k : Nat) else none
    | none => none
  | _, _ => none
def gIndexL : PV → PV → Option RV
  | .lst ps, .int k => match intsP ps with
    | some ns => if k ∈ ns then vI (ns.idxOf k : Nat) else none
    | none => none
  | _, _ => none
theorem gIndexT_ok {p q : PV} {r : RV} (e : gIndexT p q = some r) : ∃ (ns : List Int) (k : Int), p = .tup (ns.map .int) ∧ q = .int k ∧ k ∈ ns ∧ r = (.int (ns.idxOf k : Nat), false) := by
  unfold gIndexT at e
  split at e
  · split at e
    · rename_i ns hi
      split at e
      · rename_i c
        cases e
        exact ⟨ns, _, by rw [intsP_eq hi], rfl, c, rfl⟩
      · cases e
    · cases e
  · cases e
theorem gIndexL_ok {p q : PV} {r : RV} (e : gIndexL p q = some r) : ∃ (ns : List Int) (k : Int), p = .lst (ns.map .int) ∧ q = .int k ∧ k ∈ ns ∧ r = (.int (ns.idxOf k : Nat), false) := by
  unfold gIndexL at e
  split at e
  · split at e
    · rename_i ns hi
      split at e
      · rename_i c
        cases e
        exact ⟨ns, _, by rw [intsP_eq hi], rfl, c, rfl⟩
      · cases e
    · cases e
  · cases e
def onlyT (m : M PV) : M PV := bnd m fun p => match p with
  | .tup ps => ret (.tup ps)
  | _ => bad
def onlyL (m : M PV) : M PV := bnd m fun p => match p with
  | .lst ps => ret (.lst ps)
  | _ => bad
theorem e_indexT {o e : Expr} {mo me : M PV} {apos cpos : Pos} (so : Pv.SP X W cm o mo) (se : Pv.SP X W cm e me)
    (hbase : attributeBase o "index" X.env (eval o X.env) = eval o X.env := by rfl)
    (hfew : ((((backTo cpos (starEach [e] X.env)).all fun x => !x.fst) && (backToKw cpos (keywordEach [] X.env)).all fun x => x.fst.isSome) && decide (([e].length + ([] : List Keyword).length + if ([] : List Keyword).isEmpty = true then 0 else 1) < 30)) = true := by rfl)
    (hline : (apos.endLine == cpos.line) = true := by rfl) (hs : starEach [e] X.env = (false, eval e X.env) :: starEach [] X.env := by rfl) : SE X W cm (.Call (.Attribute o "index" apos) [e] [] cpos) (eOp gIndexT (onlyT mo) me) := .mk' fun F H0 H ev σ Q r h => by
  refine sE_of (pe_bmT PySem.F.slot_tuple_index PySem.F.type_tuple_index sMt_ok sE_pe (pa_cons sE_pe pa_nil hs) hbase hfew hline hs rfl) ?_
  refine so.go r (h.bnd.bnd.mono fun p ev1 F1 H1 a1 hh x rx => ?_)
  have h2 := hh.2
  cases p with
  | tup ps =>
    have h3 := (h2 F1 H1 a1.er.aft).2
    have rx' : Rep X.K F1 H1 x (.tup ps) := rx
    unfold Rep at rx'
    obtain ⟨a, xs, ea, hx, rl⟩ := rx'
    refine ⟨⟨a, xs, ea, hx⟩, ?_⟩
    refine se.go a1.er (h3.bnd.mono fun q ev2 F2 H2 a2 hh2 y ry => ?_)
    have h4 := hh2.2
    show sMt X "tuple.index" x [y] H2 Q
    cases eg : gIndexT (.tup ps) q with
    | none => rw [eg] at h4; exact h4.elim
    | some z =>
      rw [eg] at h4
      obtain ⟨ns, k, e1, rfl, hk, rfl⟩ := gIndexT_ok eg
      cases e1
      have ey : y = .int k := ry
      subst ey ea
      have rl2 := rl.ints
      subst rl2
      exact sMt_of mt_tupIx ⟨a, ns, k, rfl, rfl, SqT.same a2.same hx.sqT, hk, Wt.ret a2.er h4 _ res_int⟩
  | _ => exact h2.elim
theorem e_indexL {o e : Expr} {mo me : M PV} {apos cpos : Pos} (so : Pv.SP X W cm o mo) (se : Pv.SP X W cm e me)
    (hbase : attributeBase o "index" X.env (eval o X.env) = eval o X.env := by rfl)
    (hfew : ((((backTo cpos (starEach [e] X.env)).all fun x => !x.fst) && (backToKw cpos (keywordEach [] X.env)).all fun x => x.fst.isSome) && decide (([e].length + ([] : List Keyword).length + if ([] : List Keyword).isEmpty = true then 0 else 1) < 30)) = true := by rfl)
    (hline : (apos.endLine == cpos.line) = true := by rfl) (hs : starEach [e] X.env = (false, eval e X.env) :: starEach [] X.env := by rfl) : SE X W cm (.Call (.Attribute o "index" apos) [e] [] cpos) (eOp gIndexL (onlyL mo) me) := .mk' fun F H0 H ev σ Q r h => by
  refine sE_of (pe_bm PySem.F.plainAttrs_list PySem.F.slot_list_index PySem.F.type_list_index sMt_ok sE_pe (pa_cons sE_pe pa_nil hs) hbase hfew hline hs rfl) ?_
  refine so.go r (h.bnd.bnd.mono fun p ev1 F1 H1 a1 hh x rx => ?_)
  have h2 := hh.2
  cases p with
  | lst ps =>
    have h3 := (h2 F1 H1 a1.er.aft).2
    obtain ⟨a, xs, ea, hx, rl⟩ := rx
    refine ⟨by rw [ea]; exact .inl ⟨rfl, xs, SqL.of hx⟩, ?_⟩
    refine se.go a1.er (h3.bnd.mono fun q ev2 F2 H2 a2 hh2 y ry => ?_)
    have h4 := hh2.2
    show sMt X "list.index" x [y] H2 Q
    cases eg : gIndexL (.lst ps) q with
    | none => rw [eg] at h4; exact h4.elim
    | some z =>
      rw [eg] at h4
      obtain ⟨ns, k, e1, rfl, hk, rfl⟩ := gIndexL_ok eg
      cases e1
      have ey : y = .int k := ry
      subst ey ea
      have rl2 := rl.ints
      subst rl2
      exact sMt_of mt_lstIx ⟨a, ns, k, rfl, rfl, SqL.of (a2.same _ _ hx), hk, Wt.ret a2.er h4 _ res_int⟩
  | _ => exact h2.elim
end
end Pv
set_option Elab.async false
set_option linter.all false
set_option maxRecDepth 100000
namespace Pv
open PySem PySem.Spec L2
open PyProof.Rows hiding St
section
variable {X : Cx} {W : WX} {cm : CM}
def mSeq (m : M RV) : M (List PV) := bnd m fun r => match r.1 with
  | .lst ps => ret ps
  | .tup ps => ret ps
  | _ => bad
theorem pi_or {tg iter : Expr} {a b : TI} (h1 : PI X tg iter a) (h2 : PI X tg iter b) : PI X tg iter (fun σ H R => a σ H R ∨ b σ H R) := ⟨fun pins s σ H R I h => by
  rcases h with h | h
  · exact h1.run pins s σ H R I h
  · exact h2.run pins s σ H R I h⟩
theorem i_seq {tg e : Expr} {m : M RV} (s : SE X W cm e m) : SI X W cm tg e (mSeq m) := by
  obtain ⟨w1, p1, q1⟩ := (i_list (tg := tg) s).ex
  obtain ⟨w2, p2, q2⟩ := (i_tup (tg := tg) s).ex
  refine ⟨_, pi_or p1 p2, fun {F H0 H ev σ R} r h => ?_⟩
  by_cases c : ∃ ps fr ev', m ev = .ok (.tup ps, fr) ev'
  · obtain ⟨ps, fr, ev', e1⟩ := c
    refine .inr (q2 r ?_)
    unfold Wt mTupOf Pv.bnd at ⊢
    unfold Wt mSeq Pv.bnd at h
    simp only [e1] at h ⊢
    exact h
  · refine .inl (q1 r ?_)
    unfold Wt mLstOf Pv.bnd at ⊢
    unfold Wt mSeq Pv.bnd at h
    cases e1 : m ev with
    | bad => simp only [e1] at h
    | exc c ev1 => simp only [e1] at h ⊢; exact h
    | ok z ev1 =>
      simp only [e1] at h ⊢
      obtain ⟨p, fr⟩ := z
      cases p with
      | tup ps => exact absurd ⟨ps, fr, ev1, e1⟩ c
      | _ => exact h
def mIndex (mo me : M PV) : M RV := bnd mo fun p => match p with
  | .tup ps => bnd me fun q => opt (gIndexT (.tup ps) q)
  | .lst ps => bnd me fun q => opt (gIndexL (.lst ps) q)
  | _ => bad
theorem e_index {o e : Expr} {mo me : M PV} {apos cpos : Pos} (so : Pv.SP X W cm o mo) (se : Pv.SP X W cm e me)
    (hbase : attributeBase o "index" X.env (eval o X.env) = eval o X.env := by rfl)
    (hfew : ((((backTo cpos (starEach [e] X.env)).all fun x => !x.fst) && (backToKw cpos (keywordEach [] X.env)).all fun x => x.fst.isSome) && decide (([e].length + ([] : List Keyword).length + if ([] : List Keyword).isEmpty = true then 0 else 1) < 30)) = true := by rfl)
    (hline : (apos.endLine == cpos.line) = true := by rfl) (hs : starEach [e] X.env = (false, eval e X.env) :: starEach [] X.env := by rfl) : SE X W cm (.Call (.Attribute o "index" apos) [e] [] cpos) (mIndex mo me) := .mk' fun F H0 H ev σ Q r h => by
  by_cases c : ∃ ps ev', mo ev = .ok (.tup ps) ev'
  · obtain ⟨ps, ev', e1⟩ := c
    refine (e_indexT (apos := apos) (cpos := cpos) so se hbase hfew hline hs).go r ?_
    unfold Wt eOp onlyT Pv.bnd at ⊢
    unfold Wt mIndex Pv.bnd at h
    simp only [e1, Pv.ret] at h ⊢
    exact h
  · refine (e_indexL (apos := apos) (cpos := cpos) so se hbase hfew hline hs).go r ?_
    unfold Wt eOp onlyL Pv.bnd at ⊢
    unfold Wt mIndex Pv.bnd at h
    cases e1 : mo ev with
    | bad => simp only [e1] at h
    | exc c ev1 => simp only [e1] at h ⊢; exact h
    | ok z ev1 =>
      simp only [e1] at h ⊢
      cases z with
      | tup ps => exact absurd ⟨ps, ev1, e1⟩ c
      | lst ps => simp only [Pv.ret]; exact h
      | _ => exact h
theorem cal_bad {P : Program} {w : World} {K : Fr} {mg : Str → Option Value} {base : Heap} {x qual : Str} {st : Stmt} {f : Addr} {fd : FuncData} {ps : List Str} (F : Fun K x qual st f fd) (hg : mg x = some (.ref f)) (hb : Binds K fd ps []) :
    Cal P w K mg base cm 0 x (fun _ => .bad) := by
  have no : ∀ vs H Q E, ¬ spP K cm (fun _ => Rf.bad) vs H Q E := fun vs H Q E h => by
    obtain ⟨_, _, _, _, h⟩ := h
    exact h
  exact ⟨f, fd, ps, ⟨fun vs H Q E h => absurd h (no vs H Q E), fun A outer s H args us vs Q E _ _ _ _ h => absurd h (no vs H Q E)⟩, hg, F.kp, hb⟩
end
structure KD0 (w : World) (K : Fr) (mg : Str → Option Value) (x : Str) (d : Str → Option Int) : Prop where
  ex : ∃ (a : Addr) (es : Array DictEntry) (n : Nat), mg x = some (.ref a) ∧ KDict K w a es n ∧ ∀ z : Str, (d z = none → PySem.W.nsIn K a z = some none) ∧ ∀ i, d z = some i → ∃ t, PySem.W.nsIn K a z = some (some (.int i t))
theorem KD0.kd {X : Cx} {w : World} {K : Fr} {mg : Str → Option Value} {x : Str} {d : Str → Option Int} (h : KD0 w K mg x d) (e1 : X.w = w := by rfl) (e2 : X.K = K := by rfl) (e3 : X.mg = mg := by rfl) : KD X x d := by
  subst e1 e2 e3
  exact ⟨h.ex⟩
end Pv
set_option Elab.async false
set_option linter.all false
set_option maxRecDepth 100000
namespace Pv
open PySem PySem.Spec L2
open PyProof.Rows hiding St
theorem fun_of {K : Fr} {x qual : Str} {st : Stmt} {f : Addr} {fd : FuncData} (F : FunD K x qual (defArgs st) (defBody st) (defScope st) [] [] f fd) : Fun K x qual st f fd := by
  obtain ⟨oc, od, dV, kV, doc, pm, an, cdv, ct, osl, h1, h2, h3, h4, h5⟩ := F.ex
  rcases h4 with ⟨_, h4⟩ | ⟨h4, _⟩
  · subst h4
    exact ⟨⟨oc, od, kV, doc, pm, an, cdv, ct, osl, h1, h2, h3⟩, F.kp⟩
  · exact absurd rfl h4
theorem exK_of {K : Fr} {h : Heap} {mg : Str → Option Value} (X : K.In h) (G : h.Ns mainGlobals mg) {x : Str} (c : (He.Fa.exc x).ok K = true) (g : (He.Fa.glo x).ok K = true) : ExK K mg (cmK K) x := by
  obtain ⟨h1, h2, h3, h4⟩ := He.exc_ok c
  exact ⟨_, rfl, He.glo_ok X G g, h1, h2, h3, h4⟩
structure ClN (K : Fr) (mg : Str → Option Value) (cm : CM) (x : Str) : Prop where
  ex : ∃ C, cm x = .ref C ∧ mg x = some (.ref C)
theorem ClN.of {K : Fr} {h : Heap} {mg : Str → Option Value} (X : K.In h) (G : h.Ns mainGlobals mg) {x : Str} (g : (He.Fa.glo x).ok K = true) : ClN K mg (cmK K) x := ⟨_, rfl, He.glo_ok X G g⟩
theorem ClN.names {X : Cx} {cm : CM} {x : Str} (h : ClN X.K X.mg cm x) (hg : Gl X x := by rfl) (hd : (x == ("__debug__" : Str)) = false := by decide) : Names X x (cm x) := by
  obtain ⟨C, e1, e2⟩ := h.ex
  exact ⟨hg, hd, .inl (by rw [e1]; exact e2)⟩
theorem ClN.cls {X : Cx} {cm : CM} {x : Str} (h : ClN X.K X.mg cm x) : ClsN X x (cm x) := by
  obtain ⟨C, e1, e2⟩ := h.ex
  rw [e1]
  exact .own C e2
theorem excCB_ok {K : Fr} {x : Str} (h : excCB K x = true) : ExcC K (He.ga K x) := by
  unfold excCB at h
  simp only [Bool.and_eq_true, decide_eq_true_eq] at h
  obtain ⟨h1, h2, h3, h4, h5, h6, h7, h8⟩ := h
  exact ⟨h1, h2, h3, h4, h5, h6, h7, h8⟩
structure IsN (K : Fr) (cm : CM) (d : Str) (c : Value) (b : Bool) : Prop where
  ex : ∃ D, cm d = .ref D ∧ ExcC K D ∧ PySem.W.kitOne K (.ref D) c = some b
theorem IsN.of {K : Fr} {d : Str} {c : Fr → Value} {b : Bool} (h : isNB K d c b = true) : IsN K (cmK K) d (c K) b := by
  unfold isNB at h
  rw [Bool.and_eq_true, decide_eq_true_eq] at h
  exact ⟨_, rfl, excCB_ok h.1, h.2⟩
section
variable {X : Cx} {W : WX} {cm : CM}
end
section
variable {X : Cx} {W : WX} {cm : CM}
theorem e_compV {N : List Str} {sc : Scope} {vs : List Nat} (own : List (Str × Nat)) {elt tg iter : Expr} {ifs : List Expr} {scope : Scope} {pos : Pos} {js : List Nat} {mi : M (List PV)} {t : PV → SL → Option SL} {mt : M Bool} {me : M RV} (hc : X.calm = true) (hNd : X.N.Nodup) (ok : blkC N sc scope own = true)
    (si : SI X W cm tg iter mi) (hg : Blk X scope fun Y => SG Y W0 tg t js) (ht : Blk X scope fun Y => STs Y W0 cm ifs mt) (he : Blk X scope fun Y => SE Y W0 cm elt me) (hj : ∀ j ∈ js, j ∈ own.map (·.2) := by decide) (hvs : own.map (·.2) = vs := by rfl) (eN : X.N = N := by rfl) (eS : X.env.scope = sc := by rfl)
    (hs : ∀ x, foldedSetIterable iter X.env x = pure x := by intro _; rfl) : SE X W cm (.ListComp elt [⟨tg, iter, ifs, 0⟩] scope pos) (mComp mi t mt me vs) := by
  subst hvs eN eS
  exact e_comp hc hNd (blkOk_by ok) si hg ht he hj hs
theorem s_setCompV {N : List Str} {sc : Scope} {vs : List Nat} (own : List (Str × Nat)) {i : Nat} {y : Str} {py : Pos} {elt tg iter : Expr} {ifs : List Expr} {scope : Scope} {pos spos : Pos} {js : List Nat} {mi : M (List PV)} {t : PV → SL → Option SL} {mt : M Bool} {me : M RV} (hc : X.calm = true) (hNd : X.N.Nodup)
    (hsw : swapsWith (.ListComp elt [⟨tg, iter, ifs, 0⟩] scope pos) (some (.Name y py)) spos.line X.env = pure true) (ok : blkC N sc scope own = true)
    (si : SI X W cm tg iter mi) (hg : Blk X scope fun Y => SG Y W0 tg t js) (ht : Blk X scope fun Y => STs Y W0 cm ifs mt) (he : Blk X scope fun Y => SE Y W0 cm elt me) (hj : ∀ j ∈ js, j ∈ own.map (·.2) := by decide) (hvs : own.map (·.2) = vs := by rfl) (eN : X.N = N := by rfl) (eS : X.env.scope = sc := by rfl)
    (hy : X.N[i]? = some y := by rfl) (hyl : X.env.scope.names.lookup y = some .local := by rfl)
    (hs : ∀ x, foldedSetIterable iter X.env x = pure x := by intro _; rfl) : SS X W cm (.Assign [.Name y py] (.ListComp elt [⟨tg, iter, ifs, 0⟩] scope pos) spos) (bnd (mComp mi t mt me vs) (setR i)) := by
  subst hvs eN eS
  exact s_setComp hc hNd hsw (blkOk_by ok) si hg ht he hj hy hyl hs
end
theorem dictIs_find : ∀ {es : List DictEntry} {kvs : List (Str × Int)}, es.map entOf = kvs.map some → ∀ z : Str, (dOf kvs z = none → es.find? (fun x => x.key.isStr z) = none) ∧ ∀ i, dOf kvs z = some i → ∃ e t, es.find? (fun x => x.key.isStr z) = some e ∧ e.val = .int i t
  | [], [], _, z => ⟨fun _ => rfl, fun i e => by cases e⟩
  | e :: es, [], h, z => by cases h
  | [], q :: kvs, h, z => by cases h
  | e :: es, q :: kvs, h, z => by
    rw [List.map_cons, List.map_cons] at h
    injection h with h1 h2
    obtain ⟨i1, i2⟩ := dictIs_find h2 z
    unfold entOf at h1
    split at h1
    · rename_i x t i u ek ev
      cases h1
      unfold dOf at i1 i2 ⊢
      rw [List.find?_cons, List.find?_cons, ek]
      have es : (Value.str x t).isStr z = (x == z) := rfl
      rw [es]
      cases c : x == z with
      | true => exact ⟨fun e => (by cases e), fun j e => (by cases e; exact ⟨_, u, rfl, ev⟩)⟩
      | false => exact ⟨i1, i2⟩
    · cases h1
theorem dictIs_no : ∀ {es : List DictEntry} {kvs : List (Str × Int)}, es.map entOf = kvs.map some → (es.any fun x => x.refKey) = false
  | [], [], _ => rfl
  | e :: es, [], h => by cases h
  | [], q :: kvs, h => by cases h
  | e :: es, q :: kvs, h => by
    rw [List.map_cons, List.map_cons] at h
    injection h with h1 h2
    rw [List.any_cons, dictIs_no h2, Bool.or_false]
    unfold entOf at h1
    split at h1
    · rename_i x t i u ek ev
      unfold DictEntry.refKey
      rw [ek]
    · cases h1
theorem kd0_of {w : World} {K : Fr} {h : Heap} {mg : Str → Option Value} {x : Str} {kvs : List (Str × Int)} (X : K.In h) (G : h.Ns mainGlobals mg) (g : (He.Fa.glo x).ok K = true) (t : ∃ es n, KDict K w (He.ga K x) es n) (c : dictIs K (He.ga K x) kvs = true) : KD0 w K mg x (dOf kvs) := by
  obtain ⟨es, n, D⟩ := t
  refine ⟨_, es, n, He.glo_ok X G g, D, fun z => ?_⟩
  unfold dictIs at c
  rw [D.at_] at c
  have c := of_decide_eq_true c
  obtain ⟨h1, h2⟩ := dictIs_find c z
  have h3 := dictIs_no c
  constructor
  · intro e
    unfold PySem.W.nsIn
    rw [D.at_]
    simp only [h1 e, h3]
    rfl
  · intro i e
    obtain ⟨e0, t, q1, q2⟩ := h2 i e
    refine ⟨t, ?_⟩
    unfold PySem.W.nsIn
    rw [D.at_]
    simp only [q1, q2]
end Pv
set_option Elab.async false
set_option linter.all false
set_option maxRecDepth 100000
namespace Pv
open PySem PySem.Spec L2
open PyProof.Rows hiding St
theorem walk_law {l : PySem.W.OpenLaw} {n k : Nat} {q : Program} {loose : List Str} {XP : (Str → Option Value) → Heap → Prop} {YP : World → Heap → Prop} {d : DefRec} {x : Str}
    (hn : l.most = some n) (hn2 : n ≤ sizeLine) (hdf : d.params.defaults = []) (hr : Room k callerA)
    (F : ∀ (w : World) (mg : Str → Option Value) (fa : Addr) (h : Heap), YP w h → h.Ns mainGlobals mg → mg d.name = some (.ref fa) →
      ∃ (K : Fr) (fd : FuncData) (f : Fn) (cm : CM), K.In h ∧ (∀ (s : Shared) (u : Value), BindsTo s fd ⟨[u], []⟩ [(x, u)]) ∧
        (∀ ns : List Int, ns.length ≤ n → f [.scr ns] = .ok (.bl true, false)) ∧
        ∀ base : Heap, K.In base → base.Ns mainGlobals mg → FnOk l.prog w K mg base (L2.CX l.prog w) k fa fd [x] (spP K cm f))
    (hCX : ∀ (w : World) (H : Hp) (s : Shared) (e : Value) (s' : Shared), L2.CX l.prog w [] H s (fun _ _ _ => False) e s' → False) :
    PySem.W.WalkO q loose XP YP l.row.toRowW d [] (fun f vs => PySem.call f vs) := by
  refine Att.attach_call hn hdf fun w s₀ s₁ mg mb fa o pm cd doc a vs ns G Y ho hd hcd hmg hobj hints hlen hg => ?_
  obtain ⟨K, fd, f, cm, KX, hb, hsp, hF⟩ := F w mg fa _ Y G.T.g hmg
  refine law_call KX G.T.g G.T.b G.T.builtins G.T.nolimit hg hobj hints (Nat.le_trans hlen hn2) hr hF hb (fun H hO hS => ?_) fun H e s' => hCX w H s₁ e s'
  refine ⟨fun y => H y ≠ none, [.scr ns], fun _ h => h, RepL.cons ?_ RepL.nil, ?_⟩
  · unfold Rep
    refine ⟨a, rfl, ?_⟩
    rcases hS with h | h
    · refine .inl ⟨?_, h⟩
      rcases h with h | ⟨u, h⟩ <;> rw [h] <;> exact fun z => nomatch z
    · exact .inr h
  · rw [hsp ns hlen]
    intro F' v H' _ _ _ _ q
    have e : v = .bl true := q
    exact e
end Pv
set_option Elab.async false
set_option linter.all false
set_option maxRecDepth 100000
namespace Pv
open PySem PySem.Spec L2
open PyProof.Rows hiding St
section
variable {α β : Type} {ev : SL}
@[simp] theorem bnd_ap {m : M α} {f : α → M β} : bnd m f ev = match m ev with
  | .ok a ev' => f a ev'
  | .exc c ev' => .exc c ev'
  | .bad => .bad := rfl
@[simp] theorem ret_ap {a : α} : ret a ev = .ok a ev := rfl
@[simp] theorem bad_ap : (bad : M α) ev = .bad := rfl
@[simp] theorem look_ap {m : M RV} : look m ev = bnd m (fun r => ret r.1) ev := rfl
@[simp] theorem eVar_ap {i : Nat} : eVar i ev = match ev[i]? with
  | some (.val p) => .ok (p, false) ev
  | some (.own ps) => .ok (.lst ps, false) (ev.set i (.val (.lst ps)))
  | some (.dow ks ps) => .ok (.dct ks ps, false) (ev.set i (.val (.dct ks ps)))
  | _ => .bad := rfl
@[simp] theorem pVar_ap {i : Nat} : pVar i ev = match ev[i]? with
  | some (.val p) => .ok p ev
  | some (.own ps) => .ok (.lst ps) ev
  | _ => .bad := by unfold pVar; rfl
@[simp] theorem eC_ap {p : PV} : eC p ev = .ok (p, false) ev := rfl
@[simp] theorem opt_some_ap {a : α} : opt (some a) ev = .ok a ev := rfl
@[simp] theorem opt_none_ap : opt (none : Option α) ev = .bad := rfl
@[simp] theorem eOp_ap {g : PV → PV → Option RV} {a b : M PV} : eOp g a b ev = bnd a (fun x => bnd b fun y => opt (g x y)) ev := rfl
@[simp] theorem eChain_ap {g g' : PV → PV → Option RV} {a b c : M PV} : eChain g g' a b c ev = bnd a (fun x => bnd b fun y => bnd (opt (g x y)) fun r => match r.1 with
  | .bl true => bnd c fun z => opt (g' y z)
  | .bl false => ret (.bl false, false)
  | _ => bad) ev := rfl
@[simp] theorem mRet_ap {r : RV} : mRet r ev = .ok (.rt r) ev := rfl
@[simp] theorem mRetV_ap {i : Nat} : mRetV i ev = match ev[i]? with
  | some (.own ps) => .ok (.rt (.lst ps, true)) ev
  | some (.val p) => .ok (.rt (p, false)) ev
  | some (.dow ks ps) => .ok (.rt (.dct ks ps, false)) (ev.set i (.val (.dct ks ps)))
  | _ => .bad := rfl
theorem setR_ap {i : Nat} {r : RV} : setR i r ev = if i < ev.length then .ok .nx (ev.set i (match r with
  | (.lst ps, true) => .own ps
  | (p, _) => .val p)) else .bad := rfl
@[simp] theorem setR_f {i : Nat} {p : PV} : setR i (p, false) ev = if i < ev.length then .ok .nx (ev.set i (.val p)) else .bad := by
  rw [setR_ap]; cases p <;> rfl
@[simp] theorem setR_t {i : Nat} {ps : List PV} : setR i (.lst ps, true) ev = if i < ev.length then .ok .nx (ev.set i (.own ps)) else .bad := rfl
@[simp] theorem mIfS_ap {c : M Bool} {a b : M Fl} : mIfS c a b ev = bnd c (fun k => if k then a else b) ev := rfl
@[simp] theorem mIf_ap {c : M Bool} {a b : M RV} : mIf c a b ev = bnd c (fun k => if k then a else b) ev := rfl
@[simp] theorem mNot_ap {m : M Bool} : mNot m ev = bnd m (fun b => ret (!b)) ev := rfl
@[simp] theorem mAnd_ap {a b : M Bool} : mAnd a b ev = bnd a (fun x => if x then b else ret false) ev := rfl
@[simp] theorem mOr_ap {a b : M Bool} : mOr a b ev = bnd a (fun x => if x then ret true else b) ev := rfl
@[simp] theorem vAnd_ap {a b : M RV} : vAnd a b ev = bnd a (fun r => match r.1 with
  | .bl true => b
  | .bl false => ret (.bl false, false)
  | _ => bad) ev := rfl
@[simp] theorem vOr_ap {a b : M RV} : vOr a b ev = bnd a (fun r => match r.1 with
  | .bl true => ret (.bl true, false)
  | .bl false => b
  | _ => bad) ev := rfl
@[simp] theorem vNot_ap {a : M RV} : vNot a ev = bnd a (fun r => match r.1 with
  | .bl b => ret (.bl (!b), false)
  | _ => bad) ev := rfl
@[simp] theorem blOf_ap {m : M RV} : blOf m ev = bnd m (fun r => match r.1 with
  | .bl b => ret b
  | _ => bad) ev := rfl
@[simp] theorem tTru_ap {m : M PV} : tTru m ev = bnd m (fun p => opt (truP p)) ev := rfl
@[simp] theorem kCons_ap {a : M PV} {r : M (List PV)} : kCons a r ev = bnd a (fun x => bnd r fun ps => ret (x :: ps)) ev := rfl
@[simp] theorem aCons_ap {a : M RV} {r : M (List PV)} : aCons a r ev = bnd a (fun x => bnd r fun ps => ret (x.1 :: ps)) ev := rfl
@[simp] theorem eCall_ap {g : List PV → Option RV} {a : M (List PV)} : eCall g a ev = bnd a (fun ps => opt (g ps)) ev := rfl
@[simp] theorem mTup_ap {m : M (List PV)} : mTup m ev = bnd m (fun ps => if ps.length ≤ SZ then ret (.tup ps, false) else bad) ev := rfl
@[simp] theorem mLst_ap {m : M (List PV)} : mLst m ev = bnd m (fun ps => if ps.length ≤ SZ then ret (.lst ps, true) else bad) ev := rfl
@[simp] theorem eFn_ap {f : Fn} {m : M (List PV)} : eFn f m ev = match m ev with
  | .ok ps ev' => (match f ps with
    | .ok r => .ok r ev'
    | .exc c => .exc c ev'
    | .bad => .bad)
  | .exc c ev' => .exc c ev'
  | .bad => .bad := rfl
@[simp] theorem mRaise_ap {c : Str} : mRaise c ev = .exc c ev := rfl
@[simp] theorem mTgt_ap {t : PV → SL → Option SL} {p : PV} : mTgt t p ev = match t p ev with
  | some ev' => .ok .nx ev'
  | none => .bad := rfl
@[simp] theorem tName_ap {i : Nat} {p : PV} : tName i p ev = if i < ev.length then some (ev.set i (.val p)) else none := rfl
@[simp] theorem tNames_tup {is : List Nat} {ps : List PV} : tNames is (.tup ps) ev = tNames.tN2 is ps ev := rfl
@[simp] theorem tN2_nil : tNames.tN2 [] [] ev = some ev := rfl
@[simp] theorem tN2_cons {i : Nat} {is : List Nat} {p : PV} {ps : List PV} : tNames.tN2 (i :: is) (p :: ps) ev = (tName i p ev).bind (tNames.tN2 is ps) := rfl
@[simp] theorem sq_ap {a b : M Fl} : sq a b ev = match a ev with
  | .ok .nx ev' => b ev'
  | r => r := rfl
@[simp] theorem mKdIn_ap {neg : Bool} {d : Str → Option Int} {m : M PV} : mKdIn neg d m ev = bnd m (fun p => match p with
  | .str z => ret (.bl (xor neg (d z).isSome), false)
  | _ => bad) ev := rfl
@[simp] theorem mKdIx_ap {d : Str → Option Int} {m : M PV} : mKdIx d m ev = bnd m (fun p => match p with
  | .str z => match d z with
    | some i => ret (.int i, false)
    | none => bad
  | _ => bad) ev := rfl
@[simp] theorem mIsi_ap {T : String} {m : M PV} : mIsi T m ev = bnd m (fun p => match tyP p with
  | some t => match kitB t T with
    | some b => ret (.bl b, false)
    | none => bad
  | none => bad) ev := rfl
@[simp] theorem mLenSet_ap {m : M PV} : mLenSet m ev = bnd m (fun p => match p with
  | .lst ps => match intsP ps with
    | some ns => if ns.length ≤ 1000 then ret (.int ((dedup ns).length : Nat), false) else bad
    | none => bad
  | _ => bad) ev := rfl
@[simp] theorem mMet_ap {i : Nat} {m : M (List PV)} {g : List PV → List PV → Option (List PV)} : mMet i m g ev = match ev[i]? with
  | some (.own _) => bnd m (fun as ev1 => match ev1[i]? with
    | some (.own ps) => match g ps as with
      | some qs => .ok .nx (ev1.set i (.own qs))
      | none => .bad
    | _ => .bad) ev
  | _ => .bad := rfl
@[simp] theorem mSeq_ap {m : M RV} : mSeq m ev = bnd m (fun r => match r.1 with
  | .lst ps => ret ps
  | .tup ps => ret ps
  | _ => bad) ev := rfl
@[simp] theorem mRng1_ap {m : M (List PV)} : mRng1 m ev = bnd m (fun ps => match ps with
  | [.int j] => if okR j then ret (rgP 0 j.toNat) else bad
  | _ => bad) ev := rfl
@[simp] theorem mRng2_ap {m : M (List PV)} : mRng2 m ev = bnd m (fun ps => match ps with
  | [.int i, .int j] => if okR i && okR j then ret (rgP i (j - i).toNat) else bad
  | _ => bad) ev := rfl
@[simp] theorem mComp_ap {mi : M (List PV)} {t : PV → SL → Option SL} {mt : M Bool} {me : M RV} {vs : List Nat} : mComp mi t mt me vs ev = bnd mi (fun ps ev1 => match compr t mt me vs [] ps (wipeE ev1 vs) with
  | .ok qs ev2 => .ok (.lst qs, true) (back ev1 ev2 vs)
  | _ => .bad) ev := rfl
@[simp] theorem eSl_ap {a : M PV} {lo hi : M (Option Int)} : eSl a lo hi ev = bnd a (fun p => bnd lo fun l => bnd hi fun h => opt (gSl p l h)) ev := rfl
@[simp] theorem soInt_ap {m : M PV} : soInt m ev = bnd m (fun p => match p with
  | .int i => ret (some i)
  | _ => bad) ev := rfl
@[simp] theorem mRg1_ap {m : M PV} : mRg1 m ev = bnd m (fun p => (match p with
  | .int j => ret ((0 : Int), j)
  | _ => bad : M (Int × Int))) ev := rfl
@[simp] theorem mTupRg_ap {m : M (Int × Int)} : mTupRg m ev = bnd m (fun r => if okRg r then ret (.tup (rgP r.1 (r.2 - r.1).toNat), false) else bad) ev := rfl
@[simp] theorem mLstRg_ap {m : M (Int × Int)} : mLstRg m ev = bnd m (fun r => if okRg r then ret (.lst (rgP r.1 (r.2 - r.1).toNat), true) else bad) ev := rfl
@[simp] theorem mAppPop_ap {i j : Nat} {m : M PV} : mAppPop i j m ev = match ev[i]?, ev[j]? with
  | some (.own _), some (.own _) => if i = j then .bad else bnd m (fun p ev1 => match ev1[i]?, ev1[j]?, p with
    | some (.own ps), some (.own qs), .int k => if -(2 ^ 63) ≤ k ∧ k < 2 ^ 63 ∧ ps.length < SZ then match seqIndex? k qs.length with
      | some n => match qs[n]? with
        | some q => .ok .nx ((ev1.set j (.own (qs.eraseIdx n))).set i (.own (ps ++ [q])))
        | none => .bad
      | none => .bad
      else .bad
    | _, _, _ => .bad) ev
  | _, _ => .bad := rfl
@[simp] theorem mTry_ap {mb : M Fl} {is : Str → Option Bool} {i : Nat} {ms : Str → Addr → M Fl} : mTry mb is i ms ev = match mb ev with
  | .exc d ev1 => (match is d with
    | some true => if i < ev1.length then (match ms d 0 (ev1.set i (.val (.opq (.ref 0)))) with
      | .ok f ev2 => .ok f (ev2.set i .no)
      | .exc _ _ => .bad
      | .bad => .bad) else .bad
    | some false => .exc d ev1
    | none => .bad)
  | r => r := rfl
@[simp] theorem mIsE_ap {i : Nat} {b : Bool} {a : Addr} : mIsE i b a ev = match ev[i]? with
  | some (.val (.opq v)) => if v = .ref a then .ok (.bl b, false) ev else .bad
  | _ => .bad := rfl
@[simp] theorem runF_ap {n k : Nat} {m : M Fl} {ps : List PV} : runF n k m ps = if ps.length = k ∧ k ≤ n then runB m (ev0 n ps) else .bad := rfl
@[simp] theorem runB_ap {m : M Fl} : runB m ev = match m ev with
  | .ok .nx _ => .ok (.non, false)
  | .ok (.rt r) _ => .ok r
  | .ok _ _ => .bad
  | .exc c _ => .exc c
  | .bad => .bad := rfl
@[simp] theorem loop_nil {t : PV → SL → Option SL} {mb : M Fl} : loop t mb [] ev = .ok .nx ev := rfl
end
@[simp] theorem aSub_ii {i j : Int} : aSub (.int i) (.int j) = some (.int (i - j), false) := rfl
@[simp] theorem aMul_ii {i j : Int} : aMul (.int i) (.int j) = if smallI i || smallI j then some (.int (i * j), false) else none := rfl
@[simp] theorem aDiv_ii {i j : Int} : aDiv (.int i) (.int j) = if 0 < j ∧ j < 1073741824 then some (.int (i / j), false) else none := rfl
@[simp] theorem aMod_ii {i j : Int} : aMod (.int i) (.int j) = if 0 < j then some (.int (i % j), false) else none := rfl
@[simp] theorem aPow_ii {i j : Int} : aPow (.int i) (.int j) = if 0 ≤ j ∧ j ≤ 1000000 ∧ i.natAbs < 2 ^ 64 then some (.int (i ^ j.toNat), false) else none := rfl
@[simp] theorem cLt_ii {i j : Int} : cLt (.int i) (.int j) = some (.bl (decide (i < j)), false) := rfl
@[simp] theorem cLe_ii {i j : Int} : cLe (.int i) (.int j) = some (.bl (decide (i ≤ j)), false) := rfl
@[simp] theorem cGt_ii {i j : Int} : cGt (.int i) (.int j) = some (.bl (decide (j < i)), false) := rfl
@[simp] theorem cGe_ii {i j : Int} : cGe (.int i) (.int j) = some (.bl (decide (j ≤ i)), false) := rfl
@[simp] theorem gAdd_ii {i j : Int} : gAdd (.int i) (.int j) = some (.int (i + j), false) := rfl
@[simp] theorem gAdd_tt {ps qs : List PV} : gAdd (.tup ps) (.tup qs) = if ps.length + qs.length ≤ SZ then some (.tup (ps ++ qs), false) else none := rfl
@[simp] theorem gAdd_ll {ps qs : List PV} : gAdd (.lst ps) (.lst qs) = if ps.length + qs.length ≤ SZ then some (.lst (ps ++ qs), true) else none := rfl
@[simp] theorem gEq_ii {n : Bool} {i j : Int} : gEq n (.int i) (.int j) = some (.bl (xor n (decide (i = j))), false) := rfl
@[simp] theorem gEq_ss {n : Bool} {i j : Str} : gEq n (.str i) (.str j) = some (.bl (xor n (decide (i = j))), false) := rfl
@[simp] theorem gIx_t {ps : List PV} {i : Int} : gIx (.tup ps) (.int i) = (atI ps i).map fun p => (p, false) := rfl
@[simp] theorem gIx_l {ps : List PV} {i : Int} : gIx (.lst ps) (.int i) = (atI ps i).map fun p => (p, false) := rfl
@[simp] theorem gIx_s {ns : List Int} {i : Int} : gIx (.scr ns) (.int i) = (atI ns i).map fun p => (.int p, false) := rfl
@[simp] theorem gSl_t {ps : List PV} {lo hi : Option Int} : gSl (.tup ps) lo hi = some (.tup (cutP ps lo hi), false) := rfl
@[simp] theorem gSl_l {ps : List PV} {lo hi : Option Int} : gSl (.lst ps) lo hi = some (.lst (cutP ps lo hi), true) := rfl
@[simp] theorem gLen_t {ps : List PV} : gLen [.tup ps] = some (.int ps.length, false) := rfl
@[simp] theorem gLen_l {ps : List PV} : gLen [.lst ps] = some (.int ps.length, false) := rfl
@[simp] theorem gLen_s {ns : List Int} : gLen [.scr ns] = some (.int ns.length, false) := by
  show some (PV.int ((ns.map PV.int).length : Nat), false) = _
  rw [List.length_map]
@[simp] theorem gList_t {ps : List PV} : gList [.tup ps] = some (.lst ps, true) := rfl
@[simp] theorem gList_l {ps : List PV} : gList [.lst ps] = some (.lst ps, true) := rfl
@[simp] theorem gTuple_t {ps : List PV} : gTuple [.tup ps] = some (.tup ps, false) := rfl
@[simp] theorem gTuple_l {ps : List PV} : gTuple [.lst ps] = some (.tup ps, false) := rfl
@[simp] theorem gInt_i {i : Int} : gInt [.int i] = some (.int i, false) := rfl
@[simp] theorem gInt_b {b : Bool} : gInt [.bl b] = some (.int (if b then 1 else 0), false) := rfl
@[simp] theorem gSorted_l {ps : List PV} : gSorted [.lst ps] = (intsP ps).map fun ns => (.lst ((isort ns).map .int), true) := rfl
@[simp] theorem gSorted_t {ps : List PV} : gSorted [.tup ps] = (intsP ps).map fun ns => (.lst ((isort ns).map .int), true) := rfl
@[simp] theorem gAppend_1 {ps : List PV} {p : PV} : gAppend ps [p] = if ps.length < SZ then some (ps ++ [p]) else none := rfl
@[simp] theorem gExtend_1 {ps qs : List PV} : gExtend ps [.lst qs] = if ps.length + qs.length ≤ SZ then some (ps ++ qs) else none := rfl
@[simp] theorem kit_int : kitB "int" "int" = some true := by decide +kernel
@[simp] theorem kit_tuple : kitB "tuple" "int" = some false := by decide +kernel
@[simp] theorem ty_int {i : Int} : tyP (.int i) = some "int" := rfl
@[simp] theorem ty_tup {ps : List PV} : tyP (.tup ps) = some "tuple" := rfl
@[simp] theorem tru_bl {b : Bool} : truP (.bl b) = some b := rfl
@[simp] theorem intsP_map' {ns : List Int} : intsP (ns.map .int) = some ns := intsP_map ns
@[simp] theorem ev0_eq {n : Nat} {ps : List PV} : ev0 n ps = ps.map .val ++ List.replicate (n - ps.length) .no := rfl
@[simp] theorem SZ_eq : SZ = 16777216 := rfl
@[simp] theorem smallI_eq {i : Int} : smallI i = decide (-(2 ^ 64) < i ∧ i < 2 ^ 64) := rfl
@[simp] theorem vI_eq {i : Int} : vI i = some (.int i, false) := rfl
@[simp] theorem vB_eq {b : Bool} : vB b = some (.bl b, false) := rfl
end Pv
set_option Elab.async false
set_option linter.all false
set_option maxRecDepth 100000
namespace Pv
open PySem PySem.Spec L2
open PyProof.Rows hiding St
theorem isDs_ints : ∀ ns : List Int, isDs (ns.map .int) = true
  | [] => rfl
  | n :: ns => by rw [List.map_cons]; unfold isDs isD; rw [isDs_ints ns]; rfl
theorem toDs_ints : ∀ ns : List Int, toDs (ns.map .int) = ns.map PyData.int
  | [] => rfl
  | n :: ns => by rw [List.map_cons, List.map_cons]; unfold toDs toD; rw [toDs_ints ns]
theorem lay_ints : ∀ ns : List Int, PyData.canLayAll0 (ns.map PyData.int) = true
  | [] => by unfold PyData.canLayAll0; rfl
  | n :: ns => by rw [List.map_cons]; unfold PyData.canLayAll0 PyData.canLay0; rw [lay_ints ns]; rfl
theorem depth_ints : ∀ ns : List Int, PyData.depthAll (ns.map PyData.int) = 0
  | [] => by unfold PyData.depthAll; rfl
  | n :: ns => by rw [List.map_cons]; unfold PyData.depthAll PyData.depth; rw [depth_ints ns]; rfl
theorem eqv_ints : ∀ a b : List Int, PyData.eqvAll (a.map PyData.int) (b.map PyData.int) = decide (a = b)
  | [], [] => by unfold PyData.eqvAll; rfl
  | [], y :: ys => by rw [List.map_cons, List.map_nil]; unfold PyData.eqvAll; simp
  | x :: xs, [] => by rw [List.map_cons, List.map_nil]; unfold PyData.eqvAll; simp
  | x :: xs, y :: ys => by
    rw [List.map_cons, List.map_cons]
    unfold PyData.eqvAll PyData.eqv
    rw [eqv_ints xs ys]
    by_cases h : x = y <;> by_cases h2 : xs = ys <;> simp [h, h2]
theorem okD_tupI (ns : List Int) : okD (.tup (ns.map .int)) = true := by
  unfold okD isD toD SeqAt.shaped PyData.canLay0 PyData.depth
  rw [isDs_ints, toDs_ints, lay_ints, depth_ints]
  rfl
theorem okD_lstI (ns : List Int) : okD (.lst (ns.map .int)) = true := by
  unfold okD isD toD SeqAt.shaped PyData.canLay0 PyData.depth
  rw [isDs_ints, toDs_ints, lay_ints, depth_ints]
  rfl
theorem gEq_tupI (n : Bool) (a b : List Int) : gEq n (.tup (a.map .int)) (.tup (b.map .int)) = some (.bl (xor n (decide (a = b))), false) := by
  unfold gEq
  simp only [okD_tupI, Bool.and_self, if_true]
  unfold toD PyData.eqv
  rw [toDs_ints, toDs_ints, eqv_ints]
  rfl
theorem gEq_lstI (n : Bool) (a b : List Int) : gEq n (.lst (a.map .int)) (.lst (b.map .int)) = some (.bl (xor n (decide (a = b))), false) := by
  unfold gEq
  simp only [okD_lstI, Bool.and_self, if_true]
  unfold toD PyData.eqv
  rw [toDs_ints, toDs_ints, eqv_ints]
  rfl
def upTo (lo : Int) (n : Nat) : List Int := (List.range n).map fun i => lo + (i : Nat)
theorem rgP_eq (lo : Int) (n : Nat) : rgP lo n = (upTo lo n).map .int := by
  unfold rgP upTo
  rw [List.map_map]
  rfl
theorem upTo_len (lo : Int) (n : Nat) : (upTo lo n).length = n := by unfold upTo; simp
theorem compr_id {v : Nat} : ∀ (ps acc : List PV) (ev : SL), ev[v]? = some .no → acc.length + ps.length ≤ SZ → compr (tName v) (ret true) (eVar v) [v] acc ps ev = .ok (acc ++ ps) ev
  | [], acc, ev, _, _ => by rw [compr]; simp
  | p :: ps, acc, ev, h, hz => by
    have hl : v < ev.length := (List.getElem?_eq_some_iff.mp h).1
    rw [List.length_cons] at hz
    have e1 : wipeE (ev.set v (.val p)) [v] = ev := by
      show (ev.set v (.val p)).set v .no = ev
      rw [List.set_set]
      apply List.ext_getElem?
      intro i
      by_cases hi : v = i
      · subst hi; rw [List.getElem?_set_self hl, h]
      · rw [List.getElem?_set_ne hi]
    have e2 : turn (tName v) (ret true) (eVar v) p ev = .ok (some p) (ev.set v (.val p)) := by
      unfold turn
      simp [hl]
    rw [compr]
    simp only [e2]
    rw [if_pos (by omega), e1, compr_id ps (acc ++ [p]) ev h (by rw [List.length_append, List.length_singleton]; omega)]
    simp
theorem loop_inv {t : PV → SL → Option SL} {mb : M Fl} {I : Nat → SL → Prop} {Q : SL → Prop} : ∀ {ps : List PV} (k : Nat) {ev : SL}, (∀ j p ev, ps[j]? = some p → I (k + j) ev → ∃ ev1, t p ev = some ev1 ∧ ((∃ ev2, mb ev1 = .ok .nx ev2 ∧ I (k + j + 1) ev2) ∨ (∃ ev2, mb ev1 = .ok .bk ev2 ∧ Q ev2))) → I k ev →
    ∃ ev', loop t mb ps ev = .ok .nx ev' ∧ (I (k + ps.length) ev' ∨ Q ev')
  | [], k, ev, _, h => ⟨ev, rfl, .inl h⟩
  | p :: ps, k, ev, st, h => by
    obtain ⟨ev1, e1, r⟩ := st 0 p ev rfl h
    rcases r with ⟨ev2, e2, h2⟩ | ⟨ev2, e2, h2⟩
    · obtain ⟨ev', e3, h3⟩ := loop_inv (ps := ps) (k + 1) (ev := ev2) (fun j q ev z hI => by
        have := st (j + 1) q ev z (by rw [show k + (j + 1) = k + 1 + j by omega]; exact hI)
        rw [show k + (j + 1) + 1 = k + 1 + j + 1 by omega] at this
        exact this) (by simpa using h2)
      refine ⟨ev', ?_, ?_⟩
      · rw [loop]
        simp only [e1, e2, e3]
      · rw [List.length_cons, show k + (ps.length + 1) = k + 1 + ps.length by omega]
        exact h3
    · refine ⟨ev2, ?_, .inr h2⟩
      rw [loop]
      simp only [e1, e2]
theorem rgP_get {lo : Int} {n j : Nat} {p : PV} (h : (rgP lo n)[j]? = some p) : j < n ∧ p = .int (lo + (j : Nat)) := by
  have hj : j < n := by
    have := (List.getElem?_eq_some_iff.mp h).1
    unfold rgP at this
    rwa [List.length_map, List.length_range] at this
  unfold rgP at h
  rw [List.getElem?_map, List.getElem?_range hj] at h
  cases h
  exact ⟨hj, rfl⟩
theorem rgP_len (lo : Int) (n : Nat) : (rgP lo n).length = n := by unfold rgP; simp
theorem sq_nx {a b : M Fl} {ev ev' : SL} (h : a ev = .ok .nx ev') : sq a b ev = b ev' := by unfold sq; rw [h]
theorem sq_rt {a b : M Fl} {ev ev' : SL} {r : RV} (h : a ev = .ok (.rt r) ev') : sq a b ev = .ok (.rt r) ev' := by unfold sq; rw [h]
theorem sq_bk {a b : M Fl} {ev ev' : SL} (h : a ev = .ok .bk ev') : sq a b ev = .ok .bk ev' := by unfold sq; rw [h]
theorem sq_exc {a b : M Fl} {ev ev' : SL} {c : Str} (h : a ev = .exc c ev') : sq a b ev = .exc c ev' := by unfold sq; rw [h]
theorem bnd_ok {α β : Type} {m : M α} {f : α → M β} {ev ev' : SL} {a : α} (h : m ev = .ok a ev') : bnd m f ev = f a ev' := by unfold bnd; rw [h]
theorem if_t {c : M Bool} {a b : M Fl} {ev ev' : SL} (h : c ev = .ok true ev') : mIfS c a b ev = a ev' := by unfold mIfS; rw [bnd_ok h]; rfl
theorem if_f {c : M Bool} {a b : M Fl} {ev ev' : SL} (h : c ev = .ok false ev') : mIfS c a b ev = b ev' := by unfold mIfS; rw [bnd_ok h]; rfl
theorem runF_ok {n k : Nat} {m : M Fl} {ps : List PV} {r : RV} {ev' : SL} (h : m (ev0 n ps) = .ok (.rt r) ev') (hk : ps.length = k) (hn : k ≤ n) : runF n k m ps = .ok r := by
  unfold runF
  rw [if_pos ⟨hk, hn⟩]
  unfold runB
  rw [h]
theorem runF_exc {n k : Nat} {m : M Fl} {ps : List PV} {c : Str} {ev' : SL} (h : m (ev0 n ps) = .exc c ev') (hk : ps.length = k) (hn : k ≤ n) : runF n k m ps = .exc c := by
  unfold runF
  rw [if_pos ⟨hk, hn⟩]
  unfold runB
  rw [h]
theorem comp_ok {mi : M (List PV)} {t : PV → SL → Option SL} {mt : M Bool} {me : M RV} {vs : List Nat} {ev ev1 ev2 : SL} {ps qs : List PV} (h : mi ev = .ok ps ev1) (hc : compr t mt me vs [] ps (wipeE ev1 vs) = .ok qs ev2) : mComp mi t mt me vs ev = .ok (.lst qs, true) (back ev1 ev2 vs) := by
  unfold mComp
  rw [bnd_ok h]
  simp only [hc]
end Pv
set_option Elab.async false
set_option linter.all false
set_option maxRecDepth 100000
namespace Pv
open PySem PySem.Spec L2
open PyProof.Rows hiding St
section
variable {X : Cx} {W : WX} {cm : CM}
def mRev (m : M PV) : M RV := bnd m fun p => match p with
  | .lst ps => ret (.lst ps.reverse, true)
  | _ => bad
theorem e_revL {e : Expr} {m : M PV} {k : Nat} {p1 p2 p3 pos : Pos} (s : Pv.SP X W cm e m) : SE X W cm (.Subscript e (.Slice none none (some (.UnaryOp .USub (.Constant (.int 1) k p1) p2)) p3) pos) (mRev m) := .mk' fun F H0 H ev σ Q r h => by
  refine sE_of (pe_revL sE_pe) ?_
  refine s.go r (h.bnd.mono fun q ev1 F1 H1 a1 hh v rv => ?_)
  have h2 := hh.2
  cases q with
  | lst ps =>
    obtain ⟨a, xs, rfl, hx, rl⟩ := rv
    refine ⟨a, xs, rfl, SqL.of hx, fun l hl => ?_⟩
    exact h2 F1 _ (a1.er.fresh hl) _ (a1.er.newL a1.same hl rl.reverse)
  | _ => exact h2.elim
def gInsert : List PV → List PV → Option (List PV)
  | ps, [.int i, p] => if ps.length < SZ ∧ 0 ≤ i ∧ i < 2 ^ 63 then some (ps.take i.toNat ++ [p] ++ ps.drop i.toNat) else none
  | _, _ => none
theorem k_insert : MetOk X "list.insert" gInsert := fun F H a xs vs ps as qs hx rx rs e => by
  unfold gInsert at e
  split at e
  · rename_i i p
    split at e
    · rename_i hz
      cases e
      unfold RepL at rs
      obtain ⟨y, ys, rfl, r1, r2⟩ := rs
      obtain ⟨v, rfl, rv⟩ := r2.one
      unfold Rep at r1
      subst r1
      exact ⟨_, xs.take i.toNat ++ [v] ++ xs.drop i.toNat, _, mt_insert, ((rx.take _).append (RepL.cons rv RepL.nil)).append (rx.drop _), fun Q hq => ⟨a, xs, i, v, rfl, rfl, hx, by rw [rx.length]; exact hz.1, hz.2.1, hz.2.2, hq⟩⟩
    · cases e
  · cases e
end
end Pv
set_option Elab.async false
set_option linter.all false
set_option maxRecDepth 100000
namespace Pv
open PySem PySem.Spec L2
open PyProof.Rows hiding St
theorem wipe_one {v : Nat} {ev : SL} {s : Slot} (h : ev[v]? = some .no) : wipeE (ev.set v s) [v] = ev := by
  show (ev.set v s).set v .no = ev
  rw [List.set_set]
  apply List.ext_getElem?
  intro i
  by_cases hi : v = i
  · subst hi; rw [List.getElem?_set_self (List.getElem?_eq_some_iff.mp h).1, h]
  · rw [List.getElem?_set_ne hi]
theorem inP_int (i : Int) : ∀ l : List Int, inP (.int i) (l.map .int) = decide (i ∈ l)
  | [] => by simp [inP, inV]
  | j :: l => by
    have e := inP_int i l
    unfold inP inV at e ⊢
    rw [List.map_cons, List.map_cons, List.any_cons, e]
    have : eqV (toV (.int j)) (toV (.int i)) = (j == i) := rfl
    rw [this]
    by_cases h : j = i
    · rw [h, beq_self_eq_true, Bool.true_or, decide_eq_true (List.mem_cons_self)]
    · rw [beq_eq_false_iff_ne.mpr h, Bool.false_or]
      by_cases c : i ∈ l
      · rw [decide_eq_true c, decide_eq_true (List.mem_cons_of_mem _ c)]
      · rw [decide_eq_false c, decide_eq_false (fun z => (List.mem_cons.mp z).elim (fun y => h y.symm) c)]
theorem flat_ints : ∀ l : List Int, (l.map PV.int).all flatP = true
  | [] => rfl
  | i :: l => by rw [List.map_cons, List.all_cons, flat_ints l]; rfl
theorem gIn_lst (n : Bool) (i : Int) (l : List Int) : gIn n (.int i) (.lst (l.map .int)) = some (.bl (xor n (decide (i ∈ l))), false) := by
  show (if (flatP (.int i) && (l.map PV.int).all flatP) = true then vB (xor n (inP (.int i) (l.map .int))) else none) = _
  rw [flat_ints, inP_int]
  rfl
end Pv
set_option Elab.async false
set_option linter.all false
set_option maxRecDepth 100000
namespace Pv
open PySem PySem.Spec L2
open PyProof.Rows hiding St
theorem perm_lift {α β : Type} {g : α → β} {l m : List β} (h : l.Perm m) : ∀ L : List α, m = L.map g → ∃ L' : List α, L'.Perm L ∧ l = L'.map g := by
  induction h with
  | nil =>
    intro L e
    cases L with
    | nil => exact ⟨[], .refl _, rfl⟩
    | cons a L => cases e
  | cons x h ih =>
    intro L e
    cases L with
    | nil => cases e
    | cons a L =>
      rw [List.map_cons] at e
      injection e with e1 e2
      obtain ⟨L', p, q⟩ := ih L e2
      exact ⟨a :: L', p.cons a, by rw [List.map_cons, q, e1]⟩
  | swap x y l =>
    intro L e
    match L, e with
    | a :: b :: L, e =>
      rw [List.map_cons, List.map_cons] at e
      injection e with e1 e2
      injection e2 with e2 e3
      exact ⟨b :: a :: L, List.Perm.swap _ _ _, by rw [List.map_cons, List.map_cons, e1, e2, e3]⟩
  | trans h1 h2 ih1 ih2 =>
    intro L e
    obtain ⟨L1, p1, q1⟩ := ih2 L e
    obtain ⟨L2, p2, q2⟩ := ih1 L1 q1
    exact ⟨L2, p2.trans p1, q2⟩
section
variable {X : Cx} {cm : CM} {pins : List (Addr × Obj)} {σ : St} {H : Hp} {s : Shared}
structure Ours (X : Cx) (a : Addr) : Prop where
  loc : a ≠ X.env.locals
  old : X.s_0.heap.objs.size ≤ a
  cel : ∀ x c, X.env.cells.lookup x = some c → c ≠ a
  fs : a ∉ X.fs
end
end Pv
set_option Elab.async false
set_option linter.all false
set_option maxRecDepth 100000
set_option maxHeartbeats 4000000
namespace Pv
open PySem PySem.Spec L2
open PyProof.Rows hiding St
section
variable {prog : Program} {w : World} {A : Around} {E : Value → Shared → Prop} {s : Shared} {D kS : Addr} {its : List Value} {kz : List Int} {keys : Array Value} {e e1 : Nat} {P : PySem.Fin → Shared → Prop}
end
end Pv
set_option Elab.async false
set_option linter.all false
set_option maxRecDepth 100000
set_option maxHeartbeats 4000000
namespace Pv
open PySem PySem.Spec L2
open PyProof.Rows hiding St
section
variable {X : Cx} {cm : CM} {pins : List (Addr × Obj)} {σ : St} {H : Hp} {s : Shared} {D kS : Addr} {e1 : Nat}
end
end Pv
set_option Elab.async false
set_option linter.all false
set_option maxRecDepth 100000
set_option maxHeartbeats 4000000
namespace Pv
open PySem PySem.Spec L2
open PyProof.Rows hiding St
section
variable {X : Cx} {cm : CM} {W : WX}
end
end Pv
set_option Elab.async false
set_option linter.all false
set_option maxRecDepth 100000
namespace Pv
open PySem PySem.Spec L2
open PyProof.Rows hiding St
section
variable {α : Type}
def insK (z : Int × α) : List (Int × α) → List (Int × α)
  | [] => [z]
  | y :: r => if z.1 ≤ y.1 then z :: y :: r else y :: insK z r
def sortK : List (Int × α) → List (Int × α)
  | [] => []
  | z :: r => insK z (sortK r)
theorem insK_perm (z : Int × α) : ∀ l, (insK z l).Perm (z :: l)
  | [] => .refl _
  | y :: r => by
    unfold insK
    split
    · exact .refl _
    · exact ((insK_perm z r).cons y).trans (List.Perm.swap z y r)
theorem sortK_perm : ∀ l : List (Int × α), (sortK l).Perm l
  | [] => .refl _
  | z :: r => (insK_perm z (sortK r)).trans ((sortK_perm r).cons z)
theorem insK_sorted (z : Int × α) : ∀ {l : List (Int × α)}, l.Pairwise (fun a b => a.1 ≤ b.1) → (insK z l).Pairwise (fun a b => a.1 ≤ b.1)
  | [], _ => List.pairwise_singleton _ _
  | y :: r, h => by
    obtain ⟨h1, h2⟩ := List.pairwise_cons.mp h
    unfold insK
    split
    · rename_i c
      refine List.pairwise_cons.mpr ⟨fun b hb => ?_, h⟩
      rcases List.mem_cons.mp hb with rfl | hb
      · exact c
      · exact Int.le_trans c (h1 b hb)
    · rename_i c
      refine List.pairwise_cons.mpr ⟨fun b hb => ?_, insK_sorted z h2⟩
      rcases List.mem_cons.mp ((insK_perm z r).mem_iff.mp hb) with rfl | hb
      · omega
      · exact h1 b hb
theorem sortK_sorted : ∀ l : List (Int × α), (sortK l).Pairwise (fun a b => a.1 ≤ b.1)
  | [] => .nil
  | z :: r => insK_sorted z (sortK_sorted r)
theorem nodup_fst {l : List (Int × α)} (h : (l.map (·.1)).Nodup) : ∀ {a b}, a ∈ l → b ∈ l → a.1 = b.1 → a = b := by
  induction l with
  | nil => intro a b ha; cases ha
  | cons z r ih =>
    rw [List.map_cons, List.nodup_cons] at h
    intro a b ha hb e
    rcases List.mem_cons.mp ha with e1 | ha'
    · rcases List.mem_cons.mp hb with e2 | hb'
      · rw [e1, e2]
      · exact absurd (List.mem_map.mpr ⟨b, hb', by rw [← e, e1]⟩) h.1
    · rcases List.mem_cons.mp hb with e2 | hb'
      · exact absurd (List.mem_map.mpr ⟨a, ha', by rw [e, e2]⟩) h.1
      · exact ih h.2 ha' hb' e
theorem sortK_uniq : ∀ {A B : List (Int × α)}, A.Perm B → A.Pairwise (fun a b => a.1 ≤ b.1) → B.Pairwise (fun a b => a.1 ≤ b.1) → (A.map (·.1)).Nodup → A = B
  | [], B, p, _, _, _ => (List.nil_perm.mp p).symm
  | a :: A, [], p, _, _, _ => absurd p.length_eq (by simp)
  | a :: A, b :: B, p, h1, h2, hn => by
    have e : a = b := by
      have ma : a ∈ b :: B := p.mem_iff.mp (by simp)
      have mb : b ∈ a :: A := p.mem_iff.mpr (by simp)
      refine nodup_fst hn (by simp) mb ?_
      have l1 : a.1 ≤ b.1 := by
        rcases List.mem_cons.mp mb with e | mb
        · rw [e]; exact Int.le_refl _
        · exact (List.pairwise_cons.mp h1).1 b mb
      have l2 : b.1 ≤ a.1 := by
        rcases List.mem_cons.mp ma with e | ma
        · rw [e]; exact Int.le_refl _
        · exact (List.pairwise_cons.mp h2).1 a ma
      omega
    subst e
    rw [List.map_cons, List.nodup_cons] at hn
    rw [sortK_uniq ((List.perm_cons a).mp p) (List.pairwise_cons.mp h1).2 (List.pairwise_cons.mp h2).2 hn.2]
end
section
variable {X : Cx} {W : WX} {cm : CM}
end
end Pv
set_option Elab.async false
set_option linter.all false
set_option maxRecDepth 100000
namespace Pv
open PySem PySem.Spec L2
open PyProof.Rows hiding St
section
variable {X : Cx} {W : WX} {cm : CM}
end
end Pv
set_option Elab.async false
set_option linter.all false
set_option maxRecDepth 100000
namespace Pv
open PySem PySem.Spec L2
open PyProof.Rows hiding St
section
variable {prog : Program} {w : World} {A : Around} {E : Value → Shared → Prop} {s : Shared}
end
section
variable {X : Cx} {W : WX} {cm : CM}
end
end Pv
set_option Elab.async false
set_option linter.all false
set_option maxRecDepth 100000
namespace Pv
open PySem PySem.Spec L2
open PyProof.Rows hiding St
def ltL : List Int → List Int → Bool
  | _, [] => false
  | [], _ :: _ => true
  | x :: xs, y :: ys => if x = y then ltL xs ys else decide (x < y)
theorem ltL_asym : ∀ (a b : List Int), ltL a b = true → ltL b a = false
  | _, [], h => by unfold ltL at h; cases h
  | [], y :: ys, _ => by unfold ltL; rfl
  | x :: xs, y :: ys, h => by
    unfold ltL at h ⊢
    by_cases e : x = y
    · rw [if_pos e] at h
      rw [if_pos e.symm]
      exact ltL_asym xs ys h
    · rw [if_neg e] at h
      rw [if_neg (fun z => e z.symm)]
      have := of_decide_eq_true h
      exact decide_eq_false (by omega)
theorem ltL_neg : ∀ (a b c : List Int), ltL a b = false → ltL b c = false → ltL a c = false
  | a, b, [], _, _ => by unfold ltL; rfl
  | a, [], z :: zs, _, h => by unfold ltL at h; cases h
  | [], y :: ys, z :: zs, h, _ => by unfold ltL at h; cases h
  | x :: xs, y :: ys, z :: zs, h1, h2 => by
    unfold ltL at h1 h2 ⊢
    by_cases e : x = y
    · rw [if_pos e] at h1
      by_cases e2 : y = z
      · rw [if_pos e2] at h2
        rw [if_pos (e.trans e2)]
        exact ltL_neg xs ys zs h1 h2
      · rw [if_neg e2] at h2
        rw [if_neg (by rw [e]; exact e2), e]
        exact h2
    · rw [if_neg e] at h1
      have a1 := of_decide_eq_false h1
      by_cases e2 : y = z
      · rw [if_neg (by rw [← e2]; exact e)]
        exact decide_eq_false (by omega)
      · rw [if_neg e2] at h2
        have a2 := of_decide_eq_false h2
        rw [if_neg (by omega)]
        exact decide_eq_false (by omega)
theorem ltL_eq : ∀ {a b : List Int}, ltL a b = false → ltL b a = false → a = b
  | [], [], _, _ => rfl
  | [], y :: ys, h, _ => by unfold ltL at h; cases h
  | x :: xs, [], _, h => by unfold ltL at h; cases h
  | x :: xs, y :: ys, h1, h2 => by
    unfold ltL at h1 h2
    by_cases e : x = y
    · rw [if_pos e] at h1
      rw [if_pos e.symm] at h2
      rw [e, ltL_eq h1 h2]
    · rw [if_neg e] at h1
      rw [if_neg (fun z => e z.symm)] at h2
      have a1 := of_decide_eq_false h1
      have a2 := of_decide_eq_false h2
      omega
theorem swo_ltL (k : Value → List Int) : SrtO.Swo fun v u => ltL (k v) (k u) := ⟨fun x y h => ltL_asym _ _ h, fun x y z h1 h2 => ltL_neg _ _ _ h2 h1⟩
section
variable {prog : Program} {w : World} {A : Around} {s : Shared}
end
end Pv
set_option Elab.async false
set_option linter.all false
set_option maxRecDepth 100000
namespace Pv
open PySem PySem.Spec L2
open PyProof.Rows hiding St
def insL (a : List Int) : List (List Int) → List (List Int)
  | [] => [a]
  | b :: r => if ltL b a = true then b :: insL a r else a :: b :: r
def sortL : List (List Int) → List (List Int)
  | [] => []
  | a :: r => insL a (sortL r)
theorem insL_perm (a : List Int) : ∀ l, (insL a l).Perm (a :: l)
  | [] => .refl _
  | b :: r => by
    unfold insL
    split
    · exact ((insL_perm a r).cons b).trans (List.Perm.swap a b r)
    · exact .refl _
theorem sortL_perm : ∀ l, (sortL l).Perm l
  | [] => .refl _
  | a :: r => (insL_perm a (sortL r)).trans ((sortL_perm r).cons a)
theorem insL_sorted (a : List Int) : ∀ {l}, l.Pairwise (fun x y => ltL y x = false) → (insL a l).Pairwise fun x y => ltL y x = false
  | [], _ => List.pairwise_singleton _ _
  | b :: r, h => by
    obtain ⟨h1, h2⟩ := List.pairwise_cons.mp h
    unfold insL
    split
    · rename_i c
      refine List.pairwise_cons.mpr ⟨fun y hy => ?_, insL_sorted a h2⟩
      rcases List.mem_cons.mp ((insL_perm a r).mem_iff.mp hy) with rfl | hy
      · exact ltL_asym _ _ c
      · exact h1 y hy
    · rename_i c
      rw [Bool.not_eq_true] at c
      refine List.pairwise_cons.mpr ⟨fun y hy => ?_, h⟩
      rcases List.mem_cons.mp hy with rfl | hy
      · exact c
      · exact ltL_neg _ _ _ (h1 y hy) c
theorem sortL_sorted : ∀ l, (sortL l).Pairwise fun x y => ltL y x = false
  | [] => .nil
  | a :: r => insL_sorted a (sortL_sorted r)
theorem sortL_uniq : ∀ {A B : List (List Int)}, A.Perm B → A.Pairwise (fun x y => ltL y x = false) → B.Pairwise (fun x y => ltL y x = false) → A = B
  | [], B, p, _, _ => (List.nil_perm.mp p).symm
  | a :: A, [], p, _, _ => absurd p.length_eq (by simp)
  | a :: A, b :: B, p, h1, h2 => by
    have lr : ∀ x : List Int, ltL x x = false := fun x => by
      cases q : ltL x x with
      | false => rfl
      | true => have := ltL_asym x x q; rw [q] at this; exact this
    have e : a = b := by
      have ma : a ∈ b :: B := p.mem_iff.mp (by simp)
      have mb : b ∈ a :: A := p.mem_iff.mpr (by simp)
      refine ltL_eq ?_ ?_
      · rcases List.mem_cons.mp ma with e | ma
        · rw [e]; exact lr b
        · exact (List.pairwise_cons.mp h2).1 a ma
      · rcases List.mem_cons.mp mb with e | mb
        · rw [e]; exact lr a
        · exact (List.pairwise_cons.mp h1).1 b mb
    subst e
    rw [sortL_uniq ((List.perm_cons a).mp p) (List.pairwise_cons.mp h1).2 (List.pairwise_cons.mp h2).2]
theorem vals_of {Z : List (V × Value × List Int)} (h : ∀ z ∈ Z, RelV z.1 z.2.1) : Vals (Z.map (·.1)) (Z.map (·.2.1)) := by
  induction Z with
  | nil => exact .nil
  | cons z Z ih => exact .cons (h z (by simp)) (ih fun y hy => h y (by simp [hy]))
section
variable {X : Cx}
end
end Pv
set_option Elab.async false
set_option linter.all false
set_option maxRecDepth 100000
namespace Pv
open PySem PySem.Spec L2
open PyProof.Rows hiding St
section
variable {X : Cx} {W : WX} {cm : CM}
def gSum : List PV → Option RV
  | [.lst ps] => (intsP ps).map fun ns => (.int ns.sum, false)
  | _ => none
theorem c_sum (hc : X.calm = true) : CallOk X (.builtin "sum") gSum := fun F H0 H ev σ vs ps r Q er rs e hq => by
  unfold gSum at e
  split at e
  · obtain ⟨v, rfl, rv⟩ := rs.one
    obtain ⟨ns, hi, rfl⟩ := Option.map_eq_some_iff.mp e
    obtain ⟨a, xs, rfl, hx, rl⟩ := rv
    rw [intsP_eq hi] at rl
    have ex := rl.ints
    subst ex
    exact sCl_of (cr_sum hc) ⟨a, ns, rfl, SqL.of hx, hq F _ H er.aft res_int⟩
  · cases e
end
theorem mgIs_ok {K : Fr} {h : Heap} {mg : Str → Option Value} (X : K.In h) (G : h.Ns mainGlobals mg) {x : Str} {v : Value} (c : mgIs K x v = true) : mg x = some v := PySem.W.mg_of X G (of_decide_eq_true c)
end Pv
set_option Elab.async false
set_option linter.all false
set_option maxRecDepth 100000
namespace Pv
open PySem PySem.Spec L2
open PyProof.Rows hiding St
section
variable {X : Cx} {W : WX} {cm : CM}
end
end Pv
set_option Elab.async false
set_option linter.all false
set_option maxRecDepth 100000
namespace Pv
open PySem PySem.Spec L2
open PyProof.Rows hiding St
section
variable {X : Cx} {W : WX} {cm : CM}
end
end Pv
set_option Elab.async false
set_option linter.all false
set_option maxRecDepth 100000
namespace Pv
open PySem PySem.Spec L2
open PyProof.Rows hiding St
section
variable {X : Cx} {W : WX} {cm : CM}
theorem RepL.put {K : Fr} {F : FS} {H : Hp} {v : V} {p : PV} (h : Rep K F H v p) : ∀ {n : Nat} {xs : List V} {ps : List PV}, RepL K F H xs ps → RepL K F H (xs.set n v) (ps.set n p)
  | n, xs, [], r => by
    obtain rfl := r.nil_inv
    exact r
  | 0, xs, q :: ps, r => by
    unfold RepL at r
    obtain ⟨x, ys, rfl, h1, h2⟩ := r
    exact RepL.cons h h2
  | n + 1, xs, q :: ps, r => by
    unfold RepL at r
    obtain ⟨x, ys, rfl, h1, h2⟩ := r
    exact RepL.cons h1 (RepL.put h h2)
end
end Pv
set_option Elab.async false
set_option linter.all false
set_option maxRecDepth 100000
namespace Pv
open PySem PySem.Spec L2
open PyProof.Rows hiding St
section
variable {X : Cx} {W : WX} {cm : CM}
def SameBut (D : Addr) (H H' : Hp) : Prop := ∀ b o, b ≠ D → H b = some o → H' b = some o
theorem SameBut.refl {D : Addr} {H : Hp} : SameBut D H H := fun _ _ _ h => h
theorem SameBut.then {D : Addr} {H H1 H2 : Hp} (a : SameBut D H H1) (s : Same H1 H2) : SameBut D H H2 := fun b o n h => s _ _ (a b o n h)
theorem SameBut.free {D a : Addr} {H H' : Hp} {o : HO} (s : SameBut D H H') (hD : H' D = some o) (h : H' a = none) : H a = none := by
  by_cases e : a = D
  · subst e; rw [hD] at h; cases h
  · cases q : H a with
    | none => rfl
    | some z => rw [s a z e q] at h; cases h
theorem SameBut.keep {D : Addr} {F : FS} {H H' : Hp} {xs : List V} (s : SameBut D H H') (hD : H D = some (.lst xs)) (nF : ¬ F D) : Keep F H H' :=
  ⟨fun b zs h => s b _ (fun z => by rw [z, hD] at h; cases h) h, fun b o u h => s b _ (fun z => by rw [z, hD] at h; cases h) h, fun b o f h => s b _ (fun z => by rw [z] at f; exact nF f) h⟩
theorem pass_in {elt tg : Expr} {ifs : List Expr} {scope : Scope} {vs js : List Nat} {t : PV → SL → Option SL} {mt : M Bool} {me : M RV}
    (hg : Blk X scope fun Y => SG Y W0 tg t js) (ht : Blk X scope fun Y => STs Y W0 cm ifs mt) (he : Blk X scope fun Y => SE Y W0 cm elt me) (hj : ∀ j ∈ js, j ∈ vs)
    {F2 : FS} {H0 H1 : Hp} {ev1 : SL} {σ : St} {D : Addr} {J : It} {ps acc0 qs : List PV} {accV0 : List V} {evf : SL} {P : Hp → Prop}
    (er0 : ER X.K F2 H0 ev1 σ H1) (hD0 : H0 D = none) (nFD : ¬ F2 D) (nOD : ¬ Ow ev1 σ D) (hD : H1 D = some (.lst accV0)) (ra0 : RepL X.K F2 H1 accV0 acc0)
    (it : ItOk X.K F2 H1 J ps) (eq : compr t mt me vs acc0 ps (wipeE ev1 vs) = .ok qs evf)
    (hP : ∀ F' H' accV, ER X.K F' H0 evf (wipe σ vs) H' → (∀ a, F2 a → F' a) → SameBut D H1 H' → ¬ F' D → H' D = some (.lst accV) → RepL X.K F' H' accV qs → (∀ a, F' a → F2 a ∨ H1 a = none ∨ Ow (wipeE ev1 vs) (wipe σ vs) a) → (∀ a, Ow evf (wipe σ vs) a → Ow (wipeE ev1 vs) (wipe σ vs) a) → P H') :
    ∃ W1 : Nat → Nat → Hp → Prop, (∃ m, W1 0 m H1) ∧ ∀ i n H', W1 i n H' → (J.stop i H' ∧ P H') ∨ (J.go i H' ∧ ∃ Nx : Hp → Prop, (∀ H', Nx H' → ∃ m', m' < n ∧ W1 (i + 1) m' H') ∧ ∀ x H4, J.yld i H' x H4 → cG X scope tg x (wipe σ vs) H4 fun σ2 H2 => wipe σ2 vs = wipe σ vs ∧ cT X scope ifs σ2 H2 fun b H3 =>
      if b = true then cE X scope elt σ2 H3 fun y H4 => ∃ acc, H4 D = some (.lst acc) ∧ acc.length < sizeLine ∧ Nx (upd H4 D (.lst (acc ++ [y]))) else Nx H3) := by
  have owW : ∀ a, Ow (wipeE ev1 vs) (wipe σ vs) a → Ow ev1 σ a := fun a ⟨i, zs, e1, e2⟩ => by
    rcases wipeE_get e1.1 with z | ⟨z, n⟩
    · rw [z] at e1; cases e1.2
    · exact ⟨i, zs, ⟨z, e1.2⟩, by rw [← wipe_get n]; exact e2⟩
  refine ⟨fun i n H' => n = ps.length - i ∧ i ≤ ps.length ∧ ∃ F' ev' acc accV, ER X.K F' H0 ev' (wipe σ vs) H' ∧ (∀ a, F2 a → F' a) ∧ SameBut D H1 H' ∧ ¬ F' D ∧ H' D = some (.lst accV) ∧ RepL X.K F' H' accV acc ∧
    (∀ a, F' a → F2 a ∨ H1 a = none ∨ Ow (wipeE ev1 vs) (wipe σ vs) a) ∧ (∀ a, Ow ev' (wipe σ vs) a → Ow (wipeE ev1 vs) (wipe σ vs) a) ∧ compr t mt me vs acc (ps.drop i) ev' = .ok qs evf, ?_, ?_⟩
  · exact ⟨ps.length, by simp, Nat.zero_le _, F2, wipeE ev1 vs, acc0, accV0, er0.wiped vs, fun _ h => h, SameBut.refl, nFD, hD, ra0, fun _ h => .inl h, fun _ h => h, eq⟩
  · rintro i n H' ⟨rfl, hi, F', ev', acc, accV, er, f2, s1, nF, hDl, ra, gr, ow, hc⟩
    by_cases e : i = ps.length
    · refine .inl ⟨(it i F' H' f2 (s1.keep hD nFD)).1 e, ?_⟩
      rw [e, List.drop_length] at hc
      unfold compr Pv.ret at hc
      have e8 : acc = qs := by injection hc
      have e9 : ev' = evf := by injection hc
      subst e8 e9
      exact hP F' H' accV er f2 s1 nF hDl ra gr ow
    · have hlt : i < ps.length := by omega
      have ed : ps.drop i = ps[i] :: ps.drop (i + 1) := List.drop_eq_getElem_cons hlt
      rw [ed] at hc
      obtain ⟨go, yl⟩ := (it i F' H' f2 (s1.keep hD nFD)).2 ps[i] (List.getElem?_eq_getElem hlt)
      refine .inr ⟨go, fun H3 => ∃ F3 ev3 acc3 accV3, ER X.K F3 H0 ev3 (wipe σ vs) H3 ∧ (∀ a, F2 a → F3 a) ∧ SameBut D H1 H3 ∧ ¬ F3 D ∧ H3 D = some (.lst accV3) ∧ RepL X.K F3 H3 accV3 acc3 ∧
        (∀ a, F3 a → F2 a ∨ H1 a = none ∨ Ow (wipeE ev1 vs) (wipe σ vs) a) ∧ (∀ a, Ow ev3 (wipe σ vs) a → Ow (wipeE ev1 vs) (wipe σ vs) a) ∧ compr t mt me vs acc3 (ps.drop (i + 1)) ev3 = .ok qs evf, fun H3 q => ⟨_, by omega, rfl, hlt, q⟩, fun x H4 y => ?_⟩
      obtain ⟨s4, r4⟩ := yl x H4 y
      unfold compr turn at hc
      cases e1 : t ps[i] ev' with
      | none => simp only [e1] at hc; cases hc
      | some ev2 =>
      simp only [e1] at hc
      have er4 := er.later s4
      intro s H9 C cl fp pins st u I ru
      refine (hg s H9 C cl fp).go (F0 := F') ⟨er4, fun _ h => h, fun _ h => .inl h⟩ r4 e1 (fun σ2 a5 bt ho => ?_) pins st u I ru
      have er5 : ER X.K F' H0 ev2 σ2 H4 := a5.bs.er
      have wσ : wipe σ2 vs = wipe σ vs := (wipe_but bt hj).trans (wipe_wipe vs)
      refine ⟨wσ, fun s H9 C cl fp => ?_⟩
      unfold Pv.bnd at hc
      cases e2 : mt ev2 with
      | bad => simp only [e2] at hc; cases hc
      | exc c ev3 => simp only [e2] at hc; cases hc
      | ok k ev3 =>
      simp only [e2] at hc
      refine (ht s H9 C cl fp).go er5 ?_
      unfold Wt
      rw [e2]
      intro F5 H5 a6
      have s5 : SameBut D H1 H5 := s1.then (s4.trans a6.same)
      have d5 : H5 D = some (.lst accV) := a6.same _ _ (s4 _ _ hDl)
      have oD : ∀ {a}, Ow ev2 σ2 a → Ow (wipeE ev1 vs) (wipe σ vs) a := fun {a} o => ow a (ho a o)
      have nO : ¬ Ow ev2 σ2 D := fun o => nOD (owW D (oD o))
      have nF5 : ¬ F5 D := fun f => by
        rcases a6.grow D f with z | z | z
        · exact nF z
        · rw [s4 _ _ hDl] at z; cases z
        · exact nO z
      have gr5 : ∀ a, F5 a → F2 a ∨ H1 a = none ∨ Ow (wipeE ev1 vs) (wipe σ vs) a := fun a f => by
        rcases a6.grow a f with z | z | z
        · exact gr a z
        · exact .inr (.inl (s1.free hDl (s4.free z)))
        · exact .inr (.inr (oD z))
      have f5 : ∀ a, F2 a → F5 a := fun a f => a6.sub a (f2 a f)
      have ra5 : RepL X.K F5 H5 accV acc := RepL.mono (.of (s4.trans a6.same)) a6.sub acc ra
      have owE : ∀ {ev7 : SL} a, Ow (wipeE ev7 vs) (wipe σ vs) a → (∀ a, Ow ev7 σ2 a → Ow ev2 σ2 a) → Ow (wipeE ev1 vs) (wipe σ vs) a := fun {ev7} a ⟨i, zs, z1, z2⟩ hh => by
        rcases wipeE_get z1.1 with z | ⟨z, n⟩
        · rw [z] at z1; cases z1.2
        · refine oD (hh a ⟨i, zs, ⟨z, z1.2⟩, ?_⟩)
          rw [← wσ, wipe_get n] at z2
          exact z2
      cases k with
      | false =>
        simp only [Bool.false_eq_true, if_false, Pv.ret] at hc
        refine iteF ⟨F5, wipeE ev3 vs, acc, accV, ?_, f5, s5, nF5, d5, ra5, gr5, fun a o => owE a o a6.ow, hc⟩
        rw [← wσ]
        exact a6.er.wiped vs
      | true =>
        simp only [if_true] at hc
        refine iteT ?_
        intro s H9 C cl fp
        cases e3 : me ev3 with
        | bad => simp only [e3] at hc; cases hc
        | exc c ev4 => simp only [e3] at hc; cases hc
        | ok z ev4 =>
        simp only [e3, Pv.ret] at hc
        refine (he s H9 C cl fp).go a6.er ?_
        unfold Wt
        rw [e3]
        intro F6 H6 a7 v rv
        obtain ⟨F7, a8, r8, _⟩ := rv.share a7
        by_cases hz : acc.length < SZ
        · rw [if_pos hz] at hc
          have d6 : H6 D = some (.lst accV) := a8.same _ _ d5
          have nF7 : ¬ F7 D := fun f => by
            rcases a8.grow D f with z | z | z
            · exact nF5 z
            · rw [d5] at z; cases z
            · exact nO (a6.ow D z)
          have ra7 : RepL X.K F7 H6 accV acc := RepL.mono (.of a8.same) a8.sub acc ra5
          have erW : ER X.K F7 H0 (wipeE ev4 vs) (wipe σ vs) H6 := by
            rw [← wσ]
            exact a8.er.wiped vs
          have noW : ¬ Ow (wipeE ev4 vs) (wipe σ vs) D := fun o => nOD (owW D (owE D o fun a o => a6.ow a (a8.ow a o)))
          obtain ⟨erD, kD⟩ := erW.side (xs := accV ++ [v]) nF7 hD0 noW ⟨_, d6⟩
          refine ⟨accV, d6, by rw [ra7.length]; exact hz, F7, wipeE ev4 vs, acc ++ [z.1], accV ++ [v], erD, fun a f => a8.sub a (f5 a f), fun b o ne hb => ?_, nF7, upd_same, RepL.mono kD (fun _ h => h) _ (ra7.append (RepL.cons r8 RepL.nil)), fun a f => ?_, fun a o => owE a o fun a o => a6.ow a (a8.ow a o), hc⟩
          · rw [upd_ne ne]
            exact a8.same _ _ (s5 _ _ ne hb)
          · rcases a8.grow a f with z | z | z
            · exact gr5 a z
            · exact .inr (.inl (s5.free d5 z))
            · exact .inr (.inr (oD (a6.ow a z)))
        · rw [if_neg hz] at hc; cases hc
end
end Pv
set_option Elab.async false
set_option linter.all false
set_option maxRecDepth 100000
namespace Pv
open PySem PySem.Spec L2
open PyProof.Rows hiding St
section
variable {X : Cx} {W : WX} {cm : CM}
def sI (X : Cx) (tg iter : Expr) : TI := fun σ H R => ∃ wi, PI X tg iter wi ∧ wi σ H R
theorem sI_pi {tg iter : Expr} : PI X tg iter (sI X tg iter) := ⟨fun pins s σ H R I h => by
  obtain ⟨wi, p, q⟩ := h
  exact p.run pins s σ H R I q⟩
def cI (X : Cx) (scope : Scope) (tg iter : Expr) : TI := fun σ H R => ∀ (s : Shared) (H1 : Hp) (C : Addr) (cl : List (Str × Addr)) (fp : List Addr), sI (X.blk s H1 scope (compEnvC scope cl C X.env) fp) tg iter σ H R
def compr2 (t : PV → SL → Option SL) (mt : M Bool) (mi1 : M (List PV)) (t1 : PV → SL → Option SL) (mt1 : M Bool) (me : M RV) (vs vs1 : List Nat) : List PV → List PV → M (List PV)
  | acc, [] => ret acc
  | acc, p :: ps => fun ev => match t p ev with
    | none => .bad
    | some ev1 => match mt ev1 with
      | .ok true ev2 => (match mi1 ev2 with
        | .ok ps1 ev3 => (match compr t1 mt1 me vs1 acc ps1 (wipeE ev3 vs1) with
          | .ok acc' ev4 => compr2 t mt mi1 t1 mt1 me vs vs1 acc' ps (wipeE ev4 vs)
          | _ => .bad)
        | _ => .bad)
      | .ok false ev2 => compr2 t mt mi1 t1 mt1 me vs vs1 acc ps (wipeE ev2 vs)
      | _ => .bad
def mComp2 (mi : M (List PV)) (t : PV → SL → Option SL) (mt : M Bool) (mi1 : M (List PV)) (t1 : PV → SL → Option SL) (mt1 : M Bool) (me : M RV) (vs vs1 : List Nat) : M RV := bnd mi fun ps ev1 => match compr2 t mt mi1 t1 mt1 me vs vs1 [] ps (wipeE ev1 vs) with
  | .ok qs ev2 => .ok (.lst qs, true) (back ev1 ev2 vs)
  | _ => .bad
theorem comp2_core {elt tg tg1 iter1 : Expr} {ifs ifs1 : List Expr} {scope : Scope} {vs js vs1 js1 : List Nat} {mi mi1 : M (List PV)} {t t1 : PV → SL → Option SL} {mt mt1 : M Bool} {me : M RV} {wi : TI}
    (hg : Blk X scope fun Y => SG Y W0 tg t js) (ht : Blk X scope fun Y => STs Y W0 cm ifs mt) (hi1 : Blk X scope fun Y => SI Y W0 cm tg1 iter1 mi1) (hg1 : Blk X scope fun Y => SG Y W0 tg1 t1 js1) (ht1 : Blk X scope fun Y => STs Y W0 cm ifs1 mt1) (he : Blk X scope fun Y => SE Y W0 cm elt me) (hj : ∀ j ∈ js, j ∈ vs) (hj1 : ∀ j ∈ js1, j ∈ vs1) (hv : ∀ j ∈ vs1, j ∈ vs)
    (hwi : ∀ {F : FS} {H0 H : Hp} {ev : SL} {σ : St} {R : It → Hp → Prop}, ER X.K F H0 ev σ H → (Wt X.K W cm F H0 ev σ H mi fun ps ev' F' H' => ∀ J F2, Aft X.K F H0 ev ev' σ H F2 H' → (∀ a, F' a → F2 a) → ItOk X.K F2 H' J ps → R J H') → wi σ H R)
    {F : FS} {H0 H : Hp} {ev : SL} {σ : St} {Q : VK} (r : ER X.K F H0 ev σ H)
    (h : Wt X.K W cm F H0 ev σ H (mComp2 mi t mt mi1 t1 mt1 me vs vs1) fun r ev' F' H' => ∀ v, ResR X.K F' H0 ev' σ H H' r v → Q v H') :
    tLc2 wi (cG X scope tg) (cT X scope ifs) (cI X scope tg1 iter1) (cG X scope tg1) (cT X scope ifs1) (cE X scope elt) vs vs1 σ H Q := by
  refine hwi r ?_
  unfold Wt
  unfold Wt mComp2 Pv.bnd at h
  cases em : mi ev with
  | bad => simp only [em] at h
  | exc c ev1 => simp only [em] at h; exact h
  | ok ps ev1 =>
  simp only [em] at h
  intro F1 H1 _ J F2 a2 _ it D hD
  cases eq : compr2 t mt mi1 t1 mt1 me vs vs1 [] ps (wipeE ev1 vs) with
  | bad => simp only [eq] at h
  | exc c evf => simp only [eq] at h
  | ok qs evf =>
  simp only [eq] at h
  have hD0 : H0 D = none := a2.er.same.free hD
  have nFD : ¬ F2 D := fun f => a2.er.dom D f hD
  have nOD : ¬ Ow ev1 σ D := fun o => by
    obtain ⟨_, _, xs, e, _⟩ := a2.er.ow o
    rw [hD] at e; cases e
  have owW : ∀ a, Ow (wipeE ev1 vs) (wipe σ vs) a → Ow ev1 σ a := fun a ⟨i, zs, e1, e2⟩ => by
    rcases wipeE_get e1.1 with z | ⟨z, n⟩
    · rw [z] at e1; cases e1.2
    · exact ⟨i, zs, ⟨z, e1.2⟩, by rw [← wipe_get n]; exact e2⟩
  refine ⟨fun i n H' => n = ps.length - i ∧ i ≤ ps.length ∧ ∃ F' ev' acc accV, ER X.K F' H0 ev' (wipe σ vs) H' ∧ (∀ a, F2 a → F' a) ∧ Same H1 H' ∧ ¬ F' D ∧ H' D = some (.lst accV) ∧ RepL X.K F' H' accV acc ∧
    (∀ a, F' a → F2 a ∨ H1 a = none ∨ Ow (wipeE ev1 vs) (wipe σ vs) a) ∧ (∀ a, Ow ev' (wipe σ vs) a → Ow (wipeE ev1 vs) (wipe σ vs) a) ∧ compr2 t mt mi1 t1 mt1 me vs vs1 acc (ps.drop i) ev' = .ok qs evf, ?_, ?_⟩
  · exact ⟨ps.length, by simp, Nat.zero_le _, F2, wipeE ev1 vs, [], [], (a2.er.wiped vs).later (same_upd hD), fun _ h => h, same_upd hD, nFD, upd_same, RepL.nil, fun _ h => .inl h, fun _ h => h, eq⟩
  · rintro i n H' ⟨rfl, hi, F', ev', acc, accV, er, f2, s1, nF, hDl, ra, gr, ow, hc⟩
    by_cases e : i = ps.length
    · refine .inl ⟨(it i F' H' f2 (.of s1)).1 e, ?_⟩
      rw [e, List.drop_length] at hc
      unfold compr2 Pv.ret at hc
      have e8 : acc = qs := by injection hc
      have e9 : ev' = evf := by injection hc
      rw [← e8, ← e9] at h
      have backlen : ∀ vs : List Nat, (back ev1 ev' vs).length = ev'.length := by
        intro vs
        induction vs with
        | nil => rfl
        | cons v vs ih => unfold back; rw [List.length_set, ih]
      have backget : ∀ (vs : List Nat) (i : Nat) (s : Slot), (back ev1 ev' vs)[i]? = some s → (i ∉ vs ∧ ev'[i]? = some s) ∨ s = .no ∨ ∃ p, s = .val p ∧ ev1[i]? = some (.val p) := by
        intro vs
        induction vs with
        | nil => intro i s h; exact .inl ⟨by simp, h⟩
        | cons v vs ih =>
          intro i s h
          unfold back at h
          rcases getElem?_set_some h with ⟨z, e⟩ | ⟨ne, e⟩
          · subst z
            split at e
            · rename_i p hp; exact .inr (.inr ⟨p, e, hp⟩)
            · exact .inr (.inl e)
          · rcases ih i s e with ⟨z1, z2⟩ | z
            · exact .inl ⟨fun z => (List.mem_cons.mp z).elim (fun z => ne z.symm) z1, z2⟩
            · exact .inr z
      have ow1 : ∀ a, Ow (back ev1 ev' vs) σ a → Ow ev' (wipe σ vs) a := fun a ⟨i, zs, e1, e2⟩ => by
        rcases backget vs i _ e1.1 with ⟨z1, z2⟩ | z | ⟨p, z, _⟩
        · exact ⟨i, zs, ⟨z2, e1.2⟩, by rw [wipe_get z1]; exact e2⟩
        · rw [z] at e1; cases e1.2
        · rw [z] at e1; cases e1.2
      have erB : ER X.K F' H0 (back ev1 ev' vs) σ H' := by
        refine ⟨by rw [backlen, er.len, wipe_length], fun i s e => ?_, fun i j a us ws e1 e2 s1 s2 => ?_, er.dom, er.same⟩
        · rcases backget vs i s e with ⟨z1, z2⟩ | z | ⟨p, z, z2⟩
          · obtain ⟨o, e1, q⟩ := er.slot i s z2
            exact ⟨o, by rw [← wipe_get z1]; exact e1, q⟩
          · subst z
            have : i < σ.length := by
              have h1 := (List.getElem?_eq_some_iff.mp e).1
              rw [backlen, er.len, wipe_length] at h1
              exact h1
            exact ⟨_, List.getElem?_eq_getElem this, trivial⟩
          · subst z
            obtain ⟨o, e1, v, e2, q⟩ := a2.er.slot i _ z2
            exact ⟨o, e1, v, e2, Rep.mono (.of s1) f2 p q⟩
        · rcases backget vs i _ e1.1 with ⟨z1, z2⟩ | z | ⟨p, z, _⟩
          · rcases backget vs j _ e2.1 with ⟨y1, y2⟩ | y | ⟨p, y, _⟩
            · exact er.inj i j a us ws ⟨z2, e1.2⟩ ⟨y2, e2.2⟩ (by rw [wipe_get z1]; exact s1) (by rw [wipe_get y1]; exact s2)
            · rw [y] at e2; cases e2.2
            · rw [y] at e2; cases e2.2
          · rw [z] at e1; cases e1.2
          · rw [z] at e1; cases e1.2
      refine h F' H' ⟨fun a h => f2 a (a2.sub a h), fun a h => ?_, a2.same.trans s1, erB, fun a h => a2.ow a (owW a (ow a (ow1 a h)))⟩ (.ref D) ⟨D, accV, acc, rfl, rfl, hDl, ra, nF, a2.same.free hD, fun o => nOD (owW D (ow D (ow1 D o)))⟩
      rcases gr a h with h | h | h
      · exact a2.grow a h
      · exact .inr (.inl (a2.same.free h))
      · exact .inr (.inr (a2.ow a (owW a h)))
    · have hlt : i < ps.length := by omega
      have ed : ps.drop i = ps[i] :: ps.drop (i + 1) := List.drop_eq_getElem_cons hlt
      rw [ed] at hc
      obtain ⟨go, yl⟩ := (it i F' H' f2 (.of s1)).2 ps[i] (List.getElem?_eq_getElem hlt)
      refine .inr ⟨go, fun H3 => ∃ F3 ev3 acc3 accV3, ER X.K F3 H0 ev3 (wipe σ vs) H3 ∧ (∀ a, F2 a → F3 a) ∧ Same H1 H3 ∧ ¬ F3 D ∧ H3 D = some (.lst accV3) ∧ RepL X.K F3 H3 accV3 acc3 ∧
        (∀ a, F3 a → F2 a ∨ H1 a = none ∨ Ow (wipeE ev1 vs) (wipe σ vs) a) ∧ (∀ a, Ow ev3 (wipe σ vs) a → Ow (wipeE ev1 vs) (wipe σ vs) a) ∧ compr2 t mt mi1 t1 mt1 me vs vs1 acc3 (ps.drop (i + 1)) ev3 = .ok qs evf, fun H3 q => ⟨_, by omega, rfl, hlt, q⟩, fun x H4 y => ?_⟩
      obtain ⟨s4, r4⟩ := yl x H4 y
      unfold compr2 at hc
      cases e1 : t ps[i] ev' with
      | none => simp only [e1] at hc; cases hc
      | some ev2 =>
      simp only [e1] at hc
      have er4 := er.later s4
      intro s H9 C cl fp pins st u I ru
      refine (hg s H9 C cl fp).go (F0 := F') ⟨er4, fun _ h => h, fun _ h => .inl h⟩ r4 e1 (fun σ2 a5 bt ho => ?_) pins st u I ru
      have er5 : ER X.K F' H0 ev2 σ2 H4 := a5.bs.er
      have wσ : wipe σ2 vs = wipe σ vs := (wipe_but bt hj).trans (wipe_wipe vs)
      refine ⟨wσ, fun s H9 C cl fp => ?_⟩
      cases e2 : mt ev2 with
      | bad => simp only [e2] at hc; cases hc
      | exc c ev3 => simp only [e2] at hc; cases hc
      | ok k ev3 =>
      refine (ht s H9 C cl fp).go er5 ?_
      unfold Wt
      rw [e2]
      intro F5 H5 a6
      have s5 : Same H1 H5 := s1.trans (s4.trans a6.same)
      have d5 : H5 D = some (.lst accV) := a6.same _ _ (s4 _ _ hDl)
      have oD : ∀ {a}, Ow ev2 σ2 a → Ow (wipeE ev1 vs) (wipe σ vs) a := fun {a} o => ow a (ho a o)
      have nO : ¬ Ow ev2 σ2 D := fun o => nOD (owW D (oD o))
      have nF5 : ¬ F5 D := fun f => by
        rcases a6.grow D f with z | z | z
        · exact nF z
        · rw [s4 _ _ hDl] at z; cases z
        · exact nO z
      have gr5 : ∀ a, F5 a → F2 a ∨ H1 a = none ∨ Ow (wipeE ev1 vs) (wipe σ vs) a := fun a f => by
        rcases a6.grow a f with z | z | z
        · exact gr a z
        · exact .inr (.inl (s1.free (s4.free z)))
        · exact .inr (.inr (oD z))
      have f5 : ∀ a, F2 a → F5 a := fun a f => a6.sub a (f2 a f)
      have ra5 : RepL X.K F5 H5 accV acc := RepL.mono (.of (s4.trans a6.same)) a6.sub acc ra
      have owE : ∀ {ev7 : SL} a, Ow (wipeE ev7 vs) (wipe σ vs) a → (∀ a, Ow ev7 σ2 a → Ow ev2 σ2 a) → Ow (wipeE ev1 vs) (wipe σ vs) a := fun {ev7} a ⟨i, zs, z1, z2⟩ hh => by
        rcases wipeE_get z1.1 with z | ⟨z, n⟩
        · rw [z] at z1; cases z1.2
        · refine oD (hh a ⟨i, zs, ⟨z, z1.2⟩, ?_⟩)
          rw [← wσ, wipe_get n] at z2
          exact z2
      cases k with
      | false =>
        simp only [e2] at hc
        refine iteF ⟨F5, wipeE ev3 vs, acc, accV, ?_, f5, s5, nF5, d5, ra5, gr5, fun a o => owE a o a6.ow, hc⟩
        rw [← wσ]
        exact a6.er.wiped vs
      | true =>
        simp only [e2] at hc
        refine iteT ?_
        intro s H9 C cl fp
        obtain ⟨wi1, p1, h1⟩ := (hi1 s H9 C cl fp).ex
        refine ⟨wi1, p1, h1 a6.er ?_⟩
        unfold Wt
        cases e3 : mi1 ev3 with
        | bad => simp only [e3] at hc; cases hc
        | exc c ev4 => simp only [e3] at hc; cases hc
        | ok ps1 ev4 =>
        simp only [e3] at hc
        intro F6 H6 a7 J1 F7 a8 f67 it1
        cases e4 : compr t1 mt1 me vs1 acc ps1 (wipeE ev4 vs1) with
        | bad => simp only [e4] at hc; cases hc
        | exc c ev5 => simp only [e4] at hc; cases hc
        | ok acc' ev5 =>
        simp only [e4] at hc
        have d6 : H6 D = some (.lst accV) := a8.same _ _ d5
        have nF7 : ¬ F7 D := fun f => by
          rcases a8.grow D f with z | z | z
          · exact nF5 z
          · rw [d5] at z; cases z
          · exact nO (a6.ow D z)
        have nO7 : ¬ Ow ev4 σ2 D := fun o => nO (a6.ow D (a8.ow D o))
        have ra7 : RepL X.K F7 H6 accV acc := RepL.mono (.of a8.same) a8.sub acc ra5
        have ow4 : ∀ a, Ow (wipeE ev4 vs1) (wipe σ2 vs1) a → Ow (wipeE ev1 vs) (wipe σ vs) a := fun a ⟨i, zs, z1, z2⟩ => by
          rcases wipeE_get z1.1 with z | ⟨z, n⟩
          · rw [z] at z1; cases z1.2
          · rw [wipe_get n] at z2
            exact oD (a6.ow a (a8.ow a ⟨i, zs, ⟨z, z1.2⟩, z2⟩))
        have w2 : wipe (wipe σ2 vs1) vs = wipe σ vs := (wipe_but (js := vs1) ⟨wipe_length _ _, fun j hj => wipe_get hj⟩ hv).trans wσ
        refine pass_in hg1 ht1 he hj1 a8.er hD0 nF7 nO7 d6 ra7 it1 e4 fun F' H' accV' er' f' sb nF' hD' ra' gr' ow' => ⟨F', wipeE ev5 vs, acc', accV', ?_, fun a f => f' a (a8.sub a (f5 a f)), fun b o hb => sb b o (ne_of_none hb hD) (a8.same _ _ (s5 _ _ hb)), nF', hD', ra', fun a f => ?_, fun a o => ?_, hc⟩
        · rw [← w2]
          exact er'.wiped vs
        · rcases gr' a f with z | z | z
          · rcases a8.grow a z with z | z | z
            · exact gr5 a z
            · exact .inr (.inl (s5.free z))
            · exact .inr (.inr (oD (a6.ow a z)))
          · exact .inr (.inl (s5.free (a8.same.free z)))
          · exact .inr (.inr (ow4 a z))
        · obtain ⟨i, zs, z1, z2⟩ := o
          rcases wipeE_get z1.1 with z | ⟨z, n⟩
          · rw [z] at z1; cases z1.2
          · refine ow4 a (ow' a ⟨i, zs, ⟨z, z1.2⟩, ?_⟩)
            rw [← w2, wipe_get n] at z2
            exact z2
theorem e_comp2 {elt tg iter tg1 iter1 : Expr} {ifs ifs1 : List Expr} {scope : Scope} {own : List (Str × Nat)} {vs1 : List Nat} {pos : Pos} {js js1 : List Nat} {mi mi1 : M (List PV)} {t t1 : PV → SL → Option SL} {mt mt1 : M Bool} {me : M RV} (hc : X.calm = true) (hNd : X.N.Nodup) (ok : BlkOk X.N X.env.scope scope own)
    (si : SI X W cm tg iter mi) (hg : Blk X scope fun Y => SG Y W0 tg t js) (ht : Blk X scope fun Y => STs Y W0 cm ifs mt) (hi1 : Blk X scope fun Y => SI Y W0 cm tg1 iter1 mi1) (hg1 : Blk X scope fun Y => SG Y W0 tg1 t1 js1) (ht1 : Blk X scope fun Y => STs Y W0 cm ifs1 mt1) (he : Blk X scope fun Y => SE Y W0 cm elt me) (hj : ∀ j ∈ js, j ∈ own.map (·.2) := by decide) (hj1 : ∀ j ∈ js1, j ∈ vs1 := by decide) (hv : ∀ j ∈ vs1, j ∈ own.map (·.2) := by decide)
    (hs : ∀ x, foldedSetIterable iter X.env x = pure x := by intro _; rfl) (hs1 : ∀ env x, foldedSetIterable iter1 env x = pure x := by intro _ _; rfl) : SE X W cm (.ListComp elt [⟨tg, iter, ifs, 0⟩, ⟨tg1, iter1, ifs1, 0⟩] scope pos) (mComp2 mi t mt mi1 t1 mt1 me (own.map (·.2)) vs1) := .mk' fun F H0 H ev σ Q r h => by
  obtain ⟨wi, hpi, hwi⟩ := si.ex
  refine sE_of (pe_lc2 (wi1 := cI X scope tg1 iter1) (g := cG X scope tg) (tt := cT X scope ifs) (g1 := cG X scope tg1) (tt1 := cT X scope ifs1) (te := cE X scope elt) hc hNd hpi ok hv (fun s H C cl fp => ⟨fun pins s' σ H' v u Q' I ru q => q s H C cl fp pins s' u I ru⟩)
    (fun s H C cl fp => ⟨fun pins s' σ H' Q' I q => sTs_pt.run pins s' σ H' Q' I (q s H C cl fp)⟩)
    (fun s H C cl fp => ⟨fun pins s' σ H' R I q => sI_pi.run pins s' σ H' R I (q s H C cl fp)⟩)
    (fun s H C cl fp => ⟨fun pins s' σ H' v u Q' I ru q => q s H C cl fp pins s' u I ru⟩)
    (fun s H C cl fp => ⟨fun pins s' σ H' Q' I q => sTs_pt.run pins s' σ H' Q' I (q s H C cl fp)⟩)
    (fun s H C cl fp => ⟨fun pins s' σ H' Q' I q => q s H C cl fp pins s' I⟩) hs hs1) ?_
  exact comp2_core hg ht hi1 hg1 ht1 he hj hj1 hv hwi r h
theorem e_comp2V {N : List Str} {sc : Scope} {vs : List Nat} (vs1 : List Nat) (own : List (Str × Nat)) {elt tg iter tg1 iter1 : Expr} {ifs ifs1 : List Expr} {scope : Scope} {pos : Pos} {js js1 : List Nat} {mi mi1 : M (List PV)} {t t1 : PV → SL → Option SL} {mt mt1 : M Bool} {me : M RV} (hc : X.calm = true) (hNd : X.N.Nodup) (ok : blkC N sc scope own = true)
    (si : SI X W cm tg iter mi) (hg : Blk X scope fun Y => SG Y W0 tg t js) (ht : Blk X scope fun Y => STs Y W0 cm ifs mt) (hi1 : Blk X scope fun Y => SI Y W0 cm tg1 iter1 mi1) (hg1 : Blk X scope fun Y => SG Y W0 tg1 t1 js1) (ht1 : Blk X scope fun Y => STs Y W0 cm ifs1 mt1) (he : Blk X scope fun Y => SE Y W0 cm elt me) (hj : ∀ j ∈ js, j ∈ own.map (·.2) := by decide) (hj1 : ∀ j ∈ js1, j ∈ vs1 := by decide) (hv : ∀ j ∈ vs1, j ∈ own.map (·.2) := by decide) (hvs : own.map (·.2) = vs := by rfl) (eN : X.N = N := by rfl) (eS : X.env.scope = sc := by rfl)
    (hs : ∀ x, foldedSetIterable iter X.env x = pure x := by intro _; rfl) (hs1 : ∀ env x, foldedSetIterable iter1 env x = pure x := by intro _ _; rfl) : SE X W cm (.ListComp elt [⟨tg, iter, ifs, 0⟩, ⟨tg1, iter1, ifs1, 0⟩] scope pos) (mComp2 mi t mt mi1 t1 mt1 me vs vs1) := by
  subst hvs eN eS
  exact e_comp2 hc hNd (blkOk_by ok) si hg ht hi1 hg1 ht1 he hj hj1 hv hs hs1
end
end Pv
set_option Elab.async false
set_option linter.all false
set_option maxRecDepth 100000
namespace Pv
open PySem PySem.Spec L2
open PyProof.Rows hiding St
section
variable {prog : Program} {w : World} {A : Around} {E : Value → Shared → Prop} {s : Shared}
theorem fm_some {α β : Type} {f : α → Option β} {g : α → β} : ∀ l : List α, (∀ x ∈ l, f x = some (g x)) → l.filterMap f = l.map g
  | [], _ => rfl
  | x :: l, h => by rw [List.filterMap_cons, h x (by simp), List.map_cons]; simp only; rw [fm_some l fun y hy => h y (by simp [hy])]
theorem rev_pick (xs : Array Value) : ((List.range xs.size).filterMap fun (k : Nat) => xs[((xs.size : Int) - 1 + (k : Int) * (-1)).toNat]?).toArray = xs.toList.reverse.toArray := by
  congr 1
  have e : (fun (k : Nat) => xs[((xs.size : Int) - 1 + (k : Int) * (-1)).toNat]?) = fun (k : Nat) => xs.toList[((xs.size : Int) - 1 - (k : Int)).toNat]? := by
    funext k
    rw [show (xs.size : Int) - 1 + (k : Int) * (-1) = (xs.size : Int) - 1 - (k : Int) by omega]
    simp
  rw [e]
  have hl : xs.size = xs.toList.length := by simp
  rw [hl]
  generalize xs.toList = l
  apply List.ext_getElem?
  intro i
  have key := fm_some (f := fun (k : Nat) => l[((l.length : Int) - 1 - (k : Int)).toNat]?) (g := fun k => l.reverse.getD k .none) (List.range l.length) (fun k hk => by
    rw [List.mem_range] at hk
    rw [show ((l.length : Int) - 1 - (k : Int)).toNat = l.length - 1 - k by omega, List.getElem?_eq_getElem (by omega)]
    simp [List.getD_eq_getElem?_getD, List.getElem?_reverse hk, List.getElem?_eq_getElem (show l.length - 1 - k < l.length by omega)])
  rw [key, List.getElem?_map]
  by_cases h : i < l.length
  · rw [List.getElem?_range h]
    simp [List.getD_eq_getElem?_getD, List.getElem?_reverse h, List.getElem?_eq_getElem (show l.length - 1 - i < l.length by omega)]
  · rw [List.getElem?_eq_none (by simp; omega), List.getElem?_eq_none (by simp; omega)]
    rfl
theorem sliceApplied_rev {sl : Addr} {vl vu vs : Value} {n : Nat} {Q : Int × Int × Nat → Shared → Prop} (hs : s.heap.IsSliceOf sl vl vu vs) (pl : IsPart vl none) (pu : IsPart vu none) (ps : IsPart vs (some (-1)))
    (h : Q ((n : Int) - 1, -1, n) s) : wpAny (model prog w) A (Builtin.Slice.sliceApplied (.ref sl) (pure (n : Int))) Q E s := by
  obtain ⟨os, hos, hcs, hds⟩ := id hs
  unfold Builtin.Slice.sliceApplied Builtin.Slice.sliceFields
  refine wpAny_bind (wpAny_bind (wpAny_field hos hds (x := vl) rfl (wpAny_bind (wpAny_field hos hds (x := vu) rfl (wpAny_bind (wpAny_field hos hds (x := vs) rfl (wpAny_pure ?_)))))))
  refine wpAny_bind (HT.slicePart_ ps ?_)
  show wpAny _ _ (if ((-1 : Int) == 0) = true then _ else _) _ _ s
  rw [if_neg (by decide)]
  refine wpAny_bind (HT.slicePart_ pl (wpAny_bind (HT.slicePart_ pu (wpAny_bind (wpAny_pure ?_)))))
  show wpAny _ _ (match Builtin.Slice.sliceAdjust none none (-1) (n : Int) with | (lo, hi) => pure (lo, (-1 : Int), Builtin.Slice.slicePlaces lo hi (-1))) _ _ s
  have e1 : Builtin.Slice.sliceAdjust none none (-1) (n : Int) = ((n : Int) - 1, -1) := rfl
  rw [e1]
  show wpAny _ _ (pure ((n : Int) - 1, (-1 : Int), Builtin.Slice.slicePlaces ((n : Int) - 1) (-1) (-1))) _ _ s
  have e2 : Builtin.Slice.slicePlaces ((n : Int) - 1) (-1) (-1) = n := by
    unfold Builtin.Slice.slicePlaces
    have h1 : ¬ ((-1 : Int) > 0) := by decide
    simp only [h1, if_false]
    by_cases c : (n : Int) - 1 > -1
    · simp only [c, if_true]
      have : ((n : Int) - 1 - -1 - 1) / (- -1) = (n : Int) - 1 := by
        rw [show (- -1 : Int) = 1 by decide, Int.ediv_one]; omega
      rw [this]; omega
    · simp only [c, if_false]; omega
  rw [e2]
  exact wpAny_pure h
theorem getItem_tuple_rev {t sl : Addr} {items : Array Value} {vl vu vs : Value} {Q : Value → Shared → Prop} (ht : IsTup s.heap t items) (hs : s.heap.IsSliceOf sl vl vu vs) (pl : IsPart vl none) (pu : IsPart vu none) (ps : IsPart vs (some (-1)))
    (h : Q (.ref s.heap.objs.size) { s with heap := s.heap.push { cls := .type "tuple", data := .seq items.toList.reverse.toArray } })
    (hsz : items.size ≤ sizeLine) : wpAny (model prog w) A (getItem (.ref t) (.ref sl)) Q E s := by
  have htake : sizeOk (.seq items.toList.reverse.toArray) := by
    show items.toList.reverse.toArray.size ≤ sizeLine
    simpa using hsz
  obtain ⟨os, hos, hcs, hds⟩ := id hs
  have hTs : s.TypeIs (.ref sl) "slice" := ⟨os, hos, hcs⟩
  unfold getItem
  try with_reducible refine wpAny_holding ?_
  first | refine wpAny_bind (wpAny_pure ?_) | skip
  refine wpAny_bind (wpAny_sequenceKey ht.typeIs (by decide) ?_)
  refine wpAny_bind (wpAny_callSpecial?_slot (name := Str.ofString "__getitem__") ht.typeIs PyProof.Rows.slot_tuple_getitem
    (wpAny_call_entry PyProof.Rows.slot_tuple_getitem ht.typeIs entry_tuple_getitem ?_ (args_tuple_getitem _ _)))
  show wpAny _ _ (Builtin.Tuple.tupleItemsOf (.ref t) >>= _) _ _ s
  refine wpAny_bind (tupleItemsOf_ ht ?_)
  refine wpAny_bind (wpAny_typeOf hTs ?_)
  rw [if_pos (by decide)]
  refine wpAny_bind (sliceApplied_rev hs pl pu ps ?_)
  have hno : ¬ ((((items.size : Int) - 1) == 0 && (-1 : Int) == 1 && items.size == items.size) = true) := by
    intro q
    rw [Bool.and_eq_true, Bool.and_eq_true] at q
    exact absurd q.1.2 (by decide)
  show wpAny _ _ (if (((items.size : Int) - 1) == 0 && (-1 : Int) == 1 && items.size == items.size) = true then _ else _) _ _ s
  rw [if_neg hno, rev_pick]
  first
    | exact wpAny_bind (m := Builtin.Tuple.tupleExact _) (wpAny_newObj_type (wpAny_pure ⟨_, rfl, wpAny_pure h⟩) htake)
    | exact wpAny_bind (m := Builtin.Tuple.tupleExact _) (wpAny_newObj_type (wpAny_bind (wpAny_pure (wpAny_pure ⟨_, rfl, wpAny_pure h⟩))) htake)
    | exact wpAny_bind (wpAny_bind (m := Builtin.Tuple.tupleExact _) (wpAny_newObj_type (wpAny_pure (wpAny_pure ⟨_, rfl, wpAny_pure h⟩)) htake))
    | exact wpAny_bind (wpAny_bind (m := Builtin.Tuple.tupleExact _) (wpAny_newObj_type (wpAny_pure ⟨_, rfl, wpAny_pure h⟩) htake))
end
def tRevA (K : PySem.W.Frag) (te : TE) : TE := fun σ H Q => te σ H fun x H1 => ∃ a xs, x = .ref a ∧ ((SqL K H1 a xs ∧ ∀ p, H1 p = none → Q (.ref p) (upd H1 p (.lst xs.reverse))) ∨ (SqT K H1 a xs ∧ NewT xs.reverse Q H1))
section
variable {X : Cx} {W : WX} {cm : CM}
theorem pe_revA {e : Expr} {te : TE} {k : Nat} {p1 p2 p3 pos : Pos} (he : PE X e te) : PE X (.Subscript e (.Slice none none (some (.UnaryOp .USub (.Constant (.int 1) k p1) p2)) p3) pos) (tRevA X.K te) := by
  refine ⟨fun pins s σ H Q I h => ?_⟩
  refine Subscript_ (thn (he.run pins s σ H _ I h) fun v s1 ⟨x, H1, I1, r1, q1⟩ => ?_)
  obtain ⟨a, xs, ex, q⟩ := q1
  subst ex
  cases r1
  have hst : PO X (some (.UnaryOp .USub (.Constant (.int 1) k p1) p2)) (tPart (tUn (rU fun i => .int (-i)) (tC (.int 1)))) := po_some (pe_un un_neg pe_int)
  refine wpAny_Slice (thn (po_none.run pins s1 σ H1 (fun o H2 => o = none ∧ H2 = H1) I1 ⟨rfl, rfl⟩) fun vl s2 ⟨l, H2, I2, pl, el, e2⟩ => ?_)
  subst el e2
  refine thn (po_none.run pins s2 σ H2 (fun o H3 => o = none ∧ H3 = H2) I2 ⟨rfl, rfl⟩) fun vu s3 ⟨u, H3, I3, pu, eu, e3⟩ => ?_
  subst eu e3
  refine thn (hst.run pins s3 σ H3 (fun o H4 => o = some (-1) ∧ H4 = H3) I3 ⟨1, rfl, -1, rfl, rfl, rfl⟩) fun vs s4 ⟨o, H4, I4, ps, eo, e4⟩ => ?_
  subst eo e4
  have I5 : Inv X pins σ H4 { s4 with heap := s4.heap.push { cls := .type "slice", data := .fields #[vl, vu, vs] } } := I4.kept (t' := s4.toks) fun b ob q => Heap.get?_push_of_some _ q
  rcases q with ⟨hx, q⟩ | ⟨hx, q⟩
  · obtain ⟨its, r, ht, hz⟩ := I5.list hx
    have hlen := r.length
    show wpAny (model X.prog X.w) X.A (subscriptTail e (.Slice none none (some (.UnaryOp .USub (.Constant (.int 1) k p1) p2)) p3) (.ref a) (.ref s4.heap.objs.size)) (EP X pins σ Q) X.xe { s4 with heap := s4.heap.push { cls := .type "slice", data := .fields #[vl, vu, vs] } }
    refine tail_any (ops := [.ref a, .ref s4.heap.objs.size]) ht.isList.typeIs (PySem.slot_list_getitem.lookup) ?_ (by with_unfolding_all rfl)
    refine wpAny_getItem_list_slice ht.isList (Heap.IsSliceOf.new _ vl vu vs) pl pu ps (by decide) ?_ (by rw [List.size_toArray]; omega)
    rw [PySem.W.krv_pick]
    refine ⟨.ref _, _, I5.laid (t' := s4.toks) (o := .lst xs.reverse) (fun b ob q => Heap.get?_push_of_some _ q) (Nat.le_refl _) ?_, rfl, q _ (I5.hok.fresh (Nat.le_refl _))⟩
    exact ⟨by rw [List.length_reverse]; exact hz, _, 0, r.reverse, Heap.get?_push_size _ rfl⟩
  · obtain ⟨its, r, ht, hz⟩ := I5.tuple hx
    have hlen := r.length
    show wpAny (model X.prog X.w) X.A (subscriptTail e (.Slice none none (some (.UnaryOp .USub (.Constant (.int 1) k p1) p2)) p3) (.ref a) (.ref s4.heap.objs.size)) (EP X pins σ Q) X.xe { s4 with heap := s4.heap.push { cls := .type "slice", data := .fields #[vl, vu, vs] } }
    refine tail_any (ops := [.ref a, .ref s4.heap.objs.size]) ht.typeIs (PyProof.Rows.slot_tuple_getitem.lookup) ?_ (by with_unfolding_all rfl)
    refine getItem_tuple_rev ht (Heap.IsSliceOf.new _ vl vu vs) pl pu ps ?_ (by rw [List.size_toArray]; omega)
    exact Inv.newTup I5 (fun _ _ e => e) r.reverse (by rw [List.length_reverse]; exact hz) q
def mRevA (m : M PV) : M RV := bnd m fun p => match p with
  | .lst ps => ret (.lst ps.reverse, true)
  | .tup ps => ret (.tup ps.reverse, false)
  | _ => bad
theorem e_revA {e : Expr} {m : M PV} {k : Nat} {p1 p2 p3 pos : Pos} (s : Pv.SP X W cm e m) : SE X W cm (.Subscript e (.Slice none none (some (.UnaryOp .USub (.Constant (.int 1) k p1) p2)) p3) pos) (mRevA m) := .mk' fun F H0 H ev σ Q r h => by
  refine sE_of (pe_revA sE_pe) ?_
  refine s.go r (h.bnd.mono fun q ev1 F1 H1 a1 hh v rv => ?_)
  have h2 := hh.2
  cases q with
  | lst ps =>
    obtain ⟨a, xs, rfl, hx, rl⟩ := rv
    refine ⟨a, xs, rfl, .inl ⟨SqL.of hx, fun l hl => ?_⟩⟩
    exact h2 F1 _ (a1.er.fresh hl) _ (a1.er.newL a1.same hl rl.reverse)
  | tup ps =>
    obtain ⟨a, xs, rfl, hx, rl⟩ := rv
    refine ⟨a, xs, rfl, .inr ⟨hx.sqT, fun p o hp hc hd => ?_⟩⟩
    exact h2 F1 _ (a1.er.fresh hp) _ (a1.er.newT hp hc hd rl.reverse)
  | _ => exact h2.elim
@[simp] theorem mRevA_ap {ev : SL} {m : M PV} : mRevA m ev = bnd m (fun p => match p with
  | .lst ps => ret (.lst ps.reverse, true)
  | .tup ps => ret (.tup ps.reverse, false)
  | _ => bad) ev := rfl
end
end Pv
set_option Elab.async false
set_option linter.all false
set_option maxRecDepth 100000
namespace Pv
open PySem PySem.Spec L2
open PyProof.Rows hiding St
theorem loop_nx {t : PV → SL → Option SL} {p : PV} {M : List PV} {B : Pv.M Fl} {ev ev1 ev2 : SL} (h1 : t p ev = some ev1) (h2 : B ev1 = .ok .nx ev2) : loop t B (p :: M) ev = loop t B M ev2 := by
  rw [loop]; simp only [h1, h2]
theorem loop_rt {t : PV → SL → Option SL} {p : PV} {M : List PV} {B : Pv.M Fl} {ev ev1 ev2 : SL} {r : RV} (h1 : t p ev = some ev1) (h2 : B ev1 = .ok (.rt r) ev2) : loop t B (p :: M) ev = .ok (.rt r) ev2 := by
  rw [loop]; simp only [h1, h2]
end Pv
set_option Elab.async false
set_option linter.all false
set_option maxRecDepth 100000
namespace Pv
open PySem PySem.Spec L2
open PyProof.Rows hiding St
section
variable {X : Cx}
end
end Pv
set_option Elab.async false
set_option linter.all false
set_option maxRecDepth 100000
namespace Pv
open PySem PySem.Spec L2
open PyProof.Rows hiding St
section
variable {X : Cx} {W : WX} {cm : CM}
end
end Pv
set_option Elab.async false
set_option linter.all false
set_option maxRecDepth 100000
namespace Pv
open PySem PySem.Spec L2
open PyProof.Rows hiding St
end Pv
namespace Pv
open PySem PySem.Spec L2
open PyProof.Rows hiding St
section
variable {X : Cx} {W : WX} {cm : CM}
end
end Pv
set_option Elab.async false
set_option linter.all false
set_option maxRecDepth 100000
namespace Pv
open PySem PySem.Spec L2
open PyProof.Rows hiding St
section
variable {X : Cx} {W : WX} {cm : CM}
end
end Pv
set_option Elab.async false
set_option linter.all false
set_option maxRecDepth 100000
set_option maxHeartbeats 2000000
namespace Cb
open PySem PySem.Spec
open Sem (wp)
abbrev CT : String := "itertools.combinations"
theorem mro_cb : mroOf (.type CT) = pure [.type CT, .type "object"] := by rw [mroOf_type]; kernel_rfl
theorem lookup_cb_new : typeLookup (.type CT) "__new__" = pure (some (.builtin "itertools.combinations.__new__")) := by rw [typeLookup_type, builtinLookup_eq_fast]; kernel_rfl
theorem slot_cb_init : Slot CT "__init__" "object.__init__" :=
  .of (owner := "object") (n := "__init__") (by rw [typeLookup_type, builtinLookup_eq_fast]; kernel_rfl) (by decide +kernel) (by decide +kernel) (by decide +kernel)
    (by first | exact .inl (by decide +kernel) | exact .inr (by decide +kernel)) (by rw [isSubtype_type]; kernel_rfl)
theorem sub_cb : isSubtype (.type CT) (.type CT) = pure true := by rw [isSubtype_type]; kernel_rfl
theorem called_cb : TypeCalled CT "itertools.combinations.__new__" "object.__init__" :=
  ⟨by decide +kernel, by decide +kernel, ⟨_, _, mro_cb⟩, madeBy_type mro_cb lookup_cb_new (by decide +kernel), by decide +kernel, sub_cb, slot_cb_init⟩
theorem typeCall_cb (a b : Value) : checkTypeCall CT ⟨[a, b], []⟩ = pure () := by kernel_rfl
theorem newCall_cb (a b : Value) : checkBuiltinCall "itertools.combinations.__new__" ⟨[.type CT, a, b], []⟩ = pure () := by kernel_rfl
theorem entry_cb_new : entryFor table "itertools.combinations.__new__" = some Builtin.«itertools.combinations.__new__» := entryFor_of_tree (by kernel_rfl)
theorem slot_cb_iter : Slot CT "__iter__" "itertools.combinations.__iter__" :=
  .of (owner := CT) (n := "__iter__") (by rw [typeLookup_type, builtinLookup_eq_fast]; kernel_rfl) (by decide +kernel) (by decide +kernel) (by decide +kernel)
    (by first | exact .inl (by decide +kernel) | exact .inr (by decide +kernel)) sub_cb
theorem slot_cb_next : Slot CT "__next__" "itertools.combinations.__next__" :=
  .of (owner := CT) (n := "__next__") (by rw [typeLookup_type, builtinLookup_eq_fast]; kernel_rfl) (by decide +kernel) (by decide +kernel) (by decide +kernel)
    (by first | exact .inl (by decide +kernel) | exact .inr (by decide +kernel)) sub_cb
theorem entry_cb_iter : entryFor table "itertools.combinations.__iter__" = some Builtin.«dict_keyiterator.__iter__» :=
  entryFor_alias (id' := "dict_keyiterator.__iter__") (by kernel_rfl) (by first | rfl | decide +kernel | (unfold String.splitOn; simp +decide [String.splitOnAux])) (by decide +kernel) (by kernel_rfl)
theorem entry_cb_next : entryFor table "itertools.combinations.__next__" = some Builtin.«itertools.combinations.__next__» := entryFor_of_tree (by kernel_rfl)
abbrev ow : List Char := ['s', 'n', 'o', 'i', 't', 'a', 'n', 'i', 'b', 'm', 'o', 'c', '.', 's', 'l', 'o', 'o', 't', 'r', 'e', 't', 'i']
theorem owner_cb2 : Manifest.owners.lookup (String.ofList ow.reverse) = some Manifest.sig_itertools_combinations := by kernel_rfl
theorem args_cb_iter (a : Value) : argsOk "itertools.combinations.__iter__" ⟨[a], []⟩ := by
  unfold argsOk; rw [signature?_of (id := "itertools.combinations.__iter__") (n := ['_', '_', 'r', 'e', 't', 'i', '_', '_']) (o := ow) (by kernel_rfl) owner_cb2]; kernel_rfl
theorem args_cb_next (a : Value) : argsOk "itertools.combinations.__next__" ⟨[a], []⟩ := by
  unfold argsOk; rw [signature?_of (id := "itertools.combinations.__next__") (n := ['_', '_', 't', 'x', 'e', 'n', '_', '_']) (o := ow) (by kernel_rfl) owner_cb2]; kernel_rfl
theorem noDict_cb : typeHasDict (.type CT) = false := by decide +kernel
end Cb
set_option Elab.async false
set_option linter.all false
set_option maxRecDepth 100000
set_option maxHeartbeats 2000000
namespace Cb
open PySem PySem.Spec
open Sem (wp)
def Col (prog : Program) (w : World) (A : Around) (v : Value) (P : List Value → Prop) (s : Shared) : Prop :=
  ∀ (Q : List Value → Shared → Prop) (E : Value → Shared → Prop), (∀ (h' : Heap) (tk : Nat) (us : List Value), P us → (∀ b o, s.heap.get? b = some o → h'.get? b = some o) → Q us { s with heap := h', toks := tk }) → wpAny (model prog w) A (collect v) Q E s
abbrev recOf (pool : Addr) (st : Int) (last : Value) (ix : List Nat) : Obj := { cls := .type CT, dict := none, data := .fields (([.ref pool, rawInt st, last] ++ ix.map fun (i : Nat) => rawInt i).toArray), slots := #[] }
abbrev tupO (us : List Value) : Obj := { cls := .type "tuple", data := .seq us.toArray }
section
variable {prog : Program} {w : World}
theorem new_ok {v : Value} {r : Nat} {t : Tok} {P : List Value → Prop} (hr : r ≤ 1000) (hP : ∀ us, P us → us.length ≤ 1000) :
    MeetsIn prog w (Builtin.«itertools.combinations.__new__» ⟨[.type CT, v, .int (r : Nat) t], []⟩)
      (fun A R s => Col prog w A.in1 v P s ∧ ∀ (h' : Heap) (tk : Nat) (us : List Value), P us → (∀ b o, s.heap.get? b = some o → h'.get? b = some o) →
        R (.ok (.ret (.ref (h'.objs.size + 1)))) { s with heap := (h'.push (tupO us)).push (recOf h'.objs.size (if r > us.length then 2 else 0) .none (List.range r)), toks := tk }) :=
  .of_wp fun A R s h => by
    obtain ⟨hc, h⟩ := h
    have hsub := sub_cb
    have hd := noDict_cb
    have b1 : decide ((r : Int) < -(2 ^ 63 : Int)) = false := decide_eq_false (by omega)
    have b2 : decide ((r : Int) ≥ (2 ^ 63 : Int)) = false := decide_eq_false (by omega)
    have b3 : ¬ ((r : Int) < 0) := by omega
    have e0 : ("itertools." ++ "combinations" : String) = CT := by decide +kernel
    repeat (first
      | wp_step
      | simp only [List.head?_cons, Option.some_or, List.getElem?_cons_succ, List.getElem?_cons_zero, List.length_cons, List.length_nil, List.forIn_nil])
    rw [e0]
    refine wpAny_of_eq hsub ?_
    show wpAny _ _ (pure _) _ _ _
    refine wpAny_pure ?_
    show wpAny _ _ (Builtin.Itertools.itBindNamed _ _ _ _ [v, Value.int (r : Nat) t] [] >>= _) _ _ _
    have eb : Builtin.Itertools.itBindNamed "combinations" ["iterable", "r"] 2 2 [v, Value.int (r : Nat) t] [] = pure [some v, some (Value.int (r : Nat) t)] := by rfl
    rw [eb]
    refine wpAny_bind (wpAny_pure ?_)
    show wpAny _ _ (Builtin.Itertools.itSsizeArg (Value.int (r : Nat) t) >>= _) _ _ _
    have es : Builtin.Itertools.itSsizeArg (Value.int (r : Nat) t) = pure (r : Int) := by
      unfold Builtin.Itertools.itSsizeArg
      show (if (decide ((r : Int) < -(2 ^ 63 : Int)) || decide ((r : Int) ≥ (2 ^ 63 : Int))) = true then _ else _) = _
      rw [b1, b2]; rfl
    rw [es]
    refine wpAny_bind (wpAny_pure ?_)
    refine wpAny_bind (hc _ _ fun h' tk us hp hk => ?_)
    have hus := hP us hp
    rw [if_neg b3]
    show wpAny _ _ (if decide ((r : Int) > 2 ^ 20) = true then _ else _) _ _ _
    rw [if_neg (by rw [decide_eq_false (by omega)]; decide)]
    refine wpAny_bind (wpAny_newObj_type ?_ (by show us.toArray.size ≤ _; rw [List.size_toArray, sizeLine_eq]; omega))
    refine wpAny_pure ?_
    show wpAny _ _ (Builtin.Itertools.itNewRecord (.type CT) _ >>= _) _ _ _
    unfold Builtin.Itertools.itNewRecord
    rw [hd]
    refine wpAny_bind ?_
    rw [if_pos (show (!false) = true from rfl)]
    refine wpAny_newObj_type ?_ ?_
    · refine wpAny_pure ⟨_, rfl, ?_⟩
      have e := h h' tk us hp hk
      have e1 : ((h'.push (tupO us)).objs.size) = h'.objs.size + 1 := by simp [Heap.push]
      rw [← e1] at e
      exact e
    · show (List.toArray _).size ≤ sizeLine + 2
      rw [List.size_toArray, List.length_append, List.length_map]
      show 3 + (List.range r).length ≤ _
      rw [List.length_range, sizeLine_eq]; omega
def stepR (n : Nat) : List Nat → Option (List Nat)
  | [] => none
  | x :: t => match stepR n t with
    | some u => some (x :: u)
    | none => if x = n - (t.length + 1) then none else some ((List.range (t.length + 1)).map fun j => x + 1 + j)
def stepC (n : Nat) (l : List Nat) : Option (List Nat) :=
  match List.find? (fun i => l.getD i 0 != i + n - l.length) (List.range l.length).reverse with
  | none => none
  | some i => some (List.append (l.take i) (List.map (fun j => l.getD i 0 + 1 + j) (List.range (l.length - i))))
theorem numbers_ok {M : Model} {A : Around} {E : Value → Shared → Prop} {s : Shared} {it pool : Addr} {st : Int} {last : Value} {ix : List Nat} {Q : List Nat → Shared → Prop} (h : s.heap.get? it = some (recOf pool st last ix)) (hQ : Q ix s) : wpAny M A (Builtin.Itertools.itNumbersFrom (.ref it) 3) Q E s := by
  unfold Builtin.Itertools.itNumbersFrom
  refine wpAny_bind (wpAny_load h ?_)
  refine wpAny_pure ?_
  have e : ((([Value.ref pool, rawInt st, last] ++ ix.map fun (i : Nat) => rawInt i).toArray).toList.drop 3) = ix.map fun (i : Nat) => rawInt i := by simp
  rw [e, List.map_map]
  have e2 : ix.map ((fun v => match v with | Value.int n _ => n.toNat | _ => 0) ∘ fun (i : Nat) => rawInt i) = ix := by
    conv => rhs; rw [← List.map_id ix]
    refine List.map_congr_left fun i _ => ?_
    show (i : Int).toNat = i
    omega
  exact (congrArg (fun z => Q z s) e2).mpr hQ
end
end Cb
set_option Elab.async false
set_option linter.all false
set_option maxRecDepth 100000
namespace Cb
open PySem PySem.Spec
theorem stepC_cons (n x : Nat) (t : List Nat) : stepC n (x :: t) = match stepC n t with
    | some u => some (x :: u)
    | none => if x = n - (t.length + 1) then none else some ((List.range (t.length + 1)).map fun j => x + 1 + j) := by
  unfold stepC
  have e : (List.range (x :: t).length).reverse = (List.range t.length).reverse.map Nat.succ ++ [0] := by
    rw [List.length_cons, List.range_succ_eq_map, List.reverse_cons, List.map_reverse]
  rw [e, List.find?_append, List.find?_map]
  have e2 : ((fun i => (x :: t).getD i 0 != i + n - (x :: t).length) ∘ Nat.succ) = fun i => t.getD i 0 != i + n - t.length := by
    funext i
    show ((x :: t).getD (i + 1) 0 != i + 1 + n - (x :: t).length) = _
    rw [List.getD_cons_succ, List.length_cons]
    congr 1
    omega
  rw [e2]
  cases h : List.find? (fun i => t.getD i 0 != i + n - t.length) (List.range t.length).reverse with
  | some i =>
    have hi : i < t.length := by
      have := List.mem_of_find?_eq_some h
      rw [List.mem_reverse, List.mem_range] at this
      exact this
    show some (List.append ((x :: t).take (i + 1)) (List.map (fun j => (x :: t).getD (i + 1) 0 + 1 + j) (List.range ((x :: t).length - (i + 1))))) = some (x :: List.append (t.take i) _)
    rw [List.getD_cons_succ, List.length_cons, show t.length + 1 - (i + 1) = t.length - i by omega]
    rfl
  | none =>
    show (match List.find? (fun i => (x :: t).getD i 0 != i + n - (x :: t).length) [0] with | none => none | some i => _) = _
    rw [List.find?_cons, List.find?_nil]
    have e3 : ((x :: t).getD 0 0 != 0 + n - (x :: t).length) = (x != n - (t.length + 1)) := by
      rw [List.getD_cons_zero, List.length_cons, Nat.zero_add]
    rw [e3]
    by_cases c : x = n - (t.length + 1)
    · rw [if_pos c, show (x != n - (t.length + 1)) = false by simp [c]]
    · rw [if_neg c, show (x != n - (t.length + 1)) = true by simp [c]]
      show some (List.append ((x :: t).take 0) (List.map (fun j => (x :: t).getD 0 0 + 1 + j) (List.range ((x :: t).length - 0)))) = _
      rw [List.getD_cons_zero, List.length_cons, Nat.sub_zero]
      rfl
theorem stepC_R (n : Nat) : ∀ l : List Nat, stepC n l = stepR n l
  | [] => rfl
  | x :: t => by rw [stepC_cons, stepC_R n t]; rfl
def cmb {α : Type} : Nat → List α → List (List α)
  | 0, _ => [[]]
  | _ + 1, [] => []
  | r + 1, x :: xs => (cmb r xs).map (fun c => x :: c) ++ cmb (r + 1) xs
theorem cmb_map {α β : Type} (f : α → β) : ∀ (r : Nat) (l : List α), cmb r (l.map f) = (cmb r l).map (List.map f)
  | 0, l => by cases l <;> rfl
  | r + 1, [] => rfl
  | r + 1, x :: xs => by
    show (cmb r (xs.map f)).map _ ++ cmb (r + 1) (xs.map f) = ((cmb r xs).map _ ++ cmb (r + 1) xs).map _
    rw [cmb_map f r xs, cmb_map f (r + 1) xs, List.map_append, List.map_map, List.map_map]
    rfl
theorem cmb_len {α : Type} : ∀ (r : Nat) (l : List α) (c : List α), c ∈ cmb r l → c.length = r
  | 0, l, c, h => by
    have : c = [] := by cases l <;> simpa [cmb] using h
    rw [this]; rfl
  | r + 1, [], c, h => by cases h
  | r + 1, x :: xs, c, h => by
    rcases List.mem_append.mp h with h | h
    · obtain ⟨d, hd, rfl⟩ := List.mem_map.mp h
      rw [List.length_cons, cmb_len r xs d hd]
    · exact cmb_len (r + 1) xs c h
theorem cmb_none {α : Type} : ∀ (r : Nat) (l : List α), l.length < r → cmb r l = []
  | 0, l, h => absurd h (Nat.not_lt_zero _)
  | r + 1, [], _ => rfl
  | r + 1, x :: xs, h => by
    rw [List.length_cons] at h
    show (cmb r xs).map _ ++ cmb (r + 1) xs = []
    rw [cmb_none r xs (by omega), cmb_none (r + 1) xs (by omega)]; rfl
theorem cmb_first : ∀ (r a m : Nat), r ≤ m → (cmb r (List.range' a m))[0]? = some (List.range' a r)
  | 0, a, m, _ => by cases m <;> rfl
  | r + 1, a, 0, h => absurd h (Nat.not_succ_le_zero _)
  | r + 1, a, m + 1, h => by
    rw [List.range'_succ, List.range'_succ]
    show ((cmb r (List.range' (a + 1) m)).map (fun c => a :: c) ++ _)[0]? = _
    have e := cmb_first r (a + 1) m (by omega)
    rw [List.getElem?_append_left (by rw [List.length_map]; exact (List.getElem?_eq_some_iff.mp e).1), List.getElem?_map, e]
    rfl
theorem cmb_next : ∀ (m r a : Nat) (k : Nat) (c : List Nat), (cmb r (List.range' a m))[k]? = some c → stepR (a + m) c = (cmb r (List.range' a m))[k + 1]?
  | m, 0, a, k, c, h => by
    have e : cmb 0 (List.range' a m) = [[]] := by cases m <;> rfl
    rw [e] at h ⊢
    cases k with
    | zero => cases h; rfl
    | succ k => simp at h
  | 0, r + 1, a, k, c, h => by
    have e : cmb (r + 1) (List.range' a 0) = [] := rfl
    rw [e] at h; simp at h
  | m + 1, r + 1, a, k, c, h => by
    rw [List.range'_succ] at h ⊢
    have e : cmb (r + 1) (a :: List.range' (a + 1) m) = (cmb r (List.range' (a + 1) m)).map (fun c => a :: c) ++ cmb (r + 1) (List.range' (a + 1) m) := rfl
    rw [e] at h ⊢
    have en : a + (m + 1) = a + 1 + m := by omega
    rw [en]
    by_cases hk : k < (cmb r (List.range' (a + 1) m)).length
    · rw [List.getElem?_append_left (by rw [List.length_map]; exact hk), List.getElem?_map] at h
      obtain ⟨t, ht, rfl⟩ := Option.map_eq_some_iff.mp h
      have ih := cmb_next m r (a + 1) k t ht
      have tl := cmb_len _ _ _ (List.mem_of_getElem? ht)
      show (match stepR (a + 1 + m) t with | some u => some (a :: u) | none => if a = a + 1 + m - (t.length + 1) then none else some ((List.range (t.length + 1)).map fun j => a + 1 + j)) = _
      rw [ih, tl]
      by_cases hk2 : k + 1 < (cmb r (List.range' (a + 1) m)).length
      · rw [List.getElem?_append_left (by rw [List.length_map]; exact hk2), List.getElem?_map, List.getElem?_eq_getElem hk2]
        rfl
      · rw [List.getElem?_eq_none (by omega), List.getElem?_append_right (by rw [List.length_map]; omega), List.length_map, show k + 1 - (cmb r (List.range' (a + 1) m)).length = 0 by omega]
        show (if a = a + 1 + m - (r + 1) then none else some ((List.range (r + 1)).map fun j => a + 1 + j)) = _
        have hrm : r ≤ m := by
          refine Nat.le_of_not_lt fun z => ?_
          rw [cmb_none r _ (by rw [List.length_range']; exact z)] at hk
          cases hk
        by_cases c : r = m
        · rw [if_pos (by omega), cmb_none (r + 1) _ (by rw [List.length_range']; omega)]
          rfl
        · rw [if_neg (by omega), cmb_first (r + 1) (a + 1) m (by omega), List.range'_eq_map_range]
    · have hk2 : (cmb r (List.range' (a + 1) m)).length ≤ k := by omega
      rw [List.getElem?_append_right (by rw [List.length_map]; exact hk2), List.length_map] at h
      rw [List.getElem?_append_right (by rw [List.length_map]; omega), List.length_map]
      have ih := cmb_next m (r + 1) (a + 1) (k - (cmb r (List.range' (a + 1) m)).length) c h
      rw [ih, show k + 1 - (cmb r (List.range' (a + 1) m)).length = k - (cmb r (List.range' (a + 1) m)).length + 1 by omega]
def ixs (r n : Nat) : List (List Nat) := cmb r (List.range' 0 n)
theorem ixs_first {r n : Nat} (h : r ≤ n) : (ixs r n)[0]? = some (List.range r) := by
  unfold ixs; rw [cmb_first r 0 n h, List.range_eq_range']
theorem ixs_next {r n k : Nat} {c : List Nat} (h : (ixs r n)[k]? = some c) : stepC n c = (ixs r n)[k + 1]? := by
  have := cmb_next n r 0 k c h
  rw [Nat.zero_add] at this
  rw [stepC_R]; exact this
theorem ixs_none {r n : Nat} (h : n < r) : ixs r n = [] := cmb_none r _ (by rw [List.length_range']; exact h)
theorem ixs_lt {r n : Nat} {c : List Nat} (h : c ∈ ixs r n) : ∀ i ∈ c, i < n := by
  have go : ∀ (m r a : Nat) (c : List Nat), c ∈ cmb r (List.range' a m) → ∀ i ∈ c, i < a + m := by
    intro m
    induction m with
    | zero =>
      intro r a c h i hi
      cases r with
      | zero => have : c = [] := by simpa [cmb] using h
                rw [this] at hi; cases hi
      | succ r => cases h
    | succ m ih =>
      intro r a c h i hi
      cases r with
      | zero => have : c = [] := by simpa [cmb] using h
                rw [this] at hi; cases hi
      | succ r =>
        rw [List.range'_succ] at h
        rcases List.mem_append.mp h with h | h
        · obtain ⟨d, hd, rfl⟩ := List.mem_map.mp h
          rcases List.mem_cons.mp hi with rfl | hi
          · omega
          · have := ih r (a + 1) d hd i hi; omega
        · have := ih (r + 1) (a + 1) c h i hi; omega
  have := go n r 0 c h
  intro i hi
  have := this i hi
  omega
theorem ixs_items {α : Type} (d : α) (r : Nat) (l : List α) : (ixs r l.length).map (fun c => c.map fun i => l.getD i d) = cmb r l := by
  have e : (List.range' 0 l.length).map (fun i => l.getD i d) = l := by
    refine List.ext_getElem (by simp) fun i h1 h2 => ?_
    simp [List.getD_eq_getElem?_getD, List.getElem?_eq_getElem h2]
  have := cmb_map (fun i => l.getD i d) r (List.range' 0 l.length)
  rw [e] at this
  exact this.symm
end Cb
set_option Elab.async false
set_option linter.all false
set_option maxRecDepth 100000
set_option maxHeartbeats 2000000
namespace Cb
open PySem PySem.Spec
section
variable {prog : Program} {w : World} {A : Around} {E : Value → Shared → Prop} {s : Shared} {it pool : Addr} {st : Int} {last : Value} {ix ix' : List Nat} {us : List Value}
theorem field_cb {i : Nat} {x : Value} {Q : Value → Shared → Prop} (h : s.heap.get? it = some (recOf pool st last ix)) (hx : ([Value.ref pool, rawInt st, last] ++ ix.map fun (i : Nat) => rawInt i)[i]? = some x) (hQ : Q x s) : wpAny (model prog w) A (field (.ref it) i) Q E s :=
  wpAny_field h rfl (by rw [List.getElem?_toArray]; exact hx) hQ
theorem pick_ok {Q : Value → Shared → Prop} (hp : s.heap.get? pool = some (tupO us)) (hz : ix.length ≤ 1000)
    (hQ : Q (.ref s.heap.objs.size) { s with heap := s.heap.push (tupO (ix.map fun i => us.getD i .none)) }) : wpAny (model prog w) A (Builtin.Itertools.itPoolItems (.ref pool) >>= fun items => newTuple (ix.map fun i => items.getD i .none)) Q E s := by
  unfold Builtin.Itertools.itPoolItems
  refine wpAny_bind (wpAny_bind (wpAny_seqItems hp rfl (wpAny_pure ?_)))
  have e : (ix.map fun i => us.toArray.getD i .none) = ix.map fun i => us.getD i .none := by
    refine List.map_congr_left fun i _ => ?_
    simp [Array.getD_eq_getD_getElem?, List.getD_eq_getElem?_getD]
  rw [e]
  refine wpAny_newObj_type hQ ?_
  show (List.toArray _).size ≤ _
  rw [List.size_toArray, List.length_map, sizeLine_eq]; omega
theorem hand_ok {R : Fin → Shared → Prop} (h : s.heap.get? it = some (recOf pool st last ix)) (hp : s.heap.get? pool = some (tupO us)) (hip : it ≠ pool) (hz : ix.length ≤ 1000)
    (hQ : ∀ h' : Heap, h'.get? it = some (recOf pool st (.ref s.heap.objs.size) ix) → h'.get? s.heap.objs.size = some (tupO (ix.map fun i => us.getD i .none)) → (∀ b o, b ≠ it → s.heap.get? b = some o → h'.get? b = some o) → R (.done (.ret (.ref s.heap.objs.size))) { s with heap := h' }) :
    wpAny (model prog w) A ((Builtin.Itertools.itPoolItems (.ref pool) >>= fun items => newTuple (ix.map fun i => items.getD i .none)) >>= fun result => field (.ref it) 2 >>= fun before => setField (.ref it) 2 result >>= fun _ => letGo [before] [result] >>= fun _ => ret result) R E s := by
  refine wpAny_bind (pick_ok hp hz ?_)
  have h1 : (s.heap.push (tupO (ix.map fun i => us.getD i .none))).get? it = some (recOf pool st last ix) := Heap.get?_push_of_some _ h
  refine wpAny_bind (field_cb h1 rfl ?_)
  refine wpAny_bind (wpAny_setField h1 rfl (by simp) ?_)
  refine wpAny_bind (wpAny_letGo (wpAny_pure ?_))
  have sb := Heap.SameBut.update (s.heap.push (tupO (ix.map fun i => us.getD i .none))) it (Obj.mapFields (·.setIfInBounds 2 (.ref s.heap.objs.size)))
  have ne : s.heap.objs.size ≠ it := Nat.ne_of_gt (Heap.lt_size h)
  refine hQ _ ?_ ?_ fun b o hb e => ?_
  · rw [Heap.get?_update_self _ h1 rfl]
    simp [Obj.mapFields, recOf]
  · exact (sb.2 _ ne).trans (Heap.get?_push_size _ rfl)
  · exact (sb.2 _ hb).trans (Heap.get?_push_of_some _ e)
theorem stop_ok {R : Fin → Shared → Prop} (hh : A.handled = none) (hE : ∀ e h', (∀ b o, s.heap.get? b = some o → h'.get? b = some o) → (∃ o, h'.get? e = some o ∧ o.cls = .type "StopIteration") → E (.ref e) { s with heap := h' }) : wpAny (model prog w) A (Builtin.Itertools.itStop : Sem Fin) R E s := by
  unfold Builtin.Itertools.itStop
  show wpAny _ _ (newExc (.type "StopIteration") [] >>= _) _ _ _
  refine wpAny_bind ?_
  simp only [newExc, newTuple]
  refine wpAny_bind (wpAny_newObj_type ?_ (by size_fits))
  refine wpAny_bind (m := firstArgMember _ _) (wpAny_of_eq (a := Value.none) (by first | rfl | (simp only [firstArgMember]; rfl)) ?_)
  refine wpAny_newObj_type ?_ (by size_fits)
  simp only [raiseNew]
  refine wpAny_bind (wpAny_handled ?_)
  rw [hh]
  refine wpAny_bind (wpAny_pure (wpAny_throw ?_))
  exact hE _ _ (fun b o e => Heap.get?_push_of_some _ (Heap.get?_push_of_some _ e)) ⟨_, Heap.get?_push_size _ rfl, rfl⟩
theorem next_first {Q : Option Value → Shared → Prop} (h : s.heap.get? it = some (recOf pool 0 last ix)) (hp : s.heap.get? pool = some (tupO us)) (hip : it ≠ pool) (hz : ix.length ≤ 1000)
    (hQ : ∀ h' : Heap, h'.get? it = some (recOf pool 1 (.ref s.heap.objs.size) ix) → h'.get? s.heap.objs.size = some (tupO (ix.map fun i => us.getD i .none)) → (∀ b o, b ≠ it → s.heap.get? b = some o → h'.get? b = some o) → Q (some (.ref s.heap.objs.size)) { s with heap := h' }) :
    wpAny (model prog w) A (pyNext (.ref it)) Q E s := by
  have hT : s.TypeIs (.ref it) CT := ⟨_, h, rfl⟩
  unfold pyNext
  refine wpAny_bind (wpAny_attempt (wpAny_callSpecial?_slot (name := Str.ofString "__next__") hT slot_cb_next (wpAny_call_entry slot_cb_next hT entry_cb_next ?_ (args_cb_next _))))
  show wpAny _ _ (field (.ref it) 0 >>= _) _ _ s
  refine wpAny_bind (field_cb h rfl ?_)
  refine wpAny_bind (numbers_ok h ?_)
  show wpAny _ _ (Builtin.Itertools.itIntField (.ref it) 1 >>= _) _ _ s
  refine wpAny_bind ?_
  unfold Builtin.Itertools.itIntField
  refine wpAny_bind (field_cb h rfl (wpAny_pure ?_))
  show wpAny _ _ (setField (.ref it) 1 (rawInt 1) >>= _) _ _ _
  refine wpAny_bind (wpAny_setField h rfl (by simp) ?_)
  have h1 : (s.heap.update it (Obj.mapFields (·.setIfInBounds 1 (rawInt 1)))).get? it = some (recOf pool 1 last ix) := by
    rw [Heap.get?_update_self _ h rfl]
    simp [Obj.mapFields, recOf]
  have sb1 := Heap.SameBut.update s.heap it (Obj.mapFields (·.setIfInBounds 1 (rawInt 1)))
  refine wpAny_mono (hand_ok (s := { s with heap := s.heap.update it (Obj.mapFields (·.setIfInBounds 1 (rawInt 1))) }) h1 ((sb1.2 _ (Ne.symm hip)).trans hp) hip hz
    (R := fun fin s' => ∃ v, fin = .done (.ret v) ∧ Q (some v) s') fun h' q1 q2 q3 => ⟨_, rfl, ?_⟩) (fun fin s' hr => ?_) fun e s' he => he
  · have es : (s.heap.update it (Obj.mapFields (·.setIfInBounds 1 (rawInt 1)))).objs.size = s.heap.objs.size := sb1.1
    rw [show ({ s with heap := s.heap.update it (Obj.mapFields (·.setIfInBounds 1 (rawInt 1))) } : Shared).heap.objs.size = s.heap.objs.size from es] at q1 q2 ⊢
    exact hQ h' q1 q2 fun b o hb e => q3 b o hb ((sb1.2 _ hb).trans e)
  · obtain ⟨v, rfl, q⟩ := hr
    exact ⟨v, rfl, wpAny_pure q⟩
theorem next_step {Q : Option Value → Shared → Prop} (h : s.heap.get? it = some (recOf pool 1 last ix)) (hp : s.heap.get? pool = some (tupO us)) (hip : it ≠ pool) (hn : stepC us.length ix = some ix') (hz : ix'.length ≤ 1000)
    (hQ : ∀ h' : Heap, h'.get? it = some (recOf pool 1 (.ref s.heap.objs.size) ix') → h'.get? s.heap.objs.size = some (tupO (ix'.map fun i => us.getD i .none)) → (∀ b o, b ≠ it → s.heap.get? b = some o → h'.get? b = some o) → Q (some (.ref s.heap.objs.size)) { s with heap := h' }) :
    wpAny (model prog w) A (pyNext (.ref it)) Q E s := by
  have hT : s.TypeIs (.ref it) CT := ⟨_, h, rfl⟩
  unfold pyNext
  refine wpAny_bind (wpAny_attempt (wpAny_callSpecial?_slot (name := Str.ofString "__next__") hT slot_cb_next (wpAny_call_entry slot_cb_next hT entry_cb_next ?_ (args_cb_next _))))
  show wpAny _ _ (field (.ref it) 0 >>= _) _ _ s
  refine wpAny_bind (field_cb h rfl ?_)
  refine wpAny_bind (numbers_ok h ?_)
  show wpAny _ _ (Builtin.Itertools.itIntField (.ref it) 1 >>= _) _ _ s
  refine wpAny_bind ?_
  unfold Builtin.Itertools.itIntField
  refine wpAny_bind (field_cb h rfl (wpAny_pure ?_))
  show wpAny _ _ (Builtin.Itertools.itPoolItems (.ref pool) >>= _) _ _ _
  refine wpAny_bind ?_
  unfold Builtin.Itertools.itPoolItems
  refine wpAny_bind (wpAny_seqItems hp rfl (wpAny_pure ?_))
  have hn' : stepC us.toArray.size ix = some ix' := by rw [List.size_toArray]; exact hn
  split
  rotate_left
  · rename_i e
    have e1 : stepC us.toArray.size ix = none := e
    rw [hn'] at e1; cases e1
  rename_i nx e
  have e1 : stepC us.toArray.size ix = some nx := e
  rw [hn'] at e1
  cases e1
  refine wpAny_bind ?_
  unfold Builtin.Itertools.itSetNumbersFrom
  refine wpAny_updateFields h rfl ?_ ?_
  · have h1 : (s.heap.update it (Obj.mapFields fun fs => fs.extract 0 3 ++ (ix'.map fun (n : Nat) => rawInt n).toArray)).get? it = some (recOf pool 1 last ix') := by
      rw [Heap.get?_update_self _ h rfl]
      simp [Obj.mapFields, recOf]
    have sb1 := Heap.SameBut.update s.heap it (Obj.mapFields fun fs => fs.extract 0 3 ++ (ix'.map fun (n : Nat) => rawInt n).toArray)
    refine wpAny_mono (hand_ok (s := { s with heap := s.heap.update it (Obj.mapFields fun fs => fs.extract 0 3 ++ (ix'.map fun (n : Nat) => rawInt n).toArray) }) h1 ((sb1.2 _ (Ne.symm hip)).trans hp) hip hz
      (R := fun fin s' => ∃ v, fin = .done (.ret v) ∧ Q (some v) s') fun h' q1 q2 q3 => ⟨_, rfl, ?_⟩) (fun fin s' hr => ?_) fun e s' he => he
    · have es : (s.heap.update it (Obj.mapFields fun fs => fs.extract 0 3 ++ (ix'.map fun (n : Nat) => rawInt n).toArray)).objs.size = s.heap.objs.size := sb1.1
      rw [show ({ s with heap := s.heap.update it (Obj.mapFields fun fs => fs.extract 0 3 ++ (ix'.map fun (n : Nat) => rawInt n).toArray) } : Shared).heap.objs.size = s.heap.objs.size from es] at q1 q2 ⊢
      exact hQ h' q1 q2 fun b o hb e => q3 b o hb ((sb1.2 _ hb).trans e)
    · obtain ⟨v, rfl, q⟩ := hr
      exact ⟨v, rfl, wpAny_pure q⟩
  · simp [sizeLine_eq]; omega
theorem next_stop {Q : Option Value → Shared → Prop} (hh : A.handled = none) (h : s.heap.get? it = some (recOf pool 1 last ix)) (hp : s.heap.get? pool = some (tupO us)) (hn : stepC us.length ix = none)
    (hQ : ∀ h' : Heap, (∀ b o, b ≠ it → s.heap.get? b = some o → h'.get? b = some o) → Q none { s with heap := h' }) :
    wpAny (model prog w) A (pyNext (.ref it)) Q E s := by
  have hT : s.TypeIs (.ref it) CT := ⟨_, h, rfl⟩
  unfold pyNext
  refine wpAny_bind (wpAny_attempt (wpAny_callSpecial?_slot (name := Str.ofString "__next__") hT slot_cb_next (wpAny_call_entry slot_cb_next hT entry_cb_next ?_ (args_cb_next _))))
  show wpAny _ _ (field (.ref it) 0 >>= _) _ _ s
  refine wpAny_bind (field_cb h rfl ?_)
  refine wpAny_bind (numbers_ok h ?_)
  show wpAny _ _ (Builtin.Itertools.itIntField (.ref it) 1 >>= _) _ _ s
  refine wpAny_bind ?_
  unfold Builtin.Itertools.itIntField
  refine wpAny_bind (field_cb h rfl (wpAny_pure ?_))
  show wpAny _ _ (Builtin.Itertools.itPoolItems (.ref pool) >>= _) _ _ _
  refine wpAny_bind ?_
  unfold Builtin.Itertools.itPoolItems
  refine wpAny_bind (wpAny_seqItems hp rfl (wpAny_pure ?_))
  have hn' : stepC us.toArray.size ix = none := by rw [List.size_toArray]; exact hn
  split
  · rename_i nx e
    have e1 : stepC us.toArray.size ix = some nx := e
    rw [hn'] at e1; cases e1
  refine wpAny_bind (wpAny_setField h rfl (by simp) ?_)
  have sb1 := Heap.SameBut.update s.heap it (Obj.mapFields (·.setIfInBounds 1 (rawInt 2)))
  refine stop_ok (A := A.in1) (s := { s with heap := s.heap.update it (Obj.mapFields (·.setIfInBounds 1 (rawInt 2))) }) hh fun e h' k ⟨o, ho, hc⟩ => ?_
  show wpAny _ _ (isInstance (.ref e) (.type "StopIteration") >>= _) _ _ _
  refine wpAny_bind (wpAny_isInstance (T := "StopIteration") (b := true) ⟨_, ho, hc⟩ isSubtype_stop ?_)
  exact wpAny_pure (hQ _ fun b o hb q => k b o ((sb1.2 _ hb).trans q))
theorem next_over {Q : Option Value → Shared → Prop} (hh : A.handled = none) (h : s.heap.get? it = some (recOf pool 2 last ix))
    (hQ : ∀ h' : Heap, (∀ b o, b ≠ it → s.heap.get? b = some o → h'.get? b = some o) → Q none { s with heap := h' }) :
    wpAny (model prog w) A (pyNext (.ref it)) Q E s := by
  have hT : s.TypeIs (.ref it) CT := ⟨_, h, rfl⟩
  unfold pyNext
  refine wpAny_bind (wpAny_attempt (wpAny_callSpecial?_slot (name := Str.ofString "__next__") hT slot_cb_next (wpAny_call_entry slot_cb_next hT entry_cb_next ?_ (args_cb_next _))))
  show wpAny _ _ (field (.ref it) 0 >>= _) _ _ s
  refine wpAny_bind (field_cb h rfl ?_)
  refine wpAny_bind (numbers_ok h ?_)
  show wpAny _ _ (Builtin.Itertools.itIntField (.ref it) 1 >>= _) _ _ s
  refine wpAny_bind ?_
  unfold Builtin.Itertools.itIntField
  refine wpAny_bind (field_cb h rfl (wpAny_pure ?_))
  show wpAny _ _ (rule _ >>= _) _ _ _
  refine wpAny_bind (wpAny_rule ?_)
  refine stop_ok (A := A.in1) hh fun e h' k ⟨o, ho, hc⟩ => ?_
  show wpAny _ _ (isInstance (.ref e) (.type "StopIteration") >>= _) _ _ _
  refine wpAny_bind (wpAny_isInstance (T := "StopIteration") (b := true) ⟨_, ho, hc⟩ isSubtype_stop ?_)
  exact wpAny_pure (hQ _ fun b o hb q => k b o q)
theorem iter_cb {Q : Value → Shared → Prop} (h : s.heap.get? it = some (recOf pool st last ix)) (hQ : Q (.ref it) s) : wpAny (model prog w) A (pyIter (.ref it)) Q E s := by
  have hT : s.TypeIs (.ref it) CT := ⟨_, h, rfl⟩
  refine wpAny_pyIter_slot hT slot_cb_iter (wpAny_call_entry slot_cb_iter hT entry_cb_iter ?_ (args_cb_iter _))
  show wpAny _ _ (ret (.ref it)) _ _ s
  exact wpAny_pure ⟨_, rfl, CT, _, hT, slot_cb_next.lookup, hQ⟩
theorem call_cb {v : Value} {r : Nat} {t : Tok} {P : List Value → Prop} {Q : Value → Shared → Prop} (hr : r ≤ 1000) (hP : ∀ us, P us → us.length ≤ 1000) (hc : Col prog w A.in1.in1 v P s)
    (hQ : ∀ (h' : Heap) (tk : Nat) (us : List Value), P us → (∀ b o, s.heap.get? b = some o → h'.get? b = some o) → Q (.ref (h'.objs.size + 1)) { s with heap := (h'.push (tupO us)).push (recOf h'.objs.size (if r > us.length then 2 else 0) .none (List.range r)), toks := tk }) :
    wpAny (model prog w) A (call (.type CT) [v, .int (r : Nat) t]) Q E s :=
  callType_newIn called_cb (by decide) (typeCall_cb _ _) (newCall_cb _ _) (fun obj => F.args_object_init_3 obj _ _) entry_cb_new (new_ok hr hP) ⟨hc, fun h' tk us hp hk => ⟨⟨recOf h'.objs.size (if r > us.length then 2 else 0) .none (List.range r), by
    have e1 : ((h'.push (tupO us)).objs.size) = h'.objs.size + 1 := by simp [Heap.push]
    show ((h'.push (tupO us)).push _).get? (h'.objs.size + 1) = _
    rw [← e1]
    exact Heap.get?_push_size _ rfl, rfl⟩, hQ h' tk us hp hk⟩⟩
end
end Cb
set_option Elab.async false
set_option linter.all false
set_option maxRecDepth 100000
set_option maxHeartbeats 2000000
namespace Cb
open PySem PySem.Spec PyProof.Rows L2
def ItC (L : List (List V)) : It :=
  ⟨fun i _ => i < L.length,
    fun i H v H' => ∃ T o xs, v = .ref T ∧ H T = none ∧ H' = upd H T (.frz o (.tup xs)) ∧ o.cls = .type "tuple" ∧ o.dict = none ∧ L[i]? = some xs,
    fun i _ => L.length ≤ i⟩
def StC (it pool : Addr) (r : Nat) (us : List Value) (i : Nat) (h : Heap) : Prop :=
  it ≠ pool ∧ h.get? pool = some (tupO us) ∧ i ≤ (ixs r us.length).length ∧
  ((us.length < r ∧ ∃ last ix, h.get? it = some (recOf pool 2 last ix)) ∨
   (r ≤ us.length ∧ ∃ last, (i = 0 ∧ h.get? it = some (recOf pool 0 last (List.range r))) ∨ ∃ j c, i = j + 1 ∧ (ixs r us.length)[j]? = some c ∧ h.get? it = some (recOf pool 1 last c)))
theorem pick_vals : ∀ (ix : List Nat) {xs : List V} {us : List Value}, Vals xs us → (∀ i ∈ ix, i < us.length) → Vals (ix.map fun i => xs.getD i .non) (ix.map fun i => us.getD i .none)
  | [], _, _, _, _ => .nil
  | i :: ix, xs, us, rv, h => by
    have hi := h i (by simp)
    have hl := rv.length
    have hx : xs[i]? = some xs[i] := List.getElem?_eq_getElem (by omega)
    obtain ⟨u, hu, ru⟩ := rv.get hx
    refine .cons ?_ (pick_vals ix rv fun j hj => h j (by simp [hj]))
    show RelV (xs.getD i .non) (us.getD i .none)
    rw [List.getD_eq_getElem?_getD, List.getD_eq_getElem?_getD, hx, hu]
    exact ru
theorem turn_cb {P : Program} {w : World} {K : PySem.W.Frag} {tg : Expr} {it pool : Addr} {r : Nat} {xs : List V} {us : List Value} (rv : Vals xs us) (hr : r ≤ 1000) :
    Turn P w K tg (ItC (cmb r xs)) [it, pool] it (StC it pool r us) where
  mem := by simp
  obj := fun i h st b hb => by
    obtain ⟨_, hp, _, st⟩ := st
    have e : b = it ∨ b = pool := by simpa using hb
    rcases e with rfl | rfl
    · rcases st with ⟨_, l, ix, e⟩ | ⟨_, l, ⟨_, e⟩ | ⟨j, c, _, _, e⟩⟩
      · exact ⟨_, e, fun v z => nomatch z⟩
      · exact ⟨_, e, fun v z => nomatch z⟩
      · exact ⟨_, e, fun v z => nomatch z⟩
    · exact ⟨_, hp, fun v z => nomatch z⟩
  keep := fun i h h' st k => by
    obtain ⟨h0, hp, h1, st⟩ := st
    refine ⟨h0, k pool (by simp) _ hp, h1, ?_⟩
    rcases st with ⟨q, l, ix, e⟩ | ⟨q, l, ⟨z, e⟩ | ⟨j, c, z, z2, e⟩⟩
    · exact .inl ⟨q, l, ix, k it (by simp) _ e⟩
    · exact .inr ⟨q, l, .inl ⟨z, k it (by simp) _ e⟩⟩
    · exact .inr ⟨q, l, .inr ⟨j, c, z, z2, k it (by simp) _ e⟩⟩
  item := by
    intro X hP hw hK hc i pins s σ H E I hf st hg
    subst hP hw hK
    obtain ⟨h0, hp, h1, st⟩ := st
    have hl := rv.length
    have ei := ixs_items V.non r xs
    rw [hl] at ei
    have el : (cmb r xs).length = (ixs r us.length).length := by rw [← ei, List.length_map]
    have hg' : i < (ixs r us.length).length := by
      have hg' : i < (cmb r xs).length := hg
      omega
    obtain ⟨c, hci⟩ : ∃ c, (ixs r us.length)[i]? = some c := ⟨_, List.getElem?_eq_getElem hg'⟩
    have cm := List.mem_of_getElem? hci
    have cl : c.length = r := cmb_len _ _ _ cm
    have clt := ixs_lt cm
    have hxs : (cmb r xs)[i]? = some (c.map fun i => xs.getD i .non) := by rw [← ei, List.getElem?_map, hci]; rfl
    have hlt : ∀ b ∈ [it, pool], b < s.heap.objs.size := fun b hb => by
      have e : b = it ∨ b = pool := by simpa using hb
      rcases e with rfl | rfl
      · rcases st with ⟨_, l, ix, e⟩ | ⟨_, l, ⟨_, e⟩ | ⟨j, c, _, _, e⟩⟩ <;> exact Heap.lt_size e
      · exact Heap.lt_size hp
    have fin : ∀ h' : Heap, (∃ last, h'.get? it = some (recOf pool 1 last c)) → h'.get? s.heap.objs.size = some (tupO (c.map fun i => us.getD i .none)) → (∀ b o, b ≠ it → s.heap.get? b = some o → h'.get? b = some o) →
        ∃ u, some (Value.ref s.heap.objs.size) = some u ∧ wpAny (model X.prog X.w) X.A (letOwnedTupleGo tg (.ref it) u) (fun _ s2 => ∃ x H', Inv X pins σ H' s2 ∧ RelV x u ∧ (ItC (cmb r xs)).yld i H x H' ∧ StC it pool r us (i + 1) s2.heap ∧ ∀ b ∈ [it, pool], H' b = none) E { s with heap := h' } := by
      intro h' ⟨last, q1⟩ q2 q3
      refine ⟨_, rfl, go_of (s := { s with heap := h' }) (n := CT) q1 rfl rfl (by decide) ?_⟩
      have new : ObjOk X.prog X.w (upd H s.heap.objs.size (.frz (tupO (c.map fun i => us.getD i .none)) (.tup (c.map fun i => xs.getD i .non)))) h' s.heap.objs.size (.frz (tupO (c.map fun i => us.getD i .none)) (.tup (c.map fun i => xs.getD i .non))) :=
        ⟨q2, by rw [List.length_map, cl, sizeLine_eq]; omega, c.map fun i => us.getD i .none, pick_vals c rv clt, ⟨_, q2, rfl, _, rfl⟩⟩
      have I1 : Inv X pins σ (upd H s.heap.objs.size (.frz (tupO (c.map fun i => us.getD i .none)) (.tup (c.map fun i => xs.getD i .non)))) { s with heap := h' } :=
        I.turnedNew (t' := s.toks) (ch := [it, pool]) (fun b o hb q => q3 b o (fun z => hb (by simp [z])) q) hf (Nat.le_refl _) new
      refine ⟨.ref s.heap.objs.size, _, I1, rfl, ⟨_, _, _, rfl, I.hok.fresh (Nat.le_refl _), rfl, rfl, rfl, hxs⟩, ⟨h0, q3 _ _ (Ne.symm h0) hp, hg', .inr ⟨?_, last, .inr ⟨i, c, rfl, hci, q1⟩⟩⟩, fun b hb => ?_⟩
      · refine Nat.le_of_not_lt fun z => ?_
        rw [ixs_none z] at hg'; cases hg'
      · rw [upd_ne (Nat.ne_of_lt (hlt b hb))]
        exact (hf b hb).1
    rcases st with ⟨q, _⟩ | ⟨q, last, ⟨z, e⟩ | ⟨j, d, z, z2, e⟩⟩
    · rw [ixs_none q] at hg'; cases hg'
    · subst z
      have hc0 : c = List.range r := by
        have := ixs_first q
        rw [hci] at this
        exact Option.some.inj this
      subst hc0
      exact next_first e hp h0 (by rw [List.length_range]; omega) fun h' q1 q2 q3 => fin h' ⟨_, q1⟩ q2 q3
    · subst z
      have hn := ixs_next z2
      rw [hci] at hn
      exact next_step e hp h0 hn (by omega) fun h' q1 q2 q3 => fin h' ⟨_, q1⟩ q2 q3
  done := by
    intro X hP hw hK hc i pins s σ H E I hf st hg
    subst hP hw hK
    obtain ⟨h0, hp, h1, st⟩ := st
    have hl := rv.length
    have ei := ixs_items V.non r xs
    rw [hl] at ei
    have el : (cmb r xs).length = (ixs r us.length).length := by rw [← ei, List.length_map]
    have hg' : (ixs r us.length).length ≤ i := by
      have hg' : (cmb r xs).length ≤ i := hg
      omega
    have fin : ∀ h' : Heap, (∀ b o, b ≠ it → s.heap.get? b = some o → h'.get? b = some o) → (none : Option Value) = none ∧ Inv X pins σ H { s with heap := h' } := fun h' k =>
      ⟨rfl, I.turnedL (t' := s.toks) (ch := [it, pool]) (fun b o hb q => k b o (fun z => hb (by simp [z])) q) hf⟩
    rcases st with ⟨q, l, ix, e⟩ | ⟨q, last, ⟨z, e⟩ | ⟨j, d, z, z2, e⟩⟩
    · exact next_over (I.ok.hd hc) e fun h' k => fin h' k
    · subst z
      have := ixs_first q
      rw [List.getElem?_eq_none hg'] at this; cases this
    · subst z
      have hn := ixs_next z2
      rw [List.getElem?_eq_none hg'] at hn
      exact next_stop (I.ok.hd hc) e hp hn fun h' k => fin h' k
  self := fun A i s Q E st h => by
    obtain ⟨h0, hp, h1, st⟩ := st
    rcases st with ⟨q, l, ix, e⟩ | ⟨q, last, ⟨z, e⟩ | ⟨j, d, z, z2, e⟩⟩
    · exact iter_cb e h
    · exact iter_cb e h
    · exact iter_cb e h
section
variable {X : Cx} {tg : Expr}
theorem laid_cb {pins : List (Addr × Obj)} {σ : L2.St} {H : Hp} {s : Shared} {R : It → Hp → Prop} {h' : Heap} {tk : Nat} {us : List Value} {xs : List V} {r : Nat} (I : Inv X pins σ H s) (k : ∀ b o, s.heap.get? b = some o → h'.get? b = some o) (rv : Vals xs us) (hr : r ≤ 1000) (q : R (ItC (cmb r xs)) H) :
    wpAny (model X.prog X.w) X.A (pyIter (.ref (h'.objs.size + 1))) (PIE X pins σ tg R) X.xe { s with heap := (h'.push (tupO us)).push (recOf h'.objs.size (if r > us.length then 2 else 0) .none (List.range r)), toks := tk } := by
  have e1 : ((h'.push (tupO us)).objs.size) = h'.objs.size + 1 := by simp [Heap.push]
  have hit : ((h'.push (tupO us)).push (recOf h'.objs.size (if r > us.length then 2 else 0) .none (List.range r))).get? (h'.objs.size + 1) = some (recOf h'.objs.size (if r > us.length then 2 else 0) .none (List.range r)) := by
    rw [← e1]; exact Heap.get?_push_size _ rfl
  have hpo : ((h'.push (tupO us)).push (recOf h'.objs.size (if r > us.length then 2 else 0) .none (List.range r))).get? h'.objs.size = some (tupO us) := Heap.get?_push_of_some _ (Heap.get?_push_size _ rfl)
  have hit2 : ∀ zz : Int, (if r > us.length then (2 : Int) else 0) = zz → ((h'.push (tupO us)).push (recOf h'.objs.size (if r > us.length then 2 else 0) .none (List.range r))).get? (h'.objs.size + 1) = some (recOf h'.objs.size zz .none (List.range r)) := fun zz e => by
    rw [hit, e]
  have I1 : Inv X pins σ H { s with heap := h', toks := tk } := I.kept k
  have I2 : Inv X pins σ H { s with heap := (h'.push (tupO us)).push (recOf h'.objs.size (if r > us.length then 2 else 0) .none (List.range r)), toks := tk } := I1.kept (t' := tk) fun b o e => Heap.get?_push_of_some _ (Heap.get?_push_of_some _ e)
  refine iter_cb hit ?_
  refine ⟨h'.objs.size + 1, [h'.objs.size + 1, h'.objs.size], _, _, H, rfl, I2, turn_cb rv hr, ⟨Nat.succ_ne_self _, hpo, Nat.zero_le _, ?_⟩, fun c hc => ?_, q⟩
  · by_cases z : r > us.length
    · exact .inl ⟨z, _, _, hit2 _ (if_pos z)⟩
    · exact .inr ⟨by omega, _, .inl ⟨rfl, hit2 _ (if_neg z)⟩⟩
  · have e : c = h'.objs.size + 1 ∨ c = h'.objs.size := by simpa using hc
    have hle : h'.objs.size ≤ c := by
      rcases e with z | z
      · rw [z]; exact Nat.le_succ _
      · rw [z]; exact Nat.le_refl _
    exact I1.fpOk hle (I1.hok.fresh hle)
def iCb (K : PySem.W.Frag) (ta tb : TE) : TI := fun σ H R => ta σ H fun x H1 => tb σ H1 fun y H2 => ∃ (r : Nat) (a : Addr) (xs : List V), x = .ref a ∧ (SqL K H2 a xs ∨ SqT K H2 a xs) ∧ xs.length ≤ 1000 ∧ y = .int (r : Nat) ∧ r ≤ 1000 ∧ R (ItC (cmb r xs)) H2
theorem pi_cb {x : Str} {e b : Expr} {ta tb : TE} {p pos : Pos} (hg : Gl X x) (hm : X.mg x = some (.type CT)) (ha : PE X e ta) (hb : PE X b tb) (hd : (x == ("__debug__" : Str)) = false := by decide)
    (na : starEach [e, b] X.env = (false, eval e X.env) :: starEach [b] X.env := by rfl) (nb : starEach [b] X.env = (false, eval b X.env) :: starEach [] X.env := by rfl) (hpl : (backTo pos (starEach [b] X.env)).any (·.1) = false := by rfl) :
    PI X tg (.Call (.Name x p) [e, b] [] pos) (iCb X.K ta tb) := by
  refine ⟨fun pins s σ H R I h => ?_⟩
  refine Call_ (ld_glob I hg hm (PyProof.Rows.callWith_type1 (args_cons (thn (ha.run pins s σ H _ I h) fun v s1 ⟨y, H1, I1, r1, q1⟩ => one_arg hb I1 q1 (fun u s2 z H2 I2 r2 q => ?_) nb) na) na hpl) hd)
  obtain ⟨r, a, xs, rfl, hq, hz, rfl, hr, q⟩ := q
  cases r1
  obtain ⟨t, rfl⟩ := r2
  rcases hq with hq | hq
  · obtain ⟨its, rv, p', hz2⟩ := I2.list hq
    have hl := rv.length
    obtain ⟨o, ho, hc, n, hdt⟩ := p'.isList
    refine call_cb (P := fun us => us = its) hr (fun us e => by rw [e]; omega) (fun Q E hQ => ?_) fun h' tk us e k => ?_
    · exact wpAny_collect_seq a (.inl rfl) ho hc hdt (fun h' k => by simpa using hQ h' s2.toks its rfl k) (by rw [List.size_toArray, sizeLine_eq]; omega)
    · subst e
      exact laid_cb I2 k rv hr q
  · obtain ⟨its, rv, p', hz2⟩ := I2.tuple hq
    have hl := rv.length
    obtain ⟨o, ho, hc, n, hdt⟩ := p'
    refine call_cb (P := fun us => us = its) hr (fun us e => by rw [e]; omega) (fun Q E hQ => ?_) fun h' tk us e k => ?_
    · exact wpAny_collect_seq a (.inr rfl) ho hc hdt (fun h' k => by simpa using hQ h' s2.toks its rfl k) (by rw [List.size_toArray, sizeLine_eq]; omega)
    · subst e
      exact laid_cb I2 k rv hr q
end
end Cb
set_option Elab.async false
set_option linter.all false
set_option maxRecDepth 100000
namespace Pv
open PySem PySem.Spec L2
open PyProof.Rows hiding St
section
variable {X : Cx} {W : WX} {cm : CM}
theorem cmb_rep {K : Fr} {F : FS} {H : Hp} : ∀ (r : Nat) (ps : List PV) {xs : List V}, RepL K F H xs ps → (Cb.cmb r xs).length = (Cb.cmb r ps).length ∧ ∀ (i : Nat) (qs : List PV), (Cb.cmb r ps)[i]? = some qs → ∃ ys, (Cb.cmb r xs)[i]? = some ys ∧ RepL K F H ys qs
  | 0, ps, xs, h => by
    have e1 : Cb.cmb 0 ps = [[]] := by cases ps <;> rfl
    have e2 : Cb.cmb 0 xs = [[]] := by cases xs <;> rfl
    rw [e1, e2]
    refine ⟨rfl, fun i qs hq => ?_⟩
    cases i with
    | zero => cases hq; exact ⟨[], rfl, RepL.nil⟩
    | succ i => simp at hq
  | r + 1, [], xs, h => by
    rw [RepL.nil_inv h]
    exact ⟨rfl, fun i qs hq => by cases hq⟩
  | r + 1, p :: ps, xs, h => by
    unfold RepL at h
    obtain ⟨x, t, rfl, h1, h2⟩ := h
    obtain ⟨l1, g1⟩ := cmb_rep r ps h2
    obtain ⟨l2, g2⟩ := cmb_rep (r + 1) ps h2
    have e1 : Cb.cmb (r + 1) (p :: ps) = (Cb.cmb r ps).map (fun c => p :: c) ++ Cb.cmb (r + 1) ps := rfl
    have e2 : Cb.cmb (r + 1) (x :: t) = (Cb.cmb r t).map (fun c => x :: c) ++ Cb.cmb (r + 1) t := rfl
    rw [e1, e2]
    refine ⟨by rw [List.length_append, List.length_append, List.length_map, List.length_map, l1, l2], fun i qs hq => ?_⟩
    by_cases hi : i < (Cb.cmb r ps).length
    · rw [List.getElem?_append_left (by rw [List.length_map]; exact hi), List.getElem?_map] at hq
      obtain ⟨c, hc, rfl⟩ := Option.map_eq_some_iff.mp hq
      obtain ⟨ys, hy, ry⟩ := g1 i c hc
      refine ⟨x :: ys, ?_, RepL.cons h1 ry⟩
      rw [List.getElem?_append_left (by rw [List.length_map, l1]; exact hi), List.getElem?_map, hy]
      rfl
    · rw [List.getElem?_append_right (by rw [List.length_map]; omega), List.length_map] at hq
      obtain ⟨ys, hy, ry⟩ := g2 _ qs hq
      refine ⟨ys, ?_, ry⟩
      rw [List.getElem?_append_right (by rw [List.length_map, l1]; omega), List.length_map, l1]
      exact hy
theorem itC_ok {K : Fr} {F : FS} {H : Hp} {r : Nat} {xs : List V} {ps : List PV} (rx : RepL K F H xs ps) : ItOk K F H (Cb.ItC (Cb.cmb r xs)) ((Cb.cmb r ps).map .tup) := fun i F2 H2 s k => by
  obtain ⟨l1, g1⟩ := cmb_rep r ps rx
  refine ⟨fun e => by rw [List.length_map] at e; show (Cb.cmb r xs).length ≤ i; omega, fun p hp => ?_⟩
  rw [List.getElem?_map] at hp
  obtain ⟨qs, hq, rfl⟩ := Option.map_eq_some_iff.mp hp
  obtain ⟨ys, hy, ry⟩ := g1 i qs hq
  refine ⟨(List.getElem?_eq_some_iff.mp hy).1, fun x H3 y => ?_⟩
  obtain ⟨T, o, zs, rfl, hT, rfl, q1, q2, q3⟩ := y
  rw [hy] at q3
  cases q3
  have sm : Same H2 (upd H2 T (.frz o (.tup ys))) := same_upd hT
  refine ⟨sm, ?_⟩
  unfold Rep
  exact ⟨T, ys, rfl, .inl ⟨o, upd_same, q1, q2⟩, RepL.mono (Keep.of sm) (fun _ z => z) qs (RepL.mono k s qs ry)⟩
def seqP : PV → Option (List PV)
  | .lst ps => some ps
  | .tup ps => some ps
  | _ => none
def mComb (m k : M PV) : M (List PV) := bnd m fun p => bnd k fun z => match seqP p, z with
  | some ps, .int j => if decide (0 ≤ j ∧ j ≤ 1000 ∧ ps.length ≤ 1000) then ret ((Cb.cmb j.toNat ps).map .tup) else bad
  | _, _ => bad
theorem i_comb {tg e b : Expr} {x : Str} {m k : M PV} {p pos : Pos} (hm : X.mg x = some (.type "itertools.combinations")) (s : Pv.SP X W cm e m) (s2 : Pv.SP X W cm b k) (hg : Gl X x := by rfl) (hd : (x == ("__debug__" : Str)) = false := by decide)
    (na : starEach [e, b] X.env = (false, eval e X.env) :: starEach [b] X.env := by rfl) (nb : starEach [b] X.env = (false, eval b X.env) :: starEach [] X.env := by rfl) (hpl : (backTo pos (starEach [b] X.env)).any (·.1) = false := by rfl) : SI X W cm tg (.Call (.Name x p) [e, b] [] pos) (mComb m k) := ⟨_, Cb.pi_cb hg hm sE_pe sE_pe hd na nb hpl, fun {F H0 H ev σ R} r h => by
  refine s.go r (h.bnd.mono fun q ev1 F1 H1 a1 hh v rv => ?_)
  refine s2.go a1.er (hh.2.bnd.mono fun q2 ev2 F2 H2 a2 hh2 w rw' => ?_)
  have h2 := hh2.2
  have rv2 := rv.mono a2.same a2.sub
  split at h2
  rotate_left
  · exact h2.elim
  rename_i ps j hs
  have e1 : w = .int j := rw'
  subst e1
  split at h2
  rotate_left
  · exact h2.elim
  rename_i c
  have c' := of_decide_eq_true c
  have fin : ∀ xs, RepL X.K F2 H2 xs ps → R (Cb.ItC (Cb.cmb j.toNat xs)) H2 := fun xs rx =>
    Wt.ret (P := fun ps ev' F' H' => ∀ J F3, Aft X.K F H0 ev ev' σ H F3 H' → (∀ a, F' a → F3 a) → ItOk X.K F3 H' J ps → R J H') a2.er h2 _ F2 (a1.trans a2) (fun _ h => h) (itC_ok rx)
  cases q with
  | lst qs =>
    cases hs
    obtain ⟨a, xs, rfl, hx, rl⟩ := rv2
    have hl := rl.length
    exact ⟨j.toNat, a, xs, rfl, .inl (SqL.of hx), by omega, by rw [Int.toNat_of_nonneg c'.1], by omega, fin xs rl⟩
  | tup qs =>
    cases hs
    unfold RepT Rep at rv2
    obtain ⟨a, xs, rfl, hx, rl⟩ := rv2
    have hl := rl.length
    exact ⟨j.toNat, a, xs, rfl, .inr hx.sqT, by omega, by rw [Int.toNat_of_nonneg c'.1], by omega, fin xs rl⟩
  | _ => cases hs⟩
end
end Pv
set_option Elab.async false
set_option linter.all false
set_option maxRecDepth 100000
namespace Pv
open PySem PySem.Spec L2
open PyProof.Rows hiding St
section
variable {α : Type}
theorem compr_gen {v : Nat} {mt : M Bool} {me : M RV} {e : α → PV} {c : α → Bool} {g : α → PV} {ev : SL} (h : ev[v]? = some .no) : ∀ (l : List α) (acc : List PV), (∀ a ∈ l, mt (ev.set v (.val (e a))) = .ok (c a) (ev.set v (.val (e a)))) → (∀ a ∈ l, c a = true → ∃ fr, me (ev.set v (.val (e a))) = .ok (g a, fr) (ev.set v (.val (e a)))) → acc.length + l.length ≤ 16777216 →
    compr (tName v) mt me [v] acc (l.map e) ev = .ok (acc ++ (l.filter c).map g) ev
  | [], acc, _, _, _ => by rw [List.map_nil, compr]; simp
  | a :: l, acc, h1, h2, hz => by
    rw [List.length_cons] at hz
    have hl : v < ev.length := (List.getElem?_eq_some_iff.mp h).1
    have e1 := h1 a (by simp)
    rw [List.map_cons, compr]
    cases hc : c a with
    | false =>
      rw [hc] at e1
      have e2 : turn (tName v) mt me (e a) ev = .ok none (ev.set v (.val (e a))) := by
        unfold turn
        simp [hl, e1]
      simp only [e2]
      rw [wipe_one h, compr_gen h l acc (fun b hb => h1 b (by simp [hb])) (fun b hb => h2 b (by simp [hb])) (by omega), List.filter_cons, hc]
      simp
    | true =>
      rw [hc] at e1
      obtain ⟨fr, e3⟩ := h2 a (by simp) hc
      have e2 : turn (tName v) mt me (e a) ev = .ok (some (g a)) (ev.set v (.val (e a))) := by
        unfold turn
        simp [hl, e1, e3]
      simp only [e2]
      rw [if_pos (by rw [SZ]; omega), wipe_one h, compr_gen h l (acc ++ [g a]) (fun b hb => h1 b (by simp [hb])) (fun b hb => h2 b (by simp [hb])) (by rw [List.length_append, List.length_singleton]; omega), List.filter_cons, hc]
      simp
theorem wipe_no {ev : SL} {v : Nat} (h : ev[v]? = some .no) : wipeE ev [v] = ev := by
  have := wipe_one (s := .no) h
  have e : ev.set v .no = ev := by
    apply List.ext_getElem?
    intro i
    by_cases hi : v = i
    · subst hi; rw [List.getElem?_set_self (List.getElem?_eq_some_iff.mp h).1, h]
    · rw [List.getElem?_set_ne hi]
  rw [e] at this
  exact this
theorem back_no {ev ev1 : SL} {v : Nat} (h : ev[v]? = some .no) (h1 : ev1[v]? = some .no) : back ev ev1 [v] = ev1 := by
  unfold back back
  rw [h]
  apply List.ext_getElem?
  intro i
  by_cases hi : v = i
  · subst hi; rw [List.getElem?_set_self (List.getElem?_eq_some_iff.mp h1).1, h1]
  · rw [List.getElem?_set_ne hi]
theorem comp_gen {v : Nat} {mi : M (List PV)} {mt : M Bool} {me : M RV} {e : α → PV} {c : α → Bool} {g : α → PV} {ev ev1 : SL} {l : List α} (hi : mi ev = .ok (l.map e) ev1) (h : ev1[v]? = some .no) (h1 : ∀ a ∈ l, mt (ev1.set v (.val (e a))) = .ok (c a) (ev1.set v (.val (e a)))) (h2 : ∀ a ∈ l, c a = true → ∃ fr, me (ev1.set v (.val (e a))) = .ok (g a, fr) (ev1.set v (.val (e a)))) (hz : l.length ≤ 16777216) :
    mComp mi (tName v) mt me [v] ev = .ok (.lst ((l.filter c).map g), true) ev1 := by
  have hc := compr_gen (mt := mt) (me := me) (e := e) (c := c) (g := g) h l [] h1 h2 (by simpa using hz)
  rw [List.nil_append] at hc
  have := comp_ok (mi := mi) (t := tName v) (mt := mt) (me := me) (vs := [v]) hi (by rw [wipe_no h]; exact hc)
  rw [back_no h h] at this
  exact this
theorem comp_map {v : Nat} {mi : M (List PV)} {me : M RV} {e : α → PV} {g : α → PV} {ev ev1 : SL} {l : List α} (hi : mi ev = .ok (l.map e) ev1) (h : ev1[v]? = some .no) (h2 : ∀ a ∈ l, ∃ fr, me (ev1.set v (.val (e a))) = .ok (g a, fr) (ev1.set v (.val (e a)))) (hz : l.length ≤ 16777216) :
    mComp mi (tName v) (ret true) me [v] ev = .ok (.lst (l.map g), true) ev1 := by
  have := comp_gen (mt := ret true) (c := fun _ => true) hi h (fun a _ => rfl) (fun a ha _ => h2 a ha) hz
  rwa [List.filter_eq_self.mpr (fun _ _ => rfl)] at this
theorem okR_k {i : Int} (h : -100000 ≤ i) (h2 : i ≤ 100000) : okR i = true := by
  unfold okR; exact decide_eq_true (by omega)
@[simp] theorem vNeg_ap {m : M PV} {ev : SL} : vNeg m ev = bnd m (fun p => match p with
  | .int i => ret (.int (-i), false)
  | _ => bad) ev := rfl
theorem rng1_ok {m : M (List PV)} {ev ev' : SL} {i : Int} (h : m ev = .ok [.int i] ev') (hi : okR i = true) : mRng1 m ev = .ok (rgP 0 i.toNat) ev' := by
  unfold mRng1
  rw [bnd_ok h]
  show (if okR i = true then (ret (rgP 0 i.toNat) : M (List PV)) else bad) ev' = _
  rw [if_pos hi]; rfl
theorem rngN_ok {m : M (List PV)} {ev ev' : SL} {n : Nat} (h : m ev = .ok [.int (n : Nat)] ev') (hn : n ≤ 100000) : mRng1 m ev = .ok ((upTo 0 n).map .int) ev' := by
  rw [rng1_ok h (okR_k (by omega) (by omega)), rgP_eq, Int.toNat_natCast]
end
end Pv
set_option Elab.async false
set_option linter.all false
set_option maxRecDepth 100000
namespace Pv
open PySem PySem.Spec L2
open PyProof.Rows hiding St
section
variable {X : Cx}
def gIsB (neg : Bool) (p q : PV) : Option RV := match p, q with
  | .bl a, .bl b => vB (xor neg (decide (a = b)))
  | _, _ => none
@[simp] theorem gIsB_bb {n a b : Bool} : gIsB n (.bl a) (.bl b) = some (.bl (xor n (decide (a = b))), false) := rfl
end
end Pv
set_option Elab.async false
set_option linter.all false
set_option maxRecDepth 100000
namespace Pv
open PySem PySem.Spec L2
open PyProof.Rows hiding St
section
variable {X : Cx}
def gLt2 (p q : PV) : Option RV := match p, q with
  | .int i, .int j => vB (decide (i < j))
  | .tup a, .tup b => match intsP a, intsP b with
    | some ns, some ms => vB (HT.lexLt ns ms)
    | _, _ => none
  | _, _ => none
theorem RepTup.ints {K : Fr} {F : FS} {H : Hp} {v : V} {ns : List Int} (r : Rep K F H v (.tup (ns.map .int))) : ∃ a, v = .ref a ∧ SqT K H a (ns.map V.int) := by
  unfold Rep at r
  obtain ⟨a, xs, rfl, hx, rl⟩ := r
  rw [RepL.ints rl] at hx
  exact ⟨a, rfl, hx.sqT⟩
theorem o_lt2 (hu : X.A.units + 64 < cLine) : OpOk X (compareOp .Lt) gLt2 := fun F H0 H ev σ x y p q r Q er rx ry e hq => by
  unfold gLt2 at e
  split at e
  · rename_i i j
    exact o_lt F H0 H ev σ x y (.int i) (.int j) r Q er rx ry e hq
  · rename_i a b
    split at e
    · rename_i ns ms e1 e2
      cases e
      rw [intsP_eq e1] at rx
      rw [intsP_eq e2] at ry
      obtain ⟨a1, rfl, h1⟩ := RepTup.ints rx
      obtain ⟨b1, rfl, h2⟩ := RepTup.ints ry
      exact sOp_of (op_ltT (Nat.lt_of_le_of_lt (Nat.le_add_right _ _) hu)) ⟨a1, b1, ns, ms, rfl, rfl, h1, h2, hq F (.bl (HT.lexLt ns ms)) H er.aft (rep_bl (K := X.K) (F := F) (H := H))⟩
    · cases e
  · cases e
theorem gLt2_tt (ns ms : List Int) : gLt2 (.tup (ns.map .int)) (.tup (ms.map .int)) = some (.bl (HT.lexLt ns ms), false) := by
  show (match intsP (ns.map .int), intsP (ms.map .int) with | some ns, some ms => vB (HT.lexLt ns ms) | _, _ => none) = _
  rw [intsP_map, intsP_map]; rfl
end
section
variable {α : Type}
end
end Pv
set_option Elab.async false
set_option linter.all false
set_option maxRecDepth 100000
namespace Pv
open PySem PySem.Spec L2
open PyProof.Rows hiding St
section
variable {α : Type}
def NV (s : Slot) : Prop := s = .no ∨ ∃ p, s = .val p
theorem NV.no : NV .no := .inl rfl
theorem NV.val {p : PV} : NV (.val p) := .inr ⟨p, rfl⟩
end
end Pv
set_option Elab.async false
set_option linter.all false
set_option maxRecDepth 100000
set_option maxHeartbeats 1000000
namespace MinT
open PySem PySem.Spec PyProof.Rows L2
def CmpK (prog : Program) (w : World) (A : Around) (h0 : Heap) (P : Nat → Value → Prop) (bt : Nat → Nat → Bool) : Prop :=
  ∀ i j vi vj (s : Shared) (Q : Value → Shared → Prop) (E : Value → Shared → Prop), (∀ b o, h0.get? b = some o → s.heap.get? b = some o) → P i vi → P j vj → Q (.bool (bt i j)) s → wpAny (model prog w) A (richCompare .Lt vi vj) Q E s
section
variable {prog : Program} {w : World} {A : Around} {R : Result → Shared → Prop} {I S : Addr} {fp wr : List Addr} {n : Nat} {P : Nat → Value → Prop} {St : Nat → Heap → Prop} {h0 : Heap} {bt : Nat → Nat → Bool}
abbrev lst2 (v u : Value) (c : Nat) : Obj := { cls := .type "list", dict := none, data := .seq #[v, u] c, slots := #[] }
theorem nm : (toString "min" ++ toString ".loop" : String) = "min.loop" := by decide
theorem min_go (W : Walks prog w A.in1 I fp wr n P St) (hcmp : CmpK prog w A.in1 h0 P bt) (hSf : S ∉ fp) (hw0 : ∀ b o, h0.get? b = some o → b ∉ wr ∧ b ≠ S) :
    ∀ (k j : Nat) (s : Shared) (vb : Value) (c : Nat), n - (j + 1) = k → j + 1 ≤ n → (∀ b o, h0.get? b = some o → s.heap.get? b = some o) → St (j + 1) s.heap → P (argBest bt j) vb → s.heap.get? S = some (lst2 vb vb c) →
    (∀ v h' tk, P (argBest bt (n - 1)) v → (∀ b o, b ∉ wr → b ≠ S → s.heap.get? b = some o → h'.get? b = some o) → R (.ok (.ret v)) { s with heap := h', toks := tk }) →
    codeAny (model prog w) A (.builtin "min.loop" ⟨[.ref I, .none, .ref S], []⟩) R s := by
  have hSw : S ∉ wr := fun h => hSf (W.sub _ h)
  intro k
  induction k with
  | zero =>
    intro j s vb c hk hj hb hst hPb hS hR
    have hin : j + 1 = n := by omega
    refine codeAny_builtin F.entry_min_loop ?_
    rw [Around.under_plainId F.plain_min_loop _]
    show wpAny _ A.in1 (seqItems? (.ref S) >>= _) _ _ s
    refine wpAny_bind (wpAny_seqItems hS rfl ?_)
    show wpAny _ A.in1 (tryCatch (pyNext (.ref I)) _ >>= _) _ _ s
    refine wpAny_bind (wpAny_tryCatch (W.done s _ _ (hin ▸ hst) fun h' tk hk' => ?_))
    have hS' := hk' S _ hSw hS
    show wpAny _ A.in1 (updateSeq S (fun _ => #[]) >>= _) _ _ _
    refine wpAny_bind ?_
    refine wpAny_updateSeq hS' rfl (wpAny_bind (wpAny_letGo (wpAny_pure ?_)))
    exact hR vb _ tk (by rw [← hin]; exact hPb) fun b o hbw hbS e => (Heap.get?_update_other _ _ (Ne.symm hbS)).trans (hk' b o hbw e)
  | succ k ih =>
    intro j s vb c hk hj hb hst hPb hS hR
    have hlt : j + 1 < n := by omega
    refine codeAny_builtin F.entry_min_loop ?_
    rw [Around.under_plainId F.plain_min_loop _]
    show wpAny _ A.in1 (seqItems? (.ref S) >>= _) _ _ s
    refine wpAny_bind (wpAny_seqItems hS rfl ?_)
    show wpAny _ A.in1 (tryCatch (pyNext (.ref I)) _ >>= _) _ _ s
    refine wpAny_bind (wpAny_tryCatch (W.item (j + 1) s _ _ hlt hst fun v h' tk hP hst' hk' => ?_))
    have hS' := hk' S _ hSw hS
    have hb' : ∀ b o, h0.get? b = some o → h'.get? b = some o := fun b o e => hk' b o (hw0 b o e).1 (hb b o e)
    show wpAny _ A.in1 (tryCatch (holding [v, v] (richCompare .Lt v vb >>= _)) _ >>= _) _ _ _
    refine wpAny_bind (wpAny_tryCatch (wpAny_holding (wpAny_bind (hcmp (j + 1) (argBest bt j) v vb _ _ _ hb' hP hPb ?_))))
    refine wpAny_bind (wpAny_holding (wpAny_truthy_bool ?_))
    refine wpAny_bind (wpAny_letGo (wpAny_pure ?_))
    cases hbt : bt (j + 1) (argBest bt j) with
    | true =>
      simp only [if_true]
      refine wpAny_bind ?_
      refine wpAny_updateSeq hS' rfl (wpAny_bind (wpAny_letGo ?_))
      rw [nm]
      refine wpAny_pure ⟨plainId_quiet F.plain_min_loop _, ih (j + 1) _ v _ (by omega) hlt (fun b o e => (Heap.get?_update_other _ _ (Ne.symm (hw0 b o e).2)).trans (hb' b o e)) (W.frame _ _ _ hst' fun b hbf o e => ?_) (by simp only [argBest, hbt, if_true]; exact hP) (Heap.get?_update_self _ hS' rfl)
        fun v' h'' tk'' hP' hk'' => ?_⟩
      · exact (Heap.get?_update_other _ _ (fun h : S = b => hSf (by rw [h]; exact hbf))).trans e
      · exact hR v' h'' tk'' hP' fun b o hbw hbS e => hk'' b o hbw hbS ((Heap.get?_update_other _ _ (Ne.symm hbS)).trans (hk' b o hbw e))
    | false =>
      simp only [Bool.false_eq_true, if_false]
      refine wpAny_bind (wpAny_letGo ?_)
      rw [nm]
      refine wpAny_pure ⟨plainId_quiet F.plain_min_loop _, ih (j + 1) _ vb c (by omega) hlt hb' hst' (by simp only [argBest, hbt, Bool.false_eq_true, if_false]; exact hPb) hS' fun v' h'' tk'' hP' hk'' => ?_⟩
      exact hR v' h'' tk'' hP' fun b o hbw hbS e => hk'' b o hbw hbS (hk' b o hbw e)
theorem min_first (W : Walks prog w A.in1 I fp wr n P St) (hcmp : CmpK prog w A.in1 h0 P bt) (hSf : S ∉ fp) (hw0 : ∀ b o, h0.get? b = some o → b ∉ wr ∧ b ≠ S) (hn : 0 < n) {s : Shared} {c : Nat} (hb : ∀ b o, h0.get? b = some o → s.heap.get? b = some o) (hst : St 0 s.heap)
    (hS : s.heap.get? S = some { cls := .type "list", dict := none, data := .seq #[] c, slots := #[] })
    (hR : ∀ v h' tk, P (argBest bt (n - 1)) v → (∀ b o, b ∉ wr → b ≠ S → s.heap.get? b = some o → h'.get? b = some o) → R (.ok (.ret v)) { s with heap := h', toks := tk }) :
    codeAny (model prog w) A (.builtin "min.loop" ⟨[.ref I, .none, .ref S], []⟩) R s := by
  have hSw : S ∉ wr := fun h => hSf (W.sub _ h)
  refine codeAny_builtin F.entry_min_loop ?_
  rw [Around.under_plainId F.plain_min_loop _]
  show wpAny _ A.in1 (seqItems? (.ref S) >>= _) _ _ s
  refine wpAny_bind (wpAny_seqItems hS rfl ?_)
  show wpAny _ A.in1 (tryCatch (pyNext (.ref I)) _ >>= _) _ _ s
  refine wpAny_bind (wpAny_tryCatch (W.item 0 s _ _ hn hst fun v h' tk hP hst' hk' => ?_))
  have hS' := hk' S _ hSw hS
  have hb' : ∀ b o, h0.get? b = some o → h'.get? b = some o := fun b o e => hk' b o (hw0 b o e).1 (hb b o e)
  show wpAny _ A.in1 (updateSeq S (fun _ => #[v, v]) >>= _) _ _ _
  refine wpAny_bind ?_
  refine wpAny_updateSeq hS' rfl ?_
  rw [nm]
  refine wpAny_pure ⟨plainId_quiet F.plain_min_loop _, min_go W hcmp hSf hw0 _ 0 _ v _ rfl hn (fun b o e => (Heap.get?_update_other _ _ (Ne.symm (hw0 b o e).2)).trans (hb' b o e)) (W.frame _ _ _ hst' fun b hbf o e => ?_) hP (Heap.get?_update_self _ hS' rfl) fun v' h'' tk'' hP' hk'' => ?_⟩
  · exact (Heap.get?_update_other _ _ (fun h : S = b => hSf (by rw [h]; exact hbf))).trans e
  · exact hR v' h'' tk'' hP' fun b o hbw hbS e => hk'' b o hbw hbS ((Heap.get?_update_other _ _ (Ne.symm hbS)).trans (hk' b o hbw e))
end
section
variable {prog : Program} {w : World} {A : Around} {E : Value → Shared → Prop} {s : Shared} {l : Addr} {its : Array Value} {bt : Nat → Nat → Bool}
theorem min_list {Q : Value → Shared → Prop} (hh : A.handled = none) (hl : s.heap.IsList l its) (hne : 0 < its.size) (hcmp : CmpK prog w A.in1 s.heap (fun i v => its[i]? = some v) bt)
    (h : ∀ v h' tk, its[argBest bt (its.size - 1)]? = some v → (∀ b o, s.heap.get? b = some o → h'.get? b = some o) → Q v { s with heap := h', toks := tk }) :
    wpAny (model prog w) A (call (.builtin "min") [.ref l]) Q E s := by
  refine call_function_tree F.kind_min F.plain_min F.entry_min (F.args_min1 _) ?_
  show wpAny _ A.in1 (Builtin.Builtins.bindParams "min" ["key", "default"] 0 ⟨[], []⟩ >>= _) _ _ s
  refine wpAny_bind (wpAny_of_eq (show Builtin.Builtins.bindParams "min" ["key", "default"] 0 ⟨[], []⟩ = pure [none, none] from rfl) ?_)
  refine wpAny_bind (wpAny_pure ?_)
  show wpAny _ A.in1 (pyIter (.ref l) >>= _) _ _ s
  refine wpAny_bind (iter_anyList hl fun s₂ e st hfp hlI => ?_)
  subst e
  have W := Walks.list (prog := prog) (w := w) (A := A.in1) hh s.heap.objs.size l hlI its
  refine wpAny_bind (wpAny_newObj_type ?_)
  have hz : (s.heap.push { cls := .type "list_iterator", data := .fields #[.ref l, .int 0 0] }).objs.size = s.heap.objs.size + 1 := by simp [Heap.push]
  have hSf : (s.heap.push { cls := .type "list_iterator", data := .fields #[.ref l, .int 0 0] }).objs.size ∉ [s.heap.objs.size, l] := fun hm => Nat.lt_irrefl _ (hfp _ hm)
  rw [nm]
  have hold : ∀ b o, s.heap.get? b = some o → b ∉ [s.heap.objs.size] ∧ b ≠ (s.heap.push { cls := .type "list_iterator", data := .fields #[.ref l, .int 0 0] }).objs.size := fun b o e => by
    have := Heap.lt_size e
    refine ⟨fun z => ?_, fun z => ?_⟩
    · rw [List.mem_singleton.mp z] at this; exact Nat.lt_irrefl _ this
    · rw [z, hz] at this; exact absurd this (Nat.not_lt.mpr (Nat.le_succ _))
  refine wpAny_pure ⟨plainId_quiet F.plain_min_loop _, min_first (h0 := s.heap) W hcmp hSf hold hne (fun b o e => Heap.get?_push_of_some _ (Heap.get?_push_of_some _ e)) (W.frame _ _ _ st fun b _ o e => Heap.get?_push_of_some _ e) (Heap.get?_push_size _ rfl) fun v h' tk hP hk => ?_⟩
  exact h v h' tk hP fun b o e => hk b o (hold b o e).1 (hold b o e).2 (Heap.get?_push_of_some _ (Heap.get?_push_of_some _ e))
end
theorem argBest_le (bt : Nat → Nat → Bool) : ∀ k, argBest bt k ≤ k
  | 0 => Nat.le_refl _
  | k + 1 => by
    unfold argBest
    split
    · exact Nat.le_refl _
    · exact Nat.le_succ_of_le (argBest_le bt k)
section
variable {X : Cx}
end
end MinT
set_option Elab.async false
set_option linter.all false
set_option maxRecDepth 100000
namespace Pv
open PySem PySem.Spec L2
open PyProof.Rows hiding St
section
variable {X : Cx}
end
end Pv
set_option Elab.async false
set_option linter.all false
set_option maxRecDepth 100000
namespace Pv
open PySem PySem.Spec L2
open PyProof.Rows hiding St
section
variable {α β : Type}
end
end Pv
set_option linter.all false
set_option autoImplicit false
namespace Pv
open PySem PySem.Spec L2
open PyProof.Rows hiding St
section
variable {α : Type}
theorem compr_genT {t : PV → SL → Option SL} {vs : List Nat} {mt : M Bool} {me : M RV} {e : α → PV} {B : α → SL} {c : α → Bool} {g : α → PV} {ev : SL} : ∀ (l : List α) (acc : List PV), (∀ a ∈ l, t (e a) ev = some (B a)) → (∀ a ∈ l, wipeE (B a) vs = ev) → (∀ a ∈ l, mt (B a) = .ok (c a) (B a)) → (∀ a ∈ l, c a = true → ∃ fr, me (B a) = .ok (g a, fr) (B a)) → acc.length + l.length ≤ 16777216 →
    compr t mt me vs acc (l.map e) ev = .ok (acc ++ (l.filter c).map g) ev
  | [], acc, _, _, _, _, _ => by rw [List.map_nil, compr]; simp
  | a :: l, acc, ht, hw, h1, h2, hz => by
    rw [List.length_cons] at hz
    have e1 := h1 a (by simp)
    have et := ht a (by simp)
    have ew := hw a (by simp)
    have ih := fun acc' hz' => compr_genT (t := t) (vs := vs) (mt := mt) (me := me) (e := e) (B := B) (c := c) (g := g) (ev := ev) l acc' (fun b hb => ht b (by simp [hb])) (fun b hb => hw b (by simp [hb])) (fun b hb => h1 b (by simp [hb])) (fun b hb => h2 b (by simp [hb])) hz'
    rw [List.map_cons, compr]
    cases hc : c a with
    | false =>
      rw [hc] at e1
      have e2 : turn t mt me (e a) ev = .ok none (B a) := by
        unfold turn
        simp [et, e1]
      simp only [e2]
      rw [ew, ih acc (by omega), List.filter_cons, hc]
      simp
    | true =>
      rw [hc] at e1
      obtain ⟨fr, e3⟩ := h2 a (by simp) hc
      have e2 : turn t mt me (e a) ev = .ok (some (g a)) (B a) := by
        unfold turn
        simp [et, e1, e3]
      simp only [e2]
      rw [if_pos (by rw [SZ]; omega), ew, ih (acc ++ [g a]) (by rw [List.length_append, List.length_singleton]; omega), List.filter_cons, hc]
      simp
theorem comp_genT {t : PV → SL → Option SL} {vs : List Nat} {mi : M (List PV)} {mt : M Bool} {me : M RV} {e : α → PV} {B : α → SL} {c : α → Bool} {g : α → PV} {ev ev1 : SL} {l : List α} (hi : mi ev = .ok (l.map e) ev1) (hw : wipeE ev1 vs = ev1) (hk : back ev1 ev1 vs = ev1) (ht : ∀ a ∈ l, t (e a) ev1 = some (B a)) (hb : ∀ a ∈ l, wipeE (B a) vs = ev1) (h1 : ∀ a ∈ l, mt (B a) = .ok (c a) (B a)) (h2 : ∀ a ∈ l, c a = true → ∃ fr, me (B a) = .ok (g a, fr) (B a)) (hz : l.length ≤ 16777216) :
    mComp mi t mt me vs ev = .ok (.lst ((l.filter c).map g), true) ev1 := by
  have hc := compr_genT (mt := mt) (me := me) (e := e) (c := c) (g := g) l [] ht hb h1 h2 (by simpa using hz)
  rw [List.nil_append] at hc
  have := comp_ok (mi := mi) (t := t) (mt := mt) (me := me) (vs := vs) hi (by rw [hw]; exact hc)
  rw [hk] at this
  exact this
end
end Pv
set_option Elab.async false
set_option linter.all false
set_option maxRecDepth 100000
namespace Pv
open PySem PySem.Spec L2
open PyProof.Rows hiding St
section
variable {prog : Program} {w : World} {A : Around} {E : Value → Shared → Prop} {s : Shared} {l : Addr}
end
section
variable {X : Cx}
end
end Pv
set_option Elab.async false
set_option linter.all false
set_option maxRecDepth 100000
namespace L2
open PySem PySem.Spec
open PyProof.Rows hiding St
section
variable {X : Cx} {a b c d : Expr} {pos : Pos} {ta tb tc td : TE}
end
end L2
namespace Pv
open PySem PySem.Spec L2
open PyProof.Rows hiding St
section
variable {X : Cx} {W : WX} {cm : CM}
end
end Pv
set_option Elab.async false
set_option linter.all false
set_option maxRecDepth 100000
namespace Pv
open PySem PySem.Spec L2
open PyProof.Rows hiding St
section
variable {X : Cx}
def gMulT : PV → PV → Option RV
  | .tup ps, .int k => if 2 ≤ k ∧ k ≤ 1000 ∧ ps.length ≤ 1000 then some (.tup (List.replicate k.toNat ps).flatten, false) else none
  | _, _ => none
end
@[simp] theorem gMulT_ti {ps : List PV} {k : Int} : gMulT (.tup ps) (.int k) = if 2 ≤ k ∧ k ≤ 1000 ∧ ps.length ≤ 1000 then some (.tup (List.replicate k.toNat ps).flatten, false) else none := rfl
end Pv
set_option Elab.async false
set_option linter.all false
set_option maxRecDepth 100000
namespace Pv
open PySem PySem.Spec L2
open PyProof.Rows hiding St
structure Met (F : FS) (H0 : Hp) (D : Addr) (as : List Addr) (H : Hp) (M : List (List Int)) : Prop where
  d : H D = some (.lst (as.map V.ref))
  nf : ¬ F D
  h0 : H0 D = none
  len : as.length = M.length
  nod : as.Nodup
  nda : D ∉ as
  el : ∀ (k : Nat) (a : Addr) (m : List Int), as[k]? = some a → M[k]? = some m → H a = some (.lst (m.map V.int)) ∧ ¬ F a ∧ H0 a = none
section
variable {F F' : FS} {H0 H H' : Hp} {D : Addr} {as : List Addr} {M : List (List Int)}
theorem Met.later (h : Met F H0 D as H M) (s : Same H H') : Met F H0 D as H' M :=
  ⟨s _ _ h.d, h.nf, h.h0, h.len, h.nod, h.nda, fun k a m ha hm => ⟨s _ _ (h.el k a m ha hm).1, (h.el k a m ha hm).2⟩⟩
theorem Met.grow (h : Met F H0 D as H M) (g : ∀ a, F' a → F a ∨ H a = none) : Met F' H0 D as H M := by
  have key : ∀ a o, H a = some o → ¬ F a → ¬ F' a := fun a o e nf f => by
    rcases g a f with z | z
    · exact nf z
    · rw [e] at z; cases z
  exact ⟨h.d, key _ _ h.d h.nf, h.h0, h.len, h.nod, h.nda, fun k a m ha hm => by
    obtain ⟨e1, e2, e3⟩ := h.el k a m ha hm
    exact ⟨e1, key _ _ e1 e2, e3⟩⟩
end
def NoW (ev : SL) : Prop := ∀ (j : Nat) (q : Pv.Slot), ev[j]? = some q → q.isO = false
theorem NoW.no {ev : SL} (h : NoW ev) {σ : St} {a : Addr} : ¬ Ow ev σ a := fun ⟨i, q, e, _⟩ => by
  have := h i q e.1
  rw [this] at e
  cases e.2
section
variable {X : Cx} {W : WX} {cm : CM}
end
end Pv
set_option Elab.async false
set_option linter.all false
set_option maxRecDepth 100000
namespace Pv
open PySem PySem.Spec L2
open PyProof.Rows hiding St
def ItS (K : Fr) (F : FS) (H : Hp) (J : It) (ps : List PV) : Prop := ∀ (i : Nat) (F2 : FS) (H2 : Hp), (∀ a, F a → F2 a) → Same H H2 → (i = ps.length → J.stop i H2) ∧ (∀ p, ps[i]? = some p → J.go i H2 ∧ ∀ x H3, J.yld i H2 x H3 → Same H2 H3 ∧ Rep K F2 H3 x p)
theorem ItOk.s {K : Fr} {F : FS} {H : Hp} {J : It} {ps : List PV} (h : ItOk K F H J ps) : ItS K F H J ps := fun i F2 H2 s k => h i F2 H2 s (.of k)
section
variable {X : Cx} {W : WX} {cm : CM}
structure SIS (X : Cx) (W : WX) (cm : CM) (tg iter : Expr) (m : M (List PV)) : Prop where
  ex : ∃ wi, PI X tg iter wi ∧ ∀ {F : FS} {H0 H : Hp} {ev : SL} {σ : St} {R : It → Hp → Prop}, ER X.K F H0 ev σ H → (Wt X.K W cm F H0 ev σ H m fun ps ev' F' H' => ∀ J F2, Aft X.K F H0 ev ev' σ H F2 H' → (∀ a, F' a → F2 a) → ItS X.K F2 H' J ps → R J H') → wi σ H R
def mOwn (i : Nat) : M (List PV) := fun ev => match ev[i]? with
  | some (.own ps) => .ok ps ev
  | _ => .bad
end
@[simp] theorem mOwn_ap {i : Nat} {ev : SL} : mOwn i ev = (match ev[i]? with
  | some (.own ps) => .ok ps ev
  | _ => .bad) := rfl
end Pv
set_option Elab.async false
set_option linter.all false
set_option maxRecDepth 100000
namespace PvN
open Pv PySem PySem.Spec L2
open PyProof.Rows hiding St
def RetN (K : Fr) (H0 H' : Hp) (r : RV) (v : V) : Prop := ∃ F' : FS, (∀ a, F' a → H0 a = none) ∧ (∀ a, F' a → H' a ≠ none) ∧ Same H0 H' ∧ Rep K F' H' v r.1
def Ws (K : Fr) (W : WX) (cm : CM) (F0 F : FS) (H0 : Hp) (D : Ends) (ev : SL) (σ : St) (H : Hp) (m : M Fl) : Prop := match m ev with
  | .ok .nx ev' => ∀ F' σ' H', AS K F0 F H0 H F' ev' σ' H' → D.nx σ' H'
  | .ok .bk ev' => ∀ F' σ' H', AS K F0 F H0 H F' ev' σ' H' → D.bk σ' H'
  | .ok .ct ev' => ∀ F' σ' H', AS K F0 F H0 H F' ev' σ' H' → D.ct σ' H'
  | .ok (.rt r) _ => ∀ v H', RetN K H0 H' r v → D.rt v H'
  | .exc c ev' => ∀ F' σ' H', AS K F0 F H0 H F' ev' σ' H' → W (cm c) none σ' H'
  | .bad => False
theorem Ws.from {K : Fr} {W : WX} {cm : CM} {F0 F F1 : FS} {H0 H H1 : Hp} {D : Ends} {ev ev1 : SL} {σ σ1 : St} {m m1 : M Fl} (a : AS K F0 F H0 H F1 ev1 σ1 H1) (e : m ev = m1 ev1) (h : Ws K W cm F0 F H0 D ev σ H m) : Ws K W cm F0 F1 H0 D ev1 σ1 H1 m1 := by
  unfold Ws at h ⊢
  rw [e] at h
  cases q : m1 ev1 with
  | ok f ev' =>
    cases f with
    | nx => rw [q] at h; exact fun F' σ' H' b => h F' σ' H' (a.trans b)
    | bk => rw [q] at h; exact fun F' σ' H' b => h F' σ' H' (a.trans b)
    | ct => rw [q] at h; exact fun F' σ' H' b => h F' σ' H' (a.trans b)
    | rt r => rw [q] at h; exact h
  | exc c ev' => rw [q] at h; exact fun F' σ' H' b => h F' σ' H' (a.trans b)
  | bad => rw [q] at h; exact h
structure SS (X : Cx) (W : WX) (cm : CM) (st : Stmt) (m : M Fl) : Prop where
  go : ∀ {F0 F : FS} {H0 H : Hp} {ev : SL} {σ : St} {D : Ends}, BS X.K F0 F H0 ev σ H → Ws X.K W cm F0 F H0 D ev σ H m → sS X st D σ H
structure SB (X : Cx) (W : WX) (cm : CM) (st : List Stmt) (m : M Fl) : Prop where
  go : ∀ {F0 F : FS} {H0 H : Hp} {ev : SL} {σ : St} {D : Ends}, BS X.K F0 F H0 ev σ H → Ws X.K W cm F0 F H0 D ev σ H m → sSs X st D σ H
section
variable {X : Cx} {W : WX} {cm : CM}
theorem Ws.expr {K : Fr} {F0 F : FS} {H0 H : Hp} {D : Ends} {ev : SL} {σ : St} {α : Type} {m : M α} {k : α → M Fl} (b : BS K F0 F H0 ev σ H) (h : Ws K W cm F0 F H0 D ev σ H (bnd m k)) :
    Wt K W cm F H0 ev σ H m fun a ev1 F1 H1 => Aft K F H0 ev ev1 σ H F1 H1 ∧ Ws K W cm F0 F1 H0 D ev1 σ H1 (k a) := by
  unfold Ws Pv.bnd at h
  unfold Wt
  cases e : m ev with
  | ok r ev' =>
    simp only [e] at h
    exact fun F' H' a => ⟨a, Ws.from (σ := σ) (m := fun _ => k r ev') (ev := ev) (b.aft a) rfl (by unfold Ws; exact h)⟩
  | exc c ev' => simp only [e] at h; exact fun F' H' a => h F' σ H' (b.aft a)
  | bad => simp only [e] at h
theorem Ws.nx {K : Fr} {F0 F : FS} {H0 H : Hp} {D : Ends} {ev : SL} {σ : St} {m : M Fl} {ev' : SL} {F' : FS} {σ' : St} {H' : Hp} (h : Ws K W cm F0 F H0 D ev σ H m) (e : m ev = .ok .nx ev') (a : AS K F0 F H0 H F' ev' σ' H') : D.nx σ' H' := by
  unfold Ws at h
  rw [e] at h
  exact h F' σ' H' a
theorem Ws.not_bad {K : Fr} {F0 F : FS} {H0 H : Hp} {D : Ends} {ev : SL} {σ : St} {m : M Fl} (h : Ws K W cm F0 F H0 D ev σ H m) : m ev ≠ .bad := fun e => by
  unfold Ws at h
  rw [e] at h
  exact h
theorem b_nil : SB X W cm [] (ret .nx) := ⟨fun {F0 F H0 H ev σ D} b h => sSs_of pss_nil (h.nx rfl b.as)⟩
theorem b_cons {st : Stmt} {rest : List Stmt} {m ms : M Fl} (s : SS X W cm st m) (u : SB X W cm rest ms) : SB X W cm (st :: rest) (sq m ms) := ⟨fun {F0 F H0 H ev σ D} b h => by
  refine sSs_of (pss_cons sS_ps sSs_ps) ?_
  show sS X st { D with nx := sSs X rest D } σ H
  refine s.go b ?_
  unfold Ws at h ⊢
  unfold sq at h
  cases e : m ev with
  | ok f ev' =>
    cases f with
    | nx =>
      simp only [e] at h
      exact fun F' σ' H' a => u.go a.bs (Ws.from (σ := σ) (m := fun _ => ms ev') (ev := ev) a rfl (by unfold Ws; exact h))
    | bk => simp only [e] at h; exact h
    | ct => simp only [e] at h; exact h
    | rt r => simp only [e] at h; exact h
  | exc c ev' => simp only [e] at h; exact h
  | bad => simp only [e] at h⟩
theorem s_if {c : Expr} {a b : List Stmt} {mc : M Bool} {ma mb : M Fl} {pos : Pos} (sc : ST X W cm c mc) (sa : SB X W cm a ma) (sb : SB X W cm b mb) : SS X W cm (.If c a b pos) (mIfS mc ma mb) := ⟨fun {F0 F H0 H ev σ D} b h => by
  refine sS_of (ps_if sT_pt sSs_ps sSs_ps) ?_
  refine sc.go b.er ((h.expr b).mono fun k ev1 F1 H1 a hh => ?_)
  cases k with
  | true => exact iteT (sa.go (b.aft a).bs hh.2)
  | false => exact iteF (sb.go (b.aft a).bs hh.2)⟩
theorem s_for {tg iter : Expr} {body : List Stmt} {mi : M (List PV)} {t : PV → SL → Option SL} {mb : M Fl} {pos : Pos} {js : List Nat} (hp : PassesOwn (model X.prog X.w) X.A X.env X.xe) (hc : X.calm = true) (si : SI X W cm tg iter mi) (sg : SG X W tg t js) (sb : SB X W cm body mb)
    (hs : ∀ x, foldedSetIterable iter X.env x = pure x := by intro _; rfl) : SS X W cm (.For tg iter body [] pos) (bnd mi (loop t mb)) := ⟨fun {F0 F H0 H ev σ D} b h => by
  obtain ⟨wi, hpi, hwi⟩ := si.ex
  refine sS_of (ps_for hp hc hpi sG_pg sSs_ps hs) ?_
  refine hwi b.er ((h.expr b).mono fun ps ev1 F1 H1 a1 hh J F2 a2 f12 it => ?_)
  have hl : Ws X.K W cm F0 F2 H0 D ev1 σ H1 (loop t mb ps) := by
    have h2 := hh.2
    unfold Ws at h2 ⊢
    have up : ∀ {F' ev' σ' H'}, AS X.K F0 F2 H0 H1 F' ev' σ' H' → AS X.K F0 F1 H0 H1 F' ev' σ' H' := fun {F' ev' σ' H'} a => ⟨a.bs, fun x h => a.sub x (f12 x h), ⟨a.keep.tup, a.keep.frz, fun x o f => a.keep.lst x o (f12 x f)⟩⟩
    cases q : loop t mb ps ev1 with
    | ok f ev' =>
      cases f with
      | nx => rw [q] at h2; exact fun F' σ' H' a => h2 F' σ' H' (up a)
      | bk => rw [q] at h2; exact fun F' σ' H' a => h2 F' σ' H' (up a)
      | ct => rw [q] at h2; exact fun F' σ' H' a => h2 F' σ' H' (up a)
      | rt r => rw [q] at h2; exact h2
    | exc c ev' => rw [q] at h2; exact fun F' σ' H' a => h2 F' σ' H' (up a)
    | bad => rw [q] at h2; exact h2
  have b2 := (b.aft a2).bs
  refine ⟨fun i n σ' H' => n = ps.length - i ∧ i ≤ ps.length ∧ ∃ F' ev', BS X.K F0 F' H0 ev' σ' H' ∧ (∀ a, F2 a → F' a) ∧ Keep F2 H1 H' ∧ Ws X.K W cm F0 F' H0 D ev' σ' H' (loop t mb (ps.drop i)), ⟨ps.length, by simp, Nat.zero_le _, F2, ev1, b2, fun _ h => h, .refl, hl⟩, ?_⟩
  rintro i n σ' H' ⟨rfl, hi, F', ev', bs, f2, kp, hw⟩
  by_cases e : i = ps.length
  · refine .inl ⟨(it i F' H' f2 kp).1 e, ?_⟩
    rw [e, List.drop_length] at hw
    exact hw.nx rfl bs.as
  · have hlt : i < ps.length := by omega
    have ed : ps.drop i = ps[i] :: ps.drop (i + 1) := List.drop_eq_getElem_cons hlt
    rw [ed] at hw
    obtain ⟨go, yl⟩ := (it i F' H' f2 kp).2 ps[i] (List.getElem?_eq_getElem hlt)
    have hb := hw.not_bad
    unfold loop at hb
    cases e1 : t ps[i] ev' with
    | none => simp only [e1] at hb; exact absurd rfl hb
    | some ev2 =>
      refine .inr ⟨go, fun σ3 H3 => ∃ F3 ev3, BS X.K F0 F3 H0 ev3 σ3 H3 ∧ (∀ a, F2 a → F3 a) ∧ Keep F2 H1 H3 ∧ Ws X.K W cm F0 F3 H0 D ev3 σ3 H3 (loop t mb (ps.drop (i + 1))), fun σ3 H3 ⟨F3, ev3, x1, x2, x3, x4⟩ => ⟨_, by omega, rfl, hlt, F3, ev3, x1, x2, x3, x4⟩, fun x H4 y => ?_⟩
      obtain ⟨s4, r4⟩ := yl x H4 y
      have b4 : BS X.K F0 F' H0 ev' σ' H4 := ⟨bs.er.later s4, bs.sub, bs.base⟩
      have as4 : AS X.K F0 F' H0 H' F' ev' σ' H4 := ⟨b4, fun _ h => h, .of s4⟩
      intro pins s u I ru
      refine sg.go b4 r4 e1 (fun σ5 a5 _ _ => ?_) pins s u I ru
      -- the body
      have a6 : AS X.K F0 F' H0 H' F' ev2 σ5 H4 := as4.trans a5
      refine sb.go a5.bs ?_
      unfold Ws
      unfold Ws loop at hw
      simp only [e1] at hw
      have next : ∀ {ev7 : SL} {F7 : FS} {σ7 : St} {H7 : Hp}, AS X.K F0 F' H0 H4 F7 ev7 σ7 H7 → Ws X.K W cm F0 F' H0 D ev' σ' H' (fun _ => loop t mb (ps.drop (i + 1)) ev7) →
          ∃ F3 ev3, BS X.K F0 F3 H0 ev3 σ7 H7 ∧ (∀ a, F2 a → F3 a) ∧ Keep F2 H1 H7 ∧ Ws X.K W cm F0 F3 H0 D ev3 σ7 H7 (loop t mb (ps.drop (i + 1))) := fun {ev7 F7 σ7 H7} a7 w7 =>
        ⟨F7, ev7, a7.bs, fun a h => a7.sub a (f2 a h), kp.trans f2 ((as4.keep).trans (fun _ h => h) a7.keep), Ws.from (σ := σ') (m := fun _ => loop t mb (ps.drop (i + 1)) ev7) (ev := ev') (as4.trans a7) rfl w7⟩
      cases q : mb ev2 with
      | ok f ev7 =>
        cases f with
        | nx => simp only [q] at hw; exact fun F7 σ7 H7 a7 => next a7 (by unfold Ws; exact hw)
        | ct => simp only [q] at hw; exact fun F7 σ7 H7 a7 => next a7 (by unfold Ws; exact hw)
        | bk => simp only [q] at hw; exact fun F7 σ7 H7 a7 => hw F7 σ7 H7 (as4.trans a7)
        | rt r => simp only [q] at hw; exact hw
      | exc c ev7 => simp only [q] at hw; exact fun F7 σ7 H7 a7 => hw F7 σ7 H7 (as4.trans a7)
      | bad => simp only [q] at hw⟩
theorem s_setComp {i : Nat} {y : Str} {py : Pos} {elt tg iter : Expr} {ifs : List Expr} {scope : Scope} {own : List (Str × Nat)} {pos spos : Pos} {js : List Nat} {mi : M (List PV)} {t : PV → SL → Option SL} {mt : M Bool} {me : M RV} (hc : X.calm = true) (hNd : X.N.Nodup)
    (hsw : swapsWith (.ListComp elt [⟨tg, iter, ifs, 0⟩] scope pos) (some (.Name y py)) spos.line X.env = pure true) (ok : BlkOk X.N X.env.scope scope own)
    (si : SI X W cm tg iter mi) (hg : Blk X scope fun Y => SG Y W0 tg t js) (ht : Blk X scope fun Y => STs Y W0 cm ifs mt) (he : Blk X scope fun Y => SE Y W0 cm elt me) (hj : ∀ j ∈ js, j ∈ own.map (·.2) := by decide)
    (hy : X.N[i]? = some y := by rfl) (hyl : X.env.scope.names.lookup y = some .local := by rfl)
    (hs : ∀ x, foldedSetIterable iter X.env x = pure x := by intro _; rfl) : SS X W cm (.Assign [.Name y py] (.ListComp elt [⟨tg, iter, ifs, 0⟩] scope pos) spos) (bnd (mComp mi t mt me (own.map (·.2))) (setR i)) := ⟨fun {F0 F H0 H ev σ D} b h => by
  obtain ⟨wi, hpi, hwi⟩ := si.ex
  refine sS_of (ps_setLc (g := cG X scope tg) (tt := cT X scope ifs) (te := cE X scope elt) hc hNd hy hyl hsw hpi ok (fun s H C cl fp => ⟨fun pins s' σ H' v u Q' I ru q => q s H C cl fp pins s' u I ru⟩)
    (fun s H C cl fp => ⟨fun pins s' σ H' Q' I q => sTs_pt.run pins s' σ H' Q' I (q s H C cl fp)⟩)
    (fun s H C cl fp => ⟨fun pins s' σ H' Q' I q => q s H C cl fp pins s' I⟩) hs) ?_
  refine comp_core hg ht he hj hwi b.er ((h.expr b).mono fun r ev1 F1 H1 a hh v rv => ?_)
  obtain ⟨ev', e1⟩ := setR_nx hh.2.not_bad
  exact hh.2.nx e1 ((b.aft a).bs.set b.er.same rv e1)⟩
theorem s_setCompV {N : List Str} {sc : Scope} {vs : List Nat} (own : List (Str × Nat)) {i : Nat} {y : Str} {py : Pos} {elt tg iter : Expr} {ifs : List Expr} {scope : Scope} {pos spos : Pos} {js : List Nat} {mi : M (List PV)} {t : PV → SL → Option SL} {mt : M Bool} {me : M RV} (hc : X.calm = true) (hNd : X.N.Nodup)
    (hsw : swapsWith (.ListComp elt [⟨tg, iter, ifs, 0⟩] scope pos) (some (.Name y py)) spos.line X.env = pure true) (ok : blkC N sc scope own = true)
    (si : SI X W cm tg iter mi) (hg : Blk X scope fun Y => SG Y W0 tg t js) (ht : Blk X scope fun Y => STs Y W0 cm ifs mt) (he : Blk X scope fun Y => SE Y W0 cm elt me) (hj : ∀ j ∈ js, j ∈ own.map (·.2) := by decide) (hvs : own.map (·.2) = vs := by rfl) (eN : X.N = N := by rfl) (eS : X.env.scope = sc := by rfl)
    (hy : X.N[i]? = some y := by rfl) (hyl : X.env.scope.names.lookup y = some .local := by rfl)
    (hs : ∀ x, foldedSetIterable iter X.env x = pure x := by intro _; rfl) : SS X W cm (.Assign [.Name y py] (.ListComp elt [⟨tg, iter, ifs, 0⟩] scope pos) spos) (bnd (mComp mi t mt me vs) (setR i)) := by
  subst hvs eN eS
  exact s_setComp hc hNd hsw (blkOk_by ok) si hg ht he hj hy hyl hs
def spN (K : Fr) (cm : CM) (f : Fn) : Sp := fun vs H Q E => ∃ (F : FS) (ps : List PV), (∀ a, F a → H a ≠ none) ∧ RepL K F H vs ps ∧ match f ps with
  | .ok r => ∀ F' v H', Same H H' → (∀ a, F' a → H a = none) → (∀ a, F' a → H' a ≠ none) → Rep K F' H' v r.1 → Q v H'
  | .exc c => ∀ H', Same H H' → E (cm c) none H'
  | .bad => False
structure CalN (P : Program) (w : World) (K : Fr) (mg : Str → Option Value) (base : Heap) (cm : CM) (k : Nat) (x : Str) (f : Fn) : Prop where
  ex : ∃ (fa : Addr) (fd : FuncData) (ps : List Str), FnOk P w K mg base (L2.CX P w) k fa fd ps (spN K cm f) ∧ mg x = some (.ref fa) ∧ PySem.W.keepIn K (.ref fa) = true ∧ Binds K fd ps []
theorem CalN.mono {P : Program} {w : World} {K : Fr} {mg : Str → Option Value} {base : Heap} {k j : Nat} {x : Str} {f : Fn} (c : CalN P w K mg base cm k x f) (h : k ≤ j) : CalN P w K mg base cm j x f := by
  obtain ⟨fa, fd, ps, a, b⟩ := c.ex
  exact ⟨fa, fd, ps, a.mono h, b⟩
theorem def_fn {P : Program} {w : World} {K : Fr} {mg : Str → Option Value} {base : Heap} {x qual : Str} {st : Stmt} {f : Addr} {fd : FuncData} {N ps : List Str} {k : Nat} {m : M Fl} (F : Fun K x qual st f fd) (S : FnScope N ps (defScope st))
    (body : ∀ (cdv : Value) (A : Around) (outer : List Env) (s : Shared) (H : Hp) (E : XK), Room k (A.deeper (PyProof.Rows.envOfC qual (defScope st) s.heap.objs.size f cdv)) →
      SB (cxOf (L2.CX P w) P w K mg base N qual (defScope st) f cdv A outer s H E) (fun cls d _ H => E cls d H) cm (defBody st) m) (hle : ps.length ≤ N.length) :
    FnOk P w K mg base (L2.CX P w) (k + 1) f fd ps (spN K cm (runF N.length ps.length m)) := by
  refine F.okX S (fun vs H Q E h => ?_) (fun cdv A outer s H vs Q E hr h => ?_)
  · obtain ⟨G, qs, _, r, h⟩ := h
    unfold runF at h
    by_cases c : qs.length = ps.length ∧ ps.length ≤ N.length
    · rw [r.length]
      exact c.1
    · rw [if_neg c] at h; exact h.elim
  · obtain ⟨G, qs, d, r, h⟩ := h
    unfold runF at h
    by_cases c : qs.length = ps.length ∧ ps.length ≤ N.length
    · rw [if_pos c] at h
      refine ⟨_, sSs_ps, ?_⟩
      have er := start_er (N := N) d r (by rw [c.1]; exact c.2)
      refine (body cdv A outer s H E hr).go (F0 := G) ⟨er, fun _ h => h, fun _ h => .inl h⟩ ?_
      unfold runB at h
      unfold Ws
      cases e : m (ev0 N.length qs) with
      | ok fl ev1 =>
        cases fl with
        | nx =>
          simp only [e] at h
          intro F' σ' H' a
          refine h (fun _ => False) .non H' a.bs.er.same (fun _ f => f.elim) (fun _ f => f.elim) ?_
          show Rep K _ H' .non .non
          exact rep_non
        | rt r =>
          simp only [e] at h
          intro v H' ⟨F', h1, h2, h3, h4⟩
          exact h F' v H' h3 h1 h2 h4
        | bk => simp only [e] at h
        | ct => simp only [e] at h
      | exc c ev1 =>
        simp only [e] at h
        intro F' σ' H' a
        exact h H' a.bs.er.same
      | bad => simp only [e] at h
    · rw [if_neg c] at h; exact h.elim
theorem def_ok {P : Program} {w : World} {K : Fr} {mg : Str → Option Value} {base : Heap} {x qual : Str} {st : Stmt} {f : Addr} {fd : FuncData} {N ps : List Str} {k : Nat} {m : M Fl} (F : Fun K x qual st f fd) (S : FnScope N ps (defScope st)) (hg : mg x = some (.ref f)) (hb : Binds K fd ps [])
    (body : ∀ (cdv : Value) (A : Around) (outer : List Env) (s : Shared) (H : Hp) (E : XK), Room k (A.deeper (PyProof.Rows.envOfC qual (defScope st) s.heap.objs.size f cdv)) →
      SB (cxOf (L2.CX P w) P w K mg base N qual (defScope st) f cdv A outer s H E) (fun cls d _ H => E cls d H) cm (defBody st) m) (hle : ps.length ≤ N.length) :
    CalN P w K mg base cm (k + 1) x (runF N.length ps.length m) :=
  ⟨f, fd, ps, def_fn F S body hle, hg, F.kp, hb⟩
end
end PvN
set_option Elab.async false
set_option linter.all false
set_option maxRecDepth 100000
namespace Pv
open PySem PySem.Spec L2
open PyProof.Rows hiding St
def IntLst (h : Heap) (v : Value) (ns : List Int) : Prop := ∃ a xs, v = .ref a ∧ h.IsList a xs ∧ IntsAre xs.toList ns
theorem IntLst.ints {h : Heap} {v : Value} {ns : List Int} (x : IntLst h v ns) : TS.intsOf h v = ns := by
  obtain ⟨a, xs, rfl, ⟨o, ho, hc, n, hd⟩, i⟩ := x
  simp only [TS.intsOf, ho, hd]
  exact i.nums
theorem ints_at : ∀ {xs : List Value} {ns : List Int}, IntsAre xs ns → ∀ (j : Nat) (h : j < xs.length), ∃ t, xs[j] = .int (ns.getD j 0) t
  | _, _, .nil, j, h => absurd h (by simp)
  | _, _, .cons x t r, 0, h => ⟨t, rfl⟩
  | _, _, .cons x t r, j + 1, h => by
    obtain ⟨u, e⟩ := ints_at r j (by simpa using h)
    exact ⟨u, by simpa using e⟩
theorem firstLt_map (e r : Nat → Bool) (fin : Bool) (f : Nat → Nat) : ∀ l : List Nat, SeqAt.firstLt e r fin (l.map f) = SeqAt.firstLt (fun j => e (f j)) (fun j => r (f j)) fin l
  | [] => rfl
  | j :: l => by
    rw [List.map_cons]
    show (if e (f j) = true then SeqAt.firstLt e r fin (l.map f) else r (f j)) = (if e (f j) = true then SeqAt.firstLt (fun j => e (f j)) (fun j => r (f j)) fin l else r (f j))
    rw [firstLt_map e r fin f l]
theorem firstLt_ltL : ∀ ns ms : List Int, SeqAt.firstLt (fun j => decide (ns.getD j 0 = ms.getD j 0)) (fun j => decide (ns.getD j 0 < ms.getD j 0)) (decide (ns.length < ms.length)) (List.range (min ns.length ms.length)) = ltL ns ms
  | [], [] => rfl
  | [], y :: ys => by
    show SeqAt.firstLt _ _ _ (List.range (min 0 _)) = _
    rw [Nat.zero_min]
    rfl
  | x :: xs, [] => by
    show SeqAt.firstLt _ _ _ (List.range (min _ 0)) = _
    rw [Nat.min_zero]
    unfold ltL
    rfl
  | x :: xs, y :: ys => by
    have e : min (x :: xs).length (y :: ys).length = min xs.length ys.length + 1 := by
      simp only [List.length_cons]
      omega
    rw [e, List.range_succ_eq_map]
    show (if decide (x = y) = true then SeqAt.firstLt _ _ _ ((List.range (min xs.length ys.length)).map Nat.succ) else decide (x < y)) = _
    unfold ltL
    by_cases c : x = y
    · rw [if_pos (decide_eq_true c), if_pos c, firstLt_map]
      have := firstLt_ltL xs ys
      rw [← this]
      have e2 : decide ((x :: xs).length < (y :: ys).length) = decide (xs.length < ys.length) := by simp
      rw [e2]
      rfl
    · rw [if_neg (by simp [c]), if_neg c]
section
variable {prog : Program} {w : World} {A : Around} {E : Value → Shared → Prop} {s : Shared}
theorem lst_eqs {xs ys : Array Value} {ns ms : List Int} (h1 : IntsAre xs.toList ns) (h2 : IntsAre ys.toList ms) :
    (∀ j (a : j < xs.size) (b : j < ys.size), SeqAt.EqAt A s xs[j] ys[j] (decide (ns.getD j 0 = ms.getD j 0))) ∧ (∀ j (a : j < xs.size) (b : j < ys.size), decide (ns.getD j 0 = ms.getD j 0) = false → SeqAt.RcLt A s xs[j] ys[j] (decide (ns.getD j 0 < ms.getD j 0))) := by
  have at_ : ∀ (j : Nat) (a : j < xs.size) (b : j < ys.size), ∃ t u, xs[j] = .int (ns.getD j 0) t ∧ ys[j] = .int (ms.getD j 0) u := fun j a b => by
    obtain ⟨t, e1⟩ := ints_at h1 j (by simpa using a)
    obtain ⟨u, e2⟩ := ints_at h2 j (by simpa using b)
    exact ⟨t, u, by simpa using e1, by simpa using e2⟩
  refine ⟨fun j a b => ?_, fun j a b _ => ?_⟩
  · obtain ⟨t, u, e1, e2⟩ := at_ j a b
    rw [e1, e2]
    have := SeqAt.EqAt.int_int (A := A) (s := s) (ns.getD j 0) t (ms.getD j 0) u
    have e : (ns.getD j 0 == ms.getD j 0) = decide (ns.getD j 0 = ms.getD j 0) := rfl
    rw [← e]
    exact this
  · obtain ⟨t, u, e1, e2⟩ := at_ j a b
    rw [e1, e2]
    exact fun prog w E Q h => HT.rcLt_int A s _ t _ u prog w E Q h
theorem rc_lists {a b : Addr} {xs ys : Array Value} {ns ms : List Int} (hu : A.units < cLine) (hl : s.heap.IsList a xs) (hb : s.heap.IsList b ys) (h1 : IntsAre xs.toList ns) (h2 : IntsAre ys.toList ms) : SeqAt.RcLt A s (.ref a) (.ref b) (ltL ns ms) := by
  obtain ⟨e1, e2⟩ := lst_eqs (A := A.in1) (s := s) h1 h2
  have := SeqAt.RcLt.lists hl hb hu e1 e2
  rw [show xs.size = ns.length by rw [← h1.length]; simp, show ys.size = ms.length by rw [← h2.length]; simp, firstLt_ltL] at this
  exact this
theorem oneLt_lists {v u : Value} {ns ms : List Int} {Q : Bool → Shared → Prop} (hu : A.units < cLine) (hv : IntLst s.heap v ns) (hw : IntLst s.heap u ms) (h : Q (ltL ns ms) s) : wpAny (model prog w) A (oneLt' true v u) Q E s := by
  obtain ⟨a, xs, rfl, hl, hi⟩ := hv
  obtain ⟨b, ys, rfl, hb, hj⟩ := hw
  rw [oneLt'_eq]
  simp only [if_true]
  refine wpAny_bind (wpAny_cRoomFor hu ?_)
  have ht : s.TypeIs (.ref a) "list" := by
    obtain ⟨o, ho, hc, _⟩ := hl
    exact ⟨o, ho, hc⟩
  obtain ⟨e1, e2⟩ := lst_eqs (A := A.in1) (s := s) hi hj
  refine wpAny_bind (wpAny_callSpecialIfBound?_slot ht F.slot_list_lt (SeqAt.call_list_lt hl hb e1 e2 ?_))
  rw [show xs.size = ns.length by rw [← hi.length]; simp, show ys.size = ms.length by rw [← hj.length]; simp, firstLt_ltL]
  exact wpAny_truthy_bool h
theorem lists_sortable {a : Addr} {vs : List Value} {k : Value → List Int} (hu : A.units < cLine) (h0 : 2 ≤ vs.length) (hp : ∀ v ∈ vs, IntLst s.heap v (k v) ∧ v ≠ .ref a) : SrtO.SortableO prog w A s a vs fun v u => ltL (k v) (k u) := by
  intro h' keep
  have hp' : ∀ v ∈ vs, IntLst h' v (k v) := fun v hm => by
    obtain ⟨⟨b, xs, rfl, ⟨o, ho, hc⟩, hi⟩, hn⟩ := hp v hm
    exact ⟨b, xs, rfl, ⟨o, keep b o (fun z => hn (by rw [z])) ho, hc⟩, hi⟩
  refine ⟨oneType', fun Q E hq => ?_, fun p q hm hm' => ?_⟩
  · refine PySem.W.kas_kind (T := .type "list") h0 (fun v hm => ?_) (by first | decide +kernel | rfl | decide) (by first | decide +kernel | rfl | decide) hq
    obtain ⟨b, xs, rfl, ⟨o, ho, hc, _⟩, _⟩ := hp' v hm
    rw [← hc]
    exact (PySem.W.Looks.ld ho).andThen .now
  · show wpAny (model prog w) A (keyLt' oneType' p.1 q.1) _ _ _
    rw [keyLt'_oneType]
    exact oneLt_lists hu (hp' _ hm) (hp' _ hm') ⟨rfl, rfl⟩
theorem call_min_two' {a b : Value} {h0 : Heap} {Q : Value → Shared → Prop}
    (h : wpAny (model prog w) A.in1 (pyIter (.ref s.heap.objs.size)) (fun it s₂ => ∃ I fp wr n P St bt, it = .ref I ∧ Walks prog w A.in1 I fp wr n P St ∧ St 0 s₂.heap ∧ (∀ b ∈ fp, b < s₂.heap.objs.size) ∧ 0 < n ∧ MinT.CmpK prog w A.in1 h0 P bt ∧ (∀ c o, h0.get? c = some o → s₂.heap.get? c = some o ∧ c ∉ wr) ∧
      ∀ v h' tk, P (argBest bt (n - 1)) v → (∀ b o, b ∉ wr → s₂.heap.get? b = some o → h'.get? b = some o) → Q v { s₂ with heap := h', toks := tk }) E
      { s with heap := s.heap.push { cls := .type "tuple", data := .seq #[a, b] } }) :
    wpAny (model prog w) A (call (.builtin "min") [a, b]) Q E s := by
  have hname : (toString "min" ++ toString ".loop" : String) = "min.loop" := by decide
  refine call_function_tree F.kind_min F.plain_min F.entry_min (F.args_min2 _ _) ?_
  show wpAny _ A.in1 (Builtin.Builtins.bindParams "min" ["key", "default"] 0 ⟨[], []⟩ >>= _) _ _ s
  refine wpAny_bind (wpAny_of_eq (show Builtin.Builtins.bindParams "min" ["key", "default"] 0 ⟨[], []⟩ = pure [none, none] from rfl) ?_)
  show wpAny _ A.in1 (newTuple [a, b] >>= _) _ _ s
  refine wpAny_bind (wpAny_newObj_type ?_)
  refine wpAny_bind (wpAny_mono h (fun it s₂ h₂ => ?_) fun _ _ e => e)
  obtain ⟨I, fp, wr, n, P, St, bt, rfl, W, hst, hfp, hn, hcmp, hk0, hQ⟩ := h₂
  refine wpAny_bind (wpAny_newObj_type ?_)
  have hSf : s₂.heap.objs.size ∉ fp := fun hm => Nat.lt_irrefl _ (hfp _ hm)
  rw [hname]
  refine wpAny_pure ⟨plainId_quiet F.plain_min_loop _, MinT.min_first (h0 := h0) W hcmp hSf (fun c o e => ⟨(hk0 c o e).2, Nat.ne_of_lt (Heap.lt_size (hk0 c o e).1)⟩) hn (fun c o e => Heap.get?_push_of_some _ (hk0 c o e).1) (W.frame _ _ _ hst fun b _ o e => Heap.get?_push_of_some _ e) (Heap.get?_push_size _ rfl) fun v h' tk hP hk => ?_⟩
  exact hQ v h' tk hP fun b o hbw e => hk b o hbw (Nat.ne_of_lt (Heap.lt_size e)) (Heap.get?_push_of_some _ e)
theorem min_two' {a b : Value} {bt : Nat → Nat → Bool} {Q : Value → Shared → Prop} (hh : A.handled = none) (hcmp : MinT.CmpK prog w A.in1 s.heap (fun i v => #[a, b][i]? = some v) bt)
    (h : ∀ h' tk, (∀ c o, s.heap.get? c = some o → h'.get? c = some o) → Q (if bt 1 0 = true then b else a) { s with heap := h', toks := tk }) :
    wpAny (model prog w) A (call (.builtin "min") [a, b]) Q E s := by
  have hT : (s.heap.push { cls := .type "tuple", data := .seq #[a, b] }).IsTuple s.heap.objs.size #[a, b] := ⟨_, Heap.get?_push_size _ rfl, rfl, 0, rfl⟩
  refine call_min_two' (h0 := s.heap) (wpAny_pyIter_tuple hT ?_)
  have hsz : (s.heap.push { cls := .type "tuple", data := .seq #[a, b] }).objs.size = s.heap.objs.size + 1 := Heap.size_push ..
  have hnw : ∀ c o, s.heap.get? c = some o → c ∉ [(s.heap.push { cls := .type "tuple", data := .seq #[a, b] }).objs.size] := fun c o e hm => by
    rcases List.mem_cons.mp hm with e1 | hm
    · have := Heap.lt_size e; rw [e1, hsz] at this; exact Nat.lt_irrefl _ (Nat.lt_of_succ_lt this)
    · cases hm
  refine ⟨_, [_, s.heap.objs.size], [_], _, _, _, bt, rfl, Walks.tuple (A := A.in1) hh _ s.heap.objs.size (by rw [hsz]; exact Nat.ne_of_lt (Nat.lt_succ_self _)) #[a, b],
    ⟨⟨_, Heap.get?_push_size _ rfl, rfl, rfl⟩, hT.push _⟩, fun c hc => ?_, by simp, hcmp, fun c o e => ⟨Heap.get?_push_of_some _ (Heap.get?_push_of_some _ e), hnw c o e⟩, fun v h' tk hP hk => ?_⟩
  · show c < ((s.heap.push _).push _).objs.size
    rw [Heap.size_push, hsz]
    rcases List.mem_cons.mp hc with rfl | hc
    · rw [hsz]; exact Nat.lt_succ_self _
    · rcases List.mem_cons.mp hc with rfl | hc
      · exact Nat.lt_succ_of_lt (Nat.lt_succ_self _)
      · cases hc
  · have hold : ∀ c o, s.heap.get? c = some o → h'.get? c = some o := fun c o e => hk c o (hnw c o e) (Heap.get?_push_of_some _ (Heap.get?_push_of_some _ e))
    have := h h' tk hold
    have hP' : #[a, b][argBest bt 1]? = some v := hP
    have hv : v = if bt 1 0 = true then b else a := by
      unfold argBest argBest at hP'
      cases c : bt 1 0 with
      | true => rw [c] at hP'; simpa using hP'.symm
      | false => rw [c] at hP'; simpa using hP'.symm
    rw [hv]
    exact this
end
def listsP : List PV → Option (List (List Int))
  | [] => some []
  | .lst ps :: r => match intsP ps with
    | some ns => (listsP r).map (ns :: ·)
    | none => none
  | _ :: _ => none
def lstP (l : List Int) : PV := .lst (l.map .int)
theorem listsP_eq : ∀ {ps : List PV} {L : List (List Int)}, listsP ps = some L → ps = L.map lstP
  | [], L, h => by cases h; rfl
  | p :: r, L, h => by
    unfold listsP at h
    split at h
    · rename_i e; cases e
    · rename_i qs r' e
      cases e
      split at h
      · rename_i ns hi
        cases q : listsP r with
        | none => rw [q] at h; cases h
        | some M =>
          rw [q] at h
          cases h
          rw [List.map_cons, ← listsP_eq q, intsP_eq hi]
          rfl
      · cases h
    · cases h
theorem listsP_map : ∀ (L : List (List Int)), listsP (L.map lstP) = some L
  | [] => rfl
  | l :: L => by
    rw [List.map_cons]
    show (match intsP (l.map .int) with
      | some ns => (listsP (L.map lstP)).map (ns :: ·)
      | none => none) = _
    rw [intsP_map, listsP_map L]
    rfl
def gSortL : List PV → Option RV
  | [.lst ps] => (listsP ps).map fun L => (.lst ((sortL L).map lstP), true)
  | _ => none
def gMinL : List PV → Option RV
  | [.lst p, .lst q] => match intsP p, intsP q with
    | some ns, some ms => some (if ltL ms ns = true then .lst q else .lst p, false)
    | _, _ => none
  | _ => none
theorem gMinL_ok (ns ms : List Int) : gMinL [lstP ns, lstP ms] = some (if ltL ms ns = true then lstP ms else lstP ns, false) := by
  show (match intsP (ns.map .int), intsP (ms.map .int) with
    | some ns', some ms' => some (if ltL ms' ns' = true then PV.lst (ms.map .int) else .lst (ns.map .int), false)
    | _, _ => none) = _
  rw [intsP_map, intsP_map]
  rfl
theorem gSortL_ok (L : List (List Int)) : gSortL [.lst (L.map lstP)] = some (.lst ((sortL L).map lstP), true) := by
  show (listsP (L.map lstP)).map _ = _
  rw [listsP_map]
  rfl
theorem zip_lsts {K : Fr} {F : FS} {H : Hp} : ∀ {xs : List V} {us : List Value} {L : List (List Int)}, Vals xs us → RepL K F H xs (L.map lstP) → ∃ Z : List (V × Value × List Int), Z.map (·.1) = xs ∧ Z.map (·.2.1) = us ∧ Z.map (·.2.2) = L ∧ ∀ z ∈ Z, RelV z.1 z.2.1 ∧ Rep K F H z.1 (lstP z.2.2)
  | xs, us, [], rv, rl => by
    have e := RepL.nil_inv rl
    subst e
    cases rv
    exact ⟨[], rfl, rfl, rfl, fun z hz => by cases hz⟩
  | xs, us, l :: L, rv, rl => by
    rw [List.map_cons] at rl
    unfold RepL at rl
    obtain ⟨x, r, rfl, h1, h2⟩ := rl
    cases rv with
    | cons a b =>
      obtain ⟨Z, z1, z2, z3, z4⟩ := zip_lsts b h2
      refine ⟨(x, _, l) :: Z, by rw [List.map_cons, z1], by rw [List.map_cons, z2], by rw [List.map_cons, z3], fun z hz => ?_⟩
      rcases List.mem_cons.mp hz with rfl | hz
      · exact ⟨a, h1⟩
      · exact z4 z hz
theorem rep_ofL {K : Fr} {F : FS} {H : Hp} {Z : List (V × Value × List Int)} (h : ∀ z ∈ Z, Rep K F H z.1 (lstP z.2.2)) : RepL K F H (Z.map (·.1)) ((Z.map (·.2.2)).map lstP) := by
  induction Z with
  | nil => exact RepL.nil
  | cons z Z ih => exact RepL.cons (h z (by simp)) (ih fun y hy => h y (by simp [hy]))
section
variable {X : Cx}
theorem lst_raw {pins} {s : Shared} {σ} {H : Hp} {F : FS} (I : Inv X pins σ H s) {v : V} {u : Value} {ns : List Int} (hr : RelV v u) (h : Rep X.K F H v (lstP ns)) : IntLst s.heap u ns := by
  have h' : Rep X.K F H v (.lst (ns.map .int)) := h
  unfold Rep at h'
  obtain ⟨a, xs, e1, hx, e3⟩ := h'
  obtain ⟨its, rv, hl, _⟩ := I.list (SqL.of hx.2)
  rw [e1] at hr
  have e4 : u = Value.ref a := hr
  rw [RepL.ints e3] at rv
  exact ⟨a, its.toArray, e4, hl.isList, by simpa using intsAre_of rv⟩
theorem cr_sortLists (hu : X.A.units + 64 < cLine) : CallR X (.builtin "sorted") (fun vs H Q => ∃ (a : Addr) (xs : List V) (L : List (List Int)) (F : FS), vs = [V.ref a] ∧ SqL X.K H a xs ∧ RepL X.K F H xs (L.map lstP) ∧ ∀ (ys : List V) (p : Addr), RepL X.K F H ys ((sortL L).map lstP) → H p = none → Q (.ref p) (upd H p (.lst ys))) := by
  intro pins s σ H vs us Q I r h
  obtain ⟨a, xs, L, F, rfl, hs, rl, q⟩ := h
  obtain ⟨its, rv, hl, hz⟩ := I.list hs
  obtain rfl := Vals.ref1 r
  obtain ⟨Z, z1, z2, z3, z4⟩ := zip_lsts rv rl
  have hz2 : its.length ≤ sizeLine := by rw [← rv.length]; exact hz
  have tz : ∀ z ∈ Z, IntLst s.heap z.2.1 z.2.2 := fun z hz => lst_raw I (z4 z hz).1 (z4 z hz).2
  have hk : ∀ z ∈ Z, TS.intsOf s.heap z.2.1 = z.2.2 := fun z hz => (tz z hz).ints
  have hu2 : X.A.in1.in1.units < cLine := Nat.lt_of_le_of_lt (Nat.add_le_add_left (by decide : 2 ≤ 64) _) hu
  refine SrtO.sorted_ord (swo_ltL (TS.intsOf s.heap)) hl.isList hz2 (fun h2 h₁ b hb kk => ?_) fun out hs' hb => ?_
  · refine lists_sortable (s := { s with heap := h₁ }) hu2 h2 (fun v hv => ?_)
    rw [← z2] at hv
    obtain ⟨z, hz, rfl⟩ := List.mem_map.mp hv
    rw [hk z hz]
    obtain ⟨c, xs', e1, ⟨o, ho, hc⟩, hi⟩ := tz z hz
    refine ⟨⟨c, xs', e1, ⟨o, (kk c o ho).2, hc⟩, hi⟩, fun e => ?_⟩
    rw [e1] at e
    exact (kk c o ho).1 (Value.ref.inj e)
  · obtain ⟨Z', q1, q2⟩ := perm_lift hb.perm Z z2.symm
    have z4' : ∀ z ∈ Z', RelV z.1 z.2.1 ∧ Rep X.K F H z.1 (lstP z.2.2) := fun z hz => z4 z (q1.mem_iff.mp hz)
    have es : Z'.map (·.2.2) = sortL L := by
      refine sortL_uniq ?_ ?_ (sortL_sorted L)
      · refine (q1.map _).trans ?_
        rw [z3]
        exact (sortL_perm L).symm
      · have hs2 : out.Pairwise fun x y => ltL (TS.intsOf s.heap y) (TS.intsOf s.heap x) = false := hs'
        rw [q2, List.pairwise_map] at hs2
        rw [List.pairwise_map]
        refine hs2.imp_of_mem fun {x y} hx hy h => ?_
        rw [hk x (q1.mem_iff.mp hx), hk y (q1.mem_iff.mp hy)] at h
        exact h
    have hr := rep_ofL (fun z hz => (z4' z hz).2)
    rw [es] at hr
    obtain ⟨ep, he'⟩ := PyProof.Rows.sortedAll_at s.heap its out.toArray
    have hlen : (Z'.map (·.1)).length ≤ sizeLine := by
      rw [List.length_map, q1.length_eq, ← List.length_map (f := (·.2.1)), z2]
      exact hz2
    refine ⟨.ref _, upd H (s.heap.objs.size + 1) (.lst (Z'.map (·.1))), I.laid (t' := s.toks) (fun _ _ => PyProof.Rows.sortedAll_old) (Nat.le_succ _) ⟨hlen, out, ep, ?_, he'⟩, rfl, q _ _ hr (I.hok.fresh (Nat.le_succ _))⟩
    rw [q2]
    exact vals_of fun z hz => (z4' z hz).1
theorem c_sortL (hu : X.A.units + 64 < cLine) : CallOk X (.builtin "sorted") gSortL := fun F H0 H ev σ vs ps r Q er rs e hq => by
  unfold gSortL at e
  split at e
  · rename_i qs
    obtain ⟨v, rfl, rv⟩ := rs.one
    obtain ⟨L, hi, rfl⟩ := Option.map_eq_some_iff.mp e
    obtain ⟨a, xs, rfl, hx, rl⟩ := rv
    rw [listsP_eq hi] at rl
    refine sCl_of (cr_sortLists hu) ⟨a, xs, L, F, rfl, SqL.of hx, rl, fun ys p hr hp => ?_⟩
    exact hq F _ _ (er.fresh hp) (er.newL (Same.refl _) hp hr)
  · cases e
theorem cr_minL (hc : X.calm = true) (hu : X.A.units + 64 < cLine) : CallR X (.builtin "min") (fun vs H Q => ∃ (v w : V) (ns ms : List Int) (F : FS), vs = [v, w] ∧ Rep X.K F H v (lstP ns) ∧ Rep X.K F H w (lstP ms) ∧ Q (if ltL ms ns = true then w else v) H) := by
  intro pins s σ H vs us Q I r h
  obtain ⟨v, w, ns, ms, F, rfl, r1, r2, q⟩ := h
  cases r with
  | cons a1 r =>
    cases r with
    | cons a2 r =>
      cases r
      rename_i u1 u2
      have hu1 : X.A.in1.units < cLine := Nat.lt_of_le_of_lt (Nat.add_le_add_left (by decide : 1 ≤ 64) _) hu
      refine min_two' (bt := fun i j => ltL (if i = 0 then ns else ms) (if j = 0 then ns else ms)) (I.ok.hd hc) (fun i j vi vj s' Q' E' hk hi hj hQ => ?_) fun h' tk hk => ⟨if ltL ms ns = true then w else v, H, I.kept hk, ?_, q⟩
      · have at_ : ∀ (i : Nat) (vi : Value), #[u1, u2][i]? = some vi → IntLst s'.heap vi (if i = 0 then ns else ms) := fun i vi hi => by
          have kp : ∀ {x : Value} {l : List Int}, IntLst s.heap x l → IntLst s'.heap x l := fun ⟨c, xs, e, ⟨o, ho, hc⟩, hi⟩ => ⟨c, xs, e, ⟨o, hk _ _ ho, hc⟩, hi⟩
          match i, hi with
          | 0, hi =>
            have e : u1 = vi := by simpa using hi
            rw [← e]
            exact kp (lst_raw I a1 r1)
          | 1, hi =>
            have e : u2 = vi := by simpa using hi
            rw [← e]
            exact kp (lst_raw I a2 r2)
          | i + 2, hi => simp at hi
        obtain ⟨a, xs, rfl, hl, hi'⟩ := at_ i vi hi
        obtain ⟨b, ys, rfl, hb, hj'⟩ := at_ j vj hj
        exact rc_lists hu1 hl hb hi' hj' _ _ _ _ hQ
      · show RelV (if ltL ms ns = true then w else v) (if ltL ms ns = true then u2 else u1)
        cases ltL ms ns with
        | true => exact a2
        | false => exact a1
def CallOkF (X : Cx) (f : Value) (g : List PV → Option RV) : Prop := ∀ (F : FS) (H0 H : Hp) (ev : SL) (σ : St) (vs : List V) (ps : List PV) (r : RV) (Q : VK), ER X.K F H0 ev σ H → RepL X.K F H vs ps → g ps = some r →
  (∀ F' v H', Aft X.K F H0 ev ev σ H F' H' → ResR X.K F' H0 ev σ H H' r v → Q v H') → sCl X f vs H Q
variable {W : WX} {cm : CM}
theorem callF2 {f : Value} {g : List PV → Option RV} (ho : CallOkF X f g) {es : List Expr} {ma : M (List PV)} (ha : SA X W cm es ma) {F : FS} {H0 H : Hp} {ev : SL} {σ : St} {Q : VK} (r : ER X.K F H0 ev σ H)
    (h : Wt X.K W cm F H0 ev σ H (eCall g ma) fun r ev' F' H' => ∀ v, ResR X.K F' H0 ev' σ H H' r v → Q v H') : tCB (sCl X f) (sA X es) σ H Q := by
  refine ha.go r ?_
  unfold Wt at h ⊢
  unfold eCall bnd at h
  cases e1 : ma ev with
  | bad => simp only [e1] at h
  | exc c ev1 => simp only [e1] at h; exact h
  | ok qs ev1 =>
    simp only [e1] at h
    intro F1 H1 _ F2 vs a2 rs
    cases e2 : g qs with
    | none => rw [e2] at h; exact h.elim
    | some z =>
      rw [e2] at h
      exact ho F2 H0 H1 ev1 σ vs qs z Q a2.er rs e2 fun F' v H' a3 rr => h F' H' (a2.trans a3) v (rr.later a2.same)
theorem e_callBF {id : String} {x : Str} {p pos : Pos} {e : Expr} {es : List Expr} {g : List PV → Option RV} {ma : M (List PV)} (hc : CallOkF X (.builtin id) g) (hm : X.mg x = none) (hv : bootBuiltins x = some (.builtin id)) (ha : SA X W cm (e :: es) ma) (hg : Gl X x := by rfl) (hn : x ≠ "__name__" := by decide) (hdb : (x == ("__debug__" : Str)) = false := by decide)
    (he : starEach (e :: es) X.env = (false, eval e X.env) :: starEach es X.env := by rfl) (hpl : (backTo pos (starEach es X.env)).any (·.1) = false := by rfl) : SE X W cm (.Call (.Name x p) (e :: es) [] pos) (eCall g ma) := .mk' fun F H0 H ev σ Q r h =>
  sE_of (pe_callB sCl_ok hg hm hv sA_pa hn hdb he hpl) (callF2 hc ha r h)
theorem c_minL (hc : X.calm = true) (hu : X.A.units + 64 < cLine) : CallOkF X (.builtin "min") gMinL := fun F H0 H ev σ vs ps r Q er rs e hq => by
  unfold gMinL at e
  split at e
  · rename_i p q
    split at e
    · rename_i ns ms h1 h2
      cases e
      unfold RepL at rs
      obtain ⟨v, r, rfl, rv, rs⟩ := rs
      unfold RepL at rs
      obtain ⟨w, r, rfl, rw', rs⟩ := rs
      unfold RepL at rs
      subst rs
      have e1 := intsP_eq h1
      have e2 := intsP_eq h2
      refine sCl_of (cr_minL hc hu) ⟨v, w, ns, ms, F, rfl, by rw [e1] at rv; exact rv, by rw [e2] at rw'; exact rw', ?_⟩
      cases c : ltL ms ns with
      | true => rw [c] at hq; exact hq F _ H er.aft rw'
      | false => rw [c] at hq; exact hq F _ H er.aft rv
    · cases e
  · cases e
end
end Pv
set_option Elab.async false
set_option linter.all false
set_option maxRecDepth 100000
namespace Pv
open PySem PySem.Spec L2
open PyProof.Rows hiding St
section
variable {α : Type}
def gD : List Int → List α → Int → Option α
  | k :: ks, x :: xs, z => if k = z then some x else gD ks xs z
  | _, _, _ => none
def kD (ks : List Int) (z : Int) : List Int := if z ∈ ks then ks else ks ++ [z]
def rD : List Int → List α → Int → α → List α
  | k :: ks, x :: xs, z, y => (if k = z then y else x) :: rD ks xs z y
  | _, xs, _, _ => xs
def vD (ks : List Int) (xs : List α) (z : Int) (y : α) : List α := if z ∈ ks then rD ks xs z y else xs ++ [y]
theorem rD_len : ∀ (ks : List Int) (xs : List α) (z : Int) (y : α), (rD ks xs z y).length = xs.length
  | [], xs, _, _ => by unfold rD; rfl
  | k :: ks, [], _, _ => by unfold rD; rfl
  | k :: ks, x :: xs, z, y => by unfold rD; rw [List.length_cons, List.length_cons, rD_len]
theorem vD_len {ks : List Int} {xs : List α} (h : ks.length = xs.length) (z : Int) (y : α) : (kD ks z).length = (vD ks xs z y).length := by
  unfold kD vD
  by_cases c : z ∈ ks
  · rw [if_pos c, if_pos c, rD_len]; exact h
  · rw [if_neg c, if_neg c, List.length_append, List.length_append, h]; rfl
theorem gD_some : ∀ {ks : List Int} {xs : List α} {z : Int}, ks.length = xs.length → ((gD ks xs z).isSome = true ↔ z ∈ ks)
  | [], xs, z, _ => by unfold gD; simp
  | k :: ks, [], z, h => by cases h
  | k :: ks, x :: xs, z, h => by
    unfold gD
    by_cases c : k = z
    · rw [if_pos c]; simp [c]
    · rw [if_neg c, gD_some (by simpa using h), List.mem_cons]
      exact ⟨.inr, fun w => w.resolve_left (fun q => c q.symm)⟩
end
theorem valV_kvO : ∀ {ks : List Int} {xs : List V} (z : Int), valV (kvO ks xs) (.inl z) = gD ks xs z
  | [], xs, z => by unfold gD; rfl
  | k :: ks, [], z => by unfold gD; rfl
  | k :: ks, x :: xs, z => by
    have ih := valV_kvO (ks := ks) (xs := xs) z
    have e : kvO (k :: ks) (x :: xs) = (.inl k, x) :: kvO ks xs := rfl
    rw [e]
    unfold gD
    by_cases c : k = z
    · rw [if_pos c]
      exact valV_pos (p := ((Sum.inl k : Key), x)) (by rw [c])
    · rw [if_neg c, ← ih]
      exact valV_neg (p := ((Sum.inl k : Key), x)) (fun q => c (Sum.inl.inj q))
theorem kvO_len {ks : List Int} {xs : List V} (h : ks.length = xs.length) : (kvO ks xs).length = ks.length := by
  unfold kvO
  rw [List.length_zip, List.length_map, h]
  exact Nat.min_self _
theorem kvO_map (z : Int) (y : V) : ∀ (ks : List Int) (xs : List V), (kvO ks xs).map (fun kv => if kv.1 = (Sum.inl z : Key) then (kv.1, y) else kv) = kvO ks (rD ks xs z y)
  | [], xs => rfl
  | k :: ks, [] => rfl
  | k :: ks, x :: xs => by
    have ih := kvO_map z y ks xs
    have e : kvO (k :: ks) (x :: xs) = (.inl k, x) :: kvO ks xs := rfl
    rw [e, List.map_cons, ih]
    have e2 : kvO (k :: ks) (rD (k :: ks) (x :: xs) z y) = (.inl k, if k = z then y else x) :: kvO ks (rD ks xs z y) := rfl
    rw [e2]
    by_cases c : k = z
    · rw [if_pos c, if_pos (by rw [c])]
    · rw [if_neg c, if_neg (fun q => c (Sum.inl.inj q))]
theorem putK_kvO {ks : List Int} {xs : List V} (h : ks.length = xs.length) (z : Int) (y : V) : putK (kvO ks xs) (.inl z) y = kvO (kD ks z) (vD ks xs z y) := by
  unfold putK kD vD
  rw [valV_any, valV_kvO]
  by_cases c : z ∈ ks
  · rw [if_pos ((gD_some h).mpr c), if_pos c, if_pos c, kvO_map]
  · rw [if_neg (fun q => c ((gD_some h).mp q)), if_neg c, if_neg c]
    unfold kvO
    rw [List.map_append, List.zip_append (by rw [List.length_map]; exact h)]
    rfl
section
variable {K : Fr} {F : FS} {H : Hp}
theorem RepL.gD : ∀ {xs : List V} {ps : List PV} {ks : List Int} {z : Int} {p : PV}, RepL K F H xs ps → Pv.gD ks ps z = some p → ∃ v, Pv.gD ks xs z = some v ∧ Rep K F H v p
  | xs, [], ks, z, p, h, e => by cases ks <;> (unfold Pv.gD at e; cases e)
  | xs, q :: ps, [], z, p, h, e => by unfold Pv.gD at e; cases e
  | xs, q :: ps, k :: ks, z, p, h, e => by
    unfold RepL at h
    obtain ⟨x, r, rfl, h1, h2⟩ := h
    unfold Pv.gD at e ⊢
    by_cases c : k = z
    · rw [if_pos c] at e ⊢
      cases e
      exact ⟨x, rfl, h1⟩
    · rw [if_neg c] at e ⊢
      exact RepL.gD h2 e
theorem RepL.rD {v : V} {p : PV} (hv : Rep K F H v p) {z : Int} : ∀ {xs : List V} {ps : List PV} {ks : List Int}, RepL K F H xs ps → RepL K F H (Pv.rD ks xs z v) (Pv.rD ks ps z p)
  | xs, [], ks, h => by
    rw [h.nil_inv]
    cases ks <;> (unfold Pv.rD; exact RepL.nil)
  | xs, q :: ps, [], h => by unfold Pv.rD; exact h
  | xs, q :: ps, k :: ks, h => by
    unfold RepL at h
    obtain ⟨x, r, rfl, h1, h2⟩ := h
    unfold Pv.rD
    by_cases c : k = z
    · rw [if_pos c, if_pos c]; exact RepL.cons hv (RepL.rD hv h2)
    · rw [if_neg c, if_neg c]; exact RepL.cons h1 (RepL.rD hv h2)
theorem RepL.vD {v : V} {p : PV} (hv : Rep K F H v p) {z : Int} {xs : List V} {ps : List PV} {ks : List Int} (h : RepL K F H xs ps) : RepL K F H (Pv.vD ks xs z v) (Pv.vD ks ps z p) := by
  unfold Pv.vD
  by_cases c : z ∈ ks
  · rw [if_pos c, if_pos c]; exact RepL.rD hv h
  · rw [if_neg c, if_neg c]; exact RepL.append h (RepL.cons hv RepL.nil)
end
theorem ER.sideD {K : Fr} {F : FS} {H0 H : Hp} {ev : SL} {σ : St} {D : Addr} {o0 ob : HO} (r : ER K F H0 ev σ H) (nf : ¬ F D) (h0 : H0 D = none) (no : ¬ Ow ev σ D) (hy : H D = some o0) (n1 : ∀ zs, o0 ≠ .tup zs) (n2 : ∀ o u, o0 ≠ .frz o u) : ER K F H0 ev σ (upd H D ob) ∧ Keep F H (upd H D ob) := by
  have kp : Keep F H (upd H D ob) := ⟨fun b zs h => by
      rw [upd_ne (fun z => by rw [z, hy] at h; exact n1 zs (Option.some.inj h))]; exact h, fun b o u h => by
      rw [upd_ne (fun z => by rw [z, hy] at h; exact n2 o u (Option.some.inj h))]; exact h, fun b o f h => by
      rw [upd_ne (fun z => by rw [z] at f; exact nf f)]; exact h⟩
  refine ⟨⟨r.len, fun i sl e => ?_, r.inj, fun b f z => ?_, fun b o h => ?_⟩, kp⟩
  · obtain ⟨o, e1, q⟩ := r.slot i sl e
    refine ⟨o, e1, ?_⟩
    cases sl with
    | no => trivial
    | val p =>
      obtain ⟨v, e2, q⟩ := q
      exact ⟨v, e2, Rep.mono kp (fun _ h => h) p q⟩
    | own ps =>
      obtain ⟨a, zs, e2, e3, q, nf', e4⟩ := q
      refine ⟨a, zs, e2, ?_, RepL.mono kp (fun _ h => h) ps q, nf', e4⟩
      rw [upd_ne (fun w => by
        subst w
        exact no ⟨i, _, ⟨e, rfl⟩, by rw [e1, e2]⟩)]
      exact e3
    | dow ks ps =>
      obtain ⟨a, zs, e2, e3, q, nf', e4⟩ := q
      refine ⟨a, zs, e2, ?_, RepL.mono kp (fun _ h => h) ps q, nf', e4⟩
      rw [upd_ne (fun w => by
        subst w
        exact no ⟨i, _, ⟨e, rfl⟩, by rw [e1, e2]⟩)]
      exact e3
  · by_cases w : b = D
    · subst w; exact nf f
    · rw [upd_ne w] at z
      exact r.dom b f z
  · have w : b ≠ D := fun w => by
      rw [w, h0] at h; cases h
    rw [upd_ne w]
    exact r.same b o h
def mGetD (i : Nat) (mk : M PV) : M RV := fun ev => match ev[i]? with
  | some (.dow _ _) => bnd mk (fun k ev1 => match ev1[i]?, k with
    | some (.dow ks ps), .int z => (match gD ks ps z with
      | some p => .ok (p, false) ev1
      | none => .bad)
    | _, _ => .bad) ev
  | _ => .bad
def mPutD (i : Nat) (mk : M PV) (p : PV) : M Fl := fun ev => match ev[i]? with
  | some (.dow _ _) => bnd mk (fun k ev2 => match ev2[i]?, k with
    | some (.dow ks ps), .int z => if ks.length < SZ then .ok .nx (ev2.set i (.dow (kD ks z) (vD ks ps z p))) else .bad
    | _, _ => .bad) ev
  | _ => .bad
def mNewD (i : Nat) (k : PV) (p : PV) : M Fl := fun ev => match k with
  | .int z => if i < ev.length then .ok .nx (ev.set i (.dow [z] [p])) else .bad
  | _ => .bad
section
variable {X : Cx} {W : WX} {cm : CM}
theorem units1 (hu : X.A.units + 64 < cLine) : X.A.units + 1 < cLine := Nat.lt_of_le_of_lt (Nat.add_le_add_left (by decide) _) hu
theorem dow_of {K : Fr} {F F' : FS} {H0 H H' : Hp} {ev ev' : SL} {σ : St} {i : Nat} {ks : List Int} {ps : List PV} {a : Addr} (h : Aft K F H0 ev ev' σ H F' H') (e : ev'[i]? = some (.dow ks ps)) (s : σ[i]? = some (some (.ref a))) : ∃ xs, H' a = some (.dK (kvO ks xs)) ∧ ks.length = xs.length ∧ RepL K F' H' xs ps := by
  obtain ⟨o, e1, c, xs, e2, e3, q, _⟩ := h.er.slot i _ e
  rw [s] at e1; cases e1; cases e2
  exact ⟨xs, e3.1, e3.2, q⟩
theorem e_getD {i : Nat} {x : Str} {k : Expr} {mk : M PV} {p pos : Pos} (hu : X.A.units + 64 < cLine) (s : Pv.SP X W cm k mk) (hi : X.N[i]? = some x := by rfl) (hv : Vis X.env.scope x := by first | exact Or.inl rfl | exact Or.inr (Or.inl rfl) | exact Or.inr (Or.inr rfl))
    (hd : (x == ("__debug__" : Str)) = false := by decide) (hcd : (x == ("__classdict__" : Str)) = false := by decide) (hs : NoSl k := by exact fun _ _ => rfl) : SE X W cm (.Subscript (.Name x p) k pos) (mGetD i mk) := .mk' fun F H0 H ev σ Q r h => by
  refine sE_of (pe_dget (units1 hu) (pe_var hi hv hd hcd) sE_pe hs) ?_
  unfold Wt mGetD at h
  cases e0 : ev[i]? with
  | none => simp only [e0] at h
  | some sl =>
    cases sl with
    | no => simp only [e0] at h
    | val q => simp only [e0] at h
    | own q => simp only [e0] at h
    | dow ks0 ps0 =>
      simp only [e0] at h
      obtain ⟨o, e1, a, xs0, rfl, _⟩ := r.slot i _ e0
      refine ⟨_, e1, ?_⟩
      refine s.go r ?_
      unfold Wt
      unfold Pv.bnd at h
      cases em : mk ev with
      | bad => simp only [em] at h
      | exc c ev1 => simp only [em] at h; exact h
      | ok y ev1 =>
        simp only [em] at h
        intro F1 H1 a1 v rv
        cases e5 : ev1[i]? with
        | none => simp only [e5] at h
        | some sl =>
          cases sl with
          | no => simp only [e5] at h
          | val q => simp only [e5] at h
          | own q => simp only [e5] at h
          | dow ks ps =>
            cases y with
            | int z =>
              simp only [e5] at h
              cases eg : gD ks ps z with
              | none => simp only [eg] at h
              | some p =>
                simp only [eg] at h
                obtain ⟨xs, hx, hl, rx⟩ := dow_of a1 e5 e1
                obtain ⟨w, ew, rw'⟩ := rx.gD eg
                have ev' : v = .int z := rv
                subst ev'
                refine ⟨a, w, rfl, ?_, h F1 H1 a1 w rw'⟩
                have := DGet.k (k := .inl z) hx
                rw [valV_kvO, ew] at this
                exact this
            | _ => simp only [e5] at h
theorem s_putD {i : Nat} {x : Str} {ix e : Expr} {mi : M PV} {m : M RV} {p tpos pos : Pos} (hu : X.A.units + 64 < cLine) (si : Pv.SP X W cm ix mi) (s : SE X W cm e m) (hi : X.N[i]? = some x := by rfl) (hv : Vis X.env.scope x := by first | exact Or.inl rfl | exact Or.inr (Or.inl rfl) | exact Or.inr (Or.inr rfl)) (hd : (x == ("__debug__" : Str)) = false := by decide) (hcd : (x == ("__classdict__" : Str)) = false := by decide)
    (hs : swapsWith e (some (.Subscript (.Name x p) ix tpos)) pos.line X.env = pure false := by rfl) :
    SS X W cm (.Assign [.Subscript (.Name x p) ix tpos] e pos) (bnd m fun r => mPutD i mi r.1) := ⟨fun {F0 F H0 H ev σ D} b h => by
  refine sS_of (ps_dput (units1 hu) (pe_var hi hv hd hcd) sE_pe sE_pe hs) ?_
  refine s.go b.er ((h.expr b).mono fun r ev1 F1 H1 a hh v rv => ?_)
  obtain ⟨F2, a2, r2, f12⟩ := rv.share a
  have h2 := hh.2
  have as0 : AS X.K F0 F1 H0 H1 F2 ev1 σ H1 := ⟨(b.aft a2).bs, f12, .refl⟩
  have h3 := h2.not_bad
  cases e0 : ev1[i]? with
  | none => unfold mPutD at h3; rw [e0] at h3; exact absurd rfl h3
  | some sl =>
    cases sl with
    | no => unfold mPutD at h3; rw [e0] at h3; exact absurd rfl h3
    | val q => unfold mPutD at h3; rw [e0] at h3; exact absurd rfl h3
    | own q => unfold mPutD at h3; rw [e0] at h3; exact absurd rfl h3
    | dow ks0 ps0 =>
      obtain ⟨o, e1, c, xs0, rfl, _⟩ := a2.er.slot i _ e0
      refine ⟨_, e1, ?_⟩
      refine si.go a2.er ?_
      unfold Ws mPutD Pv.bnd at h2
      unfold Wt
      simp only [e0] at h2
      cases em : mi ev1 with
      | bad => simp only [em] at h2
      | exc c ev2 => simp only [em] at h2; exact fun F' H' a' => h2 F' σ H' (as0.trans (as0.bs.aft a'))
      | ok k ev2 =>
        simp only [em] at h2
        intro F3 H3 a3 u ru
        cases e5 : ev2[i]? with
        | none => simp only [e5] at h2
        | some sl =>
          cases sl with
          | no => simp only [e5] at h2
          | val q => simp only [e5] at h2
          | own q => simp only [e5] at h2
          | dow ks ps =>
            cases k with
            | int z =>
              simp only [e5] at h2
              by_cases c1 : ks.length < SZ
              · simp only [if_pos c1] at h2
                obtain ⟨xs, hx, hl, rx⟩ := dow_of a3 e5 e1
                have eu : u = .int z := ru
                subst eu
                have rv3 : Rep X.K F3 H3 v r.1 := Rep.mono (Keep.of a3.same) a3.sub r.1 r2
                have b3 := (as0.bs.aft a3).bs
                have kp := b3.er.keepO ⟨e5, rfl⟩ e1 (.dK (kvO (kD ks z) (vD ks xs z v)))
                obtain ⟨nf, h00, _⟩ := b3.er.ow ⟨i, _, ⟨e5, rfl⟩, e1⟩
                have er4 := b3.er.setG (q1 := .dow (kD ks z) (vD ks ps z r.1)) (ob := .dK (kvO (kD ks z) (vD ks xs z v))) ⟨e5, rfl⟩ e1 ⟨c, vD ks xs z v, rfl, ⟨upd_same, vD_len hl z v⟩, RepL.mono kp (fun _ h => h) _ (RepL.vD rv3 rx), nf, h00⟩
                refine ⟨c, _, rfl, DPut.k (k := .inl z) hx (by rw [kvO_len hl]; exact c1), ?_⟩
                rw [putK_kvO hl]
                exact h2 F3 σ _ ((as0.trans (as0.bs.aft a3)).trans ⟨⟨er4, b3.sub, b3.base⟩, fun _ h => h, kp⟩)
              · simp only [if_neg c1] at h2
            | _ => simp only [e5] at h2⟩
theorem s_newD {i : Nat} {x : Str} {k e : Expr} {mk : M PV} {m : M RV} {dp pos pos' : Pos} (hNd : X.N.Nodup) (sk : Pv.SP X W cm k mk) (s : SE X W cm e m) (hi : X.N[i]? = some x := by rfl) (hx : L2.Loc X.env.scope x := by first | exact Or.inl rfl | exact Or.inr rfl)
    (hs : swapsWith (.Dict [some k] [e] dp) (some (.Name x pos')) pos.line X.env = pure false := by rfl) (hf : X.fn x = true ∨ X.env.scope.names.lookup x = some .local := by first | exact .inl rfl | exact .inr rfl) : SS X W cm (.Assign [.Name x pos'] (.Dict [some k] [e] dp) pos) (bnd mk fun y => bnd m fun r => mNewD i y r.1) := ⟨fun {F0 F H0 H ev σ D} b h => by
  refine sS_of (ps_set hNd hi hx (pe_disp (pps_cons sE_pe sE_pe pps_nil) rfl rfl (fun z => nomatch z) (Nat.succ_le_succ (Nat.zero_le 14))) hs hf) ?_
  intro p hp
  have npF : ¬ F p := fun f => b.er.dom p f hp
  have hp0 : H0 p = none := b.er.same.free hp
  have nO : ¬ Ow ev σ p := fun o => by
    obtain ⟨_, _, _, e, _⟩ := b.er.ow o
    rw [hp] at e; cases e
  have as0 := b.aft (b.er.fresh (o := .dK []) hp)
  have h1 : Ws X.K W cm F0 F H0 D ev σ (upd H p (.dK [])) (bnd mk fun y => bnd m fun r => mNewD i y r.1) := Ws.from as0 rfl h
  have b1 := as0.bs
  refine sk.go b1.er ((h1.expr b1).mono fun y ev1 F1 H1 a hh v rv => ?_)
  have b2 := b1.aft a
  refine s.go a.er ((hh.2.expr b2.bs).mono fun r ev2 F2 H2 a2 hh2 w rw' => ?_)
  obtain ⟨F3, a3, r3, f23⟩ := rw'.share a2
  have h3 := hh2.2
  have nb := h3.not_bad
  have as1 := b2.bs.aft a3
  unfold tPairs
  cases y with
  | int z =>
    unfold mNewD at nb
    by_cases hl : i < ev2.length
    · have ev' : v = .int z := rv
      subst ev'
      have e1 : H1 p = some (.dK []) := a.same _ _ upd_same
      have e2 : H2 p = some (.dK []) := a3.same _ _ e1
      have n1 : ¬ F1 p := fun f => by
        rcases a.grow p f with q | q | q
        · exact npF q
        · rw [upd_same] at q; cases q
        · exact nO q
      have n3 : ¬ F3 p := fun f => by
        rcases a3.grow p f with q | q | q
        · exact n1 q
        · rw [e1] at q; cases q
        · exact nO (a.ow p q)
      have nO3 : ¬ Ow ev2 σ p := fun o => nO (a.ow p (a3.ow p o))
      obtain ⟨er4, kp⟩ := a3.er.sideD (ob := .dK (kvO [z] [w])) n3 hp0 nO3 e2 (fun _ z => nomatch z) (fun _ _ z => nomatch z)
      have er5 := er4.storeG (q0 := .dow [z] [r.1]) hl ⟨p, [w], rfl, ⟨upd_same, rfl⟩, RepL.mono kp (fun _ h => h) _ (RepL.cons r3 RepL.nil), n3, hp0⟩ nO3
      refine ⟨e2, [(.inl z, w)], rfl, Nat.succ_le_succ (Nat.zero_le 14), ?_⟩
      have hm : mergeK [] [((.inl z : Key), w)] = kvO [z] [w] := rfl
      rw [hm]
      have as2 : AS X.K F0 F2 H0 H2 F3 (ev2.set i (.dow [z] [r.1])) (σ.set i (some (.ref p))) (upd H2 p (.dK (kvO [z] [w]))) := ⟨⟨er5, as1.bs.sub, as1.bs.base⟩, f23, ⟨kp.tup, kp.frz, fun a o f => kp.lst a o (f23 a f)⟩⟩
      exact h3.nx (by unfold mNewD; simp only [if_pos hl]) as2
    · simp only [if_neg hl] at nb
      exact absurd rfl nb
  | _ => exact absurd rfl nb⟩
end
end Pv
set_option Elab.async false
set_option linter.all false
set_option maxRecDepth 100000
namespace Pv
open PySem PySem.Spec L2
open PyProof.Rows hiding St
section
variable {X : Cx}
end
theorem map_eraseIdx {α β : Type} (f : α → β) : ∀ (l : List α) (j : Nat), (l.map f).eraseIdx j = (l.eraseIdx j).map f
  | [], _ => rfl
  | x :: l, 0 => rfl
  | x :: l, j + 1 => by
    show f x :: (l.map f).eraseIdx j = f x :: (l.eraseIdx j).map f
    rw [map_eraseIdx f l j]
end Pv
set_option Elab.async false
set_option linter.all false
set_option maxRecDepth 100000
namespace Pv
open PySem PySem.Spec L2
open PyProof.Rows hiding St
section
variable {prog : Program} {w : World} {A : Around} {E : Value → Shared → Prop} {s : Shared}
end
section
variable {X : Cx} {W : WX} {cm : CM}
def mInRg (m : M PV) (mr : M (Int × Int)) : M RV := bnd m fun p => bnd mr fun r => match p with
  | .int i => ret (.bl (decide (r.1 ≤ i) && decide (i < r.2)), false)
  | _ => bad
@[simp] theorem mInRg_ap {m : M PV} {mr : M (Int × Int)} {ev : SL} : mInRg m mr ev = bnd m (fun p => bnd mr fun r => match p with
  | .int i => ret (.bl (decide (r.1 ≤ i) && decide (i < r.2)), false)
  | _ => bad) ev := rfl
end
end Pv
set_option Elab.async false
set_option linter.all false
set_option maxRecDepth 100000
namespace Pv
open PySem PySem.Spec L2
open PyProof.Rows hiding St
section
variable {prog : Program} {w : World} {A : Around} {E : Value → Shared → Prop} {s : Shared}
end
section
variable {X : Cx} {W : WX} {cm : CM}
def mLenSetT (m : M PV) : M RV := bnd m fun p => match p with
  | .tup ps => match intsP ps with
    | some ns => if ns.length ≤ 1000 then ret (.int ((dedup ns).length : Nat), false) else bad
    | none => bad
  | _ => bad
@[simp] theorem mLenSetT_ap {m : M PV} {ev : SL} : mLenSetT m ev = bnd m (fun p => match p with
  | .tup ps => match intsP ps with
    | some ns => if ns.length ≤ 1000 then ret (.int ((dedup ns).length : Nat), false) else bad
    | none => bad
  | _ => bad) ev := rfl
end
end Pv
set_option Elab.async false
set_option linter.all false
set_option maxRecDepth 100000
namespace Pv
end Pv
set_option Elab.async false
set_option linter.all false
set_option maxRecDepth 100000
namespace Pv
open PySem PySem.Spec L2
open PyProof.Rows hiding St
section
variable {K : Fr} {F : FS} {H : Hp}
end
theorem res_str {K : Fr} {F : FS} {H0 Hs H : Hp} {ev : SL} {σ : St} {b : Str} : ResR K F H0 ev σ Hs H (.str b, false) (.str b) := by
  show Rep K F H (.str b) (.str b)
  unfold Rep; rfl
section
variable {X : Cx} {W : WX} {cm : CM}
def mJs : List (M PV) → Str → M RV
  | [], acc => ret (.str acc, false)
  | m :: ms, acc => bnd m fun r => match r with
    | .str y => if (acc ++ y).length ≤ sizeLine then mJs ms (acc ++ y) else bad
    | _ => bad
inductive SJ (X : Cx) (W : WX) (cm : CM) : List Expr → List (M PV) → Prop where
  | nil : SJ X W cm [] []
  | cons {e : Expr} {m : M PV} {es : List Expr} {ms : List (M PV)} (h : Pv.SP X W cm e m) (t : SJ X W cm es ms) : SJ X W cm (e :: es) (m :: ms)
theorem SJ.run {es : List Expr} {ms : List (M PV)} (h : SJ X W cm es ms) : ∀ (acc : Str) (F : FS) (H0 Hs H : Hp) (ev : SL) (σ : St) (Q : VK), ER X.K F H0 ev σ H → (Wt X.K W cm F H0 ev σ H (mJs ms acc) fun r ev' F' H' => ∀ v, ResR X.K F' H0 ev' σ Hs H' r v → Q v H') → tJs (es.map (sE X)) acc σ H (fun out H1 => Q (.str out) H1) := by
  induction h with
  | nil =>
    intro acc F H0 Hs H ev σ Q r h
    exact Wt.ret r h _ res_str
  | cons hs t ih =>
    intro acc F H0 Hs H ev σ Q r h
    refine hs.go r (h.bnd.mono fun p ev1 F1 H1 a1 hh x rx => ?_)
    have h2 := hh.2
    cases p with
    | str y =>
      have ex : x = .str y := rx
      refine ⟨y, ex, ?_⟩
      by_cases c : (acc ++ y).length ≤ sizeLine
      · simp only [if_pos c] at h2
        exact ⟨c, ih _ _ _ _ _ _ _ _ a1.er h2⟩
      · simp only [if_neg c] at h2; exact h2.elim
    | _ => exact h2.elim
end
end Pv
set_option Elab.async false
set_option linter.all false
set_option maxRecDepth 100000
namespace Pv
open PySem PySem.Spec L2
open PyProof.Rows hiding St
section
variable {X : Cx}
end
end Pv
set_option Elab.async false
set_option linter.all false
set_option maxRecDepth 100000
namespace Pv
open PySem PySem.Spec L2
open PyProof.Rows hiding St
def alikeB (ds : List PyData) : Bool := ds.all fun x => ds.all fun y => PySem.W.alike x y
def someB (ds : List PyData) : Bool := ds.all fun x => match x with
  | .none => false
  | _ => true
theorem alikeB_ok {ds : List PyData} (h : alikeB ds = true) (h2 : someB ds = true) : PySem.W.AlikeAll ds := by
  unfold alikeB at h
  unfold someB at h2
  rw [List.all_eq_true] at h h2
  refine ⟨fun x hx y hy => ?_, fun x hx z => ?_⟩
  · have := h x hx
    rw [List.all_eq_true] at this
    exact this y hy
  · have := h2 x hx
    rw [z] at this
    cases this
def okMin (ps : List PV) : Bool := isDs ps && alikeB (toDs ps) && someB (toDs ps) && decide (PyData.depthAll (toDs ps) ≤ 32)
def minAt (ps : List PV) : Nat := argBest (fun i j => PySem.W.dataLt ((toDs ps).getD i .none) ((toDs ps).getD j .none)) (ps.length - 1)
def gMinD : List PV → Option RV
  | [.lst ps] => if okMin ps = true then (ps[minAt ps]?).map fun p => (p, false) else none
  | _ => none
def gMinD2 : List PV → Option RV
  | [p, q] => if okMin [p, q] = true then some (if PySem.W.dataLt (toD q) (toD p) = true then q else p, false) else none
  | _ => none
theorem toDs_len : ∀ ps : List PV, (toDs ps).length = ps.length
  | [] => by unfold toDs; rfl
  | p :: ps => by unfold toDs; rw [List.length_cons, List.length_cons, toDs_len ps]
section
variable {X : Cx}
theorem call_minD (hc : X.calm = true) (hu : X.A.units + 64 < cLine) : CallR X (.builtin "min") (fun vs H Q => ∃ (a : Addr) (xs : List V) (ds : List PyData), vs = [V.ref a] ∧ SqL X.K H a xs ∧ DpAll X.K H xs ds ∧ PySem.W.AlikeAll ds ∧ PyData.depthAll ds ≤ 32 ∧ xs.length = ds.length ∧ 0 < ds.length ∧ ∀ x, xs[argBest (fun i j => PySem.W.dataLt (ds.getD i .none) (ds.getD j .none)) (ds.length - 1)]? = some x → Q x H) := by
  intro pins s σ H vs us Q I r h
  obtain ⟨a, xs, ds, rfl, hs, hd, ha, dp, hl, hne, q⟩ := h
  obtain ⟨its, rv, hL, _⟩ := I.list hs
  rw [Vals.ref1 r]
  have hlen := rv.length
  have hz : its.toArray.size = ds.length := by rw [List.size_toArray]; omega
  obtain ⟨as, hrs⟩ := Dp.readsAll I ds xs its hd rv
  refine MinT.min_list (bt := fun i j => PySem.W.dataLt (ds.getD i .none) (ds.getD j .none)) (I.ok.hd hc) hL.isList (by omega) (PySem.W.cmpIn_lt (A := X.A.in1) (vs := its.toArray) (by simpa using hrs) ha (by show X.A.units + 1 + _ < _; omega)) fun v h' tk hv hk => ?_
  rw [hz] at hv
  have hv' : its[argBest (fun i j => PySem.W.dataLt (ds.getD i .none) (ds.getD j .none)) (ds.length - 1)]? = some v := by simpa using hv
  have hb := MinT.argBest_le (fun i j => PySem.W.dataLt (ds.getD i .none) (ds.getD j .none)) (ds.length - 1)
  generalize argBest (fun i j => PySem.W.dataLt (ds.getD i .none) (ds.getD j .none)) (ds.length - 1) = k at *
  have hk2 : k < xs.length := by omega
  obtain ⟨u, hu2, ru⟩ := rv.get (List.getElem?_eq_getElem hk2)
  rw [hv'] at hu2
  cases hu2
  exact ⟨xs[k], H, I.kept hk, ru, q _ (List.getElem?_eq_getElem hk2)⟩
theorem c_minD (hc : X.calm = true) (hu : X.A.units + 64 < cLine) : CallOk X (.builtin "min") gMinD := fun F H0 H ev σ vs ps r Q er rs e hq => by
  unfold gMinD at e
  split at e
  · rename_i qs
    split at e
    · rename_i ok
      obtain ⟨p, hp, e2⟩ := Option.map_eq_some_iff.mp e
      cases e2
      obtain ⟨v, rfl, rv⟩ := rs.one
      obtain ⟨a, xs, rfl, hx, rl⟩ := rv
      unfold okMin at ok
      simp only [Bool.and_eq_true, decide_eq_true_eq] at ok
      have hlen := rl.length
      have hl2 := toDs_len qs
      have hne : 0 < qs.length := by
        have := (List.getElem?_eq_some_iff.mp hp).1
        omega
      refine sCl_of (call_minD hc hu) ⟨a, xs, toDs qs, rfl, SqL.of hx, rl.dp _ ok.1.1.1, alikeB_ok ok.1.1.2 ok.1.2, ok.2, by omega, by omega, fun x hxi => ?_⟩
      rw [hl2] at hxi
      obtain ⟨v, hv, rv⟩ := rl.get hp
      have hxi' : xs[minAt qs]? = some x := hxi
      rw [hxi'] at hv
      cases hv
      exact hq F x H er.aft rv
    · cases e
  · cases e
theorem cr_minD2 (hc : X.calm = true) (hu : X.A.units + 64 < cLine) : CallR X (.builtin "min") (fun vs H Q => ∃ (v w : V) (d e : PyData), vs = [v, w] ∧ DpAll X.K H [v, w] [d, e] ∧ PySem.W.AlikeAll [d, e] ∧ PyData.depthAll [d, e] ≤ 32 ∧ Q (if PySem.W.dataLt e d = true then w else v) H) := by
  intro pins s σ H vs us Q I r h
  obtain ⟨v, w, d, e, rfl, hd, ha, dp, q⟩ := h
  obtain ⟨as, hrs⟩ := Dp.readsAll I [d, e] [v, w] us hd r
  cases r with
  | cons a1 r =>
    cases r with
    | cons a2 r =>
      cases r
      rename_i u1 u2
      refine min_two' (bt := fun i j => PySem.W.dataLt ([d, e].getD i .none) ([d, e].getD j .none)) (I.ok.hd hc) (PySem.W.cmpIn_lt (A := X.A.in1) (vs := #[u1, u2]) hrs ha (by show X.A.units + 1 + _ < _; omega)) fun h' tk hk => ⟨if PySem.W.dataLt e d = true then w else v, H, I.kept hk, ?_, q⟩
      show RelV (if PySem.W.dataLt e d = true then w else v) (if PySem.W.dataLt e d = true then u2 else u1)
      cases PySem.W.dataLt e d with
      | true => exact a2
      | false => exact a1
theorem c_minD2 (hc : X.calm = true) (hu : X.A.units + 64 < cLine) : CallOkF X (.builtin "min") gMinD2 := fun F H0 H ev σ vs ps r Q er rs e hq => by
  unfold gMinD2 at e
  split at e
  · rename_i p q
    split at e
    · rename_i ok
      cases e
      unfold okMin at ok
      simp only [Bool.and_eq_true, decide_eq_true_eq] at ok
      have hd := rs.dp _ ok.1.1.1
      unfold RepL at rs
      obtain ⟨v, r, rfl, rv, rs⟩ := rs
      unfold RepL at rs
      obtain ⟨w, r, rfl, rw', rs⟩ := rs
      unfold RepL at rs
      subst rs
      have e2 : toDs [p, q] = [toD p, toD q] := by unfold toDs toDs toDs; rfl
      rw [e2] at hd ok
      refine sCl_of (cr_minD2 hc hu) ⟨v, w, toD p, toD q, rfl, hd, alikeB_ok ok.1.1.2 ok.1.2, ok.2, ?_⟩
      cases c : PySem.W.dataLt (toD q) (toD p) with
      | true => rw [c] at hq; exact hq F _ H er.aft rw'
      | false => rw [c] at hq; exact hq F _ H er.aft rv
    · cases e
  · cases e
def gShl : PV → PV → Option RV := gII fun i j => if 0 ≤ j ∧ j ≤ 64 ∧ i = 1 then some (.int (i * 2 ^ j.toNat), false) else none
def gShr : PV → PV → Option RV := gII fun i j => if 0 ≤ j then some (.int (i / 2 ^ j.toNat), false) else none
def gOdd : PV → PV → Option RV := gII fun i j => if 0 ≤ i ∧ j = 1 then some (.int (i % 2), false) else none
theorem o_shl : OpOk X (binaryOp .LShift) gShl := .ii op_shl fun i j r e => by
  split at e
  · rename_i c
    cases e
    exact ⟨⟨c.1, by omega, by rw [c.2.2]; decide⟩, rfl, fun _ _ => by unfold Rep; rfl⟩
  · cases e
theorem o_shr : OpOk X (binaryOp .RShift) gShr := .ii op_shr fun i j r e => by
  split at e
  · rename_i c
    cases e
    exact ⟨c, rfl, fun _ _ => by unfold Rep; rfl⟩
  · cases e
theorem op_oddI : OpR X (binaryOp .BitAnd) fun x y H Q => ∃ i j, x = .int i ∧ y = .int j ∧ (0 ≤ i ∧ j = 1) ∧ Q (.int (i % 2)) H := fun pins s σ H x y v u Q I rx ry h => by
  obtain ⟨i, j, rfl, rfl, ⟨h1, rfl⟩, q⟩ := h
  refine op_odd pins s σ H (.int i) (.int 1) v u Q I rx ry ⟨i.toNat, by rw [Int.toNat_of_nonneg h1], rfl, ?_⟩
  rw [show ((i.toNat % 2 : Nat) : Int) = i % 2 by omega]
  exact q
theorem o_odd : OpOk X (binaryOp .BitAnd) gOdd := .ii op_oddI fun i j r e => by
  split at e
  · rename_i c
    cases e
    exact ⟨c, rfl, fun _ _ => by unfold Rep; rfl⟩
  · cases e
end
@[simp] theorem gShl_i {i j : Int} : gShl (.int i) (.int j) = if 0 ≤ j ∧ j ≤ 64 ∧ i = 1 then some (.int (i * 2 ^ j.toNat), false) else none := rfl
@[simp] theorem gShr_i {i j : Int} : gShr (.int i) (.int j) = if 0 ≤ j then some (.int (i / 2 ^ j.toNat), false) else none := rfl
@[simp] theorem gOdd_i {i j : Int} : gOdd (.int i) (.int j) = if 0 ≤ i ∧ j = 1 then some (.int (i % 2), false) else none := rfl
theorem argBest_c {bt : Nat → Nat → Bool} {c : Nat → Int} : ∀ k, (∀ i j, i ≤ k → j ≤ k → bt i j = true → c i ≤ c j) → (∀ i j, i ≤ k → j ≤ k → bt i j = false → c j ≤ c i) → ∀ j, j ≤ k → c (argBest bt k) ≤ c j
  | 0, _, _, j, h => by rw [Nat.le_zero.mp h]; exact Int.le_refl _
  | k + 1, h1, h0, j, h => by
    have ih := argBest_c k (fun i j hi hj => h1 i j (by omega) (by omega)) (fun i j hi hj => h0 i j (by omega) (by omega))
    have hb := MinT.argBest_le bt k
    unfold argBest
    cases e : bt (k + 1) (argBest bt k) with
    | true =>
      rw [if_pos rfl]
      have q := h1 _ _ (Nat.le_refl _) (by omega) e
      by_cases z : j = k + 1
      · rw [z]; exact Int.le_refl _
      · exact Int.le_trans q (ih j (by omega))
    | false =>
      rw [if_neg (by simp)]
      by_cases z : j = k + 1
      · rw [z]; exact h0 _ _ (Nat.le_refl _) (by omega) e
      · exact ih j (by omega)
theorem dlt_first {a b : Int} {xs ys : List PyData} (h : a ≠ b) : PySem.W.dataLt (.tuple (.int a :: xs)) (.tuple (.int b :: ys)) = decide (a < b) := by
  rw [PySem.W.dataLt_tuple, PySem.W.dataLt_all_no (by rfl) ?_, PySem.W.dataLt_int]
  unfold PyData.eqv
  simpa using h
end Pv
set_option Elab.async false
set_option linter.all false
set_option maxRecDepth 100000
set_option maxHeartbeats 4000000
namespace K22
open Pv PySem PySem.Spec L2
open PyProof.Rows hiding St
structure Top (w : World) (K : Fr) (mg : Str → Option Value) (cm : CM) : Prop where
  b_bool : mg "bool" = none
  b_int : mg "int" = none
  b_isinstance : mg "isinstance" = none
  b_len : mg "len" = none
  b_list : mg "list" = none
  b_max : mg "max" = none
  b_min : mg "min" = none
  b_range : mg "range" = none
  b_set : mg "set" = none
  b_sorted : mg "sorted" = none
  b_sum : mg "sum" = none
  b_tuple : mg "tuple" = none
  f_combinations : mg "combinations" = some (.type "itertools.combinations")
  i_MOST_THINGS : ∃ t, mg "MOST_THINGS" = some (.int 24 t)
  i_MOST_PARTS : ∃ t, mg "MOST_PARTS" = some (.int 8 t)
  d_LEAST_PARTS : KD0 w K mg "LEAST_PARTS" (dOf [("any", 2), ("row", 3)])
  x_InvalidOrder : ExK K mg cm "InvalidOrder"
  x_InvalidTree : ExK K mg cm "InvalidTree"
  x_OutOfRange : ExK K mg cm "OutOfRange"
  N_OutOfRange : ClN K mg cm "OutOfRange"
  m_InvalidOrder_OutOfRange : PySem.W.exmOne K (cm "InvalidOrder") (cm "OutOfRange") = some false
  m_InvalidTree_OutOfRange : PySem.W.exmOne K (cm "InvalidTree") (cm "OutOfRange") = some false
  m_OutOfRange_OutOfRange : PySem.W.exmOne K (cm "OutOfRange") (cm "OutOfRange") = some true
  m_UnpartedError_OutOfRange : PySem.W.exmOne K (cm "UnpartedError") (cm "OutOfRange") = some false
abbrev d_LEAST_PARTS : Str → Option Int := dOf [("any", 2), ("row", 3)]
section
variable {P : Program} {w : World} {K : Fr} {mg : Str → Option Value} {base : Heap} {cm : CM} {f : Addr} {fd : FuncData}
theorem sc_is_number_of_things : FnScope ["n"] ["n"] (defScope (topS 8)) := ⟨rfl, rfl, rfl, by decide +kernel, rfl, by decide +kernel, by decide +kernel⟩
def st_is_number_of_things : M Fl := sq (bnd (eChain cLe cLe (look (eC (.int 1))) (pVar 0) (look (eC (.int 24)))) mRet) (ret .nx)
def fn_is_number_of_things : Fn := runF 1 1 st_is_number_of_things
theorem ok_is_number_of_things (T : Top w K mg cm) (F : Fun K "is_number_of_things" "is_number_of_things" (topS 8) f fd) (hg : mg "is_number_of_things" = some (.ref f)) (hb : Binds K fd ["n"] []) : Cal P w K mg base cm 1 "is_number_of_things" fn_is_number_of_things := by
  refine def_ok (k := 0) (m := st_is_number_of_things) F sc_is_number_of_things hg hb ?_ (by decide)
  intro cdv A outer s H E hr
  have tk : L2.Takes (cxOf (L2.CX P w) P w K mg base ["n"] "is_number_of_things" (defScope (topS 8)) f cdv A outer s H E) (fun cls d _ H => E cls d H) := takes_of rfl rfl rfl rfl
  have hp : PassesOwn (model P w) (cxOf (L2.CX P w) P w K mg base ["n"] "is_number_of_things" (defScope (topS 8)) f cdv A outer s H E).A (cxOf (L2.CX P w) P w K mg base ["n"] "is_number_of_things" (defScope (topS 8)) f cdv A outer s H E).env (cxOf (L2.CX P w) P w K mg base ["n"] "is_number_of_things" (defScope (topS 8)) f cdv A outer s H E).xe := passes_of rfl
  exact b_cons (s_ret (e_chain o_le o_le (SE.look (e_int)) (p_var (i := 0)) (SE.look (e_gint T.i_MOST_THINGS.choose_spec)))) (b_nil)
theorem sc_check_order : FnScope ["n", "order"] ["n", "order"] (defScope (topS 9)) := ⟨rfl, rfl, rfl, by decide +kernel, rfl, by decide +kernel, by decide +kernel⟩
def st_check_order : M Fl := sq (mIfS (mNot (tTru (look (eFn fn_is_number_of_things (aCons (eVar 0) (ret [])))))) (sq (mRaise "InvalidOrder") (ret .nx)) (ret .nx)) (sq (mIfS (blOf (eOp (gEq true) (look (eCall gSorted (kCons (pVar 1) (ret [])))) (look (mLstRg (mRg1 (pVar 0)))))) (sq (mRaise "InvalidOrder") (ret .nx)) (ret .nx)) (sq (mRetV 1) (ret .nx)))
def fn_check_order : Fn := runF 2 2 st_check_order
theorem ok_check_order (T : Top w K mg cm) (F : Fun K "check_order" "check_order" (topS 9) f fd) (hg : mg "check_order" = some (.ref f)) (hb : Binds K fd ["n", "order"] []) (c_is_number_of_things : Cal P w K mg base cm 1 "is_number_of_things" fn_is_number_of_things) : Cal P w K mg base cm 2 "check_order" fn_check_order := by
  refine def_ok (k := 1) (m := st_check_order) F sc_check_order hg hb ?_ (by decide)
  intro cdv A outer s H E hr
  have tk : L2.Takes (cxOf (L2.CX P w) P w K mg base ["n", "order"] "check_order" (defScope (topS 9)) f cdv A outer s H E) (fun cls d _ H => E cls d H) := takes_of rfl rfl rfl rfl
  have hp : PassesOwn (model P w) (cxOf (L2.CX P w) P w K mg base ["n", "order"] "check_order" (defScope (topS 9)) f cdv A outer s H E).A (cxOf (L2.CX P w) P w K mg base ["n", "order"] "check_order" (defScope (topS 9)) f cdv A outer s H E).env (cxOf (L2.CX P w) P w K mg base ["n", "order"] "check_order" (defScope (topS 9)) f cdv A outer s H E).xe := passes_of rfl
  have c_is_number_of_things : Cal P w K mg base cm 1 "is_number_of_things" fn_is_number_of_things := c_is_number_of_things.mono (by omega)
  exact b_cons (s_if (t_not (t_val (SE.look (e_call c_is_number_of_things hr tk (a_cons (e_var (i := 0)) (a_nil)))))) (b_cons (s_raise rfl tk T.x_InvalidOrder) (b_nil)) (b_nil)) (b_cons (s_if (t_cmp (o_ne hr.units) (SE.look (e_callB c_sorted T.b_sorted PyProof.Rows.boot_sorted (k_cons (p_var (i := 1)) (k_nil)))) (SE.look (e_lstRg rfl T.b_list (r_1 T.b_range (p_var (i := 0)))))) (b_cons (s_raise rfl tk T.x_InvalidOrder) (b_nil)) (b_nil)) (b_cons (s_retV (i := 1)) (b_nil)))
theorem sc_checked_parts : FnScope ["value", "word", "parts"] ["value"] (defScope (topS 13)) := ⟨rfl, rfl, rfl, by decide +kernel, rfl, by decide +kernel, by decide +kernel⟩
def st_checked_parts : M Fl := sq (mIfS (blOf (eOp (gEq true) (look (eCall gLen (kCons (pVar 0) (ret [])))) (look (eC (.int 2))))) (sq (mRaise "InvalidTree") (ret .nx)) (ret .nx)) (sq (bnd (eVar 0) fun r => mTgt (tNames [1, 2]) r.1) (sq (mIfS (blOf (mKdIn true d_LEAST_PARTS (pVar 1))) (sq (mRaise "InvalidTree") (ret .nx)) (ret .nx)) (sq (mIfS (blOf (eOp cLt (look (eCall gLen (kCons (pVar 2) (ret [])))) (look (mKdIx d_LEAST_PARTS (pVar 1))))) (sq (mRaise "InvalidTree") (ret .nx)) (ret .nx)) (sq (mRetV 2) (ret .nx)))))
def fn_checked_parts : Fn := runF 3 1 st_checked_parts
theorem ok_checked_parts (T : Top w K mg cm) (F : Fun K "checked_parts" "checked_parts" (topS 13) f fd) (hg : mg "checked_parts" = some (.ref f)) (hb : Binds K fd ["value"] []) : Cal P w K mg base cm 1 "checked_parts" fn_checked_parts := by
  refine def_ok (k := 0) (m := st_checked_parts) F sc_checked_parts hg hb ?_ (by decide)
  intro cdv A outer s H E hr
  have tk : L2.Takes (cxOf (L2.CX P w) P w K mg base ["value", "word", "parts"] "checked_parts" (defScope (topS 13)) f cdv A outer s H E) (fun cls d _ H => E cls d H) := takes_of rfl rfl rfl rfl
  have hp : PassesOwn (model P w) (cxOf (L2.CX P w) P w K mg base ["value", "word", "parts"] "checked_parts" (defScope (topS 13)) f cdv A outer s H E).A (cxOf (L2.CX P w) P w K mg base ["value", "word", "parts"] "checked_parts" (defScope (topS 13)) f cdv A outer s H E).env (cxOf (L2.CX P w) P w K mg base ["value", "word", "parts"] "checked_parts" (defScope (topS 13)) f cdv A outer s H E).xe := passes_of rfl
  exact b_cons (s_if (t_cmp (o_ne hr.units) (SE.look (e_callB c_len T.b_len PySem.boot_len (k_cons (p_var (i := 0)) (k_nil)))) (SE.look (e_int))) (b_cons (s_raise rfl tk T.x_InvalidTree) (b_nil)) (b_nil)) (b_cons (s_unpack (e_var (i := 0)) (g_names rfl (gs_cons (i := 1) sc_checked_parts.nd (gs_cons (i := 2) sc_checked_parts.nd (gs_nil))))) (b_cons (s_if (t_kdNotIn T.d_LEAST_PARTS.kd (p_var (i := 1))) (b_cons (s_raise rfl tk T.x_InvalidTree) (b_nil)) (b_nil)) (b_cons (s_if (t_cmp o_lt (SE.look (e_callB c_len T.b_len PySem.boot_len (k_cons (p_var (i := 2)) (k_nil)))) (SE.look (e_kdIx T.d_LEAST_PARTS.kd (p_var (i := 1))))) (b_cons (s_raise rfl tk T.x_InvalidTree) (b_nil)) (b_nil)) (b_cons (s_retV (i := 2)) (b_nil)))))
theorem sc_checked_things : FnScope ["value", "found", "part"] ["value"] (defScope (topS 14)) := ⟨rfl, rfl, rfl, by decide +kernel, rfl, by decide +kernel, by decide +kernel⟩
def st_checked_things (r_ : Fn) : M Fl := sq (mIfS (tTru (look (mIsi "int" (pVar 0)))) (sq (mIfS (blOf (eOp cLt (pVar 0) (look (eC (.int 0))))) (sq (mRaise "InvalidTree") (ret .nx)) (ret .nx)) (sq (bnd (mLst (aCons (eVar 0) (ret []))) mRet) (ret .nx))) (ret .nx)) (sq (bnd (mLst (ret [])) (setR 1)) (sq (bnd (mSeq (eFn fn_checked_parts (aCons (eVar 0) (ret [])))) (loop (tName 2) (sq (mMet 1 (aCons (eFn r_ (aCons (eVar 2) (ret []))) (ret [])) gExtend) (ret .nx)))) (sq (mIfS (blOf (eOp cLt (look (mLenSet (pVar 1))) (look (eCall gLen (kCons (pVar 1) (ret [])))))) (sq (mRaise "InvalidTree") (ret .nx)) (ret .nx)) (sq (mRetV 1) (ret .nx)))))
def fn_checked_things : Nat → Fn
  | 0 => fun _ => .bad
  | d + 1 => runF 3 1 (st_checked_things (fn_checked_things d))
theorem ok_checked_things (T : Top w K mg cm) (F : Fun K "checked_things" "checked_things" (topS 14) f fd) (hg : mg "checked_things" = some (.ref f)) (hb : Binds K fd ["value"] []) (c_checked_parts : Cal P w K mg base cm 1 "checked_parts" fn_checked_parts) : ∀ d : Nat, Cal P w K mg base cm (1 + d) "checked_things" (fn_checked_things d)
  | 0 => (cal_bad F hg hb).mono (Nat.zero_le _)
  | d + 1 => by
    have c_ := ok_checked_things T F hg hb c_checked_parts d
    refine def_ok (m := st_checked_things (fn_checked_things d)) F sc_checked_things hg hb ?_ (by decide)
    intro cdv A outer s H E hr
    have tk : L2.Takes (cxOf (L2.CX P w) P w K mg base ["value", "found", "part"] "checked_things" (defScope (topS 14)) f cdv A outer s H E) (fun cls d _ H => E cls d H) := takes_of rfl rfl rfl rfl
    have hp : PassesOwn (model P w) (cxOf (L2.CX P w) P w K mg base ["value", "found", "part"] "checked_things" (defScope (topS 14)) f cdv A outer s H E).A (cxOf (L2.CX P w) P w K mg base ["value", "found", "part"] "checked_things" (defScope (topS 14)) f cdv A outer s H E).env (cxOf (L2.CX P w) P w K mg base ["value", "found", "part"] "checked_things" (defScope (topS 14)) f cdv A outer s H E).xe := passes_of rfl
    have c_checked_parts : Cal P w K mg base cm (1 + d) "checked_parts" fn_checked_parts := c_checked_parts.mono (by omega)
    exact b_cons (s_if (t_val (SE.look (e_isi T.b_isinstance T.b_int PyProof.Rows.boot_int (p_var (i := 0))))) (b_cons (s_if (t_cmp o_lt (p_var (i := 0)) (SE.look (e_int))) (b_cons (s_raise rfl tk T.x_InvalidTree) (b_nil)) (b_nil)) (b_cons (s_ret (e_lst (a_cons (e_var (i := 0)) (a_nil)))) (b_nil))) (b_nil)) (b_cons (s_set (i := 1) sc_checked_things.nd (e_lst (a_nil))) (b_cons (s_for hp rfl (i_seq (e_call c_checked_parts hr tk (a_cons (e_var (i := 0)) (a_nil)))) (g_name (i := 2) sc_checked_things.nd) (b_cons (s_met (i := 1) PySem.F.slot_list_extend PySem.F.type_list_extend k_extend (a_cons (e_call c_ hr tk (a_cons (e_var (i := 2)) (a_nil))) (a_nil))) (b_nil))) (b_cons (s_if (t_cmp o_lt (SE.look (e_lenSet rfl T.b_len T.b_set (p_var (i := 1)))) (SE.look (e_callB c_len T.b_len PySem.boot_len (k_cons (p_var (i := 1)) (k_nil))))) (b_cons (s_raise rfl tk T.x_InvalidTree) (b_nil)) (b_nil)) (b_cons (s_retV (i := 1)) (b_nil)))))
theorem sc_things_of : FnScope ["tree"] ["tree"] (defScope (topS 15)) := ⟨rfl, rfl, rfl, by decide +kernel, rfl, by decide +kernel, by decide +kernel⟩
def st_things_of : M Fl := sq (bnd (eCall gTuple (kCons (look (eCall gSorted (kCons (look (eFn (fn_checked_things 40) (aCons (eVar 0) (ret [])))) (ret [])))) (ret []))) mRet) (ret .nx)
def fn_things_of : Fn := runF 1 1 st_things_of
theorem ok_things_of (T : Top w K mg cm) (F : Fun K "things_of" "things_of" (topS 15) f fd) (hg : mg "things_of" = some (.ref f)) (hb : Binds K fd ["tree"] []) (c_checked_things : Cal P w K mg base cm 41 "checked_things" (fn_checked_things 40)) : Cal P w K mg base cm 42 "things_of" fn_things_of := by
  refine def_ok (k := 41) (m := st_things_of) F sc_things_of hg hb ?_ (by decide)
  intro cdv A outer s H E hr
  have tk : L2.Takes (cxOf (L2.CX P w) P w K mg base ["tree"] "things_of" (defScope (topS 15)) f cdv A outer s H E) (fun cls d _ H => E cls d H) := takes_of rfl rfl rfl rfl
  have hp : PassesOwn (model P w) (cxOf (L2.CX P w) P w K mg base ["tree"] "things_of" (defScope (topS 15)) f cdv A outer s H E).A (cxOf (L2.CX P w) P w K mg base ["tree"] "things_of" (defScope (topS 15)) f cdv A outer s H E).env (cxOf (L2.CX P w) P w K mg base ["tree"] "things_of" (defScope (topS 15)) f cdv A outer s H E).xe := passes_of rfl
  have c_checked_things : Cal P w K mg base cm 41 "checked_things" (fn_checked_things 40) := c_checked_things.mono (by omega)
  exact b_cons (s_ret (e_callTy c_tuple T.b_tuple PyProof.Rows.boot_tuple (k_cons (SE.look (e_callB c_sorted T.b_sorted PyProof.Rows.boot_sorted (k_cons (SE.look (e_call c_checked_things hr tk (a_cons (e_var (i := 0)) (a_nil)))) (k_nil)))) (k_nil)))) (b_nil)
theorem sc_check_tree : FnScope ["n", "tree"] ["n", "tree"] (defScope (topS 16)) := ⟨rfl, rfl, rfl, by decide +kernel, rfl, by decide +kernel, by decide +kernel⟩
def st_check_tree : M Fl := sq (mIfS (mNot (tTru (look (eFn fn_is_number_of_things (aCons (eVar 0) (ret [])))))) (sq (mRaise "InvalidTree") (ret .nx)) (ret .nx)) (sq (mIfS (blOf (eOp (gEq true) (look (eFn fn_things_of (aCons (eVar 1) (ret [])))) (look (mTupRg (mRg1 (pVar 0)))))) (sq (mRaise "InvalidTree") (ret .nx)) (ret .nx)) (sq (mRetV 1) (ret .nx)))
def fn_check_tree : Fn := runF 2 2 st_check_tree
theorem ok_check_tree (T : Top w K mg cm) (F : Fun K "check_tree" "check_tree" (topS 16) f fd) (hg : mg "check_tree" = some (.ref f)) (hb : Binds K fd ["n", "tree"] []) (c_is_number_of_things : Cal P w K mg base cm 1 "is_number_of_things" fn_is_number_of_things) (c_things_of : Cal P w K mg base cm 42 "things_of" fn_things_of) : Cal P w K mg base cm 43 "check_tree" fn_check_tree := by
  refine def_ok (k := 42) (m := st_check_tree) F sc_check_tree hg hb ?_ (by decide)
  intro cdv A outer s H E hr
  have tk : L2.Takes (cxOf (L2.CX P w) P w K mg base ["n", "tree"] "check_tree" (defScope (topS 16)) f cdv A outer s H E) (fun cls d _ H => E cls d H) := takes_of rfl rfl rfl rfl
  have hp : PassesOwn (model P w) (cxOf (L2.CX P w) P w K mg base ["n", "tree"] "check_tree" (defScope (topS 16)) f cdv A outer s H E).A (cxOf (L2.CX P w) P w K mg base ["n", "tree"] "check_tree" (defScope (topS 16)) f cdv A outer s H E).env (cxOf (L2.CX P w) P w K mg base ["n", "tree"] "check_tree" (defScope (topS 16)) f cdv A outer s H E).xe := passes_of rfl
  have c_is_number_of_things : Cal P w K mg base cm 42 "is_number_of_things" fn_is_number_of_things := c_is_number_of_things.mono (by omega)
  have c_things_of : Cal P w K mg base cm 42 "things_of" fn_things_of := c_things_of.mono (by omega)
  exact b_cons (s_if (t_not (t_val (SE.look (e_call c_is_number_of_things hr tk (a_cons (e_var (i := 0)) (a_nil)))))) (b_cons (s_raise rfl tk T.x_InvalidTree) (b_nil)) (b_nil)) (b_cons (s_if (t_cmp (o_ne hr.units) (SE.look (e_call c_things_of hr tk (a_cons (e_var (i := 1)) (a_nil)))) (SE.look (e_tupRg rfl T.b_tuple (r_1 T.b_range (p_var (i := 0)))))) (b_cons (s_raise rfl tk T.x_InvalidTree) (b_nil)) (b_nil)) (b_cons (s_retV (i := 1)) (b_nil)))
theorem sc_check_own_tree : FnScope ["tree", "n"] ["tree"] (defScope (topS 17)) := ⟨rfl, rfl, rfl, by decide +kernel, rfl, by decide +kernel, by decide +kernel⟩
def st_check_own_tree : M Fl := sq (bnd (eCall gLen (kCons (look (eFn fn_things_of (aCons (eVar 0) (ret [])))) (ret []))) (setR 1)) (sq (bnd (eFn fn_check_tree (aCons (eVar 1) (aCons (eVar 0) (ret [])))) fun _ => ret .nx) (sq (mRetV 1) (ret .nx)))
def fn_check_own_tree : Fn := runF 2 1 st_check_own_tree
theorem ok_check_own_tree (T : Top w K mg cm) (F : Fun K "check_own_tree" "check_own_tree" (topS 17) f fd) (hg : mg "check_own_tree" = some (.ref f)) (hb : Binds K fd ["tree"] []) (c_things_of : Cal P w K mg base cm 42 "things_of" fn_things_of) (c_check_tree : Cal P w K mg base cm 43 "check_tree" fn_check_tree) : Cal P w K mg base cm 44 "check_own_tree" fn_check_own_tree := by
  refine def_ok (k := 43) (m := st_check_own_tree) F sc_check_own_tree hg hb ?_ (by decide)
  intro cdv A outer s H E hr
  have tk : L2.Takes (cxOf (L2.CX P w) P w K mg base ["tree", "n"] "check_own_tree" (defScope (topS 17)) f cdv A outer s H E) (fun cls d _ H => E cls d H) := takes_of rfl rfl rfl rfl
  have hp : PassesOwn (model P w) (cxOf (L2.CX P w) P w K mg base ["tree", "n"] "check_own_tree" (defScope (topS 17)) f cdv A outer s H E).A (cxOf (L2.CX P w) P w K mg base ["tree", "n"] "check_own_tree" (defScope (topS 17)) f cdv A outer s H E).env (cxOf (L2.CX P w) P w K mg base ["tree", "n"] "check_own_tree" (defScope (topS 17)) f cdv A outer s H E).xe := passes_of rfl
  have c_things_of : Cal P w K mg base cm 43 "things_of" fn_things_of := c_things_of.mono (by omega)
  have c_check_tree : Cal P w K mg base cm 43 "check_tree" fn_check_tree := c_check_tree.mono (by omega)
  exact b_cons (s_set (i := 1) sc_check_own_tree.nd (e_callB c_len T.b_len PySem.boot_len (k_cons (SE.look (e_call c_things_of hr tk (a_cons (e_var (i := 0)) (a_nil)))) (k_nil)))) (b_cons (s_expr (e_call c_check_tree hr tk (a_cons (e_var (i := 1)) (a_cons (e_var (i := 0)) (a_nil))))) (b_cons (s_retV (i := 1)) (b_nil)))
theorem sc_check_narrow : FnScope ["tree", "word", "parts", "part"] ["tree"] (defScope (topS 18)) := ⟨rfl, rfl, rfl, by decide +kernel, rfl, by decide +kernel, by decide +kernel⟩
def st_check_narrow (r_ : Fn) : M Fl := sq (mIfS (mNot (tTru (look (mIsi "int" (pVar 0))))) (sq (bnd (eVar 0) fun r => mTgt (tNames [1, 2]) r.1) (sq (mIfS (mAnd (blOf (eOp (gEq false) (pVar 1) (look (eC (.str "any"))))) (blOf (eOp cGt (look (eCall gLen (kCons (pVar 2) (ret [])))) (look (eC (.int 8)))))) (sq (mRaise "OutOfRange") (ret .nx)) (ret .nx)) (sq (bnd (mSeq (eVar 2)) (loop (tName 3) (sq (bnd (eFn r_ (aCons (eVar 3) (ret []))) fun _ => ret .nx) (ret .nx)))) (ret .nx)))) (ret .nx)) (sq (mRetV 0) (ret .nx))
def fn_check_narrow : Nat → Fn
  | 0 => fun _ => .bad
  | d + 1 => runF 4 1 (st_check_narrow (fn_check_narrow d))
theorem ok_check_narrow (T : Top w K mg cm) (F : Fun K "check_narrow" "check_narrow" (topS 18) f fd) (hg : mg "check_narrow" = some (.ref f)) (hb : Binds K fd ["tree"] []) : ∀ d : Nat, Cal P w K mg base cm (0 + d) "check_narrow" (fn_check_narrow d)
  | 0 => (cal_bad F hg hb).mono (Nat.zero_le _)
  | d + 1 => by
    have c_ := ok_check_narrow T F hg hb d
    refine def_ok (m := st_check_narrow (fn_check_narrow d)) F sc_check_narrow hg hb ?_ (by decide)
    intro cdv A outer s H E hr
    have tk : L2.Takes (cxOf (L2.CX P w) P w K mg base ["tree", "word", "parts", "part"] "check_narrow" (defScope (topS 18)) f cdv A outer s H E) (fun cls d _ H => E cls d H) := takes_of rfl rfl rfl rfl
    have hp : PassesOwn (model P w) (cxOf (L2.CX P w) P w K mg base ["tree", "word", "parts", "part"] "check_narrow" (defScope (topS 18)) f cdv A outer s H E).A (cxOf (L2.CX P w) P w K mg base ["tree", "word", "parts", "part"] "check_narrow" (defScope (topS 18)) f cdv A outer s H E).env (cxOf (L2.CX P w) P w K mg base ["tree", "word", "parts", "part"] "check_narrow" (defScope (topS 18)) f cdv A outer s H E).xe := passes_of rfl
    exact b_cons (s_if (t_not (t_val (SE.look (e_isi T.b_isinstance T.b_int PyProof.Rows.boot_int (p_var (i := 0)))))) (b_cons (s_unpack (e_var (i := 0)) (g_names rfl (gs_cons (i := 1) sc_check_narrow.nd (gs_cons (i := 2) sc_check_narrow.nd (gs_nil))))) (b_cons (s_if (t_w (w_and (t_cmp (o_eq hr.units) (p_var (i := 1)) (SE.look (e_str))) (w_one (t_cmp o_gt (SE.look (e_callB c_len T.b_len PySem.boot_len (k_cons (p_var (i := 2)) (k_nil)))) (SE.look (e_gint T.i_MOST_PARTS.choose_spec)))))) (b_cons (s_raise rfl tk T.x_OutOfRange) (b_nil)) (b_nil)) (b_cons (s_for hp rfl (i_seq (e_var (i := 2))) (g_name (i := 3) sc_check_narrow.nd) (b_cons (s_expr (e_call c_ hr tk (a_cons (e_var (i := 3)) (a_nil)))) (b_nil))) (b_nil)))) (b_nil)) (b_cons (s_retV (i := 0)) (b_nil))
theorem sc_joined : FnScope ["orders", "order", "thing"] ["orders"] (defScope (topS 20)) := ⟨rfl, rfl, rfl, by decide +kernel, rfl, by decide +kernel, by decide +kernel⟩
def st_joined : M Fl := sq (bnd (mComp2 (mSeq (eVar 0)) (tName 1) (ret true) (mSeq (eVar 1)) (tName 2) (ret true) (eVar 2) [1, 2] [2]) mRet) (ret .nx)
def fn_joined : Fn := runF 3 1 st_joined
theorem ok_joined (T : Top w K mg cm) (F : Fun K "joined" "joined" (topS 20) f fd) (hg : mg "joined" = some (.ref f)) (hb : Binds K fd ["orders"] []) : Cal P w K mg base cm 1 "joined" fn_joined := by
  refine def_ok (k := 0) (m := st_joined) F sc_joined hg hb ?_ (by decide)
  intro cdv A outer s H E hr
  have tk : L2.Takes (cxOf (L2.CX P w) P w K mg base ["orders", "order", "thing"] "joined" (defScope (topS 20)) f cdv A outer s H E) (fun cls d _ H => E cls d H) := takes_of rfl rfl rfl rfl
  have hp : PassesOwn (model P w) (cxOf (L2.CX P w) P w K mg base ["orders", "order", "thing"] "joined" (defScope (topS 20)) f cdv A outer s H E).A (cxOf (L2.CX P w) P w K mg base ["orders", "order", "thing"] "joined" (defScope (topS 20)) f cdv A outer s H E).env (cxOf (L2.CX P w) P w K mg base ["orders", "order", "thing"] "joined" (defScope (topS 20)) f cdv A outer s H E).xe := passes_of rfl
  exact b_cons (s_ret (e_comp2V (N := ["orders", "order", "thing"]) (sc := defScope (topS 20)) (vs := [1, 2]) [2] [("order", 1), ("thing", 2)] rfl sc_joined.nd (by decide +kernel) (i_seq (e_var (i := 0))) (fun _ _ _ _ _ => g_name (i := 1) sc_joined.nd) (fun _ _ _ _ _ => ts_nil) (fun _ _ _ _ _ => i_seq (e_var (i := 1))) (fun _ _ _ _ _ => g_name (i := 2) sc_joined.nd) (fun _ _ _ _ _ => ts_nil) (fun _ _ _ _ _ => e_var (i := 2)))) (b_nil)
theorem sc_least_listed : FnScope ["tree", "word", "parts", "orders", "part"] ["tree"] (defScope (topS 21)) := ⟨rfl, rfl, rfl, by decide +kernel, rfl, by decide +kernel, by decide +kernel⟩
def st_least_listed (r_ : Fn) : M Fl := sq (mIfS (tTru (look (mIsi "int" (pVar 0)))) (sq (bnd (mLst (aCons (eVar 0) (ret []))) mRet) (ret .nx)) (ret .nx)) (sq (bnd (eVar 0) fun r => mTgt (tNames [1, 2]) r.1) (sq (bnd (mComp (mSeq (eVar 2)) (tName 4) (ret true) (eFn r_ (aCons (eVar 4) (ret []))) [4]) (setR 3)) (sq (mIfS (blOf (eOp (gEq false) (pVar 1) (look (eC (.str "any"))))) (sq (bnd (eFn fn_joined (aCons (eCall gSortL (kCons (pVar 3) (ret []))) (ret []))) mRet) (ret .nx)) (ret .nx)) (sq (bnd (eCall gMinL (aCons (eFn fn_joined (aCons (eVar 3) (ret []))) (aCons (eFn fn_joined (aCons (mRevA (pVar 3)) (ret []))) (ret [])))) mRet) (ret .nx)))))
def fn_least_listed : Nat → Fn
  | 0 => fun _ => .bad
  | d + 1 => runF 5 1 (st_least_listed (fn_least_listed d))
theorem ok_least_listed (T : Top w K mg cm) (F : Fun K "least_listed" "least_listed" (topS 21) f fd) (hg : mg "least_listed" = some (.ref f)) (hb : Binds K fd ["tree"] []) (c_joined : Cal P w K mg base cm 1 "joined" fn_joined) : ∀ d : Nat, Cal P w K mg base cm (1 + d) "least_listed" (fn_least_listed d)
  | 0 => (cal_bad F hg hb).mono (Nat.zero_le _)
  | d + 1 => by
    have c_ := ok_least_listed T F hg hb c_joined d
    refine def_ok (m := st_least_listed (fn_least_listed d)) F sc_least_listed hg hb ?_ (by decide)
    intro cdv A outer s H E hr
    have tk : L2.Takes (cxOf (L2.CX P w) P w K mg base ["tree", "word", "parts", "orders", "part"] "least_listed" (defScope (topS 21)) f cdv A outer s H E) (fun cls d _ H => E cls d H) := takes_of rfl rfl rfl rfl
    have hp : PassesOwn (model P w) (cxOf (L2.CX P w) P w K mg base ["tree", "word", "parts", "orders", "part"] "least_listed" (defScope (topS 21)) f cdv A outer s H E).A (cxOf (L2.CX P w) P w K mg base ["tree", "word", "parts", "orders", "part"] "least_listed" (defScope (topS 21)) f cdv A outer s H E).env (cxOf (L2.CX P w) P w K mg base ["tree", "word", "parts", "orders", "part"] "least_listed" (defScope (topS 21)) f cdv A outer s H E).xe := passes_of rfl
    have c_joined : Cal P w K mg base cm (1 + d) "joined" fn_joined := c_joined.mono (by omega)
    exact b_cons (s_if (t_val (SE.look (e_isi T.b_isinstance T.b_int PyProof.Rows.boot_int (p_var (i := 0))))) (b_cons (s_ret (e_lst (a_cons (e_var (i := 0)) (a_nil)))) (b_nil)) (b_nil)) (b_cons (s_unpack (e_var (i := 0)) (g_names rfl (gs_cons (i := 1) sc_least_listed.nd (gs_cons (i := 2) sc_least_listed.nd (gs_nil))))) (b_cons (s_setCompV (i := 3) (N := ["tree", "word", "parts", "orders", "part"]) (sc := defScope (topS 21)) (vs := [4]) [("part", 4)] rfl sc_least_listed.nd rfl (by decide +kernel) (i_seq (e_var (i := 2))) (fun _ _ _ _ _ => g_name (i := 4) sc_least_listed.nd) (fun _ _ _ _ _ => ts_nil) (fun _ _ _ _ _ => e_call c_ hr L2.takes0 (a_cons (e_var (i := 4)) (a_nil)))) (b_cons (s_if (t_cmp (o_eq hr.units) (p_var (i := 1)) (SE.look (e_str))) (b_cons (s_ret (e_call c_joined hr tk (a_cons (e_callB (c_sortL hr.units) T.b_sorted PyProof.Rows.boot_sorted (k_cons (p_var (i := 3)) (k_nil))) (a_nil)))) (b_nil)) (b_nil)) (b_cons (s_ret (e_callBF (c_minL rfl hr.units) T.b_min PyProof.Rows.boot_min (a_cons (e_call c_joined hr tk (a_cons (e_var (i := 3)) (a_nil))) (a_cons (e_call c_joined hr tk (a_cons (e_revA (p_var (i := 3))) (a_nil))) (a_nil))))) (b_nil)))))
theorem sc_least_order : FnScope ["tree"] ["tree"] (defScope (topS 22)) := ⟨rfl, rfl, rfl, by decide +kernel, rfl, by decide +kernel, by decide +kernel⟩
def st_least_order : M Fl := sq (bnd (eFn fn_check_own_tree (aCons (eVar 0) (ret []))) fun _ => ret .nx) (sq (bnd (eCall gTuple (kCons (look (eFn (fn_least_listed 40) (aCons (eVar 0) (ret [])))) (ret []))) mRet) (ret .nx))
def fn_least_order : Fn := runF 1 1 st_least_order
theorem ok_least_order (T : Top w K mg cm) (F : Fun K "least_order" "least_order" (topS 22) f fd) (hg : mg "least_order" = some (.ref f)) (hb : Binds K fd ["tree"] []) (c_check_own_tree : Cal P w K mg base cm 44 "check_own_tree" fn_check_own_tree) (c_least_listed : Cal P w K mg base cm 41 "least_listed" (fn_least_listed 40)) : Cal P w K mg base cm 45 "least_order" fn_least_order := by
  refine def_ok (k := 44) (m := st_least_order) F sc_least_order hg hb ?_ (by decide)
  intro cdv A outer s H E hr
  have tk : L2.Takes (cxOf (L2.CX P w) P w K mg base ["tree"] "least_order" (defScope (topS 22)) f cdv A outer s H E) (fun cls d _ H => E cls d H) := takes_of rfl rfl rfl rfl
  have hp : PassesOwn (model P w) (cxOf (L2.CX P w) P w K mg base ["tree"] "least_order" (defScope (topS 22)) f cdv A outer s H E).A (cxOf (L2.CX P w) P w K mg base ["tree"] "least_order" (defScope (topS 22)) f cdv A outer s H E).env (cxOf (L2.CX P w) P w K mg base ["tree"] "least_order" (defScope (topS 22)) f cdv A outer s H E).xe := passes_of rfl
  have c_check_own_tree : Cal P w K mg base cm 44 "check_own_tree" fn_check_own_tree := c_check_own_tree.mono (by omega)
  have c_least_listed : Cal P w K mg base cm 44 "least_listed" (fn_least_listed 40) := c_least_listed.mono (by omega)
  exact b_cons (s_expr (e_call c_check_own_tree hr tk (a_cons (e_var (i := 0)) (a_nil)))) (b_cons (s_ret (e_callTy c_tuple T.b_tuple PyProof.Rows.boot_tuple (k_cons (SE.look (e_call c_least_listed hr tk (a_cons (e_var (i := 0)) (a_nil)))) (k_nil)))) (b_nil))
theorem sc_turned : FnScope ["wanted", "ahead", "behind", "thing", "other"] ["wanted", "ahead", "behind"] (defScope (topS 24)) := ⟨rfl, rfl, rfl, by decide +kernel, rfl, by decide +kernel, by decide +kernel⟩
def st_turned : M Fl := sq (bnd (eCall gSum (kCons (look (mComp2 (mSeq (eVar 1)) (tName 3) (ret true) (mSeq (eVar 2)) (tName 4) (blOf (eOp cGt (look (mIndex (pVar 0) (pVar 3))) (look (mIndex (pVar 0) (pVar 4))))) (eC (.int 1)) [3, 4] [4])) (ret []))) mRet) (ret .nx)
def fn_turned : Fn := runF 5 3 st_turned
theorem ok_turned (T : Top w K mg cm) (F : Fun K "turned" "turned" (topS 24) f fd) (hg : mg "turned" = some (.ref f)) (hb : Binds K fd ["wanted", "ahead", "behind"] []) : Cal P w K mg base cm 1 "turned" fn_turned := by
  refine def_ok (k := 0) (m := st_turned) F sc_turned hg hb ?_ (by decide)
  intro cdv A outer s H E hr
  have tk : L2.Takes (cxOf (L2.CX P w) P w K mg base ["wanted", "ahead", "behind", "thing", "other"] "turned" (defScope (topS 24)) f cdv A outer s H E) (fun cls d _ H => E cls d H) := takes_of rfl rfl rfl rfl
  have hp : PassesOwn (model P w) (cxOf (L2.CX P w) P w K mg base ["wanted", "ahead", "behind", "thing", "other"] "turned" (defScope (topS 24)) f cdv A outer s H E).A (cxOf (L2.CX P w) P w K mg base ["wanted", "ahead", "behind", "thing", "other"] "turned" (defScope (topS 24)) f cdv A outer s H E).env (cxOf (L2.CX P w) P w K mg base ["wanted", "ahead", "behind", "thing", "other"] "turned" (defScope (topS 24)) f cdv A outer s H E).xe := passes_of rfl
  exact b_cons (s_ret (e_callB (c_sum rfl) T.b_sum (by decide) (k_cons (SE.look (e_comp2V (N := ["wanted", "ahead", "behind", "thing", "other"]) (sc := defScope (topS 24)) (vs := [3, 4]) [4] [("thing", 3), ("other", 4)] rfl sc_turned.nd (by decide +kernel) (i_seq (e_var (i := 1))) (fun _ _ _ _ _ => g_name (i := 3) sc_turned.nd) (fun _ _ _ _ _ => ts_nil) (fun _ _ _ _ _ => i_seq (e_var (i := 2))) (fun _ _ _ _ _ => g_name (i := 4) sc_turned.nd) (fun _ _ _ _ _ => ts_one (t_cmp o_gt (SE.look (e_index (p_var (i := 0)) (p_var (i := 3)))) (SE.look (e_index (p_var (i := 0)) (p_var (i := 4)))))) (fun _ _ _ _ _ => e_int))) (k_nil)))) (b_nil)
theorem sc_distance : FnScope ["order", "other", "at"] ["order", "other"] (defScope (topS 25)) := ⟨rfl, rfl, rfl, by decide +kernel, rfl, by decide +kernel, by decide +kernel⟩
def st_distance : M Fl := sq (bnd (eFn fn_check_order (aCons (eCall gLen (kCons (pVar 0) (ret []))) (aCons (eVar 0) (ret [])))) fun _ => ret .nx) (sq (bnd (eFn fn_check_order (aCons (eCall gLen (kCons (pVar 0) (ret []))) (aCons (eVar 1) (ret [])))) fun _ => ret .nx) (sq (bnd (eCall gSum (kCons (look (mComp (mRng1 (kCons (look (eCall gLen (kCons (pVar 0) (ret [])))) (ret []))) (tName 2) (ret true) (eFn fn_turned (aCons (eVar 1) (aCons (mLst (aCons (eOp gIx (pVar 0) (pVar 2)) (ret []))) (aCons (eSl (pVar 0) (soInt (look (eOp gAdd (pVar 2) (look (eC (.int 1)))))) (ret none)) (ret []))))) [2])) (ret []))) mRet) (ret .nx)))
def fn_distance : Fn := runF 3 2 st_distance
theorem ok_distance (T : Top w K mg cm) (F : Fun K "distance" "distance" (topS 25) f fd) (hg : mg "distance" = some (.ref f)) (hb : Binds K fd ["order", "other"] []) (c_check_order : Cal P w K mg base cm 2 "check_order" fn_check_order) (c_turned : Cal P w K mg base cm 1 "turned" fn_turned) : Cal P w K mg base cm 3 "distance" fn_distance := by
  refine def_ok (k := 2) (m := st_distance) F sc_distance hg hb ?_ (by decide)
  intro cdv A outer s H E hr
  have tk : L2.Takes (cxOf (L2.CX P w) P w K mg base ["order", "other", "at"] "distance" (defScope (topS 25)) f cdv A outer s H E) (fun cls d _ H => E cls d H) := takes_of rfl rfl rfl rfl
  have hp : PassesOwn (model P w) (cxOf (L2.CX P w) P w K mg base ["order", "other", "at"] "distance" (defScope (topS 25)) f cdv A outer s H E).A (cxOf (L2.CX P w) P w K mg base ["order", "other", "at"] "distance" (defScope (topS 25)) f cdv A outer s H E).env (cxOf (L2.CX P w) P w K mg base ["order", "other", "at"] "distance" (defScope (topS 25)) f cdv A outer s H E).xe := passes_of rfl
  have c_check_order : Cal P w K mg base cm 2 "check_order" fn_check_order := c_check_order.mono (by omega)
  have c_turned : Cal P w K mg base cm 2 "turned" fn_turned := c_turned.mono (by omega)
  exact b_cons (s_expr (e_call c_check_order hr tk (a_cons (e_callB c_len T.b_len PySem.boot_len (k_cons (p_var (i := 0)) (k_nil))) (a_cons (e_var (i := 0)) (a_nil))))) (b_cons (s_expr (e_call c_check_order hr tk (a_cons (e_callB c_len T.b_len PySem.boot_len (k_cons (p_var (i := 0)) (k_nil))) (a_cons (e_var (i := 1)) (a_nil))))) (b_cons (s_ret (e_callB (c_sum rfl) T.b_sum (by decide) (k_cons (SE.look (e_compV (N := ["order", "other", "at"]) (sc := defScope (topS 25)) (vs := [2]) [("at", 2)] rfl sc_distance.nd (by decide +kernel) (i_range1 T.b_range (k_cons (SE.look (e_callB c_len T.b_len PySem.boot_len (k_cons (p_var (i := 0)) (k_nil)))) (k_nil))) (fun _ _ _ _ _ => g_name (i := 2) sc_distance.nd) (fun _ _ _ _ _ => ts_nil) (fun _ _ _ _ _ => e_call c_turned hr L2.takes0 (a_cons (e_var (i := 1)) (a_cons (e_lst (a_cons (e_ix (p_var (i := 0)) (p_var (i := 2))) (a_nil))) (a_cons (e_sl (p_var (i := 0)) (so_some (SE.look (e_bin o_addG (p_var (i := 2)) (SE.look (e_int))))) so_none) (a_nil))))))) (k_nil)))) (b_nil)))
theorem sc_put_behind : FnScope ["costs", "found", "last", "cost", "sequence", "part"] ["costs", "found", "last"] (defScope (topS 26)) := ⟨rfl, rfl, rfl, by decide +kernel, rfl, by decide +kernel, by decide +kernel⟩
def st_put_behind : M Fl := sq (bnd (eVar 1) fun r => mTgt (tNames [3, 4]) r.1) (sq (bnd (mTup (aCons (eOp gAdd (pVar 3) (look (eCall gSum (kCons (look (mComp (mSeq (eVar 4)) (tName 5) (ret true) (eOp gIx (look (eOp gIx (pVar 0) (pVar 5))) (pVar 2)) [5])) (ret []))))) (aCons (eOp gAdd (pVar 4) (look (mTup (aCons (eVar 2) (ret []))))) (ret [])))) mRet) (ret .nx))
def fn_put_behind : Fn := runF 6 3 st_put_behind
theorem ok_put_behind (T : Top w K mg cm) (F : Fun K "put_behind" "put_behind" (topS 26) f fd) (hg : mg "put_behind" = some (.ref f)) (hb : Binds K fd ["costs", "found", "last"] []) : Cal P w K mg base cm 1 "put_behind" fn_put_behind := by
  refine def_ok (k := 0) (m := st_put_behind) F sc_put_behind hg hb ?_ (by decide)
  intro cdv A outer s H E hr
  have tk : L2.Takes (cxOf (L2.CX P w) P w K mg base ["costs", "found", "last", "cost", "sequence", "part"] "put_behind" (defScope (topS 26)) f cdv A outer s H E) (fun cls d _ H => E cls d H) := takes_of rfl rfl rfl rfl
  have hp : PassesOwn (model P w) (cxOf (L2.CX P w) P w K mg base ["costs", "found", "last", "cost", "sequence", "part"] "put_behind" (defScope (topS 26)) f cdv A outer s H E).A (cxOf (L2.CX P w) P w K mg base ["costs", "found", "last", "cost", "sequence", "part"] "put_behind" (defScope (topS 26)) f cdv A outer s H E).env (cxOf (L2.CX P w) P w K mg base ["costs", "found", "last", "cost", "sequence", "part"] "put_behind" (defScope (topS 26)) f cdv A outer s H E).xe := passes_of rfl
  exact b_cons (s_unpack (e_var (i := 1)) (g_names rfl (gs_cons (i := 3) sc_put_behind.nd (gs_cons (i := 4) sc_put_behind.nd (gs_nil))))) (b_cons (s_ret (e_tup (a_cons (e_bin o_addG (p_var (i := 3)) (SE.look (e_callB (c_sum rfl) T.b_sum (by decide) (k_cons (SE.look (e_compV (N := ["costs", "found", "last", "cost", "sequence", "part"]) (sc := defScope (topS 26)) (vs := [5]) [("part", 5)] rfl sc_put_behind.nd (by decide +kernel) (i_seq (e_var (i := 4))) (fun _ _ _ _ _ => g_name (i := 5) sc_put_behind.nd) (fun _ _ _ _ _ => ts_nil) (fun _ _ _ _ _ => e_ix (SE.look (e_ix (p_var (i := 0)) (p_var (i := 5)))) (p_var (i := 2))))) (k_nil))))) (a_cons (e_bin o_addG (p_var (i := 4)) (SE.look (e_tup (a_cons (e_var (i := 2)) (a_nil))))) (a_nil))))) (b_nil))
theorem sc_best_sequence : FnScope ["costs", "many", "best", "group", "lasts", "part", "last"] ["costs"] (defScope (topS 27)) := ⟨rfl, rfl, rfl, by decide +kernel, rfl, by decide +kernel, by decide +kernel⟩
def st_best_sequence : M Fl := sq (bnd (eCall gLen (kCons (pVar 0) (ret []))) (setR 1)) (sq (bnd (look (eC (.int 0))) fun y => bnd (mTup (aCons (eC (.int 0)) (aCons (mTup (ret [])) (ret [])))) fun r => mNewD 2 y r.1) (sq (bnd (mRng2 (kCons (look (eC (.int 1))) (kCons (look (eOp gShl (look (eC (.int 1))) (pVar 1))) (ret [])))) (loop (tName 3) (sq (bnd (mComp (mRng1 (kCons (pVar 1) (ret []))) (tName 5) (tTru (look (eOp gOdd (look (eOp gShr (pVar 3) (pVar 5))) (look (eC (.int 1)))))) (eVar 5) [5]) (setR 4)) (sq (bnd (eCall gMinD (kCons (look (mComp (mSeq (eVar 4)) (tName 6) (ret true) (eFn fn_put_behind (aCons (eVar 0) (aCons (mGetD 2 (look (eOp aSub (pVar 3) (look (eOp gShl (look (eC (.int 1))) (pVar 6)))))) (aCons (eVar 6) (ret []))))) [6])) (ret []))) fun r => mPutD 2 (pVar 3) r.1) (ret .nx))))) (sq (bnd (mGetD 2 (look (eOp aSub (look (eOp gShl (look (eC (.int 1))) (pVar 1))) (look (eC (.int 1)))))) mRet) (ret .nx))))
def fn_best_sequence : Fn := runF 7 1 st_best_sequence
theorem ok_best_sequence (T : Top w K mg cm) (F : Fun K "best_sequence" "best_sequence" (topS 27) f fd) (hg : mg "best_sequence" = some (.ref f)) (hb : Binds K fd ["costs"] []) (c_put_behind : Cal P w K mg base cm 1 "put_behind" fn_put_behind) : Cal P w K mg base cm 2 "best_sequence" fn_best_sequence := by
  refine def_ok (k := 1) (m := st_best_sequence) F sc_best_sequence hg hb ?_ (by decide)
  intro cdv A outer s H E hr
  have tk : L2.Takes (cxOf (L2.CX P w) P w K mg base ["costs", "many", "best", "group", "lasts", "part", "last"] "best_sequence" (defScope (topS 27)) f cdv A outer s H E) (fun cls d _ H => E cls d H) := takes_of rfl rfl rfl rfl
  have hp : PassesOwn (model P w) (cxOf (L2.CX P w) P w K mg base ["costs", "many", "best", "group", "lasts", "part", "last"] "best_sequence" (defScope (topS 27)) f cdv A outer s H E).A (cxOf (L2.CX P w) P w K mg base ["costs", "many", "best", "group", "lasts", "part", "last"] "best_sequence" (defScope (topS 27)) f cdv A outer s H E).env (cxOf (L2.CX P w) P w K mg base ["costs", "many", "best", "group", "lasts", "part", "last"] "best_sequence" (defScope (topS 27)) f cdv A outer s H E).xe := passes_of rfl
  have c_put_behind : Cal P w K mg base cm 1 "put_behind" fn_put_behind := c_put_behind.mono (by omega)
  exact b_cons (s_set (i := 1) sc_best_sequence.nd (e_callB c_len T.b_len PySem.boot_len (k_cons (p_var (i := 0)) (k_nil)))) (b_cons (s_newD (i := 2) sc_best_sequence.nd (SE.look (e_int)) (e_tup (a_cons (e_int) (a_cons (e_tup (a_nil)) (a_nil))))) (b_cons (s_for hp rfl (i_range2 T.b_range (k_cons (SE.look (e_int)) (k_cons (SE.look (e_bin o_shl (SE.look (e_int)) (p_var (i := 1)))) (k_nil)))) (g_name (i := 3) sc_best_sequence.nd) (b_cons (s_setCompV (i := 4) (N := ["costs", "many", "best", "group", "lasts", "part", "last"]) (sc := defScope (topS 27)) (vs := [5]) [("part", 5)] rfl sc_best_sequence.nd rfl (by decide +kernel) (i_range1 T.b_range (k_cons (p_var (i := 1)) (k_nil))) (fun _ _ _ _ _ => g_name (i := 5) sc_best_sequence.nd) (fun _ _ _ _ _ => ts_one (t_val (SE.look (e_bin o_odd (SE.look (e_bin o_shr (p_var (i := 3)) (p_var (i := 5)))) (SE.look (e_int)))))) (fun _ _ _ _ _ => e_var (i := 5))) (b_cons (s_putD (i := 2) hr.units (p_var (i := 3)) (e_callB (c_minD rfl hr.units) T.b_min PyProof.Rows.boot_min (k_cons (SE.look (e_compV (N := ["costs", "many", "best", "group", "lasts", "part", "last"]) (sc := defScope (topS 27)) (vs := [6]) [("last", 6)] rfl sc_best_sequence.nd (by decide +kernel) (i_seq (e_var (i := 4))) (fun _ _ _ _ _ => g_name (i := 6) sc_best_sequence.nd) (fun _ _ _ _ _ => ts_nil) (fun _ _ _ _ _ => e_call c_put_behind hr L2.takes0 (a_cons (e_var (i := 0)) (a_cons (e_getD (i := 2) hr.units (SE.look (e_bin o_sub (p_var (i := 3)) (SE.look (e_bin o_shl (SE.look (e_int)) (p_var (i := 6))))))) (a_cons (e_var (i := 6)) (a_nil))))))) (k_nil)))) (b_nil)))) (b_cons (s_ret (e_getD (i := 2) hr.units (SE.look (e_bin o_sub (SE.look (e_bin o_shl (SE.look (e_int)) (p_var (i := 1)))) (SE.look (e_int)))))) (b_nil))))
theorem sc_best_direction : FnScope ["costs", "onward", "pairs", "back_pairs", "part", "other"] ["costs"] (defScope (topS 28)) := ⟨rfl, rfl, rfl, by decide +kernel, rfl, by decide +kernel, by decide +kernel⟩
def st_best_direction : M Fl := sq (bnd (mLstRg (mRg1 (look (eCall gLen (kCons (pVar 0) (ret [])))))) (setR 1)) (sq (bnd (mComp (mComb (pVar 1) (look (eC (.int 2)))) (tNames [4, 5]) (ret true) (eOp gIx (look (eOp gIx (pVar 0) (pVar 4))) (pVar 5)) [4, 5]) (setR 2)) (sq (bnd (mComp (mComb (pVar 1) (look (eC (.int 2)))) (tNames [4, 5]) (ret true) (eOp gIx (look (eOp gIx (pVar 0) (pVar 5))) (pVar 4)) [4, 5]) (setR 3)) (sq (bnd (eCall gMinD2 (aCons (mTup (aCons (eCall gSum (kCons (pVar 2) (ret []))) (aCons (eVar 1) (ret [])))) (aCons (mTup (aCons (eCall gSum (kCons (pVar 3) (ret []))) (aCons (mRevA (pVar 1)) (ret [])))) (ret [])))) mRet) (ret .nx))))
def fn_best_direction : Fn := runF 6 1 st_best_direction
theorem ok_best_direction (T : Top w K mg cm) (F : Fun K "best_direction" "best_direction" (topS 28) f fd) (hg : mg "best_direction" = some (.ref f)) (hb : Binds K fd ["costs"] []) : Cal P w K mg base cm 1 "best_direction" fn_best_direction := by
  refine def_ok (k := 0) (m := st_best_direction) F sc_best_direction hg hb ?_ (by decide)
  intro cdv A outer s H E hr
  have tk : L2.Takes (cxOf (L2.CX P w) P w K mg base ["costs", "onward", "pairs", "back_pairs", "part", "other"] "best_direction" (defScope (topS 28)) f cdv A outer s H E) (fun cls d _ H => E cls d H) := takes_of rfl rfl rfl rfl
  have hp : PassesOwn (model P w) (cxOf (L2.CX P w) P w K mg base ["costs", "onward", "pairs", "back_pairs", "part", "other"] "best_direction" (defScope (topS 28)) f cdv A outer s H E).A (cxOf (L2.CX P w) P w K mg base ["costs", "onward", "pairs", "back_pairs", "part", "other"] "best_direction" (defScope (topS 28)) f cdv A outer s H E).env (cxOf (L2.CX P w) P w K mg base ["costs", "onward", "pairs", "back_pairs", "part", "other"] "best_direction" (defScope (topS 28)) f cdv A outer s H E).xe := passes_of rfl
  exact b_cons (s_set (i := 1) sc_best_direction.nd (e_lstRg rfl T.b_list (r_1 T.b_range (SE.look (e_callB c_len T.b_len PySem.boot_len (k_cons (p_var (i := 0)) (k_nil))))))) (b_cons (s_setCompV (i := 2) (N := ["costs", "onward", "pairs", "back_pairs", "part", "other"]) (sc := defScope (topS 28)) (vs := [4, 5]) [("part", 4), ("other", 5)] rfl sc_best_direction.nd rfl (by decide +kernel) (i_comb T.f_combinations (p_var (i := 1)) (SE.look (e_int))) (fun _ _ _ _ _ => g_names rfl (gs_cons (i := 4) sc_best_direction.nd (gs_cons (i := 5) sc_best_direction.nd (gs_nil)))) (fun _ _ _ _ _ => ts_nil) (fun _ _ _ _ _ => e_ix (SE.look (e_ix (p_var (i := 0)) (p_var (i := 4)))) (p_var (i := 5)))) (b_cons (s_setCompV (i := 3) (N := ["costs", "onward", "pairs", "back_pairs", "part", "other"]) (sc := defScope (topS 28)) (vs := [4, 5]) [("part", 4), ("other", 5)] rfl sc_best_direction.nd rfl (by decide +kernel) (i_comb T.f_combinations (p_var (i := 1)) (SE.look (e_int))) (fun _ _ _ _ _ => g_names rfl (gs_cons (i := 4) sc_best_direction.nd (gs_cons (i := 5) sc_best_direction.nd (gs_nil)))) (fun _ _ _ _ _ => ts_nil) (fun _ _ _ _ _ => e_ix (SE.look (e_ix (p_var (i := 0)) (p_var (i := 5)))) (p_var (i := 4)))) (b_cons (s_ret (e_callBF (c_minD2 rfl hr.units) T.b_min PyProof.Rows.boot_min (a_cons (e_tup (a_cons (e_callB (c_sum rfl) T.b_sum (by decide) (k_cons (p_var (i := 2)) (k_nil))) (a_cons (e_var (i := 1)) (a_nil)))) (a_cons (e_tup (a_cons (e_callB (c_sum rfl) T.b_sum (by decide) (k_cons (p_var (i := 3)) (k_nil))) (a_cons (e_revA (p_var (i := 1))) (a_nil)))) (a_nil))))) (b_nil))))
theorem sc_nearest_listed : FnScope ["tree", "wanted", "word", "parts", "found", "orders", "costs", "cost", "sequence", "within", "part", "_", "order", "ahead", "behind", "least", "at"] ["tree", "wanted"] (defScope (topS 29)) := ⟨rfl, rfl, rfl, by decide +kernel, rfl, by decide +kernel, by decide +kernel⟩
def st_nearest_listed (r_ : Fn) : M Fl := sq (mIfS (tTru (look (mIsi "int" (pVar 0)))) (sq (bnd (mTup (aCons (eC (.int 0)) (aCons (mLst (aCons (eVar 0) (ret []))) (ret [])))) mRet) (ret .nx)) (ret .nx)) (sq (bnd (eVar 0) fun r => mTgt (tNames [2, 3]) r.1) (sq (bnd (mComp (mSeq (eVar 3)) (tName 10) (ret true) (eFn r_ (aCons (eVar 10) (aCons (eVar 1) (ret [])))) [10]) (setR 4)) (sq (bnd (mComp (mSeq (eVar 4)) (tNames [11, 12]) (ret true) (eVar 12) [11, 12]) (setR 5)) (sq (bnd (mComp (mSeq (eVar 5)) (tName 13) (ret true) (mComp (mSeq (eVar 5)) (tName 14) (ret true) (eFn fn_turned (aCons (eVar 1) (aCons (eVar 13) (aCons (eVar 14) (ret []))))) [14]) [13]) (setR 6)) (sq (bnd (mIf (blOf (eOp (gEq false) (pVar 2) (look (eC (.str "any"))))) (eFn fn_best_sequence (aCons (eVar 6) (ret []))) (eFn fn_best_direction (aCons (eVar 6) (ret [])))) fun r => mTgt (tNames [7, 8]) r.1) (sq (bnd (eCall gSum (kCons (look (mComp (mSeq (eVar 4)) (tNames [15, 11]) (ret true) (eVar 15) [11, 15])) (ret []))) (setR 9)) (sq (bnd (mTup (aCons (eOp gAdd (pVar 9) (pVar 7)) (aCons (eFn fn_joined (aCons (mComp (mSeq (eVar 8)) (tName 16) (ret true) (eOp gIx (pVar 5) (pVar 16)) [16]) (ret []))) (ret [])))) mRet) (ret .nx))))))))
def fn_nearest_listed : Nat → Fn
  | 0 => fun _ => .bad
  | d + 1 => runF 17 2 (st_nearest_listed (fn_nearest_listed d))
theorem ok_nearest_listed (T : Top w K mg cm) (F : Fun K "nearest_listed" "nearest_listed" (topS 29) f fd) (hg : mg "nearest_listed" = some (.ref f)) (hb : Binds K fd ["tree", "wanted"] []) (c_joined : Cal P w K mg base cm 1 "joined" fn_joined) (c_turned : Cal P w K mg base cm 1 "turned" fn_turned) (c_best_sequence : Cal P w K mg base cm 2 "best_sequence" fn_best_sequence) (c_best_direction : Cal P w K mg base cm 1 "best_direction" fn_best_direction) : ∀ d : Nat, Cal P w K mg base cm (2 + d) "nearest_listed" (fn_nearest_listed d)
  | 0 => (cal_bad F hg hb).mono (Nat.zero_le _)
  | d + 1 => by
    have c_ := ok_nearest_listed T F hg hb c_joined c_turned c_best_sequence c_best_direction d
    refine def_ok (m := st_nearest_listed (fn_nearest_listed d)) F sc_nearest_listed hg hb ?_ (by decide)
    intro cdv A outer s H E hr
    have tk : L2.Takes (cxOf (L2.CX P w) P w K mg base ["tree", "wanted", "word", "parts", "found", "orders", "costs", "cost", "sequence", "within", "part", "_", "order", "ahead", "behind", "least", "at"] "nearest_listed" (defScope (topS 29)) f cdv A outer s H E) (fun cls d _ H => E cls d H) := takes_of rfl rfl rfl rfl
    have hp : PassesOwn (model P w) (cxOf (L2.CX P w) P w K mg base ["tree", "wanted", "word", "parts", "found", "orders", "costs", "cost", "sequence", "within", "part", "_", "order", "ahead", "behind", "least", "at"] "nearest_listed" (defScope (topS 29)) f cdv A outer s H E).A (cxOf (L2.CX P w) P w K mg base ["tree", "wanted", "word", "parts", "found", "orders", "costs", "cost", "sequence", "within", "part", "_", "order", "ahead", "behind", "least", "at"] "nearest_listed" (defScope (topS 29)) f cdv A outer s H E).env (cxOf (L2.CX P w) P w K mg base ["tree", "wanted", "word", "parts", "found", "orders", "costs", "cost", "sequence", "within", "part", "_", "order", "ahead", "behind", "least", "at"] "nearest_listed" (defScope (topS 29)) f cdv A outer s H E).xe := passes_of rfl
    have c_joined : Cal P w K mg base cm (2 + d) "joined" fn_joined := c_joined.mono (by omega)
    have c_turned : Cal P w K mg base cm (2 + d) "turned" fn_turned := c_turned.mono (by omega)
    have c_best_sequence : Cal P w K mg base cm (2 + d) "best_sequence" fn_best_sequence := c_best_sequence.mono (by omega)
    have c_best_direction : Cal P w K mg base cm (2 + d) "best_direction" fn_best_direction := c_best_direction.mono (by omega)
    exact b_cons (s_if (t_val (SE.look (e_isi T.b_isinstance T.b_int PyProof.Rows.boot_int (p_var (i := 0))))) (b_cons (s_ret (e_tup (a_cons (e_int) (a_cons (e_lst (a_cons (e_var (i := 0)) (a_nil))) (a_nil))))) (b_nil)) (b_nil)) (b_cons (s_unpack (e_var (i := 0)) (g_names rfl (gs_cons (i := 2) sc_nearest_listed.nd (gs_cons (i := 3) sc_nearest_listed.nd (gs_nil))))) (b_cons (s_setCompV (i := 4) (N := ["tree", "wanted", "word", "parts", "found", "orders", "costs", "cost", "sequence", "within", "part", "_", "order", "ahead", "behind", "least", "at"]) (sc := defScope (topS 29)) (vs := [10]) [("part", 10)] rfl sc_nearest_listed.nd rfl (by decide +kernel) (i_seq (e_var (i := 3))) (fun _ _ _ _ _ => g_name (i := 10) sc_nearest_listed.nd) (fun _ _ _ _ _ => ts_nil) (fun _ _ _ _ _ => e_call c_ hr L2.takes0 (a_cons (e_var (i := 10)) (a_cons (e_var (i := 1)) (a_nil))))) (b_cons (s_set (i := 5) sc_nearest_listed.nd (e_compV (N := ["tree", "wanted", "word", "parts", "found", "orders", "costs", "cost", "sequence", "within", "part", "_", "order", "ahead", "behind", "least", "at"]) (sc := defScope (topS 29)) (vs := [11, 12]) [("_", 11), ("order", 12)] rfl sc_nearest_listed.nd (by decide +kernel) (i_seq (e_var (i := 4))) (fun _ _ _ _ _ => g_names rfl (gs_cons (i := 11) sc_nearest_listed.nd (gs_cons (i := 12) sc_nearest_listed.nd (gs_nil)))) (fun _ _ _ _ _ => ts_nil) (fun _ _ _ _ _ => e_var (i := 12)))) (b_cons (s_setCompV (i := 6) (N := ["tree", "wanted", "word", "parts", "found", "orders", "costs", "cost", "sequence", "within", "part", "_", "order", "ahead", "behind", "least", "at"]) (sc := defScope (topS 29)) (vs := [13]) [("ahead", 13)] rfl sc_nearest_listed.nd rfl (by decide +kernel) (i_seq (e_var (i := 5))) (fun _ _ _ _ _ => g_name (i := 13) sc_nearest_listed.nd) (fun _ _ _ _ _ => ts_nil) (fun _ _ _ _ _ => e_compV (N := ["tree", "wanted", "word", "parts", "found", "orders", "costs", "cost", "sequence", "within", "part", "_", "order", "ahead", "behind", "least", "at"]) (sc := { kind := .function, names := [(".0", .local), ("ahead", .cell), ("orders", .cell), ("wanted", .cell)], isGenerator := false, isCoroutine := false }) (vs := [14]) [("behind", 14)] rfl sc_nearest_listed.nd (by decide +kernel) (i_seq (e_var (i := 5))) (fun _ _ _ _ _ => g_name (i := 14) sc_nearest_listed.nd) (fun _ _ _ _ _ => ts_nil) (fun _ _ _ _ _ => e_call c_turned hr L2.takes0 (a_cons (e_var (i := 1)) (a_cons (e_var (i := 13)) (a_cons (e_var (i := 14)) (a_nil))))))) (b_cons (s_unpack (e_if (t_cmp (o_eq hr.units) (p_var (i := 2)) (SE.look (e_str))) (e_call c_best_sequence hr tk (a_cons (e_var (i := 6)) (a_nil))) (e_call c_best_direction hr tk (a_cons (e_var (i := 6)) (a_nil)))) (g_names rfl (gs_cons (i := 7) sc_nearest_listed.nd (gs_cons (i := 8) sc_nearest_listed.nd (gs_nil))))) (b_cons (s_set (i := 9) sc_nearest_listed.nd (e_callB (c_sum rfl) T.b_sum (by decide) (k_cons (SE.look (e_compV (N := ["tree", "wanted", "word", "parts", "found", "orders", "costs", "cost", "sequence", "within", "part", "_", "order", "ahead", "behind", "least", "at"]) (sc := defScope (topS 29)) (vs := [11, 15]) [("_", 11), ("least", 15)] rfl sc_nearest_listed.nd (by decide +kernel) (i_seq (e_var (i := 4))) (fun _ _ _ _ _ => g_names rfl (gs_cons (i := 15) sc_nearest_listed.nd (gs_cons (i := 11) sc_nearest_listed.nd (gs_nil)))) (fun _ _ _ _ _ => ts_nil) (fun _ _ _ _ _ => e_var (i := 15)))) (k_nil)))) (b_cons (s_ret (e_tup (a_cons (e_bin o_addG (p_var (i := 9)) (p_var (i := 7))) (a_cons (e_call c_joined hr tk (a_cons (e_compV (N := ["tree", "wanted", "word", "parts", "found", "orders", "costs", "cost", "sequence", "within", "part", "_", "order", "ahead", "behind", "least", "at"]) (sc := defScope (topS 29)) (vs := [16]) [("at", 16)] rfl sc_nearest_listed.nd (by decide +kernel) (i_seq (e_var (i := 8))) (fun _ _ _ _ _ => g_name (i := 16) sc_nearest_listed.nd) (fun _ _ _ _ _ => ts_nil) (fun _ _ _ _ _ => e_ix (p_var (i := 5)) (p_var (i := 16)))) (a_nil))) (a_nil))))) (b_nil))))))))
theorem sc_nearest : FnScope ["tree", "wanted", "least", "order"] ["tree", "wanted"] (defScope (topS 30)) := ⟨rfl, rfl, rfl, by decide +kernel, rfl, by decide +kernel, by decide +kernel⟩
def st_nearest : M Fl := sq (bnd (eFn fn_check_order (aCons (eFn fn_check_own_tree (aCons (eVar 0) (ret []))) (aCons (eVar 1) (ret [])))) fun _ => ret .nx) (sq (bnd (eFn (fn_nearest_listed 40) (aCons (eFn (fn_check_narrow 40) (aCons (eVar 0) (ret []))) (aCons (eVar 1) (ret [])))) fun r => mTgt (tNames [2, 3]) r.1) (sq (bnd (mTup (aCons (eVar 2) (aCons (eCall gTuple (kCons (pVar 3) (ret []))) (ret [])))) mRet) (ret .nx)))
def fn_nearest : Fn := runF 4 2 st_nearest
theorem ok_nearest (T : Top w K mg cm) (F : Fun K "nearest" "nearest" (topS 30) f fd) (hg : mg "nearest" = some (.ref f)) (hb : Binds K fd ["tree", "wanted"] []) (c_check_order : Cal P w K mg base cm 2 "check_order" fn_check_order) (c_check_own_tree : Cal P w K mg base cm 44 "check_own_tree" fn_check_own_tree) (c_check_narrow : Cal P w K mg base cm 40 "check_narrow" (fn_check_narrow 40)) (c_nearest_listed : Cal P w K mg base cm 42 "nearest_listed" (fn_nearest_listed 40)) : Cal P w K mg base cm 45 "nearest" fn_nearest := by
  refine def_ok (k := 44) (m := st_nearest) F sc_nearest hg hb ?_ (by decide)
  intro cdv A outer s H E hr
  have tk : L2.Takes (cxOf (L2.CX P w) P w K mg base ["tree", "wanted", "least", "order"] "nearest" (defScope (topS 30)) f cdv A outer s H E) (fun cls d _ H => E cls d H) := takes_of rfl rfl rfl rfl
  have hp : PassesOwn (model P w) (cxOf (L2.CX P w) P w K mg base ["tree", "wanted", "least", "order"] "nearest" (defScope (topS 30)) f cdv A outer s H E).A (cxOf (L2.CX P w) P w K mg base ["tree", "wanted", "least", "order"] "nearest" (defScope (topS 30)) f cdv A outer s H E).env (cxOf (L2.CX P w) P w K mg base ["tree", "wanted", "least", "order"] "nearest" (defScope (topS 30)) f cdv A outer s H E).xe := passes_of rfl
  have c_check_order : Cal P w K mg base cm 44 "check_order" fn_check_order := c_check_order.mono (by omega)
  have c_check_own_tree : Cal P w K mg base cm 44 "check_own_tree" fn_check_own_tree := c_check_own_tree.mono (by omega)
  have c_check_narrow : Cal P w K mg base cm 44 "check_narrow" (fn_check_narrow 40) := c_check_narrow.mono (by omega)
  have c_nearest_listed : Cal P w K mg base cm 44 "nearest_listed" (fn_nearest_listed 40) := c_nearest_listed.mono (by omega)
  exact b_cons (s_expr (e_call c_check_order hr tk (a_cons (e_call c_check_own_tree hr tk (a_cons (e_var (i := 0)) (a_nil))) (a_cons (e_var (i := 1)) (a_nil))))) (b_cons (s_unpack (e_call c_nearest_listed hr tk (a_cons (e_call c_check_narrow hr tk (a_cons (e_var (i := 0)) (a_nil))) (a_cons (e_var (i := 1)) (a_nil)))) (g_names rfl (gs_cons (i := 2) sc_nearest.nd (gs_cons (i := 3) sc_nearest.nd (gs_nil))))) (b_cons (s_ret (e_tup (a_cons (e_var (i := 2)) (a_cons (e_callTy c_tuple T.b_tuple PyProof.Rows.boot_tuple (k_cons (p_var (i := 3)) (k_nil))) (a_nil))))) (b_nil)))
theorem sc__law_cell : FnScope ["script", "k"] ["script", "k"] (defScope (topS 32)) := ⟨rfl, rfl, rfl, by decide +kernel, rfl, by decide +kernel, by decide +kernel⟩
def st__law_cell : M Fl := sq (mIfS (blOf (eOp cLt (pVar 1) (look (eCall gLen (kCons (pVar 0) (ret [])))))) (sq (bnd (eOp gIx (pVar 0) (pVar 1)) mRet) (ret .nx)) (ret .nx)) (sq (bnd (eC (.int 0)) mRet) (ret .nx))
def fn__law_cell : Fn := runF 2 2 st__law_cell
theorem ok__law_cell (T : Top w K mg cm) (F : Fun K "_law_cell" "_law_cell" (topS 32) f fd) (hg : mg "_law_cell" = some (.ref f)) (hb : Binds K fd ["script", "k"] []) : Cal P w K mg base cm 1 "_law_cell" fn__law_cell := by
  refine def_ok (k := 0) (m := st__law_cell) F sc__law_cell hg hb ?_ (by decide)
  intro cdv A outer s H E hr
  have tk : L2.Takes (cxOf (L2.CX P w) P w K mg base ["script", "k"] "_law_cell" (defScope (topS 32)) f cdv A outer s H E) (fun cls d _ H => E cls d H) := takes_of rfl rfl rfl rfl
  have hp : PassesOwn (model P w) (cxOf (L2.CX P w) P w K mg base ["script", "k"] "_law_cell" (defScope (topS 32)) f cdv A outer s H E).A (cxOf (L2.CX P w) P w K mg base ["script", "k"] "_law_cell" (defScope (topS 32)) f cdv A outer s H E).env (cxOf (L2.CX P w) P w K mg base ["script", "k"] "_law_cell" (defScope (topS 32)) f cdv A outer s H E).xe := passes_of rfl
  exact b_cons (s_if (t_cmp o_lt (p_var (i := 1)) (SE.look (e_callB c_len T.b_len PySem.boot_len (k_cons (p_var (i := 0)) (k_nil))))) (b_cons (s_ret (e_ix (p_var (i := 0)) (p_var (i := 1)))) (b_nil)) (b_nil)) (b_cons (s_ret (e_int)) (b_nil))
theorem sc__law_digits : FnScope ["cell", "sizes", "row", "size"] ["cell", "sizes"] (defScope (topS 33)) := ⟨rfl, rfl, rfl, by decide +kernel, rfl, by decide +kernel, by decide +kernel⟩
def st__law_digits : M Fl := sq (bnd (mLst (ret [])) (setR 2)) (sq (bnd (mSeq (eVar 1)) (loop (tName 3) (sq (mMet 2 (aCons (eOp aMod (look (eCall gInt (kCons (pVar 0) (ret [])))) (pVar 3)) (ret [])) gAppend) (sq (bnd (eOp aDiv (pVar 0) (pVar 3)) (setR 0)) (ret .nx))))) (sq (mRetV 2) (ret .nx)))
def fn__law_digits : Fn := runF 4 2 st__law_digits
theorem ok__law_digits (T : Top w K mg cm) (F : Fun K "_law_digits" "_law_digits" (topS 33) f fd) (hg : mg "_law_digits" = some (.ref f)) (hb : Binds K fd ["cell", "sizes"] []) : Cal P w K mg base cm 1 "_law_digits" fn__law_digits := by
  refine def_ok (k := 0) (m := st__law_digits) F sc__law_digits hg hb ?_ (by decide)
  intro cdv A outer s H E hr
  have tk : L2.Takes (cxOf (L2.CX P w) P w K mg base ["cell", "sizes", "row", "size"] "_law_digits" (defScope (topS 33)) f cdv A outer s H E) (fun cls d _ H => E cls d H) := takes_of rfl rfl rfl rfl
  have hp : PassesOwn (model P w) (cxOf (L2.CX P w) P w K mg base ["cell", "sizes", "row", "size"] "_law_digits" (defScope (topS 33)) f cdv A outer s H E).A (cxOf (L2.CX P w) P w K mg base ["cell", "sizes", "row", "size"] "_law_digits" (defScope (topS 33)) f cdv A outer s H E).env (cxOf (L2.CX P w) P w K mg base ["cell", "sizes", "row", "size"] "_law_digits" (defScope (topS 33)) f cdv A outer s H E).xe := passes_of rfl
  exact b_cons (s_set (i := 2) sc__law_digits.nd (e_lst (a_nil))) (b_cons (s_for hp rfl (i_seq (e_var (i := 1))) (g_name (i := 3) sc__law_digits.nd) (b_cons (s_met (i := 2) PySem.F.slot_list_append PySem.F.type_list_append k_append (a_cons (e_bin o_mod (SE.look (e_callTy c_int T.b_int PyProof.Rows.boot_int (k_cons (p_var (i := 0)) (k_nil)))) (p_var (i := 3))) (a_nil))) (b_cons (s_set (i := 0) sc__law_digits.nd (e_bin o_div (p_var (i := 0)) (p_var (i := 3)))) (b_nil)))) (b_cons (s_retV (i := 2)) (b_nil)))
theorem sc__law_rich : FnScope ["cell", "low", "high"] ["cell"] (defScope (topS 34)) := ⟨rfl, rfl, rfl, by decide +kernel, rfl, by decide +kernel, by decide +kernel⟩
def st__law_rich : M Fl := sq (mIfS (blOf (eOp cGe (pVar 0) (look (eOp aPow (look (eC (.int 10))) (look (eC (.int 18))))))) (sq (mRetV 0) (ret .nx)) (ret .nx)) (sq (bnd (eOp aMod (look (eCall gInt (kCons (look (eOp gAdd (look (eOp aMul (pVar 0) (look (eC (.int 48271))))) (look (eC (.int 11))))) (ret [])))) (look (eC (.int 2147483647)))) (setR 1)) (sq (bnd (eOp aMod (look (eCall gInt (kCons (look (eOp gAdd (look (eOp gAdd (look (eOp aMul (pVar 1) (look (eC (.int 69621))))) (look (eOp aDiv (pVar 0) (look (eC (.int 7))))))) (look (eC (.int 5))))) (ret [])))) (look (eC (.int 2147483629)))) (setR 2)) (sq (bnd (eOp gAdd (look (eOp aMul (pVar 1) (look (eC (.int 2147483629))))) (pVar 2)) mRet) (ret .nx))))
def fn__law_rich : Fn := runF 3 1 st__law_rich
theorem ok__law_rich (T : Top w K mg cm) (F : Fun K "_law_rich" "_law_rich" (topS 34) f fd) (hg : mg "_law_rich" = some (.ref f)) (hb : Binds K fd ["cell"] []) : Cal P w K mg base cm 1 "_law_rich" fn__law_rich := by
  refine def_ok (k := 0) (m := st__law_rich) F sc__law_rich hg hb ?_ (by decide)
  intro cdv A outer s H E hr
  have tk : L2.Takes (cxOf (L2.CX P w) P w K mg base ["cell", "low", "high"] "_law_rich" (defScope (topS 34)) f cdv A outer s H E) (fun cls d _ H => E cls d H) := takes_of rfl rfl rfl rfl
  have hp : PassesOwn (model P w) (cxOf (L2.CX P w) P w K mg base ["cell", "low", "high"] "_law_rich" (defScope (topS 34)) f cdv A outer s H E).A (cxOf (L2.CX P w) P w K mg base ["cell", "low", "high"] "_law_rich" (defScope (topS 34)) f cdv A outer s H E).env (cxOf (L2.CX P w) P w K mg base ["cell", "low", "high"] "_law_rich" (defScope (topS 34)) f cdv A outer s H E).xe := passes_of rfl
  exact b_cons (s_if (t_cmp o_ge (p_var (i := 0)) (SE.look (e_bin o_pow (SE.look (e_int)) (SE.look (e_int))))) (b_cons (s_retV (i := 0)) (b_nil)) (b_nil)) (b_cons (s_set (i := 1) sc__law_rich.nd (e_bin o_mod (SE.look (e_callTy c_int T.b_int PyProof.Rows.boot_int (k_cons (SE.look (e_bin o_addG (SE.look (e_bin o_mul (p_var (i := 0)) (SE.look (e_int)))) (SE.look (e_int)))) (k_nil)))) (SE.look (e_int)))) (b_cons (s_set (i := 2) sc__law_rich.nd (e_bin o_mod (SE.look (e_callTy c_int T.b_int PyProof.Rows.boot_int (k_cons (SE.look (e_bin o_addG (SE.look (e_bin o_addG (SE.look (e_bin o_mul (p_var (i := 1)) (SE.look (e_int)))) (SE.look (e_bin o_div (p_var (i := 0)) (SE.look (e_int)))))) (SE.look (e_int)))) (k_nil)))) (SE.look (e_int)))) (b_cons (s_ret (e_bin o_addG (SE.look (e_bin o_mul (p_var (i := 1)) (SE.look (e_int)))) (p_var (i := 2)))) (b_nil))))
theorem sc__law_is_integer : FnScope ["actual"] ["actual"] (defScope (topS 35)) := ⟨rfl, rfl, rfl, by decide +kernel, rfl, by decide +kernel, by decide +kernel⟩
def st__law_is_integer : M Fl := sq (bnd (vAnd (mIsi "int" (pVar 0)) (vNot (mIsi "bool" (pVar 0)))) mRet) (ret .nx)
def fn__law_is_integer : Fn := runF 1 1 st__law_is_integer
theorem ok__law_is_integer (T : Top w K mg cm) (F : Fun K "_law_is_integer" "_law_is_integer" (topS 35) f fd) (hg : mg "_law_is_integer" = some (.ref f)) (hb : Binds K fd ["actual"] []) : Cal P w K mg base cm 1 "_law_is_integer" fn__law_is_integer := by
  refine def_ok (k := 0) (m := st__law_is_integer) F sc__law_is_integer hg hb ?_ (by decide)
  intro cdv A outer s H E hr
  have tk : L2.Takes (cxOf (L2.CX P w) P w K mg base ["actual"] "_law_is_integer" (defScope (topS 35)) f cdv A outer s H E) (fun cls d _ H => E cls d H) := takes_of rfl rfl rfl rfl
  have hp : PassesOwn (model P w) (cxOf (L2.CX P w) P w K mg base ["actual"] "_law_is_integer" (defScope (topS 35)) f cdv A outer s H E).A (cxOf (L2.CX P w) P w K mg base ["actual"] "_law_is_integer" (defScope (topS 35)) f cdv A outer s H E).env (cxOf (L2.CX P w) P w K mg base ["actual"] "_law_is_integer" (defScope (topS 35)) f cdv A outer s H E).xe := passes_of rfl
  exact b_cons (s_ret (e_and (e_isi T.b_isinstance T.b_int PyProof.Rows.boot_int (p_var (i := 0))) (e_one (e_not (e_isi T.b_isinstance T.b_bool PyProof.Rows.boot_bool (p_var (i := 0))))))) (b_nil)
theorem sc__law_order : FnScope ["cell", "n", "left", "rest", "order", "k", "thing"] ["cell", "n"] (defScope (topS 36)) := ⟨rfl, rfl, rfl, by decide +kernel, rfl, by decide +kernel, by decide +kernel⟩
def st__law_order : M Fl := sq (bnd (mComp (mRng1 (kCons (pVar 1) (ret []))) (tName 6) (ret true) (eVar 6) [6]) (setR 2)) (sq (bnd (eFn fn__law_rich (aCons (eVar 0) (ret []))) (setR 3)) (sq (bnd (mLst (ret [])) (setR 4)) (sq (bnd (mRng1 (kCons (pVar 1) (ret []))) (loop (tName 5) (sq (mAppPop 4 2 (look (eOp aMod (look (eCall gInt (kCons (pVar 3) (ret [])))) (look (eOp aSub (pVar 1) (pVar 5)))))) (sq (bnd (eOp aDiv (pVar 3) (look (eOp aSub (pVar 1) (pVar 5)))) (setR 3)) (sq (mIfS (blOf (eOp (gEq false) (pVar 3) (look (eC (.int 0))))) (sq (bnd (eFn fn__law_rich (aCons (eOp gAdd (look (eOp gAdd (pVar 0) (pVar 5))) (look (eC (.int 1)))) (ret []))) (setR 3)) (ret .nx)) (ret .nx)) (ret .nx)))))) (sq (bnd (eCall gTuple (kCons (pVar 4) (ret []))) mRet) (ret .nx)))))
def fn__law_order : Fn := runF 7 2 st__law_order
theorem ok__law_order (T : Top w K mg cm) (F : Fun K "_law_order" "_law_order" (topS 36) f fd) (hg : mg "_law_order" = some (.ref f)) (hb : Binds K fd ["cell", "n"] []) (c__law_rich : Cal P w K mg base cm 1 "_law_rich" fn__law_rich) : Cal P w K mg base cm 2 "_law_order" fn__law_order := by
  refine def_ok (k := 1) (m := st__law_order) F sc__law_order hg hb ?_ (by decide)
  intro cdv A outer s H E hr
  have tk : L2.Takes (cxOf (L2.CX P w) P w K mg base ["cell", "n", "left", "rest", "order", "k", "thing"] "_law_order" (defScope (topS 36)) f cdv A outer s H E) (fun cls d _ H => E cls d H) := takes_of rfl rfl rfl rfl
  have hp : PassesOwn (model P w) (cxOf (L2.CX P w) P w K mg base ["cell", "n", "left", "rest", "order", "k", "thing"] "_law_order" (defScope (topS 36)) f cdv A outer s H E).A (cxOf (L2.CX P w) P w K mg base ["cell", "n", "left", "rest", "order", "k", "thing"] "_law_order" (defScope (topS 36)) f cdv A outer s H E).env (cxOf (L2.CX P w) P w K mg base ["cell", "n", "left", "rest", "order", "k", "thing"] "_law_order" (defScope (topS 36)) f cdv A outer s H E).xe := passes_of rfl
  have c__law_rich : Cal P w K mg base cm 1 "_law_rich" fn__law_rich := c__law_rich.mono (by omega)
  exact b_cons (s_setCompV (i := 2) (N := ["cell", "n", "left", "rest", "order", "k", "thing"]) (sc := defScope (topS 36)) (vs := [6]) [("thing", 6)] rfl sc__law_order.nd rfl (by decide +kernel) (i_range1 T.b_range (k_cons (p_var (i := 1)) (k_nil))) (fun _ _ _ _ _ => g_name (i := 6) sc__law_order.nd) (fun _ _ _ _ _ => ts_nil) (fun _ _ _ _ _ => e_var (i := 6))) (b_cons (s_set (i := 3) sc__law_order.nd (e_call c__law_rich hr tk (a_cons (e_var (i := 0)) (a_nil)))) (b_cons (s_set (i := 4) sc__law_order.nd (e_lst (a_nil))) (b_cons (s_for hp rfl (i_range1 T.b_range (k_cons (p_var (i := 1)) (k_nil))) (g_name (i := 5) sc__law_order.nd) (b_cons (s_appPop (i := 4) (j := 2) (SE.look (e_bin o_mod (SE.look (e_callTy c_int T.b_int PyProof.Rows.boot_int (k_cons (p_var (i := 3)) (k_nil)))) (SE.look (e_bin o_sub (p_var (i := 1)) (p_var (i := 5))))))) (b_cons (s_set (i := 3) sc__law_order.nd (e_bin o_div (p_var (i := 3)) (SE.look (e_bin o_sub (p_var (i := 1)) (p_var (i := 5)))))) (b_cons (s_if (t_cmp (o_eq hr.units) (p_var (i := 3)) (SE.look (e_int))) (b_cons (s_set (i := 3) sc__law_order.nd (e_call c__law_rich hr tk (a_cons (e_bin o_addG (SE.look (e_bin o_addG (p_var (i := 0)) (p_var (i := 5)))) (SE.look (e_int))) (a_nil)))) (b_nil)) (b_nil)) (b_nil))))) (b_cons (s_ret (e_callTy c_tuple T.b_tuple PyProof.Rows.boot_tuple (k_cons (p_var (i := 4)) (k_nil)))) (b_nil)))))
theorem sc__law_things : FnScope ["tree", "found", "part"] ["tree"] (defScope (topS 37)) := ⟨rfl, rfl, rfl, by decide +kernel, rfl, by decide +kernel, by decide +kernel⟩
def st__law_things (r_ : Fn) : M Fl := sq (mIfS (tTru (look (mIsi "int" (pVar 0)))) (sq (bnd (mLst (aCons (eVar 0) (ret []))) mRet) (ret .nx)) (ret .nx)) (sq (bnd (mLst (ret [])) (setR 1)) (sq (bnd (mSeq (eOp gIx (pVar 0) (look (eC (.int 1))))) (loop (tName 2) (sq (bnd (eOp gAdd (pVar 1) (look (eFn r_ (aCons (eVar 2) (ret []))))) (setR 1)) (ret .nx)))) (sq (mRetV 1) (ret .nx))))
def fn__law_things : Nat → Fn
  | 0 => fun _ => .bad
  | d + 1 => runF 3 1 (st__law_things (fn__law_things d))
theorem ok__law_things (T : Top w K mg cm) (F : Fun K "_law_things" "_law_things" (topS 37) f fd) (hg : mg "_law_things" = some (.ref f)) (hb : Binds K fd ["tree"] []) : ∀ d : Nat, Cal P w K mg base cm (0 + d) "_law_things" (fn__law_things d)
  | 0 => (cal_bad F hg hb).mono (Nat.zero_le _)
  | d + 1 => by
    have c_ := ok__law_things T F hg hb d
    refine def_ok (m := st__law_things (fn__law_things d)) F sc__law_things hg hb ?_ (by decide)
    intro cdv A outer s H E hr
    have tk : L2.Takes (cxOf (L2.CX P w) P w K mg base ["tree", "found", "part"] "_law_things" (defScope (topS 37)) f cdv A outer s H E) (fun cls d _ H => E cls d H) := takes_of rfl rfl rfl rfl
    have hp : PassesOwn (model P w) (cxOf (L2.CX P w) P w K mg base ["tree", "found", "part"] "_law_things" (defScope (topS 37)) f cdv A outer s H E).A (cxOf (L2.CX P w) P w K mg base ["tree", "found", "part"] "_law_things" (defScope (topS 37)) f cdv A outer s H E).env (cxOf (L2.CX P w) P w K mg base ["tree", "found", "part"] "_law_things" (defScope (topS 37)) f cdv A outer s H E).xe := passes_of rfl
    exact b_cons (s_if (t_val (SE.look (e_isi T.b_isinstance T.b_int PyProof.Rows.boot_int (p_var (i := 0))))) (b_cons (s_ret (e_lst (a_cons (e_var (i := 0)) (a_nil)))) (b_nil)) (b_nil)) (b_cons (s_set (i := 1) sc__law_things.nd (e_lst (a_nil))) (b_cons (s_for hp rfl (i_seq (e_ix (p_var (i := 0)) (SE.look (e_int)))) (g_name (i := 2) sc__law_things.nd) (b_cons (s_set (i := 1) sc__law_things.nd (e_bin o_addG (p_var (i := 1)) (SE.look (e_call c_ hr tk (a_cons (e_var (i := 2)) (a_nil)))))) (b_nil))) (b_cons (s_retV (i := 1)) (b_nil))))
theorem sc__law_told : FnScope ["tree", "order", "rest", "sequence", "step", "k", "size"] ["tree", "order"] (defScope (topS 38)) := ⟨rfl, rfl, rfl, by decide +kernel, rfl, by decide +kernel, by decide +kernel⟩
def st__law_told (r_ : Fn) : M Fl := sq (mIfS (tTru (look (mIsi "int" (pVar 0)))) (sq (bnd (eOp (gEq false) (look (eCall gTuple (kCons (pVar 1) (ret [])))) (look (mTup (aCons (eVar 0) (ret []))))) mRet) (ret .nx)) (ret .nx)) (sq (bnd (eCall gTuple (kCons (pVar 1) (ret []))) (setR 2)) (sq (bnd (mLst (ret [])) (setR 3)) (sq (bnd (mRng1 (kCons (look (eCall gLen (kCons (look (eOp gIx (pVar 0) (look (eC (.int 1))))) (ret [])))) (ret []))) (loop (tName 4) (sq (bnd (mRng1 (kCons (look (eCall gLen (kCons (look (eOp gIx (pVar 0) (look (eC (.int 1))))) (ret [])))) (ret []))) (loop (tName 5) (sq (bnd (eCall gLen (kCons (look (eFn (fn__law_things 40) (aCons (eOp gIx (look (eOp gIx (pVar 0) (look (eC (.int 1))))) (pVar 5)) (ret [])))) (ret []))) (setR 6)) (sq (mIfS (mAnd (blOf (eOp (gIn true) (pVar 5) (pVar 3))) (blOf (eOp (gEq false) (look (eCall gSorted (kCons (look (eSl (pVar 2) (ret none) (soInt (pVar 6)))) (ret [])))) (look (eCall gSorted (kCons (look (eFn (fn__law_things 40) (aCons (eOp gIx (look (eOp gIx (pVar 0) (look (eC (.int 1))))) (pVar 5)) (ret [])))) (ret []))))))) (sq (mIfS (mNot (tTru (look (eFn r_ (aCons (eOp gIx (look (eOp gIx (pVar 0) (look (eC (.int 1))))) (pVar 5)) (aCons (eSl (pVar 2) (ret none) (soInt (pVar 6))) (ret []))))))) (sq (bnd (eC (.bl false)) mRet) (ret .nx)) (ret .nx)) (sq (mMet 3 (aCons (eVar 5) (ret [])) gAppend) (sq (bnd (eSl (pVar 2) (soInt (pVar 6)) (ret none)) (setR 2)) (sq (ret .bk) (ret .nx))))) (ret .nx)) (ret .nx))))) (ret .nx)))) (sq (mIfS (mOr (blOf (eOp cLt (look (eCall gLen (kCons (pVar 3) (ret [])))) (look (eCall gLen (kCons (look (eOp gIx (pVar 0) (look (eC (.int 1))))) (ret [])))))) (blOf (eOp cGt (look (eCall gLen (kCons (pVar 2) (ret [])))) (look (eC (.int 0)))))) (sq (bnd (eC (.bl false)) mRet) (ret .nx)) (ret .nx)) (sq (bnd (vOr (eOp (gEq false) (look (eOp gIx (pVar 0) (look (eC (.int 0))))) (look (eC (.str "any")))) (vOr (eOp (gEq false) (pVar 3) (look (eCall gSorted (kCons (pVar 3) (ret []))))) (eOp (gEq false) (pVar 3) (look (mRevA (look (eCall gSorted (kCons (pVar 3) (ret []))))))))) mRet) (ret .nx))))))
def fn__law_told : Nat → Fn
  | 0 => fun _ => .bad
  | d + 1 => runF 7 2 (st__law_told (fn__law_told d))
theorem ok__law_told (T : Top w K mg cm) (F : Fun K "_law_told" "_law_told" (topS 38) f fd) (hg : mg "_law_told" = some (.ref f)) (hb : Binds K fd ["tree", "order"] []) (c__law_things : Cal P w K mg base cm 40 "_law_things" (fn__law_things 40)) : ∀ d : Nat, Cal P w K mg base cm (40 + d) "_law_told" (fn__law_told d)
  | 0 => (cal_bad F hg hb).mono (Nat.zero_le _)
  | d + 1 => by
    have c_ := ok__law_told T F hg hb c__law_things d
    refine def_ok (m := st__law_told (fn__law_told d)) F sc__law_told hg hb ?_ (by decide)
    intro cdv A outer s H E hr
    have tk : L2.Takes (cxOf (L2.CX P w) P w K mg base ["tree", "order", "rest", "sequence", "step", "k", "size"] "_law_told" (defScope (topS 38)) f cdv A outer s H E) (fun cls d _ H => E cls d H) := takes_of rfl rfl rfl rfl
    have hp : PassesOwn (model P w) (cxOf (L2.CX P w) P w K mg base ["tree", "order", "rest", "sequence", "step", "k", "size"] "_law_told" (defScope (topS 38)) f cdv A outer s H E).A (cxOf (L2.CX P w) P w K mg base ["tree", "order", "rest", "sequence", "step", "k", "size"] "_law_told" (defScope (topS 38)) f cdv A outer s H E).env (cxOf (L2.CX P w) P w K mg base ["tree", "order", "rest", "sequence", "step", "k", "size"] "_law_told" (defScope (topS 38)) f cdv A outer s H E).xe := passes_of rfl
    have c__law_things : Cal P w K mg base cm (40 + d) "_law_things" (fn__law_things 40) := c__law_things.mono (by omega)
    exact b_cons (s_if (t_val (SE.look (e_isi T.b_isinstance T.b_int PyProof.Rows.boot_int (p_var (i := 0))))) (b_cons (s_ret (e_cmp (o_eq hr.units) (SE.look (e_callTy c_tuple T.b_tuple PyProof.Rows.boot_tuple (k_cons (p_var (i := 1)) (k_nil)))) (SE.look (e_tup (a_cons (e_var (i := 0)) (a_nil)))))) (b_nil)) (b_nil)) (b_cons (s_set (i := 2) sc__law_told.nd (e_callTy c_tuple T.b_tuple PyProof.Rows.boot_tuple (k_cons (p_var (i := 1)) (k_nil)))) (b_cons (s_set (i := 3) sc__law_told.nd (e_lst (a_nil))) (b_cons (s_for hp rfl (i_range1 T.b_range (k_cons (SE.look (e_callB c_len T.b_len PySem.boot_len (k_cons (SE.look (e_ix (p_var (i := 0)) (SE.look (e_int)))) (k_nil)))) (k_nil))) (g_name (i := 4) sc__law_told.nd) (b_cons (s_for hp rfl (i_range1 T.b_range (k_cons (SE.look (e_callB c_len T.b_len PySem.boot_len (k_cons (SE.look (e_ix (p_var (i := 0)) (SE.look (e_int)))) (k_nil)))) (k_nil))) (g_name (i := 5) sc__law_told.nd) (b_cons (s_set (i := 6) sc__law_told.nd (e_callB c_len T.b_len PySem.boot_len (k_cons (SE.look (e_call c__law_things hr tk (a_cons (e_ix (SE.look (e_ix (p_var (i := 0)) (SE.look (e_int)))) (p_var (i := 5))) (a_nil)))) (k_nil)))) (b_cons (s_if (t_w (w_and (t_cmp o_notIn (p_var (i := 5)) (p_var (i := 3))) (w_one (t_cmp (o_eq hr.units) (SE.look (e_callB c_sorted T.b_sorted PyProof.Rows.boot_sorted (k_cons (SE.look (e_sl (p_var (i := 2)) so_none (so_some (p_var (i := 6))))) (k_nil)))) (SE.look (e_callB c_sorted T.b_sorted PyProof.Rows.boot_sorted (k_cons (SE.look (e_call c__law_things hr tk (a_cons (e_ix (SE.look (e_ix (p_var (i := 0)) (SE.look (e_int)))) (p_var (i := 5))) (a_nil)))) (k_nil)))))))) (b_cons (s_if (t_not (t_val (SE.look (e_call c_ hr tk (a_cons (e_ix (SE.look (e_ix (p_var (i := 0)) (SE.look (e_int)))) (p_var (i := 5))) (a_cons (e_sl (p_var (i := 2)) so_none (so_some (p_var (i := 6)))) (a_nil))))))) (b_cons (s_ret (e_bl)) (b_nil)) (b_nil)) (b_cons (s_met (i := 3) PySem.F.slot_list_append PySem.F.type_list_append k_append (a_cons (e_var (i := 5)) (a_nil))) (b_cons (s_set (i := 2) sc__law_told.nd (e_sl (p_var (i := 2)) (so_some (p_var (i := 6))) so_none)) (b_cons (s_break) (b_nil))))) (b_nil)) (b_nil)))) (b_nil))) (b_cons (s_if (t_w (w_or (t_cmp o_lt (SE.look (e_callB c_len T.b_len PySem.boot_len (k_cons (p_var (i := 3)) (k_nil)))) (SE.look (e_callB c_len T.b_len PySem.boot_len (k_cons (SE.look (e_ix (p_var (i := 0)) (SE.look (e_int)))) (k_nil))))) (w_oneO (t_cmp o_gt (SE.look (e_callB c_len T.b_len PySem.boot_len (k_cons (p_var (i := 2)) (k_nil)))) (SE.look (e_int)))))) (b_cons (s_ret (e_bl)) (b_nil)) (b_nil)) (b_cons (s_ret (e_or (e_cmp (o_eq hr.units) (SE.look (e_ix (p_var (i := 0)) (SE.look (e_int)))) (SE.look (e_str))) (e_or (e_cmp (o_eq hr.units) (p_var (i := 3)) (SE.look (e_callB c_sorted T.b_sorted PyProof.Rows.boot_sorted (k_cons (p_var (i := 3)) (k_nil))))) (e_one (e_cmp (o_eq hr.units) (p_var (i := 3)) (SE.look (e_revA (SE.look (e_callB c_sorted T.b_sorted PyProof.Rows.boot_sorted (k_cons (p_var (i := 3)) (k_nil))))))))))) (b_nil))))))
theorem sc__law_tree : FnScope ["cell", "n", "parts", "rest", "step", "size", "at", "chosen", "word"] ["cell", "n"] (defScope (topS 39)) := ⟨rfl, rfl, rfl, by decide +kernel, rfl, by decide +kernel, by decide +kernel⟩
def st__law_tree : M Fl := sq (bnd (eCall gList (kCons (look (eFn fn__law_order (aCons (eVar 0) (aCons (eVar 1) (ret []))))) (ret []))) (setR 2)) (sq (bnd (eFn fn__law_rich (aCons (eOp gAdd (look (eOp aDiv (pVar 0) (look (eC (.int 3))))) (look (eC (.int 7)))) (ret []))) (setR 3)) (sq (bnd (mRng1 (kCons (look (eC (.int 30))) (ret []))) (loop (tName 4) (sq (mIfS (blOf (eOp cLt (look (eCall gLen (kCons (pVar 2) (ret [])))) (look (eC (.int 2))))) (sq (ret .bk) (ret .nx)) (ret .nx)) (sq (bnd (eOp gAdd (look (eC (.int 2))) (look (eOp aMod (look (eCall gInt (kCons (pVar 3) (ret [])))) (look (eC (.int 4)))))) (setR 5)) (sq (mIfS (blOf (eOp (gEq false) (look (eOp aMod (look (eCall gInt (kCons (look (eOp aDiv (pVar 3) (look (eC (.int 1024))))) (ret [])))) (look (eC (.int 8))))) (look (eC (.int 5))))) (sq (bnd (eC (.int 24)) (setR 5)) (ret .nx)) (ret .nx)) (sq (bnd (eOp aMod (look (eCall gInt (kCons (look (eOp aDiv (pVar 3) (look (eC (.int 4))))) (ret [])))) (look (eCall gLen (kCons (pVar 2) (ret []))))) (setR 6)) (sq (bnd (eSl (pVar 2) (soInt (pVar 6)) (soInt (look (eOp gAdd (pVar 6) (pVar 5))))) (setR 7)) (sq (mIfS (blOf (eOp cGt (look (eCall gLen (kCons (pVar 7) (ret [])))) (look (eC (.int 1))))) (sq (bnd (eC (.str "any")) (setR 8)) (sq (mIfS (mAnd (blOf (eOp cGt (look (eCall gLen (kCons (pVar 7) (ret [])))) (look (eC (.int 2))))) (blOf (eOp (gEq false) (look (eOp aMod (look (eCall gInt (kCons (look (eOp aDiv (pVar 3) (look (eC (.int 64))))) (ret [])))) (look (eC (.int 2))))) (look (eC (.int 1)))))) (sq (bnd (eC (.str "row")) (setR 8)) (ret .nx)) (ret .nx)) (sq (bnd (eOp gAdd (look (eOp gAdd (look (eSl (pVar 2) (ret none) (soInt (pVar 6)))) (look (mLst (aCons (mTup (aCons (eVar 8) (aCons (eCall gTuple (kCons (pVar 7) (ret []))) (ret [])))) (ret [])))))) (look (eSl (pVar 2) (soInt (look (eOp gAdd (pVar 6) (pVar 5)))) (ret none)))) (setR 2)) (ret .nx)))) (ret .nx)) (sq (bnd (eOp gAdd (look (eOp gAdd (look (eOp aDiv (pVar 3) (look (eC (.int 5))))) (look (eOp aMul (look (eC (.int 1000003))) (pVar 4))))) (look (eC (.int 17)))) (setR 3)) (ret .nx)))))))))) (sq (mIfS (blOf (eOp cGt (look (eCall gLen (kCons (pVar 2) (ret [])))) (look (eC (.int 1))))) (sq (bnd (mLst (aCons (mTup (aCons (eC (.str "any")) (aCons (eCall gTuple (kCons (pVar 2) (ret []))) (ret [])))) (ret []))) (setR 2)) (ret .nx)) (ret .nx)) (sq (bnd (eOp gIx (pVar 2) (look (eC (.int 0)))) mRet) (ret .nx)))))
def fn__law_tree : Fn := runF 9 2 st__law_tree
theorem ok__law_tree (T : Top w K mg cm) (F : Fun K "_law_tree" "_law_tree" (topS 39) f fd) (hg : mg "_law_tree" = some (.ref f)) (hb : Binds K fd ["cell", "n"] []) (c__law_rich : Cal P w K mg base cm 1 "_law_rich" fn__law_rich) (c__law_order : Cal P w K mg base cm 2 "_law_order" fn__law_order) : Cal P w K mg base cm 3 "_law_tree" fn__law_tree := by
  refine def_ok (k := 2) (m := st__law_tree) F sc__law_tree hg hb ?_ (by decide)
  intro cdv A outer s H E hr
  have tk : L2.Takes (cxOf (L2.CX P w) P w K mg base ["cell", "n", "parts", "rest", "step", "size", "at", "chosen", "word"] "_law_tree" (defScope (topS 39)) f cdv A outer s H E) (fun cls d _ H => E cls d H) := takes_of rfl rfl rfl rfl
  have hp : PassesOwn (model P w) (cxOf (L2.CX P w) P w K mg base ["cell", "n", "parts", "rest", "step", "size", "at", "chosen", "word"] "_law_tree" (defScope (topS 39)) f cdv A outer s H E).A (cxOf (L2.CX P w) P w K mg base ["cell", "n", "parts", "rest", "step", "size", "at", "chosen", "word"] "_law_tree" (defScope (topS 39)) f cdv A outer s H E).env (cxOf (L2.CX P w) P w K mg base ["cell", "n", "parts", "rest", "step", "size", "at", "chosen", "word"] "_law_tree" (defScope (topS 39)) f cdv A outer s H E).xe := passes_of rfl
  have c__law_rich : Cal P w K mg base cm 2 "_law_rich" fn__law_rich := c__law_rich.mono (by omega)
  have c__law_order : Cal P w K mg base cm 2 "_law_order" fn__law_order := c__law_order.mono (by omega)
  exact b_cons (s_set (i := 2) sc__law_tree.nd (e_callTy c_list T.b_list PyProof.Rows.boot_list (k_cons (SE.look (e_call c__law_order hr tk (a_cons (e_var (i := 0)) (a_cons (e_var (i := 1)) (a_nil))))) (k_nil)))) (b_cons (s_set (i := 3) sc__law_tree.nd (e_call c__law_rich hr tk (a_cons (e_bin o_addG (SE.look (e_bin o_div (p_var (i := 0)) (SE.look (e_int)))) (SE.look (e_int))) (a_nil)))) (b_cons (s_for hp rfl (i_range1 T.b_range (k_cons (SE.look (e_int)) (k_nil))) (g_name (i := 4) sc__law_tree.nd) (b_cons (s_if (t_cmp o_lt (SE.look (e_callB c_len T.b_len PySem.boot_len (k_cons (p_var (i := 2)) (k_nil)))) (SE.look (e_int))) (b_cons (s_break) (b_nil)) (b_nil)) (b_cons (s_set (i := 5) sc__law_tree.nd (e_bin o_addG (SE.look (e_int)) (SE.look (e_bin o_mod (SE.look (e_callTy c_int T.b_int PyProof.Rows.boot_int (k_cons (p_var (i := 3)) (k_nil)))) (SE.look (e_int)))))) (b_cons (s_if (t_cmp (o_eq hr.units) (SE.look (e_bin o_mod (SE.look (e_callTy c_int T.b_int PyProof.Rows.boot_int (k_cons (SE.look (e_bin o_div (p_var (i := 3)) (SE.look (e_int)))) (k_nil)))) (SE.look (e_int)))) (SE.look (e_int))) (b_cons (s_set (i := 5) sc__law_tree.nd (e_int)) (b_nil)) (b_nil)) (b_cons (s_set (i := 6) sc__law_tree.nd (e_bin o_mod (SE.look (e_callTy c_int T.b_int PyProof.Rows.boot_int (k_cons (SE.look (e_bin o_div (p_var (i := 3)) (SE.look (e_int)))) (k_nil)))) (SE.look (e_callB c_len T.b_len PySem.boot_len (k_cons (p_var (i := 2)) (k_nil)))))) (b_cons (s_set (i := 7) sc__law_tree.nd (e_sl (p_var (i := 2)) (so_some (p_var (i := 6))) (so_some (SE.look (e_bin o_addG (p_var (i := 6)) (p_var (i := 5))))))) (b_cons (s_if (t_cmp o_gt (SE.look (e_callB c_len T.b_len PySem.boot_len (k_cons (p_var (i := 7)) (k_nil)))) (SE.look (e_int))) (b_cons (s_set (i := 8) sc__law_tree.nd (e_str)) (b_cons (s_if (t_w (w_and (t_cmp o_gt (SE.look (e_callB c_len T.b_len PySem.boot_len (k_cons (p_var (i := 7)) (k_nil)))) (SE.look (e_int))) (w_one (t_cmp (o_eq hr.units) (SE.look (e_bin o_mod (SE.look (e_callTy c_int T.b_int PyProof.Rows.boot_int (k_cons (SE.look (e_bin o_div (p_var (i := 3)) (SE.look (e_int)))) (k_nil)))) (SE.look (e_int)))) (SE.look (e_int)))))) (b_cons (s_set (i := 8) sc__law_tree.nd (e_str)) (b_nil)) (b_nil)) (b_cons (s_set (i := 2) sc__law_tree.nd (e_bin o_addG (SE.look (e_bin o_addG (SE.look (e_sl (p_var (i := 2)) so_none (so_some (p_var (i := 6))))) (SE.look (e_lst (a_cons (e_tup (a_cons (e_var (i := 8)) (a_cons (e_callTy c_tuple T.b_tuple PyProof.Rows.boot_tuple (k_cons (p_var (i := 7)) (k_nil))) (a_nil)))) (a_nil)))))) (SE.look (e_sl (p_var (i := 2)) (so_some (SE.look (e_bin o_addG (p_var (i := 6)) (p_var (i := 5))))) so_none)))) (b_nil)))) (b_nil)) (b_cons (s_set (i := 3) sc__law_tree.nd (e_bin o_addG (SE.look (e_bin o_addG (SE.look (e_bin o_div (p_var (i := 3)) (SE.look (e_int)))) (SE.look (e_bin o_mul (SE.look (e_int)) (p_var (i := 4)))))) (SE.look (e_int)))) (b_nil))))))))) (b_cons (s_if (t_cmp o_gt (SE.look (e_callB c_len T.b_len PySem.boot_len (k_cons (p_var (i := 2)) (k_nil)))) (SE.look (e_int))) (b_cons (s_set (i := 2) sc__law_tree.nd (e_lst (a_cons (e_tup (a_cons (e_str) (a_cons (e_callTy c_tuple T.b_tuple PyProof.Rows.boot_tuple (k_cons (p_var (i := 2)) (k_nil))) (a_nil)))) (a_nil)))) (b_nil)) (b_nil)) (b_cons (s_ret (e_ix (p_var (i := 2)) (SE.look (e_int)))) (b_nil)))))
theorem sc__law_shuffled : FnScope ["tree", "cell", "parts", "rest", "part", "told"] ["tree", "cell"] (defScope (topS 40)) := ⟨rfl, rfl, rfl, by decide +kernel, rfl, by decide +kernel, by decide +kernel⟩
def st__law_shuffled (r_ : Fn) : M Fl := sq (mIfS (tTru (look (mIsi "int" (pVar 0)))) (sq (mRetV 0) (ret .nx)) (ret .nx)) (sq (bnd (mLst (ret [])) (setR 2)) (sq (bnd (eFn fn__law_rich (aCons (eVar 1) (ret []))) (setR 3)) (sq (bnd (mSeq (eOp gIx (pVar 0) (look (eC (.int 1))))) (loop (tName 4) (sq (bnd (eFn r_ (aCons (eVar 4) (aCons (eOp gAdd (look (eOp aDiv (pVar 3) (look (eC (.int 3))))) (look (eC (.int 5)))) (ret [])))) (setR 5)) (sq (mIfS (blOf (eOp (gEq false) (look (eOp gIx (pVar 0) (look (eC (.int 0))))) (look (eC (.str "any"))))) (sq (mMet 2 (aCons (eOp aMod (look (eCall gInt (kCons (pVar 3) (ret [])))) (look (eOp gAdd (look (eCall gLen (kCons (pVar 2) (ret [])))) (look (eC (.int 1)))))) (aCons (eVar 5) (ret []))) gInsert) (ret .nx)) (sq (mMet 2 (aCons (eVar 5) (ret [])) gAppend) (ret .nx))) (sq (bnd (eOp gAdd (look (eOp aDiv (pVar 3) (look (eC (.int 7))))) (look (eC (.int 99)))) (setR 3)) (ret .nx)))))) (sq (mIfS (mAnd (blOf (eOp (gEq false) (look (eOp gIx (pVar 0) (look (eC (.int 0))))) (look (eC (.str "row"))))) (blOf (eOp (gEq false) (look (eOp aMod (look (eCall gInt (kCons (pVar 1) (ret [])))) (look (eC (.int 2))))) (look (eC (.int 1)))))) (sq (bnd (mRev (pVar 2)) (setR 2)) (ret .nx)) (ret .nx)) (sq (bnd (mTup (aCons (eOp gIx (pVar 0) (look (eC (.int 0)))) (aCons (eCall gTuple (kCons (pVar 2) (ret []))) (ret [])))) mRet) (ret .nx))))))
def fn__law_shuffled : Nat → Fn
  | 0 => fun _ => .bad
  | d + 1 => runF 6 2 (st__law_shuffled (fn__law_shuffled d))
theorem ok__law_shuffled (T : Top w K mg cm) (F : Fun K "_law_shuffled" "_law_shuffled" (topS 40) f fd) (hg : mg "_law_shuffled" = some (.ref f)) (hb : Binds K fd ["tree", "cell"] []) (c__law_rich : Cal P w K mg base cm 1 "_law_rich" fn__law_rich) : ∀ d : Nat, Cal P w K mg base cm (1 + d) "_law_shuffled" (fn__law_shuffled d)
  | 0 => (cal_bad F hg hb).mono (Nat.zero_le _)
  | d + 1 => by
    have c_ := ok__law_shuffled T F hg hb c__law_rich d
    refine def_ok (m := st__law_shuffled (fn__law_shuffled d)) F sc__law_shuffled hg hb ?_ (by decide)
    intro cdv A outer s H E hr
    have tk : L2.Takes (cxOf (L2.CX P w) P w K mg base ["tree", "cell", "parts", "rest", "part", "told"] "_law_shuffled" (defScope (topS 40)) f cdv A outer s H E) (fun cls d _ H => E cls d H) := takes_of rfl rfl rfl rfl
    have hp : PassesOwn (model P w) (cxOf (L2.CX P w) P w K mg base ["tree", "cell", "parts", "rest", "part", "told"] "_law_shuffled" (defScope (topS 40)) f cdv A outer s H E).A (cxOf (L2.CX P w) P w K mg base ["tree", "cell", "parts", "rest", "part", "told"] "_law_shuffled" (defScope (topS 40)) f cdv A outer s H E).env (cxOf (L2.CX P w) P w K mg base ["tree", "cell", "parts", "rest", "part", "told"] "_law_shuffled" (defScope (topS 40)) f cdv A outer s H E).xe := passes_of rfl
    have c__law_rich : Cal P w K mg base cm (1 + d) "_law_rich" fn__law_rich := c__law_rich.mono (by omega)
    exact b_cons (s_if (t_val (SE.look (e_isi T.b_isinstance T.b_int PyProof.Rows.boot_int (p_var (i := 0))))) (b_cons (s_retV (i := 0)) (b_nil)) (b_nil)) (b_cons (s_set (i := 2) sc__law_shuffled.nd (e_lst (a_nil))) (b_cons (s_set (i := 3) sc__law_shuffled.nd (e_call c__law_rich hr tk (a_cons (e_var (i := 1)) (a_nil)))) (b_cons (s_for hp rfl (i_seq (e_ix (p_var (i := 0)) (SE.look (e_int)))) (g_name (i := 4) sc__law_shuffled.nd) (b_cons (s_set (i := 5) sc__law_shuffled.nd (e_call c_ hr tk (a_cons (e_var (i := 4)) (a_cons (e_bin o_addG (SE.look (e_bin o_div (p_var (i := 3)) (SE.look (e_int)))) (SE.look (e_int))) (a_nil))))) (b_cons (s_if (t_cmp (o_eq hr.units) (SE.look (e_ix (p_var (i := 0)) (SE.look (e_int)))) (SE.look (e_str))) (b_cons (s_met (i := 2) PySem.F.slot_list_insert PySem.F.type_list_insert k_insert (a_cons (e_bin o_mod (SE.look (e_callTy c_int T.b_int PyProof.Rows.boot_int (k_cons (p_var (i := 3)) (k_nil)))) (SE.look (e_bin o_addG (SE.look (e_callB c_len T.b_len PySem.boot_len (k_cons (p_var (i := 2)) (k_nil)))) (SE.look (e_int))))) (a_cons (e_var (i := 5)) (a_nil)))) (b_nil)) (b_cons (s_met (i := 2) PySem.F.slot_list_append PySem.F.type_list_append k_append (a_cons (e_var (i := 5)) (a_nil))) (b_nil))) (b_cons (s_set (i := 3) sc__law_shuffled.nd (e_bin o_addG (SE.look (e_bin o_div (p_var (i := 3)) (SE.look (e_int)))) (SE.look (e_int)))) (b_nil))))) (b_cons (s_if (t_w (w_and (t_cmp (o_eq hr.units) (SE.look (e_ix (p_var (i := 0)) (SE.look (e_int)))) (SE.look (e_str))) (w_one (t_cmp (o_eq hr.units) (SE.look (e_bin o_mod (SE.look (e_callTy c_int T.b_int PyProof.Rows.boot_int (k_cons (p_var (i := 1)) (k_nil)))) (SE.look (e_int)))) (SE.look (e_int)))))) (b_cons (s_set (i := 2) sc__law_shuffled.nd (e_revL (p_var (i := 2)))) (b_nil)) (b_nil)) (b_cons (s_ret (e_tup (a_cons (e_ix (p_var (i := 0)) (SE.look (e_int))) (a_cons (e_callTy c_tuple T.b_tuple PyProof.Rows.boot_tuple (k_cons (p_var (i := 2)) (k_nil))) (a_nil))))) (b_nil))))))
theorem sc__law_orders : FnScope ["n", "orders", "thing", "longer", "order", "at"] ["n"] (defScope (topS 41)) := ⟨rfl, rfl, rfl, by decide +kernel, rfl, by decide +kernel, by decide +kernel⟩
def st__law_orders : M Fl := sq (bnd (mLst (aCons (mTup (ret [])) (ret []))) (setR 1)) (sq (bnd (mRng1 (kCons (pVar 0) (ret []))) (loop (tName 2) (sq (bnd (mLst (ret [])) (setR 3)) (sq (bnd (mSeq (eVar 1)) (loop (tName 4) (sq (bnd (mRng1 (kCons (look (eOp gAdd (look (eCall gLen (kCons (pVar 4) (ret [])))) (look (eC (.int 1))))) (ret []))) (loop (tName 5) (sq (mMet 3 (aCons (eOp gAdd (look (eOp gAdd (look (eSl (pVar 4) (ret none) (soInt (pVar 5)))) (look (mTup (aCons (eVar 2) (ret [])))))) (look (eSl (pVar 4) (soInt (pVar 5)) (ret none)))) (ret [])) gAppend) (ret .nx)))) (ret .nx)))) (sq (bnd (eVar 3) (setR 1)) (ret .nx)))))) (sq (mRetV 1) (ret .nx)))
def fn__law_orders : Fn := runF 6 1 st__law_orders
theorem ok__law_orders (T : Top w K mg cm) (F : Fun K "_law_orders" "_law_orders" (topS 41) f fd) (hg : mg "_law_orders" = some (.ref f)) (hb : Binds K fd ["n"] []) : Cal P w K mg base cm 1 "_law_orders" fn__law_orders := by
  refine def_ok (k := 0) (m := st__law_orders) F sc__law_orders hg hb ?_ (by decide)
  intro cdv A outer s H E hr
  have tk : L2.Takes (cxOf (L2.CX P w) P w K mg base ["n", "orders", "thing", "longer", "order", "at"] "_law_orders" (defScope (topS 41)) f cdv A outer s H E) (fun cls d _ H => E cls d H) := takes_of rfl rfl rfl rfl
  have hp : PassesOwn (model P w) (cxOf (L2.CX P w) P w K mg base ["n", "orders", "thing", "longer", "order", "at"] "_law_orders" (defScope (topS 41)) f cdv A outer s H E).A (cxOf (L2.CX P w) P w K mg base ["n", "orders", "thing", "longer", "order", "at"] "_law_orders" (defScope (topS 41)) f cdv A outer s H E).env (cxOf (L2.CX P w) P w K mg base ["n", "orders", "thing", "longer", "order", "at"] "_law_orders" (defScope (topS 41)) f cdv A outer s H E).xe := passes_of rfl
  exact b_cons (s_set (i := 1) sc__law_orders.nd (e_lst (a_cons (e_tup (a_nil)) (a_nil)))) (b_cons (s_for hp rfl (i_range1 T.b_range (k_cons (p_var (i := 0)) (k_nil))) (g_name (i := 2) sc__law_orders.nd) (b_cons (s_set (i := 3) sc__law_orders.nd (e_lst (a_nil))) (b_cons (s_for hp rfl (i_seq (e_var (i := 1))) (g_name (i := 4) sc__law_orders.nd) (b_cons (s_for hp rfl (i_range1 T.b_range (k_cons (SE.look (e_bin o_addG (SE.look (e_callB c_len T.b_len PySem.boot_len (k_cons (p_var (i := 4)) (k_nil)))) (SE.look (e_int)))) (k_nil))) (g_name (i := 5) sc__law_orders.nd) (b_cons (s_met (i := 3) PySem.F.slot_list_append PySem.F.type_list_append k_append (a_cons (e_bin o_addG (SE.look (e_bin o_addG (SE.look (e_sl (p_var (i := 4)) so_none (so_some (p_var (i := 5))))) (SE.look (e_tup (a_cons (e_var (i := 2)) (a_nil)))))) (SE.look (e_sl (p_var (i := 4)) (so_some (p_var (i := 5))) so_none))) (a_nil))) (b_nil))) (b_nil))) (b_cons (s_set (i := 1) sc__law_orders.nd (e_var (i := 3))) (b_nil))))) (b_cons (s_retV (i := 1)) (b_nil)))
theorem sc__law_drawn_order : FnScope ["tree", "cell", "order", "part"] ["tree", "cell"] (defScope (topS 42)) := ⟨rfl, rfl, rfl, by decide +kernel, rfl, by decide +kernel, by decide +kernel⟩
def st__law_drawn_order (r_ : Fn) : M Fl := sq (mIfS (tTru (look (mIsi "int" (pVar 0)))) (sq (bnd (mTup (aCons (eVar 0) (ret []))) mRet) (ret .nx)) (ret .nx)) (sq (bnd (mTup (ret [])) (setR 2)) (sq (bnd (mSeq (eOp gIx (look (eFn (fn__law_shuffled 40) (aCons (eVar 0) (aCons (eVar 1) (ret []))))) (look (eC (.int 1))))) (loop (tName 3) (sq (bnd (eOp gAdd (pVar 2) (look (eFn r_ (aCons (eVar 3) (aCons (eOp gAdd (look (eOp aDiv (pVar 1) (look (eC (.int 3))))) (look (eC (.int 11)))) (ret [])))))) (setR 2)) (ret .nx)))) (sq (mRetV 2) (ret .nx))))
def fn__law_drawn_order : Nat → Fn
  | 0 => fun _ => .bad
  | d + 1 => runF 4 2 (st__law_drawn_order (fn__law_drawn_order d))
theorem ok__law_drawn_order (T : Top w K mg cm) (F : Fun K "_law_drawn_order" "_law_drawn_order" (topS 42) f fd) (hg : mg "_law_drawn_order" = some (.ref f)) (hb : Binds K fd ["tree", "cell"] []) (c__law_shuffled : Cal P w K mg base cm 41 "_law_shuffled" (fn__law_shuffled 40)) : ∀ d : Nat, Cal P w K mg base cm (41 + d) "_law_drawn_order" (fn__law_drawn_order d)
  | 0 => (cal_bad F hg hb).mono (Nat.zero_le _)
  | d + 1 => by
    have c_ := ok__law_drawn_order T F hg hb c__law_shuffled d
    refine def_ok (m := st__law_drawn_order (fn__law_drawn_order d)) F sc__law_drawn_order hg hb ?_ (by decide)
    intro cdv A outer s H E hr
    have tk : L2.Takes (cxOf (L2.CX P w) P w K mg base ["tree", "cell", "order", "part"] "_law_drawn_order" (defScope (topS 42)) f cdv A outer s H E) (fun cls d _ H => E cls d H) := takes_of rfl rfl rfl rfl
    have hp : PassesOwn (model P w) (cxOf (L2.CX P w) P w K mg base ["tree", "cell", "order", "part"] "_law_drawn_order" (defScope (topS 42)) f cdv A outer s H E).A (cxOf (L2.CX P w) P w K mg base ["tree", "cell", "order", "part"] "_law_drawn_order" (defScope (topS 42)) f cdv A outer s H E).env (cxOf (L2.CX P w) P w K mg base ["tree", "cell", "order", "part"] "_law_drawn_order" (defScope (topS 42)) f cdv A outer s H E).xe := passes_of rfl
    have c__law_shuffled : Cal P w K mg base cm (41 + d) "_law_shuffled" (fn__law_shuffled 40) := c__law_shuffled.mono (by omega)
    exact b_cons (s_if (t_val (SE.look (e_isi T.b_isinstance T.b_int PyProof.Rows.boot_int (p_var (i := 0))))) (b_cons (s_ret (e_tup (a_cons (e_var (i := 0)) (a_nil)))) (b_nil)) (b_nil)) (b_cons (s_set (i := 2) sc__law_drawn_order.nd (e_tup (a_nil))) (b_cons (s_for hp rfl (i_seq (e_ix (SE.look (e_call c__law_shuffled hr tk (a_cons (e_var (i := 0)) (a_cons (e_var (i := 1)) (a_nil))))) (SE.look (e_int)))) (g_name (i := 3) sc__law_drawn_order.nd) (b_cons (s_set (i := 2) sc__law_drawn_order.nd (e_bin o_addG (p_var (i := 2)) (SE.look (e_call c_ hr tk (a_cons (e_var (i := 3)) (a_cons (e_bin o_addG (SE.look (e_bin o_div (p_var (i := 1)) (SE.look (e_int)))) (SE.look (e_int))) (a_nil))))))) (b_nil))) (b_cons (s_retV (i := 2)) (b_nil))))
theorem sc__law_distance : FnScope ["one", "two", "found", "j", "i"] ["one", "two"] (defScope (topS 43)) := ⟨rfl, rfl, rfl, by decide +kernel, rfl, by decide +kernel, by decide +kernel⟩
def st__law_distance : M Fl := sq (bnd (eC (.int 0)) (setR 2)) (sq (bnd (mRng1 (kCons (look (eCall gLen (kCons (pVar 0) (ret [])))) (ret []))) (loop (tName 3) (sq (bnd (eOp gAdd (pVar 2) (look (eCall gLen (kCons (look (mComp (mRng1 (kCons (pVar 3) (ret []))) (tName 4) (blOf (eOp cGt (look (mIndex (pVar 1) (look (eOp gIx (pVar 0) (pVar 4))))) (look (mIndex (pVar 1) (look (eOp gIx (pVar 0) (pVar 3))))))) (eVar 4) [4])) (ret []))))) (setR 2)) (ret .nx)))) (sq (mRetV 2) (ret .nx)))
def fn__law_distance : Fn := runF 5 2 st__law_distance
theorem ok__law_distance (T : Top w K mg cm) (F : Fun K "_law_distance" "_law_distance" (topS 43) f fd) (hg : mg "_law_distance" = some (.ref f)) (hb : Binds K fd ["one", "two"] []) : Cal P w K mg base cm 1 "_law_distance" fn__law_distance := by
  refine def_ok (k := 0) (m := st__law_distance) F sc__law_distance hg hb ?_ (by decide)
  intro cdv A outer s H E hr
  have tk : L2.Takes (cxOf (L2.CX P w) P w K mg base ["one", "two", "found", "j", "i"] "_law_distance" (defScope (topS 43)) f cdv A outer s H E) (fun cls d _ H => E cls d H) := takes_of rfl rfl rfl rfl
  have hp : PassesOwn (model P w) (cxOf (L2.CX P w) P w K mg base ["one", "two", "found", "j", "i"] "_law_distance" (defScope (topS 43)) f cdv A outer s H E).A (cxOf (L2.CX P w) P w K mg base ["one", "two", "found", "j", "i"] "_law_distance" (defScope (topS 43)) f cdv A outer s H E).env (cxOf (L2.CX P w) P w K mg base ["one", "two", "found", "j", "i"] "_law_distance" (defScope (topS 43)) f cdv A outer s H E).xe := passes_of rfl
  exact b_cons (s_set (i := 2) sc__law_distance.nd (e_int)) (b_cons (s_for hp rfl (i_range1 T.b_range (k_cons (SE.look (e_callB c_len T.b_len PySem.boot_len (k_cons (p_var (i := 0)) (k_nil)))) (k_nil))) (g_name (i := 3) sc__law_distance.nd) (b_cons (s_set (i := 2) sc__law_distance.nd (e_bin o_addG (p_var (i := 2)) (SE.look (e_callB c_len T.b_len PySem.boot_len (k_cons (SE.look (e_compV (N := ["one", "two", "found", "j", "i"]) (sc := defScope (topS 43)) (vs := [4]) [("i", 4)] rfl sc__law_distance.nd (by decide +kernel) (i_range1 T.b_range (k_cons (p_var (i := 3)) (k_nil))) (fun _ _ _ _ _ => g_name (i := 4) sc__law_distance.nd) (fun _ _ _ _ _ => ts_one (t_cmp o_gt (SE.look (e_index (p_var (i := 1)) (SE.look (e_ix (p_var (i := 0)) (p_var (i := 4)))))) (SE.look (e_index (p_var (i := 1)) (SE.look (e_ix (p_var (i := 0)) (p_var (i := 3)))))))) (fun _ _ _ _ _ => e_var (i := 4)))) (k_nil)))))) (b_nil))) (b_cons (s_retV (i := 2)) (b_nil)))
theorem sc__law_most_parts : FnScope ["tree", "most", "part"] ["tree"] (defScope (topS 44)) := ⟨rfl, rfl, rfl, by decide +kernel, rfl, by decide +kernel, by decide +kernel⟩
def st__law_most_parts (r_ : Fn) : M Fl := sq (mIfS (tTru (look (mIsi "int" (pVar 0)))) (sq (bnd (eC (.int 0)) mRet) (ret .nx)) (ret .nx)) (sq (bnd (eCall gMax (kCons (look (mComp (mSeq (eOp gIx (pVar 0) (look (eC (.int 1))))) (tName 2) (ret true) (eFn r_ (aCons (eVar 2) (ret []))) [2])) (ret []))) (setR 1)) (sq (mIfS (blOf (eOp (gEq false) (look (eOp gIx (pVar 0) (look (eC (.int 0))))) (look (eC (.str "any"))))) (sq (bnd (eCall gMax (kCons (pVar 1) (kCons (look (eCall gLen (kCons (look (eOp gIx (pVar 0) (look (eC (.int 1))))) (ret [])))) (ret [])))) (setR 1)) (ret .nx)) (ret .nx)) (sq (mRetV 1) (ret .nx))))
def fn__law_most_parts : Nat → Fn
  | 0 => fun _ => .bad
  | d + 1 => runF 3 1 (st__law_most_parts (fn__law_most_parts d))
theorem ok__law_most_parts (T : Top w K mg cm) (F : Fun K "_law_most_parts" "_law_most_parts" (topS 44) f fd) (hg : mg "_law_most_parts" = some (.ref f)) (hb : Binds K fd ["tree"] []) : ∀ d : Nat, Cal P w K mg base cm (0 + d) "_law_most_parts" (fn__law_most_parts d)
  | 0 => (cal_bad F hg hb).mono (Nat.zero_le _)
  | d + 1 => by
    have c_ := ok__law_most_parts T F hg hb d
    refine def_ok (m := st__law_most_parts (fn__law_most_parts d)) F sc__law_most_parts hg hb ?_ (by decide)
    intro cdv A outer s H E hr
    have tk : L2.Takes (cxOf (L2.CX P w) P w K mg base ["tree", "most", "part"] "_law_most_parts" (defScope (topS 44)) f cdv A outer s H E) (fun cls d _ H => E cls d H) := takes_of rfl rfl rfl rfl
    have hp : PassesOwn (model P w) (cxOf (L2.CX P w) P w K mg base ["tree", "most", "part"] "_law_most_parts" (defScope (topS 44)) f cdv A outer s H E).A (cxOf (L2.CX P w) P w K mg base ["tree", "most", "part"] "_law_most_parts" (defScope (topS 44)) f cdv A outer s H E).env (cxOf (L2.CX P w) P w K mg base ["tree", "most", "part"] "_law_most_parts" (defScope (topS 44)) f cdv A outer s H E).xe := passes_of rfl
    exact b_cons (s_if (t_val (SE.look (e_isi T.b_isinstance T.b_int PyProof.Rows.boot_int (p_var (i := 0))))) (b_cons (s_ret (e_int)) (b_nil)) (b_nil)) (b_cons (s_set (i := 1) sc__law_most_parts.nd (e_callB (c_max rfl) T.b_max PyProof.Rows.boot_max (k_cons (SE.look (e_compV (N := ["tree", "most", "part"]) (sc := defScope (topS 44)) (vs := [2]) [("part", 2)] rfl sc__law_most_parts.nd (by decide +kernel) (i_seq (e_ix (p_var (i := 0)) (SE.look (e_int)))) (fun _ _ _ _ _ => g_name (i := 2) sc__law_most_parts.nd) (fun _ _ _ _ _ => ts_nil) (fun _ _ _ _ _ => e_call c_ hr L2.takes0 (a_cons (e_var (i := 2)) (a_nil))))) (k_nil)))) (b_cons (s_if (t_cmp (o_eq hr.units) (SE.look (e_ix (p_var (i := 0)) (SE.look (e_int)))) (SE.look (e_str))) (b_cons (s_set (i := 1) sc__law_most_parts.nd (e_callB (c_max rfl) T.b_max PyProof.Rows.boot_max (k_cons (p_var (i := 1)) (k_cons (SE.look (e_callB c_len T.b_len PySem.boot_len (k_cons (SE.look (e_ix (p_var (i := 0)) (SE.look (e_int)))) (k_nil)))) (k_nil))))) (b_nil)) (b_nil)) (b_cons (s_retV (i := 1)) (b_nil))))
theorem sc_law : FnScope ["script", "d", "n", "tree", "wanted", "found", "drawn", "first", "thing", "k", "order"] ["script"] (defScope (topS 45)) := ⟨rfl, rfl, rfl, by decide +kernel, rfl, by decide +kernel, by decide +kernel⟩
def is_law : Str → Option Bool := fun d => if d = "UnpartedError" then some false else if d = "InvalidOrder" then some false else if d = "InvalidTree" then some false else if d = "OutOfRange" then some true else none
theorem is_law_ok (T : Top w K mg cm) : ∀ d k, is_law d = some k → PySem.W.exmOne K (cm d) (cm "OutOfRange") = some k := fun d k h => by
  unfold is_law at h
  split at h
  · rename_i e; subst e; cases h; exact T.m_UnpartedError_OutOfRange
  split at h
  · rename_i e; subst e; cases h; exact T.m_InvalidOrder_OutOfRange
  split at h
  · rename_i e; subst e; cases h; exact T.m_InvalidTree_OutOfRange
  split at h
  · rename_i e; subst e; cases h; exact T.m_OutOfRange_OutOfRange
  cases h
def st_law : M Fl := sq (bnd (eFn fn__law_digits (aCons (eFn fn__law_rich (aCons (eFn fn__law_cell (aCons (eVar 0) (aCons (eC (.int 0)) (ret [])))) (ret []))) (aCons (mLst (aCons (eC (.int 9)) (aCons (eC (.int 8)) (aCons (eC (.int 17)) (ret []))))) (ret [])))) (setR 1)) (sq (bnd (eOp gAdd (look (eC (.int 1))) (look (eOp gIx (pVar 1) (look (eC (.int 0)))))) (setR 2)) (sq (bnd (eFn fn__law_tree (aCons (eFn fn__law_cell (aCons (eVar 0) (aCons (eC (.int 1)) (ret [])))) (aCons (eVar 2) (ret [])))) (setR 3)) (sq (bnd (eFn fn__law_order (aCons (eFn fn__law_cell (aCons (eVar 0) (aCons (eC (.int 2)) (ret [])))) (aCons (eVar 2) (ret [])))) (setR 4)) (sq (mIfS (blOf (eOp (gEq false) (look (eOp gIx (pVar 1) (look (eC (.int 1))))) (look (eC (.int 0))))) (sq (bnd (eOp gAdd (look (eC (.int 8))) (look (eOp gIx (pVar 1) (look (eC (.int 2)))))) (setR 2)) (sq (bnd (mTup (aCons (eC (.str "any")) (aCons (eCall gTuple (kCons (look (mComp (mRng1 (kCons (pVar 2) (ret []))) (tName 8) (ret true) (eVar 8) [8])) (ret []))) (ret [])))) (setR 3)) (sq (bnd (eFn fn__law_order (aCons (eFn fn__law_cell (aCons (eVar 0) (aCons (eC (.int 2)) (ret [])))) (aCons (eVar 2) (ret [])))) (setR 4)) (ret .nx)))) (ret .nx)) (sq (bnd (eC .non) (setR 5)) (sq (mTryO (sq (bnd (eFn fn_nearest (aCons (eVar 3) (aCons (eVar 4) (ret [])))) (setR 5)) (ret .nx)) is_law (fun _ => sq (bnd (eC .non) (setR 5)) (ret .nx))) (sq (mIfS (blOf (eOp (gEq true) (look (eOp (gIs false) (pVar 5) (look (eC .non)))) (look (eOp cGt (look (eFn (fn__law_most_parts 40) (aCons (eVar 3) (ret [])))) (look (eC (.int 8))))))) (sq (bnd (eC (.bl false)) mRet) (ret .nx)) (ret .nx)) (sq (bnd (mComp (mRng1 (kCons (look (eC (.int 5))) (ret []))) (tName 9) (ret true) (eFn (fn__law_drawn_order 40) (aCons (eVar 3) (aCons (eFn fn__law_rich (aCons (eOp gAdd (look (eFn fn__law_cell (aCons (eVar 0) (aCons (eC (.int 3)) (ret []))))) (pVar 9)) (ret []))) (ret [])))) [9]) (setR 6)) (sq (mIfS (blOf (eOp cLt (pVar 2) (look (eC (.int 6))))) (sq (bnd (mComp (mSeq (eFn fn__law_orders (aCons (eVar 2) (ret [])))) (tName 10) (tTru (look (eFn (fn__law_told 40) (aCons (eVar 3) (aCons (eVar 10) (ret [])))))) (eVar 10) [10]) (setR 6)) (ret .nx)) (ret .nx)) (sq (mIfS (blOf (eOp (gEq false) (look (eOp gIx (pVar 1) (look (eC (.int 1))))) (look (eC (.int 0))))) (sq (mMet 6 (aCons (eVar 4) (ret [])) gAppend) (ret .nx)) (ret .nx)) (sq (bnd (eFn fn_least_order (aCons (eVar 3) (ret []))) (setR 7)) (sq (mIfS (mOr (mNot (tTru (look (mIsi "tuple" (pVar 7))))) (mOr (mNot (tTru (look (eFn (fn__law_told 40) (aCons (eVar 3) (aCons (eVar 7) (ret []))))))) (blOf (eOp (gEq true) (look (mComp (mSeq (eVar 6)) (tName 10) (blOf (eOp gLt2 (pVar 10) (pVar 7))) (eVar 10) [10])) (look (mLst (ret []))))))) (sq (bnd (eC (.bl false)) mRet) (ret .nx)) (ret .nx)) (sq (mIfS (blOf (eOp (gEq true) (look (eFn fn_distance (aCons (eOp gIx (pVar 6) (look (eC (.int 0)))) (aCons (eVar 4) (ret []))))) (look (eFn fn__law_distance (aCons (eOp gIx (pVar 6) (look (eC (.int 0)))) (aCons (eVar 4) (ret []))))))) (sq (bnd (eC (.bl false)) mRet) (ret .nx)) (ret .nx)) (sq (mIfS (blOf (eOp (gIs false) (pVar 5) (look (eC .non)))) (sq (bnd (eC (.bl true)) mRet) (ret .nx)) (ret .nx)) (sq (mIfS (mOr (mNot (tTru (look (mIsi "tuple" (pVar 5))))) (mOr (blOf (eOp (gEq true) (look (eCall gLen (kCons (pVar 5) (ret [])))) (look (eC (.int 2))))) (mOr (mNot (tTru (look (mIsi "tuple" (look (eOp gIx (pVar 5) (look (eC (.int 1))))))))) (mNot (tTru (look (eFn (fn__law_told 40) (aCons (eVar 3) (aCons (eOp gIx (pVar 5) (look (eC (.int 1)))) (ret [])))))))))) (sq (bnd (eC (.bl false)) mRet) (ret .nx)) (ret .nx)) (sq (mIfS (mOr (mNot (tTru (look (eFn fn__law_is_integer (aCons (eOp gIx (pVar 5) (look (eC (.int 0)))) (ret [])))))) (blOf (eOp (gEq true) (look (eOp gIx (pVar 5) (look (eC (.int 0))))) (look (eFn fn__law_distance (aCons (eOp gIx (pVar 5) (look (eC (.int 1)))) (aCons (eVar 4) (ret [])))))))) (sq (bnd (eC (.bl false)) mRet) (ret .nx)) (ret .nx)) (sq (bnd (eOp (gEq false) (look (mComp (mSeq (eVar 6)) (tName 10) (blOf (eOp cLt (look (eFn fn__law_distance (aCons (eVar 10) (aCons (eVar 4) (ret []))))) (look (eOp gIx (pVar 5) (look (eC (.int 0))))))) (eVar 10) [10])) (look (mLst (ret [])))) mRet) (ret .nx))))))))))))))))))
def fn_law : Fn := runF 11 1 st_law
theorem ok_law (T : Top w K mg cm) (F : Fun K "law" "law" (topS 45) f fd) (c_least_order : Cal P w K mg base cm 45 "least_order" fn_least_order) (c_distance : Cal P w K mg base cm 3 "distance" fn_distance) (c_nearest : Cal P w K mg base cm 45 "nearest" fn_nearest) (c__law_cell : Cal P w K mg base cm 1 "_law_cell" fn__law_cell) (c__law_digits : Cal P w K mg base cm 1 "_law_digits" fn__law_digits) (c__law_rich : Cal P w K mg base cm 1 "_law_rich" fn__law_rich) (c__law_is_integer : Cal P w K mg base cm 1 "_law_is_integer" fn__law_is_integer) (c__law_order : Cal P w K mg base cm 2 "_law_order" fn__law_order) (c__law_told : Cal P w K mg base cm 80 "_law_told" (fn__law_told 40)) (c__law_tree : Cal P w K mg base cm 3 "_law_tree" fn__law_tree) (c__law_orders : Cal P w K mg base cm 1 "_law_orders" fn__law_orders) (c__law_drawn_order : Cal P w K mg base cm 81 "_law_drawn_order" (fn__law_drawn_order 40)) (c__law_distance : Cal P w K mg base cm 1 "_law_distance" fn__law_distance) (c__law_most_parts : Cal P w K mg base cm 40 "_law_most_parts" (fn__law_most_parts 40)) : FnOk P w K mg base (L2.CX P w) 82 f fd ["script"] (spP K cm fn_law) := by
  refine def_fn (k := 81) (m := st_law) F sc_law ?_ (by decide)
  intro cdv A outer s H E hr
  have tk : L2.Takes (cxOf (L2.CX P w) P w K mg base ["script", "d", "n", "tree", "wanted", "found", "drawn", "first", "thing", "k", "order"] "law" (defScope (topS 45)) f cdv A outer s H E) (fun cls d _ H => E cls d H) := takes_of rfl rfl rfl rfl
  have hp : PassesOwn (model P w) (cxOf (L2.CX P w) P w K mg base ["script", "d", "n", "tree", "wanted", "found", "drawn", "first", "thing", "k", "order"] "law" (defScope (topS 45)) f cdv A outer s H E).A (cxOf (L2.CX P w) P w K mg base ["script", "d", "n", "tree", "wanted", "found", "drawn", "first", "thing", "k", "order"] "law" (defScope (topS 45)) f cdv A outer s H E).env (cxOf (L2.CX P w) P w K mg base ["script", "d", "n", "tree", "wanted", "found", "drawn", "first", "thing", "k", "order"] "law" (defScope (topS 45)) f cdv A outer s H E).xe := passes_of rfl
  have c_least_order : Cal P w K mg base cm 81 "least_order" fn_least_order := c_least_order.mono (by omega)
  have c_distance : Cal P w K mg base cm 81 "distance" fn_distance := c_distance.mono (by omega)
  have c_nearest : Cal P w K mg base cm 81 "nearest" fn_nearest := c_nearest.mono (by omega)
  have c__law_cell : Cal P w K mg base cm 81 "_law_cell" fn__law_cell := c__law_cell.mono (by omega)
  have c__law_digits : Cal P w K mg base cm 81 "_law_digits" fn__law_digits := c__law_digits.mono (by omega)
  have c__law_rich : Cal P w K mg base cm 81 "_law_rich" fn__law_rich := c__law_rich.mono (by omega)
  have c__law_is_integer : Cal P w K mg base cm 81 "_law_is_integer" fn__law_is_integer := c__law_is_integer.mono (by omega)
  have c__law_order : Cal P w K mg base cm 81 "_law_order" fn__law_order := c__law_order.mono (by omega)
  have c__law_told : Cal P w K mg base cm 81 "_law_told" (fn__law_told 40) := c__law_told.mono (by omega)
  have c__law_tree : Cal P w K mg base cm 81 "_law_tree" fn__law_tree := c__law_tree.mono (by omega)
  have c__law_orders : Cal P w K mg base cm 81 "_law_orders" fn__law_orders := c__law_orders.mono (by omega)
  have c__law_drawn_order : Cal P w K mg base cm 81 "_law_drawn_order" (fn__law_drawn_order 40) := c__law_drawn_order.mono (by omega)
  have c__law_distance : Cal P w K mg base cm 81 "_law_distance" fn__law_distance := c__law_distance.mono (by omega)
  have c__law_most_parts : Cal P w K mg base cm 81 "_law_most_parts" (fn__law_most_parts 40) := c__law_most_parts.mono (by omega)
  exact b_cons (s_set (i := 1) sc_law.nd (e_call c__law_digits hr tk (a_cons (e_call c__law_rich hr tk (a_cons (e_call c__law_cell hr tk (a_cons (e_var (i := 0)) (a_cons (e_int) (a_nil)))) (a_nil))) (a_cons (e_lst (a_cons (e_int) (a_cons (e_int) (a_cons (e_int) (a_nil))))) (a_nil))))) (b_cons (s_set (i := 2) sc_law.nd (e_bin o_addG (SE.look (e_int)) (SE.look (e_ix (p_var (i := 1)) (SE.look (e_int)))))) (b_cons (s_set (i := 3) sc_law.nd (e_call c__law_tree hr tk (a_cons (e_call c__law_cell hr tk (a_cons (e_var (i := 0)) (a_cons (e_int) (a_nil)))) (a_cons (e_var (i := 2)) (a_nil))))) (b_cons (s_set (i := 4) sc_law.nd (e_call c__law_order hr tk (a_cons (e_call c__law_cell hr tk (a_cons (e_var (i := 0)) (a_cons (e_int) (a_nil)))) (a_cons (e_var (i := 2)) (a_nil))))) (b_cons (s_if (t_cmp (o_eq hr.units) (SE.look (e_ix (p_var (i := 1)) (SE.look (e_int)))) (SE.look (e_int))) (b_cons (s_set (i := 2) sc_law.nd (e_bin o_addG (SE.look (e_int)) (SE.look (e_ix (p_var (i := 1)) (SE.look (e_int)))))) (b_cons (s_set (i := 3) sc_law.nd (e_tup (a_cons (e_str) (a_cons (e_callTy c_tuple T.b_tuple PyProof.Rows.boot_tuple (k_cons (SE.look (e_compV (N := ["script", "d", "n", "tree", "wanted", "found", "drawn", "first", "thing", "k", "order"]) (sc := defScope (topS 45)) (vs := [8]) [("thing", 8)] rfl sc_law.nd (by decide +kernel) (i_range1 T.b_range (k_cons (p_var (i := 2)) (k_nil))) (fun _ _ _ _ _ => g_name (i := 8) sc_law.nd) (fun _ _ _ _ _ => ts_nil) (fun _ _ _ _ _ => e_var (i := 8)))) (k_nil))) (a_nil))))) (b_cons (s_set (i := 4) sc_law.nd (e_call c__law_order hr tk (a_cons (e_call c__law_cell hr tk (a_cons (e_var (i := 0)) (a_cons (e_int) (a_nil)))) (a_cons (e_var (i := 2)) (a_nil))))) (b_nil)))) (b_nil)) (b_cons (s_set (i := 5) sc_law.nd (e_non)) (b_cons (s_tryOnly rfl rfl T.N_OutOfRange.names tk (is_law_ok T) (fun _ _ _ tk hp => b_cons (s_set (i := 5) sc_law.nd (e_call c_nearest hr tk (a_cons (e_var (i := 3)) (a_cons (e_var (i := 4)) (a_nil))))) (b_nil)) (fun _ _ _ _ hd _ _ => b_cons (s_set (i := 5) sc_law.nd (e_non)) (b_nil))) (b_cons (s_if (t_cmp (o_ne hr.units) (SE.look (e_cmp o_is (p_var (i := 5)) (SE.look (e_non)))) (SE.look (e_cmp o_gt (SE.look (e_call c__law_most_parts hr tk (a_cons (e_var (i := 3)) (a_nil)))) (SE.look (e_int))))) (b_cons (s_ret (e_bl)) (b_nil)) (b_nil)) (b_cons (s_setCompV (i := 6) (N := ["script", "d", "n", "tree", "wanted", "found", "drawn", "first", "thing", "k", "order"]) (sc := defScope (topS 45)) (vs := [9]) [("k", 9)] rfl sc_law.nd rfl (by decide +kernel) (i_range1 T.b_range (k_cons (SE.look (e_int)) (k_nil))) (fun _ _ _ _ _ => g_name (i := 9) sc_law.nd) (fun _ _ _ _ _ => ts_nil) (fun _ _ _ _ _ => e_call c__law_drawn_order hr L2.takes0 (a_cons (e_var (i := 3)) (a_cons (e_call c__law_rich hr L2.takes0 (a_cons (e_bin o_addG (SE.look (e_call c__law_cell hr L2.takes0 (a_cons (e_var (i := 0)) (a_cons (e_int) (a_nil))))) (p_var (i := 9))) (a_nil))) (a_nil))))) (b_cons (s_if (t_cmp o_lt (p_var (i := 2)) (SE.look (e_int))) (b_cons (s_setCompV (i := 6) (N := ["script", "d", "n", "tree", "wanted", "found", "drawn", "first", "thing", "k", "order"]) (sc := defScope (topS 45)) (vs := [10]) [("order", 10)] rfl sc_law.nd rfl (by decide +kernel) (i_seq (e_call c__law_orders hr tk (a_cons (e_var (i := 2)) (a_nil)))) (fun _ _ _ _ _ => g_name (i := 10) sc_law.nd) (fun _ _ _ _ _ => ts_one (t_val (SE.look (e_call c__law_told hr L2.takes0 (a_cons (e_var (i := 3)) (a_cons (e_var (i := 10)) (a_nil))))))) (fun _ _ _ _ _ => e_var (i := 10))) (b_nil)) (b_nil)) (b_cons (s_if (t_cmp (o_eq hr.units) (SE.look (e_ix (p_var (i := 1)) (SE.look (e_int)))) (SE.look (e_int))) (b_cons (s_met (i := 6) PySem.F.slot_list_append PySem.F.type_list_append k_append (a_cons (e_var (i := 4)) (a_nil))) (b_nil)) (b_nil)) (b_cons (s_set (i := 7) sc_law.nd (e_call c_least_order hr tk (a_cons (e_var (i := 3)) (a_nil)))) (b_cons (s_if (t_w (w_or (t_not (t_val (SE.look (e_isi T.b_isinstance T.b_tuple PyProof.Rows.boot_tuple (p_var (i := 7)))))) (w_or (t_not (t_val (SE.look (e_call c__law_told hr tk (a_cons (e_var (i := 3)) (a_cons (e_var (i := 7)) (a_nil))))))) (w_oneO (t_cmp (o_ne hr.units) (SE.look (e_compV (N := ["script", "d", "n", "tree", "wanted", "found", "drawn", "first", "thing", "k", "order"]) (sc := defScope (topS 45)) (vs := [10]) [("order", 10)] rfl sc_law.nd (by decide +kernel) (i_seq (e_var (i := 6))) (fun _ _ _ _ _ => g_name (i := 10) sc_law.nd) (fun _ _ _ _ _ => ts_one (t_cmp (o_lt2 hr.units) (p_var (i := 10)) (p_var (i := 7)))) (fun _ _ _ _ _ => e_var (i := 10)))) (SE.look (e_lst (a_nil)))))))) (b_cons (s_ret (e_bl)) (b_nil)) (b_nil)) (b_cons (s_if (t_cmp (o_ne hr.units) (SE.look (e_call c_distance hr tk (a_cons (e_ix (p_var (i := 6)) (SE.look (e_int))) (a_cons (e_var (i := 4)) (a_nil))))) (SE.look (e_call c__law_distance hr tk (a_cons (e_ix (p_var (i := 6)) (SE.look (e_int))) (a_cons (e_var (i := 4)) (a_nil)))))) (b_cons (s_ret (e_bl)) (b_nil)) (b_nil)) (b_cons (s_if (t_cmp o_is (p_var (i := 5)) (SE.look (e_non))) (b_cons (s_ret (e_bl)) (b_nil)) (b_nil)) (b_cons (s_if (t_w (w_or (t_not (t_val (SE.look (e_isi T.b_isinstance T.b_tuple PyProof.Rows.boot_tuple (p_var (i := 5)))))) (w_or (t_cmp (o_ne hr.units) (SE.look (e_callB c_len T.b_len PySem.boot_len (k_cons (p_var (i := 5)) (k_nil)))) (SE.look (e_int))) (w_or (t_not (t_val (SE.look (e_isi T.b_isinstance T.b_tuple PyProof.Rows.boot_tuple (SE.look (e_ix (p_var (i := 5)) (SE.look (e_int)))))))) (w_oneO (t_not (t_val (SE.look (e_call c__law_told hr tk (a_cons (e_var (i := 3)) (a_cons (e_ix (p_var (i := 5)) (SE.look (e_int))) (a_nil)))))))))))) (b_cons (s_ret (e_bl)) (b_nil)) (b_nil)) (b_cons (s_if (t_w (w_or (t_not (t_val (SE.look (e_call c__law_is_integer hr tk (a_cons (e_ix (p_var (i := 5)) (SE.look (e_int))) (a_nil)))))) (w_oneO (t_cmp (o_ne hr.units) (SE.look (e_ix (p_var (i := 5)) (SE.look (e_int)))) (SE.look (e_call c__law_distance hr tk (a_cons (e_ix (p_var (i := 5)) (SE.look (e_int))) (a_cons (e_var (i := 4)) (a_nil))))))))) (b_cons (s_ret (e_bl)) (b_nil)) (b_nil)) (b_cons (s_ret (e_cmp (o_eq hr.units) (SE.look (e_compV (N := ["script", "d", "n", "tree", "wanted", "found", "drawn", "first", "thing", "k", "order"]) (sc := defScope (topS 45)) (vs := [10]) [("order", 10)] rfl sc_law.nd (by decide +kernel) (i_seq (e_var (i := 6))) (fun _ _ _ _ _ => g_name (i := 10) sc_law.nd) (fun _ _ _ _ _ => ts_one (t_cmp o_lt (SE.look (e_call c__law_distance hr L2.takes0 (a_cons (e_var (i := 10)) (a_cons (e_var (i := 4)) (a_nil))))) (SE.look (e_ix (p_var (i := 5)) (SE.look (e_int)))))) (fun _ _ _ _ _ => e_var (i := 10)))) (SE.look (e_lst (a_nil))))) (b_nil))))))))))))))))))
end
theorem ob_eq (s : PySem.W.SharedT) : ob s = hk.obs s.abs := He.obsX_eq (HandSHeadRun.getT_eq s)
theorem top_of {w : World} {K : Fr} {h : Heap} {mg : Str → Option Value} (X : K.In h) (G : h.Ns mainGlobals mg) (c : He.SaysX faL fnL tsL [] exL w h K) : Top w K mg (cmK K) := by
  have hx := c.more
  unfold exL at hx
  try simp only [Bool.and_eq_true] at hx
  obtain ⟨x0, x1⟩ := hx
  exact { b_bool := He.free_ok X G (c.t.d.fact 32 (f := .free "bool") rfl), b_int := He.free_ok X G (c.t.d.fact 33 (f := .free "int") rfl), b_isinstance := He.free_ok X G (c.t.d.fact 34 (f := .free "isinstance") rfl), b_len := He.free_ok X G (c.t.d.fact 35 (f := .free "len") rfl), b_list := He.free_ok X G (c.t.d.fact 36 (f := .free "list") rfl), b_max := He.free_ok X G (c.t.d.fact 37 (f := .free "max") rfl), b_min := He.free_ok X G (c.t.d.fact 38 (f := .free "min") rfl), b_range := He.free_ok X G (c.t.d.fact 39 (f := .free "range") rfl), b_set := He.free_ok X G (c.t.d.fact 40 (f := .free "set") rfl), b_sorted := He.free_ok X G (c.t.d.fact 41 (f := .free "sorted") rfl), b_sum := He.free_ok X G (c.t.d.fact 42 (f := .free "sum") rfl), b_tuple := He.free_ok X G (c.t.d.fact 43 (f := .free "tuple") rfl), i_MOST_THINGS := He.int_ok X G (c.t.d.fact 44 (f := .int "MOST_THINGS" 24) rfl), i_MOST_PARTS := He.int_ok X G (c.t.d.fact 45 (f := .int "MOST_PARTS" 8) rfl), d_LEAST_PARTS := kd0_of X G (c.t.d.fact 46 (f := .glo "LEAST_PARTS") rfl) (c.t.tab 0) x0, x_InvalidOrder := exK_of X G (c.t.d.fact 47 (f := .exc "InvalidOrder") rfl) (c.t.d.fact 50 (f := .glo "InvalidOrder") rfl), x_InvalidTree := exK_of X G (c.t.d.fact 48 (f := .exc "InvalidTree") rfl) (c.t.d.fact 51 (f := .glo "InvalidTree") rfl), x_OutOfRange := exK_of X G (c.t.d.fact 49 (f := .exc "OutOfRange") rfl) (c.t.d.fact 52 (f := .glo "OutOfRange") rfl), N_OutOfRange := ClN.of X G (c.t.d.fact 52 (f := .glo "OutOfRange") rfl), m_InvalidOrder_OutOfRange := He.exm_ok (c.t.d.fact 54 (f := .exm "InvalidOrder" "OutOfRange" false) rfl), m_InvalidTree_OutOfRange := He.exm_ok (c.t.d.fact 55 (f := .exm "InvalidTree" "OutOfRange" false) rfl), m_OutOfRange_OutOfRange := He.exm_ok (c.t.d.fact 56 (f := .exm "OutOfRange" "OutOfRange" true) rfl), m_UnpartedError_OutOfRange := He.exm_ok (c.t.d.fact 57 (f := .exm "UnpartedError" "OutOfRange" false) rfl), f_combinations := mgIs_ok X G x1 }
theorem facts {P : Program} {w : World} {K : Fr} {h : Heap} {mg : Str → Option Value} {fa : Addr} (X : K.In h) (G : h.Ns mainGlobals mg) (hfa : mg ("law" : Str) = some (.ref fa)) (c : He.SaysX faL fnL tsL [] exL w h K) :
    ∃ fd : FuncData, (∀ (s : Shared) (v : Value), BindsTo s fd ⟨[v], []⟩ [("script", v)]) ∧ ∀ base : Heap, FnOk P w K mg base (L2.CX P w) 82 fa fd ["script"] (spP K (cmK K) fn_law) := by
  have T := top_of X G c
  obtain ⟨fd_is_number_of_things, F0_is_number_of_things⟩ := c.t.d.def_ 0 (d := D_is_number_of_things) rfl
  have F_is_number_of_things : Fun K "is_number_of_things" "is_number_of_things" (topS 8) (He.ga K "is_number_of_things") fd_is_number_of_things := fun_of F0_is_number_of_things
  have g_is_number_of_things : mg "is_number_of_things" = some (.ref (He.ga K "is_number_of_things")) := He.glo_ok X G (c.t.d.fact 0 (f := .glo "is_number_of_things") rfl)
  have b_is_number_of_things : Binds K fd_is_number_of_things ["n"] [] := F_is_number_of_things.binds (ps := ["n"]) fun _ _ _ _ _ _ us hl => match us, hl with | [_], _ => rfl
  obtain ⟨fd_check_order, F0_check_order⟩ := c.t.d.def_ 1 (d := D_check_order) rfl
  have F_check_order : Fun K "check_order" "check_order" (topS 9) (He.ga K "check_order") fd_check_order := fun_of F0_check_order
  have g_check_order : mg "check_order" = some (.ref (He.ga K "check_order")) := He.glo_ok X G (c.t.d.fact 1 (f := .glo "check_order") rfl)
  have b_check_order : Binds K fd_check_order ["n", "order"] [] := F_check_order.binds (ps := ["n", "order"]) fun _ _ _ _ _ _ us hl => match us, hl with | [_, _], _ => rfl
  obtain ⟨fd_checked_parts, F0_checked_parts⟩ := c.t.d.def_ 2 (d := D_checked_parts) rfl
  have F_checked_parts : Fun K "checked_parts" "checked_parts" (topS 13) (He.ga K "checked_parts") fd_checked_parts := fun_of F0_checked_parts
  have g_checked_parts : mg "checked_parts" = some (.ref (He.ga K "checked_parts")) := He.glo_ok X G (c.t.d.fact 2 (f := .glo "checked_parts") rfl)
  have b_checked_parts : Binds K fd_checked_parts ["value"] [] := F_checked_parts.binds (ps := ["value"]) fun _ _ _ _ _ _ us hl => match us, hl with | [_], _ => rfl
  obtain ⟨fd_checked_things, F0_checked_things⟩ := c.t.d.def_ 3 (d := D_checked_things) rfl
  have F_checked_things : Fun K "checked_things" "checked_things" (topS 14) (He.ga K "checked_things") fd_checked_things := fun_of F0_checked_things
  have g_checked_things : mg "checked_things" = some (.ref (He.ga K "checked_things")) := He.glo_ok X G (c.t.d.fact 3 (f := .glo "checked_things") rfl)
  have b_checked_things : Binds K fd_checked_things ["value"] [] := F_checked_things.binds (ps := ["value"]) fun _ _ _ _ _ _ us hl => match us, hl with | [_], _ => rfl
  obtain ⟨fd_things_of, F0_things_of⟩ := c.t.d.def_ 4 (d := D_things_of) rfl
  have F_things_of : Fun K "things_of" "things_of" (topS 15) (He.ga K "things_of") fd_things_of := fun_of F0_things_of
  have g_things_of : mg "things_of" = some (.ref (He.ga K "things_of")) := He.glo_ok X G (c.t.d.fact 4 (f := .glo "things_of") rfl)
  have b_things_of : Binds K fd_things_of ["tree"] [] := F_things_of.binds (ps := ["tree"]) fun _ _ _ _ _ _ us hl => match us, hl with | [_], _ => rfl
  obtain ⟨fd_check_tree, F0_check_tree⟩ := c.t.d.def_ 5 (d := D_check_tree) rfl
  have F_check_tree : Fun K "check_tree" "check_tree" (topS 16) (He.ga K "check_tree") fd_check_tree := fun_of F0_check_tree
  have g_check_tree : mg "check_tree" = some (.ref (He.ga K "check_tree")) := He.glo_ok X G (c.t.d.fact 5 (f := .glo "check_tree") rfl)
  have b_check_tree : Binds K fd_check_tree ["n", "tree"] [] := F_check_tree.binds (ps := ["n", "tree"]) fun _ _ _ _ _ _ us hl => match us, hl with | [_, _], _ => rfl
  obtain ⟨fd_check_own_tree, F0_check_own_tree⟩ := c.t.d.def_ 6 (d := D_check_own_tree) rfl
  have F_check_own_tree : Fun K "check_own_tree" "check_own_tree" (topS 17) (He.ga K "check_own_tree") fd_check_own_tree := fun_of F0_check_own_tree
  have g_check_own_tree : mg "check_own_tree" = some (.ref (He.ga K "check_own_tree")) := He.glo_ok X G (c.t.d.fact 6 (f := .glo "check_own_tree") rfl)
  have b_check_own_tree : Binds K fd_check_own_tree ["tree"] [] := F_check_own_tree.binds (ps := ["tree"]) fun _ _ _ _ _ _ us hl => match us, hl with | [_], _ => rfl
  obtain ⟨fd_check_narrow, F0_check_narrow⟩ := c.t.d.def_ 7 (d := D_check_narrow) rfl
  have F_check_narrow : Fun K "check_narrow" "check_narrow" (topS 18) (He.ga K "check_narrow") fd_check_narrow := fun_of F0_check_narrow
  have g_check_narrow : mg "check_narrow" = some (.ref (He.ga K "check_narrow")) := He.glo_ok X G (c.t.d.fact 7 (f := .glo "check_narrow") rfl)
  have b_check_narrow : Binds K fd_check_narrow ["tree"] [] := F_check_narrow.binds (ps := ["tree"]) fun _ _ _ _ _ _ us hl => match us, hl with | [_], _ => rfl
  obtain ⟨fd_joined, F0_joined⟩ := c.t.d.def_ 8 (d := D_joined) rfl
  have F_joined : Fun K "joined" "joined" (topS 20) (He.ga K "joined") fd_joined := fun_of F0_joined
  have g_joined : mg "joined" = some (.ref (He.ga K "joined")) := He.glo_ok X G (c.t.d.fact 8 (f := .glo "joined") rfl)
  have b_joined : Binds K fd_joined ["orders"] [] := F_joined.binds (ps := ["orders"]) fun _ _ _ _ _ _ us hl => match us, hl with | [_], _ => rfl
  obtain ⟨fd_least_listed, F0_least_listed⟩ := c.t.d.def_ 9 (d := D_least_listed) rfl
  have F_least_listed : Fun K "least_listed" "least_listed" (topS 21) (He.ga K "least_listed") fd_least_listed := fun_of F0_least_listed
  have g_least_listed : mg "least_listed" = some (.ref (He.ga K "least_listed")) := He.glo_ok X G (c.t.d.fact 9 (f := .glo "least_listed") rfl)
  have b_least_listed : Binds K fd_least_listed ["tree"] [] := F_least_listed.binds (ps := ["tree"]) fun _ _ _ _ _ _ us hl => match us, hl with | [_], _ => rfl
  obtain ⟨fd_least_order, F0_least_order⟩ := c.t.d.def_ 10 (d := D_least_order) rfl
  have F_least_order : Fun K "least_order" "least_order" (topS 22) (He.ga K "least_order") fd_least_order := fun_of F0_least_order
  have g_least_order : mg "least_order" = some (.ref (He.ga K "least_order")) := He.glo_ok X G (c.t.d.fact 10 (f := .glo "least_order") rfl)
  have b_least_order : Binds K fd_least_order ["tree"] [] := F_least_order.binds (ps := ["tree"]) fun _ _ _ _ _ _ us hl => match us, hl with | [_], _ => rfl
  obtain ⟨fd_turned, F0_turned⟩ := c.t.d.def_ 11 (d := D_turned) rfl
  have F_turned : Fun K "turned" "turned" (topS 24) (He.ga K "turned") fd_turned := fun_of F0_turned
  have g_turned : mg "turned" = some (.ref (He.ga K "turned")) := He.glo_ok X G (c.t.d.fact 11 (f := .glo "turned") rfl)
  have b_turned : Binds K fd_turned ["wanted", "ahead", "behind"] [] := F_turned.binds (ps := ["wanted", "ahead", "behind"]) fun _ _ _ _ _ _ us hl => match us, hl with | [_, _, _], _ => rfl
  obtain ⟨fd_distance, F0_distance⟩ := c.t.d.def_ 12 (d := D_distance) rfl
  have F_distance : Fun K "distance" "distance" (topS 25) (He.ga K "distance") fd_distance := fun_of F0_distance
  have g_distance : mg "distance" = some (.ref (He.ga K "distance")) := He.glo_ok X G (c.t.d.fact 12 (f := .glo "distance") rfl)
  have b_distance : Binds K fd_distance ["order", "other"] [] := F_distance.binds (ps := ["order", "other"]) fun _ _ _ _ _ _ us hl => match us, hl with | [_, _], _ => rfl
  obtain ⟨fd_put_behind, F0_put_behind⟩ := c.t.d.def_ 13 (d := D_put_behind) rfl
  have F_put_behind : Fun K "put_behind" "put_behind" (topS 26) (He.ga K "put_behind") fd_put_behind := fun_of F0_put_behind
  have g_put_behind : mg "put_behind" = some (.ref (He.ga K "put_behind")) := He.glo_ok X G (c.t.d.fact 13 (f := .glo "put_behind") rfl)
  have b_put_behind : Binds K fd_put_behind ["costs", "found", "last"] [] := F_put_behind.binds (ps := ["costs", "found", "last"]) fun _ _ _ _ _ _ us hl => match us, hl with | [_, _, _], _ => rfl
  obtain ⟨fd_best_sequence, F0_best_sequence⟩ := c.t.d.def_ 14 (d := D_best_sequence) rfl
  have F_best_sequence : Fun K "best_sequence" "best_sequence" (topS 27) (He.ga K "best_sequence") fd_best_sequence := fun_of F0_best_sequence
  have g_best_sequence : mg "best_sequence" = some (.ref (He.ga K "best_sequence")) := He.glo_ok X G (c.t.d.fact 14 (f := .glo "best_sequence") rfl)
  have b_best_sequence : Binds K fd_best_sequence ["costs"] [] := F_best_sequence.binds (ps := ["costs"]) fun _ _ _ _ _ _ us hl => match us, hl with | [_], _ => rfl
  obtain ⟨fd_best_direction, F0_best_direction⟩ := c.t.d.def_ 15 (d := D_best_direction) rfl
  have F_best_direction : Fun K "best_direction" "best_direction" (topS 28) (He.ga K "best_direction") fd_best_direction := fun_of F0_best_direction
  have g_best_direction : mg "best_direction" = some (.ref (He.ga K "best_direction")) := He.glo_ok X G (c.t.d.fact 15 (f := .glo "best_direction") rfl)
  have b_best_direction : Binds K fd_best_direction ["costs"] [] := F_best_direction.binds (ps := ["costs"]) fun _ _ _ _ _ _ us hl => match us, hl with | [_], _ => rfl
  obtain ⟨fd_nearest_listed, F0_nearest_listed⟩ := c.t.d.def_ 16 (d := D_nearest_listed) rfl
  have F_nearest_listed : Fun K "nearest_listed" "nearest_listed" (topS 29) (He.ga K "nearest_listed") fd_nearest_listed := fun_of F0_nearest_listed
  have g_nearest_listed : mg "nearest_listed" = some (.ref (He.ga K "nearest_listed")) := He.glo_ok X G (c.t.d.fact 16 (f := .glo "nearest_listed") rfl)
  have b_nearest_listed : Binds K fd_nearest_listed ["tree", "wanted"] [] := F_nearest_listed.binds (ps := ["tree", "wanted"]) fun _ _ _ _ _ _ us hl => match us, hl with | [_, _], _ => rfl
  obtain ⟨fd_nearest, F0_nearest⟩ := c.t.d.def_ 17 (d := D_nearest) rfl
  have F_nearest : Fun K "nearest" "nearest" (topS 30) (He.ga K "nearest") fd_nearest := fun_of F0_nearest
  have g_nearest : mg "nearest" = some (.ref (He.ga K "nearest")) := He.glo_ok X G (c.t.d.fact 17 (f := .glo "nearest") rfl)
  have b_nearest : Binds K fd_nearest ["tree", "wanted"] [] := F_nearest.binds (ps := ["tree", "wanted"]) fun _ _ _ _ _ _ us hl => match us, hl with | [_, _], _ => rfl
  obtain ⟨fd__law_cell, F0__law_cell⟩ := c.t.d.def_ 18 (d := D__law_cell) rfl
  have F__law_cell : Fun K "_law_cell" "_law_cell" (topS 32) (He.ga K "_law_cell") fd__law_cell := fun_of F0__law_cell
  have g__law_cell : mg "_law_cell" = some (.ref (He.ga K "_law_cell")) := He.glo_ok X G (c.t.d.fact 18 (f := .glo "_law_cell") rfl)
  have b__law_cell : Binds K fd__law_cell ["script", "k"] [] := F__law_cell.binds (ps := ["script", "k"]) fun _ _ _ _ _ _ us hl => match us, hl with | [_, _], _ => rfl
  obtain ⟨fd__law_digits, F0__law_digits⟩ := c.t.d.def_ 19 (d := D__law_digits) rfl
  have F__law_digits : Fun K "_law_digits" "_law_digits" (topS 33) (He.ga K "_law_digits") fd__law_digits := fun_of F0__law_digits
  have g__law_digits : mg "_law_digits" = some (.ref (He.ga K "_law_digits")) := He.glo_ok X G (c.t.d.fact 19 (f := .glo "_law_digits") rfl)
  have b__law_digits : Binds K fd__law_digits ["cell", "sizes"] [] := F__law_digits.binds (ps := ["cell", "sizes"]) fun _ _ _ _ _ _ us hl => match us, hl with | [_, _], _ => rfl
  obtain ⟨fd__law_rich, F0__law_rich⟩ := c.t.d.def_ 20 (d := D__law_rich) rfl
  have F__law_rich : Fun K "_law_rich" "_law_rich" (topS 34) (He.ga K "_law_rich") fd__law_rich := fun_of F0__law_rich
  have g__law_rich : mg "_law_rich" = some (.ref (He.ga K "_law_rich")) := He.glo_ok X G (c.t.d.fact 20 (f := .glo "_law_rich") rfl)
  have b__law_rich : Binds K fd__law_rich ["cell"] [] := F__law_rich.binds (ps := ["cell"]) fun _ _ _ _ _ _ us hl => match us, hl with | [_], _ => rfl
  obtain ⟨fd__law_is_integer, F0__law_is_integer⟩ := c.t.d.def_ 21 (d := D__law_is_integer) rfl
  have F__law_is_integer : Fun K "_law_is_integer" "_law_is_integer" (topS 35) (He.ga K "_law_is_integer") fd__law_is_integer := fun_of F0__law_is_integer
  have g__law_is_integer : mg "_law_is_integer" = some (.ref (He.ga K "_law_is_integer")) := He.glo_ok X G (c.t.d.fact 21 (f := .glo "_law_is_integer") rfl)
  have b__law_is_integer : Binds K fd__law_is_integer ["actual"] [] := F__law_is_integer.binds (ps := ["actual"]) fun _ _ _ _ _ _ us hl => match us, hl with | [_], _ => rfl
  obtain ⟨fd__law_order, F0__law_order⟩ := c.t.d.def_ 22 (d := D__law_order) rfl
  have F__law_order : Fun K "_law_order" "_law_order" (topS 36) (He.ga K "_law_order") fd__law_order := fun_of F0__law_order
  have g__law_order : mg "_law_order" = some (.ref (He.ga K "_law_order")) := He.glo_ok X G (c.t.d.fact 22 (f := .glo "_law_order") rfl)
  have b__law_order : Binds K fd__law_order ["cell", "n"] [] := F__law_order.binds (ps := ["cell", "n"]) fun _ _ _ _ _ _ us hl => match us, hl with | [_, _], _ => rfl
  obtain ⟨fd__law_things, F0__law_things⟩ := c.t.d.def_ 23 (d := D__law_things) rfl
  have F__law_things : Fun K "_law_things" "_law_things" (topS 37) (He.ga K "_law_things") fd__law_things := fun_of F0__law_things
  have g__law_things : mg "_law_things" = some (.ref (He.ga K "_law_things")) := He.glo_ok X G (c.t.d.fact 23 (f := .glo "_law_things") rfl)
  have b__law_things : Binds K fd__law_things ["tree"] [] := F__law_things.binds (ps := ["tree"]) fun _ _ _ _ _ _ us hl => match us, hl with | [_], _ => rfl
  obtain ⟨fd__law_told, F0__law_told⟩ := c.t.d.def_ 24 (d := D__law_told) rfl
  have F__law_told : Fun K "_law_told" "_law_told" (topS 38) (He.ga K "_law_told") fd__law_told := fun_of F0__law_told
  have g__law_told : mg "_law_told" = some (.ref (He.ga K "_law_told")) := He.glo_ok X G (c.t.d.fact 24 (f := .glo "_law_told") rfl)
  have b__law_told : Binds K fd__law_told ["tree", "order"] [] := F__law_told.binds (ps := ["tree", "order"]) fun _ _ _ _ _ _ us hl => match us, hl with | [_, _], _ => rfl
  obtain ⟨fd__law_tree, F0__law_tree⟩ := c.t.d.def_ 25 (d := D__law_tree) rfl
  have F__law_tree : Fun K "_law_tree" "_law_tree" (topS 39) (He.ga K "_law_tree") fd__law_tree := fun_of F0__law_tree
  have g__law_tree : mg "_law_tree" = some (.ref (He.ga K "_law_tree")) := He.glo_ok X G (c.t.d.fact 25 (f := .glo "_law_tree") rfl)
  have b__law_tree : Binds K fd__law_tree ["cell", "n"] [] := F__law_tree.binds (ps := ["cell", "n"]) fun _ _ _ _ _ _ us hl => match us, hl with | [_, _], _ => rfl
  obtain ⟨fd__law_shuffled, F0__law_shuffled⟩ := c.t.d.def_ 26 (d := D__law_shuffled) rfl
  have F__law_shuffled : Fun K "_law_shuffled" "_law_shuffled" (topS 40) (He.ga K "_law_shuffled") fd__law_shuffled := fun_of F0__law_shuffled
  have g__law_shuffled : mg "_law_shuffled" = some (.ref (He.ga K "_law_shuffled")) := He.glo_ok X G (c.t.d.fact 26 (f := .glo "_law_shuffled") rfl)
  have b__law_shuffled : Binds K fd__law_shuffled ["tree", "cell"] [] := F__law_shuffled.binds (ps := ["tree", "cell"]) fun _ _ _ _ _ _ us hl => match us, hl with | [_, _], _ => rfl
  obtain ⟨fd__law_orders, F0__law_orders⟩ := c.t.d.def_ 27 (d := D__law_orders) rfl
  have F__law_orders : Fun K "_law_orders" "_law_orders" (topS 41) (He.ga K "_law_orders") fd__law_orders := fun_of F0__law_orders
  have g__law_orders : mg "_law_orders" = some (.ref (He.ga K "_law_orders")) := He.glo_ok X G (c.t.d.fact 27 (f := .glo "_law_orders") rfl)
  have b__law_orders : Binds K fd__law_orders ["n"] [] := F__law_orders.binds (ps := ["n"]) fun _ _ _ _ _ _ us hl => match us, hl with | [_], _ => rfl
  obtain ⟨fd__law_drawn_order, F0__law_drawn_order⟩ := c.t.d.def_ 28 (d := D__law_drawn_order) rfl
  have F__law_drawn_order : Fun K "_law_drawn_order" "_law_drawn_order" (topS 42) (He.ga K "_law_drawn_order") fd__law_drawn_order := fun_of F0__law_drawn_order
  have g__law_drawn_order : mg "_law_drawn_order" = some (.ref (He.ga K "_law_drawn_order")) := He.glo_ok X G (c.t.d.fact 28 (f := .glo "_law_drawn_order") rfl)
  have b__law_drawn_order : Binds K fd__law_drawn_order ["tree", "cell"] [] := F__law_drawn_order.binds (ps := ["tree", "cell"]) fun _ _ _ _ _ _ us hl => match us, hl with | [_, _], _ => rfl
  obtain ⟨fd__law_distance, F0__law_distance⟩ := c.t.d.def_ 29 (d := D__law_distance) rfl
  have F__law_distance : Fun K "_law_distance" "_law_distance" (topS 43) (He.ga K "_law_distance") fd__law_distance := fun_of F0__law_distance
  have g__law_distance : mg "_law_distance" = some (.ref (He.ga K "_law_distance")) := He.glo_ok X G (c.t.d.fact 29 (f := .glo "_law_distance") rfl)
  have b__law_distance : Binds K fd__law_distance ["one", "two"] [] := F__law_distance.binds (ps := ["one", "two"]) fun _ _ _ _ _ _ us hl => match us, hl with | [_, _], _ => rfl
  obtain ⟨fd__law_most_parts, F0__law_most_parts⟩ := c.t.d.def_ 30 (d := D__law_most_parts) rfl
  have F__law_most_parts : Fun K "_law_most_parts" "_law_most_parts" (topS 44) (He.ga K "_law_most_parts") fd__law_most_parts := fun_of F0__law_most_parts
  have g__law_most_parts : mg "_law_most_parts" = some (.ref (He.ga K "_law_most_parts")) := He.glo_ok X G (c.t.d.fact 30 (f := .glo "_law_most_parts") rfl)
  have b__law_most_parts : Binds K fd__law_most_parts ["tree"] [] := F__law_most_parts.binds (ps := ["tree"]) fun _ _ _ _ _ _ us hl => match us, hl with | [_], _ => rfl
  obtain ⟨fd_law, F0_law⟩ := c.t.d.def_ 31 (d := D_law) rfl
  have F_law : Fun K "law" "law" (topS 45) (He.ga K "law") fd_law := fun_of F0_law
  have g_law : mg "law" = some (.ref (He.ga K "law")) := He.glo_ok X G (c.t.d.fact 31 (f := .glo "law") rfl)
  have b_law : Binds K fd_law ["script"] [] := F_law.binds (ps := ["script"]) fun _ _ _ _ _ _ us hl => match us, hl with | [_], _ => rfl
  have e := hfa.symm.trans g_law
  cases e
  refine ⟨fd_law, fun s v => FunD.bindsA (ps := ["script"]) F0_law (fun _ _ _ _ _ _ us hl => match us, hl with | [_], _ => rfl) s [v] rfl, fun base => ?_⟩
  have c_is_number_of_things := ok_is_number_of_things (P := P) (base := base) T F_is_number_of_things g_is_number_of_things b_is_number_of_things
  have c_check_order := ok_check_order (P := P) (base := base) T F_check_order g_check_order b_check_order c_is_number_of_things
  have c_checked_parts := ok_checked_parts (P := P) (base := base) T F_checked_parts g_checked_parts b_checked_parts
  have c_checked_things := ok_checked_things (P := P) (base := base) T F_checked_things g_checked_things b_checked_things c_checked_parts 40
  have c_things_of := ok_things_of (P := P) (base := base) T F_things_of g_things_of b_things_of c_checked_things
  have c_check_tree := ok_check_tree (P := P) (base := base) T F_check_tree g_check_tree b_check_tree c_is_number_of_things c_things_of
  have c_check_own_tree := ok_check_own_tree (P := P) (base := base) T F_check_own_tree g_check_own_tree b_check_own_tree c_things_of c_check_tree
  have c_check_narrow := ok_check_narrow (P := P) (base := base) T F_check_narrow g_check_narrow b_check_narrow 40
  have c_joined := ok_joined (P := P) (base := base) T F_joined g_joined b_joined
  have c_least_listed := ok_least_listed (P := P) (base := base) T F_least_listed g_least_listed b_least_listed c_joined 40
  have c_least_order := ok_least_order (P := P) (base := base) T F_least_order g_least_order b_least_order c_check_own_tree c_least_listed
  have c_turned := ok_turned (P := P) (base := base) T F_turned g_turned b_turned
  have c_distance := ok_distance (P := P) (base := base) T F_distance g_distance b_distance c_check_order c_turned
  have c_put_behind := ok_put_behind (P := P) (base := base) T F_put_behind g_put_behind b_put_behind
  have c_best_sequence := ok_best_sequence (P := P) (base := base) T F_best_sequence g_best_sequence b_best_sequence c_put_behind
  have c_best_direction := ok_best_direction (P := P) (base := base) T F_best_direction g_best_direction b_best_direction
  have c_nearest_listed := ok_nearest_listed (P := P) (base := base) T F_nearest_listed g_nearest_listed b_nearest_listed c_joined c_turned c_best_sequence c_best_direction 40
  have c_nearest := ok_nearest (P := P) (base := base) T F_nearest g_nearest b_nearest c_check_order c_check_own_tree c_check_narrow c_nearest_listed
  have c__law_cell := ok__law_cell (P := P) (base := base) T F__law_cell g__law_cell b__law_cell
  have c__law_digits := ok__law_digits (P := P) (base := base) T F__law_digits g__law_digits b__law_digits
  have c__law_rich := ok__law_rich (P := P) (base := base) T F__law_rich g__law_rich b__law_rich
  have c__law_is_integer := ok__law_is_integer (P := P) (base := base) T F__law_is_integer g__law_is_integer b__law_is_integer
  have c__law_order := ok__law_order (P := P) (base := base) T F__law_order g__law_order b__law_order c__law_rich
  have c__law_things := ok__law_things (P := P) (base := base) T F__law_things g__law_things b__law_things 40
  have c__law_told := ok__law_told (P := P) (base := base) T F__law_told g__law_told b__law_told c__law_things 40
  have c__law_tree := ok__law_tree (P := P) (base := base) T F__law_tree g__law_tree b__law_tree c__law_rich c__law_order
  have c__law_shuffled := ok__law_shuffled (P := P) (base := base) T F__law_shuffled g__law_shuffled b__law_shuffled c__law_rich 40
  have c__law_orders := ok__law_orders (P := P) (base := base) T F__law_orders g__law_orders b__law_orders
  have c__law_drawn_order := ok__law_drawn_order (P := P) (base := base) T F__law_drawn_order g__law_drawn_order b__law_drawn_order c__law_shuffled 40
  have c__law_distance := ok__law_distance (P := P) (base := base) T F__law_distance g__law_distance b__law_distance
  have c__law_most_parts := ok__law_most_parts (P := P) (base := base) T F__law_most_parts g__law_most_parts b__law_most_parts 40
  have c_law := ok_law (P := P) (base := base) T F_law c_least_order c_distance c_nearest c__law_cell c__law_digits c__law_rich c__law_is_integer c__law_order c__law_told c__law_tree c__law_orders c__law_drawn_order c__law_distance c__law_most_parts
  exact c_law
end K22
set_option Elab.async false
set_option linter.all false
set_option maxRecDepth 100000
set_option maxHeartbeats 0
namespace K22
open Pv PySem PySem.Spec PySem.W L2
open PyProof.Rows hiding St
end K22
set_option Elab.async false
set_option linter.all false
set_option maxRecDepth 100000
namespace K22
open Pv PySem PySem.Spec L2
open PyProof.Rows hiding St
theorem num_ok (n : Int) : fn_is_number_of_things [.int n] = .ok (.bl (decide (1 ≤ n ∧ n ≤ 24)), false) := by
  unfold fn_is_number_of_things st_is_number_of_things
  by_cases h : 1 ≤ n <;> by_cases h2 : n ≤ 24 <;> simp [h, h2]
theorem rich_ok (c : Int) : ∃ r : Int, fn__law_rich [.int c] = .ok (.int r, false) := by
  unfold fn__law_rich st__law_rich
  by_cases h : (1000000000000000000 : Int) ≤ c
  · exact ⟨c, by simp [h]⟩
  · refine ⟨_, by simp [h]; rfl⟩
theorem cell_ok (ns : List Int) (k : Nat) : ∃ r : Int, fn__law_cell [.scr ns, .int k] = .ok (.int r, false) := by
  unfold fn__law_cell st__law_cell
  by_cases h : k < ns.length
  · refine ⟨ns[k], ?_⟩
    simp [h, atI_nat]
  · refine ⟨0, ?_⟩
    simp [h]
inductive G where
  | leaf (i : Int) | node (w : Str) (ps : List G) (x : Bool)
mutual
def enc : G → PV
  | .leaf i => .int i
  | .node w ps x => .tup (.str w :: .tup (encs ps) :: if x then [.tup []] else [])
def encs : List G → List PV
  | [] => []
  | g :: gs => enc g :: encs gs
end
mutual
def dep : G → Nat
  | .leaf _ => 0
  | .node _ ps _ => deps ps + 1
def deps : List G → Nat
  | [] => 0
  | g :: gs => max (dep g) (deps gs)
end
mutual
def lea : G → List Int
  | .leaf i => [i]
  | .node _ ps _ => leas ps
def leas : List G → List Int
  | [] => []
  | g :: gs => lea g ++ leas gs
end
def least (w : Str) : Nat := if w = "row" then 3 else 2
def wordOk (w : Str) : Bool := w == "any" || w == "row"
mutual
def form : G → Bool
  | .leaf _ => true
  | .node w ps x => !x && (wordOk w && (decide (least w ≤ ps.length) && forms ps))
def forms : List G → Bool
  | [] => true
  | g :: gs => form g && forms gs
end
theorem encs_len : ∀ gs : List G, (encs gs).length = gs.length
  | [] => rfl
  | g :: gs => by unfold encs; rw [List.length_cons, List.length_cons, encs_len gs]
theorem encs_map : ∀ gs : List G, encs gs = gs.map enc
  | [] => rfl
  | g :: gs => by unfold encs; rw [List.map_cons, encs_map gs]
mutual
def ct : G → Option (List Int)
  | .leaf i => if i < 0 then none else some [i]
  | .node w ps x => if x || (!wordOk w || decide (ps.length < least w)) then none else match cts ps with
    | none => none
    | some l => if (dedup l).length < l.length then none else some l
def cts : List G → Option (List Int)
  | [] => some []
  | g :: gs => match ct g with
    | none => none
    | some l => match cts gs with
      | none => none
      | some m => some (l ++ m)
end
theorem dedup_from : ∀ (l σ : List Int), (l.foldl (fun σ k => if σ.any (· == k) then σ else σ ++ [k]) σ).length ≤ σ.length + l.length ∧ ((l.foldl (fun σ k => if σ.any (· == k) then σ else σ ++ [k]) σ).length = σ.length + l.length ↔ (∀ i ∈ l, i ∉ σ) ∧ l.Nodup)
  | [], σ => by simp
  | i :: l, σ => by
    simp only [List.foldl_cons]
    by_cases h : i ∈ σ
    · have e : σ.any (· == i) = true := by simp [h]
      rw [if_pos e]
      obtain ⟨h1, h2⟩ := dedup_from l σ
      refine ⟨Nat.le_trans h1 (by simp), ⟨fun z => ?_, fun z => absurd h (z.1 i (by simp))⟩⟩
      simp only [List.length_cons] at z
      omega
    · have e : σ.any (· == i) = false := by
        rw [List.any_eq_false]
        intro x hx z
        exact h (by rw [← eq_of_beq z]; exact hx)
      rw [if_neg (by rw [e]; simp)]
      obtain ⟨h1, h2⟩ := dedup_from l (σ ++ [i])
      refine ⟨by simp at h1 ⊢; omega, ?_⟩
      have e1 : (σ ++ [i]).length + l.length = σ.length + (i :: l).length := by simp; omega
      rw [← e1, h2]
      constructor
      · rintro ⟨a, b⟩
        refine ⟨?_, List.nodup_cons.mpr ⟨fun z => a i z (by simp), b⟩⟩
        intro j hj
        rcases List.mem_cons.mp hj with rfl | hj
        · exact h
        · exact fun z => a j hj (by simp [z])
      · rintro ⟨a, b⟩
        obtain ⟨b, c⟩ := List.nodup_cons.mp b
        refine ⟨fun j hj z => ?_, c⟩
        rcases List.mem_append.mp z with z | z
        · exact a j (List.mem_cons_of_mem _ hj) z
        · rw [List.mem_singleton] at z
          exact b (by rw [← z]; exact hj)
theorem dedup_lt (l : List Int) : (dedup l).length < l.length ↔ ¬ l.Nodup := by
  obtain ⟨h1, h2⟩ := dedup_from l []
  have h3 : (dedup l).length ≤ l.length := by
    simp only [List.length_nil, Nat.zero_add] at h1
    exact h1
  have h4 : (dedup l).length = l.length ↔ l.Nodup := by
    simp only [List.length_nil, Nat.zero_add] at h2
    refine h2.trans ⟨fun z => z.2, fun z => ⟨fun _ _ y => (nomatch y), z⟩⟩
  rw [← h4]
  omega
mutual
theorem ct_some : ∀ (g : G) {l : List Int}, ct g = some l → l = lea g ∧ form g = true ∧ (∀ i ∈ l, 0 ≤ i) ∧ l.Nodup
  | .leaf i, l, h => by
    unfold ct at h
    split at h
    · cases h
    · cases h
      unfold lea form
      exact ⟨rfl, rfl, by simp; omega, by simp⟩
  | .node w ps x, l, h => by
    unfold ct at h
    split at h
    · cases h
    · rename_i c
      simp only [Bool.or_eq_true, Bool.not_eq_true', decide_eq_true_eq, not_or, Bool.not_eq_true, Bool.not_eq_false, Nat.not_lt] at c
      cases e : cts ps with
      | none => rw [e] at h; cases h
      | some m =>
        rw [e] at h
        dsimp only at h
        split at h
        · cases h
        · rename_i d
          cases h
          rw [dedup_lt, Classical.not_not] at d
          obtain ⟨h1, h2, h3⟩ := cts_some ps e
          unfold lea form
          exact ⟨h1, by simp [c.1, c.2.1, c.2.2, h2], h3, d⟩
theorem cts_some : ∀ (gs : List G) {l : List Int}, cts gs = some l → l = leas gs ∧ forms gs = true ∧ (∀ i ∈ l, 0 ≤ i)
  | [], l, h => by
    unfold cts at h
    cases h
    unfold leas forms
    exact ⟨rfl, rfl, by simp⟩
  | g :: gs, l, h => by
    unfold cts at h
    cases e : ct g with
    | none => rw [e] at h; cases h
    | some a =>
      rw [e] at h
      cases e2 : cts gs with
      | none => rw [e2] at h; cases h
      | some b =>
        rw [e2] at h
        cases h
        obtain ⟨h1, h2, h3, h4⟩ := ct_some g e
        obtain ⟨k1, k2, k3⟩ := cts_some gs e2
        unfold leas forms
        refine ⟨by rw [h1, k1], by simp [h2, k2], fun i hi => ?_⟩
        rcases List.mem_append.mp hi with hi | hi
        · exact h3 i hi
        · exact k3 i hi
end
mutual
theorem ct_ok : ∀ (g : G), form g = true → (∀ i ∈ lea g, 0 ≤ i) → (lea g).Nodup → ct g = some (lea g)
  | .leaf i, _, h, _ => by
    unfold ct lea
    unfold lea at h
    have := h i (by simp)
    rw [if_neg (by omega)]
  | .node w ps x, f, h, n => by
    unfold form at f
    simp only [Bool.and_eq_true, Bool.not_eq_true', decide_eq_true_eq] at f
    unfold lea at h n ⊢
    unfold ct
    rw [if_neg (by simp [f.1, f.2.1]; omega), cts_ok ps f.2.2.2 h n]
    dsimp only
    rw [if_neg (by rw [dedup_lt]; exact fun z => z n)]
theorem cts_ok : ∀ (gs : List G), forms gs = true → (∀ i ∈ leas gs, 0 ≤ i) → (leas gs).Nodup → cts gs = some (leas gs)
  | [], _, _, _ => by unfold cts leas; rfl
  | g :: gs, f, h, n => by
    unfold forms at f
    rw [Bool.and_eq_true] at f
    unfold leas at h n ⊢
    unfold cts
    rw [List.nodup_append] at n
    rw [ct_ok g f.1 (fun i hi => h i (by simp [hi])) n.1, cts_ok gs f.2 (fun i hi => h i (by simp [hi])) n.2.1]
end
theorem dOf_some {w : Str} (h : wordOk w = true) : dOf [("any", 2), ("row", 3)] w = some (least w : Int) := by
  unfold wordOk at h
  simp only [Bool.or_eq_true, beq_iff_eq] at h
  rcases h with rfl | rfl
  · decide +kernel
  · decide +kernel
theorem dOf_none {w : Str} (h : wordOk w = false) : dOf [("any", 2), ("row", 3)] w = none := by
  unfold wordOk at h
  simp only [Bool.or_eq_false_iff, beq_eq_false_iff_ne] at h
  unfold dOf
  have e1 : (("any" : Str) == w) = false := by simp only [beq_eq_false_iff_ne]; exact fun z => h.1 z.symm
  have e2 : (("row" : Str) == w) = false := by simp only [beq_eq_false_iff_ne]; exact fun z => h.2 z.symm
  rw [List.find?_cons, e1, List.find?_cons, e2]
  rfl
theorem parts_ok (w : Str) (ps : List G) (x : Bool) : fn_checked_parts [enc (.node w ps x)] = if x || (!wordOk w || decide (ps.length < least w)) then .exc "InvalidTree" else .ok (.tup (encs ps), false) := by
  unfold enc
  unfold fn_checked_parts st_checked_parts
  cases x with
  | true => simp [d_LEAST_PARTS]
  | false =>
    cases h : wordOk w with
    | false => simp [d_LEAST_PARTS, dOf_none h]
    | true =>
      by_cases c : ps.length < least w
      · simp [d_LEAST_PARTS, dOf_some h, encs_len, c]
      · simp [d_LEAST_PARTS, dOf_some h, encs_len, c]
def res : Option (List Int) → Rf
  | none => .exc "InvalidTree"
  | some l => .ok (.lst (l.map .int), true)
theorem ext_loop (r_ : Fn) (v : PV) : ∀ (gs : List G) (acc : List Int) (s2 : Slot), (∀ g ∈ gs, r_ [enc g] = res (ct g)) → acc.length + (leas gs).length ≤ 1000 →
    (cts gs = none → ∃ ev', loop (tName 2) (sq (mMet 1 (aCons (eFn r_ (aCons (eVar 2) (ret []))) (ret [])) gExtend) (ret .nx)) (encs gs) [.val v, .own (acc.map .int), s2] = .exc "InvalidTree" ev') ∧
    (∀ l, cts gs = some l → ∃ s', loop (tName 2) (sq (mMet 1 (aCons (eFn r_ (aCons (eVar 2) (ret []))) (ret [])) gExtend) (ret .nx)) (encs gs) [.val v, .own (acc.map .int), s2] = .ok .nx [.val v, .own ((acc ++ l).map .int), s'])
  | [], acc, s2, _, _ => by
    unfold cts encs
    refine ⟨fun h => (nomatch h), fun l h => ⟨s2, ?_⟩⟩
    cases h
    simp
  | g :: gs, acc, s2, hr, hz => by
    have h1 := hr g (by simp)
    unfold leas at hz
    rw [List.length_append] at hz
    unfold cts encs
    cases e : ct g with
    | none =>
      refine ⟨fun _ => ?_, fun l h => by cases h⟩
      rw [e] at h1
      refine ⟨[.val v, .own (acc.map .int), .val (enc g)], ?_⟩
      rw [loop]
      simp [h1, res]
    | some a =>
      rw [e] at h1
      have ha := (ct_some g e).1
      have hl : acc.length + a.length ≤ 16777216 := by rw [ha]; omega
      obtain ⟨i1, i2⟩ := ext_loop r_ v gs (acc ++ a) (.val (enc g)) (fun g hg => hr g (by simp [hg])) (by rw [List.length_append, ha]; omega)
      have step : ∀ q, loop (tName 2) (sq (mMet 1 (aCons (eFn r_ (aCons (eVar 2) (ret []))) (ret [])) gExtend) (ret .nx)) (enc g :: q) [.val v, .own (acc.map .int), s2] = loop (tName 2) (sq (mMet 1 (aCons (eFn r_ (aCons (eVar 2) (ret []))) (ret [])) gExtend) (ret .nx)) q [.val v, .own ((acc ++ a).map .int), .val (enc g)] := by
        intro q
        rw [loop]
        simp [h1, res, hl]
      rw [step]
      cases e2 : cts gs with
      | none => exact ⟨fun _ => i1 e2, fun l h => by cases h⟩
      | some b =>
        refine ⟨fun h => (nomatch h), fun l h => ?_⟩
        cases h
        obtain ⟨s', q⟩ := i2 b e2
        exact ⟨s', by rw [q, List.append_assoc]⟩
theorem dep_mem : ∀ {ps : List G} {g : G}, g ∈ ps → dep g ≤ deps ps
  | p :: ps, g, h => by
    unfold deps
    rcases List.mem_cons.mp h with rfl | h
    · omega
    · have := dep_mem h; omega
theorem lea_mem : ∀ {ps : List G} {g : G}, g ∈ ps → (lea g).length ≤ (leas ps).length
  | p :: ps, g, h => by
    unfold leas
    rw [List.length_append]
    rcases List.mem_cons.mp h with rfl | h
    · omega
    · have := lea_mem h; omega
theorem things_ok : ∀ (d : Nat) (g : G), dep g < d → (lea g).length ≤ 1000 → fn_checked_things d [enc g] = res (ct g)
  | 0, g, h, _ => by omega
  | d + 1, .leaf i, h, _ => by
    unfold fn_checked_things st_checked_things enc ct
    by_cases c : i < 0
    · simp [c, res]
    · simp [c, res]
  | d + 1, .node w ps x, h, hz => by
    unfold dep at h
    unfold lea at hz
    have ih : ∀ g ∈ ps, fn_checked_things d [enc g] = res (ct g) := fun g hg => things_ok d g (by have := dep_mem hg; omega) (by have := lea_mem hg; omega)
    have hp := parts_ok w ps x
    obtain ⟨i1, i2⟩ := ext_loop (fn_checked_things d) (enc (.node w ps x)) ps [] .no ih (by simpa using hz)
    obtain ⟨q, hq⟩ : ∃ q, enc (.node w ps x) = .tup q := by unfold enc; exact ⟨_, rfl⟩
    rw [hq] at hp i1 i2 ⊢
    unfold fn_checked_things st_checked_things ct
    by_cases c : (x || (!wordOk w || decide (ps.length < least w))) = true
    · rw [if_pos c] at hp ⊢
      simp [res, hp]
    · rw [if_neg c] at hp ⊢
      cases e : cts ps with
      | none =>
        obtain ⟨ev', j⟩ := i1 e
        simp only [List.map_nil] at j
        simp [res, hp, j]
      | some l =>
        obtain ⟨s', j⟩ := i2 l e
        simp only [List.map_nil, List.nil_append] at j
        have hl := (cts_some ps e).1
        have hl2 : l.length ≤ 1000 := by rw [hl]; exact hz
        by_cases c2 : (dedup l).length < l.length
        · simp [res, hp, j, intsP_map, hl2, c2]
        · simp [res, hp, j, intsP_map, hl2, c2]
theorem of_ok (g : G) (h : dep g < 40) (hz : (lea g).length ≤ 1000) : fn_things_of [enc g] = match ct g with
    | none => .exc "InvalidTree"
    | some l => .ok (.tup ((isort l).map .int), false) := by
  have e := things_ok 40 g h hz
  unfold fn_things_of st_things_of
  cases q : ct g with
  | none => rw [q] at e; simp [e, res]
  | some l => rw [q] at e; simp [e, res]
theorem check_ok (n : Int) (g : G) (h : dep g < 40) (hz : (lea g).length ≤ 1000) : fn_check_tree [.int n, enc g] = if 1 ≤ n ∧ n ≤ 24 then (match ct g with
    | none => .exc "InvalidTree"
    | some l => if isort l = upTo 0 n.toNat then .ok (enc g, false) else .exc "InvalidTree") else .exc "InvalidTree" := by
  have e := of_ok g h hz
  have e0 := num_ok n
  unfold fn_check_tree st_check_tree
  by_cases c : 1 ≤ n ∧ n ≤ 24
  · have e1 : okRg (0, n) = true := by
      unfold okRg okR
      simp only [Bool.and_eq_true, decide_eq_true_eq]
      have : SZ = 16777216 := rfl
      omega
    rw [if_pos c]
    cases q : ct g with
    | none => rw [q] at e; simp [e, e0, c]
    | some l =>
      rw [q] at e
      dsimp only at e
      by_cases c2 : isort l = upTo 0 n.toNat
      · simp [e, e0, c, e1, rgP_eq, gEq_tupI, c2]
      · simp [e, e0, c, e1, rgP_eq, gEq_tupI, c2]
  · rw [if_neg c]
    simp [e0, c]
end K22
set_option Elab.async false
set_option linter.all false
set_option maxRecDepth 100000
namespace K22
open Pv PySem PySem.Spec L2
open PyProof.Rows hiding St
theorem rich_ex (c : Int) : ∃ r : Int, fn__law_rich [.int c] = .ok (.int r, false) := rich_ok c
noncomputable def richV (c : Int) : Int := (rich_ex c).choose
theorem rich_eq (c : Int) : fn__law_rich [.int c] = .ok (.int (richV c), false) := (rich_ex c).choose_spec
theorem okR_small {n : Nat} (h : n ≤ 1000) : okR (n : Int) = true := by
  unfold okR
  simp only [decide_eq_true_eq]
  omega
theorem rng1_ok {m : M (List PV)} {ev ev' : SL} {z : Int} (h : m ev = .ok [.int z] ev') (hz : okR z = true) : mRng1 m ev = .ok (rgP 0 z.toNat) ev' := by
  simp only [mRng1_ap, bnd_ap, h, hz, if_true, ret_ap]
theorem rng1_nat {m : M (List PV)} {ev ev' : SL} {n : Nat} (h : m ev = .ok [.int n] ev') (hn : n ≤ 1000) : mRng1 m ev = .ok (rgP 0 n) ev' := by
  have e := rng1_ok h (okR_small hn)
  rw [Int.toNat_natCast] at e
  exact e
theorem erase_perm : ∀ (L : List Int) (i : Nat) (h : i < L.length), (L[i] :: L.eraseIdx i).Perm L
  | x :: L, 0, _ => .refl _
  | x :: L, i + 1, h => by
    have := erase_perm L i (by simpa using h)
    exact (List.Perm.swap x _ _).trans (this.cons x)
theorem map_eraseIdx : ∀ (L : List Int) (i : Nat), (L.map PV.int).eraseIdx i = (L.eraseIdx i).map .int
  | [], i => by simp
  | x :: L, 0 => rfl
  | x :: L, i + 1 => by simp [map_eraseIdx L i]
def ordB : M Fl := sq (mAppPop 4 2 (look (eOp aMod (look (eCall gInt (kCons (pVar 3) (Pv.ret [])))) (look (eOp aSub (pVar 1) (pVar 5)))))) (sq (bnd (eOp aDiv (pVar 3) (look (eOp aSub (pVar 1) (pVar 5)))) (setR 3)) (sq (mIfS (blOf (eOp (gEq false) (pVar 3) (look (eC (.int 0))))) (sq (bnd (eFn fn__law_rich (aCons (eOp gAdd (look (eOp gAdd (pVar 0) (pVar 5))) (look (eC (.int 1)))) (Pv.ret []))) (setR 3)) (Pv.ret .nx)) (Pv.ret .nx)) (Pv.ret .nx)))
def ordS (c : Int) (n : Nat) (L O : List Int) (r : Int) (s5 : Pv.Slot) : SL := [.val (.int c), .val (.int n), .own (L.map .int), .val (.int r), .own (O.map .int), s5, .no]
theorem ord_step (c : Int) (n j : Nat) (L O : List Int) (r : Int) (hj : j < n) (hn : n ≤ 25) (hL : L.length = n - j) (hO : O.length = j) :
    ∃ (i : Nat) (h : i < L.length) (r' : Int), ordB (ordS c n L O r (.val (.int j))) = .ok .nx (ordS c n (L.eraseIdx i) (O ++ [L[i]]) r' (.val (.int j))) := by
  have hpos : (0 : Int) < (n : Int) - (j : Int) := by omega
  have hlt := Int.emod_lt_of_pos r hpos
  have hge := Int.emod_nonneg r (show (n : Int) - (j : Int) ≠ 0 by omega)
  obtain ⟨i, hi⟩ : ∃ i : Nat, r % ((n : Int) - (j : Int)) = (i : Int) := ⟨(r % ((n : Int) - (j : Int))).toNat, by omega⟩
  have hiL : i < L.length := by omega
  have hs : seqIndex? (i : Int) L.length = some i := by
    unfold seqIndex?
    simp
    omega
  have hd : (n : Int) - (j : Int) < 1073741824 := by omega
  have hget : (L.map PV.int)[i]? = some (.int L[i]) := by rw [List.getElem?_map, List.getElem?_eq_getElem hiL]; rfl
  have hjn : (j : Int) < n := by omega
  have b1 : -(9223372036854775808 : Int) ≤ (i : Int) := by omega
  have b2 : (i : Int) < 9223372036854775808 := by omega
  have b3 : O.length < 16777216 := by omega
  unfold ordB ordS
  by_cases h0 : r / ((n : Int) - (j : Int)) = 0
  · refine ⟨i, hiL, richV (c + j + 1), ?_⟩
    simp [hjn, hi, b1, b2, b3, hs, hiL, hd, h0, rich_eq, map_eraseIdx]
  · refine ⟨i, hiL, r / ((n : Int) - (j : Int)), ?_⟩
    simp [hjn, hi, b1, b2, b3, hs, hiL, hd, h0, rich_eq, map_eraseIdx]
theorem ord_loop (c : Int) (n : Nat) (hn : n ≤ 25) (r : Int) : ∃ (O : List Int) (r' : Int) (s5 : Pv.Slot), loop (tName 5) ordB (rgP 0 n) (ordS c n (upTo 0 n) [] r .no) = .ok .nx (ordS c n [] O r' s5) ∧ O.Perm (upTo 0 n) := by
  obtain ⟨ev', e1, e2⟩ := loop_inv (t := tName 5) (mb := ordB) (ps := rgP 0 n) (I := fun k ev => ∃ (L O : List Int) (r : Int) (s5 : Pv.Slot), ev = ordS c n L O r s5 ∧ L.length = n - k ∧ O.length = k ∧ (O ++ L).Perm (upTo 0 n)) (Q := fun _ => False) 0 (ev := ordS c n (upTo 0 n) [] r .no)
    (fun j p ev hp hI => by
      obtain ⟨hj, rfl⟩ := rgP_get hp
      obtain ⟨L, O, r, s5, rfl, hL, hO, hP⟩ := hI
      simp only [Nat.zero_add] at hL hO ⊢
      obtain ⟨i, hi, r', e⟩ := ord_step c n j L O r hj hn hL hO
      refine ⟨ordS c n L O r (.val (.int j)), ?_, .inl ⟨_, e, L.eraseIdx i, O ++ [L[i]], r', _, rfl, ?_, ?_, ?_⟩⟩
      · rw [Int.zero_add]; rfl
      · rw [List.length_eraseIdx_of_lt hi]; omega
      · rw [List.length_append, List.length_singleton, hO]
      · rw [List.append_assoc, List.singleton_append]
        exact ((erase_perm L i hi).append_left O).trans hP)
    ⟨upTo 0 n, [], r, .no, rfl, by rw [upTo_len]; omega, rfl, by simp⟩
  rcases e2 with ⟨L, O, r', s5, rfl, hL, hO, hP⟩ | h
  · rw [rgP_len] at hL
    have hL0 : L = [] := List.eq_nil_of_length_eq_zero (by omega)
    subst hL0
    exact ⟨O, r', s5, e1, by simpa using hP⟩
  · exact h.elim
theorem order_ok (c : Int) (n : Nat) (hn : n ≤ 25) : ∃ o : List Int, fn__law_order [.int c, .int n] = .ok (.tup (o.map .int), false) ∧ o.Perm (upTo 0 n) := by
  obtain ⟨O, r', s5, e, hP⟩ := ord_loop c n hn (richV c)
  refine ⟨O, ?_, hP⟩
  have hcomp : compr (tName 6) (Pv.ret true) (eVar 6) [6] [] (rgP 0 n) [.val (.int c), .val (.int n), .no, .no, .no, .no, .no] = .ok ((upTo 0 n).map .int) [.val (.int c), .val (.int n), .no, .no, .no, .no, .no] := by
    have hsz : ([] : List PV).length + (rgP 0 n).length ≤ SZ := by
      rw [rgP_len, List.length_nil, SZ]; omega
    rw [compr_id (rgP 0 n) [] _ rfl hsz, rgP_eq, List.nil_append]
  unfold fn__law_order st__law_order
  refine runF_ok (ev' := ordS c n [] O r' s5) ?_ rfl (by decide)
  show sq _ _ [.val (.int c), .val (.int n), .no, .no, .no, .no, .no] = _
  rw [sq_nx (ev' := [.val (.int c), .val (.int n), .own ((upTo 0 n).map .int), .no, .no, .no, .no]) (by
    refine (bnd_ok (comp_ok (rng1_nat (n := n) (ev' := [.val (.int c), .val (.int n), .no, .no, .no, .no, .no]) ?_ (by omega)) hcomp)).trans ?_
    · simp
    · rfl)]
  rw [sq_nx (ev' := [.val (.int c), .val (.int n), .own ((upTo 0 n).map .int), .val (.int (richV c)), .no, .no, .no]) (by simp [rich_eq])]
  rw [sq_nx (ev' := ordS c n (upTo 0 n) [] (richV c) .no) (by simp; rfl)]
  rw [sq_nx (ev' := ordS c n [] O r' s5) (by
    refine (bnd_ok (rng1_nat (n := n) (ev' := ordS c n (upTo 0 n) [] (richV c) .no) ?_ (by omega))).trans ?_
    · unfold ordS; simp
    · exact e)]
  exact sq_rt (by unfold ordS; simp)
end K22
set_option Elab.async false
set_option linter.all false
set_option maxRecDepth 100000
namespace K22
open Pv PySem PySem.Spec L2
open PyProof.Rows hiding St
theorem enc_node (w : Str) (ps : List G) (x : Bool) : ∃ q, enc (.node w ps x) = .tup (.str w :: .tup (encs ps) :: q) ∧ q = if x then [.tup []] else [] := by unfold enc; exact ⟨_, rfl, rfl⟩
theorem at0 {p : PV} {q : List PV} : atI (p :: q) 0 = some p := by
  have : atI (p :: q) ((0 : Nat) : Int) = some p := atI_nat rfl
  exact this
theorem at1 {p r : PV} {q : List PV} : atI (p :: r :: q) 1 = some r := by
  have : atI (p :: r :: q) ((1 : Nat) : Int) = some r := atI_nat rfl
  exact this
theorem lea_loop (r_ : Fn) (v : PV) : ∀ (gs : List G) (acc : List Int) (s2 : Pv.Slot), (∀ g ∈ gs, r_ [enc g] = .ok (.lst ((lea g).map .int), true)) → acc.length + (leas gs).length ≤ 1000 →
    ∃ s', loop (tName 2) (sq (bnd (eOp gAdd (pVar 1) (look (eFn r_ (aCons (eVar 2) (Pv.ret []))))) (setR 1)) (Pv.ret .nx)) (encs gs) [.val v, .own (acc.map .int), s2] = .ok .nx [.val v, .own ((acc ++ leas gs).map .int), s']
  | [], acc, s2, _, _ => ⟨s2, by unfold encs leas; simp⟩
  | g :: gs, acc, s2, hr, hz => by
    have h1 := hr g (by simp)
    unfold leas at hz
    rw [List.length_append] at hz
    have hl : acc.length + (lea g).length ≤ 16777216 := by omega
    obtain ⟨s', e⟩ := lea_loop r_ v gs (acc ++ lea g) (.val (enc g)) (fun g hg => hr g (by simp [hg])) (by rw [List.length_append]; omega)
    refine ⟨s', ?_⟩
    unfold encs leas
    rw [loop]
    rw [List.append_assoc] at e
    rw [← e]
    simp [h1, hl]
theorem things2_ok : ∀ (d : Nat) (g : G), dep g < d → (lea g).length ≤ 1000 → fn__law_things d [enc g] = .ok (.lst ((lea g).map .int), true)
  | 0, g, h, _ => by omega
  | d + 1, .leaf i, h, _ => by
    unfold fn__law_things st__law_things enc lea
    simp
  | d + 1, .node w ps x, h, hz => by
    unfold dep at h
    unfold lea at hz
    have ih : ∀ g ∈ ps, fn__law_things d [enc g] = .ok (.lst ((lea g).map .int), true) := fun g hg => things2_ok d g (by have := dep_mem hg; omega) (by have := lea_mem hg; omega)
    obtain ⟨q, hq, _⟩ := enc_node w ps x
    obtain ⟨s', j⟩ := lea_loop (fn__law_things d) (enc (.node w ps x)) ps [] .no ih (by simpa using hz)
    rw [hq] at j ⊢
    simp only [List.map_nil, List.nil_append] at j
    unfold fn__law_things st__law_things lea
    simp [at1, j]
mutual
def wd (b : Nat) : G → Bool
  | .leaf _ => true
  | .node w ps _ => PyData.strOk w && (wds b ps && decide (ps.length ≤ b))
def wds (b : Nat) : List G → Bool
  | [] => true
  | g :: gs => wd b g && wds b gs
end
mutual
theorem isD_enc : ∀ g : G, isD (enc g) = true
  | .leaf i => by unfold enc isD; rfl
  | .node w ps x => by
    unfold enc isD
    cases x <;> simp [isDs, isD, isDs_encs ps]
theorem isDs_encs : ∀ gs : List G, isDs (encs gs) = true
  | [] => by unfold encs isDs; rfl
  | g :: gs => by unfold encs isDs; rw [isD_enc g, isDs_encs gs]; rfl
end
mutual
theorem lay_enc {b : Nat} : ∀ g : G, wd b g = true → PyData.canLay0 (toD (enc g)) = true
  | .leaf i, _ => by unfold enc toD PyData.canLay0; rfl
  | .node w ps x, h => by
    unfold wd at h
    rw [Bool.and_eq_true, Bool.and_eq_true] at h
    unfold enc toD
    cases x <;> simp [toDs, toD, PyData.canLay0, PyData.canLayAll0, h.1, lay_encs ps h.2.1]
theorem lay_encs {b : Nat} : ∀ gs : List G, wds b gs = true → PyData.canLayAll0 (toDs (encs gs)) = true
  | [], _ => by unfold encs toDs PyData.canLayAll0; rfl
  | g :: gs, h => by
    unfold wds at h
    rw [Bool.and_eq_true] at h
    unfold encs toDs PyData.canLayAll0
    rw [lay_enc g h.1, lay_encs gs h.2]; rfl
end
mutual
theorem depth_enc : ∀ g : G, PyData.depth (toD (enc g)) = 2 * dep g
  | .leaf i => by unfold enc toD PyData.depth dep; rfl
  | .node w ps x => by
    have := depth_encs ps
    unfold enc toD dep
    cases x <;> simp [toDs, toD, PyData.depth, PyData.depthAll, this] <;> omega
theorem depth_encs : ∀ gs : List G, PyData.depthAll (toDs (encs gs)) = 2 * deps gs
  | [] => by unfold encs toDs PyData.depthAll deps; rfl
  | g :: gs => by
    unfold encs toDs PyData.depthAll deps
    rw [depth_enc g, depth_encs gs]
    omega
end
theorem okD_encs {b : Nat} (gs : List G) (h : wds b gs = true) (hd : deps gs ≤ 31) : okD (.lst (encs gs)) = true := by
  unfold okD SeqAt.shaped isD toD PyData.canLay0 PyData.depth
  rw [isDs_encs, lay_encs gs h, depth_encs]
  simp
  omega
theorem encs_cons (g : G) (gs : List G) : encs (g :: gs) = enc g :: encs gs := by rw [encs]
theorem encs_nil : encs [] = [] := by rw [encs]
theorem deps_cons (g : G) (gs : List G) : deps (g :: gs) = max (dep g) (deps gs) := by rw [deps]
theorem wds_cons {b : Nat} (g : G) (gs : List G) : wds b (g :: gs) = (wd b g && wds b gs) := by rw [wds]
end K22
set_option Elab.async false
set_option linter.all false
set_option maxRecDepth 100000
namespace K22
open Pv PySem PySem.Spec L2
open PyProof.Rows hiding St
theorem cut_mid {α : Type} (xs : List α) (a k : Nat) (h : a ≤ xs.length) : cutP xs (some (a : Int)) (some ((a : Int) + (k : Int))) = (xs.drop a).take k := by
  unfold cutP
  rw [show ((a : Int) + (k : Int)) = ((a + k : Nat) : Int) by omega, HT.sIx_nat, HT.sIx_nat, Nat.min_eq_left h]
  by_cases c : a + k ≤ xs.length
  · rw [Nat.min_eq_left c, Nat.add_sub_cancel_left]
  · rw [Nat.min_eq_right (by omega), List.take_of_length_le (by rw [List.length_drop]; omega), List.take_of_length_le (by rw [List.length_drop]; omega)]
theorem cut_pre {α : Type} (xs : List α) (a : Nat) (h : a ≤ xs.length) : cutP xs none (some (a : Int)) = xs.take a := by
  unfold cutP
  rw [HT.sIx_nat, HT.sIx_none, Nat.min_eq_left h]
  rfl
theorem cut_suf {α : Type} (xs : List α) (a : Nat) : cutP xs (some (a : Int)) none = xs.drop a := by
  unfold cutP
  rw [HT.sIx_nat, HT.sIx_none]
  by_cases c : a ≤ xs.length
  · rw [Nat.min_eq_left c, List.take_of_length_le (by rw [List.length_drop]; omega)]
  · rw [Nat.min_eq_right (by omega), List.drop_of_length_le (Nat.le_refl _), List.drop_of_length_le (by omega), List.take_nil]
theorem cut_sufk {α : Type} (xs : List α) (a k : Nat) : cutP xs (some ((a : Int) + (k : Int))) none = xs.drop (a + k) := by
  rw [show ((a : Int) + (k : Int)) = ((a + k : Nat) : Int) by omega, cut_suf]
theorem forms_cons (g : G) (gs : List G) : forms (g :: gs) = (form g && forms gs) := by rw [forms]
theorem leas_cons (g : G) (gs : List G) : leas (g :: gs) = lea g ++ leas gs := by rw [leas]
theorem encs_app : ∀ a b : List G, encs (a ++ b) = encs a ++ encs b := fun a b => by rw [encs_map, encs_map, encs_map, List.map_append]
theorem forms_app : ∀ a b : List G, forms (a ++ b) = (forms a && forms b)
  | [], b => by rw [List.nil_append, show forms [] = true by rw [forms]]; rfl
  | g :: a, b => by rw [List.cons_append, forms_cons, forms_cons, forms_app a b, Bool.and_assoc]
theorem leas_app : ∀ a b : List G, leas (a ++ b) = leas a ++ leas b
  | [], b => by rw [List.nil_append, show leas [] = [] by rw [leas]]; rfl
  | g :: a, b => by rw [List.cons_append, leas_cons, leas_cons, leas_app a b, List.append_assoc]
theorem deps_app : ∀ a b : List G, deps (a ++ b) = max (deps a) (deps b)
  | [], b => by rw [List.nil_append, show deps [] = 0 by rw [deps]]; omega
  | g :: a, b => by rw [List.cons_append, deps_cons, deps_cons, deps_app a b]; omega
theorem wds_app {m : Nat} : ∀ a b : List G, wds m (a ++ b) = (wds m a && wds m b)
  | [], b => by rw [List.nil_append, show wds m [] = true by rw [wds]]; rfl
  | g :: a, b => by rw [List.cons_append, wds_cons, wds_cons, wds_app a b, Bool.and_assoc]
structure Good (n : Nat) (P : List G) : Prop where
  f : forms P = true
  l : (leas P).Perm (upTo 0 n)
  d : deps P + P.length ≤ n
  w : wds 24 P = true
  one : 1 ≤ P.length
theorem good_group {n : Nat} {P : List G} (h : Good n P) (hn : n ≤ 24) {a k : Nat} {w : Str} (ha : a < P.length) (hw : wordOk w = true) (hs : PyData.strOk w = true) (hl : least w ≤ ((P.drop a).take k).length) (h2 : 2 ≤ ((P.drop a).take k).length) :
    Good n (P.take a ++ [G.node w ((P.drop a).take k) false] ++ P.drop (a + k)) := by
  have e : P.take a ++ (P.drop a).take k ++ P.drop (a + k) = P := by
    rw [List.append_assoc, ← List.drop_drop, List.take_append_drop, List.take_append_drop]
  have hf := h.f
  have hL := h.l
  have hd := h.d
  have hwd := h.w
  have hlen := congrArg List.length e
  rw [← e, forms_app, forms_app] at hf
  rw [← e, leas_app, leas_app] at hL
  have hde : deps P = max (max (deps (P.take a)) (deps ((P.drop a).take k))) (deps (P.drop (a + k))) := by
    conv => lhs; rw [← e]
    rw [deps_app, deps_app]
  rw [← e, wds_app, wds_app] at hwd
  simp only [Bool.and_eq_true] at hf hwd
  rw [List.length_append, List.length_append] at hlen
  have n0 : forms [] = true := by rw [forms]
  have n1 : leas [] = [] := by rw [leas]
  have n2 : deps [] = 0 := by rw [deps]
  have n3 : wds 24 [] = true := by rw [wds]
  have t1 : form (G.node w ((P.drop a).take k) false) = true := by rw [form]; simp only [hw, hf.1.2, decide_eq_true hl]; rfl
  have t2 : lea (G.node w ((P.drop a).take k) false) = leas ((P.drop a).take k) := by rw [lea]
  have t3 : dep (G.node w ((P.drop a).take k) false) = deps ((P.drop a).take k) + 1 := by rw [dep]
  have t4 : wd 24 (G.node w ((P.drop a).take k) false) = true := by
    rw [wd, hs, hwd.1.2, decide_eq_true (by omega : ((P.drop a).take k).length ≤ 24)]; rfl
  refine ⟨?_, ?_, ?_, ?_, ?_⟩
  · rw [forms_app, forms_app, forms_cons, t1, n0, hf.1.1, hf.2]; rfl
  · rw [leas_app, leas_app, leas_cons, t2, n1, List.append_nil]; exact hL
  · rw [deps_app, deps_app, deps_cons, t3, n2, List.length_append, List.length_append, List.length_singleton]
    omega
  · rw [wds_app, wds_app, wds_cons, t4, n3, hwd.1.1, hwd.2]; rfl
  · rw [List.length_append, List.length_append, List.length_singleton]; omega
end K22
set_option Elab.async false
set_option linter.all false
set_option maxRecDepth 100000
namespace K22
open Pv PySem PySem.Spec L2
open PyProof.Rows hiding St
def trS (c n : Int) (P : List G) (r : Int) (s4 s5 s6 s7 s8 : Pv.Slot) : SL := [.val (.int c), .val (.int n), .own (encs P), .val (.int r), s4, s5, s6, s7, s8]
def tb1 : M Fl := mIfS (blOf (eOp cLt (look (eCall gLen (kCons (pVar 2) (Pv.ret [])))) (look (eC (.int 2))))) (sq (Pv.ret .bk) (Pv.ret .nx)) (Pv.ret .nx)
def tb2 : M Fl := bnd (eOp gAdd (look (eC (.int 2))) (look (eOp aMod (look (eCall gInt (kCons (pVar 3) (Pv.ret [])))) (look (eC (.int 4)))))) (setR 5)
def tb3 : M Fl := mIfS (blOf (eOp (gEq false) (look (eOp aMod (look (eCall gInt (kCons (look (eOp aDiv (pVar 3) (look (eC (.int 1024))))) (Pv.ret [])))) (look (eC (.int 8))))) (look (eC (.int 5))))) (sq (bnd (eC (.int 24)) (setR 5)) (Pv.ret .nx)) (Pv.ret .nx)
def tb4 : M Fl := bnd (eOp aMod (look (eCall gInt (kCons (look (eOp aDiv (pVar 3) (look (eC (.int 4))))) (Pv.ret [])))) (look (eCall gLen (kCons (pVar 2) (Pv.ret []))))) (setR 6)
def tb5 : M Fl := bnd (eSl (pVar 2) (soInt (pVar 6)) (soInt (look (eOp gAdd (pVar 6) (pVar 5))))) (setR 7)
def tb6w : M Fl := mIfS (mAnd (blOf (eOp cGt (look (eCall gLen (kCons (pVar 7) (Pv.ret [])))) (look (eC (.int 2))))) (blOf (eOp (gEq false) (look (eOp aMod (look (eCall gInt (kCons (look (eOp aDiv (pVar 3) (look (eC (.int 64))))) (Pv.ret [])))) (look (eC (.int 2))))) (look (eC (.int 1)))))) (sq (bnd (eC (.str "row")) (setR 8)) (Pv.ret .nx)) (Pv.ret .nx)
def tb6p : M Fl := bnd (eOp gAdd (look (eOp gAdd (look (eSl (pVar 2) (Pv.ret none) (soInt (pVar 6)))) (look (mLst (aCons (mTup (aCons (eVar 8) (aCons (eCall gTuple (kCons (pVar 7) (Pv.ret []))) (Pv.ret [])))) (Pv.ret [])))))) (look (eSl (pVar 2) (soInt (look (eOp gAdd (pVar 6) (pVar 5)))) (Pv.ret none)))) (setR 2)
def tb6 : M Fl := mIfS (blOf (eOp cGt (look (eCall gLen (kCons (pVar 7) (Pv.ret [])))) (look (eC (.int 1))))) (sq (bnd (eC (.str "any")) (setR 8)) (sq tb6w (sq tb6p (Pv.ret .nx)))) (Pv.ret .nx)
def tb7 : M Fl := bnd (eOp gAdd (look (eOp gAdd (look (eOp aDiv (pVar 3) (look (eC (.int 5))))) (look (eOp aMul (look (eC (.int 1000003))) (pVar 4))))) (look (eC (.int 17)))) (setR 3)
def treB : M Fl := sq tb1 (sq tb2 (sq tb3 (sq tb4 (sq tb5 (sq tb6 (sq tb7 (Pv.ret .nx)))))))
section
variable {c n : Int} {P : List G} {r : Int} {s4 s5 s6 s7 s8 : Pv.Slot}
theorem tb1_bk (h : P.length < 2) : tb1 (trS c n P r s4 s5 s6 s7 s8) = .ok .bk (trS c n P r s4 s5 s6 s7 s8) := by
  unfold tb1 trS
  have : ((encs P).length : Int) < 2 := by rw [encs_len]; omega
  simp [this]
theorem tb1_nx (h : ¬ P.length < 2) : tb1 (trS c n P r s4 s5 s6 s7 s8) = .ok .nx (trS c n P r s4 s5 s6 s7 s8) := by
  unfold tb1 trS
  have : ¬ ((encs P).length : Int) < 2 := by rw [encs_len]; omega
  simp [this]
theorem tb23 : ∃ k : Nat, 2 ≤ k ∧ ∀ m : M Fl, sq tb2 (sq tb3 m) (trS c n P r s4 s5 s6 s7 s8) = m (trS c n P r s4 (.val (.int k)) s6 s7 s8) := by
  have h1 := Int.emod_nonneg r (show (4 : Int) ≠ 0 by omega)
  obtain ⟨k, hk⟩ : ∃ k : Nat, r % 4 = (k : Int) := ⟨(r % 4).toNat, by omega⟩
  have e2 : tb2 (trS c n P r s4 s5 s6 s7 s8) = .ok .nx (trS c n P r s4 (.val (.int ((2 + k : Nat) : Int))) s6 s7 s8) := by
    unfold tb2 trS
    rw [show (((2 + k : Nat) : Int)) = 2 + (k : Int) by omega, ← hk]
    simp
  by_cases q : r / 1024 % 8 = 5
  · refine ⟨24, by omega, fun m => ?_⟩
    rw [sq_nx e2, sq_nx (ev' := trS c n P r s4 (.val (.int (24 : Nat))) s6 s7 s8)]
    unfold tb3 trS
    simp [q]
  · refine ⟨2 + k, by omega, fun m => ?_⟩
    rw [sq_nx e2, sq_nx (ev' := trS c n P r s4 (.val (.int ((2 + k : Nat) : Int))) s6 s7 s8)]
    unfold tb3 trS
    simp [q]
theorem tb4_ok (h : 2 ≤ P.length) : ∃ a : Nat, a < P.length ∧ tb4 (trS c n P r s4 s5 s6 s7 s8) = .ok .nx (trS c n P r s4 s5 (.val (.int a)) s7 s8) := by
  have hp : (0 : Int) < (encs P).length := by rw [encs_len]; omega
  have h1 := Int.emod_nonneg (r / 4) (show ((encs P).length : Int) ≠ 0 by omega)
  have h2 := Int.emod_lt_of_pos (r / 4) hp
  obtain ⟨a, ha⟩ : ∃ a : Nat, r / 4 % (encs P).length = (a : Int) := ⟨(r / 4 % (encs P).length).toNat, by omega⟩
  refine ⟨a, by rw [ha, encs_len] at h2; omega, ?_⟩
  unfold tb4 trS
  have hp' : 0 < (encs P).length := by omega
  rw [← ha]
  simp [hp']
theorem tb5_ok {a k : Nat} (h : a < P.length) : tb5 (trS c n P r s4 (.val (.int k)) (.val (.int a)) s7 s8) = .ok .nx (trS c n P r s4 (.val (.int k)) (.val (.int a)) (.own (encs ((P.drop a).take k))) s8) := by
  unfold tb5 trS
  have e := cut_mid (encs P) a k (by rw [encs_len]; omega)
  have e2 : ((encs P).drop a).take k = encs ((P.drop a).take k) := by rw [encs_map, encs_map, List.map_take, List.map_drop]
  rw [e2] at e
  simp [e]
theorem tb7_ok {j : Nat} : ∃ r' : Int, tb7 (trS c n P r (.val (.int j)) s5 s6 s7 s8) = .ok .nx (trS c n P r' (.val (.int j)) s5 s6 s7 s8) := by
  refine ⟨r / 5 + 1000003 * j + 17, ?_⟩
  unfold tb7 trS
  simp
theorem tb6p_ok {a k : Nat} {w : Str} {C : List G} (h : a < P.length) (hl : P.length ≤ 24) (hc : C.length ≤ 24) : tb6p (trS c n P r s4 (.val (.int k)) (.val (.int a)) (.own (encs C)) (.val (.str w))) = .ok .nx (trS c n (P.take a ++ [G.node w C false] ++ P.drop (a + k)) r s4 (.val (.int k)) (.val (.int a)) (.own (encs C)) (.val (.str w))) := by
  unfold tb6p trS
  have e1 := cut_pre (encs P) a (by rw [encs_len]; omega)
  have e2 := cut_sufk (encs P) a k
  have l1 : ((encs P).take a).length ≤ 24 := by rw [List.length_take, encs_len]; omega
  have l2 : ((encs P).drop (a + k)).length ≤ 24 := by rw [List.length_drop, encs_len]; omega
  have e3 : encs (P.take a ++ [G.node w C false] ++ P.drop (a + k)) = (encs P).take a ++ (.tup [.str w, .tup (encs C)] :: (encs P).drop (a + k)) := by
    rw [encs_app, encs_app, encs_cons, encs_nil, enc, encs_map (P.take a), encs_map (P.drop (a + k)), encs_map P, List.map_take, List.map_drop, List.append_assoc]
    rfl
  have l3 : ((encs P).take a).length + 1 ≤ 16777216 := by omega
  have l4 : ((encs P).take a).length + 1 + ((encs P).drop (a + k)).length ≤ 16777216 := by omega
  rw [e3]
  generalize (encs P).take a = X at *
  generalize (encs P).drop (a + k) = Y at *
  simp [e1, e2, l3, l4]
theorem tb6_ok {a k m : Nat} (hG : Good m P) (hm : m ≤ 24) (h : a < P.length) : ∃ (P' : List G) (s8' : Pv.Slot), Good m P' ∧ tb6 (trS c n P r s4 (.val (.int k)) (.val (.int a)) (.own (encs ((P.drop a).take k))) s8) = .ok .nx (trS c n P' r s4 (.val (.int k)) (.val (.int a)) (.own (encs ((P.drop a).take k))) s8') := by
  have hlen : P.length ≤ 24 := by have := hG.d; omega
  have hC : ((P.drop a).take k).length ≤ 24 := by rw [List.length_take, List.length_drop]; omega
  have sA : PyData.strOk "any" = true := by decide +kernel
  have sR : PyData.strOk "row" = true := by decide +kernel
  have wA : wordOk "any" = true := by decide +kernel
  have wR : wordOk "row" = true := by decide +kernel
  have lA : least "any" = 2 := by decide +kernel
  have lR : least "row" = 3 := by decide +kernel
  by_cases c1 : 1 < ((P.drop a).take k).length
  · have t0 : ∀ m : M Fl, sq (bnd (eC (.str "any")) (setR 8)) m (trS c n P r s4 (.val (.int k)) (.val (.int a)) (.own (encs ((P.drop a).take k))) s8) = m (trS c n P r s4 (.val (.int k)) (.val (.int a)) (.own (encs ((P.drop a).take k))) (.val (.str "any"))) := fun m => sq_nx (by unfold trS; simp)
    have t1 : tb6 (trS c n P r s4 (.val (.int k)) (.val (.int a)) (.own (encs ((P.drop a).take k))) s8) = sq tb6w (sq tb6p (Pv.ret .nx)) (trS c n P r s4 (.val (.int k)) (.val (.int a)) (.own (encs ((P.drop a).take k))) (.val (.str "any"))) := by
      unfold tb6
      rw [if_t (ev' := trS c n P r s4 (.val (.int k)) (.val (.int a)) (.own (encs ((P.drop a).take k))) s8), t0]
      have : (1 : Int) < ((encs ((P.drop a).take k)).length : Int) := by rw [encs_len]; omega
      unfold trS
      simp [this]
    by_cases c2 : 2 < ((P.drop a).take k).length ∧ r / 64 % 2 = 1
    · refine ⟨_, .val (.str "row"), good_group (k := k) hG hm h (w := "row") wR sR (by rw [lR]; omega) (by omega), ?_⟩
      have t2 : tb6w (trS c n P r s4 (.val (.int k)) (.val (.int a)) (.own (encs ((P.drop a).take k))) (.val (.str "any"))) = .ok .nx (trS c n P r s4 (.val (.int k)) (.val (.int a)) (.own (encs ((P.drop a).take k))) (.val (.str "row"))) := by
        have : (2 : Int) < ((encs ((P.drop a).take k)).length : Int) := by rw [encs_len]; omega
        unfold tb6w trS
        simp [this, c2.2]
      rw [t1, sq_nx t2, sq_nx (tb6p_ok h hlen hC)]
      rfl
    · refine ⟨_, .val (.str "any"), good_group (k := k) hG hm h (w := "any") wA sA (by rw [lA]; omega) (by omega), ?_⟩
      have t2 : tb6w (trS c n P r s4 (.val (.int k)) (.val (.int a)) (.own (encs ((P.drop a).take k))) (.val (.str "any"))) = .ok .nx (trS c n P r s4 (.val (.int k)) (.val (.int a)) (.own (encs ((P.drop a).take k))) (.val (.str "any"))) := by
        unfold tb6w trS
        by_cases c3 : 2 < ((P.drop a).take k).length
        · have h3 : (2 : Int) < ((encs ((P.drop a).take k)).length : Int) := by rw [encs_len]; omega
          have h4 : ¬ r / 64 % 2 = 1 := fun z => c2 ⟨c3, z⟩
          simp [h3, h4]
        · have h3 : ¬ (2 : Int) < ((encs ((P.drop a).take k)).length : Int) := by rw [encs_len]; omega
          simp [h3]
      rw [t1, sq_nx t2, sq_nx (tb6p_ok h hlen hC)]
      rfl
  · refine ⟨P, s8, hG, ?_⟩
    unfold tb6
    rw [if_f (ev' := trS c n P r s4 (.val (.int k)) (.val (.int a)) (.own (encs ((P.drop a).take k))) s8)]
    · rfl
    have : ¬ (1 : Int) < ((encs ((P.drop a).take k)).length : Int) := by rw [encs_len]; omega
    unfold trS
    simp [this]
theorem treB_ok {m j : Nat} (hG : Good m P) (hm : m ≤ 24) (h : 2 ≤ P.length) : ∃ (P' : List G) (r' : Int) (s5' s6' s7' s8' : Pv.Slot), Good m P' ∧ treB (trS c n P r (.val (.int j)) s5 s6 s7 s8) = .ok .nx (trS c n P' r' (.val (.int j)) s5' s6' s7' s8') := by
  unfold treB
  rw [sq_nx (tb1_nx (by omega))]
  obtain ⟨k, hk, e2⟩ := tb23 (c := c) (n := n) (P := P) (r := r) (s4 := .val (.int j)) (s5 := s5) (s6 := s6) (s7 := s7) (s8 := s8)
  rw [e2]
  obtain ⟨a, ha, e3⟩ := tb4_ok (c := c) (n := n) (r := r) (s4 := .val (.int j)) (s5 := .val (.int k)) (s6 := s6) (s7 := s7) (s8 := s8) h
  rw [sq_nx e3, sq_nx (tb5_ok ha)]
  obtain ⟨P', s8', hG', e4⟩ := tb6_ok (c := c) (n := n) (r := r) (s4 := .val (.int j)) (s8 := s8) (k := k) hG hm ha
  rw [sq_nx e4]
  obtain ⟨r', e5⟩ := tb7_ok (c := c) (n := n) (P := P') (r := r) (j := j) (s5 := .val (.int k)) (s6 := .val (.int a)) (s7 := .own (encs ((P.drop a).take k))) (s8 := s8')
  rw [sq_nx e5]
  exact ⟨P', r', _, _, _, _, hG', rfl⟩
theorem tre_loop {m : Nat} (hG : Good m P) (hm : m ≤ 24) : ∃ (P' : List G) (r' : Int) (s4' s5' s6' s7' s8' : Pv.Slot), Good m P' ∧ loop (tName 4) treB (rgP 0 30) (trS c n P r s4 s5 s6 s7 s8) = .ok .nx (trS c n P' r' s4' s5' s6' s7' s8') := by
  obtain ⟨ev', e1, e2⟩ := loop_inv (t := tName 4) (mb := treB) (ps := rgP 0 30) (I := fun _ ev => ∃ (P' : List G) (r' : Int) (s4' s5' s6' s7' s8' : Pv.Slot), Good m P' ∧ ev = trS c n P' r' s4' s5' s6' s7' s8') (Q := fun ev => ∃ (P' : List G) (r' : Int) (s4' s5' s6' s7' s8' : Pv.Slot), Good m P' ∧ ev = trS c n P' r' s4' s5' s6' s7' s8') 0 (ev := trS c n P r s4 s5 s6 s7 s8)
    (fun j p ev hp hI => by
      obtain ⟨hj, rfl⟩ := rgP_get hp
      obtain ⟨P', r', t4, t5, t6, t7, t8, hG', rfl⟩ := hI
      refine ⟨trS c n P' r' (.val (.int j)) t5 t6 t7 t8, ?_, ?_⟩
      · rw [Int.zero_add]; rfl
      by_cases h2 : P'.length < 2
      · refine .inr ⟨trS c n P' r' (.val (.int j)) t5 t6 t7 t8, ?_, P', r', _, _, _, _, _, hG', rfl⟩
        unfold treB
        exact sq_bk (tb1_bk h2)
      · obtain ⟨P2, r2, u5, u6, u7, u8, hG2, e⟩ := treB_ok (c := c) (n := n) (r := r') (s5 := t5) (s6 := t6) (s7 := t7) (s8 := t8) (j := j) hG' hm (by omega)
        exact .inl ⟨_, e, P2, r2, _, _, _, _, _, hG2, rfl⟩)
    ⟨P, r, s4, s5, s6, s7, s8, hG, rfl⟩
  have e2 : ∃ (P' : List G) (r' : Int) (s4' s5' s6' s7' s8' : Pv.Slot), Good m P' ∧ ev' = trS c n P' r' s4' s5' s6' s7' s8' := by
    rcases e2 with h | h <;> exact h
  obtain ⟨P', r', t4, t5, t6, t7, t8, hG', rfl⟩ := e2
  exact ⟨P', r', t4, t5, t6, t7, t8, hG', e1⟩
end
theorem good_one {n : Nat} {P : List G} (h : Good n P) (hn : n ≤ 24) : ∃ g, form g = true ∧ (lea g).Perm (upTo 0 n) ∧ dep g + 1 ≤ n ∧ wd 24 g = true ∧ ∀ (c : Int) (r : Int) (s4 s5 s6 s7 s8 : Pv.Slot), ∃ (T : List G), encs T = [enc g] ∧ (mIfS (blOf (eOp cGt (look (eCall gLen (kCons (pVar 2) (Pv.ret [])))) (look (eC (.int 1))))) (sq (bnd (mLst (aCons (mTup (aCons (eC (.str "any")) (aCons (eCall gTuple (kCons (pVar 2) (Pv.ret []))) (Pv.ret [])))) (Pv.ret []))) (setR 2)) (Pv.ret .nx)) (Pv.ret .nx)) (trS c n P r s4 s5 s6 s7 s8) = .ok .nx (trS c n T r s4 s5 s6 s7 s8) := by
  by_cases c1 : 1 < P.length
  · have wA : wordOk "any" = true := by decide +kernel
    have sA : PyData.strOk "any" = true := by decide +kernel
    have lA : least "any" = 2 := by decide +kernel
    have hd := h.d
    refine ⟨.node "any" P false, ?_, ?_, ?_, ?_, fun c r s4 s5 s6 s7 s8 => ⟨[.node "any" P false], by rw [encs_cons, encs_nil], ?_⟩⟩
    · rw [form, wA, lA, h.f, decide_eq_true (by omega : 2 ≤ P.length)]; rfl
    · rw [lea]; exact h.l
    · rw [dep]; omega
    · rw [wd, sA, h.w, decide_eq_true (by omega : P.length ≤ 24)]; rfl
    · have h1 : (1 : Int) < ((encs P).length : Int) := by rw [encs_len]; omega
      rw [if_t (ev' := trS c n P r s4 s5 s6 s7 s8)]
      · unfold trS
        rw [encs_cons, encs_nil, enc]
        simp
      · unfold trS
        simp [h1]
  · obtain ⟨g, rfl⟩ : ∃ g, P = [g] := by
      have := h.one
      match P, h, c1 with
      | [g], _, _ => exact ⟨g, rfl⟩
      | [], h, _ => exact absurd h.one (by simp)
      | _ :: _ :: _, _, c => exact absurd (by simp) c
    have hf := h.f
    have hl := h.l
    have hd := h.d
    have hw := h.w
    rw [forms_cons, show forms [] = true by rw [forms], Bool.and_true] at hf
    rw [leas_cons, show leas [] = [] by rw [leas], List.append_nil] at hl
    rw [deps_cons, show deps [] = 0 by rw [deps], List.length_singleton] at hd
    rw [wds_cons, show wds 24 [] = true by rw [wds], Bool.and_true] at hw
    refine ⟨g, hf, hl, by omega, hw, fun c r s4 s5 s6 s7 s8 => ⟨[g], by rw [encs_cons, encs_nil], ?_⟩⟩
    rw [if_f (ev' := trS c n [g] r s4 s5 s6 s7 s8)]
    · rfl
    · unfold trS
      rw [encs_cons, encs_nil]
      simp
theorem leaf_good : ∀ (l : List Int), forms (l.map .leaf) = true ∧ leas (l.map .leaf) = l ∧ deps (l.map .leaf) = 0 ∧ wds 24 (l.map .leaf) = true ∧ encs (l.map .leaf) = l.map .int
  | [] => by simp [forms, leas, deps, wds, encs]
  | i :: l => by
    obtain ⟨h1, h2, h3, h4, h5⟩ := leaf_good l
    rw [List.map_cons, List.map_cons, forms_cons, leas_cons, deps_cons, wds_cons, encs_cons, h1, h2, h3, h4, h5]
    simp [form, lea, dep, wd, enc]
theorem tree_ok (c : Int) (n : Nat) (h1 : 1 ≤ n) (hn : n ≤ 24) : ∃ g, fn__law_tree [.int c, .int n] = .ok (enc g, false) ∧ form g = true ∧ (lea g).Perm (upTo 0 n) ∧ dep g + 1 ≤ n ∧ wd 24 g = true := by
  obtain ⟨o, eo, hP⟩ := order_ok c n (by omega)
  obtain ⟨f1, f2, f3, f4, f5⟩ := leaf_good o
  have ol : o.length = n := by rw [hP.length_eq, upTo_len]
  have hG : Good n (o.map .leaf) := ⟨f1, by rw [f2]; exact hP, by rw [f3, List.length_map]; omega, f4, by rw [List.length_map]; omega⟩
  obtain ⟨P', r', t4, t5, t6, t7, t8, hG', e⟩ := tre_loop (c := c) (n := n) (r := richV (c / 3 + 7)) (s4 := .no) (s5 := .no) (s6 := .no) (s7 := .no) (s8 := .no) hG hn
  obtain ⟨g, g1, g2, g3, g4, g5⟩ := good_one hG' hn
  obtain ⟨T, eT, e2⟩ := g5 c r' t4 t5 t6 t7 t8
  refine ⟨g, ?_, g1, g2, g3, g4⟩
  have key : ∀ ev : SL, mRng1 (kCons (look (eC (.int 30))) (Pv.ret [])) ev = .ok (rgP 0 30) ev := fun ev => rng1_nat (n := 30) rfl (by omega)
  generalize rgP 0 30 = q at e key
  unfold fn__law_tree st__law_tree
  refine runF_ok (ev' := trS c n T r' t4 t5 t6 t7 t8) ?_ rfl (by decide)
  show sq _ _ [.val (.int c), .val (.int n), .no, .no, .no, .no, .no, .no, .no] = _
  have st1 : ∀ F : Fn, F [.int c, .int n] = .ok (.tup (o.map .int), false) → bnd (eCall gList (kCons (look (eFn F (aCons (eVar 0) (aCons (eVar 1) (Pv.ret []))))) (Pv.ret []))) (setR 2) [.val (.int c), .val (.int n), .no, .no, .no, .no, .no, .no, .no] = .ok .nx [.val (.int c), .val (.int n), .own (o.map .int), .no, .no, .no, .no, .no, .no] := fun F h => by simp [h]
  refine (sq_nx (ev' := [.val (.int c), .val (.int n), .own (o.map .int), .no, .no, .no, .no, .no, .no]) (st1 _ eo)).trans ?_
  rw [sq_nx (ev' := trS c n (o.map .leaf) (richV (c / 3 + 7)) .no .no .no .no .no) (by unfold trS; rw [f5]; simp [rich_eq])]
  refine (sq_nx (ev' := trS c n P' r' t4 t5 t6 t7 t8) ((bnd_ok (key _)).trans e)).trans ?_
  rw [sq_nx e2]
  refine sq_rt ?_
  unfold trS
  rw [eT]
  simp [at0]
end K22
set_option Elab.async false
set_option linter.all false
set_option maxRecDepth 100000
namespace K22
open Pv PySem PySem.Spec L2
open PyProof.Rows hiding St
def Lst : List Int → Int
  | [] => 0
  | x :: r => lmin x r
theorem lst_spec {l : List Int} (h : l ≠ []) : Lst l ∈ l ∧ ∀ x ∈ l, Lst l ≤ x := by
  cases l with
  | nil => exact absurd rfl h
  | cons x r =>
    obtain ⟨h1, h2, h3⟩ := lmin_le r x
    refine ⟨?_, fun y hy => ?_⟩
    · rcases h3 with h3 | h3
      · show lmin x r ∈ x :: r
        rw [h3]; simp
      · exact List.mem_cons_of_mem _ h3
    · rcases List.mem_cons.mp hy with rfl | hy
      · exact h1
      · exact h2 y hy
theorem lst_uniq {l : List Int} {m : Int} (h : m ∈ l) (h2 : ∀ x ∈ l, m ≤ x) : Lst l = m := by
  have hn : l ≠ [] := fun z => by rw [z] at h; cases h
  obtain ⟨a, b⟩ := lst_spec hn
  have := b m h
  have := h2 _ a
  omega
theorem lst_perm {l m : List Int} (p : l.Perm m) : Lst l = Lst m := by
  by_cases h : m = []
  · subst h
    rw [List.perm_nil.mp p]
  · obtain ⟨a, b⟩ := lst_spec h
    exact lst_uniq (p.mem_iff.mpr a) fun x hx => b x (p.mem_iff.mp hx)
theorem lea_ne : ∀ (g : G), form g = true → lea g ≠ []
  | .leaf i, _ => by rw [lea]; simp
  | .node w ps x, h => by
    rw [form] at h
    simp only [Bool.and_eq_true, decide_eq_true_eq] at h
    rw [lea]
    cases ps with
    | nil =>
      have := h.2.2.1
      unfold least at this
      split at this <;> simp at this
    | cons g gs =>
      rw [leas_cons]
      have h4 := h.2.2.2
      rw [forms_cons, Bool.and_eq_true] at h4
      have := lea_ne g h4.1
      intro z
      exact this (List.append_eq_nil_iff.mp z).1
theorem leas_mem {gs : List G} {x : Int} : x ∈ leas gs ↔ ∃ g ∈ gs, x ∈ lea g := by
  induction gs with
  | nil => rw [show leas [] = [] by rw [leas]]; simp
  | cons g gs ih => rw [leas_cons, List.mem_append, ih]; simp
theorem leas_perm {a b : List G} (h : a.Perm b) : (leas a).Perm (leas b) := by
  induction h with
  | nil => exact .refl _
  | cons g _ ih => rw [leas_cons, leas_cons]; exact ih.append_left _
  | swap x y l => rw [leas_cons, leas_cons, leas_cons, leas_cons, ← List.append_assoc, ← List.append_assoc]; exact List.perm_append_comm.append_right _
  | trans _ _ h1 h2 => exact h1.trans h2
theorem forms_all {gs : List G} : forms gs = true ↔ ∀ g ∈ gs, form g = true := by
  induction gs with
  | nil => rw [show forms [] = true by rw [forms]]; simp
  | cons g gs ih => rw [forms_cons, Bool.and_eq_true, ih]; simp
theorem deps_eq {a b : List G} (h : ∀ n, (∀ g ∈ a, dep g ≤ n) ↔ ∀ g ∈ b, dep g ≤ n) : deps a = deps b := by
  have key : ∀ (gs : List G) n, deps gs ≤ n ↔ ∀ g ∈ gs, dep g ≤ n := by
    intro gs
    induction gs with
    | nil => intro n; rw [show deps [] = 0 by rw [deps]]; simp
    | cons g gs ih => intro n; rw [deps_cons, Nat.max_le, ih]; simp
  have h1 := (key a (deps b)).mpr ((h _).mpr ((key b _).mp (Nat.le_refl _)))
  have h2 := (key b (deps a)).mpr ((h _).mp ((key a _).mp (Nat.le_refl _)))
  omega
theorem deps_perm {a b : List G} (h : a.Perm b) : deps a = deps b := deps_eq fun n => ⟨fun z g hg => z g (h.mem_iff.mpr hg), fun z g hg => z g (h.mem_iff.mp hg)⟩
theorem wds_all {b : Nat} {gs : List G} : wds b gs = true ↔ ∀ g ∈ gs, wd b g = true := by
  induction gs with
  | nil => rw [show wds b [] = true by rw [wds]]; simp
  | cons g gs ih => rw [wds_cons, Bool.and_eq_true, ih]; simp
theorem nodup_leas {gs : List G} (h : (leas gs).Nodup) (hf : ∀ g ∈ gs, lea g ≠ []) : (gs.map fun g => Lst (lea g)).Nodup := by
  induction gs with
  | nil => exact .nil
  | cons g gs ih =>
    rw [leas_cons, List.nodup_append] at h
    rw [List.map_cons, List.nodup_cons]
    refine ⟨fun z => ?_, ih h.2.1 fun g hg => hf g (by simp [hg])⟩
    obtain ⟨q, hq, e⟩ := List.mem_map.mp z
    have a := (lst_spec (hf g (by simp))).1
    have b := (lst_spec (hf q (by simp [hq]))).1
    exact h.2.2 _ a _ (leas_mem.mpr ⟨q, hq, b⟩) e.symm
def keyG (g : G) : Int × G := (Lst (lea g), g)
def sortG (gs : List G) : List G := (sortK (gs.map keyG)).map (·.2)
theorem sortG_perm (gs : List G) : (sortG gs).Perm gs := by
  unfold sortG
  refine ((sortK_perm _).map _).trans ?_
  rw [List.map_map]
  have : ((fun z : Int × G => z.2) ∘ keyG) = id := rfl
  rw [this, List.map_id]
theorem sortG_uniq {a b : List G} (h : a.Perm b) (hn : (a.map fun g => Lst (lea g)).Nodup) : sortG a = sortG b := by
  unfold sortG
  congr 1
  refine sortK_uniq ?_ (sortK_sorted _) (sortK_sorted _) ?_
  · exact (sortK_perm _).trans ((h.map _).trans (sortK_perm _).symm)
  · refine (((sortK_perm _).map (·.1)).nodup_iff).mpr ?_
    rw [List.map_map]
    exact hn
def firstL (gs : List G) : Int := Lst (lea (gs.headD (.leaf 0)))
def lastL (gs : List G) : Int := Lst (lea (gs.getLastD (.leaf 0)))
mutual
def arr : G → G
  | .leaf i => .leaf i
  | .node w ps _ => .node w (if w = "any" then sortG (arrs ps) else if lastL (arrs ps) < firstL (arrs ps) then (arrs ps).reverse else arrs ps) false
def arrs : List G → List G
  | [] => []
  | g :: gs => arr g :: arrs gs
end
theorem arrs_map : ∀ gs : List G, arrs gs = gs.map arr
  | [] => by rw [arrs]; rfl
  | g :: gs => by rw [arrs, List.map_cons, arrs_map gs]
def put (w : Str) (qs : List G) : List G := if w = "any" then sortG qs else if lastL qs < firstL qs then qs.reverse else qs
theorem put_perm (w : Str) (qs : List G) : (put w qs).Perm qs := by
  unfold put
  split
  · exact sortG_perm qs
  · split
    · exact List.reverse_perm qs
    · exact .refl _
theorem arr_node (w : Str) (ps : List G) (x : Bool) : arr (.node w ps x) = .node w (put w (arrs ps)) false := by rw [arr]; rfl
mutual
theorem arr_lea : ∀ g : G, (lea (arr g)).Perm (lea g)
  | .leaf i => by rw [arr]
  | .node w ps x => by
    rw [arr_node, lea, lea]
    exact (leas_perm (put_perm w _)).trans (arrs_leas ps)
theorem arrs_leas : ∀ gs : List G, (leas (arrs gs)).Perm (leas gs)
  | [] => by rw [arrs]
  | g :: gs => by rw [arrs, leas_cons, leas_cons]; exact (arr_lea g).append (arrs_leas gs)
end
theorem arrs_len (gs : List G) : (arrs gs).length = gs.length := by rw [arrs_map, List.length_map]
mutual
theorem arr_form : ∀ g : G, form g = true → form (arr g) = true
  | .leaf i, h => by rw [arr]; exact h
  | .node w ps x, h => by
    rw [form] at h
    simp only [Bool.and_eq_true, decide_eq_true_eq] at h
    rw [arr_node, form, h.2.1, (put_perm w _).length_eq, arrs_len, decide_eq_true h.2.2.1, forms_all.mpr fun g hg => forms_all.mp (arrs_forms ps h.2.2.2) g ((put_perm w _).mem_iff.mp hg)]
    rfl
theorem arrs_forms : ∀ gs : List G, forms gs = true → forms (arrs gs) = true
  | [], h => by rw [arrs]; exact h
  | g :: gs, h => by
    rw [forms_cons, Bool.and_eq_true] at h
    rw [arrs, forms_cons, arr_form g h.1, arrs_forms gs h.2]
    rfl
end
end K22
set_option Elab.async false
set_option linter.all false
set_option maxRecDepth 100000
namespace K22
open Pv PySem PySem.Spec L2
open PyProof.Rows hiding St
theorem list_ht {gs : List G} (h : 2 ≤ gs.length) : ∃ a m b, gs = a :: (m ++ [b]) := by
  match gs, h with
  | a :: g :: gs, _ =>
    refine ⟨a, (g :: gs).dropLast, (g :: gs).getLast (by simp), ?_⟩
    rw [List.dropLast_concat_getLast]
theorem first_of (a : G) (m : List G) : firstL (a :: m) = Lst (lea a) := rfl
theorem last_of (m : List G) (b : G) : lastL (m ++ [b]) = Lst (lea b) := by
  unfold lastL
  rw [List.getLastD_concat]
theorem ht_ne {gs : List G} (h2 : 2 ≤ gs.length) (hn : (gs.map fun g => Lst (lea g)).Nodup) : firstL gs ≠ lastL gs := by
  obtain ⟨a, m, b, rfl⟩ := list_ht h2
  rw [first_of, ← List.cons_append, last_of]
  intro e
  rw [List.map_cons, List.nodup_cons] at hn
  exact hn.1 (by rw [e]; simp)
theorem rev_ht {gs : List G} (h2 : 2 ≤ gs.length) : firstL gs.reverse = lastL gs ∧ lastL gs.reverse = firstL gs := by
  obtain ⟨a, m, b, rfl⟩ := list_ht h2
  have e : (a :: (m ++ [b])).reverse = b :: (m.reverse ++ [a]) := by simp
  rw [e, first_of, first_of, ← List.cons_append, last_of, ← List.cons_append, last_of]
  exact ⟨rfl, rfl⟩
theorem put_any {a b : List G} (h : a.Perm b) (hn : (a.map fun g => Lst (lea g)).Nodup) : put "any" a = put "any" b := by
  unfold put
  rw [if_pos rfl, if_pos rfl, sortG_uniq h hn]
theorem put_rev {w : Str} (hw : w ≠ "any") {a : List G} (h2 : 2 ≤ a.length) (hn : (a.map fun g => Lst (lea g)).Nodup) : put w a.reverse = put w a := by
  obtain ⟨e1, e2⟩ := rev_ht h2
  have hne := ht_ne h2 hn
  unfold put
  rw [if_neg hw, if_neg hw, e1, e2]
  by_cases c : lastL a < firstL a
  · rw [if_pos c, if_neg (by omega)]
  · rw [if_neg c, if_pos (by omega), List.reverse_reverse]
theorem keys_arrs : ∀ gs : List G, ((arrs gs).map fun g => Lst (lea g)) = gs.map fun g => Lst (lea g)
  | [] => by rw [arrs]
  | g :: gs => by rw [arrs, List.map_cons, List.map_cons, lst_perm (arr_lea g), keys_arrs gs]
theorem all_ne {gs : List G} (h : forms gs = true) : ∀ g ∈ gs, lea g ≠ [] := fun g hg => lea_ne g (forms_all.mp h g hg)
theorem least_2 (w : Str) : 2 ≤ least w := by unfold least; split <;> omega
structure Sh (g q : G) : Prop where
  f : form q = true
  l : (lea q).Perm (lea g)
  d : dep q = dep g
  w : wd 24 q = true
  a : arr q = arr g
def Shs : List G → List G → Prop
  | [], [] => True
  | g :: gs, q :: qs => Sh g q ∧ Shs gs qs
  | _, _ => False
theorem shs_facts : ∀ {gs qs : List G}, Shs gs qs → forms qs = true ∧ (leas qs).Perm (leas gs) ∧ deps qs = deps gs ∧ wds 24 qs = true ∧ arrs qs = arrs gs ∧ qs.length = gs.length
  | [], [], _ => by simp [forms, leas, deps, wds, arrs]
  | g :: gs, q :: qs, h => by
    obtain ⟨a, b⟩ := h
    obtain ⟨h1, h2, h3, h4, h5, h6⟩ := shs_facts b
    rw [forms_cons, leas_cons, leas_cons, deps_cons, deps_cons, wds_cons, arrs, arrs, a.f, h1, a.d, h3, a.w, h4, a.a, h5, List.length_cons, List.length_cons, h6]
    exact ⟨rfl, a.l.append h2, rfl, rfl, rfl, rfl⟩
  | [], q :: qs, h => h.elim
  | g :: gs, [], h => h.elim
theorem shs_snoc : ∀ {gs qs : List G} {g q : G}, Shs gs qs → Sh g q → Shs (gs ++ [g]) (qs ++ [q])
  | [], [], g, q, _, h => ⟨h, trivial⟩
  | a :: gs, b :: qs, g, q, h, h' => ⟨h.1, shs_snoc h.2 h'⟩
  | [], b :: qs, _, _, h, _ => h.elim
  | a :: gs, [], _, _, h, _ => h.elim
theorem sh_node {w : Str} {ps qs rs : List G} (hf : form (.node w ps false) = true) (hw : wd 24 (.node w ps false) = true) (hn : (leas ps).Nodup) (h : Shs ps qs) (hr : rs.Perm qs) (ho : w = "any" ∨ rs = qs ∨ rs = qs.reverse) : Sh (.node w ps false) (.node w rs false) := by
  obtain ⟨h1, h2, h3, h4, h5, h6⟩ := shs_facts h
  rw [form] at hf
  simp only [Bool.and_eq_true, decide_eq_true_eq] at hf
  rw [wd, Bool.and_eq_true, Bool.and_eq_true, decide_eq_true_eq] at hw
  have hl2 := least_2 w
  have hk : ((arrs qs).map fun g => Lst (lea g)).Nodup := by rw [h5, keys_arrs]; exact nodup_leas hn (all_ne hf.2.2.2)
  refine ⟨?_, ?_, ?_, ?_, ?_⟩
  · rw [form, hf.2.1, hr.length_eq, h6, decide_eq_true hf.2.2.1, forms_all.mpr fun g hg => forms_all.mp h1 g (hr.mem_iff.mp hg)]
    rfl
  · rw [lea, lea]; exact (leas_perm hr).trans h2
  · rw [dep, dep, deps_perm hr, h3]
  · rw [wd, hw.1, hr.length_eq, h6, decide_eq_true hw.2.2, wds_all.mpr fun g hg => wds_all.mp h4 g (hr.mem_iff.mp hg)]
    rfl
  · rw [arr_node, arr_node, ← h5]
    congr 1
    have hA : (arrs rs).Perm (arrs qs) := by rw [arrs_map, arrs_map]; exact hr.map _
    by_cases hw : w = "any"
    · subst hw
      exact (put_any hA.symm hk).symm
    · rcases ho with ho | ho | ho
      · exact absurd ho hw
      · rw [ho]
      · have e : arrs rs = (arrs qs).reverse := by rw [ho, arrs_map, arrs_map, List.map_reverse]
        rw [e, put_rev hw (by rw [arrs_len, h6]; omega) hk]
end K22
set_option Elab.async false
set_option linter.all false
set_option maxRecDepth 100000
namespace K22
open Pv PySem PySem.Spec L2
open PyProof.Rows hiding St
theorem enc_ne (g : G) : ∀ ps, enc g ≠ .lst ps := by
  intro ps
  cases g <;> (unfold enc; exact fun z => nomatch z)
theorem enc_two (w : Str) (ps : List G) : enc (.node w ps false) = .tup [.str w, .tup (encs ps)] := by unfold enc; rfl
theorem form_node {w : Str} {ps : List G} {x : Bool} (h : form (.node w ps x) = true) : x = false ∧ wordOk w = true ∧ least w ≤ ps.length ∧ forms ps = true := by
  rw [form] at h
  simp only [Bool.and_eq_true, decide_eq_true_eq, Bool.not_eq_true'] at h
  exact h
theorem nd_mem : ∀ {ps : List G}, (leas ps).Nodup → ∀ g ∈ ps, (lea g).Nodup
  | [], _, g, hg => by cases hg
  | q :: qs, hn, g, hg => by
    rw [leas_cons, List.nodup_append] at hn
    rcases List.mem_cons.mp hg with e | hg
    · rw [e]; exact hn.1
    · exact nd_mem hn.2.1 g hg
end K22
set_option Elab.async false
set_option linter.all false
set_option maxRecDepth 100000
namespace K22
open Pv PySem PySem.Spec L2
open PyProof.Rows hiding St
theorem insert_2 {ps : List PV} {i : Int} {p : PV} : gInsert ps [.int i, p] = if ps.length < SZ ∧ 0 ≤ i ∧ i < 2 ^ 63 then some (ps.take i.toNat ++ [p] ++ ps.drop i.toNat) else none := rfl
def shB (r_ : Fn) : M Fl := sq (bnd (eFn r_ (aCons (eVar 4) (aCons (eOp gAdd (look (eOp aDiv (pVar 3) (look (eC (.int 3))))) (look (eC (.int 5)))) (Pv.ret [])))) (setR 5)) (sq (mIfS (blOf (eOp (gEq false) (look (eOp gIx (pVar 0) (look (eC (.int 0))))) (look (eC (.str "any"))))) (sq (mMet 2 (aCons (eOp aMod (look (eCall gInt (kCons (pVar 3) (Pv.ret [])))) (look (eOp gAdd (look (eCall gLen (kCons (pVar 2) (Pv.ret [])))) (look (eC (.int 1)))))) (aCons (eVar 5) (Pv.ret []))) gInsert) (Pv.ret .nx)) (sq (mMet 2 (aCons (eVar 5) (Pv.ret [])) gAppend) (Pv.ret .nx))) (sq (bnd (eOp gAdd (look (eOp aDiv (pVar 3) (look (eC (.int 7))))) (look (eC (.int 99)))) (setR 3)) (Pv.ret .nx)))
def shS (w : Str) (A : List PV) (c : Int) (Q : List G) (r : Int) (s4 s5 : Pv.Slot) : SL := [.val (.tup [.str w, .tup A]), .val (.int c), .own (encs Q), .val (.int r), s4, s5]
theorem sh_step {r_ : Fn} {w : Str} {A : List PV} {c r : Int} {Q : List G} {g q : G} {s5 : Pv.Slot} (hr : ∀ c, ∃ q, r_ [enc g, .int c] = .ok (enc q, false) ∧ Sh g q) (hQ : Q.length ≤ 100) :
    ∃ (q : G) (Q' : List G) (r' : Int) (s5' : Pv.Slot), shB r_ (shS w A c Q r (.val (enc g)) s5) = .ok .nx (shS w A c Q' r' (.val (enc g)) s5') ∧ Sh g q ∧ Q'.Perm (Q ++ [q]) ∧ (w = "any" ∨ Q' = Q ++ [q]) := by
  obtain ⟨q, eq, hS⟩ := hr (r / 3 + 5)
  have hl : (encs Q).length = Q.length := encs_len Q
  have hz : (encs Q).length < 16777216 := by omega
  by_cases hw : w = "any"
  · have p1 : (0 : Int) < ((encs Q).length : Int) + 1 := by omega
    have h1 := Int.emod_nonneg r (show ((encs Q).length : Int) + 1 ≠ 0 by omega)
    have h2 := Int.emod_lt_of_pos r p1
    obtain ⟨k, hk⟩ : ∃ k : Nat, r % (((encs Q).length : Int) + 1) = (k : Int) := ⟨(r % (((encs Q).length : Int) + 1)).toNat, by omega⟩
    have hkQ : k ≤ Q.length := by omega
    have ei : gInsert (encs Q) [.int (k : Int), enc q] = some (encs (Q.take k ++ [q] ++ Q.drop k)) := by
      rw [insert_2, if_pos ⟨by rw [SZ]; exact hz, by omega, by omega⟩, Int.toNat_natCast, encs_app, encs_app, encs_cons, encs_nil, encs_map (Q.take k), encs_map (Q.drop k), List.map_take, List.map_drop, encs_map]
    refine ⟨q, Q.take k ++ [q] ++ Q.drop k, r / 7 + 99, .val (enc q), ?_, hS, ?_, .inl hw⟩
    · unfold shB shS
      generalize encs (Q.take k ++ [q] ++ Q.drop k) = E1 at *
      generalize enc q = T1 at *
      generalize enc g = T at *
      generalize encs Q = EQ at *
      simp [eq, at0, hw, p1, hk, ei]
    · have : (Q.take k ++ [q] ++ Q.drop k).Perm (Q.take k ++ Q.drop k ++ [q]) := by
        rw [List.append_assoc, List.append_assoc]
        exact List.perm_append_comm.append_left _
      rw [List.take_append_drop] at this
      exact this
  · refine ⟨q, Q ++ [q], r / 7 + 99, .val (enc q), ?_, hS, .refl _, .inr rfl⟩
    unfold shB shS
    have ea : encs (Q ++ [q]) = encs Q ++ [enc q] := by rw [encs_app, encs_cons, encs_nil]
    rw [ea]
    generalize enc q = T1 at *
    generalize enc g = T at *
    generalize encs Q = EQ at *
    simp [eq, at0, hw, hz]
theorem sh_loop {r_ : Fn} {w : Str} {A : List PV} {c : Int} : ∀ (gs ds qs Q : List G) (r : Int) (s4 s5 : Pv.Slot), (∀ g ∈ gs, ∀ c, ∃ q, r_ [enc g, .int c] = .ok (enc q, false) ∧ Sh g q) → Q.length + gs.length ≤ 100 → Shs ds qs → Q.Perm qs → (w = "any" ∨ Q = qs) →
    ∃ (Q' qs' : List G) (r' : Int) (s4' s5' : Pv.Slot), loop (tName 4) (shB r_) (encs gs) (shS w A c Q r s4 s5) = .ok .nx (shS w A c Q' r' s4' s5') ∧ Shs (ds ++ gs) qs' ∧ Q'.Perm qs' ∧ (w = "any" ∨ Q' = qs')
  | [], ds, qs, Q, r, s4, s5, _, _, h1, h2, h3 => ⟨Q, qs, r, s4, s5, by rw [encs_nil]; rfl, by rw [List.append_nil]; exact h1, h2, h3⟩
  | g :: gs, ds, qs, Q, r, s4, s5, hr, hz, h1, h2, h3 => by
    rw [List.length_cons] at hz
    obtain ⟨q, Q1, r1, s51, e1, hS, hP, hO⟩ := sh_step (r_ := r_) (w := w) (A := A) (c := c) (r := r) (Q := Q) (g := g) (q := g) (s5 := s5) (hr g (by simp)) (by omega)
    have hl : Q1.length = Q.length + 1 := by rw [hP.length_eq, List.length_append, List.length_singleton]
    obtain ⟨Q', qs', r', s4', s5', e2, k1, k2, k3⟩ := sh_loop (r_ := r_) (w := w) (A := A) (c := c) gs (ds ++ [g]) (qs ++ [q]) Q1 r1 (.val (enc g)) s51 (fun p hp => hr p (by simp [hp])) (by omega) (shs_snoc h1 hS) (hP.trans (h2.append_right _)) (by
      rcases h3 with h | h
      · exact .inl h
      · rcases hO with h' | h'
        · exact .inl h'
        · exact .inr (by rw [h', h]))
    refine ⟨Q', qs', r', s4', s5', ?_, by rw [List.append_assoc] at k1; exact k1, k2, k3⟩
    rw [encs_cons, loop]
    have et : tName 4 (enc g) (shS w A c Q r s4 s5) = some (shS w A c Q r (.val (enc g)) s5) := rfl
    simp only [et, e1, e2]
theorem shuffled_ok : ∀ (d : Nat) (g : G) (c : Int), dep g < d → form g = true → wd 24 g = true → (lea g).Nodup → ∃ q, fn__law_shuffled d [enc g, .int c] = .ok (enc q, false) ∧ Sh g q
  | 0, g, c, h, _, _, _ => by omega
  | d + 1, .leaf i, c, h, hf, hw, _ => by
    refine ⟨.leaf i, ?_, hf, .refl _, rfl, hw, rfl⟩
    unfold fn__law_shuffled st__law_shuffled enc
    simp
  | d + 1, .node w ps x, c, h, hf, hw, hn => by
    have hf0 := hf
    obtain ⟨rfl, f1, f2, f3⟩ := form_node hf
    have hw0 := hw
    rw [wd, Bool.and_eq_true, Bool.and_eq_true, decide_eq_true_eq] at hw
    unfold dep at h
    rw [lea] at hn
    have ih : ∀ g ∈ ps, ∀ c, ∃ q, fn__law_shuffled d [enc g, .int c] = .ok (enc q, false) ∧ Sh g q := fun g hg c => shuffled_ok d g c (by have := dep_mem hg; omega) (forms_all.mp f3 g hg) (wds_all.mp hw.2.1 g hg) (nd_mem hn g hg)
    obtain ⟨Q, qs, r', s4', s5', e1, k1, k2, k3⟩ := sh_loop (r_ := fn__law_shuffled d) (w := w) (A := encs ps) (c := c) ps [] [] [] (richV c) .no .no ih (by rw [List.length_nil]; omega) trivial (.refl _) (.inr rfl)
    rw [List.nil_append] at k1
    have hr : fn__law_rich [.int c] = .ok (.int (richV c), false) := rich_eq c
    have hQl : (encs Q).length ≤ 24 := by rw [encs_len, k2.length_eq, (shs_facts k1).2.2.2.2.2]; omega
    rw [enc_two]
    unfold fn__law_shuffled st__law_shuffled
    have s1 : mIfS (tTru (look (mIsi "int" (pVar 0)))) (sq (mRetV 0) (Pv.ret .nx)) (Pv.ret .nx) [.val (.tup [.str w, .tup (encs ps)]), .val (.int c), .no, .no, .no, .no] = .ok .nx [.val (.tup [.str w, .tup (encs ps)]), .val (.int c), .no, .no, .no, .no] := by simp
    have s2 : bnd (mLst (Pv.ret [])) (setR 2) [.val (.tup [.str w, .tup (encs ps)]), .val (.int c), .no, .no, .no, .no] = .ok .nx [.val (.tup [.str w, .tup (encs ps)]), .val (.int c), .own [], .no, .no, .no] := by simp
    have s3 : bnd (eFn fn__law_rich (aCons (eVar 1) (Pv.ret []))) (setR 3) [.val (.tup [.str w, .tup (encs ps)]), .val (.int c), .own [], .no, .no, .no] = .ok .nx (shS w (encs ps) c [] (richV c) .no .no) := by
      unfold shS
      rw [encs_nil]
      generalize fn__law_rich = F at *
      simp [hr]
    have s4 : bnd (mSeq (eOp gIx (pVar 0) (look (eC (.int 1))))) (loop (tName 4) (shB (fn__law_shuffled d))) (shS w (encs ps) c [] (richV c) .no .no) = .ok .nx (shS w (encs ps) c Q r' s4' s5') := by
      refine (bnd_ok (a := encs ps) (ev' := shS w (encs ps) c [] (richV c) .no .no) ?_).trans e1
      unfold shS
      simp [at1]
    have fin : ∀ R : List G, encs R = (if w = "row" ∧ c % 2 = 1 then (encs Q).reverse else encs Q) → ∃ ev', sq (mIfS (mAnd (blOf (eOp (gEq false) (look (eOp gIx (pVar 0) (look (eC (.int 0))))) (look (eC (.str "row"))))) (blOf (eOp (gEq false) (look (eOp aMod (look (eCall gInt (kCons (pVar 1) (Pv.ret [])))) (look (eC (.int 2))))) (look (eC (.int 1)))))) (sq (bnd (mRev (pVar 2)) (setR 2)) (Pv.ret .nx)) (Pv.ret .nx)) (sq (bnd (mTup (aCons (eOp gIx (pVar 0) (look (eC (.int 0)))) (aCons (eCall gTuple (kCons (pVar 2) (Pv.ret []))) (Pv.ret [])))) mRet) (Pv.ret .nx)) (shS w (encs ps) c Q r' s4' s5') = .ok (.rt (.tup [.str w, .tup (encs R)], false)) ev' := fun R hR => by
      rw [hR]
      unfold shS
      generalize encs Q = EQ at *
      by_cases a : w = "row"
      · by_cases b : c % 2 = 1
        · rw [if_pos ⟨a, b⟩]
          refine ⟨[.val (.tup [.str w, .tup (encs ps)]), .val (.int c), .own EQ.reverse, .val (.int r'), s4', s5'], ?_⟩
          simp [at0, a, b, mRev]
        · rw [if_neg fun z => b z.2]
          refine ⟨[.val (.tup [.str w, .tup (encs ps)]), .val (.int c), .own EQ, .val (.int r'), s4', s5'], ?_⟩
          simp [at0, a, b]
      · rw [if_neg fun z => a z.1]
        refine ⟨[.val (.tup [.str w, .tup (encs ps)]), .val (.int c), .own EQ, .val (.int r'), s4', s5'], ?_⟩
        simp [at0, a]
    have go : ∀ R : List G, encs R = (if w = "row" ∧ c % 2 = 1 then (encs Q).reverse else encs Q) → runF 6 2 (sq (mIfS (tTru (look (mIsi "int" (pVar 0)))) (sq (mRetV 0) (Pv.ret .nx)) (Pv.ret .nx)) (sq (bnd (mLst (Pv.ret [])) (setR 2)) (sq (bnd (eFn fn__law_rich (aCons (eVar 1) (Pv.ret []))) (setR 3)) (sq (bnd (mSeq (eOp gIx (pVar 0) (look (eC (.int 1))))) (loop (tName 4) (shB (fn__law_shuffled d)))) (sq (mIfS (mAnd (blOf (eOp (gEq false) (look (eOp gIx (pVar 0) (look (eC (.int 0))))) (look (eC (.str "row"))))) (blOf (eOp (gEq false) (look (eOp aMod (look (eCall gInt (kCons (pVar 1) (Pv.ret [])))) (look (eC (.int 2))))) (look (eC (.int 1)))))) (sq (bnd (mRev (pVar 2)) (setR 2)) (Pv.ret .nx)) (Pv.ret .nx)) (sq (bnd (mTup (aCons (eOp gIx (pVar 0) (look (eC (.int 0)))) (aCons (eCall gTuple (kCons (pVar 2) (Pv.ret []))) (Pv.ret [])))) mRet) (Pv.ret .nx))))))) [.tup [.str w, .tup (encs ps)], .int c] = .ok (enc (.node w R false), false) := fun R hR => by
      obtain ⟨ev', e5⟩ := fin R hR
      rw [enc_two]
      refine runF_ok (ev' := ev') ?_ rfl (by decide)
      exact (sq_nx s1).trans ((sq_nx s2).trans ((sq_nx s3).trans ((sq_nx s4).trans e5)))
    by_cases cc : w = "row" ∧ c % 2 = 1
    · have hQ : Q = qs := by
        rcases k3 with h | h
        · exfalso
          have := h.symm.trans cc.1
          exact absurd this (by decide +kernel)
        · exact h
      refine ⟨.node w Q.reverse false, go Q.reverse ?_, sh_node hf0 hw0 hn k1 ((List.reverse_perm Q).trans k2) (.inr (.inr (by rw [hQ])))⟩
      rw [if_pos cc, encs_map, encs_map, List.map_reverse]
    · refine ⟨.node w Q false, go Q ?_, sh_node hf0 hw0 hn k1 k2 ?_⟩
      · rw [if_neg cc]
      · rcases k3 with h | h
        · exact .inl h
        · exact .inr (.inl h)
end K22
set_option linter.all false
namespace Ring
def one (b : Bool) : Nat := if b then 1 else 0
end Ring
set_option Elab.async false
set_option linter.all false
set_option maxRecDepth 100000
namespace K22
open Pv PySem PySem.Spec L2
open PyProof.Rows hiding St
def isOrder (n : Int) (l : List Int) : Bool := decide (1 ≤ n ∧ n ≤ 24) && decide (isort l = Pv.upTo 0 n.toNat)
def places (o l : List Int) : List Int := l.map fun t => ((o.idxOf t : Nat) : Int)
theorem order_perm {n : Int} {l : List Int} (h : isOrder n l = true) : l.Perm (Pv.upTo 0 n.toNat) := by
  unfold isOrder at h
  simp only [Bool.and_eq_true, decide_eq_true_eq] at h
  rw [← h.2]
  exact (isort_perm l).symm
theorem gMax_l (p : Int) (ps : List Int) : gMax [.lst ((p :: ps).map .int)] = some (.int (lmax p ps), false) := by
  show (match intsP ((p :: ps).map .int) with
    | some (m :: r) => vI (lmax m r)
    | _ => none) = _
  rw [intsP_map]
  rfl
theorem upTo_pair (n : Nat) : (Pv.upTo 0 n).Pairwise (· < ·) := by
  unfold Pv.upTo
  rw [List.pairwise_map]
  refine List.Pairwise.imp ?_ List.pairwise_lt_range
  intro a b h
  omega
theorem upTo_nodup (n : Nat) : (Pv.upTo 0 n).Nodup := (upTo_pair n).imp fun h => by omega
def tabV (T : List (List Int)) : List PV := T.map fun s => .tup (s.map .int)
end K22
set_option Elab.async false
set_option linter.all false
set_option maxRecDepth 100000
namespace K22
open Pv PySem PySem.Spec L2
open PyProof.Rows hiding St
theorem lea_pos (g : G) (h : form g = true) : 1 ≤ (lea g).length := by
  have := lea_ne g h
  cases e : lea g with
  | nil => exact absurd e this
  | cons a l => simp
theorem leas_len : ∀ gs : List G, forms gs = true → gs.length ≤ (leas gs).length
  | [], _ => Nat.zero_le _
  | g :: gs, h => by
    rw [forms_cons, Bool.and_eq_true] at h
    rw [leas_cons, List.length_append, List.length_cons]
    have := lea_pos g h.1
    have := leas_len gs h.2
    omega
end K22
set_option Elab.async false
set_option linter.all false
set_option maxRecDepth 100000
namespace K22
open Pv PySem PySem.Spec L2
open PyProof.Rows hiding St
theorem t1 {A : Pv.Slot} {z1 z2 z3 : Int} (h : aMul (.int z1) (.int z3) = some (.int z2, false)) : sq (bnd (eOp aMul (pVar 1) (pVar 2)) (setR 1)) (Pv.ret .nx) [A, .val (.int z1), .val (.int z3)] = .ok .nx [A, .val (.int z2), .val (.int z3)] := by
  simp [-aMul_ii, h]
theorem t2 {r_ : Fn} {A : Pv.Slot} {T : PV} {m z z2 : Int} (h1 : r_ [T] = .ok (.int z, false)) (h3 : aMul (.int m) (.int z) = some (.int z2, false)) : sq (bnd (eOp aMul (pVar 1) (look (eFn r_ (aCons (eVar 2) (Pv.ret []))))) (setR 1)) (Pv.ret .nx) [A, .val (.int m), .val T] = .ok .nx [A, .val (.int z2), .val T] := by
  simp [-aMul_ii, h1, h3]
theorem rng2_ok {m : M (List PV)} {ev ev' : SL} {i j : Int} (h : m ev = .ok [.int i, .int j] ev') (hi : okR i = true) (hj : okR j = true) : mRng2 m ev = .ok (rgP i (j - i).toNat) ev' := by
  simp only [mRng2_ap, bnd_ap, h, hi, hj, Bool.and_self, if_true, ret_ap]
structure Tree (n : Nat) (g : G) : Prop where
  f : form g = true
  l : (lea g).Perm (Pv.upTo 0 n)
  d : dep g + 1 ≤ n
  w : wd 24 g = true
  n1 : 1 ≤ n
  n2 : n ≤ 24
theorem Tree.len {n : Nat} {g : G} (t : Tree n g) : (lea g).length = n := by rw [t.l.length_eq, upTo_len]
theorem Tree.nd {n : Nat} {g : G} (t : Tree n g) : (lea g).Nodup := t.l.nodup_iff.mpr (upTo_nodup n)
theorem Tree.nn {n : Nat} {g : G} (t : Tree n g) : ∀ i ∈ lea g, 0 ≤ i := fun i hi => by
  have := t.l.mem_iff.mp hi
  unfold Pv.upTo at this
  obtain ⟨k, _, rfl⟩ := List.mem_map.mp this
  omega
theorem Tree.ct {n : Nat} {g : G} (t : Tree n g) : ct g = some (lea g) := ct_ok g t.f t.nn t.nd
theorem isort_up {l : List Int} {n : Nat} (h : l.Perm (Pv.upTo 0 n)) : isort l = Pv.upTo 0 n := (isort_of h.symm ((upTo_pair n).imp fun h => by omega)).symm
theorem Tree.things {n : Nat} {g : G} (t : Tree n g) : fn_things_of [enc g] = .ok (.tup ((Pv.upTo 0 n).map .int), false) := by
  have e := of_ok g (by have := t.d; have := t.n2; omega) (by have := t.len; have := t.n2; omega)
  rw [t.ct] at e
  dsimp only at e
  rw [isort_up t.l] at e
  exact e
theorem Tree.own {n : Nat} {g : G} (t : Tree n g) : fn_check_own_tree [enc g] = .ok (.int n, false) := by
  have h1 := t.n1
  have h2 := t.n2
  have e1 := t.things
  have e2 := check_ok n g (by have := t.d; omega) (by have := t.len; omega)
  rw [if_pos (by omega), t.ct] at e2
  dsimp only at e2
  rw [Int.toNat_natCast, if_pos (isort_up t.l)] at e2
  have hl : ((Pv.upTo 0 n).map PV.int).length = n := by rw [List.length_map, upTo_len]
  have ne := enc_ne g
  unfold fn_check_own_tree st_check_own_tree
  generalize fn_things_of = F1 at *
  generalize fn_check_tree = F2 at *
  generalize (Pv.upTo 0 n).map PV.int = U at *
  generalize enc g = T at *
  simp [e1, e2, hl]
end K22
set_option linter.all false
set_option Elab.async false
set_option maxRecDepth 100000
set_option autoImplicit false
namespace K22
open Pv PySem PySem.Spec L2
open PyProof.Rows hiding St
mutual
def tol : G → List Int → Prop
  | .leaf i, o => o = [i]
  | .node w ps _, o => ∃ os : List (List Int), tols ps os ∧ (if w = "any" then ∃ os' : List (List Int), os'.Perm os ∧ o = os'.flatten else o = os.flatten ∨ o = os.reverse.flatten)
def tols : List G → List (List Int) → Prop
  | [], os => os = []
  | g :: gs, os => ∃ o r, os = o :: r ∧ tol g o ∧ tols gs r
end
def sqT : List G → List Int → Prop
  | [], o => o = []
  | g :: gs, o => ∃ a b, o = a ++ b ∧ tol g a ∧ sqT gs b
theorem sq_tols : ∀ (gs : List G) (o : List Int), sqT gs o ↔ ∃ os, tols gs os ∧ o = os.flatten
  | [], o => by
    unfold sqT
    constructor
    · rintro rfl; exact ⟨[], by unfold tols; rfl, rfl⟩
    · rintro ⟨os, h, rfl⟩; unfold tols at h; rw [h]; rfl
  | g :: gs, o => by
    unfold sqT
    constructor
    · rintro ⟨a, b, rfl, h1, h2⟩
      obtain ⟨os, h3, rfl⟩ := (sq_tols gs b).mp h2
      exact ⟨a :: os, by unfold tols; exact ⟨a, os, rfl, h1, h3⟩, by rw [List.flatten_cons]⟩
    · rintro ⟨os, h, rfl⟩
      unfold tols at h
      obtain ⟨a, r, rfl, h1, h2⟩ := h
      exact ⟨a, r.flatten, by rw [List.flatten_cons], h1, (sq_tols gs _).mpr ⟨r, h2, rfl⟩⟩
theorem sq_app : ∀ (a b : List G) (o : List Int), sqT (a ++ b) o ↔ ∃ x y, o = x ++ y ∧ sqT a x ∧ sqT b y
  | [], b, o => by
    rw [List.nil_append]
    constructor
    · intro h; exact ⟨[], o, rfl, by unfold sqT; rfl, h⟩
    · rintro ⟨x, y, rfl, h1, h2⟩; unfold sqT at h1; rw [h1]; exact h2
  | g :: a, b, o => by
    rw [List.cons_append]
    constructor
    · intro h
      unfold sqT at h
      obtain ⟨x, y, rfl, h1, h2⟩ := h
      obtain ⟨x2, y2, rfl, h3, h4⟩ := (sq_app a b y).mp h2
      exact ⟨x ++ x2, y2, by rw [List.append_assoc], by unfold sqT; exact ⟨x, x2, rfl, h1, h3⟩, h4⟩
    · rintro ⟨x, y, rfl, h1, h2⟩
      unfold sqT at h1
      obtain ⟨u, v, rfl, h3, h4⟩ := h1
      unfold sqT
      exact ⟨u, v ++ y, by rw [List.append_assoc], h3, (sq_app a b _).mpr ⟨v, y, rfl, h4, h2⟩⟩
theorem sq_one (g : G) (o : List Int) : sqT [g] o ↔ tol g o := by
  unfold sqT
  constructor
  · rintro ⟨a, b, rfl, h, h2⟩; unfold sqT at h2; rw [h2, List.append_nil]; exact h
  · intro h; exact ⟨o, [], by rw [List.append_nil], h, by unfold sqT; rfl⟩
theorem sq_cons (g : G) (gs : List G) (o : List Int) : sqT (g :: gs) o ↔ ∃ a b, o = a ++ b ∧ tol g a ∧ sqT gs b := by
  constructor
  · intro h; unfold sqT at h; exact h
  · intro h; unfold sqT; exact h
theorem sq_nil (o : List Int) : sqT [] o ↔ o = [] := by
  constructor
  · intro h; unfold sqT at h; exact h
  · intro h; unfold sqT; exact h
theorem tols_perm {gs qs : List G} (p : gs.Perm qs) : ∀ {os : List (List Int)}, tols gs os → ∃ os', os'.Perm os ∧ tols qs os' := by
  induction p with
  | nil => exact fun h => ⟨_, .refl _, h⟩
  | cons g _ ih =>
    intro os h
    unfold tols at h
    obtain ⟨a, r, rfl, h1, h2⟩ := h
    obtain ⟨r', hp, h3⟩ := ih h2
    exact ⟨a :: r', hp.cons a, by unfold tols; exact ⟨a, r', rfl, h1, h3⟩⟩
  | swap x y l =>
    intro os h
    unfold tols at h
    obtain ⟨a, r, rfl, h1, h2⟩ := h
    unfold tols at h2
    obtain ⟨b, r, rfl, h3, h4⟩ := h2
    refine ⟨b :: a :: r, .swap _ _ _, ?_⟩
    unfold tols
    refine ⟨b, a :: r, rfl, h3, ?_⟩
    unfold tols
    exact ⟨a, r, rfl, h1, h4⟩
  | trans _ _ i1 i2 =>
    intro os h
    obtain ⟨o1, p1, h1⟩ := i1 h
    obtain ⟨o2, p2, h2⟩ := i2 h1
    exact ⟨o2, p2.trans p1, h2⟩
theorem perm_tols : ∀ {os' os : List (List Int)}, os'.Perm os → ∀ {gs : List G}, tols gs os → ∃ qs, qs.Perm gs ∧ tols qs os' := by
  intro os' os p
  induction p with
  | nil => exact fun h => ⟨_, .refl _, h⟩
  | cons a _ ih =>
    intro gs h
    cases gs with
    | nil => unfold tols at h; cases h
    | cons g gs =>
      unfold tols at h
      obtain ⟨b, r, e, h1, h2⟩ := h
      cases e
      obtain ⟨qs, hp, h3⟩ := ih h2
      exact ⟨g :: qs, hp.cons g, by unfold tols; exact ⟨_, _, rfl, h1, h3⟩⟩
  | swap x y l =>
    intro gs h
    cases gs with
    | nil => unfold tols at h; cases h
    | cons g gs =>
      unfold tols at h
      obtain ⟨b, r, e, h1, h2⟩ := h
      cases e
      cases gs with
      | nil => unfold tols at h2; cases h2
      | cons q gs =>
        unfold tols at h2
        obtain ⟨b, r, e, h3, h4⟩ := h2
        cases e
        refine ⟨q :: g :: gs, .swap _ _ _, ?_⟩
        unfold tols
        refine ⟨_, _, rfl, h3, ?_⟩
        unfold tols
        exact ⟨_, _, rfl, h1, h4⟩
  | trans _ _ i1 i2 =>
    intro gs h
    obtain ⟨q1, p1, h1⟩ := i2 h
    obtain ⟨q2, p2, h2⟩ := i1 h1
    exact ⟨q2, p2.trans p1, h2⟩
theorem tol_any (ps : List G) (x : Bool) (o : List Int) : tol (.node "any" ps x) o ↔ ∃ qs, qs.Perm ps ∧ sqT qs o := by
  unfold tol
  simp only [if_true]
  constructor
  · rintro ⟨os, h, os', p, rfl⟩
    obtain ⟨qs, hp, hq⟩ := perm_tols p h
    exact ⟨qs, hp, (sq_tols _ _).mpr ⟨os', hq, rfl⟩⟩
  · rintro ⟨qs, hp, h⟩
    obtain ⟨os', h1, rfl⟩ := (sq_tols _ _).mp h
    obtain ⟨os, p, h2⟩ := tols_perm hp h1
    exact ⟨os, h2, os', p.symm, rfl⟩
theorem tols_app : ∀ (a b : List G) (os : List (List Int)), tols (a ++ b) os ↔ ∃ x y, os = x ++ y ∧ tols a x ∧ tols b y
  | [], b, os => by
    rw [List.nil_append]
    constructor
    · intro h; exact ⟨[], os, rfl, by unfold tols; rfl, h⟩
    · rintro ⟨x, y, rfl, h1, h2⟩; unfold tols at h1; rw [h1]; exact h2
  | g :: a, b, os => by
    rw [List.cons_append]
    constructor
    · intro h
      unfold tols at h
      obtain ⟨x, r, rfl, h1, h2⟩ := h
      obtain ⟨x2, y2, rfl, h3, h4⟩ := (tols_app a b r).mp h2
      exact ⟨x :: x2, y2, rfl, by unfold tols; exact ⟨x, x2, rfl, h1, h3⟩, h4⟩
    · rintro ⟨x, y, rfl, h1, h2⟩
      unfold tols at h1
      obtain ⟨u, v, rfl, h3, h4⟩ := h1
      unfold tols
      exact ⟨u, v ++ y, rfl, h3, (tols_app a b _).mpr ⟨v, y, rfl, h4, h2⟩⟩
theorem tols_rev : ∀ (gs : List G) (os : List (List Int)), tols gs os → tols gs.reverse os.reverse
  | [], os, h => by unfold tols at h; rw [h]; show tols [] []; unfold tols; rfl
  | g :: gs, os, h => by
    unfold tols at h
    obtain ⟨a, r, rfl, h1, h2⟩ := h
    rw [List.reverse_cons, List.reverse_cons]
    refine (tols_app _ _ _).mpr ⟨_, _, rfl, tols_rev gs r h2, ?_⟩
    unfold tols
    exact ⟨a, [], rfl, h1, by unfold tols; rfl⟩
theorem tol_row {w : Str} (hw : w ≠ "any") (ps : List G) (x : Bool) (o : List Int) : tol (.node w ps x) o ↔ sqT ps o ∨ sqT ps.reverse o := by
  unfold tol
  rw [sq_tols, sq_tols]
  constructor
  · rintro ⟨os, h, e⟩
    rw [if_neg hw] at e
    rcases e with e | e
    · exact .inl ⟨os, h, e⟩
    · exact .inr ⟨os.reverse, tols_rev _ _ h, e⟩
  · rintro (⟨os, h, e⟩ | ⟨os, h, e⟩)
    · exact ⟨os, h, by rw [if_neg hw]; exact .inl e⟩
    · have := tols_rev _ _ h
      rw [List.reverse_reverse] at this
      exact ⟨os.reverse, this, by rw [if_neg hw, List.reverse_reverse]; exact .inr e⟩
mutual
theorem tol_perm : ∀ (g : G) {o : List Int}, tol g o → o.Perm (lea g)
  | .leaf i, o, h => by unfold tol at h; rw [h, lea]
  | .node w ps x, o, h => by
    unfold tol at h
    obtain ⟨os, h, e⟩ := h
    have p := tols_leas ps h
    rw [lea]
    split at e
    · obtain ⟨os', q, rfl⟩ := e
      exact q.flatten.trans p
    · rcases e with rfl | rfl
      · exact p
      · exact (List.reverse_perm os).flatten.trans p
theorem tols_leas : ∀ (gs : List G) {os : List (List Int)}, tols gs os → os.flatten.Perm (leas gs)
  | [], os, h => by unfold tols at h; rw [h, leas]; exact .refl _
  | g :: gs, os, h => by
    unfold tols at h
    obtain ⟨a, r, rfl, h1, h2⟩ := h
    rw [List.flatten_cons, leas]
    exact (tol_perm g h1).append (tols_leas gs h2)
end
theorem sq_perm {gs : List G} {o : List Int} (h : sqT gs o) : o.Perm (leas gs) := by
  obtain ⟨os, h2, rfl⟩ := (sq_tols _ _).mp h
  exact tols_leas gs h2
end K22
set_option linter.all false
set_option Elab.async false
set_option maxRecDepth 100000
set_option autoImplicit false
namespace K22
open Pv PySem PySem.Spec L2
open PyProof.Rows hiding St
def noF (p : Int → Bool) (o : List Int) : Prop := ∀ x ∈ o, p x = false
def alF (p : Int → Bool) (o : List Int) : Prop := ∀ x ∈ o, p x = true
def suf (p : Int → Bool) (o : List Int) : Prop := ∃ a b, o = a ++ b ∧ noF p a ∧ alF p b
def pre (p : Int → Bool) (o : List Int) : Prop := ∃ a b, o = a ++ b ∧ alF p a ∧ noF p b
def mid (p : Int → Bool) (o : List Int) : Prop := ∃ a b c, o = a ++ b ++ c ∧ noF p a ∧ alF p b ∧ noF p c
section
variable {p : Int → Bool}
theorem alF_nil : alF p [] := fun _ h => by cases h
end
def fil (p : Int → Bool) (g : G) : Nat := if (lea g).all p then 2 else if (lea g).any p then 1 else 0
theorem fil_2 {p : Int → Bool} {g : G} : fil p g = 2 ↔ alF p (lea g) := by
  unfold fil alF
  by_cases h : (lea g).all p = true
  · rw [if_pos h]; simp; simpa using h
  · rw [if_neg h]
    constructor
    · intro z; split at z <;> cases z
    · intro z; exact absurd (by simpa using z) h
theorem fil_0 {p : Int → Bool} {g : G} (hn : lea g ≠ []) : fil p g = 0 ↔ noF p (lea g) := by
  unfold fil noF
  obtain ⟨y, hy⟩ := List.exists_mem_of_ne_nil _ hn
  by_cases h : (lea g).all p = true
  · rw [if_pos h]
    constructor
    · intro z; cases z
    · intro z
      have h1 := List.all_eq_true.mp h y hy
      rw [z y hy] at h1; cases h1
  · rw [if_neg h]
    by_cases h2 : (lea g).any p = true
    · rw [if_pos h2]
      constructor
      · intro z; cases z
      · intro z
        obtain ⟨x, hx, hp⟩ := List.any_eq_true.mp h2
        rw [z x hx] at hp; cases hp
    · rw [if_neg h2]
      refine ⟨fun _ x hx => ?_, fun _ => rfl⟩
      rw [Bool.not_eq_true, List.any_eq_false] at h2
      simpa using h2 x hx
theorem fil_le (p : Int → Bool) (g : G) : fil p g ≤ 2 := by
  unfold fil; split
  · exact Nat.le_refl _
  · split <;> omega
theorem fil_cases (p : Int → Bool) (g : G) : fil p g = 0 ∨ fil p g = 1 ∨ fil p g = 2 := by have := fil_le p g; omega
section
variable {p : Int → Bool}
def NE (gs : List G) : Prop := ∀ g ∈ gs, lea g ≠ []
theorem NE.cons {g : G} {gs : List G} : NE (g :: gs) ↔ lea g ≠ [] ∧ NE gs := by unfold NE; simp
theorem NE.perm {a b : List G} (h : a.Perm b) : NE a ↔ NE b := by
  unfold NE
  exact ⟨fun z x hx => z x (h.mem_iff.mpr hx), fun z x hx => z x (h.mem_iff.mp hx)⟩
def allE (p : Int → Bool) (gs : List G) : Prop := ∀ g ∈ gs, fil p g = 0
def allFu (p : Int → Bool) (gs : List G) : Prop := ∀ g ∈ gs, fil p g = 2
end
end K22
set_option linter.all false
set_option Elab.async false
set_option maxRecDepth 100000
set_option autoImplicit false
namespace K22
open Pv PySem PySem.Spec L2
open PyProof.Rows hiding St
def flt (p : Int → Bool) (k : Nat) (l : List G) : List G := l.filter fun g => fil p g == k
section
variable {p : Int → Bool}
theorem mem_flt {k : Nat} {l : List G} {g : G} : g ∈ flt p k l ↔ g ∈ l ∧ fil p g = k := by unfold flt; simp
theorem fil_leas {g : G} {l : List G} (e : lea g = leas l) (hl : l ≠ []) (hn : NE l) (k : Nat) (hk : k = 0 ∨ k = 2) (h : ∀ q ∈ l, fil p q = k) : fil p g = k := by
  rcases hk with rfl | rfl
  · have hne : lea g ≠ [] := by
      rw [e]
      obtain ⟨q, hq⟩ := List.exists_mem_of_ne_nil _ hl
      obtain ⟨x, hx⟩ := List.exists_mem_of_ne_nil _ (hn q hq)
      exact List.ne_nil_of_mem (leas_mem.mpr ⟨q, hq, hx⟩)
    rw [fil_0 hne, e]
    intro x hx
    obtain ⟨q, hq, hx⟩ := leas_mem.mp hx
    exact (fil_0 (hn q hq)).mp (h q hq) x hx
  · rw [fil_2, e]
    intro x hx
    obtain ⟨q, hq, hx⟩ := leas_mem.mp hx
    exact fil_2.mp (h q hq) x hx
structure Spl (p : Int → Bool) (l e m f : List G) : Prop where
  eq : l = e ++ m ++ f
  he : allE p e
  hf : allFu p f
  hm : m = [] ∨ ∃ g, m = [g] ∧ fil p g = 1
theorem fil_1_ne {w : Str} {ps : List G} {x : Bool} (h : fil p (.node w ps x) = 1) (hn : NE ps) : (∃ g ∈ ps, fil p g ≠ 0) ∧ ∃ g ∈ ps, fil p g ≠ 2 := by
  have e : lea (.node w ps x) = leas ps := by rw [lea]
  have hp : ps ≠ [] := fun z => by
    have : fil p (.node w ps x) = 2 := by rw [fil_2, e, z, leas]; exact alF_nil
    omega
  refine ⟨Classical.byContradiction fun z => ?_, Classical.byContradiction fun z => ?_⟩
  · have := fil_leas e hp hn 0 (.inl rfl) fun q hq => Classical.byContradiction fun y => z ⟨q, hq, y⟩
    omega
  · have := fil_leas e hp hn 2 (.inr rfl) fun q hq => Classical.byContradiction fun y => z ⟨q, hq, y⟩
    omega
theorem NE_of {l : List G} (h : forms l = true) : NE l := fun g hg => lea_ne g (forms_all.mp h g hg)
theorem form_n {w : Str} {ps : List G} {x : Bool} (h : form (.node w ps x) = true) : x = false ∧ wordOk w = true ∧ least w ≤ ps.length ∧ forms ps = true := by
  rw [form] at h
  simp only [Bool.and_eq_true, Bool.not_eq_true', decide_eq_true_eq] at h
  exact ⟨h.1, h.2.1, h.2.2.1, h.2.2.2⟩
structure LeanS (p : Int → Bool) (g : G) (r : List G) : Prop where
  s : ∀ o, sqT r o ↔ tol g o ∧ suf p o
  f : forms r = true
  l : (leas r).Perm (lea g)
  n : 1 ≤ r.length ∧ (fil p g = 1 → 2 ≤ r.length)
end
end K22
set_option linter.all false
set_option Elab.async false
set_option maxRecDepth 100000
set_option autoImplicit false
namespace K22
open Pv PySem PySem.Spec L2
open PyProof.Rows hiding St
section
variable {p : Int → Bool}
structure Tog (p : Int → Bool) (g q : G) : Prop where
  s : ∀ o, tol q o ↔ tol g o ∧ mid p o
  f : form q = true
  l : (lea q).Perm (lea g)
end
end K22
set_option linter.all false
set_option Elab.async false
set_option maxRecDepth 100000
set_option autoImplicit false
namespace K22
open Pv PySem PySem.Spec L2
open PyProof.Rows hiding St
section
variable {p : Int → Bool}
theorem form_mk {w : Str} {ps : List G} (h1 : wordOk w = true) (h2 : least w ≤ ps.length) (h3 : forms ps = true) : form (.node w ps false) = true := by
  rw [form, h1, decide_eq_true h2, h3]; rfl
structure AnyH (p : Int → Bool) (ps : List G) (x : Bool) : Prop where
  f : form (.node "any" ps x) = true
  c : fil p (.node "any" ps x) = 1
theorem AnyH.ne {ps : List G} {x : Bool} (h : AnyH p ps x) : flt p 1 ps ++ flt p 2 ps ≠ [] := fun z => by
  obtain ⟨_, _, _, f3⟩ := form_n h.f
  obtain ⟨⟨g, hg, c⟩, _⟩ := fil_1_ne h.c (NE_of f3)
  rw [List.append_eq_nil_iff] at z
  rcases fil_cases p g with d | d | d
  · exact c d
  · have : g ∈ flt p 1 ps := mem_flt.mpr ⟨hg, d⟩
    rw [z.1] at this; cases this
  · have : g ∈ flt p 2 ps := mem_flt.mpr ⟨hg, d⟩
    rw [z.2] at this; cases this
theorem AnyH.fs {ps : List G} {x : Bool} (h : AnyH p ps x) (k : Nat) : forms (flt p k ps) = true := by
  obtain ⟨_, _, _, f3⟩ := form_n h.f
  exact forms_all.mpr fun g hg => forms_all.mp f3 g (mem_flt.mp hg).1
structure RowH (p : Int → Bool) (A M B : List G) (x y : G) (z : Bool) : Prop where
  f : form (.node "row" (A ++ ([x] ++ M ++ [y]) ++ B) z) = true
  a : allE p A
  b : allE p B
  x : fil p x ≠ 0
  y : fil p y ≠ 0
end
end K22
set_option Elab.async false
set_option linter.all false
set_option maxRecDepth 100000
namespace K22
open Pv PySem PySem.Spec L2
open PyProof.Rows hiding St
def pS (S : List Int) : Int → Bool := fun x => decide (x ∈ S)
end K22
set_option Elab.async false
set_option linter.all false
set_option maxRecDepth 100000
namespace K22
open Pv PySem PySem.Spec L2
open PyProof.Rows hiding St
structure Fit (g : G) : Prop where
  f : form g = true
  n : (lea g).length ≤ 24
mutual
theorem form_dep : ∀ g : G, form g = true → dep g + 1 ≤ (lea g).length
  | .leaf i, _ => by rw [dep, lea]; simp
  | .node w ps x, h => by
    obtain ⟨rfl, f1, f2, f3⟩ := form_node h
    have := forms_dep ps f3
    have := least_2 w
    rw [dep, lea]; omega
theorem forms_dep : ∀ gs : List G, forms gs = true → deps gs + gs.length ≤ (leas gs).length
  | [], _ => by rw [deps, leas]; simp
  | g :: gs, h => by
    rw [forms_cons, Bool.and_eq_true] at h
    have := form_dep g h.1
    have := forms_dep gs h.2
    rw [deps, leas, List.length_cons, List.length_append]; omega
end
mutual
theorem form_wd {b : Nat} : ∀ g : G, form g = true → (lea g).length ≤ b → wd b g = true
  | .leaf i, _, _ => by rw [wd]
  | .node w ps x, h, hl => by
    obtain ⟨rfl, f1, f2, f3⟩ := form_node h
    rw [lea] at hl
    have := forms_dep ps f3
    have hs : PyData.strOk w = true := by
      unfold wordOk at f1
      simp only [Bool.or_eq_true, beq_iff_eq] at f1
      rcases f1 with rfl | rfl <;> decide +kernel
    rw [wd, hs, forms_wd ps f3 hl, decide_eq_true (by omega)]; rfl
theorem forms_wd {b : Nat} : ∀ gs : List G, forms gs = true → (leas gs).length ≤ b → wds b gs = true
  | [], _, _ => by rw [wds]
  | g :: gs, h, hl => by
    rw [forms_cons, Bool.and_eq_true] at h
    rw [leas, List.length_append] at hl
    rw [wds, form_wd g h.1 (by omega), forms_wd gs h.2 (by omega)]; rfl
end
theorem Fit.d {g : G} (h : Fit g) : dep g < 24 := by have := form_dep g h.f; have := h.n; omega
theorem Fit.w {g : G} (h : Fit g) : wd 24 g = true := form_wd g h.f h.n
structure Fits (gs : List G) : Prop where
  f : forms gs = true
  n : (leas gs).length ≤ 24
theorem Fits.mem {gs : List G} (h : Fits gs) {g : G} (hg : g ∈ gs) : Fit g := ⟨forms_all.mp h.f g hg, by have := lea_mem hg; have := h.n; omega⟩
theorem Fits.len {gs : List G} (h : Fits gs) : gs.length ≤ 24 := by have := forms_dep gs h.f; have := h.n; omega
theorem Fit.parts {w : Str} {ps : List G} {x : Bool} (h : Fit (.node w ps x)) : Fits ps := ⟨(form_node h.f).2.2.2, by have := h.n; rwa [lea] at this⟩
theorem Fits.sub {gs qs : List G} (h : Fits gs) (s : qs.Sublist gs) : Fits qs := ⟨forms_all.mpr fun g hg => forms_all.mp h.f g (s.subset hg), by
  have : (leas qs).length ≤ (leas gs).length := by
    clear h
    induction s with
    | slnil => exact Nat.le_refl _
    | cons a _ ih => rw [leas, List.length_append]; omega
    | cons_cons a _ ih => rw [leas, leas, List.length_append, List.length_append]; omega
  have := h.n; omega⟩
theorem Fits.perm {gs qs : List G} (h : Fits gs) (s : (leas qs).Perm (leas gs)) (hf : forms qs = true) : Fits qs := ⟨hf, by rw [s.length_eq]; exact h.n⟩
end K22
set_option Elab.async false
set_option linter.all false
set_option maxRecDepth 100000
namespace K22
open Pv PySem PySem.Spec L2
open PyProof.Rows hiding St
theorem LeanS.len {p : Int → Bool} {g : G} {r : List G} (L : LeanS p g r) (h : Fit g) : Fits r := ⟨L.f, by rw [L.l.length_eq]; exact h.n⟩
end K22
set_option Elab.async false
set_option linter.all false
set_option maxRecDepth 100000
namespace K22
open Pv PySem PySem.Spec L2
open PyProof.Rows hiding St
section
variable {Ff Fg Fr : Fn} {L S H A B : PV} {P E F F' R R' : List PV} {b b' : Bool}
end
section
variable {r_ : Fn} {S T Q : PV} {w : Str} {L C D : List PV} {i : Int}
end
end K22
set_option Elab.async false
set_option linter.all false
set_option maxRecDepth 100000
namespace K22
open Pv PySem PySem.Spec L2
open PyProof.Rows hiding St
section
variable {Fs Ff Fr : Fn} {S X Y Q : PV} {L Md M2 C D R : List PV} {T fl : List Int} {lo hi : Int}
end
theorem toDs_len : ∀ l : List PV, (toDs l).length = l.length
  | [] => by unfold toDs; rfl
  | x :: l => by unfold toDs; rw [List.length_cons, List.length_cons, toDs_len l]
theorem Fits.okD {M : List G} (h : Fits M) : okD (.lst (encs M)) = true := okD_encs (b := 24) M (forms_wd M h.f h.n) (by have := forms_dep M h.f; have := h.n; omega)
end K22
set_option Elab.async false
set_option linter.all false
set_option maxRecDepth 100000
namespace K22
open Pv PySem PySem.Spec L2
open PyProof.Rows hiding St
section
variable {Fi Ffs Fw Fa Fr r_ : Fn} {T S X : PV} {w : Str} {L : List PV} {fl : List Int} {k i : Int}
end
structure TogA (T : List (List Int)) (g q : G) : Prop where
  s : ∀ o, tol q o ↔ tol g o ∧ ∀ S ∈ T, mid (pS S) o
  f : form q = true
  l : (lea q).Perm (lea g)
end K22
set_option linter.all false
set_option Elab.async false
set_option maxRecDepth 100000
set_option autoImplicit false
namespace K22
open Pv PySem PySem.Spec L2
open PyProof.Rows hiding St
def getG (ps : List G) (k : Nat) : G := ps.getD k (.leaf 0)
theorem getG_mem {ps : List G} {k : Nat} (h : k < ps.length) : getG ps k ∈ ps := by
  unfold getG
  rw [List.getD_eq_getElem?_getD, List.getElem?_eq_getElem h]
  exact List.getElem_mem h
theorem map_getG (ps : List G) : (List.range ps.length).map (getG ps) = ps := by
  apply List.ext_getElem?
  intro i
  rw [List.getElem?_map]
  by_cases h : i < ps.length
  · rw [List.getElem?_range h, List.getElem?_eq_getElem h]
    unfold getG
    simp [List.getD_eq_getElem?_getD, List.getElem?_eq_getElem h]
  · rw [List.getElem?_eq_none (by simp; omega), List.getElem?_eq_none (by omega)]; rfl
theorem perm_of_map {α β : Type} (f : α → β) {q : List β} {b : List β} (p : q.Perm b) : ∀ {l : List α}, b = l.map f → ∃ l' : List α, l'.Perm l ∧ q = l'.map f := by
  induction p with
  | nil =>
    intro l e
    exact ⟨l, .refl _, e⟩
  | cons x _ ih =>
    intro l e
    cases l with
    | nil => cases e
    | cons y l =>
      rw [List.map_cons] at e
      injection e with e1 e2
      obtain ⟨l', p', e3⟩ := ih e2
      exact ⟨y :: l', p'.cons y, by rw [List.map_cons, ← e1, e3]⟩
  | swap x y l0 =>
    intro l e
    match l, e with
    | a :: b :: l, e =>
      rw [List.map_cons, List.map_cons] at e
      injection e with e1 e2
      injection e2 with e3 e4
      exact ⟨b :: a :: l, .swap _ _ _, by rw [List.map_cons, List.map_cons, ← e1, ← e3, e4]⟩
    | [a], e => cases e
    | [], e => cases e
  | trans _ _ i1 i2 =>
    intro l e
    obtain ⟨l2, p2, e2⟩ := i2 e
    obtain ⟨l1, p1, e1⟩ := i1 e2
    exact ⟨l1, p1.trans p2, e1⟩
structure Wit (w : Str) (ps : List G) (o : List Int) (K : List Nat) (os : List (List Int)) : Prop where
  p : K.Perm (List.range ps.length)
  t : tols (K.map (getG ps)) os
  e : o = os.flatten
  r : w = "any" ∨ K = List.range ps.length ∨ K = (List.range ps.length).reverse
theorem tol_wit (w : Str) (ps : List G) (x : Bool) (o : List Int) : tol (.node w ps x) o ↔ ∃ K os, Wit w ps o K os := by
  by_cases hw : w = "any"
  · subst hw
    rw [tol_any]
    constructor
    · rintro ⟨qs, hp, hq⟩
      obtain ⟨K, pk, rfl⟩ := perm_of_map (getG ps) hp (map_getG ps).symm
      obtain ⟨os, h1, h2⟩ := (sq_tols _ _).mp hq
      exact ⟨K, os, pk, h1, h2, .inl rfl⟩
    · rintro ⟨K, os, h⟩
      refine ⟨K.map (getG ps), ?_, (sq_tols _ _).mpr ⟨os, h.t, h.e⟩⟩
      have := h.p.map (getG ps)
      rwa [map_getG] at this
  · rw [tol_row hw]
    constructor
    · rintro (h | h)
      · obtain ⟨os, h1, h2⟩ := (sq_tols _ _).mp h
        exact ⟨List.range ps.length, os, .refl _, by rw [map_getG]; exact h1, h2, .inr (.inl rfl)⟩
      · obtain ⟨os, h1, h2⟩ := (sq_tols _ _).mp h
        exact ⟨(List.range ps.length).reverse, os, List.reverse_perm _, by rw [List.map_reverse, map_getG]; exact h1, h2, .inr (.inr rfl)⟩
    · rintro ⟨K, os, h⟩
      rcases h.r with z | rfl | rfl
      · exact absurd z hw
      · left
        have := h.t
        rw [map_getG] at this
        exact (sq_tols _ _).mpr ⟨os, this, h.e⟩
      · right
        have := h.t
        rw [List.map_reverse, map_getG] at this
        exact (sq_tols _ _).mpr ⟨os, this, h.e⟩
def mtc (R : List Int) (g : G) : Prop := (R.take (lea g).length).Perm (lea g)
theorem nd_idx : ∀ {ps : List G} {i k : Nat} {x : Int}, (leas ps).Nodup → i < ps.length → k < ps.length → x ∈ lea (getG ps i) → x ∈ lea (getG ps k) → i = k
  | [], i, k, x, _, h, _, _, _ => by cases h
  | g :: ps, 0, 0, x, _, _, _, _, _ => rfl
  | g :: ps, 0, k + 1, x, hn, _, hk, h1, h2 => by
    rw [leas_cons, List.nodup_append] at hn
    exact absurd rfl (hn.2.2 x h1 x (leas_mem.mpr ⟨_, getG_mem (ps := ps) (k := k) (by simpa using hk), h2⟩))
  | g :: ps, i + 1, 0, x, hn, hi, _, h1, h2 => by
    rw [leas_cons, List.nodup_append] at hn
    exact absurd rfl (hn.2.2 x h2 x (leas_mem.mpr ⟨_, getG_mem (ps := ps) (k := i) (by simpa using hi), h1⟩))
  | g :: ps, i + 1, k + 1, x, hn, hi, hk, h1, h2 => by
    rw [leas_cons, List.nodup_append] at hn
    rw [nd_idx (ps := ps) (i := i) (k := k) hn.2.1 (by simpa using hi) (by simpa using hk) h1 h2]
theorem mtc_uniq {ps : List G} {R : List Int} {i k : Nat} (hn : (leas ps).Nodup) (ne : NE ps) (hi : i < ps.length) (hk : k < ps.length) (h1 : mtc R (getG ps i)) (h2 : mtc R (getG ps k)) : i = k := by
  cases R with
  | nil =>
    unfold mtc at h1
    rw [List.take_nil] at h1
    exact absurd (List.perm_nil.mp h1.symm) (ne _ (getG_mem hi))
  | cons x R =>
    have key : ∀ j, j < ps.length → mtc (x :: R) (getG ps j) → x ∈ lea (getG ps j) := fun j hj h => by
      unfold mtc at h
      have := List.length_pos_iff.mpr (ne _ (getG_mem hj))
      refine h.mem_iff.mp ?_
      obtain ⟨m, hm⟩ : ∃ m, (lea (getG ps j)).length = m + 1 := ⟨_, (Nat.succ_pred_eq_of_pos this).symm⟩
      rw [hm, List.take_succ_cons]
      simp
    exact nd_idx hn hi hk (key i hi h1) (key k hk h2)
structure Fnd (w : Str) (ps : List G) (o : List Int) (j : Nat) (K : List Nat) (R : List Int) : Prop where
  nd : K.Nodup
  lt : ∀ k ∈ K, k < ps.length
  fl : ∃ flat, o = flat ++ R ∧ sqT (K.map (getG ps)) flat
  wi : ∀ K' os, Wit w ps o K' os → K = K'.take j ∧ R = (os.drop j).flatten
theorem fnd0 (w : Str) (ps : List G) (o : List Int) : Fnd w ps o 0 [] o := ⟨.nil, fun k hk => (by cases hk), ⟨[], rfl, (sq_nil _).mpr rfl⟩, fun K' os h => ⟨rfl, h.e⟩⟩
theorem tols_get : ∀ {gs : List G} {os : List (List Int)} {j : Nat}, tols gs os → j < gs.length → ∃ a, os.drop j = a :: os.drop (j + 1) ∧ tol (getG gs j) a
  | [], os, j, _, h => by cases h
  | g :: gs, os, 0, h, _ => by
    unfold tols at h
    obtain ⟨a, r, rfl, h1, _⟩ := h
    exact ⟨a, rfl, h1⟩
  | g :: gs, os, j + 1, h, hj => by
    unfold tols at h
    obtain ⟨a, r, rfl, _, h2⟩ := h
    obtain ⟨b, e, t⟩ := tols_get (j := j) h2 (by simpa using hj)
    exact ⟨b, e, t⟩
theorem wit_next {w : Str} {ps : List G} {o : List Int} {j : Nat} {K : List Nat} {R : List Int} {K' : List Nat} {os : List (List Int)} (f : Fnd w ps o j K R) (h : Wit w ps o K' os) (hj : j < ps.length) :
    ∃ k, k < ps.length ∧ k ∉ K ∧ K'.take (j + 1) = K ++ [k] ∧ mtc R (getG ps k) ∧ tol (getG ps k) (R.take (lea (getG ps k)).length) ∧ (os.drop (j + 1)).flatten = R.drop (lea (getG ps k)).length := by
  obtain ⟨rfl, rfl⟩ := f.wi _ _ h
  have hl : K'.length = ps.length := by rw [h.p.length_eq, List.length_range]
  have hj' : j < K'.length := by omega
  obtain ⟨a, e, t⟩ := tols_get (j := j) h.t (by rw [List.length_map]; exact hj')
  have ek : getG (K'.map (getG ps)) j = getG ps K'[j] := by
    show ((K'.map (getG ps)).getD j (.leaf 0)) = _
    rw [List.getD_eq_getElem?_getD, List.getElem?_map, List.getElem?_eq_getElem hj']
    rfl
  rw [ek] at t
  have hk : K'[j] < ps.length := List.mem_range.mp (h.p.mem_iff.mp (List.getElem_mem hj'))
  have hz := (tol_perm _ t).length_eq
  have nd := h.p.nodup_iff.mpr List.nodup_range
  refine ⟨K'[j], hk, fun z => ?_, ?_, ?_, ?_, ?_⟩
  · rw [← List.take_append_drop j K', List.nodup_append] at nd
    have hm : K'[j] ∈ K'.drop j := by
      rw [List.drop_eq_getElem_cons hj']; exact List.mem_cons_self
    exact nd.2.2 _ z _ hm rfl
  · rw [List.take_succ, List.getElem?_eq_getElem hj']; rfl
  · unfold mtc
    rw [e, List.flatten_cons, ← hz, List.take_left]
    exact tol_perm _ t
  · rw [e, List.flatten_cons, ← hz, List.take_left]; exact t
  · rw [e, List.flatten_cons, ← hz, List.drop_left]
theorem fnd_none {w : Str} {ps : List G} {o : List Int} {j : Nat} {K : List Nat} {R : List Int} (f : Fnd w ps o j K R) (hj : j < ps.length) (h : ∀ k < ps.length, k ∉ K → ¬ mtc R (getG ps k)) : Fnd w ps o (j + 1) K R :=
  ⟨f.nd, f.lt, f.fl, fun K' os h' => by
    obtain ⟨k, h1, h2, _, h3, _⟩ := wit_next f h' hj
    exact absurd h3 (h k h1 h2)⟩
theorem fnd_some {w : Str} {ps : List G} {o : List Int} {j : Nat} {K : List Nat} {R : List Int} {k : Nat} (f : Fnd w ps o j K R) (hn : (leas ps).Nodup) (ne : NE ps) (hj : j < ps.length) (hk : k < ps.length) (hK : k ∉ K) (hm : mtc R (getG ps k)) (ht : tol (getG ps k) (R.take (lea (getG ps k)).length)) :
    Fnd w ps o (j + 1) (K ++ [k]) (R.drop (lea (getG ps k)).length) :=
  ⟨List.nodup_append.mpr ⟨f.nd, by simp, fun a ha b hb => by rw [List.mem_singleton.mp hb]; exact fun z => hK (z ▸ ha)⟩, fun i hi => by
    rcases List.mem_append.mp hi with hi | hi
    · exact f.lt i hi
    · rw [List.mem_singleton.mp hi]; exact hk, by
    obtain ⟨flat, e, q⟩ := f.fl
    refine ⟨flat ++ R.take (lea (getG ps k)).length, by rw [List.append_assoc, List.take_append_drop]; exact e, ?_⟩
    rw [List.map_append]
    exact (sq_app _ _ _).mpr ⟨_, _, rfl, q, (sq_one _ _).mpr ht⟩, fun K' os h' => by
    obtain ⟨i, h1, h2, h3, h4, h5, h6⟩ := wit_next f h' hj
    have := mtc_uniq hn ne h1 hk h4 hm
    subst this
    exact ⟨h3.symm, h6.symm⟩⟩
theorem fnd_bad {w : Str} {ps : List G} {x : Bool} {o : List Int} {j : Nat} {K : List Nat} {R : List Int} {k : Nat} (f : Fnd w ps o j K R) (hn : (leas ps).Nodup) (ne : NE ps) (hj : j < ps.length) (hk : k < ps.length) (hm : mtc R (getG ps k)) (ht : ¬ tol (getG ps k) (R.take (lea (getG ps k)).length)) : ¬ tol (.node w ps x) o := fun z => by
  obtain ⟨K', os, h'⟩ := (tol_wit _ _ _ _).mp z
  obtain ⟨i, h1, h2, h3, h4, h5, h6⟩ := wit_next f h' hj
  have := mtc_uniq hn ne h1 hk h4 hm
  subst this
  exact ht h5
theorem nd_perm {α : Type} : ∀ {l m : List α}, l.Nodup → (∀ x ∈ l, x ∈ m) → m.length ≤ l.length → l.Perm m
  | [], m, _, _, h => by rw [List.eq_nil_of_length_eq_zero (Nat.le_zero.mp h)]
  | a :: l, m, n, s, h => by
    obtain ⟨m1, m2, rfl⟩ := List.append_of_mem (s a (by simp))
    rw [List.nodup_cons] at n
    refine List.Perm.trans (List.Perm.cons a (nd_perm (m := m1 ++ m2) n.2 (fun x hx => ?_) ?_)) List.perm_middle.symm
    · have := s x (by simp [hx])
      simp only [List.mem_append, List.mem_cons] at this ⊢
      rcases this with h | rfl | h
      · exact .inl h
      · exact absurd hx n.1
      · exact .inr h
    · simp only [List.length_append, List.length_cons] at h ⊢; omega
theorem fnd_end {w : Str} {ps : List G} {x : Bool} {o : List Int} {K : List Nat} {R : List Int} (f : Fnd w ps o ps.length K R) : tol (.node w ps x) o ↔ K.length = ps.length ∧ R = [] ∧ (w = "any" ∨ K = List.range ps.length ∨ K = (List.range ps.length).reverse) := by
  rw [tol_wit]
  constructor
  · rintro ⟨K', os, h⟩
    obtain ⟨rfl, rfl⟩ := f.wi _ _ h
    have hl : K'.length = ps.length := by rw [h.p.length_eq, List.length_range]
    have hos : ∀ {gs : List G} {os : List (List Int)}, tols gs os → os.length = gs.length := by
      intro gs
      induction gs with
      | nil => intro os h; unfold tols at h; rw [h]; rfl
      | cons g gs ih => intro os h; unfold tols at h; obtain ⟨a, r, rfl, _, h2⟩ := h; rw [List.length_cons, List.length_cons, ih h2]
    have hl2 := hos h.t
    rw [List.length_map, hl] at hl2
    rw [List.take_of_length_le (by omega), List.drop_of_length_le (by omega)]
    exact ⟨hl, rfl, h.r⟩
  · rintro ⟨h1, h2, h3⟩
    obtain ⟨flat, e, q⟩ := f.fl
    rw [h2, List.append_nil] at e
    subst e
    obtain ⟨os, q1, q2⟩ := (sq_tols _ _).mp q
    refine ⟨K, os, ?_, q1, q2, h3⟩
    exact nd_perm f.nd (fun k hk => List.mem_range.mpr (f.lt k hk)) (by rw [List.length_range]; omega)
end K22
set_option linter.all false
set_option Elab.async false
set_option maxRecDepth 100000
set_option autoImplicit false
namespace K22
open Pv PySem PySem.Spec L2
open PyProof.Rows hiding St
theorem tol_same {w : Str} {ps qs : List G} {x y : Bool} (h : ∀ os, tols qs os ↔ tols ps os) (o : List Int) : tol (.node w qs x) o ↔ tol (.node w ps y) o := by
  rw [tol, tol]
  constructor
  · rintro ⟨os, h1, h2⟩; exact ⟨os, (h os).mp h1, h2⟩
  · rintro ⟨os, h1, h2⟩; exact ⟨os, (h os).mpr h1, h2⟩
theorem tol_anyP {ps qs : List G} {x y : Bool} (h : qs.Perm ps) (o : List Int) : tol (.node "any" qs x) o ↔ tol (.node "any" ps y) o := by
  rw [tol_any, tol_any]
  constructor
  · rintro ⟨r, h1, h2⟩; exact ⟨r, h1.trans h, h2⟩
  · rintro ⟨r, h1, h2⟩; exact ⟨r, h1.trans h.symm, h2⟩
theorem tol_rowR {w : Str} (hw : w ≠ "any") {ps : List G} {x y : Bool} (o : List Int) : tol (.node w ps.reverse x) o ↔ tol (.node w ps y) o := by
  rw [tol_row hw, tol_row hw, List.reverse_reverse]
  exact Or.comm
theorem flat_lea : ∀ gs : List G, (gs.map lea).flatten = leas gs
  | [] => by rw [leas]; rfl
  | g :: gs => by rw [List.map_cons, List.flatten_cons, leas, flat_lea gs]
mutual
theorem tol_id : ∀ g : G, tol g (lea g)
  | .leaf i => by rw [lea, tol]
  | .node w ps x => by
    rw [lea, tol]
    refine ⟨_, tols_idl ps, ?_⟩
    split
    · exact ⟨_, .refl _, (flat_lea ps).symm⟩
    · exact .inl (flat_lea ps).symm
theorem tols_idl : ∀ gs : List G, tols gs (gs.map lea)
  | [] => by rw [tols]; rfl
  | g :: gs => by
    rw [tols]
    exact ⟨_, _, rfl, tol_id g, tols_idl gs⟩
end
end K22
set_option Elab.async false
set_option linter.all false
set_option maxRecDepth 100000
namespace K22
open Pv PySem PySem.Spec L2
open PyProof.Rows hiding St
def sv__law_told (F_law_things r_ : Fn) : M Fl := sq (mIfS (tTru (look (mIsi "int" (pVar 0)))) (sq (bnd (eOp (gEq false) (look (eCall gTuple (kCons (pVar 1) (Pv.ret [])))) (look (mTup (aCons (eVar 0) (Pv.ret []))))) mRet) (Pv.ret .nx)) (Pv.ret .nx)) (sq (bnd (eCall gTuple (kCons (pVar 1) (Pv.ret []))) (setR 2)) (sq (bnd (mLst (Pv.ret [])) (setR 3)) (sq (bnd (mRng1 (kCons (look (eCall gLen (kCons (look (eOp gIx (pVar 0) (look (eC (.int 1))))) (Pv.ret [])))) (Pv.ret []))) (loop (tName 4) (sq (bnd (mRng1 (kCons (look (eCall gLen (kCons (look (eOp gIx (pVar 0) (look (eC (.int 1))))) (Pv.ret [])))) (Pv.ret []))) (loop (tName 5) (sq (bnd (eCall gLen (kCons (look (eFn F_law_things (aCons (eOp gIx (look (eOp gIx (pVar 0) (look (eC (.int 1))))) (pVar 5)) (Pv.ret [])))) (Pv.ret []))) (setR 6)) (sq (mIfS (mAnd (blOf (eOp (gIn true) (pVar 5) (pVar 3))) (blOf (eOp (gEq false) (look (eCall gSorted (kCons (look (eSl (pVar 2) (Pv.ret none) (soInt (pVar 6)))) (Pv.ret [])))) (look (eCall gSorted (kCons (look (eFn F_law_things (aCons (eOp gIx (look (eOp gIx (pVar 0) (look (eC (.int 1))))) (pVar 5)) (Pv.ret [])))) (Pv.ret []))))))) (sq (mIfS (mNot (tTru (look (eFn r_ (aCons (eOp gIx (look (eOp gIx (pVar 0) (look (eC (.int 1))))) (pVar 5)) (aCons (eSl (pVar 2) (Pv.ret none) (soInt (pVar 6))) (Pv.ret []))))))) (sq (bnd (eC (.bl false)) mRet) (Pv.ret .nx)) (Pv.ret .nx)) (sq (mMet 3 (aCons (eVar 5) (Pv.ret [])) gAppend) (sq (bnd (eSl (pVar 2) (soInt (pVar 6)) (Pv.ret none)) (setR 2)) (sq (Pv.ret .bk) (Pv.ret .nx))))) (Pv.ret .nx)) (Pv.ret .nx))))) (Pv.ret .nx)))) (sq (mIfS (mOr (blOf (eOp cLt (look (eCall gLen (kCons (pVar 3) (Pv.ret [])))) (look (eCall gLen (kCons (look (eOp gIx (pVar 0) (look (eC (.int 1))))) (Pv.ret [])))))) (blOf (eOp cGt (look (eCall gLen (kCons (pVar 2) (Pv.ret [])))) (look (eC (.int 0)))))) (sq (bnd (eC (.bl false)) mRet) (Pv.ret .nx)) (Pv.ret .nx)) (sq (bnd (vOr (eOp (gEq false) (look (eOp gIx (pVar 0) (look (eC (.int 0))))) (look (eC (.str "any")))) (vOr (eOp (gEq false) (pVar 3) (look (eCall gSorted (kCons (pVar 3) (Pv.ret []))))) (eOp (gEq false) (pVar 3) (look (mRevA (look (eCall gSorted (kCons (pVar 3) (Pv.ret []))))))))) mRet) (Pv.ret .nx))))))
theorem un__law_told (d : Nat) : fn__law_told (d + 1) = runF 7 2 (sv__law_told (fn__law_things 40) (fn__law_told d)) := rfl
def tdI (F_law_things r_ : Fn) : M Fl := sq (bnd (eCall gLen (kCons (look (eFn F_law_things (aCons (eOp gIx (look (eOp gIx (pVar 0) (look (eC (.int 1))))) (pVar 5)) (Pv.ret [])))) (Pv.ret []))) (setR 6)) (sq (mIfS (mAnd (blOf (eOp (gIn true) (pVar 5) (pVar 3))) (blOf (eOp (gEq false) (look (eCall gSorted (kCons (look (eSl (pVar 2) (Pv.ret none) (soInt (pVar 6)))) (Pv.ret [])))) (look (eCall gSorted (kCons (look (eFn F_law_things (aCons (eOp gIx (look (eOp gIx (pVar 0) (look (eC (.int 1))))) (pVar 5)) (Pv.ret [])))) (Pv.ret []))))))) (sq (mIfS (mNot (tTru (look (eFn r_ (aCons (eOp gIx (look (eOp gIx (pVar 0) (look (eC (.int 1))))) (pVar 5)) (aCons (eSl (pVar 2) (Pv.ret none) (soInt (pVar 6))) (Pv.ret []))))))) (sq (bnd (eC (.bl false)) mRet) (Pv.ret .nx)) (Pv.ret .nx)) (sq (mMet 3 (aCons (eVar 5) (Pv.ret [])) gAppend) (sq (bnd (eSl (pVar 2) (soInt (pVar 6)) (Pv.ret none)) (setR 2)) (sq (Pv.ret .bk) (Pv.ret .nx))))) (Pv.ret .nx)) (Pv.ret .nx))
def tdO (F_law_things r_ : Fn) : M Fl := sq (bnd (mRng1 (kCons (look (eCall gLen (kCons (look (eOp gIx (pVar 0) (look (eC (.int 1))))) (Pv.ret [])))) (Pv.ret []))) (loop (tName 5) (sq (bnd (eCall gLen (kCons (look (eFn F_law_things (aCons (eOp gIx (look (eOp gIx (pVar 0) (look (eC (.int 1))))) (pVar 5)) (Pv.ret [])))) (Pv.ret []))) (setR 6)) (sq (mIfS (mAnd (blOf (eOp (gIn true) (pVar 5) (pVar 3))) (blOf (eOp (gEq false) (look (eCall gSorted (kCons (look (eSl (pVar 2) (Pv.ret none) (soInt (pVar 6)))) (Pv.ret [])))) (look (eCall gSorted (kCons (look (eFn F_law_things (aCons (eOp gIx (look (eOp gIx (pVar 0) (look (eC (.int 1))))) (pVar 5)) (Pv.ret [])))) (Pv.ret []))))))) (sq (mIfS (mNot (tTru (look (eFn r_ (aCons (eOp gIx (look (eOp gIx (pVar 0) (look (eC (.int 1))))) (pVar 5)) (aCons (eSl (pVar 2) (Pv.ret none) (soInt (pVar 6))) (Pv.ret []))))))) (sq (bnd (eC (.bl false)) mRet) (Pv.ret .nx)) (Pv.ret .nx)) (sq (mMet 3 (aCons (eVar 5) (Pv.ret [])) gAppend) (sq (bnd (eSl (pVar 2) (soInt (pVar 6)) (Pv.ret none)) (setR 2)) (sq (Pv.ret .bk) (Pv.ret .nx))))) (Pv.ret .nx)) (Pv.ret .nx))))) (Pv.ret .nx)
section
variable {Ft r_ : Fn} {O P : PV} {w : Str} {L : List PV} {R l : List Int} {Ks : List Int} {s4 s6 : Pv.Slot} {k : Nat}
theorem cutn {α : Type} (xs : List α) (a : Nat) : cutP xs none (some (a : Int)) = xs.take a := by
  by_cases h : a ≤ xs.length
  · exact cut_pre xs a h
  · unfold cutP
    rw [HT.sIx_nat, HT.sIx_none, Nat.min_eq_right (by omega), List.take_of_length_le (i := a) (by omega)]
    simp
theorem td_size (h0 : atI L k = some P) (h1 : Ft [P] = .ok (.lst (l.map .int), true)) (m : M Fl) :
    sq (bnd (eCall gLen (kCons (look (eFn Ft (aCons (eOp gIx (look (eOp gIx (pVar 0) (look (eC (.int 1))))) (pVar 5)) (Pv.ret [])))) (Pv.ret []))) (setR 6)) m [.val (.tup [.str w, .tup L]), .val O, .val (.tup (R.map .int)), .own (Ks.map .int), s4, .val (.int k), s6] = m [.val (.tup [.str w, .tup L]), .val O, .val (.tup (R.map .int)), .own (Ks.map .int), s4, .val (.int k), .val (.int (l.length : Nat))] := by
  have hl : (l.map PV.int).length = l.length := List.length_map _
  generalize hm : l.length = m at *
  generalize l.map PV.int = W at *
  exact sq_nx (by simp [at1, h0, h1, hl])
theorem td_cond (h0 : atI L k = some P) (h1 : Ft [P] = .ok (.lst (l.map .int), true)) {n : Nat} : mAnd (blOf (eOp (gIn true) (pVar 5) (pVar 3))) (blOf (eOp (gEq false) (look (eCall gSorted (kCons (look (eSl (pVar 2) (Pv.ret none) (soInt (pVar 6)))) (Pv.ret [])))) (look (eCall gSorted (kCons (look (eFn Ft (aCons (eOp gIx (look (eOp gIx (pVar 0) (look (eC (.int 1))))) (pVar 5)) (Pv.ret [])))) (Pv.ret [])))))) [.val (.tup [.str w, .tup L]), .val O, .val (.tup (R.map .int)), .own (Ks.map .int), s4, .val (.int k), .val (.int (n : Nat))] = .ok (!decide ((k : Int) ∈ Ks) && decide (isort (R.take n) = isort l)) [.val (.tup [.str w, .tup L]), .val O, .val (.tup (R.map .int)), .own (Ks.map .int), s4, .val (.int k), .val (.int (n : Nat))] := by
  have g1 := gIn_lst true (k : Int) Ks
  have g2 := gEq_lstI false (isort (R.take n)) (isort l)
  have c : cutP (R.map PV.int) none (some (n : Int)) = (R.take n).map .int := by rw [cutn, List.map_take]
  have s1 : gSorted [.tup ((R.take n).map PV.int)] = some (.lst ((isort (R.take n)).map .int), true) := by rw [gSorted_t, intsP_map']; rfl
  have s2 : gSorted [.lst (l.map PV.int)] = some (.lst ((isort l).map .int), true) := by rw [gSorted_l, intsP_map']; rfl
  generalize R.map PV.int = Rv at *
  generalize (R.take n).map PV.int = Tv at *
  generalize l.map PV.int = lv at *
  generalize Ks.map PV.int = Kv at *
  generalize (isort (R.take n)).map PV.int = Sv at *
  generalize (isort l).map PV.int = Lv at *
  by_cases h : (k : Int) ∈ Ks
  · rw [decide_eq_true h] at g1 ⊢
    simp [g1]
  · rw [decide_eq_false h] at g1 ⊢
    simp [g1, g2, c, s1, s2, at1, h0, h1]
theorem td_no (h0 : atI L k = some P) (h1 : Ft [P] = .ok (.lst (l.map .int), true)) (hc : (k : Int) ∈ Ks ∨ isort (R.take l.length) ≠ isort l) : tdI Ft r_ [.val (.tup [.str w, .tup L]), .val O, .val (.tup (R.map .int)), .own (Ks.map .int), s4, .val (.int k), s6] = .ok .nx [.val (.tup [.str w, .tup L]), .val O, .val (.tup (R.map .int)), .own (Ks.map .int), s4, .val (.int k), .val (.int (l.length : Nat))] := by
  unfold tdI
  refine (td_size h0 h1 _).trans ?_
  refine (sq_nx (ev' := [.val (.tup [.str w, .tup L]), .val O, .val (.tup (R.map .int)), .own (Ks.map .int), s4, .val (.int k), .val (.int (l.length : Nat))]) ?_).trans rfl
  refine (if_f (td_cond (n := l.length) h0 h1 |>.trans ?_)).trans rfl
  congr 1
  rcases hc with h | h
  · rw [decide_eq_true h]; rfl
  · rw [decide_eq_false h, Bool.and_false]
theorem td_yes (h0 : atI L k = some P) (hP : ∀ ps, P ≠ .lst ps) (h1 : Ft [P] = .ok (.lst (l.map .int), true)) (hc : (k : Int) ∉ Ks) (hs : isort (R.take l.length) = isort l) (hz : Ks.length ≤ 1000) {b : Bool} (hr : r_ [P, .tup ((R.take l.length).map .int)] = .ok (.bl b, false)) :
    if b then ∃ ev', tdI Ft r_ [.val (.tup [.str w, .tup L]), .val O, .val (.tup (R.map .int)), .own (Ks.map .int), s4, .val (.int k), s6] = .ok .bk ev' ∧ ev' = [.val (.tup [.str w, .tup L]), .val O, .val (.tup ((R.drop l.length).map .int)), .own ((Ks ++ [(k : Int)]).map .int), s4, .val (.int k), .val (.int (l.length : Nat))]
    else ∃ ev', tdI Ft r_ [.val (.tup [.str w, .tup L]), .val O, .val (.tup (R.map .int)), .own (Ks.map .int), s4, .val (.int k), s6] = .ok (.rt (.bl false, false)) ev' := by
  have c1 : cutP (R.map PV.int) none (some ((l.length : Nat) : Int)) = (R.take l.length).map .int := by rw [cutn, List.map_take]
  have c2 : cutP (R.map PV.int) (some ((l.length : Nat) : Int)) none = (R.drop l.length).map .int := by rw [cut_suf, List.map_drop]
  have z : (Ks.map PV.int).length < 16777216 := by rw [List.length_map]; omega
  have e1 : (Ks ++ [(k : Int)]).map PV.int = Ks.map .int ++ [.int (k : Nat)] := by simp
  rw [e1]
  have hh := td_cond (O := O) (w := w) (Ks := Ks) (R := R) (s4 := s4) (n := l.length) h0 h1
  rw [decide_eq_false hc, decide_eq_true hs] at hh
  cases b with
  | true =>
    refine ⟨_, ?_, rfl⟩
    unfold tdI
    refine (td_size h0 h1 _).trans ?_
    refine sq_bk ((if_t hh).trans ?_)
    generalize R.map PV.int = Rv at *
    generalize (R.take l.length).map PV.int = Tv at *
    generalize (R.drop l.length).map PV.int = Dv at *
    generalize Ks.map PV.int = Kv at *
    have z' : Kv.length < 16777216 := z
    simp [at1, h0, c1, c2, hr, z']
  | false =>
    refine ⟨[.val (.tup [.str w, .tup L]), .val O, .val (.tup (R.map .int)), .own (Ks.map .int), s4, .val (.int k), .val (.int (l.length : Nat))], ?_⟩
    unfold tdI
    refine (td_size h0 h1 _).trans ?_
    refine sq_rt ((if_t hh).trans ?_)
    generalize R.map PV.int = Rv at *
    generalize (R.take l.length).map PV.int = Tv at *
    generalize (R.drop l.length).map PV.int = Dv at *
    generalize Ks.map PV.int = Kv at *
    simp [at1, h0, c1, hr]
end
theorem isort_pe {a b : List Int} (h : a.Perm b) : isort a = isort b := isort_of ((isort_perm a).trans h) (isort_sorted a)
theorem isort_eq {a b : List Int} : isort a = isort b ↔ a.Perm b := ⟨fun h => (isort_perm a).symm.trans (h ▸ isort_perm b), isort_pe⟩
def nI (K : List Nat) : List Int := K.map fun (k : Nat) => (k : Int)
theorem nI_mem {K : List Nat} {k : Nat} : (k : Int) ∈ nI K ↔ k ∈ K := by
  unfold nI
  rw [List.mem_map]
  constructor
  · rintro ⟨j, h, e⟩
    have : j = k := by omega
    rw [← this]; exact h
  · intro h; exact ⟨k, h, rfl⟩
theorem enc_getG {ps : List G} {k : Nat} (h : k < ps.length) : atI (encs ps) (k : Nat) = some (enc (getG ps k)) := atI_nat (by
  rw [encs_map, List.getElem?_map, List.getElem?_eq_getElem h]
  unfold getG
  rw [List.getD_eq_getElem?_getD, List.getElem?_eq_getElem h]; rfl)
theorem td_loop {Ft r_ : Fn} {O : PV} {w : Str} {ps : List G} {R : List Int} {K : List Nat} {s4 : Pv.Slot} (hF : ∀ g ∈ ps, Ft [enc g] = .ok (.lst ((lea g).map .int), true)) (hz : K.length ≤ 1000)
    (hr : ∀ k, k < ps.length → mtc R (getG ps k) → ∃ b : Bool, r_ [enc (getG ps k), .tup ((R.take (lea (getG ps k)).length).map .int)] = .ok (.bl b, false) ∧ (b = true ↔ tol (getG ps k) (R.take (lea (getG ps k)).length))) :
    ∀ (ks : List Nat) (s5 s6 : Pv.Slot), (∀ k ∈ ks, k < ps.length) →
    ((∀ k ∈ ks, k ∉ K → ¬ mtc R (getG ps k)) ∧ ∃ s5' s6', loop (tName 5) (tdI Ft r_) (ks.map fun k => PV.int (k : Nat)) [.val (.tup [.str w, .tup (encs ps)]), .val O, .val (.tup (R.map .int)), .own ((nI K).map .int), s4, s5, s6] = .ok .nx [.val (.tup [.str w, .tup (encs ps)]), .val O, .val (.tup (R.map .int)), .own ((nI K).map .int), s4, s5', s6']) ∨
    (∃ k ∈ ks, k ∉ K ∧ mtc R (getG ps k) ∧ tol (getG ps k) (R.take (lea (getG ps k)).length) ∧ ∃ s5' s6', loop (tName 5) (tdI Ft r_) (ks.map fun k => PV.int (k : Nat)) [.val (.tup [.str w, .tup (encs ps)]), .val O, .val (.tup (R.map .int)), .own ((nI K).map .int), s4, s5, s6] = .ok .nx [.val (.tup [.str w, .tup (encs ps)]), .val O, .val (.tup ((R.drop (lea (getG ps k)).length).map .int)), .own ((nI (K ++ [k])).map .int), s4, s5', s6']) ∨
    (∃ k ∈ ks, k ∉ K ∧ mtc R (getG ps k) ∧ ¬ tol (getG ps k) (R.take (lea (getG ps k)).length) ∧ ∃ ev', loop (tName 5) (tdI Ft r_) (ks.map fun k => PV.int (k : Nat)) [.val (.tup [.str w, .tup (encs ps)]), .val O, .val (.tup (R.map .int)), .own ((nI K).map .int), s4, s5, s6] = .ok (.rt (.bl false, false)) ev')
  | [], s5, s6, _ => .inl ⟨fun k hk => (by cases hk), s5, s6, rfl⟩
  | k :: ks, s5, s6, hk => by
    have hk0 := hk k (by simp)
    have h0 := enc_getG hk0
    have h1 := hF _ (getG_mem hk0)
    have et : tName 5 (.int (k : Nat)) [.val (.tup [.str w, .tup (encs ps)]), .val O, .val (.tup (R.map .int)), .own ((nI K).map .int), s4, s5, s6] = some [.val (.tup [.str w, .tup (encs ps)]), .val O, .val (.tup (R.map .int)), .own ((nI K).map .int), s4, .val (.int (k : Nat)), s6] := rfl
    by_cases c : k ∉ K ∧ mtc R (getG ps k)
    · obtain ⟨c1, c2⟩ := c
      obtain ⟨b, hb, hb2⟩ := hr k hk0 c2
      have := td_yes (r_ := r_) (O := O) (w := w) (Ks := nI K) (R := R) (s4 := s4) (s6 := s6) h0 (enc_ne _) h1 (fun z => c1 (nI_mem.mp z)) (isort_eq.mpr c2) (by unfold nI; rw [List.length_map]; exact hz) hb
      cases b with
      | true =>
        rw [if_pos rfl] at this
        obtain ⟨ev', e, rfl⟩ := this
        refine .inr (.inl ⟨k, by simp, c1, c2, hb2.mp rfl, .val (.int (k : Nat)), .val (.int ((lea (getG ps k)).length : Nat)), ?_⟩)
        have en : nI (K ++ [k]) = nI K ++ [(k : Int)] := by unfold nI; rw [List.map_append]; rfl
        rw [List.map_cons, loop, en]
        simp only [et, e]
      | false =>
        rw [if_neg (by decide)] at this
        obtain ⟨ev', e⟩ := this
        refine .inr (.inr ⟨k, by simp, c1, c2, fun z => (by have := hb2.mpr z; cases this), ev', ?_⟩)
        rw [List.map_cons, loop]
        simp only [et, e]
    · have hc : (k : Int) ∈ nI K ∨ isort (R.take (lea (getG ps k)).length) ≠ isort (lea (getG ps k)) := by
        by_cases q : k ∈ K
        · exact .inl (nI_mem.mpr q)
        · exact .inr fun z => c ⟨q, isort_eq.mp z⟩
      have e := td_no (r_ := r_) (O := O) (w := w) (Ks := nI K) (R := R) (s4 := s4) (s6 := s6) h0 h1 hc
      have step : loop (tName 5) (tdI Ft r_) ((k :: ks).map fun k => PV.int (k : Nat)) [.val (.tup [.str w, .tup (encs ps)]), .val O, .val (.tup (R.map .int)), .own ((nI K).map .int), s4, s5, s6] = loop (tName 5) (tdI Ft r_) (ks.map fun k => PV.int (k : Nat)) [.val (.tup [.str w, .tup (encs ps)]), .val O, .val (.tup (R.map .int)), .own ((nI K).map .int), s4, .val (.int (k : Nat)), .val (.int ((lea (getG ps k)).length : Nat))] := by
        rw [List.map_cons, loop]
        simp only [et, e]
      rw [step]
      rcases td_loop hF hz hr ks (.val (.int (k : Nat))) (.val (.int ((lea (getG ps k)).length : Nat))) (fun j hj => hk j (by simp [hj])) with ⟨q1, q2⟩ | ⟨j, q1, q2⟩ | ⟨j, q1, q2⟩
      · refine .inl ⟨fun j hj hjK => ?_, q2⟩
        rcases List.mem_cons.mp hj with rfl | hj
        · exact fun z => c ⟨hjK, z⟩
        · exact q1 j hj hjK
      · exact .inr (.inl ⟨j, by simp [q1], q2⟩)
      · exact .inr (.inr ⟨j, by simp [q1], q2⟩)
theorem nd_len {K : List Nat} {n : Nat} (nd : K.Nodup) (lt : ∀ k ∈ K, k < n) : K.length ≤ n := by
  refine Classical.byContradiction fun z => ?_
  have hp := nd_perm (l := K) (m := List.range n) nd (fun k hk => List.mem_range.mpr (lt k hk)) (by rw [List.length_range]; omega)
  rw [hp.length_eq, List.length_range] at z; omega
theorem td_rng {O : PV} {w : Str} {ps : List G} {s2 s3 s4 s5 s6 : Pv.Slot} (hl : ps.length ≤ 24) : mRng1 (kCons (look (eCall gLen (kCons (look (eOp gIx (pVar 0) (look (eC (.int 1))))) (Pv.ret [])))) (Pv.ret [])) [.val (.tup [.str w, .tup (encs ps)]), .val O, s2, s3, s4, s5, s6] = .ok ((List.range ps.length).map fun k => PV.int (k : Nat)) [.val (.tup [.str w, .tup (encs ps)]), .val O, s2, s3, s4, s5, s6] := by
  have := rng1_nat (m := kCons (look (eCall gLen (kCons (look (eOp gIx (pVar 0) (look (eC (.int 1))))) (Pv.ret [])))) (Pv.ret [])) (n := ps.length) (ev := [.val (.tup [.str w, .tup (encs ps)]), .val O, s2, s3, s4, s5, s6]) (ev' := [.val (.tup [.str w, .tup (encs ps)]), .val O, s2, s3, s4, s5, s6]) (by
    rw [← encs_len ps]
    generalize encs ps = L
    simp [at1]) (by omega)
  rw [this]
  unfold rgP
  simp
theorem td_body {Ft r_ : Fn} {ev ev1 ev' : SL} {L : List PV} {fl : Fl} (rg : mRng1 (kCons (look (eCall gLen (kCons (look (eOp gIx (pVar 0) (look (eC (.int 1))))) (Pv.ret [])))) (Pv.ret [])) ev = .ok L ev) (e : loop (tName 5) (tdI Ft r_) L ev = .ok fl ev') : tdO Ft r_ ev = .ok fl ev' := by
  show sq (bnd (mRng1 _) (loop (tName 5) (tdI Ft r_))) (Pv.ret .nx) _ = _
  unfold Pv.sq
  rw [bnd_ok rg, e]
  cases fl <;> rfl
theorem td_step {Ft r_ : Fn} {O : PV} {w : Str} {ps : List G} {x : Bool} {o : List Int} (hF : ∀ g ∈ ps, Ft [enc g] = .ok (.lst ((lea g).map .int), true)) (hl : ps.length ≤ 24) (hn : (leas ps).Nodup) (ne : NE ps)
    (hr : ∀ (R : List Int) k, k < ps.length → mtc R (getG ps k) → ∃ b : Bool, r_ [enc (getG ps k), .tup ((R.take (lea (getG ps k)).length).map .int)] = .ok (.bl b, false) ∧ (b = true ↔ tol (getG ps k) (R.take (lea (getG ps k)).length)))
    {j : Nat} {K : List Nat} {R : List Int} (s4 s5 s6 : Pv.Slot) (h : j < ps.length) (f : Fnd w ps o j K R) :
    ((¬ tol (.node w ps x) o) ∧ ∃ ev', tdO Ft r_ [.val (.tup [.str w, .tup (encs ps)]), .val O, .val (.tup (R.map .int)), .own ((nI K).map .int), s4, s5, s6] = .ok (.rt (.bl false, false)) ev') ∨
    ∃ K' R' s5' s6', Fnd w ps o (j + 1) K' R' ∧ tdO Ft r_ [.val (.tup [.str w, .tup (encs ps)]), .val O, .val (.tup (R.map .int)), .own ((nI K).map .int), s4, s5, s6] = .ok .nx [.val (.tup [.str w, .tup (encs ps)]), .val O, .val (.tup (R'.map .int)), .own ((nI K').map .int), s4, s5', s6'] := by
  have hKl := nd_len f.nd f.lt
  have rg := td_rng (O := O) (w := w) (ps := ps) (s2 := .val (.tup (R.map .int))) (s3 := .own ((nI K).map .int)) (s4 := s4) (s5 := s5) (s6 := s6) hl
  rcases td_loop (s4 := s4) hF (by omega) (hr R) (List.range ps.length) s5 s6 (fun k hk => List.mem_range.mp hk) (O := O) (w := w) (K := K) with ⟨q1, s5', s6', q2⟩ | ⟨k, hk, q1, q2, q3, s5', s6', q4⟩ | ⟨k, hk, q1, q2, q3, ev', q4⟩
  · exact .inr ⟨K, R, s5', s6', fnd_none f h fun k hk => q1 k (List.mem_range.mpr hk), td_body (ev1 := []) rg q2⟩
  · exact .inr ⟨_, _, s5', s6', fnd_some f hn ne h (List.mem_range.mp hk) q1 q2 q3, td_body (ev1 := []) rg q4⟩
  · exact .inl ⟨fnd_bad f hn ne h (List.mem_range.mp hk) q2 q3, ev', td_body (ev1 := []) rg q4⟩
theorem td_outer {Ft r_ : Fn} {O : PV} {w : Str} {ps : List G} {x : Bool} {o : List Int} (hF : ∀ g ∈ ps, Ft [enc g] = .ok (.lst ((lea g).map .int), true)) (hl : ps.length ≤ 24) (hn : (leas ps).Nodup) (ne : NE ps)
    (hr : ∀ (R : List Int) k, k < ps.length → mtc R (getG ps k) → ∃ b : Bool, r_ [enc (getG ps k), .tup ((R.take (lea (getG ps k)).length).map .int)] = .ok (.bl b, false) ∧ (b = true ↔ tol (getG ps k) (R.take (lea (getG ps k)).length))) :
    ∀ (M : List PV) (j : Nat) (K : List Nat) (R : List Int) (s4 s5 s6 : Pv.Slot), j + M.length ≤ ps.length → Fnd w ps o j K R →
    ((¬ tol (.node w ps x) o) ∧ ∃ ev', loop (tName 4) (tdO Ft r_) M [.val (.tup [.str w, .tup (encs ps)]), .val O, .val (.tup (R.map .int)), .own ((nI K).map .int), s4, s5, s6] = .ok (.rt (.bl false, false)) ev') ∨
    ∃ K' R' s4' s5' s6', Fnd w ps o (j + M.length) K' R' ∧ loop (tName 4) (tdO Ft r_) M [.val (.tup [.str w, .tup (encs ps)]), .val O, .val (.tup (R.map .int)), .own ((nI K).map .int), s4, s5, s6] = .ok .nx [.val (.tup [.str w, .tup (encs ps)]), .val O, .val (.tup (R'.map .int)), .own ((nI K').map .int), s4', s5', s6'] := by
  intro M
  induction M with
  | nil => intro j K R s4 s5 s6 _ f; exact .inr ⟨K, R, s4, s5, s6, f, rfl⟩
  | cons p M ih =>
    intro j K R s4 s5 s6 h f
    rw [List.length_cons] at h
    have et : tName 4 p [.val (.tup [.str w, .tup (encs ps)]), .val O, .val (.tup (R.map .int)), .own ((nI K).map .int), s4, s5, s6] = some [.val (.tup [.str w, .tup (encs ps)]), .val O, .val (.tup (R.map .int)), .own ((nI K).map .int), .val p, s5, s6] := rfl
    rcases td_step (x := x) (O := O) hF hl hn ne hr (.val p) s5 s6 (by omega) f with ⟨nt, ev', q⟩ | ⟨K', R', s5', s6', f2, q⟩
    · exact .inl ⟨nt, ev', loop_rt et q⟩
    · have step : loop (tName 4) (tdO Ft r_) (p :: M) [.val (.tup [.str w, .tup (encs ps)]), .val O, .val (.tup (R.map .int)), .own ((nI K).map .int), s4, s5, s6] = loop (tName 4) (tdO Ft r_) M [.val (.tup [.str w, .tup (encs ps)]), .val O, .val (.tup (R'.map .int)), .own ((nI K').map .int), .val p, s5', s6'] := loop_nx et q
      rw [step, List.length_cons, show j + (M.length + 1) = j + 1 + M.length by omega]
      exact ih (j + 1) K' R' _ _ _ (by omega) f2
section
variable {w : Str} {L : List PV} {O : PV} {s4 s5 s6 : Pv.Slot} {R Ks : List Int}
def tdE1 : M Fl := mIfS (mOr (blOf (eOp cLt (look (eCall gLen (kCons (pVar 3) (Pv.ret [])))) (look (eCall gLen (kCons (look (eOp gIx (pVar 0) (look (eC (.int 1))))) (Pv.ret [])))))) (blOf (eOp cGt (look (eCall gLen (kCons (pVar 2) (Pv.ret [])))) (look (eC (.int 0)))))) (sq (bnd (eC (.bl false)) mRet) (Pv.ret .nx)) (Pv.ret .nx)
def tdE2 : M Fl := bnd (vOr (eOp (gEq false) (look (eOp gIx (pVar 0) (look (eC (.int 0))))) (look (eC (.str "any")))) (vOr (eOp (gEq false) (pVar 3) (look (eCall gSorted (kCons (pVar 3) (Pv.ret []))))) (eOp (gEq false) (pVar 3) (look (mRevA (look (eCall gSorted (kCons (pVar 3) (Pv.ret []))))))))) mRet
theorem tde1 : tdE1 [.val (.tup [.str w, .tup L]), .val O, .val (.tup (R.map .int)), .own (Ks.map .int), s4, s5, s6] = .ok (if Ks.length < L.length ∨ R ≠ [] then .rt (.bl false, false) else .nx) [.val (.tup [.str w, .tup L]), .val O, .val (.tup (R.map .int)), .own (Ks.map .int), s4, s5, s6] := by
  have l1 : (Ks.map PV.int).length = Ks.length := List.length_map _
  have l2 : (R.map PV.int).length = R.length := List.length_map _
  have r0 : R ≠ [] ↔ 0 < R.length := List.length_pos_iff.symm
  unfold tdE1
  generalize hn : Ks.length = n at *
  generalize hm : R.length = m at *
  generalize Ks.map PV.int = K at *
  generalize R.map PV.int = Rv at *
  by_cases c : n < L.length
  · have : (n : Int) < (L.length : Int) := by omega
    simp [at1, l1, l2, c, this]
  · have : ¬ (n : Int) < (L.length : Int) := by omega
    by_cases c2 : 0 < m
    · have q := r0.mpr c2
      simp [at1, l1, l2, c, this, c2, q]
    · have q : ¬ R ≠ [] := fun z => c2 (r0.mp z)
      simp [at1, l1, l2, c, this, c2, q]
theorem tde2 : tdE2 [.val (.tup [.str w, .tup L]), .val O, .val (.tup (R.map .int)), .own (Ks.map .int), s4, s5, s6] = .ok (.rt (.bl (decide (w = "any") || (decide (Ks = isort Ks) || decide (Ks = (isort Ks).reverse))), false)) [.val (.tup [.str w, .tup L]), .val O, .val (.tup (R.map .int)), .own (Ks.map .int), s4, s5, s6] := by
  have g1 := gEq_lstI false Ks (isort Ks)
  have g2 := gEq_lstI false Ks (isort Ks).reverse
  have s1 : gSorted [.lst (Ks.map PV.int)] = some (.lst ((isort Ks).map .int), true) := by rw [gSorted_l, intsP_map']; rfl
  rw [List.map_reverse] at g2
  unfold tdE2
  generalize Ks.map PV.int = K at *
  generalize (isort Ks).map PV.int = V at *
  generalize R.map PV.int = Rv at *
  by_cases c : w = "any"
  · simp [at0, c]
  · by_cases c2 : Ks = isort Ks
    · rw [decide_eq_true c2] at g1 ⊢
      simp [at0, c, g1, s1]
    · rw [decide_eq_false c2] at g1 ⊢
      by_cases c3 : Ks = (isort Ks).reverse
      · rw [decide_eq_true c3] at g2 ⊢
        simp [at0, c, g1, g2, s1]
      · rw [decide_eq_false c3] at g2 ⊢
        simp [at0, c, g1, g2, s1]
end
theorem nI_sort {K : List Nat} {n : Nat} (p : K.Perm (List.range n)) : isort (nI K) = nI (List.range n) := by
  symm
  refine isort_of (by unfold nI; exact (p.map _).symm) ?_
  unfold nI
  rw [List.pairwise_map]
  exact List.pairwise_lt_range.imp fun h => by omega
theorem nI_inj {K M : List Nat} (h : nI K = nI M) : K = M := by
  unfold nI at h
  exact (List.map_inj_right (fun a b e => by omega)).mp h
theorem told_go {Ft r_ : Fn} {w : Str} {ps : List G} {o : List Int} (hF : ∀ g ∈ ps, Ft [enc g] = .ok (.lst ((lea g).map .int), true)) (hl : ps.length ≤ 24) (hn : (leas ps).Nodup) (ne : NE ps)
    (hr : ∀ (R : List Int) k, k < ps.length → mtc R (getG ps k) → ∃ b : Bool, r_ [enc (getG ps k), .tup ((R.take (lea (getG ps k)).length).map .int)] = .ok (.bl b, false) ∧ (b = true ↔ tol (getG ps k) (R.take (lea (getG ps k)).length))) :
    ∃ b : Bool, runF 7 2 (sv__law_told Ft r_) [.tup [.str w, .tup (encs ps)], .tup (o.map .int)] = .ok (.bl b, false) ∧ (b = true ↔ tol (.node w ps false) o) := by
  have rg := td_rng (O := .tup (o.map .int)) (w := w) (ps := ps) (s2 := .val (.tup (o.map .int))) (s3 := .own []) (s4 := .no) (s5 := .no) (s6 := .no) hl
  have pre : ∀ m : M Fl, sq (mIfS (tTru (look (mIsi "int" (pVar 0)))) (sq (bnd (eOp (gEq false) (look (eCall gTuple (kCons (pVar 1) (Pv.ret [])))) (look (mTup (aCons (eVar 0) (Pv.ret []))))) mRet) (Pv.ret .nx)) (Pv.ret .nx)) (sq (bnd (eCall gTuple (kCons (pVar 1) (Pv.ret []))) (setR 2)) (sq (bnd (mLst (Pv.ret [])) (setR 3)) m)) [.val (.tup [.str w, .tup (encs ps)]), .val (.tup (o.map .int)), .no, .no, .no, .no, .no] = m [.val (.tup [.str w, .tup (encs ps)]), .val (.tup (o.map .int)), .val (.tup (o.map .int)), .own [], .no, .no, .no] := fun m => by
    generalize encs ps = L
    generalize o.map PV.int = V
    refine (sq_nx (ev' := [.val (.tup [.str w, .tup L]), .val (.tup V), .no, .no, .no, .no, .no]) (by simp)).trans ?_
    refine (sq_nx (ev' := [.val (.tup [.str w, .tup L]), .val (.tup V), .val (.tup V), .no, .no, .no, .no]) (by simp)).trans ?_
    exact sq_nx (by simp)
  have hML : ((List.range ps.length).map fun k => PV.int (k : Nat)).length = ps.length := by rw [List.length_map, List.length_range]
  generalize ((List.range ps.length).map fun k => PV.int (k : Nat)) = M at *
  rcases td_outer (x := false) (O := .tup (o.map .int)) hF hl hn ne hr M 0 [] o .no .no .no (by omega) (fnd0 w ps o) with ⟨nt, ev', q⟩ | ⟨K, R, s4, s5, s6, f, q⟩
  · refine ⟨false, ?_, ⟨fun z => (by cases z), fun z => absurd z nt⟩⟩
    refine runF_ok (ev' := ev') ?_ rfl (by decide)
    unfold sv__law_told
    refine (pre _).trans ?_
    exact sq_rt ((bnd_ok rg).trans q)
  · rw [Nat.zero_add, hML] at f
    have fe := fnd_end (x := false) f
    have e1 := tde1 (w := w) (L := encs ps) (O := .tup (o.map .int)) (s4 := s4) (s5 := s5) (s6 := s6) (R := R) (Ks := nI K)
    have e2 := tde2 (w := w) (L := encs ps) (O := .tup (o.map .int)) (s4 := s4) (s5 := s5) (s6 := s6) (R := R) (Ks := nI K)
    have lk : (nI K).length = K.length := List.length_map _
    rw [encs_len, lk] at e1
    have run : ∀ {fl : PV} {ev' : SL}, sq tdE1 (sq tdE2 (Pv.ret .nx)) [.val (.tup [.str w, .tup (encs ps)]), .val (.tup (o.map .int)), .val (.tup (R.map .int)), .own ((nI K).map .int), s4, s5, s6] = .ok (.rt (fl, false)) ev' → runF 7 2 (sv__law_told Ft r_) [.tup [.str w, .tup (encs ps)], .tup (o.map .int)] = .ok (fl, false) := fun {fl ev'} h => by
      refine runF_ok (ev' := ev') ?_ rfl (by decide)
      unfold sv__law_told
      refine (pre _).trans ?_
      exact (sq_nx ((bnd_ok rg).trans q)).trans h
    by_cases c : K.length < ps.length ∨ R ≠ []
    · rw [if_pos c] at e1
      refine ⟨false, run (sq_rt e1), ⟨fun z => (by cases z), fun z => ?_⟩⟩
      obtain ⟨z1, z2, _⟩ := fe.mp z
      rcases c with c | c
      · omega
      · exact absurd z2 c
    · rw [if_neg c] at e1
      refine ⟨_, run ((sq_nx e1).trans (sq_rt e2)), ?_⟩
      have hR : R = [] := Classical.byContradiction fun z => c (.inr z)
      have hK : ps.length ≤ K.length := Nat.le_of_not_lt fun z => c (.inl z)
      have pk : K.Perm (List.range ps.length) := nd_perm f.nd (fun k hk => List.mem_range.mpr (f.lt k hk)) (by rw [List.length_range]; exact hK)
      have hlen : K.length = ps.length := by rw [pk.length_eq, List.length_range]
      rw [fe, Bool.or_eq_true, Bool.or_eq_true, decide_eq_true_eq, decide_eq_true_eq, decide_eq_true_eq, nI_sort pk]
      have r1 : nI K = nI (List.range ps.length) ↔ K = List.range ps.length := ⟨nI_inj, fun h => by rw [h]⟩
      have r2 : nI K = (nI (List.range ps.length)).reverse ↔ K = (List.range ps.length).reverse := by
        have : (nI (List.range ps.length)).reverse = nI (List.range ps.length).reverse := by unfold nI; rw [List.map_reverse]
        rw [this]
        exact ⟨nI_inj, fun h => by rw [h]⟩
      rw [r1, r2]
      exact ⟨fun h => ⟨hlen, hR, h⟩, fun h => h.2.2⟩
structure Ok (g : G) : Prop where
  t : Fit g
  n : (lea g).Nodup
theorem Ok.part {w : Str} {ps : List G} {x : Bool} (h : Ok (.node w ps x)) {g : G} (hg : g ∈ ps) : Ok g := ⟨h.t.parts.mem hg, nd_mem (by have := h.n; rwa [lea] at this) g hg⟩
theorem things40 {g : G} (h : Fit g) : fn__law_things 40 [enc g] = .ok (.lst ((lea g).map .int), true) := things2_ok 40 g (by have := h.d; omega) (by have := h.n; omega)
theorem told_ok : ∀ (d : Nat) (g : G) (o : List Int), dep g < d → Ok g → ∃ b : Bool, fn__law_told d [enc g, .tup (o.map .int)] = .ok (.bl b, false) ∧ (b = true ↔ tol g o)
  | 0, g, o, h, _ => by omega
  | d + 1, .leaf i, o, h, _ => by
    refine ⟨decide (o = [i]), ?_, by rw [tol, decide_eq_true_eq]⟩
    have g := gEq_tupI false o [i]
    have e : ([i] : List Int).map PV.int = [.int i] := rfl
    rw [e] at g
    rw [un__law_told, show enc (.leaf i) = .int i by rw [enc]]
    generalize o.map PV.int = V at *
    unfold sv__law_told
    simp [g]
  | d + 1, .node w ps x, o, h, hk => by
    obtain ⟨rfl, f1, f2, f3⟩ := form_node hk.t.f
    rw [dep] at h
    rw [un__law_told, enc_two]
    have hn := hk.n
    rw [lea] at hn
    refine told_go (fun g hg => things40 (hk.part hg).t) hk.t.parts.len hn (NE_of f3) fun R k hk' hm => ?_
    exact told_ok d (getG ps k) _ (by have := dep_mem (getG_mem hk'); omega) (hk.part (getG_mem hk'))
theorem told40 {g : G} (h : Ok g) (o : List Int) : ∃ b : Bool, fn__law_told 40 [enc g, .tup (o.map .int)] = .ok (.bl b, false) ∧ (b = true ↔ tol g o) := told_ok 40 g o (by have := h.t.d; omega) h
end K22
set_option Elab.async false
set_option linter.all false
set_option maxRecDepth 100000
namespace K22
open Pv PySem PySem.Spec L2
open PyProof.Rows hiding St
def sv__law_digits : M Fl := sq (bnd (mLst (Pv.ret [])) (setR 2)) (sq (bnd (mSeq (eVar 1)) (loop (tName 3) (sq (mMet 2 (aCons (eOp aMod (look (eCall gInt (kCons (pVar 0) (Pv.ret [])))) (pVar 3)) (Pv.ret [])) gAppend) (sq (bnd (eOp aDiv (pVar 0) (pVar 3)) (setR 0)) (Pv.ret .nx))))) (sq (mRetV 2) (Pv.ret .nx)))
theorem un__law_digits : fn__law_digits = runF 4 2 (sv__law_digits ) := rfl
mutual
theorem tol_arr : ∀ (g : G) (o : List Int), form g = true → (tol (arr g) o ↔ tol g o)
  | .leaf i, o, _ => by rw [arr]
  | .node w ps x, o, h => by
    obtain ⟨rfl, f1, f2, f3⟩ := form_node h
    rw [arr_node]
    have key := tol_same (w := w) (x := false) (y := false) (tols_arrs ps f3) o
    rw [← key]
    unfold put
    by_cases hw : w = "any"
    · subst hw
      rw [if_pos rfl]
      exact tol_anyP (sortG_perm _) o
    · rw [if_neg hw]
      split
      · exact tol_rowR hw o
      · exact Iff.rfl
theorem tols_arrs : ∀ (gs : List G), forms gs = true → ∀ os, tols (arrs gs) os ↔ tols gs os
  | [], _, os => by rw [arrs]
  | g :: gs, h, os => by
    rw [forms_cons, Bool.and_eq_true] at h
    rw [arrs, tols, tols]
    constructor
    · rintro ⟨a, r, e, h1, h2⟩; exact ⟨a, r, e, (tol_arr g a h.1).mp h1, (tols_arrs gs h.2 r).mp h2⟩
    · rintro ⟨a, r, e, h1, h2⟩; exact ⟨a, r, e, (tol_arr g a h.1).mpr h1, (tols_arrs gs h.2 r).mpr h2⟩
end
theorem TogA.arr {T : List (List Int)} {g q : G} (t : TogA T g q) : TogA T g (K22.arr q) := ⟨fun o => by rw [tol_arr q o t.f, t.s], arr_form q t.f, (arr_lea q).trans t.l⟩
theorem Ok.arr {g : G} (h : Ok g) : Ok (K22.arr g) := ⟨⟨arr_form g h.t.f, by rw [(arr_lea g).length_eq]; exact h.t.n⟩, (arr_lea g).nodup_iff.mpr h.n⟩
theorem TogA.ok {T : List (List Int)} {g q : G} (t : TogA T g q) (h : Ok g) : Ok q := ⟨⟨t.f, by rw [t.l.length_eq]; exact h.t.n⟩, t.l.nodup_iff.mpr h.n⟩
theorem Tree.ok {n : Nat} {g : G} (t : Tree n g) : Ok g := ⟨⟨t.f, by have := t.len; have := t.n2; omega⟩, t.nd⟩
def dg : Int → List Int → List Int
  | _, [] => []
  | c, s :: r => c % s :: dg (c / s) r
theorem dg_len : ∀ (c : Int) (l : List Int), (dg c l).length = l.length
  | _, [] => rfl
  | c, s :: r => by rw [dg, List.length_cons, List.length_cons, dg_len]
def dgB : M Fl := sq (mMet 2 (aCons (eOp aMod (look (eCall gInt (kCons (pVar 0) (Pv.ret [])))) (pVar 3)) (Pv.ret [])) gAppend) (sq (bnd (eOp aDiv (pVar 0) (pVar 3)) (setR 0)) (Pv.ret .nx))
theorem dg_step {c s : Int} {V : PV} {A : List PV} (h : 0 < s ∧ s < 1073741824) (hz : A.length ≤ 1000) : dgB [.val (.int c), .val V, .own A, .val (.int s)] = .ok .nx [.val (.int (c / s)), .val V, .own (A ++ [.int (c % s)]), .val (.int s)] := by
  have z : A.length < 16777216 := by omega
  unfold dgB
  simp [h.1, h.2, z]
theorem dg_loop {V : PV} : ∀ (l : List Int) (c : Int) (A : List Int) (s3 : Pv.Slot), (∀ s ∈ l, 0 < s ∧ s < 1073741824) → A.length + l.length ≤ 1000 → ∃ c' s3', loop (tName 3) dgB (l.map .int) [.val (.int c), .val V, .own (A.map .int), s3] = .ok .nx [.val (.int c'), .val V, .own ((A ++ dg c l).map .int), s3']
  | [], c, A, s3, _, _ => ⟨c, s3, by rw [dg, List.append_nil]; rfl⟩
  | s :: l, c, A, s3, h, hz => by
    rw [List.length_cons] at hz
    obtain ⟨c', s3', e⟩ := dg_loop (V := V) l (c / s) (A ++ [c % s]) (.val (.int s)) (fun x hx => h x (by simp [hx])) (by rw [List.length_append, List.length_singleton]; omega)
    refine ⟨c', s3', ?_⟩
    have et : tName 3 (.int s) [.val (.int c), .val V, .own (A.map .int), s3] = some [.val (.int c), .val V, .own (A.map .int), .val (.int s)] := rfl
    have eb := dg_step (c := c) (V := V) (A := A.map .int) (h s (by simp)) (by rw [List.length_map]; omega)
    rw [List.map_cons]
    refine (loop_nx et eb).trans ?_
    rw [List.map_append] at e
    rw [dg, show A ++ c % s :: dg (c / s) l = A ++ [c % s] ++ dg (c / s) l by simp]
    exact e
theorem dg_1 {c c' : Int} {L D : List PV} {s3 : Pv.Slot} (e : loop (tName 3) dgB L [.val (.int c), .val (.lst L), .own [], .no] = .ok .nx [.val (.int c'), .val (.lst L), .own D, s3]) : runF 4 2 sv__law_digits [.int c, .lst L] = .ok (.lst D, true) := by
  refine runF_ok (ev' := [.val (.int c'), .val (.lst L), .own D, s3]) ?_ rfl (by decide)
  unfold sv__law_digits
  refine (sq_nx (ev' := [.val (.int c), .val (.lst L), .own [], .no]) (by simp)).trans ?_
  refine (sq_nx (ev' := [.val (.int c'), .val (.lst L), .own D, s3]) ?_).trans (sq_rt (by simp))
  show bnd (mSeq (eVar 1)) (loop (tName 3) dgB) _ = _
  exact (bnd_ok (a := L) (ev' := [.val (.int c), .val (.lst L), .own [], .no]) (by simp)).trans e
theorem digits_ok (c : Int) (l : List Int) (h : ∀ s ∈ l, 0 < s ∧ s < 1073741824) (hz : l.length ≤ 1000) : fn__law_digits [.int c, .lst (l.map .int)] = .ok (.lst ((dg c l).map .int), true) := by
  obtain ⟨c', s3', e⟩ := dg_loop (V := .lst (l.map .int)) l c [] .no h (by simpa using hz)
  rw [un__law_digits]
  exact dg_1 e
theorem dg_get : ∀ {l : List Int} {c : Int} {k : Nat} {s : Int}, l[k]? = some s → (∀ s ∈ l, 0 < s) → ∃ x, atI ((dg c l).map PV.int) (k : Nat) = some (.int x) ∧ 0 ≤ x ∧ x < s
  | [], c, k, s, h, _ => by cases h
  | a :: l, c, 0, s, h, hp => by
    cases h
    have := hp a (by simp)
    exact ⟨c % a, at0, Int.emod_nonneg _ (by omega), Int.emod_lt_of_pos _ this⟩
  | a :: l, c, k + 1, s, h, hp => by
    obtain ⟨x, h1, h2⟩ := dg_get (c := c / a) (k := k) (by simpa using h) (fun x hx => hp x (by simp [hx]))
    refine ⟨x, ?_, h2⟩
    have hk : k < (dg (c / a) l).length := by
      have := (List.getElem?_eq_some_iff.mp (show l[k]? = some s by simpa using h)).1
      rw [dg_len]; exact this
    rw [dg, List.map_cons]
    have e1 : ((dg (c / a) l).map PV.int)[k]? = some (.int x) := by
      have e2 : atI ((dg (c / a) l).map PV.int) (k : Nat) = ((dg (c / a) l).map PV.int)[k]? := by
        rw [List.getElem?_eq_getElem (by rw [List.length_map]; exact hk)]
        exact atI_nat (List.getElem?_eq_getElem (by rw [List.length_map]; exact hk))
      rw [← e2]; exact h1
    exact atI_nat (by rw [List.getElem?_cons_succ]; exact e1)
end K22
set_option linter.all false
set_option Elab.async false
set_option maxRecDepth 100000
set_option autoImplicit false
namespace K22
open Pv PySem PySem.Spec L2
open PyProof.Rows hiding St
end K22
set_option Elab.async false
set_option linter.all false
set_option maxRecDepth 100000
namespace K22
open Pv PySem PySem.Spec L2
open PyProof.Rows hiding St
end K22
set_option linter.all false
set_option Elab.async false
set_option maxRecDepth 100000
set_option autoImplicit false
namespace K22
open Pv PySem PySem.Spec L2
open PyProof.Rows hiding St
theorem map_nd {α β : Type} (f : α → β) {l : List α} (n : l.Nodup) (h : ∀ x ∈ l, ∀ y ∈ l, f x = f y → x = y) : (l.map f).Nodup := by
  induction l with
  | nil => simp
  | cons a l ih =>
    rw [List.nodup_cons] at n
    rw [List.map_cons, List.nodup_cons]
    refine ⟨fun z => ?_, ih n.2 fun x hx y hy => h x (by simp [hx]) y (by simp [hy])⟩
    obtain ⟨b, hb, e⟩ := List.mem_map.mp z
    have := h b (by simp [hb]) a (by simp) e
    exact n.1 (this ▸ hb)
end K22
set_option linter.all false
set_option Elab.async false
set_option maxRecDepth 100000
set_option autoImplicit false
namespace K22
open Pv PySem PySem.Spec L2
open PyProof.Rows hiding St
def grpG (l : List G) : List G := if l.length < 2 then l else [.node "any" l false]
mutual
def lf (p : Int → Bool) : G → List G
  | .leaf i => if p i then [.leaf i] else []
  | .node w ps _ => if (lfs p ps).length < least w then grpG (lfs p ps) else [.node w (lfs p ps) false]
def lfs (p : Int → Bool) : List G → List G
  | [] => []
  | g :: gs => lf p g ++ lfs p gs
end
structure Lf (p : Int → Bool) (g : G) : Prop where
  l : leas (lf p g) = (lea g).filter p
  f : forms (lf p g) = true
  t : ∀ o, sqT (lf p g) o ↔ ∃ o', tol g o' ∧ o = o'.filter p
end K22
set_option Elab.async false
set_option linter.all false
set_option maxRecDepth 100000
namespace K22
open Pv PySem PySem.Spec L2
open PyProof.Rows hiding St
end K22
set_option Elab.async false
set_option linter.all false
set_option maxRecDepth 100000
namespace K22
open Pv PySem PySem.Spec L2
open PyProof.Rows hiding St
structure Tr (g : G) : Prop where
  f : form g = true
  w : wd 24 g = true
  d : dep g < 40
  z : (lea g).length ≤ 24
  n : (lea g).Nodup
  p : ∀ i ∈ lea g, 0 ≤ i
theorem lea_sub : ∀ {ps : List G} {g : G}, g ∈ ps → (lea g).Sublist (leas ps)
  | q :: ps, g, h => by
    rw [leas]
    rcases List.mem_cons.mp h with rfl | h
    · exact List.sublist_append_left _ _
    · exact (lea_sub h).trans (List.sublist_append_right _ _)
theorem Tr.part {w : Str} {ps : List G} {x : Bool} (t : Tr (.node w ps x)) {g : G} (h : g ∈ ps) : Tr g := by
  obtain ⟨f, w', d, z, n, p⟩ := t
  obtain ⟨rfl, f1, f2, f3⟩ := form_node f
  rw [wd, Bool.and_eq_true, Bool.and_eq_true, decide_eq_true_eq] at w'
  rw [dep] at d
  rw [lea] at z n p
  have s := lea_sub h
  exact ⟨forms_all.mp f3 g h, wds_all.mp w'.2.1 g h, by have := dep_mem h; omega, by have := s.length_le; omega, n.sublist s, fun i hi => p i (s.subset hi)⟩
theorem Tr.things {g : G} (t : Tr g) : fn_things_of [enc g] = .ok (.tup ((isort (lea g)).map .int), false) := by
  have e := of_ok g t.d (by have := t.z; omega)
  rw [ct_ok g t.f t.p t.n] at e
  exact e
end K22
set_option Elab.async false
set_option linter.all false
set_option maxRecDepth 100000
namespace K22
open Pv PySem PySem.Spec L2
open PyProof.Rows hiding St
end K22
set_option Elab.async false
set_option linter.all false
set_option maxRecDepth 100000
namespace K22
open Pv PySem PySem.Spec L2
open PyProof.Rows hiding St
end K22
set_option Elab.async false
set_option linter.all false
set_option maxRecDepth 100000
namespace K22
open Pv PySem PySem.Spec L2
open PyProof.Rows hiding St
end K22
set_option Elab.async false
set_option linter.all false
set_option maxRecDepth 100000
namespace K22
open Pv PySem PySem.Spec L2
open PyProof.Rows hiding St
theorem Tree.tr {n : Nat} {g : G} (t : Tree n g) : Tr g := ⟨t.f, t.w, by have := t.d; have := t.n2; omega, by have := t.len; have := t.n2; omega, t.nd, t.nn⟩
theorem Sh.tr {g q : G} (s : Sh g q) (t : Tr g) : Tr q := ⟨s.f, s.w, by rw [s.d]; exact t.d, by rw [s.l.length_eq]; exact t.z, s.l.nodup_iff.mpr t.n, fun i hi => t.p i (s.l.mem_iff.mp hi)⟩
theorem order_of {o : List Int} {n : Nat} (h1 : 1 ≤ n) (h2 : n ≤ 24) (h : o.Perm (Pv.upTo 0 n)) : isOrder o.length o = true := by
  have hl : o.length = n := by rw [h.length_eq, upTo_len]
  rw [hl]
  unfold isOrder
  rw [decide_eq_true (by omega), Int.toNat_natCast, decide_eq_true (isort_up h)]
  rfl
structure Told (g : G) (o : List Int) : Prop where
  ex : ∃ q, form q = true ∧ arr q = arr g ∧ lea q = o
theorem Told.perm {g : G} {o : List Int} (h : Told g o) : o.Perm (lea g) := by
  obtain ⟨q, _, a, rfl⟩ := h.ex
  have h1 := (arr_lea q).symm
  rw [a] at h1
  exact h1.trans (arr_lea g)
theorem dr_step {r_ : Fn} {A : Pv.Slot} {T : PV} {c : Int} {acc l : List Int} (hT : ∀ ps, T ≠ .lst ps) (h : r_ [T, .int (c / 3 + 11)] = .ok (.tup (l.map .int), false)) (hl : acc.length + l.length ≤ 16777216) :
    sq (bnd (eOp gAdd (pVar 2) (look (eFn r_ (aCons (eVar 3) (aCons (eOp gAdd (look (eOp aDiv (pVar 1) (look (eC (.int 3))))) (look (eC (.int 11)))) (Pv.ret [])))))) (setR 2)) (Pv.ret .nx) [A, .val (.int c), .val (.tup (acc.map .int)), .val T] = .ok .nx [A, .val (.int c), .val (.tup ((acc ++ l).map .int)), .val T] := by
  simp [h, hl]
theorem dr_loop {r_ : Fn} {A : Pv.Slot} {c : Int} : ∀ (gs : List G) (acc : List Int) (s3 : Pv.Slot), (∀ g ∈ gs, ∃ q, r_ [enc g, .int (c / 3 + 11)] = .ok (.tup ((lea q).map .int), false) ∧ form q = true ∧ arr q = arr g) → acc.length + (leas gs).length ≤ 1000 →
    ∃ qs s3', loop (tName 3) (sq (bnd (eOp gAdd (pVar 2) (look (eFn r_ (aCons (eVar 3) (aCons (eOp gAdd (look (eOp aDiv (pVar 1) (look (eC (.int 3))))) (look (eC (.int 11)))) (Pv.ret [])))))) (setR 2)) (Pv.ret .nx)) (encs gs) [A, .val (.int c), .val (.tup (acc.map .int)), s3] = .ok .nx [A, .val (.int c), .val (.tup ((acc ++ leas qs).map .int)), s3'] ∧ forms qs = true ∧ arrs qs = arrs gs
  | [], acc, s3, _, _ => ⟨[], s3, by rw [encs_nil, leas, List.append_nil]; rfl, by rw [forms], rfl⟩
  | g :: gs, acc, s3, h, hz => by
    obtain ⟨q, h1, h2, h3⟩ := h g (by simp)
    rw [leas, List.length_append] at hz
    have hl : (lea q).length = (lea g).length := by
      have a := (arr_lea q).length_eq
      rw [h3] at a
      have b := (arr_lea g).length_eq
      omega
    obtain ⟨qs, s3', e, f, a⟩ := dr_loop (r_ := r_) (A := A) (c := c) gs (acc ++ lea q) (.val (enc g)) (fun p hp => h p (by simp [hp])) (by rw [List.length_append]; omega)
    refine ⟨q :: qs, s3', ?_, by rw [forms_cons, h2, f]; rfl, by rw [arrs, arrs, h3, a]⟩
    have hs := dr_step (A := A) (enc_ne g) h1 (acc := acc) (by omega)
    have et : tName 3 (enc g) [A, .val (.int c), .val (.tup (acc.map .int)), s3] = some [A, .val (.int c), .val (.tup (acc.map .int)), .val (enc g)] := rfl
    rw [encs_cons, loop]
    simp only [et, hs]
    rw [e, leas, List.append_assoc]
theorem dr1 {F : Fn} {T : PV} {c : Int} {w : Str} {L : List PV} (hT : ∀ ps, T ≠ .lst ps) (h : F [T, .int c] = .ok (.tup [.str w, .tup L], false)) : mSeq (eOp gIx (look (eFn F (aCons (eVar 0) (aCons (eVar 1) (Pv.ret []))))) (look (eC (.int 1)))) [.val T, .val (.int c), .val (.tup []), .no] = .ok L [.val T, .val (.int c), .val (.tup []), .no] := by
  simp [h, at1]
theorem node_of {g q : G} {w : Str} {ps : List G} {x : Bool} (h : arr q = arr (.node w ps x)) (hf : form q = true) : ∃ qs, q = .node w qs false := by
  cases q with
  | leaf i => rw [arr, arr_node] at h; cases h
  | node w2 qs y =>
    obtain ⟨rfl, _⟩ := form_node hf
    rw [arr_node, arr_node] at h
    injection h with h1 h2 h3
    subst h1
    exact ⟨qs, rfl⟩
theorem drawn_ok : ∀ (d : Nat) (g : G) (c : Int), dep g < d → Tr g → ∃ q, fn__law_drawn_order d [enc g, .int c] = .ok (.tup ((lea q).map .int), false) ∧ form q = true ∧ arr q = arr g
  | 0, g, c, h, _ => by omega
  | d + 1, .leaf i, c, h, t => by
    refine ⟨.leaf i, ?_, t.f, rfl⟩
    unfold fn__law_drawn_order st__law_drawn_order enc lea
    simp
  | d + 1, .node w ps x, c, h, t => by
    obtain ⟨rfl, f1, f2, f3⟩ := form_node t.f
    obtain ⟨q0, e0, hS⟩ := shuffled_ok 40 (.node w ps false) c t.d t.f t.w t.n
    obtain ⟨qs, rfl⟩ := node_of (g := .node w ps false) hS.a hS.f
    have t2 := hS.tr t
    have hd := hS.d
    rw [dep] at h
    rw [dep, dep] at hd
    have ih : ∀ g ∈ qs, ∃ q, fn__law_drawn_order d [enc g, .int (c / 3 + 11)] = .ok (.tup ((lea q).map .int), false) ∧ form q = true ∧ arr q = arr g := fun g hg => drawn_ok d g _ (by have := dep_mem hg; omega) (t2.part hg)
    have hz := t2.z
    rw [lea] at hz
    obtain ⟨rs, s3', e, rf, ra⟩ := dr_loop (r_ := fn__law_drawn_order d) (A := .val (enc (.node w ps false))) (c := c) qs [] .no ih (by simpa using by omega)
    obtain ⟨_, g1, g2, g3⟩ := form_node hS.f
    have rl : rs.length = qs.length := by rw [← arrs_len rs, ra, arrs_len]
    refine ⟨.node w rs false, ?_, ?_, ?_⟩
    · rw [lea]
      rw [enc_two w qs] at e0
      rw [List.nil_append] at e
      have hT : enc (.node w ps false) = .tup [.str w, .tup (encs ps)] := enc_two w ps
      have ne := enc_ne (.node w ps false)
      unfold fn__law_drawn_order st__law_drawn_order
      generalize fn__law_shuffled 40 = F at *
      generalize enc (.node w ps false) = T at *
      refine runF_ok (ev' := [.val T, .val (.int c), .val (.tup ((leas rs).map .int)), s3']) ?_ rfl (by decide)
      refine (sq_nx (ev' := [.val T, .val (.int c), .no, .no]) (by clear e0 e ne; subst hT; generalize encs ps = L; simp)).trans ?_
      refine (sq_nx (ev' := [.val T, .val (.int c), .val (.tup []), .no]) (by simp)).trans ?_
      refine (sq_nx ((bnd_ok (dr1 ne e0)).trans e)).trans ?_
      refine sq_rt ?_
      generalize (leas rs).map PV.int = W
      simp
    · unfold form
      rw [g1, rl, decide_eq_true g2, rf]
      rfl
    · rw [arr_node, ← hS.a, arr_node, ra]
theorem drawn_told {n : Nat} {g : G} (t : Tree n g) (c : Int) : ∃ o, fn__law_drawn_order 40 [enc g, .int c] = .ok (.tup (o.map .int), false) ∧ Told g o := by
  obtain ⟨q, e, f, a⟩ := drawn_ok 40 g c t.tr.d t.tr
  exact ⟨lea q, e, ⟨q, f, a, rfl⟩⟩
end K22
set_option Elab.async false
set_option linter.all false
set_option maxRecDepth 100000
namespace K22
open Pv PySem PySem.Spec L2
open PyProof.Rows hiding St
theorem told_tol {g : G} {o : List Int} (hf : form g = true) (h : Told g o) : tol g o := by
  obtain ⟨q, h1, h2, rfl⟩ := h.ex
  have := (tol_arr q _ h1).mpr (tol_id q)
  rw [h2] at this
  exact (tol_arr g _ hf).mp this
end K22
set_option Elab.async false
set_option linter.all false
set_option maxRecDepth 100000
namespace K22
open Pv PySem PySem.Spec L2
open PyProof.Rows hiding St
def sv__law_orders : M Fl := sq (bnd (mLst (aCons (mTup (Pv.ret [])) (Pv.ret []))) (setR 1)) (sq (bnd (mRng1 (kCons (pVar 0) (Pv.ret []))) (loop (tName 2) (sq (bnd (mLst (Pv.ret [])) (setR 3)) (sq (bnd (mSeq (eVar 1)) (loop (tName 4) (sq (bnd (mRng1 (kCons (look (eOp gAdd (look (eCall gLen (kCons (pVar 4) (Pv.ret [])))) (look (eC (.int 1))))) (Pv.ret []))) (loop (tName 5) (sq (mMet 3 (aCons (eOp gAdd (look (eOp gAdd (look (eSl (pVar 4) (Pv.ret none) (soInt (pVar 5)))) (look (mTup (aCons (eVar 2) (Pv.ret [])))))) (look (eSl (pVar 4) (soInt (pVar 5)) (Pv.ret none)))) (Pv.ret [])) gAppend) (Pv.ret .nx)))) (Pv.ret .nx)))) (sq (bnd (eVar 3) (setR 1)) (Pv.ret .nx)))))) (sq (mRetV 1) (Pv.ret .nx)))
theorem un__law_orders : fn__law_orders = runF 6 1 (sv__law_orders ) := rfl
def oA : M Fl := sq (mMet 3 (aCons (eOp gAdd (look (eOp gAdd (look (eSl (pVar 4) (Pv.ret none) (soInt (pVar 5)))) (look (mTup (aCons (eVar 2) (Pv.ret [])))))) (look (eSl (pVar 4) (soInt (pVar 5)) (Pv.ret none)))) (Pv.ret [])) gAppend) (Pv.ret .nx)
def oB : M Fl := sq (bnd (mRng1 (kCons (look (eOp gAdd (look (eCall gLen (kCons (pVar 4) (Pv.ret [])))) (look (eC (.int 1))))) (Pv.ret []))) (loop (tName 5) (sq (mMet 3 (aCons (eOp gAdd (look (eOp gAdd (look (eSl (pVar 4) (Pv.ret none) (soInt (pVar 5)))) (look (mTup (aCons (eVar 2) (Pv.ret [])))))) (look (eSl (pVar 4) (soInt (pVar 5)) (Pv.ret none)))) (Pv.ret [])) gAppend) (Pv.ret .nx)))) (Pv.ret .nx)
def oC : M Fl := sq (bnd (mLst (Pv.ret [])) (setR 3)) (sq (bnd (mSeq (eVar 1)) (loop (tName 4) (sq (bnd (mRng1 (kCons (look (eOp gAdd (look (eCall gLen (kCons (pVar 4) (Pv.ret [])))) (look (eC (.int 1))))) (Pv.ret []))) (loop (tName 5) (sq (mMet 3 (aCons (eOp gAdd (look (eOp gAdd (look (eSl (pVar 4) (Pv.ret none) (soInt (pVar 5)))) (look (mTup (aCons (eVar 2) (Pv.ret [])))))) (look (eSl (pVar 4) (soInt (pVar 5)) (Pv.ret none)))) (Pv.ret [])) gAppend) (Pv.ret .nx)))) (Pv.ret .nx)))) (sq (bnd (eVar 3) (setR 1)) (Pv.ret .nx)))
theorem oA_ok {A B C : Pv.Slot} {x : Int} {L V : List PV} {a : Nat} (hz : V.length ≤ 1000) (hL : L.length ≤ 1000) : oA [A, B, .val (.int x), .own V, .val (.tup L), .val (.int a)] = .ok .nx [A, B, .val (.int x), .own (V ++ [.tup (L.take a ++ [.int x] ++ L.drop a)]), .val (.tup L), .val (.int a)] := by
  have c1 : cutP L none (some (a : Int)) = L.take a := cutn L a
  have c2 : cutP L (some (a : Int)) none = L.drop a := cut_suf L a
  have z : V.length < 16777216 := by omega
  have z1 : (L.take a).length + 1 ≤ 16777216 := by rw [List.length_take]; omega
  have z2 : (L.take a).length + 1 + (L.drop a).length ≤ 16777216 := by rw [List.length_take, List.length_drop]; omega
  generalize (a : Int) = w at *
  generalize L.take a = P at *
  generalize L.drop a = Q at *
  unfold oA
  simp [c1, c2, z, z1, z2]
  try omega
def insL (x : Int) (o : List Int) (n : Nat) : List (List Int) := (List.range n).map fun a => o.take a ++ [x] ++ o.drop a
theorem oA_loop {A B : Pv.Slot} {x : Int} {o : List Int} (ho : o.length ≤ 100) : ∀ (ks : List Nat) (T : List (List Int)) (s5 : Pv.Slot), T.length + ks.length ≤ 1000 → ∃ s5', loop (tName 5) oA (ks.map fun (a : Nat) => PV.int a) [A, B, .val (.int x), .own (tabV T), .val (.tup (o.map .int)), s5] = .ok .nx [A, B, .val (.int x), .own (tabV (T ++ ks.map fun a => o.take a ++ [x] ++ o.drop a)), .val (.tup (o.map .int)), s5'] := by
  intro ks
  induction ks with
  | nil => intro T s5 _; exact ⟨s5, by rw [List.map_nil, List.map_nil, List.append_nil]; rfl⟩
  | cons a ks ih =>
    intro T s5 hz
    rw [List.length_cons] at hz
    obtain ⟨s5', e⟩ := ih (T ++ [o.take a ++ [x] ++ o.drop a]) (.val (.int a)) (by rw [List.length_append, List.length_singleton]; omega)
    refine ⟨s5', ?_⟩
    have et : tName 5 (.int a) [A, B, .val (.int x), .own (tabV T), .val (.tup (o.map .int)), s5] = some [A, B, .val (.int x), .own (tabV T), .val (.tup (o.map .int)), .val (.int a)] := rfl
    have eb := oA_ok (A := A) (B := B) (C := s5) (x := x) (L := o.map .int) (V := tabV T) (a := a) (by unfold tabV; rw [List.length_map]; omega) (by rw [List.length_map]; omega)
    rw [List.map_cons]
    refine (loop_nx et eb).trans ?_
    have ev : tabV T ++ [.tup ((o.map PV.int).take a ++ [.int x] ++ (o.map PV.int).drop a)] = tabV (T ++ [o.take a ++ [x] ++ o.drop a]) := by
      unfold tabV
      rw [List.map_append, List.map_cons, List.map_nil, List.map_append, List.map_append, List.map_take, List.map_drop]
      rfl
    rw [ev, e, List.append_assoc]
    rfl
theorem oB_ok {A B : Pv.Slot} {x : Int} {o : List Int} {T : List (List Int)} {s5 : Pv.Slot} (ho : o.length ≤ 100) (hz : T.length + (o.length + 1) ≤ 1000) : ∃ s5', oB [A, B, .val (.int x), .own (tabV T), .val (.tup (o.map .int)), s5] = .ok .nx [A, B, .val (.int x), .own (tabV (T ++ insL x o (o.length + 1))), .val (.tup (o.map .int)), s5'] := by
  obtain ⟨s5', e⟩ := oA_loop (A := A) (B := B) (x := x) ho (List.range (o.length + 1)) T s5 (by rw [List.length_range]; exact hz)
  refine ⟨s5', ?_⟩
  have r1 : mRng1 (kCons (look (eOp gAdd (look (eCall gLen (kCons (pVar 4) (Pv.ret [])))) (look (eC (.int 1))))) (Pv.ret [])) [A, B, .val (.int x), .own (tabV T), .val (.tup (o.map .int)), s5] = .ok ((List.range (o.length + 1)).map fun (a : Nat) => PV.int a) [A, B, .val (.int x), .own (tabV T), .val (.tup (o.map .int)), s5] := by
    have : (List.range (o.length + 1)).map (fun (a : Nat) => PV.int a) = rgP 0 (o.length + 1) := by unfold rgP; simp
    rw [this]
    refine rng1_nat (n := o.length + 1) ?_ (by omega)
    have hl : (o.map PV.int).length = o.length := List.length_map _
    generalize o.map PV.int = V at *
    generalize o.length = n at *
    simp [hl]
  show sq (bnd (mRng1 _) (loop (tName 5) oA)) (Pv.ret .nx) _ = _
  exact (sq_nx ((bnd_ok r1).trans e)).trans rfl
theorem oB_loop {A B : Pv.Slot} {x : Int} {k : Nat} (hk : k ≤ 100) : ∀ (M T : List (List Int)) (s4 s5 : Pv.Slot), (∀ o ∈ M, o.length = k) → T.length + M.length * (k + 1) ≤ 1000 → ∃ s4' s5', loop (tName 4) oB (tabV M) [A, B, .val (.int x), .own (tabV T), s4, s5] = .ok .nx [A, B, .val (.int x), .own (tabV (T ++ M.flatMap fun o => insL x o (o.length + 1))), s4', s5'] := by
  intro M
  induction M with
  | nil => intro T s4 s5 _ _; exact ⟨s4, s5, by rw [List.flatMap_nil, List.append_nil]; rfl⟩
  | cons o M ih =>
    intro T s4 s5 h hz
    have ho := h o (by simp)
    rw [List.length_cons, Nat.add_mul, Nat.one_mul] at hz
    have li : (insL x o (o.length + 1)).length = k + 1 := by unfold insL; rw [List.length_map, List.length_range, ho]
    obtain ⟨s5', eb⟩ := oB_ok (A := A) (B := B) (x := x) (o := o) (T := T) (s5 := s5) (by omega) (by omega)
    obtain ⟨s4'', s5'', e⟩ := ih (T ++ insL x o (o.length + 1)) (.val (.tup (o.map .int))) s5' (fun q hq => h q (by simp [hq])) (by rw [List.length_append, li]; omega)
    refine ⟨s4'', s5'', ?_⟩
    have et : tName 4 (.tup (o.map .int)) [A, B, .val (.int x), .own (tabV T), s4, s5] = some [A, B, .val (.int x), .own (tabV T), .val (.tup (o.map .int)), s5] := rfl
    rw [show tabV (o :: M) = .tup (o.map .int) :: tabV M from rfl]
    refine (loop_nx et eb).trans ?_
    rw [e, List.flatMap_cons, List.append_assoc]
theorem insL_perm {x : Int} {o p : List Int} {n : Nat} (h : p ∈ insL x o n) : p.Perm (x :: o) := by
  unfold insL at h
  obtain ⟨a, _, rfl⟩ := List.mem_map.mp h
  rw [List.append_assoc, List.singleton_append]
  refine List.perm_middle.trans ?_
  rw [List.take_append_drop]
def LS (s : Pv.Slot) (V : List PV) : Prop := s = .own V ∨ s = .val (.lst V)
theorem oC_ok {A s1 s3 s4 s5 : Pv.Slot} {x : Int} {k : Nat} {M : List (List Int)} (hs : LS s1 (tabV M)) (hk : k ≤ 100) (h : ∀ o ∈ M, o.length = k) (hz : M.length * (k + 1) ≤ 1000) : ∃ s3' s4' s5', oC [A, s1, .val (.int x), s3, s4, s5] = .ok .nx [A, .val (.lst (tabV (M.flatMap fun o => insL x o (o.length + 1)))), .val (.int x), s3', s4', s5'] := by
  obtain ⟨s4', s5', e⟩ := oB_loop (A := A) (B := .val (.lst (tabV M))) (x := x) hk M [] s4 s5 h (by simpa using hz)
  refine ⟨.val (.lst (tabV (M.flatMap fun o => insL x o (o.length + 1)))), s4', s5', ?_⟩
  show sq (bnd (mLst (Pv.ret [])) (setR 3)) (sq (bnd (mSeq (eVar 1)) (loop (tName 4) oB)) (sq (bnd (eVar 3) (setR 1)) (Pv.ret .nx))) _ = _
  rw [List.nil_append] at e
  generalize tabV (M.flatMap fun o => insL x o (o.length + 1)) = W at *
  generalize tabV M = V at *
  refine (sq_nx (ev' := [A, s1, .val (.int x), .own [], s4, s5]) (by simp)).trans ?_
  refine (sq_nx (ev' := [A, .val (.lst V), .val (.int x), .own W, s4', s5']) ?_).trans ?_
  · refine (bnd_ok (a := V) (ev' := [A, .val (.lst V), .val (.int x), .own [], s4, s5]) ?_).trans e
    rcases hs with rfl | rfl <;> simp
  · simp
def fc : Nat → Nat
  | 0 => 1
  | n + 1 => fc n * (n + 1)
theorem fc_le : ∀ n, n ≤ 5 → fc n ≤ 120
  | 0, _ => by decide
  | 1, _ => by decide
  | 2, _ => by decide
  | 3, _ => by decide
  | 4, _ => by decide
  | 5, _ => by decide
  | n + 6, h => by omega
theorem or_1 {N : PV} {V L : List PV} {s1 s2 s3 s4 s5 : Pv.Slot} (rg : mRng1 (kCons (pVar 0) (Pv.ret [])) [.val N, .own [.tup []], .no, .no, .no, .no] = .ok L [.val N, .own [.tup []], .no, .no, .no, .no]) (e : loop (tName 2) oC L [.val N, .own [.tup []], .no, .no, .no, .no] = .ok .nx [.val N, s1, s2, s3, s4, s5]) (hs : LS s1 V) : ∃ b, runF 6 1 sv__law_orders [N] = .ok (.lst V, b) := by
  rcases hs with rfl | rfl
  · refine ⟨true, runF_ok (ev' := [.val N, .own V, s2, s3, s4, s5]) ?_ rfl (by decide)⟩
    unfold sv__law_orders
    refine (sq_nx (ev' := [.val N, .own [.tup []], .no, .no, .no, .no]) (by simp)).trans ?_
    refine (sq_nx (ev' := [.val N, .own V, s2, s3, s4, s5]) ((bnd_ok rg).trans e)).trans ?_
    exact sq_rt (by simp)
  · refine ⟨false, runF_ok (ev' := [.val N, .val (.lst V), s2, s3, s4, s5]) ?_ rfl (by decide)⟩
    unfold sv__law_orders
    refine (sq_nx (ev' := [.val N, .own [.tup []], .no, .no, .no, .no]) (by simp)).trans ?_
    refine (sq_nx (ev' := [.val N, .val (.lst V), s2, s3, s4, s5]) ((bnd_ok rg).trans e)).trans ?_
    exact sq_rt (by simp)
end K22
set_option Elab.async false
set_option linter.all false
set_option maxRecDepth 100000
namespace K22
open Pv PySem PySem.Spec L2
open PyProof.Rows hiding St
def f1 : M Fl := mIfS (tTru (look (mIsi "int" (pVar 0)))) (sq (bnd (mIf (blOf (eOp (gIn false) (pVar 0) (pVar 1))) (mLst (aCons (eVar 0) (Pv.ret []))) (mLst (Pv.ret []))) mRet) (Pv.ret .nx)) (Pv.ret .nx)
def f2 : M Fl := bnd (eVar 0) fun r => mTgt (tNames [2, 3]) r.1
def f3 (r_ : Fn) : M Fl := bnd (mComp2 (mSeq (eVar 3)) (tName 5) (Pv.ret true) (mSeq (eFn r_ (aCons (eVar 5) (aCons (eVar 1) (Pv.ret []))))) (tName 6) (Pv.ret true) (eVar 6) [5, 6] [6]) (setR 4)
def f4 (Fgrouped : Fn) : M Fl := mIfS (blOf (eOp cLt (look (eCall gLen (kCons (pVar 4) (Pv.ret [])))) (look (mKdIx d_LEAST_PARTS (pVar 2))))) (sq (bnd (eFn Fgrouped (aCons (eVar 4) (Pv.ret []))) mRet) (Pv.ret .nx)) (Pv.ret .nx)
def f5 : M Fl := bnd (mLst (aCons (mTup (aCons (eVar 2) (aCons (eCall gTuple (kCons (pVar 4) (Pv.ret []))) (Pv.ret [])))) (Pv.ret []))) mRet
end K22
set_option Elab.async false
set_option linter.all false
set_option maxRecDepth 100000
namespace K22
open Pv PySem PySem.Spec L2
open PyProof.Rows hiding St
theorem cell_z (ns : List Int) {z : Int} (h : 0 ≤ z) : ∃ r : Int, fn__law_cell [.scr ns, .int z] = .ok (.int r, false) := by
  obtain ⟨k, rfl⟩ : ∃ k : Nat, z = (k : Int) := ⟨z.toNat, by omega⟩
  exact cell_ok ns k
theorem Tree.mk' {n : Nat} {g : G} (hf : form g = true) (hl : (lea g).Perm (Pv.upTo 0 n)) (h1 : 1 ≤ n) (h2 : n ≤ 24) : Tree n g := by
  have len : (lea g).length = n := by rw [hl.length_eq, upTo_len]
  exact ⟨hf, hl, by have := form_dep g hf; omega, form_wd g hf (by omega), h1, h2⟩
theorem insL_all {x : Int} {k : Nat} {o : List Int} (h : o.Perm (x :: Pv.upTo 0 k)) : ∃ p : List Int, p.Perm (Pv.upTo 0 k) ∧ o ∈ insL x p (p.length + 1) := by
  have hx : x ∈ o := h.mem_iff.mpr (List.mem_cons_self ..)
  obtain ⟨a, b, rfl⟩ := List.append_of_mem hx
  refine ⟨a ++ b, ?_, ?_⟩
  · have : (x :: (a ++ b)).Perm (x :: Pv.upTo 0 k) := (List.perm_middle.symm).trans h
    exact (List.perm_cons x).mp this
  · unfold insL
    refine List.mem_map.mpr ⟨a.length, List.mem_range.mpr (by rw [List.length_append]; omega), ?_⟩
    simp
theorem oC_all {A : Pv.Slot} : ∀ (n k : Nat) (M : List (List Int)) (s1 s2 s3 s4 s5 : Pv.Slot), k + n ≤ 5 → LS s1 (tabV M) → (∀ o, o ∈ M ↔ o.Perm (Pv.upTo 0 k)) → M.length = fc k → ∃ (M' : List (List Int)) (s1' s2' s3' s4' s5' : Pv.Slot), loop (tName 2) oC ((List.range' k n).map fun (a : Nat) => PV.int a) [A, s1, s2, s3, s4, s5] = .ok .nx [A, s1', s2', s3', s4', s5'] ∧ LS s1' (tabV M') ∧ (∀ o, o ∈ M' ↔ o.Perm (Pv.upTo 0 (k + n))) ∧ M'.length = fc (k + n) := by
  intro n
  induction n with
  | zero => intro k M s1 s2 s3 s4 s5 _ hs h hl; exact ⟨M, s1, s2, s3, s4, s5, rfl, hs, h, hl⟩
  | succ n ih =>
    intro k M s1 s2 s3 s4 s5 hk hs hP hl
    have h : ∀ o ∈ M, o.length = k := fun o ho => by rw [((hP o).mp ho).length_eq, upTo_len]
    have hf : fc k * (k + 1) ≤ 1000 := by
      have : k ≤ 4 := by omega
      match k, this with
      | 0, _ => decide
      | 1, _ => decide
      | 2, _ => decide
      | 3, _ => decide
      | 4, _ => decide
    obtain ⟨x, hx⟩ : ∃ x : Int, x = (k : Int) := ⟨_, rfl⟩
    obtain ⟨s3', s4', s5', eb⟩ := oC_ok (A := A) (s3 := s3) (s4 := s4) (s5 := s5) (x := x) hs (by omega) h (by rw [hl]; exact hf)
    have hl2 : (M.flatMap fun o => insL x o (o.length + 1)).length = fc (k + 1) := by
      rw [List.length_flatMap, show (M.map fun o => (insL x o (o.length + 1)).length) = M.map fun _ => k + 1 from List.map_congr_left fun o ho => by unfold insL; rw [List.length_map, List.length_range, h o ho]]
      rw [List.map_const', List.sum_replicate_nat, hl, fc]
    have hu : (x :: Pv.upTo 0 k).Perm (Pv.upTo 0 (k + 1)) := by
      unfold Pv.upTo
      rw [List.range_succ, List.map_append, hx]
      refine (List.perm_append_comm (l₁ := [(k : Int)])).trans ?_
      rw [List.map_cons, List.map_nil, Int.zero_add]
    obtain ⟨M', t1, t2, t3, t4, t5, e, q1, q2, q3⟩ := ih (k + 1) (M.flatMap fun o => insL x o (o.length + 1)) _ (.val (.int x)) s3' s4' s5' (by omega) (.inr rfl) (fun o => by
      constructor
      · intro ho
        obtain ⟨p, hp, hq⟩ := List.mem_flatMap.mp ho
        exact (insL_perm hq).trans ((((hP p).mp hp).cons _).trans hu)
      · intro ho
        obtain ⟨p, hp, hq⟩ := insL_all (ho.trans hu.symm)
        exact List.mem_flatMap.mpr ⟨p, (hP p).mpr hp, hq⟩) hl2
    refine ⟨M', t1, t2, t3, t4, t5, ?_, q1, by rw [show k + (n + 1) = k + 1 + n by omega]; exact q2, by rw [show k + (n + 1) = k + 1 + n by omega]; exact q3⟩
    have et : tName 2 (.int x) [A, s1, s2, s3, s4, s5] = some [A, s1, .val (.int x), s3, s4, s5] := rfl
    rw [List.range'_succ, List.map_cons, ← hx]
    exact (loop_nx et eb).trans e
theorem orders_all (n : Nat) (h : n ≤ 5) : ∃ (M : List (List Int)) (b : Bool), fn__law_orders [.int n] = .ok (.lst (tabV M), b) ∧ (∀ o, o ∈ M ↔ o.Perm (Pv.upTo 0 n)) ∧ M.length ≤ 120 := by
  obtain ⟨M, s1, s2, s3, s4, s5, e, h1, h2, h3⟩ := oC_all (A := .val (.int n)) n 0 [[]] (.own [.tup []]) .no .no .no .no (by omega) (.inl rfl) (fun o => by
    constructor
    · intro ho; rw [List.mem_singleton.mp ho]; exact .refl _
    · intro ho
      have : o = [] := List.Perm.eq_nil ho
      rw [this]; exact List.mem_singleton.mpr rfl) rfl
  rw [Nat.zero_add] at h2 h3
  have rg : mRng1 (kCons (pVar 0) (Pv.ret [])) [.val (.int n), .own [.tup []], .no, .no, .no, .no] = .ok ((List.range' 0 n).map fun (a : Nat) => PV.int a) [.val (.int n), .own [.tup []], .no, .no, .no, .no] := by
    have : (List.range' 0 n).map (fun (a : Nat) => PV.int a) = rgP 0 n := by unfold rgP; rw [List.range_eq_range']; simp
    rw [this]
    exact rng1_nat (n := n) (by simp) (by omega)
  obtain ⟨b, q⟩ := or_1 rg e h1
  refine ⟨M, b, by rw [un__law_orders]; exact q, h2, ?_⟩
  rw [h3]
  exact fc_le n h
def l1 (F_law_digits F_law_rich F_law_cell : Fn) : M Fl := bnd (eFn F_law_digits (aCons (eFn F_law_rich (aCons (eFn F_law_cell (aCons (eVar 0) (aCons (eC (.int 0)) (Pv.ret [])))) (Pv.ret []))) (aCons (mLst (aCons (eC (.int 9)) (aCons (eC (.int 2)) (Pv.ret [])))) (Pv.ret [])))) (setR 1)
def l2 : M Fl := bnd (eOp gAdd (look (eC (.int 1))) (look (eOp gIx (look (mLst (aCons (eOp gIx (pVar 1) (look (eC (.int 0)))) (aCons (eOp aMod (look (eCall gInt (kCons (look (eOp gIx (pVar 1) (look (eC (.int 0))))) (Pv.ret [])))) (look (eC (.int 5)))) (Pv.ret []))))) (look (eOp gIx (pVar 1) (look (eC (.int 1)))))))) (setR 2)
def l3 (F_law_tree F_law_cell : Fn) : M Fl := bnd (eFn F_law_tree (aCons (eFn F_law_cell (aCons (eVar 0) (aCons (eC (.int 1)) (Pv.ret [])))) (aCons (eVar 2) (Pv.ret [])))) (setR 3)
def l4 : M Fl := bnd (eC (.bl false)) (setR 4)
section
variable {ns : List Int} {D : List PV} {N G1 C Q R P : PV} {c n A B r K : Int} {s4 s5 s6 s7 s8 s9 s10 : Pv.Slot} {V W L : List PV}
end
end K22
set_option linter.all false
set_option Elab.async false
set_option maxRecDepth 100000
set_option autoImplicit false
namespace K22
open Pv PySem PySem.Spec L2
open PyProof.Rows hiding St
section
variable {f : Int → Int}
def tn (f : Int → Int) (a b : List Int) : Nat := (a.map fun x => (b.filter fun y => decide (f y < f x)).length).sum
def inv (f : Int → Int) : List Int → Nat
  | [] => 0
  | x :: l => (l.filter fun y => decide (f y < f x)).length + inv f l
theorem tn_nil (b : List Int) : tn f [] b = 0 := rfl
theorem tn_cons (x : Int) (a b : List Int) : tn f (x :: a) b = (b.filter fun y => decide (f y < f x)).length + tn f a b := by
  unfold tn
  rw [List.map_cons, List.sum_cons]
theorem tn_rapp (a b c : List Int) : tn f a (b ++ c) = tn f a b + tn f a c := by
  induction a with
  | nil => rfl
  | cons x a ih => rw [tn_cons, tn_cons, tn_cons, ih, List.filter_append, List.length_append]; omega
theorem tn_rnil (a : List Int) : tn f a [] = 0 := by
  induction a with
  | nil => rfl
  | cons x a ih => rw [tn_cons, ih]; rfl
theorem tn_perm {a a' b b' : List Int} (h : a.Perm a') (g : b.Perm b') : tn f a b = tn f a' b' := by
  have e : ∀ x : Int, (b.filter fun y => decide (f y < f x)).length = (b'.filter fun y => decide (f y < f x)).length := fun x => (g.filter _).length_eq
  unfold tn
  have e2 : (a.map fun x => (b.filter fun y => decide (f y < f x)).length) = a.map fun x => (b'.filter fun y => decide (f y < f x)).length := List.map_congr_left fun x _ => e x
  rw [e2]
  exact (h.map _).sum_nat
theorem inv_app (a b : List Int) : inv f (a ++ b) = inv f a + inv f b + tn f a b := by
  induction a with
  | nil => rw [List.nil_append, tn_nil]; unfold inv; omega
  | cons x a ih =>
    rw [List.cons_append, tn_cons]
    show (((a ++ b).filter _).length + inv f (a ++ b)) = (a.filter _).length + inv f a + inv f b + _
    rw [ih, List.filter_append, List.length_append]; omega
theorem inv_snoc (l : List Int) (x : Int) : inv f (l ++ [x]) = inv f l + (l.filter fun y => decide (f x < f y)).length := by
  rw [inv_app]
  have e : inv f [x] = 0 := rfl
  rw [e, Nat.add_zero]
  congr 1
  induction l with
  | nil => rfl
  | cons y l ih =>
    rw [tn_cons, ih]
    by_cases c : f x < f y
    · rw [List.filter_cons_of_pos (by simpa using c), List.filter_cons_of_pos (by simpa using c)]
      simp; omega
    · rw [List.filter_cons_of_neg (by simpa using c), List.filter_cons_of_neg (by simpa using c)]
      simp
end
def sm (l : List Int) : Int := l.foldr (· + ·) 0
theorem sm_nil : sm [] = 0 := rfl
theorem sm_cons (x : Int) (l : List Int) : sm (x :: l) = x + sm l := rfl
theorem sm_app (a b : List Int) : sm (a ++ b) = sm a + sm b := by
  induction a with
  | nil => rw [List.nil_append, sm_nil]; omega
  | cons x a ih => rw [List.cons_append, sm_cons, sm_cons, ih]; omega
theorem sm_perm {a b : List Int} (h : a.Perm b) : sm a = sm b := by
  induction h with
  | nil => rfl
  | cons x _ ih => rw [sm_cons, sm_cons, ih]
  | swap x y l => rw [sm_cons, sm_cons, sm_cons, sm_cons]; omega
  | trans _ _ h1 h2 => exact h1.trans h2
def sc (C : Int → Int → Int) : List Int → Int
  | [] => 0
  | p :: s => sm (s.map (C p)) + sc C s
theorem sc_snoc (C : Int → Int → Int) (s : List Int) (l : Int) : sc C (s ++ [l]) = sc C s + sm (s.map fun p => C p l) := by
  induction s with
  | nil => rfl
  | cons p s ih =>
    show sm ((s ++ [l]).map (C p)) + sc C (s ++ [l]) = sm (s.map (C p)) + sc C s + sm ((p :: s).map fun p => C p l)
    rw [ih, List.map_append, sm_app, List.map_cons, sm_cons, List.map_cons, sm_cons]
    show sm (s.map (C p)) + (C p l + 0) + _ = _
    omega
theorem sc_rev (C : Int → Int → Int) (s : List Int) : sc C s.reverse = sc (fun a b => C b a) s := by
  induction s with
  | nil => rfl
  | cons p s ih =>
    rw [List.reverse_cons, sc_snoc, ih, sm_perm ((List.reverse_perm s).map fun q => C q p)]
    show _ = sm (s.map fun b => C b p) + sc (fun a b => C b a) s
    omega
def bits (m g : Nat) : List Int := ((List.range m).filter fun p => decide (g / 2 ^ p % 2 = 1)).map fun p : Nat => (p : Int)
theorem bit_sub : ∀ (g : Fin 256) (l p : Fin 8), g.val / 2 ^ l.val % 2 = 1 → 2 ^ l.val ≤ g.val ∧ ((g.val - 2 ^ l.val) / 2 ^ p.val % 2 = 1 ↔ g.val / 2 ^ p.val % 2 = 1 ∧ p ≠ l) := by decide +kernel
theorem bit_some : ∀ (m : Fin 9) (g : Fin 256), g.val ≠ 0 → g.val < 2 ^ m.val → ∃ p : Fin 8, p.val < m.val ∧ g.val / 2 ^ p.val % 2 = 1 := by decide +kernel
theorem bit_all : ∀ (m : Fin 9) (p : Fin 8), p.val < m.val → (2 ^ m.val - 1) / 2 ^ p.val % 2 = 1 := by decide +kernel
theorem pow_le : ∀ m : Fin 9, 2 ^ m.val ≤ 256 := by decide +kernel
theorem bits_mem {m g : Nat} {x : Int} : x ∈ bits m g ↔ ∃ p : Nat, x = p ∧ p < m ∧ g / 2 ^ p % 2 = 1 := by
  unfold bits
  rw [List.mem_map]
  constructor
  · rintro ⟨p, hp, rfl⟩
    rw [List.mem_filter, List.mem_range, decide_eq_true_eq] at hp
    exact ⟨p, rfl, hp⟩
  · rintro ⟨p, rfl, h1, h2⟩
    exact ⟨p, by rw [List.mem_filter, List.mem_range, decide_eq_true_eq]; exact ⟨h1, h2⟩, rfl⟩
theorem bits_nd (m g : Nat) : (bits m g).Nodup := by
  unfold bits
  refine map_nd _ (List.Pairwise.filter _ List.nodup_range) fun x _ y _ e => by omega
theorem bits_sub {m g l : Nat} (hm : m ≤ 8) (hg : g < 2 ^ m) (hl : l < m) (hb : g / 2 ^ l % 2 = 1) : 2 ^ l ≤ g ∧ (bits m (g - 2 ^ l) ++ [(l : Int)]).Perm (bits m g) := by
  have g2 : g < 256 := Nat.lt_of_lt_of_le hg (pow_le ⟨m, by omega⟩)
  have key := fun p : Nat => fun hp : p < m => bit_sub ⟨g, g2⟩ ⟨l, by omega⟩ ⟨p, by omega⟩ hb
  refine ⟨(key l hl).1, (List.perm_ext_iff_of_nodup ?_ (bits_nd m g)).mpr fun x => ?_⟩
  · rw [List.nodup_append]
    refine ⟨bits_nd _ _, by simp, fun a ha b hb e => ?_⟩
    rw [List.mem_singleton.mp hb] at e
    obtain ⟨p, rfl, h1, h2⟩ := bits_mem.mp ha
    have := ((key p h1).2.mp h2).2
    exact this (Fin.ext (by show p = l; omega))
  · rw [List.mem_append, List.mem_singleton, bits_mem, bits_mem]
    constructor
    · rintro (⟨p, rfl, h1, h2⟩ | rfl)
      · exact ⟨p, rfl, h1, ((key p h1).2.mp h2).1⟩
      · exact ⟨l, rfl, hl, hb⟩
    · rintro ⟨p, rfl, h1, h2⟩
      by_cases c : p = l
      · exact .inr (by rw [c])
      · exact .inl ⟨p, rfl, h1, (key p h1).2.mpr ⟨h2, fun z => c (congrArg Fin.val z)⟩⟩
theorem bits_ne {m g : Nat} (hm : m ≤ 8) (hg : g < 2 ^ m) (h0 : g ≠ 0) : bits m g ≠ [] := by
  have g2 : g < 256 := Nat.lt_of_lt_of_le hg (pow_le ⟨m, by omega⟩)
  obtain ⟨p, h1, h2⟩ := bit_some ⟨m, by omega⟩ ⟨g, g2⟩ h0 hg
  intro z
  have : (p.val : Int) ∈ bits m g := bits_mem.mpr ⟨p.val, rfl, h1, h2⟩
  rw [z] at this
  cases this
theorem bits_zero (m : Nat) : bits m 0 = [] := by
  unfold bits
  rw [List.filter_eq_nil_iff.mpr fun p _ => by simp]
  rfl
theorem bits_all {m : Nat} (hm : m ≤ 8) : bits m (2 ^ m - 1) = (List.range m).map fun p : Nat => (p : Int) := by
  unfold bits
  rw [List.filter_eq_self.mpr fun p hp => by
    have := List.mem_range.mp hp
    rw [decide_eq_true_eq]
    exact bit_all ⟨m, by omega⟩ ⟨p, by omega⟩ this]
structure Best (C : Int → Int → Int) (m g : Nat) (q : Int × List Int) : Prop where
  pm : q.2.Perm (bits m g)
  eq : q.1 = sc C q.2
  le : ∀ s : List Int, s.Perm (bits m g) → q.1 ≤ sc C s
theorem best_zero (C : Int → Int → Int) (m : Nat) : Best C m 0 (0, []) where
  pm := by rw [bits_zero]
  eq := rfl
  le := fun s h => by
    rw [bits_zero] at h
    rw [h.eq_nil]
    exact Int.le_refl _
def behind (C : Int → Int → Int) (q : Int × List Int) (l : Int) : Int × List Int := (q.1 + sm (q.2.map fun p => C p l), q.2 ++ [l])
theorem best_step {C : Int → Int → Int} {m g : Nat} (hm : m ≤ 8) (hg : g < 2 ^ m) (h0 : g ≠ 0) {B : Nat → Int × List Int} (hB : ∀ k, k < g → Best C m k (B k)) {q : Int × List Int}
    (hq : ∃ l ∈ bits m g, q = behind C (B (g - 2 ^ l.toNat)) l) (hle : ∀ l ∈ bits m g, q.1 ≤ (behind C (B (g - 2 ^ l.toNat)) l).1) : Best C m g q := by
  have sub : ∀ l ∈ bits m g, ∃ k : Nat, l = k ∧ k < m ∧ g / 2 ^ k % 2 = 1 ∧ g - 2 ^ k < g ∧ (bits m (g - 2 ^ k) ++ [l]).Perm (bits m g) := fun l hl => by
    obtain ⟨k, rfl, h1, h2⟩ := bits_mem.mp hl
    obtain ⟨a, b⟩ := bits_sub hm hg h1 h2
    have : 0 < 2 ^ k := Nat.two_pow_pos k
    exact ⟨k, rfl, h1, h2, by omega, b⟩
  obtain ⟨l, hl, e⟩ := hq
  obtain ⟨k, rfl, k1, k2, k3, k4⟩ := sub l hl
  rw [Int.toNat_natCast] at e
  have b := hB _ k3
  refine ⟨?_, ?_, fun s hs => ?_⟩
  · rw [e]
    exact (b.pm.append_right _).trans k4
  · rw [e]
    show (B (g - 2 ^ k)).1 + _ = sc C ((B (g - 2 ^ k)).2 ++ [(k : Int)])
    rw [sc_snoc, b.eq]
  · have sne : s ≠ [] := fun z => by
      rw [z] at hs
      exact bits_ne hm hg h0 hs.symm.eq_nil
    obtain ⟨s', z, rfl⟩ : ∃ s' z, s = s' ++ [z] := ⟨s.dropLast, s.getLast sne, (List.dropLast_concat_getLast sne).symm⟩
    have hz : z ∈ bits m g := hs.mem_iff.mp (by simp)
    obtain ⟨j, rfl, j1, j2, j3, j4⟩ := sub z hz
    have p1 : (s' ++ [(j : Int)]).Perm (bits m (g - 2 ^ j) ++ [(j : Int)]) := hs.trans j4.symm
    have p2 : s'.Perm (bits m (g - 2 ^ j)) := (List.perm_append_right_iff [(j : Int)]).mp p1
    have bj := hB _ j3
    have := hle _ hz
    rw [Int.toNat_natCast] at this
    refine Int.le_trans this ?_
    show (B (g - 2 ^ j)).1 + sm ((B (g - 2 ^ j)).2.map fun p => C p (j : Int)) ≤ _
    rw [sc_snoc, sm_perm ((bj.pm.trans p2.symm).map fun p => C p (j : Int))]
    have := bj.le s' p2
    omega
structure Near (f : Int → Int) (g : G) (q : Int × List Int) : Prop where
  tl : tol g q.2
  eq : q.1 = inv f q.2
  le : ∀ o, tol g o → q.1 ≤ inv f o
theorem tn_flat {f : Int → Int} (a : List Int) : ∀ (L : List (List Int)), (tn f a L.flatten : Int) = sm (L.map fun b => (tn f a b : Int))
  | [] => by rw [List.flatten_nil, tn_rnil]; rfl
  | b :: L => by rw [List.flatten_cons, tn_rapp, List.map_cons, sm_cons, ← tn_flat a L]; omega
section
variable {f : Int → Int} {P : Int → G} {Q : Int → Int × List Int} {C : Int → Int → Int}
theorem leas_flat (hQ : ∀ i, Near f (P i) (Q i)) : ∀ s : List Int, (leas (s.map P)).Perm (s.map fun i => (Q i).2).flatten
  | [] => by rw [List.map_nil, show leas [] = [] by rw [leas]]; rfl
  | i :: s => by
    rw [List.map_cons, leas_cons, List.map_cons, List.flatten_cons]
    exact ((tol_perm _ (hQ i).tl).symm).append (leas_flat hQ s)
theorem seq_eq (hQ : ∀ i, Near f (P i) (Q i)) (hC : ∀ i j, C i j = tn f (Q i).2 (Q j).2) : ∀ s : List Int, sqT (s.map P) (s.map fun i => (Q i).2).flatten ∧ (inv f (s.map fun i => (Q i).2).flatten : Int) = sm (s.map fun i => (Q i).1) + sc C s
  | [] => ⟨by rw [List.map_nil, sq_nil]; rfl, rfl⟩
  | i :: s => by
    obtain ⟨h1, h2⟩ := seq_eq hQ hC s
    rw [List.map_cons, List.map_cons, List.flatten_cons, List.map_cons, sm_cons]
    refine ⟨(sq_cons _ _ _).mpr ⟨_, _, rfl, (hQ i).tl, h1⟩, ?_⟩
    have e := tn_flat (f := f) (Q i).2 (s.map fun i => (Q i).2)
    rw [List.map_map] at e
    have e2 : s.map ((fun b => (tn f (Q i).2 b : Int)) ∘ fun i => (Q i).2) = s.map (C i) := List.map_congr_left fun j _ => (hC i j).symm
    rw [e2] at e
    show _ = _ + (sm (s.map (C i)) + sc C s)
    rw [inv_app, (hQ i).eq]
    omega
theorem seq_le (hQ : ∀ i, Near f (P i) (Q i)) (hC : ∀ i j, C i j = tn f (Q i).2 (Q j).2) : ∀ (s : List Int) (o : List Int), sqT (s.map P) o → sm (s.map fun i => (Q i).1) + sc C s ≤ inv f o
  | [], o, h => by
    rw [List.map_nil, sq_nil] at h
    rw [h]; exact Int.le_refl _
  | i :: s, o, h => by
    rw [List.map_cons] at h
    obtain ⟨a, b, rfl, ha, hb⟩ := (sq_cons _ _ _).mp h
    have ih := seq_le hQ hC s b hb
    have h1 := (hQ i).le a ha
    have e := tn_flat (f := f) (Q i).2 (s.map fun i => (Q i).2)
    rw [List.map_map] at e
    have e2 : s.map ((fun b => (tn f (Q i).2 b : Int)) ∘ fun i => (Q i).2) = s.map (C i) := List.map_congr_left fun j _ => (hC i j).symm
    rw [e2] at e
    have e3 : tn f a b = tn f (Q i).2 (s.map fun i => (Q i).2).flatten := tn_perm ((tol_perm _ ha).trans (tol_perm _ (hQ i).tl).symm) ((sq_perm hb).trans (leas_flat hQ s))
    rw [List.map_cons, sm_cons, inv_app]
    show _ + (sm (s.map (C i)) + sc C s) ≤ _
    omega
theorem near_any (hQ : ∀ i, Near f (P i) (Q i)) (hC : ∀ i j, C i j = tn f (Q i).2 (Q j).2) {r s : List Int} {c : Int} {x : Bool} (hs : s.Perm r) (hc : c = sc C s) (hle : ∀ s', s'.Perm r → c ≤ sc C s') :
    Near f (.node "any" (r.map P) x) (sm (r.map fun i => (Q i).1) + c, (s.map fun i => (Q i).2).flatten) := by
  obtain ⟨h1, h2⟩ := seq_eq hQ hC s
  refine ⟨(tol_any _ _ _).mpr ⟨s.map P, hs.map P, h1⟩, ?_, fun o ho => ?_⟩
  · show _ + c = _
    rw [h2, hc, sm_perm (hs.map fun i => (Q i).1)]
  · obtain ⟨qs, hp, hq⟩ := (tol_any _ _ _).mp ho
    obtain ⟨s', p', rfl⟩ := perm_of_map P hp rfl
    have := seq_le hQ hC s' o hq
    have := hle s' p'
    rw [sm_perm (p'.map fun i => (Q i).1)] at *
    show _ + c ≤ _
    omega
theorem near_row (hQ : ∀ i, Near f (P i) (Q i)) (hC : ∀ i j, C i j = tn f (Q i).2 (Q j).2) {w : Str} (hw : w ≠ "any") {r s : List Int} {c : Int} {x : Bool} (hs : s = r ∨ s = r.reverse) (hc : c = sc C s) (h1 : c ≤ sc C r) (h2 : c ≤ sc C r.reverse) :
    Near f (.node w (r.map P) x) (sm (r.map fun i => (Q i).1) + c, (s.map fun i => (Q i).2).flatten) := by
  obtain ⟨g1, g2⟩ := seq_eq hQ hC s
  have hp : s.Perm r := by
    rcases hs with rfl | rfl
    · exact .refl _
    · exact List.reverse_perm r
  refine ⟨(tol_row hw _ _ _).mpr ?_, ?_, fun o ho => ?_⟩
  · rcases hs with rfl | rfl
    · exact .inl g1
    · right
      rw [← List.map_reverse]
      exact g1
  · show _ + c = _
    rw [g2, hc, sm_perm (hp.map fun i => (Q i).1)]
  · show _ + c ≤ _
    rcases (tol_row hw _ _ _).mp ho with h | h
    · have := seq_le hQ hC r o h
      omega
    · rw [← List.map_reverse] at h
      have := seq_le hQ hC r.reverse o h
      rw [sm_perm ((List.reverse_perm r).map fun i => (Q i).1)] at this
      omega
end
end K22
set_option linter.all false
set_option Elab.async false
set_option maxRecDepth 100000
set_option autoImplicit false
namespace K22
open Pv PySem PySem.Spec L2
open PyProof.Rows hiding St
theorem ltl_nil (a : List Int) : ltL a [] = false := by unfold ltL; rfl
theorem ltl_cons (x y : Int) (a b : List Int) : ltL (x :: a) (y :: b) = if x = y then ltL a b else decide (x < y) := by rw [ltL]
theorem ltl_irr : ∀ a : List Int, ltL a a = false
  | [] => ltl_nil _
  | x :: a => by rw [ltl_cons, if_pos rfl]; exact ltl_irr a
theorem ltl_tr : ∀ {a b c : List Int}, ltL a b = true → ltL b c = true → ltL a c = true
  | a, [], c, h, _ => by rw [ltl_nil] at h; cases h
  | a, y :: b, [], _, h => by rw [ltl_nil] at h; cases h
  | [], y :: b, z :: c, _, _ => by rw [ltL]
  | x :: a, y :: b, z :: c, h1, h2 => by
    rw [ltl_cons] at h1 h2 ⊢
    by_cases c1 : x = y
    · subst c1
      rw [if_pos rfl] at h1
      by_cases c2 : x = z
      · rw [if_pos c2] at h2 ⊢
        exact ltl_tr h1 h2
      · rw [if_neg c2] at h2 ⊢; exact h2
    · rw [if_neg c1, decide_eq_true_eq] at h1
      by_cases c2 : y = z
      · rw [← c2, if_neg c1]; exact decide_eq_true h1
      · rw [if_neg c2, decide_eq_true_eq] at h2
        rw [if_neg (by omega)]
        exact decide_eq_true (by omega)
theorem ltl_tot : ∀ {a b : List Int}, ltL a b = false → ltL b a = false → a = b
  | [], [], _, _ => rfl
  | [], y :: b, h, _ => by rw [ltL] at h; cases h
  | x :: a, [], _, h => by rw [ltL] at h; cases h
  | x :: a, y :: b, h1, h2 => by
    rw [ltl_cons] at h1 h2
    by_cases c : x = y
    · subst c
      rw [if_pos rfl] at h1 h2
      rw [ltl_tot h1 h2]
    · rw [if_neg c, decide_eq_false_iff_not] at h1
      rw [if_neg (fun z => c z.symm), decide_eq_false_iff_not] at h2
      omega
theorem ltl_app : ∀ {a a' : List Int} (b b' : List Int), a.length = a'.length → ltL a a' = false → (a = a' → ltL b b' = false) → ltL (a ++ b) (a' ++ b') = false
  | [], [], b, b', _, _, h => h rfl
  | [], _ :: _, _, _, h, _, _ => by cases h
  | _ :: _, [], _, _, h, _, _ => by cases h
  | x :: a, y :: a', b, b', hl, h1, h => by
    rw [List.cons_append, List.cons_append, ltl_cons]
    rw [ltl_cons] at h1
    by_cases c : x = y
    · subst c
      rw [if_pos rfl] at h1 ⊢
      exact ltl_app b b' (by simpa using hl) h1 fun e => h (by rw [e])
    · rw [if_neg c] at h1 ⊢; exact h1
structure LeastT (g : G) (o : List Int) : Prop where
  tl : tol g o
  le : ∀ o', tol g o' → ltL o' o = false
theorem least_seq : ∀ (Z : List (G × List Int)), (∀ z ∈ Z, LeastT z.1 z.2) → ∀ o, sqT (Z.map Prod.fst) o → ltL o (Z.map Prod.snd).flatten = false
  | [], _, o, _ => ltl_nil _
  | z :: Z, h, o, ho => by
    rw [List.map_cons] at ho
    obtain ⟨a, b, rfl, ha, hb⟩ := (sq_cons _ _ _).mp ho
    rw [List.map_cons, List.flatten_cons]
    have L := h z (by simp)
    refine ltl_app _ _ ?_ (L.le a ha) fun _ => least_seq Z (fun y hy => h y (by simp [hy])) b hb
    rw [(tol_perm _ ha).length_eq, (tol_perm _ L.tl).length_eq]
theorem leas_sub {Z : List (G × List Int)} {z : G × List Int} (h : z ∈ Z) {x : Int} (hx : x ∈ lea z.1) : x ∈ leas (Z.map Prod.fst) :=
  leas_mem.mpr ⟨z.1, List.mem_map.mpr ⟨z, h, rfl⟩, hx⟩
theorem least_any : ∀ (Z Z' : List (G × List Int)), Z'.Perm Z → (∀ z ∈ Z, LeastT z.1 z.2) → (Z.map Prod.snd).Pairwise (fun x y => ltL y x = false) → (leas (Z.map Prod.fst)).Nodup → (∀ z ∈ Z, lea z.1 ≠ []) → ∀ o, sqT (Z'.map Prod.fst) o → ltL o (Z.map Prod.snd).flatten = false
  | [], _, _, _, _, _, _, o, _ => ltl_nil _
  | z :: Z, [], p, _, _, _, _, _, _ => by have := p.length_eq; cases this
  | z :: Z, z' :: Z', p, h, hs, nd, ne, o, ho => by
    rw [List.map_cons] at ho
    obtain ⟨a, b, rfl, ha, hb⟩ := (sq_cons _ _ _).mp ho
    rw [List.map_cons, List.flatten_cons]
    rw [List.map_cons, List.pairwise_cons] at hs
    rw [List.map_cons, leas_cons, List.nodup_append] at nd
    have L := h z (by simp)
    have hz' : z' ∈ z :: Z := p.mem_iff.mp (by simp)
    have L' := h z' hz'
    by_cases c : z' = z
    · subst c
      refine ltl_app _ _ ?_ (L.le a ha) fun _ => least_any Z Z' ((List.perm_cons _).mp p) (fun y hy => h y (by simp [hy])) hs.2 nd.2.1 (fun y hy => ne y (by simp [hy])) b hb
      rw [(tol_perm _ ha).length_eq, (tol_perm _ L.tl).length_eq]
    · have hm : z' ∈ Z := (List.mem_cons.mp hz').resolve_left c
      have la : a ≠ [] := fun e => by
        have := tol_perm _ ha
        rw [e] at this
        exact ne z' hz' this.symm.eq_nil
      have lq : z.2 ≠ [] := fun e => by
        have := tol_perm _ L.tl
        rw [e] at this
        exact ne z (by simp) this.symm.eq_nil
      have lq' : z'.2 ≠ [] := fun e => by
        have := tol_perm _ L'.tl
        rw [e] at this
        exact ne z' hz' this.symm.eq_nil
      have dis : ∀ x ∈ lea z'.1, ∀ y ∈ lea z.1, x ≠ y := fun x hx y hy e => nd.2.2 y hy x (leas_sub hm hx) e.symm
      have sle := hs.1 z'.2 (List.mem_map.mpr ⟨z', hm, rfl⟩)
      have ale := L'.le a ha
      have mA := fun x => (tol_perm _ ha).mem_iff (a := x)
      have mQ := fun x => (tol_perm _ L.tl).mem_iff (a := x)
      have mQ' := fun x => (tol_perm _ L'.tl).mem_iff (a := x)
      cases a with
      | nil => exact absurd rfl la
      | cons x a =>
        cases eq : z.2 with
        | nil => exact absurd eq lq
        | cons y q =>
          cases eq' : z'.2 with
          | nil => exact absurd eq' lq'
          | cons w q' =>
            rw [eq'] at ale sle
            rw [eq] at sle
            have d1 := dis x ((mA x).mp (by simp)) y ((mQ y).mp (by rw [eq]; simp))
            have d2 := dis w ((mQ' w).mp (by rw [eq']; simp)) y ((mQ y).mp (by rw [eq]; simp))
            rw [List.cons_append, List.cons_append, ltl_cons, if_neg d1, decide_eq_false_iff_not]
            rw [ltl_cons, if_neg d2, decide_eq_false_iff_not] at sle
            have : ¬ x < w := by
              intro l
              rw [ltl_cons, if_neg (by omega), decide_eq_false_iff_not] at ale
              exact ale l
            omega
theorem lst_any {Z Zs : List (G × List Int)} {x : Bool} (p : Zs.Perm Z) (h : ∀ z ∈ Z, LeastT z.1 z.2) (hs : (Zs.map Prod.snd).Pairwise (fun x y => ltL y x = false)) (nd : (leas (Z.map Prod.fst)).Nodup) (ne : ∀ z ∈ Z, lea z.1 ≠ []) : LeastT (.node "any" (Z.map Prod.fst) x) (Zs.map Prod.snd).flatten where
  tl := (tol_any _ _ _).mpr ⟨Zs.map Prod.fst, p.map _, by
    have : ∀ (L : List (G × List Int)), (∀ z ∈ L, LeastT z.1 z.2) → sqT (L.map Prod.fst) (L.map Prod.snd).flatten := by
      intro L
      induction L with
      | nil => intro _; rw [List.map_nil, sq_nil]; rfl
      | cons z L ih =>
        intro hL
        rw [List.map_cons, List.map_cons, List.flatten_cons]
        exact (sq_cons _ _ _).mpr ⟨_, _, rfl, (hL z (by simp)).tl, ih fun y hy => hL y (by simp [hy])⟩
    exact this Zs fun z hz => h z (p.mem_iff.mp hz)⟩
  le := fun o ho => by
    obtain ⟨qs, hp, hq⟩ := (tol_any _ _ _).mp ho
    obtain ⟨Z', p', rfl⟩ := perm_of_map Prod.fst hp rfl
    exact least_any Zs Z' (p'.trans p.symm) (fun z hz => h z (p.mem_iff.mp hz)) hs ((leas_perm (p.map Prod.fst)).nodup_iff.mpr nd) (fun z hz => ne z (p.mem_iff.mp hz)) o hq
theorem lst_row {Z : List (G × List Int)} {x : Bool} {w : Str} (hw : w ≠ "any") (h : ∀ z ∈ Z, LeastT z.1 z.2) : LeastT (.node w (Z.map Prod.fst) x) (if ltL (Z.map Prod.snd).reverse.flatten (Z.map Prod.snd).flatten = true then (Z.map Prod.snd).reverse.flatten else (Z.map Prod.snd).flatten) := by
  have sq : ∀ (L : List (G × List Int)), (∀ z ∈ L, LeastT z.1 z.2) → sqT (L.map Prod.fst) (L.map Prod.snd).flatten := by
    intro L
    induction L with
    | nil => intro _; rw [List.map_nil, sq_nil]; rfl
    | cons z L ih =>
      intro hL
      rw [List.map_cons, List.map_cons, List.flatten_cons]
      exact (sq_cons _ _ _).mpr ⟨_, _, rfl, (hL z (by simp)).tl, ih fun y hy => hL y (by simp [hy])⟩
  have h' : ∀ z ∈ Z.reverse, LeastT z.1 z.2 := fun z hz => h z (List.mem_reverse.mp hz)
  have s1 := sq Z h
  have s2 := sq Z.reverse h'
  have l1 := least_seq Z h
  have l2 := least_seq Z.reverse h'
  rw [List.map_reverse, List.map_reverse] at s2
  rw [List.map_reverse, List.map_reverse] at l2
  generalize (Z.map Prod.snd).flatten = A at *
  generalize (Z.map Prod.snd).reverse.flatten = B at *
  cases c : ltL B A with
  | true =>
    rw [if_pos rfl]
    refine ⟨(tol_row hw _ _ _).mpr (.inr s2), fun o ho => ?_⟩
    rcases (tol_row hw _ _ _).mp ho with q | q
    · rw [Bool.eq_false_iff]
      intro z
      have := l1 o q
      rw [ltl_tr z c] at this
      cases this
    · exact l2 o q
  | false =>
    rw [if_neg (by simp)]
    refine ⟨(tol_row hw _ _ _).mpr (.inl s1), fun o ho => ?_⟩
    rcases (tol_row hw _ _ _).mp ho with q | q
    · exact l1 o q
    · rw [Bool.eq_false_iff]
      intro z
      cases d : ltL A B with
      | true =>
        have := l2 o q
        rw [ltl_tr z d] at this
        cases this
      | false =>
        rw [ltl_tot d c] at z
        rw [l2 o q] at z
        cases z
end K22
set_option Elab.async false
set_option linter.all false
set_option maxRecDepth 100000
namespace K22
open Pv PySem PySem.Spec L2
open PyProof.Rows hiding St
theorem jo_loop {A : Pv.Slot} : ∀ (L : List (List PV)) (acc : List PV), acc.length + L.flatten.length ≤ 1000 →
    compr2 (tName 1) (Pv.ret true) (mSeq (eVar 1)) (tName 2) (Pv.ret true) (eVar 2) [1, 2] [2] acc (L.map .lst) [A, .no, .no] = .ok (acc ++ L.flatten) [A, .no, .no]
  | [], acc, _ => by rw [List.map_nil, compr2, List.flatten_nil, List.append_nil]; rfl
  | l :: L, acc, h => by
    rw [List.flatten_cons, List.length_append] at h
    have ih := jo_loop (A := A) L (acc ++ l) (by rw [List.length_append]; omega)
    have hc := compr_id (v := 2) l acc [A, .val (.lst l), .no] rfl (by rw [SZ]; omega)
    rw [List.map_cons, compr2, List.flatten_cons, ← List.append_assoc]
    have e1 : tName 1 (.lst l) [A, .no, .no] = some [A, .val (.lst l), .no] := rfl
    have e2 : (Pv.ret true : M Bool) [A, .val (.lst l), .no] = .ok true [A, .val (.lst l), .no] := rfl
    have e3 : mSeq (eVar 1) [A, .val (.lst l), .no] = .ok l [A, .val (.lst l), .no] := rfl
    have e4 : wipeE [A, .val (.lst l), .no] [2] = [A, .val (.lst l), .no] := rfl
    have e5 : wipeE [A, .val (.lst l), .no] [1, 2] = [A, .no, .no] := rfl
    simp only [e1, e2, e3, e4, hc, e5]
    exact ih
theorem joined_ok (L : List (List PV)) (h : L.flatten.length ≤ 1000) : fn_joined [.lst (L.map .lst)] = .ok (.lst L.flatten, true) := by
  have e := jo_loop (A := .val (.lst (L.map .lst))) L [] (by simpa using h)
  rw [List.nil_append] at e
  unfold fn_joined st_joined
  generalize L.map PV.lst = Q at *
  refine runF_ok (ev' := [.val (.lst Q), .no, .no]) ?_ rfl (by decide)
  refine sq_rt ?_
  have e0 : mSeq (eVar 0) [.val (.lst Q), .no, .no] = .ok Q [.val (.lst Q), .no, .no] := rfl
  have ew : wipeE [Pv.Slot.val (.lst Q), .no, .no] [1, 2] = [.val (.lst Q), .no, .no] := rfl
  have ec : mComp2 (mSeq (eVar 0)) (tName 1) (Pv.ret true) (mSeq (eVar 1)) (tName 2) (Pv.ret true) (eVar 2) [1, 2] [2] [.val (.lst Q), .no, .no] = .ok (.lst L.flatten, true) [.val (.lst Q), .no, .no] := by
    unfold mComp2
    rw [bnd_ok e0]
    simp only [ew, e]
    rfl
  exact (bnd_ok ec).trans rfl
def sv_least_listed (Fjoined r_ : Fn) : M Fl := sq (mIfS (tTru (look (mIsi "int" (pVar 0)))) (sq (bnd (mLst (aCons (eVar 0) (Pv.ret []))) mRet) (Pv.ret .nx)) (Pv.ret .nx)) (sq (bnd (eVar 0) fun r => mTgt (tNames [1, 2]) r.1) (sq (bnd (mComp (mSeq (eVar 2)) (tName 4) (Pv.ret true) (eFn r_ (aCons (eVar 4) (Pv.ret []))) [4]) (setR 3)) (sq (mIfS (blOf (eOp (gEq false) (pVar 1) (look (eC (.str "any"))))) (sq (bnd (eFn Fjoined (aCons (eCall gSortL (kCons (pVar 3) (Pv.ret []))) (Pv.ret []))) mRet) (Pv.ret .nx)) (Pv.ret .nx)) (sq (bnd (eCall gMinL (aCons (eFn Fjoined (aCons (eVar 3) (Pv.ret []))) (aCons (eFn Fjoined (aCons (mRevA (pVar 3)) (Pv.ret []))) (Pv.ret [])))) mRet) (Pv.ret .nx)))))
theorem un_least_listed (d : Nat) : fn_least_listed (d + 1) = runF 5 1 (sv_least_listed fn_joined (fn_least_listed d)) := rfl
def sv_least_order (Fcheck_own_tree Fleast_listed : Fn) : M Fl := sq (bnd (eFn Fcheck_own_tree (aCons (eVar 0) (Pv.ret []))) fun _ => Pv.ret .nx) (sq (bnd (eCall gTuple (kCons (look (eFn Fleast_listed (aCons (eVar 0) (Pv.ret [])))) (Pv.ret []))) mRet) (Pv.ret .nx))
theorem un_least_order : fn_least_order = runF 1 1 (sv_least_order fn_check_own_tree (fn_least_listed 40)) := rfl
theorem joinL_ok (L : List (List Int)) (h : L.flatten.length ≤ 1000) : fn_joined [.lst (L.map lstP)] = .ok (lstP L.flatten, true) := by
  have := joined_ok (L.map fun l => l.map PV.int) (by rw [← List.map_flatten, List.length_map]; exact h)
  rw [List.map_map, ← List.map_flatten] at this
  exact this
def mcL (r_ : Fn) : M RV := mComp (mSeq (eVar 2)) (tName 4) (Pv.ret true) (eFn r_ (aCons (eVar 4) (Pv.ret []))) [4]
def ll3 (Fj : Fn) : M Fl := mIfS (blOf (eOp (gEq false) (pVar 1) (look (eC (.str "any"))))) (sq (bnd (eFn Fj (aCons (eCall gSortL (kCons (pVar 3) (Pv.ret []))) (Pv.ret []))) mRet) (Pv.ret .nx)) (Pv.ret .nx)
def ll4 (Fj : Fn) : M Fl := bnd (eCall gMinL (aCons (eFn Fj (aCons (eVar 3) (Pv.ret []))) (aCons (eFn Fj (aCons (mRevA (pVar 3)) (Pv.ret []))) (Pv.ret [])))) mRet
theorem ll_eq (Fj r_ : Fn) : sv_least_listed Fj r_ = sq (mIfS (tTru (look (mIsi "int" (pVar 0)))) (sq (bnd (mLst (aCons (eVar 0) (Pv.ret []))) mRet) (Pv.ret .nx)) (Pv.ret .nx)) (sq (bnd (eVar 0) fun r => mTgt (tNames [1, 2]) r.1) (sq (bnd (mcL r_) (setR 3)) (sq (ll3 Fj) (sq (ll4 Fj) (Pv.ret .nx))))) := rfl
theorem kit_ii : kitB "int" "int" = some true := by decide +kernel
theorem kit_ti : kitB "tuple" "int" = some false := by decide +kernel
theorem ll_leaf {Fj r_ : Fn} {i : Int} : runF 5 1 (sv_least_listed Fj r_) [.int i] = .ok (.lst [.int i], true) := by
  unfold sv_least_listed
  simp [kit_ii]
theorem ll_1 {w : Str} {L : List PV} : mIfS (tTru (look (mIsi "int" (pVar 0)))) (sq (bnd (mLst (aCons (eVar 0) (Pv.ret []))) mRet) (Pv.ret .nx)) (Pv.ret .nx) [.val (.tup [.str w, .tup L]), .no, .no, .no, .no] = .ok .nx [.val (.tup [.str w, .tup L]), .no, .no, .no, .no] := by
  simp [kit_ti]
theorem ll_2 {w : Str} {L : List PV} : bnd (eVar 0) (fun r => mTgt (tNames [1, 2]) r.1) [.val (.tup [.str w, .tup L]), .no, .no, .no, .no] = .ok .nx [.val (.tup [.str w, .tup L]), .val (.str w), .val (.tup L), .no, .no] := rfl
theorem ll_3 {mc : M RV} {T W : PV} {L O : List PV} (h : mc [.val T, .val W, .val (.tup L), .no, .no] = .ok (.lst O, true) [.val T, .val W, .val (.tup L), .no, .no]) : bnd mc (setR 3) [.val T, .val W, .val (.tup L), .no, .no] = .ok .nx [.val T, .val W, .val (.tup L), .own O, .no] := by
  rw [bnd_ok h]; rfl
theorem ll_any {Fj : Fn} {T : PV} {L O S J : List PV} (hs : gSortL [.lst O] = some (.lst S, true)) (hj : Fj [.lst S] = .ok (.lst J, true)) : ∃ ev', ll3 Fj [.val T, .val (.str "any"), .val (.tup L), .own O, .no] = .ok (.rt (.lst J, true)) ev' := ⟨[.val T, .val (.str "any"), .val (.tup L), .own O, .no], by
  have g : gEq false (.str "any") (.str "any") = some (.bl true, false) := by rw [gEq_ss]; rfl
  unfold ll3
  simp [-gEq_ss, g, hs, hj]⟩
theorem ll_row {Fj : Fn} {T : PV} {w : Str} {L O : List PV} (hw : w ≠ "any") : ll3 Fj [.val T, .val (.str w), .val (.tup L), .own O, .no] = .ok .nx [.val T, .val (.str w), .val (.tup L), .own O, .no] := by
  have g : gEq false (.str w) (.str "any") = some (.bl false, false) := by rw [gEq_ss]; simp [hw]
  unfold ll3
  simp [-gEq_ss, g]
theorem ll_min {Fj : Fn} {T W A B C : PV} {L O : List PV} (h1 : Fj [.lst O] = .ok (A, true)) (h2 : Fj [.lst O.reverse] = .ok (B, true)) (hm : gMinL [A, B] = some (C, false)) : ∃ ev', ll4 Fj [.val T, .val W, .val (.tup L), .own O, .no] = .ok (.rt (C, false)) ev' := ⟨[.val T, .val W, .val (.tup L), .val (.lst O), .no], by
  unfold ll4
  simp [h1, h2, hm]⟩
theorem mcL_ok {r_ : Fn} {T W : PV} {gs : List G} {O : List (List Int)} (hz : gs.length ≤ 1000) (hl : O.length = gs.length) (h : ∀ (i : Nat) (g : G) (o : List Int), gs[i]? = some g → O[i]? = some o → ∃ b : Bool, r_ [enc g] = .ok (lstP o, b)) : mcL r_ [.val T, .val W, .val (.tup (encs gs)), .no, .no] = .ok (.lst (O.map lstP), true) [.val T, .val W, .val (.tup (encs gs)), .no, .no] := by
  have e1 : encs gs = (gs.zip O).map fun q => enc q.1 := by
    have q : (gs.zip O).map (fun q => enc q.1) = ((gs.zip O).map fun q => q.1).map enc := by rw [List.map_map]; rfl
    rw [q, show ((gs.zip O).map fun q => q.1) = gs from List.map_fst_zip (by omega)]
    exact encs_map gs
  have e2 : O = (gs.zip O).map fun q => q.2 := (List.map_snd_zip (by omega)).symm
  have := comp_map (v := 4) (e := fun q : G × List Int => enc q.1) (g := fun q => lstP q.2) (l := gs.zip O) (mi := mSeq (eVar 2)) (me := eFn r_ (aCons (eVar 4) (Pv.ret []))) (ev := [.val T, .val W, .val (.tup (encs gs)), .no, .no]) (ev1 := [.val T, .val W, .val (.tup (encs gs)), .no, .no]) (by rw [← e1]; rfl) rfl (fun q hq => by
    obtain ⟨i, hi, eq⟩ := List.getElem_of_mem hq
    have g1 : (gs.zip O)[i]? = some q := by rw [List.getElem?_eq_getElem hi, eq]
    rw [List.getElem?_zip_eq_some] at g1
    obtain ⟨b, e⟩ := h i q.1 q.2 g1.1 g1.2
    refine ⟨b, ?_⟩
    generalize encs gs = U
    generalize lstP q.2 = V at *
    have ne := enc_ne q.1
    generalize enc q.1 = Q at *
    show eFn r_ (aCons (eVar 4) (Pv.ret [])) [.val T, .val W, .val (.tup U), .no, .val Q] = .ok (V, b) [.val T, .val W, .val (.tup U), .no, .val Q]
    simp [e]) (by rw [List.length_zip]; omega)
  unfold mcL
  rw [this]
  congr 2
  conv => rhs; rw [e2]
  rw [List.map_map]
  rfl
theorem tols_of : ∀ (gs : List G) (P : G → List Int → Prop), (∀ g ∈ gs, ∃ o, P g o ∧ tol g o) → ∃ os : List (List Int), tols gs os ∧ os.length = gs.length ∧ ∀ (i : Nat) (g : G) (o : List Int), gs[i]? = some g → os[i]? = some o → P g o
  | [], P, _ => ⟨[], by unfold tols; rfl, rfl, fun i g o h => by simp at h⟩
  | g :: gs, P, h => by
    obtain ⟨o, h1, h2⟩ := h g (by simp)
    obtain ⟨os, q1, q2, q3⟩ := tols_of gs P fun x hx => h x (by simp [hx])
    refine ⟨o :: os, by unfold tols; exact ⟨o, os, rfl, h2, q1⟩, by simp [q2], fun i x y hx hy => ?_⟩
    cases i with
    | zero =>
      have e1 : g = x := by simpa using hx
      have e2 : o = y := by simpa using hy
      rw [← e1, ← e2]; exact h1
    | succ i => exact q3 i x y (by simpa using hx) (by simpa using hy)
theorem lo_1 {F1 F2 : Fn} {T : PV} {n : Int} {L : List PV} {b : Bool} (hT : ∀ ps, T ≠ .lst ps) (h1 : F1 [T] = .ok (.int n, false)) (h2 : F2 [T] = .ok (.lst L, b)) : runF 1 1 (sv_least_order F1 F2) [T] = .ok (.tup L, false) := by
  unfold sv_least_order
  simp [h1, h2]
end K22
set_option Elab.async false
set_option linter.all false
set_option maxRecDepth 100000
namespace K22
open Pv PySem PySem.Spec L2
open PyProof.Rows hiding St
theorem order_is (n : Int) (l : List Int) : fn_check_order [.int n, .tup (l.map .int)] = if isOrder n l then .ok (.tup (l.map .int), false) else .exc "InvalidOrder" := by
  have e0 := num_ok n
  unfold isOrder fn_check_order st_check_order
  by_cases c : 1 ≤ n ∧ n ≤ 24
  · have e1 : okRg (0, n) = true := by
      unfold okRg okR
      simp only [Bool.and_eq_true, decide_eq_true_eq]
      have : SZ = 16777216 := rfl
      omega
    have e := gEq_lstI true (isort l) (Pv.upTo 0 n.toNat)
    by_cases q : isort l = Pv.upTo 0 n.toNat
    · rw [if_pos (by rw [decide_eq_true c, decide_eq_true q]; rfl)]
      rw [decide_eq_true q] at e
      simp [e0, c, e1, rgP_eq, e]
    · rw [if_neg (by rw [decide_eq_true c, decide_eq_false q]; simp)]
      rw [decide_eq_false q] at e
      simp [e0, c, e1, rgP_eq, e]
  · rw [if_neg (by rw [decide_eq_false c]; simp)]
    simp [e0, c]
theorem up_cons (k : Int) (m : Nat) : Pv.upTo k (m + 1) = k :: Pv.upTo (k + 1) m := by
  unfold Pv.upTo
  rw [List.range_succ_eq_map, List.map_cons, List.map_map]
  congr 1
  · omega
  · exact List.map_congr_left fun i _ => by show k + ((i + 1 : Nat) : Int) = k + 1 + (i : Nat); omega
theorem sum_ones : ∀ k : Nat, (List.replicate k (1 : Int)).sum = (k : Nat)
  | 0 => rfl
  | k + 1 => by rw [List.replicate_succ, List.sum_cons, sum_ones k]; omega
theorem upTo_cast (n : Nat) : (Pv.upTo 0 n).map PV.int = (List.range n).map fun k : Nat => PV.int (k : Nat) := by
  unfold Pv.upTo
  rw [List.map_map]
  exact List.map_congr_left fun k _ => congrArg PV.int (Int.zero_add _)
def sv_turned : M Fl := sq (bnd (eCall gSum (kCons (look (mComp2 (mSeq (eVar 1)) (tName 3) (Pv.ret true) (mSeq (eVar 2)) (tName 4) (blOf (eOp cGt (look (mIndex (pVar 0) (pVar 3))) (look (mIndex (pVar 0) (pVar 4))))) (eC (.int 1)) [3, 4] [4])) (Pv.ret []))) mRet) (Pv.ret .nx)
theorem un_turned : fn_turned = runF 5 3 (sv_turned ) := rfl
def sv_distance (Fcheck_order Fturned : Fn) : M Fl := sq (bnd (eFn Fcheck_order (aCons (eCall gLen (kCons (pVar 0) (Pv.ret []))) (aCons (eVar 0) (Pv.ret [])))) fun _ => Pv.ret .nx) (sq (bnd (eFn Fcheck_order (aCons (eCall gLen (kCons (pVar 0) (Pv.ret []))) (aCons (eVar 1) (Pv.ret [])))) fun _ => Pv.ret .nx) (sq (bnd (eCall gSum (kCons (look (mComp (mRng1 (kCons (look (eCall gLen (kCons (pVar 0) (Pv.ret [])))) (Pv.ret []))) (tName 2) (Pv.ret true) (eFn Fturned (aCons (eVar 1) (aCons (mLst (aCons (eOp gIx (pVar 0) (pVar 2)) (Pv.ret []))) (aCons (eSl (pVar 0) (soInt (look (eOp gAdd (pVar 2) (look (eC (.int 1)))))) (Pv.ret none)) (Pv.ret []))))) [2])) (Pv.ret []))) mRet) (Pv.ret .nx)))
theorem un_distance : fn_distance = runF 3 2 (sv_distance fn_check_order fn_turned) := rfl
def sv__law_distance : M Fl := sq (bnd (eC (.int 0)) (setR 2)) (sq (bnd (mRng1 (kCons (look (eCall gLen (kCons (pVar 0) (Pv.ret [])))) (Pv.ret []))) (loop (tName 3) (sq (bnd (eOp gAdd (pVar 2) (look (eCall gLen (kCons (look (mComp (mRng1 (kCons (pVar 3) (Pv.ret []))) (tName 4) (blOf (eOp cGt (look (mIndex (pVar 1) (look (eOp gIx (pVar 0) (pVar 4))))) (look (mIndex (pVar 1) (look (eOp gIx (pVar 0) (pVar 3))))))) (eVar 4) [4])) (Pv.ret []))))) (setR 2)) (Pv.ret .nx)))) (sq (mRetV 2) (Pv.ret .nx)))
theorem un__law_distance : fn__law_distance = runF 5 2 (sv__law_distance ) := rfl
def posn (w : List Int) (x : Int) : Int := (w.idxOf x : Nat)
def tct : Pv.M Bool := blOf (eOp cGt (look (mIndex (pVar 0) (pVar 3))) (look (mIndex (pVar 0) (pVar 4))))
def tcm : Pv.M Pv.RV := mComp2 (mSeq (eVar 1)) (tName 3) (Pv.ret true) (mSeq (eVar 2)) (tName 4) (blOf (eOp cGt (look (mIndex (pVar 0) (pVar 3))) (look (mIndex (pVar 0) (pVar 4))))) (eC (.int 1)) [3, 4] [4]
theorem gIxT {w : List Int} {x : Int} (h : x ∈ w) : gIndexT (.tup (w.map .int)) (.int x) = some (.int (posn w x), false) := by
  unfold gIndexT
  simp only [intsP_map]
  rw [if_pos h]; rfl
section
variable {w : List Int} {A B : PV} {x y : Int}
theorem tct_ok (hx : x ∈ w) (hy : y ∈ w) : tct [.val (.tup (w.map .int)), .val A, .val B, .val (.int x), .val (.int y)] = .ok (decide (posn w y < posn w x)) [.val (.tup (w.map .int)), .val A, .val B, .val (.int x), .val (.int y)] := by
  have e1 := gIxT hx
  have e2 := gIxT hy
  generalize w.map PV.int = W at *
  generalize posn w x = a at *
  generalize posn w y = b at *
  unfold tct
  simp [mIndex, e1, e2]
def SeqP (p : PV) (l : List Int) : Prop := p = .lst (l.map .int) ∨ p = .tup (l.map .int)
theorem seq_it {p : PV} {l : List Int} {k : Nat} {ev : SL} (h : SeqP p l) (hk : ev[k]? = some (.val p)) : mSeq (eVar k) ev = .ok (l.map .int) ev := by
  have e : eVar k ev = .ok (p, false) ev := by unfold eVar; rw [hk]
  unfold mSeq
  rw [bnd_ok e]
  rcases h with rfl | rfl <;> rfl
theorem tc_loop {b : List Int} (hB : SeqP B b) (hb : ∀ y ∈ b, y ∈ w) (zb : b.length ≤ 100) : ∀ (a : List Int) (acc : Nat), (∀ x ∈ a, x ∈ w) → acc + a.length * 100 ≤ 100000 →
    compr2 (tName 3) (Pv.ret true) (mSeq (eVar 2)) (tName 4) tct (eC (.int 1)) [3, 4] [4] (List.replicate acc (.int 1)) (a.map .int) [.val (.tup (w.map .int)), .val A, .val B, .no, .no] = .ok (List.replicate (acc + tn (posn w) a b) (.int 1)) [.val (.tup (w.map .int)), .val A, .val B, .no, .no]
  | [], acc, _, _ => by rw [List.map_nil, compr2, tn_nil, Nat.add_zero]; rfl
  | x :: a, acc, ha, hz => by
    rw [List.length_cons] at hz
    have hx := ha x (by simp)
    have fl : (b.filter fun y => decide (posn w y < posn w x)).length ≤ 100 := Nat.le_trans (List.length_filter_le _ _) zb
    have ih := tc_loop hB hb zb a (acc + (b.filter fun y => decide (posn w y < posn w x)).length) (fun y hy => ha y (by simp [hy])) (by omega)
    have hc := compr_gen (v := 4) (mt := tct) (me := eC (.int 1)) (e := PV.int) (c := fun y => decide (posn w y < posn w x)) (g := fun _ => PV.int 1) (ev := [.val (.tup (w.map .int)), .val A, .val B, .val (.int x), .no]) rfl b (List.replicate acc (.int 1)) (fun y hy => tct_ok hx (hb y hy)) (fun y _ _ => ⟨false, rfl⟩) (by rw [List.length_replicate]; omega)
    have el : List.replicate acc (PV.int 1) ++ (b.filter fun y => decide (posn w y < posn w x)).map (fun _ => PV.int 1) = List.replicate (acc + (b.filter fun y => decide (posn w y < posn w x)).length) (.int 1) := by
      rw [List.map_const', List.replicate_append_replicate]
    rw [el] at hc
    have e1 : tName 3 (.int x) [.val (.tup (w.map .int)), .val A, .val B, .no, .no] = some [.val (.tup (w.map .int)), .val A, .val B, .val (.int x), .no] := rfl
    have e2 : (Pv.ret true : Pv.M Bool) [.val (.tup (w.map .int)), .val A, .val B, .val (.int x), .no] = .ok true [.val (.tup (w.map .int)), .val A, .val B, .val (.int x), .no] := rfl
    have e3 : mSeq (eVar 2) [.val (.tup (w.map .int)), .val A, .val B, .val (.int x), .no] = .ok (b.map .int) [.val (.tup (w.map .int)), .val A, .val B, .val (.int x), .no] := seq_it hB rfl
    have e4 : wipeE [.val (.tup (w.map .int)), .val A, .val B, .val (.int x), .no] [4] = [.val (.tup (w.map .int)), .val A, .val B, .val (.int x), .no] := rfl
    have e5 : wipeE [.val (.tup (w.map .int)), .val A, .val B, .val (.int x), .no] [3, 4] = [.val (.tup (w.map .int)), .val A, .val B, .no, .no] := rfl
    rw [List.map_cons, compr2, tn_cons, ← Nat.add_assoc]
    simp only [e1, e2, e3, e4, hc, e5]
    exact ih
theorem tcm_ok {a b : List Int} (hA : SeqP A a) (hB : SeqP B b) (ha : ∀ x ∈ a, x ∈ w) (hb : ∀ y ∈ b, y ∈ w) (za : a.length ≤ 100) (zb : b.length ≤ 100) : tcm [.val (.tup (w.map .int)), .val A, .val B, .no, .no] = .ok (.lst (List.replicate (tn (posn w) a b) (.int 1)), true) [.val (.tup (w.map .int)), .val A, .val B, .no, .no] := by
  have e := tc_loop (w := w) (A := A) hB hb zb a 0 ha (by omega)
  rw [Nat.zero_add] at e
  have e1 : mSeq (eVar 1) [.val (.tup (w.map .int)), .val A, .val B, .no, .no] = .ok (a.map .int) [.val (.tup (w.map .int)), .val A, .val B, .no, .no] := seq_it hA rfl
  unfold tcm mComp2
  rw [bnd_ok e1]
  have w0 : wipeE [.val (.tup (w.map .int)), .val A, .val B, .no, .no] [3, 4] = [.val (.tup (w.map .int)), .val A, .val B, .no, .no] := rfl
  unfold tct at e
  have e' : compr2 (tName 3) (Pv.ret true) (mSeq (eVar 2)) (tName 4) (blOf (eOp cGt (look (mIndex (pVar 0) (pVar 3))) (look (mIndex (pVar 0) (pVar 4))))) (eC (.int 1)) [3, 4] [4] [] (a.map .int) [.val (.tup (w.map .int)), .val A, .val B, .no, .no] = .ok (List.replicate (tn (posn w) a b) (.int 1)) [.val (.tup (w.map .int)), .val A, .val B, .no, .no] := e
  simp only [w0, e']
  rfl
end
theorem gSum_ones (k : Nat) : gSum [.lst (List.replicate k (.int 1))] = some (.int (k : Nat), false) := by
  have e : List.replicate k (PV.int 1) = (List.replicate k (1 : Int)).map PV.int := by rw [List.map_replicate]
  rw [e]
  show (intsP ((List.replicate k (1 : Int)).map PV.int)).map _ = _
  rw [intsP_map]
  rw [Option.map_some, sum_ones]
theorem tr_v {mc : Pv.M Pv.RV} {W A B : PV} {L : List PV} {k : Int} (h : mc [.val W, .val A, .val B, .no, .no] = .ok (.lst L, true) [.val W, .val A, .val B, .no, .no]) (g : gSum [.lst L] = some (.int k, false)) : runF 5 3 (sq (bnd (eCall gSum (kCons (look mc) (Pv.ret []))) mRet) (Pv.ret .nx)) [W, A, B] = .ok (.int k, false) := by
  simp [h, g]
theorem turned_ok {w a b : List Int} {A B : PV} (hA : SeqP A a) (hB : SeqP B b) (ha : ∀ x ∈ a, x ∈ w) (hb : ∀ y ∈ b, y ∈ w) (za : a.length ≤ 100) (zb : b.length ≤ 100) : fn_turned [.tup (w.map .int), A, B] = .ok (.int (tn (posn w) a b : Nat), false) := by
  rw [un_turned]
  exact tr_v (tcm_ok hA hB ha hb za zb) (gSum_ones _)
theorem gSum_sm (l : List Int) : gSum [.lst (l.map .int)] = some (.int (sm l), false) := by
  show (intsP (l.map PV.int)).map _ = _
  rw [intsP_map, Option.map_some]
  have : ∀ l : List Int, l.sum = sm l := by
    intro l
    induction l with
    | nil => rfl
    | cons x l ih => rw [List.sum_cons, ih]; rfl
  rw [this]
def dcm (Fturned : Fn) : Pv.M Pv.RV := mComp (mRng1 (kCons (look (eCall gLen (kCons (pVar 0) (Pv.ret [])))) (Pv.ret []))) (tName 2) (Pv.ret true) (eFn Fturned (aCons (eVar 1) (aCons (mLst (aCons (eOp gIx (pVar 0) (pVar 2)) (Pv.ret []))) (aCons (eSl (pVar 0) (soInt (look (eOp gAdd (pVar 2) (look (eC (.int 1)))))) (Pv.ret none)) (Pv.ret []))))) [2]
def dce (Fturned : Fn) : Pv.M Pv.RV := eFn Fturned (aCons (eVar 1) (aCons (mLst (aCons (eOp gIx (pVar 0) (pVar 2)) (Pv.ret []))) (aCons (eSl (pVar 0) (soInt (look (eOp gAdd (pVar 2) (look (eC (.int 1)))))) (Pv.ret none)) (Pv.ret []))))
theorem dcm_eq (Fturned : Fn) : dcm Fturned = mComp (mRng1 (kCons (look (eCall gLen (kCons (pVar 0) (Pv.ret [])))) (Pv.ret []))) (tName 2) (Pv.ret true) (dce Fturned) [2] := rfl
theorem dce_ok {F : Fn} {W : PV} {O : List PV} {k x : Int} {r : Int} {D : List PV} (h0 : atI O k = some (.int x)) (hD : cutP O (some (k + 1)) none = D) (h : F [W, .lst [.int x], .tup D] = .ok (.int r, false)) (hW : ∀ ps, W ≠ .lst ps) : dce F [.val (.tup O), .val W, .val (.int k)] = .ok (.int r, false) [.val (.tup O), .val W, .val (.int k)] := by
  unfold dce
  simp [h0, hD, h]
theorem ds_v {Fc : Fn} {O W : List PV} {n : Int} {L : List PV} {mc : Pv.M Pv.RV} {k : Int} (gl : gLen [.tup O] = some (.int n, false)) (h1 : Fc [.int n, .tup O] = .ok (.tup O, false)) (h2 : Fc [.int n, .tup W] = .ok (.tup W, false)) (h : mc [.val (.tup O), .val (.tup W), .no] = .ok (.lst L, true) [.val (.tup O), .val (.tup W), .no]) (g : gSum [.lst L] = some (.int k, false)) : runF 3 2 (sq (bnd (eFn Fc (aCons (eCall gLen (kCons (pVar 0) (Pv.ret []))) (aCons (eVar 0) (Pv.ret [])))) fun _ => Pv.ret .nx) (sq (bnd (eFn Fc (aCons (eCall gLen (kCons (pVar 0) (Pv.ret []))) (aCons (eVar 1) (Pv.ret [])))) fun _ => Pv.ret .nx) (sq (bnd (eCall gSum (kCons (look mc) (Pv.ret []))) mRet) (Pv.ret .nx)))) [.tup O, .tup W] = .ok (.int k, false) := by
  simp [-gLen_t, gl, h1, h2, h, g]
theorem cut_from {O : List Int} (k : Nat) : cutP (O.map PV.int) (some ((k : Int) + 1)) none = (O.drop (k + 1)).map .int := by
  have e : HT.sIx (O.map PV.int).length 0 (some ((k : Int) + 1)) = min (k + 1) O.length := by
    unfold HT.sIx
    rw [List.length_map]
    simp
    omega
  have e2 : HT.sIx (O.map PV.int).length (O.map PV.int).length none = O.length := by
    unfold HT.sIx
    rw [List.length_map]
  unfold cutP
  rw [e, e2, List.map_drop]
  by_cases c : k + 1 ≤ O.length
  · rw [Nat.min_eq_left c, List.take_of_length_le (by rw [List.length_drop, List.length_map]; omega)]
  · rw [Nat.min_eq_right (by omega), List.drop_of_length_le (by rw [List.length_map]; omega), List.drop_of_length_le (by rw [List.length_map]; omega)]; simp
theorem inv_sum (f : Int → Int) : ∀ o : List Int, sm ((List.range o.length).map fun k => ((tn f [o.getD k 0] (o.drop (k + 1)) : Nat) : Int)) = inv f o
  | [] => rfl
  | x :: o => by
    have ih := inv_sum f o
    rw [List.length_cons, List.range_succ_eq_map, List.map_cons, List.map_map, sm_cons]
    have e : (List.range o.length).map ((fun k => ((tn f [(x :: o).getD k 0] ((x :: o).drop (k + 1)) : Nat) : Int)) ∘ Nat.succ) = (List.range o.length).map fun k => ((tn f [o.getD k 0] (o.drop (k + 1)) : Nat) : Int) := rfl
    rw [e, ih]
    show ((tn f [x] o : Nat) : Int) + _ = ((_ + inv f o : Nat) : Int)
    rw [tn_cons, tn_nil]
    omega
theorem distance_ok {n : Nat} {o w : List Int} (h1 : isOrder (n : Nat) o = true) (h2 : isOrder (n : Nat) w = true) : fn_distance [.tup (o.map .int), .tup (w.map .int)] = .ok (.int (inv (posn w) o : Nat), false) := by
  have p1 := order_perm h1
  have p2 := order_perm h2
  have hn : n ≤ 24 := by
    unfold isOrder at h1
    rw [Bool.and_eq_true, decide_eq_true_eq] at h1
    omega
  rw [Int.toNat_natCast] at p1 p2
  have lo : o.length = n := by rw [p1.length_eq, upTo_len]
  have mem : ∀ x ∈ o, x ∈ w := fun x hx => p2.mem_iff.mpr (p1.mem_iff.mp hx)
  have c1 := order_is (n : Nat) o
  have c2 := order_is (n : Nat) w
  rw [if_pos h1] at c1
  rw [if_pos h2] at c2
  have gl : gLen [.tup (o.map PV.int)] = some (.int (n : Nat), false) := by rw [gLen_t, List.length_map, lo]
  have r1 : mRng1 (kCons (look (eCall gLen (kCons (pVar 0) (Pv.ret [])))) (Pv.ret [])) [.val (.tup (o.map .int)), .val (.tup (w.map .int)), .no] = .ok ((List.range n).map fun k => PV.int (k : Nat)) [.val (.tup (o.map .int)), .val (.tup (w.map .int)), .no] := by
    have := rngN_ok (n := n) (m := kCons (look (eCall gLen (kCons (pVar 0) (Pv.ret [])))) (Pv.ret [])) (ev := [.val (.tup (o.map .int)), .val (.tup (w.map .int)), .no]) (ev' := [.val (.tup (o.map .int)), .val (.tup (w.map .int)), .no]) (by
      generalize o.map PV.int = O at *
      generalize w.map PV.int = W
      generalize ((n : Nat) : Int) = z at *
      simp [-gLen_t, gl]) (by omega)
    rw [upTo_cast] at this
    exact this
  have m := comp_map (v := 2) (me := dce fn_turned) (e := fun k : Nat => PV.int (k : Nat)) (g := fun k : Nat => PV.int (tn (posn w) [o.getD k 0] (o.drop (k + 1)) : Nat)) (l := List.range n) r1 rfl (fun k hk => by
    have hk' := List.mem_range.mp hk
    refine ⟨false, ?_⟩
    have a0 : atI (o.map PV.int) (k : Nat) = some (.int (o.getD k 0)) := atI_nat (j := k) (by
      rw [List.getElem?_map, List.getD_eq_getElem?_getD, List.getElem?_eq_getElem (by omega)]; rfl)
    have hx : o.getD k 0 ∈ o := by
      rw [List.getD_eq_getElem?_getD, List.getElem?_eq_getElem (by omega)]
      exact List.getElem_mem _
    have ld : (o.drop (k + 1)).length ≤ 100 := by rw [List.length_drop]; omega
    exact dce_ok a0 (cut_from k) (turned_ok (w := w) (a := [o.getD k 0]) (b := o.drop (k + 1)) (.inl rfl) (.inr rfl) (fun x hxx => by rw [List.mem_singleton.mp hxx]; exact mem _ hx) (fun y hy => mem _ (List.mem_of_mem_drop hy)) (by show 1 ≤ 100; omega) ld) (fun ps z => by cases z)) (by rw [List.length_range]; omega)
  rw [← dcm_eq] at m
  have e := inv_sum (posn w) o
  rw [lo] at e
  have g := gSum_sm ((List.range n).map fun k => ((tn (posn w) [o.getD k 0] (o.drop (k + 1)) : Nat) : Int))
  rw [e, List.map_map] at g
  rw [un_distance]
  exact ds_v gl c1 c2 m g
def lct : Pv.M Bool := blOf (eOp cGt (look (mIndex (pVar 1) (look (eOp gIx (pVar 0) (pVar 4))))) (look (mIndex (pVar 1) (look (eOp gIx (pVar 0) (pVar 3))))))
def lcm : Pv.M Pv.RV := mComp (mRng1 (kCons (pVar 3) (Pv.ret []))) (tName 4) (blOf (eOp cGt (look (mIndex (pVar 1) (look (eOp gIx (pVar 0) (pVar 4))))) (look (mIndex (pVar 1) (look (eOp gIx (pVar 0) (pVar 3))))))) (eVar 4) [4]
def ldb (C : Pv.M Pv.RV) : Pv.M Fl := bnd (eOp gAdd (pVar 2) (look (eCall gLen (kCons (look C) (Pv.ret []))))) (setR 2)
theorem ld_eq : sv__law_distance = sq (bnd (eC (.int 0)) (setR 2)) (sq (bnd (mRng1 (kCons (look (eCall gLen (kCons (pVar 0) (Pv.ret [])))) (Pv.ret []))) (loop (tName 3) (sq (ldb lcm) (Pv.ret .nx)))) (sq (mRetV 2) (Pv.ret .nx))) := rfl
section
variable {o w : List Int} {k j a b z : Int}
theorem lct_ok {O W : List PV} {s4 : Int} (h1 : atI O s4 = some (.int a)) (h2 : atI O j = some (.int b)) {p q : Int} (g1 : gIndexT (.tup W) (.int a) = some (.int p, false)) (g2 : gIndexT (.tup W) (.int b) = some (.int q, false)) : lct [.val (.tup O), .val (.tup W), .val (.int z), .val (.int j), .val (.int s4)] = .ok (decide (q < p)) [.val (.tup O), .val (.tup W), .val (.int z), .val (.int j), .val (.int s4)] := by
  unfold lct
  simp [mIndex, h1, h2, g1, g2]
theorem ldb_ok {O W L : List PV} {C : Pv.M Pv.RV} {c : Int} (h : C [.val (.tup O), .val (.tup W), .val (.int z), .val (.int j), .no] = .ok (.lst L, true) [.val (.tup O), .val (.tup W), .val (.int z), .val (.int j), .no]) (hl : gLen [.lst L] = some (.int c, false)) : ldb C [.val (.tup O), .val (.tup W), .val (.int z), .val (.int j), .no] = .ok .nx [.val (.tup O), .val (.tup W), .val (.int (z + c)), .val (.int j), .no] := by
  unfold ldb
  simp [-gLen_l, h, hl]
end
theorem lcm_ok {o w : List Int} {j : Nat} {z : Int} (hj : j < o.length) (hz : o.length ≤ 100) (mem : ∀ x ∈ o, x ∈ w) : ∃ L : List PV, lcm [.val (.tup (o.map .int)), .val (.tup (w.map .int)), .val (.int z), .val (.int (j : Nat)), .no] = .ok (.lst L, true) [.val (.tup (o.map .int)), .val (.tup (w.map .int)), .val (.int z), .val (.int (j : Nat)), .no] ∧ L.length = ((o.take j).filter fun y => decide (posn w (o.getD j 0) < posn w y)).length := by
  have at_ : ∀ k : Nat, k < o.length → atI (o.map PV.int) (k : Nat) = some (.int (o.getD k 0)) := fun k hk => atI_nat (j := k) (by
      rw [List.getElem?_map, List.getD_eq_getElem?_getD, List.getElem?_eq_getElem hk]; rfl)
  have mm : ∀ k : Nat, k < o.length → o.getD k 0 ∈ w := fun k hk => mem _ (by
      rw [List.getD_eq_getElem?_getD, List.getElem?_eq_getElem hk]
      exact List.getElem_mem _)
  have r1 : mRng1 (kCons (pVar 3) (Pv.ret [])) [.val (.tup (o.map .int)), .val (.tup (w.map .int)), .val (.int z), .val (.int (j : Nat)), .no] = .ok ((List.range j).map fun k => PV.int (k : Nat)) [.val (.tup (o.map .int)), .val (.tup (w.map .int)), .val (.int z), .val (.int (j : Nat)), .no] := by
    have := rngN_ok (n := j) (m := kCons (pVar 3) (Pv.ret [])) (ev := [.val (.tup (o.map .int)), .val (.tup (w.map .int)), .val (.int z), .val (.int (j : Nat)), .no]) (ev' := [.val (.tup (o.map .int)), .val (.tup (w.map .int)), .val (.int z), .val (.int (j : Nat)), .no]) (by
      generalize o.map PV.int = O at *
      generalize w.map PV.int = W
      generalize ((j : Nat) : Int) = z at *
      simp) (by omega)
    rw [upTo_cast] at this
    exact this
  have m := comp_gen (v := 4) (mt := lct) (me := eVar 4) (e := fun k : Nat => PV.int (k : Nat)) (c := fun k => decide (posn w (o.getD j 0) < posn w (o.getD k 0))) (g := fun k : Nat => PV.int (k : Nat)) (l := List.range j) r1 rfl (fun k hk => by
    have hk' := List.mem_range.mp hk
    exact lct_ok (at_ k (by omega)) (at_ j hj) (gIxT (mm k (by omega))) (gIxT (mm j hj))) (fun k _ _ => ⟨false, rfl⟩) (by rw [List.length_range]; omega)
  refine ⟨_, m, ?_⟩
  rw [List.length_map]
  have e : o.take j = (List.range j).map fun k => o.getD k 0 := by
    apply List.ext_getElem
    · rw [List.length_take, List.length_map, List.length_range]; omega
    · intro i h1 h2
      rw [List.getElem_take, List.getElem_map, List.getElem_range, List.getD_eq_getElem?_getD, List.getElem?_eq_getElem (by rw [List.length_take] at h1; omega)]
      rfl
  rw [e, List.filter_map, List.length_map]
  rfl
theorem ld_loop {o w : List Int} (hz : o.length ≤ 100) (mem : ∀ x ∈ o, x ∈ w) : ∀ (m j : Nat) (s3 : Pv.Slot), j + m = o.length → ∃ s3', loop (tName 3) (sq (ldb lcm) (Pv.ret .nx)) ((Pv.upTo (j : Nat) m).map .int) [.val (.tup (o.map .int)), .val (.tup (w.map .int)), .val (.int (inv (posn w) (o.take j) : Nat)), s3, .no] = .ok .nx [.val (.tup (o.map .int)), .val (.tup (w.map .int)), .val (.int (inv (posn w) o : Nat)), s3', .no]
  | 0, j, s3, h => ⟨s3, by
    rw [List.take_of_length_le (by omega)]
    rfl⟩
  | m + 1, j, s3, h => by
    obtain ⟨L, e1, lL⟩ := lcm_ok (z := (inv (posn w) (o.take j) : Nat)) (j := j) (by omega) hz mem
    have gl : gLen [.lst L] = some (.int (L.length : Nat), false) := rfl
    have eb := ldb_ok e1 gl
    obtain ⟨s3', ih⟩ := ld_loop hz mem m (j + 1) (.val (.int (j : Nat))) (by omega)
    refine ⟨s3', ?_⟩
    have et : o.take (j + 1) = o.take j ++ [o.getD j 0] := by
      rw [List.take_succ, List.getElem?_eq_getElem (by omega), List.getD_eq_getElem?_getD, List.getElem?_eq_getElem (by omega)]
      rfl
    have ei : ((inv (posn w) (o.take j) : Nat) : Int) + (L.length : Nat) = (inv (posn w) (o.take (j + 1)) : Nat) := by
      rw [et, inv_snoc, lL]; omega
    rw [ei] at eb
    have ej : ((j + 1 : Nat) : Int) = (j : Int) + 1 := by omega
    rw [ej] at ih
    rw [up_cons, List.map_cons]
    exact (loop_nx rfl ((sq_nx eb).trans rfl)).trans ih
theorem ld_0 {O W : PV} : (bnd (eC (.int 0)) (setR 2)) [.val O, .val W, .no, .no, .no] = .ok .nx [.val O, .val W, .val (.int 0), .no, .no] := rfl
theorem lawdist_ok {o w : List Int} (hz : o.length ≤ 100) (mem : ∀ x ∈ o, x ∈ w) : fn__law_distance [.tup (o.map .int), .tup (w.map .int)] = .ok (.int (inv (posn w) o : Nat), false) := by
  have r1 : mRng1 (kCons (look (eCall gLen (kCons (pVar 0) (Pv.ret [])))) (Pv.ret [])) [.val (.tup (o.map .int)), .val (.tup (w.map .int)), .val (.int 0), .no, .no] = .ok ((Pv.upTo 0 o.length).map .int) [.val (.tup (o.map .int)), .val (.tup (w.map .int)), .val (.int 0), .no, .no] := rngN_ok (n := o.length) (by
      have gl : gLen [.tup (o.map PV.int)] = some (.int (o.length : Nat), false) := by rw [gLen_t, List.length_map]
      generalize o.map PV.int = O at *
      generalize w.map PV.int = W
      generalize ((o.length : Nat) : Int) = z at *
      simp [-gLen_t, gl]) (by omega)
  obtain ⟨s3', e⟩ := ld_loop (w := w) hz mem o.length 0 .no (by omega)
  rw [un__law_distance, ld_eq]
  exact runF_ok ((sq_nx ld_0).trans ((sq_nx ((bnd_ok r1).trans e)).trans (sq_rt rfl))) rfl (by decide)
end K22
set_option Elab.async false
set_option linter.all false
set_option maxRecDepth 100000
namespace K22
open Pv PySem PySem.Spec L2
open PyProof.Rows hiding St
def sv_put_behind : M Fl := sq (bnd (eVar 1) fun r => mTgt (tNames [3, 4]) r.1) (sq (bnd (mTup (aCons (eOp gAdd (pVar 3) (look (eCall gSum (kCons (look (mComp (mSeq (eVar 4)) (tName 5) (Pv.ret true) (eOp gIx (look (eOp gIx (pVar 0) (pVar 5))) (pVar 2)) [5])) (Pv.ret []))))) (aCons (eOp gAdd (pVar 4) (look (mTup (aCons (eVar 2) (Pv.ret []))))) (Pv.ret [])))) mRet) (Pv.ret .nx))
theorem un_put_behind : fn_put_behind = runF 6 3 (sv_put_behind ) := rfl
def sv_best_sequence (Fput_behind : Fn) : M Fl := sq (bnd (eCall gLen (kCons (pVar 0) (Pv.ret []))) (setR 1)) (sq (bnd (look (eC (.int 0))) fun y => bnd (mTup (aCons (eC (.int 0)) (aCons (mTup (Pv.ret [])) (Pv.ret [])))) fun r => mNewD 2 y r.1) (sq (bnd (mRng2 (kCons (look (eC (.int 1))) (kCons (look (eOp gShl (look (eC (.int 1))) (pVar 1))) (Pv.ret [])))) (loop (tName 3) (sq (bnd (mComp (mRng1 (kCons (pVar 1) (Pv.ret []))) (tName 5) (tTru (look (eOp gOdd (look (eOp gShr (pVar 3) (pVar 5))) (look (eC (.int 1)))))) (eVar 5) [5]) (setR 4)) (sq (bnd (eCall gMinD (kCons (look (mComp (mSeq (eVar 4)) (tName 6) (Pv.ret true) (eFn Fput_behind (aCons (eVar 0) (aCons (mGetD 2 (look (eOp aSub (pVar 3) (look (eOp gShl (look (eC (.int 1))) (pVar 6)))))) (aCons (eVar 6) (Pv.ret []))))) [6])) (Pv.ret []))) fun r => mPutD 2 (pVar 3) r.1) (Pv.ret .nx))))) (sq (bnd (mGetD 2 (look (eOp aSub (look (eOp gShl (look (eC (.int 1))) (pVar 1))) (look (eC (.int 1)))))) mRet) (Pv.ret .nx))))
theorem un_best_sequence : fn_best_sequence = runF 7 1 (sv_best_sequence fn_put_behind) := rfl
def sv_best_direction : M Fl := sq (bnd (mLstRg (mRg1 (look (eCall gLen (kCons (pVar 0) (Pv.ret [])))))) (setR 1)) (sq (bnd (mComp (mComb (pVar 1) (look (eC (.int 2)))) (tNames [4, 5]) (Pv.ret true) (eOp gIx (look (eOp gIx (pVar 0) (pVar 4))) (pVar 5)) [4, 5]) (setR 2)) (sq (bnd (mComp (mComb (pVar 1) (look (eC (.int 2)))) (tNames [4, 5]) (Pv.ret true) (eOp gIx (look (eOp gIx (pVar 0) (pVar 5))) (pVar 4)) [4, 5]) (setR 3)) (sq (bnd (eCall gMinD2 (aCons (mTup (aCons (eCall gSum (kCons (pVar 2) (Pv.ret []))) (aCons (eVar 1) (Pv.ret [])))) (aCons (mTup (aCons (eCall gSum (kCons (pVar 3) (Pv.ret []))) (aCons (mRevA (pVar 1)) (Pv.ret [])))) (Pv.ret [])))) mRet) (Pv.ret .nx))))
theorem un_best_direction : fn_best_direction = runF 6 1 (sv_best_direction ) := rfl
def cM (M : List (List Int)) (p l : Int) : Int := (M.getD p.toNat []).getD l.toNat 0
structure Sqr (M : List (List Int)) (m : Nat) : Prop where
  len : M.length = m
  row : ∀ r ∈ M, r.length = m
theorem cM_at {M : List (List Int)} {m : Nat} (h : Sqr M m) {p l : Int} (hp : 0 ≤ p ∧ p < m) (hl : 0 ≤ l ∧ l < m) : atI (M.map lstP) p = some (lstP (M.getD p.toNat [])) ∧ atI ((M.getD p.toNat []).map PV.int) l = some (.int (cM M p l)) := by
  have hp' : p.toNat < M.length := by rw [h.len]; omega
  have e : M.getD p.toNat [] = M[p.toNat] := by rw [List.getD_eq_getElem?_getD, List.getElem?_eq_getElem hp']; rfl
  have hr := h.row M[p.toNat] (List.getElem_mem _)
  constructor
  · have := atI_nat (xs := M.map lstP) (j := p.toNat) (v := lstP (M.getD p.toNat [])) (by rw [List.getElem?_map, List.getElem?_eq_getElem hp', e]; rfl)
    rwa [show ((p.toNat : Nat) : Int) = p by omega] at this
  · have := atI_nat (xs := (M.getD p.toNat []).map PV.int) (j := l.toNat) (v := .int (cM M p l)) (by
      unfold cM
      rw [e, List.getElem?_map, List.getElem?_eq_getElem (by omega), List.getD_eq_getElem?_getD, List.getElem?_eq_getElem (by omega)]; rfl)
    rwa [show ((l.toNat : Nat) : Int) = l by omega] at this
def pbe : Pv.M Pv.RV := eOp gIx (look (eOp gIx (pVar 0) (pVar 5))) (pVar 2)
theorem pbe_ok {CV R : List PV} {l p c : Int} {Q : PV} {s3 s4 : Pv.Slot} (h1 : atI CV p = some (.lst R)) (h2 : atI R l = some (.int c)) : pbe [.val (.lst CV), .val Q, .val (.int l), s3, s4, .val (.int p)] = .ok (.int c, false) [.val (.lst CV), .val Q, .val (.int l), s3, s4, .val (.int p)] := by
  unfold pbe
  simp [h1, h2]
def pq (q : Int × List Int) : PV := .tup [.int q.1, .tup (q.2.map .int)]
theorem pb_v {CV S L : List PV} {c l k : Int} {mc : Pv.M Pv.RV} (h : mc [.val (.lst CV), .val (.tup [.int c, .tup S]), .val (.int l), .val (.int c), .val (.tup S), .no] = .ok (.lst L, true) [.val (.lst CV), .val (.tup [.int c, .tup S]), .val (.int l), .val (.int c), .val (.tup S), .no]) (g : gSum [.lst L] = some (.int k, false)) (ga : gAdd (.tup S) (.tup [.int l]) = some (.tup (S ++ [.int l]), false)) : runF 6 3 (sq (bnd (eVar 1) fun r => mTgt (tNames [3, 4]) r.1) (sq (bnd (mTup (aCons (eOp gAdd (pVar 3) (look (eCall gSum (kCons (look mc) (Pv.ret []))))) (aCons (eOp gAdd (pVar 4) (look (mTup (aCons (eVar 2) (Pv.ret []))))) (Pv.ret [])))) mRet) (Pv.ret .nx))) [.lst CV, .tup [.int c, .tup S], .int l] = .ok (.tup [.int (c + k), .tup (S ++ [.int l])], false) := by
  simp [-gAdd_tt, h, g, ga]
theorem gAdd_one {S : List PV} {p : PV} (h : S.length ≤ 1000) : gAdd (.tup S) (.tup [p]) = some (.tup (S ++ [p]), false) := by
  rw [gAdd_tt, if_pos (by rw [SZ]; show S.length + 1 ≤ _; omega)]
theorem pb_ok {M : List (List Int)} {m : Nat} (h : Sqr M m) {q : Int × List Int} {l : Int} (hs : ∀ p ∈ q.2, 0 ≤ p ∧ p < (m : Int)) (hz : q.2.length ≤ 1000) (hl : 0 ≤ l ∧ l < m) : fn_put_behind [.lst (M.map lstP), pq q, .int l] = .ok (pq (behind (cM M) q l), false) := by
  obtain ⟨c, s⟩ := q
  have m1 := comp_map (v := 5) (mi := mSeq (eVar 4)) (me := pbe) (e := PV.int) (g := fun p : Int => PV.int (cM M p l)) (l := s) (ev := [.val (.lst (M.map lstP)), .val (.tup [.int c, .tup (s.map .int)]), .val (.int l), .val (.int c), .val (.tup (s.map .int)), .no]) (ev1 := [.val (.lst (M.map lstP)), .val (.tup [.int c, .tup (s.map .int)]), .val (.int l), .val (.int c), .val (.tup (s.map .int)), .no]) rfl rfl (fun p hp => ⟨false, pbe_ok (cM_at h (hs p hp) hl).1 (cM_at h (hs p hp) hl).2⟩) (by show s.length ≤ _; have : s.length ≤ 1000 := hz; omega)
  have e : s.map (fun p : Int => PV.int (cM M p l)) = (s.map fun p => cM M p l).map PV.int := by rw [List.map_map]; rfl
  rw [e] at m1
  have := pb_v (c := c) (S := s.map .int) (l := l) m1 (gSum_sm _) (gAdd_one (by rw [List.length_map]; exact hz))
  rw [un_put_behind]
  show _ = Rf.ok (PV.tup [.int (c + sm (s.map fun p => cM M p l)), .tup ((s ++ [l]).map .int)], false)
  rw [List.map_append]
  exact this
theorem toDs_ints : ∀ l : List Int, toDs (l.map .int) = l.map PyData.int
  | [] => by unfold toDs; rfl
  | x :: l => by rw [List.map_cons]; unfold toDs; rw [toDs_ints l]; unfold toD; rfl
theorem isDs_ints : ∀ l : List Int, isDs (l.map .int) = true
  | [] => by unfold isDs; rfl
  | x :: l => by rw [List.map_cons]; unfold isDs; rw [isDs_ints l]; unfold isD; rfl
theorem alike_ints : ∀ a b : List Int, PySem.W.alikeAll (a.map PyData.int) (b.map PyData.int) = true
  | [], b => by rw [List.map_nil]; unfold PySem.W.alikeAll; rfl
  | x :: a, [] => by rw [List.map_nil, List.map_cons]; unfold PySem.W.alikeAll; rfl
  | x :: a, y :: b => by
    rw [List.map_cons, List.map_cons]
    unfold PySem.W.alikeAll
    rw [alike_ints a b]
    unfold PySem.W.alike
    rfl
theorem depth_ints : ∀ a : List Int, PyData.depthAll (a.map PyData.int) ≤ 4
  | [] => by rw [List.map_nil]; decide
  | x :: a => by
    rw [List.map_cons]
    unfold PyData.depthAll
    have := depth_ints a
    have e : PyData.depth (.int x) ≤ 4 := by unfold PyData.depth; decide
    omega
def pqX (t : Bool) (q : Int × List Int) : PV := .tup [.int q.1, if t then .tup (q.2.map .int) else .lst (q.2.map .int)]
def pqD (t : Bool) (q : Int × List Int) : PyData := .tuple [.int q.1, if t then .tuple (q.2.map .int) else .list (q.2.map .int)]
theorem toD_pq (t : Bool) (q : Int × List Int) : toD (pqX t q) = pqD t q := by
  unfold pqX pqD
  cases t
  · simp only [Bool.false_eq_true, if_false, toD, toDs, toDs_ints]
  · simp only [if_true, toD, toDs, toDs_ints]
theorem isD_pq (t : Bool) (q : Int × List Int) : isD (pqX t q) = true := by
  unfold pqX
  cases t
  · simp only [Bool.false_eq_true, if_false, isD, isDs, isDs_ints, Bool.and_self]
  · simp only [if_true, isD, isDs, isDs_ints, Bool.and_self]
theorem alike_pq (t : Bool) (q r : Int × List Int) : PySem.W.alike (pqD t q) (pqD t r) = true := by
  unfold pqD
  cases t
  · simp only [Bool.false_eq_true, if_false, PySem.W.alike, PySem.W.alikeAll, alike_ints, Bool.and_self]
  · simp only [if_true, PySem.W.alike, PySem.W.alikeAll, alike_ints, Bool.and_self]
theorem depth_pq (t : Bool) (q : Int × List Int) : PyData.depth (pqD t q) ≤ 16 := by
  have := depth_ints q.2
  unfold pqD
  cases t
  · simp only [Bool.false_eq_true, if_false, PyData.depth, PyData.depthAll]
    omega
  · simp only [if_true, PyData.depth, PyData.depthAll]
    omega
theorem toDs_pq (t : Bool) : ∀ L : List (Int × List Int), toDs (L.map (pqX t)) = L.map (pqD t)
  | [] => by unfold toDs; rfl
  | q :: L => by rw [List.map_cons]; unfold toDs; rw [toDs_pq t L, toD_pq]; rfl
theorem isDs_pq (t : Bool) : ∀ L : List (Int × List Int), isDs (L.map (pqX t)) = true
  | [] => by unfold isDs; rfl
  | q :: L => by rw [List.map_cons]; unfold isDs; rw [isDs_pq t L, isD_pq]; rfl
theorem depths_pq (t : Bool) : ∀ L : List (Int × List Int), PyData.depthAll (L.map (pqD t)) ≤ 16
  | [] => by rw [List.map_nil]; decide
  | q :: L => by
    rw [List.map_cons]
    unfold PyData.depthAll
    have := depth_pq t q
    have := depths_pq t L
    omega
theorem okMin_pq (t : Bool) (L : List (Int × List Int)) : okMin (L.map (pqX t)) = true := by
  have h1 : alikeB (L.map (pqD t)) = true := by
    unfold alikeB
    rw [List.all_eq_true]
    intro x hx
    obtain ⟨q, _, rfl⟩ := List.mem_map.mp hx
    rw [List.all_eq_true]
    intro y hy
    obtain ⟨r, _, rfl⟩ := List.mem_map.mp hy
    exact alike_pq t q r
  have h2 : someB (L.map (pqD t)) = true := by
    unfold someB
    rw [List.all_eq_true]
    intro x hx
    obtain ⟨q, _, rfl⟩ := List.mem_map.mp hx
    rfl
  have h3 := depths_pq t L
  unfold okMin
  rw [toDs_pq, isDs_pq, h1, h2, decide_eq_true (by omega)]
  rfl
theorem dlt_pq {t : Bool} {q r : Int × List Int} : (PySem.W.dataLt (pqD t q) (pqD t r) = true → q.1 ≤ r.1) ∧ (PySem.W.dataLt (pqD t q) (pqD t r) = false → r.1 ≤ q.1) := by
  by_cases c : q.1 = r.1
  · exact ⟨fun _ => by omega, fun _ => by omega⟩
  · have e : PySem.W.dataLt (pqD t q) (pqD t r) = decide (q.1 < r.1) := dlt_first c
    rw [e]
    exact ⟨fun h => by have := of_decide_eq_true h; omega, fun h => by have := of_decide_eq_false h; omega⟩
theorem gMin_pq {L : List (Int × List Int)} (hne : L ≠ []) : ∃ q ∈ L, gMinD [.lst (L.map pq)] = some (pq q, false) ∧ ∀ r ∈ L, q.1 ≤ r.1 := by
  have ex : L.map pq = L.map (pqX true) := rfl
  have lp : 0 < L.length := List.length_pos_iff.mpr hne
  have ok := okMin_pq true L
  have hb := MinT.argBest_le (fun i j => PySem.W.dataLt ((L.map (pqD true)).getD i .none) ((L.map (pqD true)).getD j .none)) (L.length - 1)
  have gd : ∀ i, i < L.length → (L.map (pqD true)).getD i .none = pqD true (L.getD i (0, [])) := fun i hi => by
    rw [List.getD_eq_getElem?_getD, List.getElem?_map, List.getElem?_eq_getElem hi, List.getD_eq_getElem?_getD, List.getElem?_eq_getElem hi]; rfl
  have am := argBest_c (bt := fun i j => PySem.W.dataLt ((L.map (pqD true)).getD i .none) ((L.map (pqD true)).getD j .none)) (c := fun i => (L.getD i (0, [])).1) (L.length - 1) (fun i j hi hj h => by
      rw [gd i (by omega), gd j (by omega)] at h
      exact dlt_pq.1 h) (fun i j hi hj h => by
      rw [gd i (by omega), gd j (by omega)] at h
      exact dlt_pq.2 h)
  have ma : minAt (L.map (pqX true)) = argBest (fun i j => PySem.W.dataLt ((L.map (pqD true)).getD i .none) ((L.map (pqD true)).getD j .none)) (L.length - 1) := by
    unfold minAt
    rw [toDs_pq, List.length_map]
  generalize argBest (fun i j => PySem.W.dataLt ((L.map (pqD true)).getD i .none) ((L.map (pqD true)).getD j .none)) (L.length - 1) = k at *
  have hk : k < L.length := by omega
  refine ⟨L[k], List.getElem_mem _, ?_, fun r hr => ?_⟩
  · rw [ex]
    unfold gMinD
    show (if okMin (L.map (pqX true)) = true then ((L.map (pqX true))[minAt (L.map (pqX true))]?).map fun p => (p, false) else none) = _
    rw [if_pos ok, ma, List.getElem?_map, List.getElem?_eq_getElem hk]
    rfl
  · obtain ⟨j, hj, rfl⟩ := List.mem_iff_getElem.mp hr
    have := am j (by omega)
    rw [List.getD_eq_getElem?_getD, List.getElem?_eq_getElem hk, List.getD_eq_getElem?_getD, List.getElem?_eq_getElem hj] at this
    exact this
theorem gMin_two (a b : Int) (s r : List Int) : ∃ z : Int × List Int, (z = (a, s) ∨ z = (b, r)) ∧ z.1 ≤ a ∧ z.1 ≤ b ∧ gMinD2 [.tup [.int a, .lst (s.map .int)], .tup [.int b, .lst (r.map .int)]] = some (pqX false z, false) := by
  have ok := okMin_pq false [(a, s), (b, r)]
  have e : gMinD2 [pqX false (a, s), pqX false (b, r)] = some (if PySem.W.dataLt (pqD false (b, r)) (pqD false (a, s)) = true then pqX false (b, r) else pqX false (a, s), false) := by
    unfold gMinD2
    show (if okMin ([(a, s), (b, r)].map (pqX false)) = true then _ else none) = _
    rw [if_pos ok, toD_pq, toD_pq]
  have d := dlt_pq (t := false) (q := (b, r)) (r := (a, s))
  cases c : PySem.W.dataLt (pqD false (b, r)) (pqD false (a, s)) with
  | true =>
    rw [c, if_pos rfl] at e
    exact ⟨(b, r), .inr rfl, d.1 c, Int.le_refl _, e⟩
  | false =>
    rw [c, if_neg (by simp)] at e
    exact ⟨(a, s), .inl rfl, Int.le_refl _, d.2 c, e⟩
end K22
set_option Elab.async false
set_option linter.all false
set_option maxRecDepth 100000
namespace K22
open Pv PySem PySem.Spec L2
open PyProof.Rows hiding St
theorem upTo_snoc (g : Nat) : Pv.upTo 0 (g + 1) = Pv.upTo 0 g ++ [(g : Int)] := by
  unfold Pv.upTo
  rw [List.range_succ, List.map_append]
  congr 1
  show [0 + (g : Int)] = [(g : Int)]
  rw [Int.zero_add]
theorem gD_up {α : Type} : ∀ (X : List α) (k0 : Int) (j : Nat), gD (Pv.upTo k0 X.length) X (k0 + j) = X[j]?
  | [], k0, j => by unfold gD; simp
  | x :: X, k0, 0 => by
    rw [List.length_cons, up_cons]
    unfold gD
    rw [if_pos (by omega)]; rfl
  | x :: X, k0, j + 1 => by
    rw [List.length_cons, up_cons]
    unfold gD
    rw [if_neg (by omega)]
    have := gD_up X (k0 + 1) j
    rw [show k0 + ((j + 1 : Nat) : Int) = k0 + 1 + (j : Nat) by omega, this]
    rfl
def lsc : Pv.M Pv.RV := mComp (mRng1 (kCons (pVar 1) (Pv.ret []))) (tName 5) (tTru (look (eOp gOdd (look (eOp gShr (pVar 3) (pVar 5))) (look (eC (.int 1)))))) (eVar 5) [5]
def lst_ : Pv.M Bool := tTru (look (eOp gOdd (look (eOp gShr (pVar 3) (pVar 5))) (look (eC (.int 1)))))
theorem lsc_eq : lsc = mComp (mRng1 (kCons (pVar 1) (Pv.ret []))) (tName 5) lst_ (eVar 5) [5] := rfl
def mnc (Fput_behind : Fn) : Pv.M Pv.RV := mComp (mSeq (eVar 4)) (tName 6) (Pv.ret true) (eFn Fput_behind (aCons (eVar 0) (aCons (mGetD 2 (look (eOp aSub (pVar 3) (look (eOp gShl (look (eC (.int 1))) (pVar 6)))))) (aCons (eVar 6) (Pv.ret []))))) [6]
def mne (Fput_behind : Fn) : Pv.M Pv.RV := eFn Fput_behind (aCons (eVar 0) (aCons (mGetD 2 (look (eOp aSub (pVar 3) (look (eOp gShl (look (eC (.int 1))) (pVar 6)))))) (aCons (eVar 6) (Pv.ret []))))
theorem mnc_eq (F : Fn) : mnc F = mComp (mSeq (eVar 4)) (tName 6) (Pv.ret true) (mne F) [6] := rfl
def bst (C : Pv.M Pv.RV) : Pv.M Fl := bnd (eCall gMinD (kCons (look C) (Pv.ret []))) fun r => mPutD 2 (pVar 3) r.1
def bsb (F : Fn) : Pv.M Fl := sq (bnd lsc (setR 4)) (sq (bst (mnc F)) (Pv.ret .nx))
def bsr : Pv.M (List PV) := mRng2 (kCons (look (eC (.int 1))) (kCons (look (eOp gShl (look (eC (.int 1))) (pVar 1))) (Pv.ret [])))
def bs1 : Pv.M Fl := bnd (eCall gLen (kCons (pVar 0) (Pv.ret []))) (setR 1)
def bs2 : Pv.M Fl := bnd (look (eC (.int 0))) fun y => bnd (mTup (aCons (eC (.int 0)) (aCons (mTup (Pv.ret [])) (Pv.ret [])))) fun r => mNewD 2 y r.1
def bs4 : Pv.M Fl := bnd (mGetD 2 (look (eOp aSub (look (eOp gShl (look (eC (.int 1))) (pVar 1))) (look (eC (.int 1)))))) mRet
theorem bs_eq (F : Fn) : sv_best_sequence F = sq bs1 (sq bs2 (sq (bnd bsr (loop (tName 3) (bsb F))) (sq bs4 (Pv.ret .nx)))) := rfl
theorem div_int (g p : Nat) : ((g : Int) / 2 ^ ((p : Int)).toNat) = ((g / 2 ^ p : Nat) : Int) := by
  rw [Int.toNat_natCast]
  norm_cast
theorem odd_int (x : Nat) : (((x : Nat) : Int) % 2 != 0) = decide (x % 2 = 1) := by
  by_cases c : x % 2 = 1
  · have e : ((x : Nat) : Int) % 2 = 1 := by omega
    rw [e, decide_eq_true c]; rfl
  · have e : ((x : Nat) : Int) % 2 = 0 := by omega
    rw [e, decide_eq_false c]; rfl
theorem tru_i (i : Int) : truP (.int i) = some (i != 0) := rfl
section
variable {M : List (List Int)} {m g p l : Nat} {L : List (Int × List Int)} {s4 s5 s6 : Pv.Slot} {D : Pv.Slot} {N G K : Int} {CP X : List PV}
theorem lst_v {x : Int} (h0 : 0 ≤ K) (h : G / 2 ^ K.toNat = x) (hx : 0 ≤ x) : lst_ [.val (.lst CP), .val (.int N), D, .val (.int G), s4, .val (.int K), .no] = .ok (x % 2 != 0) [.val (.lst CP), .val (.int N), D, .val (.int G), s4, .val (.int K), .no] := by
  have tr := tru_i (x % 2)
  have g2 : gOdd (.int x) (.int 1) = some (.int (x % 2), false) := by rw [gOdd_i, if_pos ⟨hx, rfl⟩]
  generalize x % 2 = y at *
  unfold lst_
  simp [-gOdd_i, h0, h, g2, tr]
theorem lsc_ok (hm : m ≤ 24) : lsc [.val (.lst (M.map lstP)), .val (.int (m : Nat)), D, .val (.int (g : Nat)), s4, .no, .no] = .ok (.lst ((bits m g).map .int), true) [.val (.lst (M.map lstP)), .val (.int (m : Nat)), D, .val (.int (g : Nat)), s4, .no, .no] := by
  have r1 : mRng1 (kCons (pVar 1) (Pv.ret [])) [.val (.lst (M.map lstP)), .val (.int (m : Nat)), D, .val (.int (g : Nat)), s4, .no, .no] = .ok ((List.range m).map fun k => PV.int (k : Nat)) [.val (.lst (M.map lstP)), .val (.int (m : Nat)), D, .val (.int (g : Nat)), s4, .no, .no] := by
    have := rngN_ok (n := m) (m := kCons (pVar 1) (Pv.ret [])) (ev := [.val (.lst (M.map lstP)), .val (.int (m : Nat)), D, .val (.int (g : Nat)), s4, .no, .no]) (ev' := [.val (.lst (M.map lstP)), .val (.int (m : Nat)), D, .val (.int (g : Nat)), s4, .no, .no]) (by
      generalize M.map lstP = W
      generalize ((m : Nat) : Int) = z at *
      generalize ((g : Nat) : Int) = y at *
      simp) (by omega)
    rw [upTo_cast] at this
    exact this
  have := comp_gen (v := 5) (mt := lst_) (me := eVar 5) (e := fun k : Nat => PV.int (k : Nat)) (c := fun p => decide (g / 2 ^ p % 2 = 1)) (g := fun k : Nat => PV.int (k : Nat)) (l := List.range m) r1 rfl (fun p hp => by
    have h := lst_v (D := D) (s4 := s4) (CP := M.map lstP) (N := (m : Nat)) (G := (g : Nat)) (K := (p : Nat)) (Int.natCast_nonneg p) (div_int g p) (Int.natCast_nonneg _)
    rw [odd_int] at h
    exact h) (fun k _ _ => ⟨false, rfl⟩) (by rw [List.length_range]; omega)
  rw [← lsc_eq] at this
  rw [this]
  unfold bits
  rw [List.map_map]; rfl
theorem mne_v {F : Fn} {Q r : PV} {ks : List Int} {xs : List PV} {z : Int} (hk : 0 ≤ K ∧ K ≤ 64) (hz : G - 2 ^ K.toNat = z) (hg : gD ks xs z = some Q) (h : F [.lst CP, Q, .int K] = .ok (r, false)) (hQ : ∀ ps, Q ≠ .lst ps) : mne F [.val (.lst CP), .val (.int N), .dow ks xs, .val (.int G), s4, .no, .val (.int K)] = .ok (r, false) [.val (.lst CP), .val (.int N), .dow ks xs, .val (.int G), s4, .no, .val (.int K)] := by
  unfold mne
  simp [mGetD, hk, hz, hg, h]
theorem bst_v {C : Pv.M Pv.RV} {Y : List PV} {q : PV} {ks : List Int} {xs : List PV} (h : C [.val (.lst CP), .val (.int N), .dow ks xs, .val (.int G), .own X, .no, .no] = .ok (.lst Y, true) [.val (.lst CP), .val (.int N), .dow ks xs, .val (.int G), .val (.lst X), .no, .no]) (g : gMinD [.lst Y] = some (q, false)) (hz : ks.length < 16777216) (hn : G ∉ ks) : bst C [.val (.lst CP), .val (.int N), .dow ks xs, .val (.int G), .own X, .no, .no] = .ok .nx [.val (.lst CP), .val (.int N), .dow (ks ++ [G]) (xs ++ [q]), .val (.int G), .val (.lst X), .no, .no] := by
  have k1 : kD ks G = ks ++ [G] := by unfold kD; rw [if_neg hn]
  have k2 : vD ks xs G q = xs ++ [q] := by unfold vD; rw [if_neg hn]
  unfold bst
  simp [mPutD, h, g, hz, k1, k2]
end
end K22
set_option Elab.async false
set_option linter.all false
set_option maxRecDepth 100000
namespace K22
open Pv PySem PySem.Spec L2
open PyProof.Rows hiding St
theorem upm {n : Nat} {x : Int} : x ∈ Pv.upTo 0 n ↔ 0 ≤ x ∧ x < n := by
  unfold Pv.upTo
  rw [List.mem_map]
  constructor
  · rintro ⟨k, hk, rfl⟩
    rw [List.mem_range] at hk
    omega
  · rintro ⟨h1, h2⟩
    exact ⟨x.toNat, List.mem_range.mpr (by omega), by omega⟩
theorem combL_ok {m k : M PV} {ev : SL} {B : List Int} {j : Nat} (h : m ev = .ok (.lst (B.map .int)) ev) (h2 : k ev = .ok (.int (j : Nat)) ev) (hn : B.length ≤ 1000) (hj : j ≤ 1000) : mComb m k ev = .ok ((Cb.cmb j B).map fun c => PV.tup (c.map .int)) ev := by
  unfold mComb
  rw [bnd_ok h, bnd_ok h2]
  show (if decide ((0 : Int) ≤ (j : Nat) ∧ ((j : Nat) : Int) ≤ 1000 ∧ (B.map PV.int).length ≤ 1000) = true then (Pv.ret ((Cb.cmb ((j : Nat) : Int).toNat (B.map PV.int)).map .tup) : M (List PV)) else bad) ev = _
  rw [if_pos (decide_eq_true ⟨by omega, by omega, by rw [List.length_map]; exact hn⟩), Int.toNat_natCast, Cb.cmb_map, List.map_map]
  rfl
section
variable {M : List (List Int)} {m : Nat}
theorem bits_rng {g : Nat} {x : Int} (h : x ∈ bits m g) : 0 ≤ x ∧ x < (m : Int) := by
  obtain ⟨p, rfl, h1, _⟩ := bits_mem.mp h
  omega
theorem bits_len {g : Nat} : (bits m g).length ≤ m := by
  unfold bits
  rw [List.length_map]
  refine Nat.le_trans (List.length_filter_le _ _) ?_
  rw [List.length_range]
  exact Nat.le_refl m
theorem best_rng {C : Int → Int → Int} {g : Nat} {q : Int × List Int} (h : Best C m g q) : (∀ p ∈ q.2, 0 ≤ p ∧ p < (m : Int)) ∧ q.2.length ≤ m := by
  refine ⟨fun p hp => bits_rng (h.pm.mem_iff.mp hp), ?_⟩
  rw [h.pm.length_eq]
  exact bits_len
theorem pow_cast (p : Nat) : (2 : Int) ^ ((p : Int)).toNat = ((2 ^ p : Nat) : Int) := by
  rw [Int.toNat_natCast]
  norm_cast
theorem bsb_ok (sq_ : Sqr M m) (hm : m ≤ 8) {g : Nat} (h0 : g ≠ 0) (hg : g < 2 ^ m) {L : List (Int × List Int)} (hL : L.length = g) (hB : ∀ k, k < g → Best (cM M) m k (L.getD k (0, []))) (s4 : Pv.Slot) : ∃ (q : Int × List Int) (s4' : Pv.Slot), Best (cM M) m g q ∧ bsb fn_put_behind [.val (.lst (M.map lstP)), .val (.int (m : Nat)), .dow (Pv.upTo 0 g) (L.map pq), .val (.int (g : Nat)), s4, .no, .no] = .ok .nx [.val (.lst (M.map lstP)), .val (.int (m : Nat)), .dow (Pv.upTo 0 (g + 1)) ((L ++ [q]).map pq), .val (.int (g : Nat)), s4', .no, .no] := by
  have g256 : g < 256 := Nat.lt_of_lt_of_le hg (pow_le ⟨m, by omega⟩)
  have e1 := lsc_ok (M := M) (m := m) (g := g) (D := .dow (Pv.upTo 0 g) (L.map pq)) (s4 := s4) (by omega)
  have q1 : bnd lsc (setR 4) [.val (.lst (M.map lstP)), .val (.int (m : Nat)), .dow (Pv.upTo 0 g) (L.map pq), .val (.int (g : Nat)), s4, .no, .no] = .ok .nx [.val (.lst (M.map lstP)), .val (.int (m : Nat)), .dow (Pv.upTo 0 g) (L.map pq), .val (.int (g : Nat)), .own ((bits m g).map .int), .no, .no] := by rw [bnd_ok e1]; rfl
  have m1 := comp_map (v := 6) (mi := mSeq (eVar 4)) (me := mne fn_put_behind) (e := PV.int) (g := fun l : Int => pq (behind (cM M) (L.getD (g - 2 ^ l.toNat) (0, [])) l)) (l := bits m g) (ev := [.val (.lst (M.map lstP)), .val (.int (m : Nat)), .dow (Pv.upTo 0 g) (L.map pq), .val (.int (g : Nat)), .own ((bits m g).map .int), .no, .no]) (ev1 := [.val (.lst (M.map lstP)), .val (.int (m : Nat)), .dow (Pv.upTo 0 g) (L.map pq), .val (.int (g : Nat)), .val (.lst ((bits m g).map .int)), .no, .no]) rfl rfl (fun l hl => by
    obtain ⟨p, rfl, p1, p2⟩ := bits_mem.mp hl
    obtain ⟨b1, b2⟩ := bits_sub hm hg p1 p2
    have pp : 0 < 2 ^ p := Nat.two_pow_pos p
    have bk := hB (g - 2 ^ p) (by omega)
    have br := best_rng bk
    have hz : (g : Int) - 2 ^ ((p : Int)).toNat = ((g - 2 ^ p : Nat) : Int) := by
      rw [pow_cast]; omega
    have hgd : gD (Pv.upTo 0 g) (L.map pq) ((g - 2 ^ p : Nat) : Int) = some (pq (L.getD (g - 2 ^ p) (0, []))) := by
      have := gD_up (L.map pq) 0 (g - 2 ^ p)
      rw [List.length_map, hL, Int.zero_add] at this
      rw [this, List.getElem?_map, List.getElem?_eq_getElem (by omega), List.getD_eq_getElem?_getD, List.getElem?_eq_getElem (by omega)]
      rfl
    have hp := pb_ok sq_ (q := L.getD (g - 2 ^ p) (0, [])) (l := (p : Nat)) br.1 (by omega) (by omega)
    refine ⟨false, ?_⟩
    have := mne_v (CP := M.map lstP) (N := (m : Nat)) (G := (g : Nat)) (K := (p : Nat)) (s4 := .val (.lst ((bits m g).map .int))) (ks := Pv.upTo 0 g) (xs := L.map pq) ⟨by omega, by omega⟩ hz hgd hp (fun ps z => by cases z)
    rw [Int.toNat_natCast]
    exact this) (by have := bits_len (m := m) (g := g); omega)
  rw [← mnc_eq] at m1
  have e2 : (bits m g).map (fun l : Int => pq (behind (cM M) (L.getD (g - 2 ^ l.toNat) (0, [])) l)) = ((bits m g).map fun l => behind (cM M) (L.getD (g - 2 ^ l.toNat) (0, [])) l).map pq := by rw [List.map_map]; rfl
  rw [e2] at m1
  have ne : ((bits m g).map fun l => behind (cM M) (L.getD (g - 2 ^ l.toNat) (0, [])) l) ≠ [] := fun z => bits_ne hm hg h0 (List.map_eq_nil_iff.mp z)
  obtain ⟨q, hq, gm, le⟩ := gMin_pq ne
  have b := best_step (C := cM M) hm hg h0 hB (q := q) (by
      obtain ⟨l, hl, e⟩ := List.mem_map.mp hq
      exact ⟨l, hl, e.symm⟩) (fun l hl => le _ (List.mem_map.mpr ⟨l, hl, rfl⟩))
  have q2 := bst_v (CP := M.map lstP) (N := (m : Nat)) (G := (g : Nat)) (X := (bits m g).map .int) m1 gm (by rw [upTo_len]; omega) (fun z => by have := upm.mp z; omega)
  rw [← upTo_snoc] at q2
  have e3 : L.map pq ++ [pq q] = (L ++ [q]).map pq := by rw [List.map_append]; rfl
  rw [e3] at q2
  exact ⟨q, _, b, (sq_nx q1).trans ((sq_nx q2).trans rfl)⟩
theorem bs_loop (sq_ : Sqr M m) (hm : m ≤ 8) : ∀ (c g : Nat) (L : List (Int × List Int)) (s3 s4 : Pv.Slot), g ≠ 0 → g + c ≤ 2 ^ m → L.length = g → (∀ k, k < g → Best (cM M) m k (L.getD k (0, []))) → ∃ (L' : List (Int × List Int)) (s3' s4' : Pv.Slot), L'.length = g + c ∧ (∀ k, k < g + c → Best (cM M) m k (L'.getD k (0, []))) ∧ loop (tName 3) (bsb fn_put_behind) ((Pv.upTo (g : Nat) c).map .int) [.val (.lst (M.map lstP)), .val (.int (m : Nat)), .dow (Pv.upTo 0 g) (L.map pq), s3, s4, .no, .no] = .ok .nx [.val (.lst (M.map lstP)), .val (.int (m : Nat)), .dow (Pv.upTo 0 (g + c)) (L'.map pq), s3', s4', .no, .no]
  | 0, g, L, s3, s4, h0, hg, hL, hB => ⟨L, s3, s4, hL, hB, rfl⟩
  | c + 1, g, L, s3, s4, h0, hg, hL, hB => by
    obtain ⟨q, s4', b, e⟩ := bsb_ok sq_ hm h0 (by omega) hL hB s4
    obtain ⟨L', s3', s4'', l', b', e'⟩ := bs_loop sq_ hm c (g + 1) (L ++ [q]) (.val (.int (g : Nat))) s4' (by omega) (by omega) (by rw [List.length_append]; show L.length + 1 = _; omega) (fun k hk => by
      by_cases z : k < g
      · rw [List.getD_eq_getElem?_getD, List.getElem?_append_left (by omega), ← List.getD_eq_getElem?_getD]
        exact hB k z
      · have : k = g := by omega
        subst this
        rw [List.getD_eq_getElem?_getD, List.getElem?_append_right (by omega), hL, Nat.sub_self]
        exact b)
    refine ⟨L', s3', s4'', by omega, fun k hk => b' k (by omega), ?_⟩
    have ej : ((g + 1 : Nat) : Int) = (g : Int) + 1 := by omega
    rw [ej] at e'
    have ec : g + (c + 1) = g + 1 + c := by omega
    rw [up_cons, List.map_cons, ec]
    exact (loop_nx rfl e).trans e'
theorem bs1_ok {N : Int} {CP : List PV} (hl : gLen [.lst CP] = some (.int N, false)) : bs1 [.val (.lst CP), .no, .no, .no, .no, .no, .no] = .ok .nx [.val (.lst CP), .val (.int N), .no, .no, .no, .no, .no] := by
  unfold bs1
  simp [-gLen_l, hl]
theorem bs2_ok {N : Int} {CP : List PV} : bs2 [.val (.lst CP), .val (.int N), .no, .no, .no, .no, .no] = .ok .nx [.val (.lst CP), .val (.int N), .dow [0] [.tup [.int 0, .tup []]], .no, .no, .no, .no] := by
  unfold bs2
  simp [mNewD]
theorem bsr_ok {N P : Int} {A D : Pv.Slot} (h0 : 0 ≤ N ∧ N ≤ 64) (hP : 1 * 2 ^ N.toNat = P) (h1 : 1 ≤ P) (h2 : P ≤ 1000) : bsr [A, .val (.int N), D, .no, .no, .no, .no] = .ok ((Pv.upTo 1 (P - 1).toNat).map .int) [A, .val (.int N), D, .no, .no, .no, .no] := by
  have g : gShl (.int 1) (.int N) = some (.int P, false) := by rw [gShl_i, if_pos ⟨h0.1, h0.2, rfl⟩, hP]
  have e : kCons (look (eC (.int 1))) (kCons (look (eOp gShl (look (eC (.int 1))) (pVar 1))) (Pv.ret [])) [A, .val (.int N), D, .no, .no, .no, .no] = .ok [.int 1, .int P] [A, .val (.int N), D, .no, .no, .no, .no] := by
    simp [-gShl_i, g]
  unfold bsr
  rw [rng2_ok e (okR_k (by omega) (by omega)) (okR_k (by omega) (by omega)), rgP_eq]
theorem bs4_ok {N P : Int} {A s3 s4 : Pv.Slot} {ks : List Int} {xs : List PV} {q : PV} (h0 : 0 ≤ N ∧ N ≤ 64) (hP : 1 * 2 ^ N.toNat = P) (hg : gD ks xs (P - 1) = some q) : bs4 [A, .val (.int N), .dow ks xs, s3, s4, .no, .no] = .ok (.rt (q, false)) [A, .val (.int N), .dow ks xs, s3, s4, .no, .no] := by
  have g : gShl (.int 1) (.int N) = some (.int P, false) := by rw [gShl_i, if_pos ⟨h0.1, h0.2, rfl⟩, hP]
  unfold bs4
  simp [-gShl_i, mGetD, g, hg]
theorem range_up (m : Nat) : (List.range m).map (fun p : Nat => (p : Int)) = Pv.upTo 0 m := by
  unfold Pv.upTo
  exact List.map_congr_left fun k _ => (Int.zero_add _).symm
theorem bestseq_ok (sq_ : Sqr M m) (hm : m ≤ 8) : ∃ (c : Int) (s : List Int), fn_best_sequence [.lst (M.map lstP)] = .ok (pq (c, s), false) ∧ s.Perm (Pv.upTo 0 m) ∧ c = sc (cM M) s ∧ ∀ s' : List Int, s'.Perm (Pv.upTo 0 m) → c ≤ sc (cM M) s' := by
  have hl : gLen [.lst (M.map lstP)] = some (.int (m : Nat), false) := by rw [gLen_l, List.length_map, sq_.len]
  have pp : 0 < 2 ^ m := Nat.two_pow_pos m
  have p8 : 2 ^ m ≤ 256 := pow_le ⟨m, by omega⟩
  have hP : 1 * (2 : Int) ^ ((m : Int)).toNat = ((2 ^ m : Nat) : Int) := by rw [Int.one_mul, pow_cast]
  obtain ⟨L, s3, s4, lL, bL, e⟩ := bs_loop sq_ hm (2 ^ m - 1) 1 [(0, [])] .no .no (by omega) (by omega) rfl (fun k hk => by
    have : k = 0 := by omega
    subst this
    exact best_zero _ _)
  have e12 : 1 + (2 ^ m - 1) = 2 ^ m := by omega
  rw [e12] at lL bL e
  have b := bL (2 ^ m - 1) (by omega)
  have q4 := bs4_ok (A := .val (.lst (M.map lstP))) (s3 := s3) (s4 := s4) (ks := Pv.upTo 0 (2 ^ m)) (xs := L.map pq) (q := pq (L.getD (2 ^ m - 1) (0, []))) (N := (m : Nat)) ⟨by omega, by omega⟩ hP (by
    have := gD_up (L.map pq) 0 (2 ^ m - 1)
    rw [List.length_map, lL, Int.zero_add] at this
    rw [show (((2 ^ m : Nat) : Int) - 1) = ((2 ^ m - 1 : Nat) : Int) by omega, this, List.getElem?_map, List.getElem?_eq_getElem (by omega), List.getD_eq_getElem?_getD, List.getElem?_eq_getElem (by omega)]
    rfl)
  have q3 := bsr_ok (A := .val (.lst (M.map lstP))) (D := .dow [0] [.tup [.int 0, .tup []]]) (N := (m : Nat)) ⟨by omega, by omega⟩ hP (by omega) (by omega)
  rw [show ((((2 ^ m : Nat) : Int) - 1).toNat) = 2 ^ m - 1 by omega] at q3
  have bl := bits_all hm
  rw [range_up] at bl
  refine ⟨(L.getD (2 ^ m - 1) (0, [])).1, (L.getD (2 ^ m - 1) (0, [])).2, ?_, ?_, b.eq, fun s' hs => b.le s' (by rw [bl]; exact hs)⟩
  · rw [un_best_sequence, bs_eq]
    exact runF_ok ((sq_nx (bs1_ok hl)).trans ((sq_nx bs2_ok).trans ((sq_nx ((bnd_ok q3).trans e)).trans (sq_rt q4)))) rfl (by decide)
  · have := b.pm
    rw [bl] at this
    exact this
end
def bd1 : Pv.M Fl := bnd (mLstRg (mRg1 (look (eCall gLen (kCons (pVar 0) (Pv.ret [])))))) (setR 1)
def bdc : Pv.M Pv.RV := mComp (mComb (pVar 1) (look (eC (.int 2)))) (tNames [4, 5]) (Pv.ret true) (eOp gIx (look (eOp gIx (pVar 0) (pVar 4))) (pVar 5)) [4, 5]
def bde : Pv.M Pv.RV := eOp gIx (look (eOp gIx (pVar 0) (pVar 4))) (pVar 5)
def bdc2 : Pv.M Pv.RV := mComp (mComb (pVar 1) (look (eC (.int 2)))) (tNames [4, 5]) (Pv.ret true) (eOp gIx (look (eOp gIx (pVar 0) (pVar 5))) (pVar 4)) [4, 5]
def bde2 : Pv.M Pv.RV := eOp gIx (look (eOp gIx (pVar 0) (pVar 5))) (pVar 4)
def bd4 : Pv.M Fl := bnd (eCall gMinD2 (aCons (mTup (aCons (eCall gSum (kCons (pVar 2) (Pv.ret []))) (aCons (eVar 1) (Pv.ret [])))) (aCons (mTup (aCons (eCall gSum (kCons (pVar 3) (Pv.ret []))) (aCons (mRevA (pVar 1)) (Pv.ret [])))) (Pv.ret [])))) mRet
theorem bd_eq : sv_best_direction = sq bd1 (sq (bnd bdc (setR 2)) (sq (bnd bdc2 (setR 3)) (sq bd4 (Pv.ret .nx)))) := rfl
theorem bdc_eq : bdc = mComp (mComb (pVar 1) (look (eC (.int 2)))) (tNames [4, 5]) (Pv.ret true) bde [4, 5] := rfl
theorem bdc2_eq : bdc2 = mComp (mComb (pVar 1) (look (eC (.int 2)))) (tNames [4, 5]) (Pv.ret true) bde2 [4, 5] := rfl
theorem cmb2_c (x : Int) (l : List Int) : Cb.cmb 2 (x :: l) = (l.map fun j => [x, j]) ++ Cb.cmb 2 l := by
  have e1 : ∀ l : List Int, Cb.cmb 1 l = l.map fun j => [j] := by
    intro l
    induction l with
    | nil => rfl
    | cons y l ih =>
      show (Cb.cmb 0 l).map _ ++ Cb.cmb 1 l = _
      have : Cb.cmb 0 l = [[]] := by cases l <;> rfl
      rw [this, ih]; rfl
  show (Cb.cmb 1 l).map _ ++ Cb.cmb 2 l = _
  rw [e1, List.map_map]; rfl
theorem sc_cmb (C : Int → Int → Int) : ∀ l : List Int, sm ((Cb.cmb 2 l).map fun c => C (c.getD 0 0) (c.getD 1 0)) = sc C l
  | [] => rfl
  | x :: l => by
    rw [cmb2_c, List.map_append, List.map_map, sm_app, sc_cmb C l]
    rfl
theorem cmb2_in {l c : List Int} (h : c ∈ Cb.cmb 2 l) : ∃ a b, c = [a, b] ∧ a ∈ l ∧ b ∈ l := by
  induction l with
  | nil => cases h
  | cons x l ih =>
    rw [cmb2_c, List.mem_append] at h
    rcases h with h | h
    · obtain ⟨j, hj, rfl⟩ := List.mem_map.mp h
      exact ⟨x, j, rfl, by simp, by simp [hj]⟩
    · obtain ⟨a, b, e, ha, hb⟩ := ih h
      exact ⟨a, b, e, by simp [ha], by simp [hb]⟩
theorem cmb2_le : ∀ l : List Int, (Cb.cmb 2 l).length ≤ l.length * l.length
  | [] => by decide
  | x :: l => by
    rw [cmb2_c, List.length_append, List.length_map, List.length_cons]
    have := cmb2_le l
    have e : (l.length + 1) * (l.length + 1) = l.length * l.length + l.length + l.length + 1 := by
      rw [Nat.add_mul, Nat.mul_add]; omega
    omega
section
variable {M : List (List Int)} {m : Nat} {CP R : List PV} {s1 s2 s3 : Pv.Slot} {a b c N : Int}
theorem lstRg_v {mr : Pv.M (Int × Int)} {ev : SL} {a b : Int} (h : mr ev = .ok (a, b) ev) (ok : okRg (a, b) = true) : mLstRg mr ev = .ok (.lst (rgP a (b - a).toNat), true) ev := by
  unfold mLstRg
  rw [bnd_ok h]
  show (if okRg (a, b) = true then (Pv.ret (.lst (rgP a (b - a).toNat), true) : Pv.M Pv.RV) else Pv.bad) ev = _
  rw [if_pos ok]; rfl
theorem bdr_ok (hl : gLen [.lst CP] = some (.int N, false)) : (mRg1 (look (eCall gLen (kCons (pVar 0) (Pv.ret []))))) [.val (.lst CP), .no, .no, .no, .no, .no] = .ok (0, N) [.val (.lst CP), .no, .no, .no, .no, .no] := by
  simp [-gLen_l, hl]
theorem bd1_ok (hl : gLen [.lst CP] = some (.int N, false)) (ok : okRg (0, N) = true) : bd1 [.val (.lst CP), .no, .no, .no, .no, .no] = .ok .nx [.val (.lst CP), .own (rgP 0 (N - 0).toNat), .no, .no, .no, .no] := by
  have e := lstRg_v (bdr_ok (N := N) hl) ok
  generalize rgP 0 (N - 0).toNat = Z at *
  unfold bd1
  rw [bnd_ok e]; rfl
theorem bde_ok (h1 : atI CP a = some (.lst R)) (h2 : atI R b = some (.int c)) : bde [.val (.lst CP), s1, s2, s3, .val (.int a), .val (.int b)] = .ok (.int c, false) [.val (.lst CP), s1, s2, s3, .val (.int a), .val (.int b)] := by
  unfold bde
  simp [h1, h2]
theorem bde2_ok (h1 : atI CP b = some (.lst R)) (h2 : atI R a = some (.int c)) : bde2 [.val (.lst CP), s1, s2, s3, .val (.int a), .val (.int b)] = .ok (.int c, false) [.val (.lst CP), s1, s2, s3, .val (.int a), .val (.int b)] := by
  unfold bde2
  simp [h1, h2]
theorem bd4_ok {O X Y : List PV} {z : PV} (g1 : gSum [.lst X] = some (.int a, false)) (g2 : gSum [.lst Y] = some (.int b, false)) (g : gMinD2 [.tup [.int a, .lst O], .tup [.int b, .lst O.reverse]] = some (z, false)) : ∃ ev', bd4 [.val (.lst CP), .own O, .own X, .own Y, .no, .no] = .ok (.rt (z, false)) ev' := ⟨[.val (.lst CP), .val (.lst O), .own X, .own Y, .no, .no], by
  unfold bd4
  simp [g1, g2, g]⟩
theorem bestdir_ok (sq_ : Sqr M m) (hm : m ≤ 24) : ∃ (c : Int) (s : List Int), fn_best_direction [.lst (M.map lstP)] = .ok (pqX false (c, s), false) ∧ (s = Pv.upTo 0 m ∨ s = (Pv.upTo 0 m).reverse) ∧ c = sc (cM M) s ∧ c ≤ sc (cM M) (Pv.upTo 0 m) ∧ c ≤ sc (cM M) (Pv.upTo 0 m).reverse := by
  have hl : gLen [.lst (M.map lstP)] = some (.int (m : Nat), false) := by rw [gLen_l, List.length_map, sq_.len]
  have q1 := bd1_ok hl (by
    unfold okRg
    rw [okR_k (by omega) (by omega), okR_k (by omega) (by omega), decide_eq_true (by rw [SZ]; show ((m : Int) - 0).toNat ≤ _; omega)]; rfl)
  rw [rgP_eq, show ((m : Int) - 0).toNat = m by omega] at q1
  have ul : (Pv.upTo 0 m).length = m := upTo_len 0 m
  have cz : (Cb.cmb 2 (Pv.upTo 0 m)).length ≤ 1000 := by
    have := cmb2_le (Pv.upTo 0 m)
    rw [ul] at this
    have : m * m ≤ 24 * 24 := Nat.mul_le_mul hm hm
    omega
  have rng : ∀ x ∈ Pv.upTo 0 m, 0 ≤ x ∧ x < (m : Int) := fun x hx => upm.mp hx
  have key : ∀ (ev : SL) (me : Pv.M Pv.RV) (g : List Int → Int), ev[4]? = some .no → ev[5]? = some .no → True := fun _ _ _ _ _ => trivial
  have i1 : mComb (pVar 1) (look (eC (.int 2))) [.val (.lst (M.map lstP)), .own ((Pv.upTo 0 m).map .int), .no, .no, .no, .no] = .ok ((Cb.cmb 2 (Pv.upTo 0 m)).map fun c => PV.tup (c.map .int)) [.val (.lst (M.map lstP)), .own ((Pv.upTo 0 m).map .int), .no, .no, .no, .no] := combL_ok (B := Pv.upTo 0 m) (j := 2) rfl rfl (by rw [ul]; omega) (by omega)
  have m1 := comp_genT (t := tNames [4, 5]) (vs := [4, 5]) (mt := Pv.ret true) (me := bde) (e := fun c : List Int => PV.tup (c.map .int)) (B := fun c => [.val (.lst (M.map lstP)), .own ((Pv.upTo 0 m).map .int), .no, .no, .val (.int (c.getD 0 0)), .val (.int (c.getD 1 0))]) (c := fun _ => true) (g := fun c : List Int => PV.int (cM M (c.getD 0 0) (c.getD 1 0))) (l := Cb.cmb 2 (Pv.upTo 0 m)) i1 rfl rfl (fun c hc => by
      obtain ⟨a, b, rfl, _⟩ := cmb2_in hc
      rfl) (fun c _ => rfl) (fun c _ => rfl) (fun c hc _ => by
      obtain ⟨a, b, rfl, ha, hb⟩ := cmb2_in hc
      have h := cM_at sq_ (rng a ha) (rng b hb)
      exact ⟨false, bde_ok h.1 h.2⟩) (by omega)
  rw [List.filter_eq_self.mpr (fun _ _ => rfl), ← bdc_eq] at m1
  have i2 : mComb (pVar 1) (look (eC (.int 2))) [.val (.lst (M.map lstP)), .own ((Pv.upTo 0 m).map .int), .own ((Cb.cmb 2 (Pv.upTo 0 m)).map fun c : List Int => PV.int (cM M (c.getD 0 0) (c.getD 1 0))), .no, .no, .no] = .ok ((Cb.cmb 2 (Pv.upTo 0 m)).map fun c => PV.tup (c.map .int)) [.val (.lst (M.map lstP)), .own ((Pv.upTo 0 m).map .int), .own ((Cb.cmb 2 (Pv.upTo 0 m)).map fun c : List Int => PV.int (cM M (c.getD 0 0) (c.getD 1 0))), .no, .no, .no] := combL_ok (B := Pv.upTo 0 m) (j := 2) rfl rfl (by rw [ul]; omega) (by omega)
  have m2 := comp_genT (t := tNames [4, 5]) (vs := [4, 5]) (mt := Pv.ret true) (me := bde2) (e := fun c : List Int => PV.tup (c.map .int)) (B := fun c => [.val (.lst (M.map lstP)), .own ((Pv.upTo 0 m).map .int), .own ((Cb.cmb 2 (Pv.upTo 0 m)).map fun c : List Int => PV.int (cM M (c.getD 0 0) (c.getD 1 0))), .no, .val (.int (c.getD 0 0)), .val (.int (c.getD 1 0))]) (c := fun _ => true) (g := fun c : List Int => PV.int (cM M (c.getD 1 0) (c.getD 0 0))) (l := Cb.cmb 2 (Pv.upTo 0 m)) i2 rfl rfl (fun c hc => by
      obtain ⟨a, b, rfl, _⟩ := cmb2_in hc
      rfl) (fun c _ => rfl) (fun c _ => rfl) (fun c hc _ => by
      obtain ⟨a, b, rfl, ha, hb⟩ := cmb2_in hc
      have h := cM_at sq_ (rng b hb) (rng a ha)
      exact ⟨false, bde2_ok h.1 h.2⟩) (by omega)
  rw [List.filter_eq_self.mpr (fun _ _ => rfl), ← bdc2_eq] at m2
  have f1 : (Cb.cmb 2 (Pv.upTo 0 m)).map (fun c : List Int => PV.int (cM M (c.getD 0 0) (c.getD 1 0))) = ((Cb.cmb 2 (Pv.upTo 0 m)).map fun c : List Int => cM M (c.getD 0 0) (c.getD 1 0)).map PV.int := by rw [List.map_map]; rfl
  have f2 : (Cb.cmb 2 (Pv.upTo 0 m)).map (fun c : List Int => PV.int (cM M (c.getD 1 0) (c.getD 0 0))) = ((Cb.cmb 2 (Pv.upTo 0 m)).map fun c : List Int => cM M (c.getD 1 0) (c.getD 0 0)).map PV.int := by rw [List.map_map]; rfl
  have g1 := gSum_sm ((Cb.cmb 2 (Pv.upTo 0 m)).map fun c : List Int => cM M (c.getD 0 0) (c.getD 1 0))
  have g2 := gSum_sm ((Cb.cmb 2 (Pv.upTo 0 m)).map fun c : List Int => cM M (c.getD 1 0) (c.getD 0 0))
  rw [← f1, sc_cmb] at g1
  rw [← f2, sc_cmb (fun a b => cM M b a), ← sc_rev] at g2
  obtain ⟨z, hz, z1, z2, gm⟩ := gMin_two (sc (cM M) (Pv.upTo 0 m)) (sc (cM M) (Pv.upTo 0 m).reverse) (Pv.upTo 0 m) (Pv.upTo 0 m).reverse
  rw [List.map_reverse] at gm
  obtain ⟨ev', q4⟩ := bd4_ok (CP := M.map lstP) (O := (Pv.upTo 0 m).map .int) g1 g2 gm
  refine ⟨z.1, z.2, ?_, ?_, ?_, z1, z2⟩
  · rw [un_best_direction, bd_eq]
    have q2 : bnd bdc (setR 2) [.val (.lst (M.map lstP)), .own ((Pv.upTo 0 m).map .int), .no, .no, .no, .no] = .ok .nx [.val (.lst (M.map lstP)), .own ((Pv.upTo 0 m).map .int), .own ((Cb.cmb 2 (Pv.upTo 0 m)).map fun c : List Int => PV.int (cM M (c.getD 0 0) (c.getD 1 0))), .no, .no, .no] := by rw [bnd_ok m1]; rfl
    have q3 : bnd bdc2 (setR 3) [.val (.lst (M.map lstP)), .own ((Pv.upTo 0 m).map .int), .own ((Cb.cmb 2 (Pv.upTo 0 m)).map fun c : List Int => PV.int (cM M (c.getD 0 0) (c.getD 1 0))), .no, .no, .no] = .ok .nx [.val (.lst (M.map lstP)), .own ((Pv.upTo 0 m).map .int), .own ((Cb.cmb 2 (Pv.upTo 0 m)).map fun c : List Int => PV.int (cM M (c.getD 0 0) (c.getD 1 0))), .own ((Cb.cmb 2 (Pv.upTo 0 m)).map fun c : List Int => PV.int (cM M (c.getD 1 0) (c.getD 0 0))), .no, .no] := by rw [bnd_ok m2]; rfl
    exact runF_ok ((sq_nx q1).trans ((sq_nx q2).trans ((sq_nx q3).trans (sq_rt q4)))) rfl (by decide)
  · rcases hz with rfl | rfl
    · exact .inl rfl
    · exact .inr rfl
  · rcases hz with rfl | rfl <;> rfl
end
end K22
set_option Elab.async false
set_option linter.all false
set_option maxRecDepth 100000
namespace K22
open Pv PySem PySem.Spec L2
open PyProof.Rows hiding St
def sv_nearest_listed (Fturned Fbest_sequence Fbest_direction Fjoined r_ : Fn) : M Fl := sq (mIfS (tTru (look (mIsi "int" (pVar 0)))) (sq (bnd (mTup (aCons (eC (.int 0)) (aCons (mLst (aCons (eVar 0) (Pv.ret []))) (Pv.ret [])))) mRet) (Pv.ret .nx)) (Pv.ret .nx)) (sq (bnd (eVar 0) fun r => mTgt (tNames [2, 3]) r.1) (sq (bnd (mComp (mSeq (eVar 3)) (tName 10) (Pv.ret true) (eFn r_ (aCons (eVar 10) (aCons (eVar 1) (Pv.ret [])))) [10]) (setR 4)) (sq (bnd (mComp (mSeq (eVar 4)) (tNames [11, 12]) (Pv.ret true) (eVar 12) [11, 12]) (setR 5)) (sq (bnd (mComp (mSeq (eVar 5)) (tName 13) (Pv.ret true) (mComp (mSeq (eVar 5)) (tName 14) (Pv.ret true) (eFn Fturned (aCons (eVar 1) (aCons (eVar 13) (aCons (eVar 14) (Pv.ret []))))) [14]) [13]) (setR 6)) (sq (bnd (mIf (blOf (eOp (gEq false) (pVar 2) (look (eC (.str "any"))))) (eFn Fbest_sequence (aCons (eVar 6) (Pv.ret []))) (eFn Fbest_direction (aCons (eVar 6) (Pv.ret [])))) fun r => mTgt (tNames [7, 8]) r.1) (sq (bnd (eCall gSum (kCons (look (mComp (mSeq (eVar 4)) (tNames [15, 11]) (Pv.ret true) (eVar 15) [11, 15])) (Pv.ret []))) (setR 9)) (sq (bnd (mTup (aCons (eOp gAdd (pVar 9) (pVar 7)) (aCons (eFn Fjoined (aCons (mComp (mSeq (eVar 8)) (tName 16) (Pv.ret true) (eOp gIx (pVar 5) (pVar 16)) [16]) (Pv.ret []))) (Pv.ret [])))) mRet) (Pv.ret .nx))))))))
theorem un_nearest_listed (d : Nat) : fn_nearest_listed (d + 1) = runF 17 2 (sv_nearest_listed fn_turned fn_best_sequence fn_best_direction fn_joined (fn_nearest_listed d)) := rfl
def sv_nearest (Fcheck_order Fcheck_own_tree Fnearest_listed Fcheck_narrow : Fn) : M Fl := sq (bnd (eFn Fcheck_order (aCons (eFn Fcheck_own_tree (aCons (eVar 0) (Pv.ret []))) (aCons (eVar 1) (Pv.ret [])))) fun _ => Pv.ret .nx) (sq (bnd (eFn Fnearest_listed (aCons (eFn Fcheck_narrow (aCons (eVar 0) (Pv.ret []))) (aCons (eVar 1) (Pv.ret [])))) fun r => mTgt (tNames [2, 3]) r.1) (sq (bnd (mTup (aCons (eVar 2) (aCons (eCall gTuple (kCons (pVar 3) (Pv.ret []))) (Pv.ret [])))) mRet) (Pv.ret .nx)))
theorem un_nearest : fn_nearest = runF 4 2 (sv_nearest fn_check_order fn_check_own_tree (fn_nearest_listed 40) (fn_check_narrow 40)) := rfl
def sv_check_narrow (r_ : Fn) : M Fl := sq (mIfS (mNot (tTru (look (mIsi "int" (pVar 0))))) (sq (bnd (eVar 0) fun r => mTgt (tNames [1, 2]) r.1) (sq (mIfS (mAnd (blOf (eOp (gEq false) (pVar 1) (look (eC (.str "any"))))) (blOf (eOp cGt (look (eCall gLen (kCons (pVar 2) (Pv.ret [])))) (look (eC (.int 8)))))) (sq (mRaise "OutOfRange") (Pv.ret .nx)) (Pv.ret .nx)) (sq (bnd (mSeq (eVar 2)) (loop (tName 3) (sq (bnd (eFn r_ (aCons (eVar 3) (Pv.ret []))) fun _ => Pv.ret .nx) (Pv.ret .nx)))) (Pv.ret .nx)))) (Pv.ret .nx)) (sq (mRetV 0) (Pv.ret .nx))
theorem un_check_narrow (d : Nat) : fn_check_narrow (d + 1) = runF 4 1 (sv_check_narrow  (fn_check_narrow d)) := rfl
def sv__law_most_parts (r_ : Fn) : M Fl := sq (mIfS (tTru (look (mIsi "int" (pVar 0)))) (sq (bnd (eC (.int 0)) mRet) (Pv.ret .nx)) (Pv.ret .nx)) (sq (bnd (eCall gMax (kCons (look (mComp (mSeq (eOp gIx (pVar 0) (look (eC (.int 1))))) (tName 2) (Pv.ret true) (eFn r_ (aCons (eVar 2) (Pv.ret []))) [2])) (Pv.ret []))) (setR 1)) (sq (mIfS (blOf (eOp (gEq false) (look (eOp gIx (pVar 0) (look (eC (.int 0))))) (look (eC (.str "any"))))) (sq (bnd (eCall gMax (kCons (pVar 1) (kCons (look (eCall gLen (kCons (look (eOp gIx (pVar 0) (look (eC (.int 1))))) (Pv.ret [])))) (Pv.ret [])))) (setR 1)) (Pv.ret .nx)) (Pv.ret .nx)) (sq (mRetV 1) (Pv.ret .nx))))
theorem un__law_most_parts (d : Nat) : fn__law_most_parts (d + 1) = runF 3 1 (sv__law_most_parts  (fn__law_most_parts d)) := rfl
mutual
def wid : G → Nat
  | .leaf _ => 0
  | .node w ps _ => max (if w = "any" then ps.length else 0) (wids ps)
def wids : List G → Nat
  | [] => 0
  | g :: gs => max (wid g) (wids gs)
end
theorem wids_le {gs : List G} {g : G} (h : g ∈ gs) : wid g ≤ wids gs := by
  induction gs with
  | nil => cases h
  | cons x gs ih =>
    rw [wids]
    rcases List.mem_cons.mp h with rfl | h
    · omega
    · have := ih h; omega
theorem wids_mem {gs : List G} (h : gs ≠ []) : ∃ g ∈ gs, wid g = wids gs := by
  induction gs with
  | nil => exact absurd rfl h
  | cons x gs ih =>
    rw [wids]
    by_cases c : gs = []
    · subst c
      exact ⟨x, by simp, by rw [wids]; omega⟩
    · obtain ⟨g, hg, e⟩ := ih c
      by_cases q : wid x ≤ wids gs
      · exact ⟨g, by simp [hg], by omega⟩
      · exact ⟨x, by simp, by omega⟩
theorem ifS_f {T : Pv.M Bool} {A B : Pv.M Fl} {ev ev' : SL} (h : T ev = .ok false ev') : mIfS T A B ev = B ev' := by
  rw [mIfS_ap, bnd_ok h]; rfl
def cnb (r_ : Fn) : Pv.M Fl := sq (bnd (eFn r_ (aCons (eVar 3) (Pv.ret []))) fun _ => Pv.ret .nx) (Pv.ret .nx)
theorem cn_leaf {r_ : Fn} {i : Int} : runF 4 1 (sv_check_narrow r_) [.int i] = .ok (.int i, false) := by
  unfold sv_check_narrow
  simp
theorem cn_wide {r_ : Fn} {L : List PV} (hl : 8 < L.length) : runF 4 1 (sv_check_narrow r_) [.tup [.str "any", .tup L]] = .exc "OutOfRange" := by
  have g : gEq false (.str "any") (.str "any") = some (.bl true, false) := rfl
  have h : gLen [.tup L] = some (.int (L.length : Nat), false) := rfl
  have c : ¬ ((L.length : Nat) : Int) ≤ 8 := by omega
  have c' : 8 < ((L.length : Nat) : Int) := by omega
  generalize ((L.length : Nat) : Int) = z at *
  unfold sv_check_narrow
  simp [-gLen_t, -gEq_ss, g, h, c, c']
theorem cn_go {r_ : Fn} {w : Str} {L : List PV} {ev : SL} (hl : w = "any" → L.length ≤ 8) (h : loop (tName 3) (cnb r_) L [.val (.tup [.str w, .tup L]), .val (.str w), .val (.tup L), .no] = .ok .nx ev) (hv : ev[0]? = some (.val (.tup [.str w, .tup L]))) : runF 4 1 (sv_check_narrow r_) [.tup [.str w, .tup L]] = .ok (.tup [.str w, .tup L], false) := by
  have e1 : mAnd (blOf (eOp (gEq false) (pVar 1) (look (eC (.str "any"))))) (blOf (eOp cGt (look (eCall gLen (kCons (pVar 2) (Pv.ret [])))) (look (eC (.int 8))))) [.val (.tup [.str w, .tup L]), .val (.str w), .val (.tup L), .no] = .ok false [.val (.tup [.str w, .tup L]), .val (.str w), .val (.tup L), .no] := by
    have h : gLen [.tup L] = some (.int (L.length : Nat), false) := rfl
    by_cases c : w = "any"
    · have hl' := hl c
      subst c
      have c' : ¬ 8 < ((L.length : Nat) : Int) := by omega
      generalize ((L.length : Nat) : Int) = z at *
      simp [-gLen_t, h, c']
    · simp [-gLen_t, c]
  have e2 : bnd (mSeq (eVar 2)) (loop (tName 3) (cnb r_)) [.val (.tup [.str w, .tup L]), .val (.str w), .val (.tup L), .no] = .ok .nx ev := h
  have e0 : (mIfS (mNot (tTru (look (mIsi "int" (pVar 0))))) (sq (bnd (eVar 0) fun r => mTgt (tNames [1, 2]) r.1) (sq (mIfS (mAnd (blOf (eOp (gEq false) (pVar 1) (look (eC (.str "any"))))) (blOf (eOp cGt (look (eCall gLen (kCons (pVar 2) (Pv.ret [])))) (look (eC (.int 8)))))) (sq (mRaise "OutOfRange") (Pv.ret .nx)) (Pv.ret .nx)) (sq (bnd (mSeq (eVar 2)) (loop (tName 3) (sq (bnd (eFn r_ (aCons (eVar 3) (Pv.ret []))) fun _ => Pv.ret .nx) (Pv.ret .nx)))) (Pv.ret .nx)))) (Pv.ret .nx)) [.val (.tup [.str w, .tup L]), .no, .no, .no] = .ok .nx ev := by
    rw [mIfS_ap, bnd_ok (by simp : mNot (tTru (look (mIsi "int" (pVar 0)))) [.val (.tup [.str w, .tup L]), .no, .no, .no] = .ok true [.val (.tup [.str w, .tup L]), .no, .no, .no])]
    exact (sq_nx (rfl : (bnd (eVar 0) fun r => mTgt (tNames [1, 2]) r.1) [.val (.tup [.str w, .tup L]), .no, .no, .no] = .ok .nx [.val (.tup [.str w, .tup L]), .val (.str w), .val (.tup L), .no])).trans ((sq_nx (ifS_f e1)).trans ((sq_nx e2).trans rfl))
  have e3 : mRetV 0 ev = .ok (.rt (.tup [.str w, .tup L], false)) ev := by rw [mRetV_ap, hv]
  exact runF_ok ((sq_nx e0).trans (sq_rt e3)) rfl (by decide)
theorem cn_exc {r_ : Fn} {w : Str} {L : List PV} {ev : SL} {c : Str} (hl : w = "any" → L.length ≤ 8) (h : loop (tName 3) (cnb r_) L [.val (.tup [.str w, .tup L]), .val (.str w), .val (.tup L), .no] = .exc c ev) : runF 4 1 (sv_check_narrow r_) [.tup [.str w, .tup L]] = .exc c := by
  have e1 : mAnd (blOf (eOp (gEq false) (pVar 1) (look (eC (.str "any"))))) (blOf (eOp cGt (look (eCall gLen (kCons (pVar 2) (Pv.ret [])))) (look (eC (.int 8))))) [.val (.tup [.str w, .tup L]), .val (.str w), .val (.tup L), .no] = .ok false [.val (.tup [.str w, .tup L]), .val (.str w), .val (.tup L), .no] := by
    have h : gLen [.tup L] = some (.int (L.length : Nat), false) := rfl
    by_cases c : w = "any"
    · have hl' := hl c
      subst c
      have c' : ¬ 8 < ((L.length : Nat) : Int) := by omega
      generalize ((L.length : Nat) : Int) = z at *
      simp [-gLen_t, h, c']
    · simp [-gLen_t, c]
  have e2 : bnd (mSeq (eVar 2)) (loop (tName 3) (cnb r_)) [.val (.tup [.str w, .tup L]), .val (.str w), .val (.tup L), .no] = .exc c ev := h
  have e0 : (mIfS (mNot (tTru (look (mIsi "int" (pVar 0))))) (sq (bnd (eVar 0) fun r => mTgt (tNames [1, 2]) r.1) (sq (mIfS (mAnd (blOf (eOp (gEq false) (pVar 1) (look (eC (.str "any"))))) (blOf (eOp cGt (look (eCall gLen (kCons (pVar 2) (Pv.ret [])))) (look (eC (.int 8)))))) (sq (mRaise "OutOfRange") (Pv.ret .nx)) (Pv.ret .nx)) (sq (bnd (mSeq (eVar 2)) (loop (tName 3) (sq (bnd (eFn r_ (aCons (eVar 3) (Pv.ret []))) fun _ => Pv.ret .nx) (Pv.ret .nx)))) (Pv.ret .nx)))) (Pv.ret .nx)) [.val (.tup [.str w, .tup L]), .no, .no, .no] = .exc c ev := by
    rw [mIfS_ap, bnd_ok (by simp : mNot (tTru (look (mIsi "int" (pVar 0)))) [.val (.tup [.str w, .tup L]), .no, .no, .no] = .ok true [.val (.tup [.str w, .tup L]), .no, .no, .no])]
    exact (sq_nx (rfl : (bnd (eVar 0) fun r => mTgt (tNames [1, 2]) r.1) [.val (.tup [.str w, .tup L]), .no, .no, .no] = .ok .nx [.val (.tup [.str w, .tup L]), .val (.str w), .val (.tup L), .no])).trans ((sq_nx (ifS_f e1)).trans (sq_exc e2))
  exact runF_exc (sq_exc e0) rfl (by decide)
theorem cnb_ok {r_ : Fn} {T w L : PV} {r : Pv.RV} {g : G} (h : r_ [enc g] = .ok r) : cnb r_ [.val T, .val w, .val L, .val (enc g)] = .ok .nx [.val T, .val w, .val L, .val (enc g)] := by
  have ne := enc_ne g
  generalize enc g = Q at *
  unfold cnb
  simp [h]
theorem cnb_x {r_ : Fn} {T w L : PV} {g : G} {c : Str} (h : r_ [enc g] = .exc c) : cnb r_ [.val T, .val w, .val L, .val (enc g)] = .exc c [.val T, .val w, .val L, .val (enc g)] := by
  have ne := enc_ne g
  generalize enc g = Q at *
  unfold cnb
  simp [h]
theorem cn_loop {r_ : Fn} {T w L : PV} : ∀ (gs : List G) (s3 : Pv.Slot), (∀ g ∈ gs, r_ [enc g] = if wid g ≤ 8 then .ok (enc g, false) else .exc "OutOfRange") → (wids gs ≤ 8 ∧ ∃ s3', loop (tName 3) (cnb r_) (encs gs) [.val T, .val w, .val L, s3] = .ok .nx [.val T, .val w, .val L, s3']) ∨ (¬ wids gs ≤ 8 ∧ ∃ ev, loop (tName 3) (cnb r_) (encs gs) [.val T, .val w, .val L, s3] = .exc "OutOfRange" ev)
  | [], s3, _ => .inl ⟨by rw [wids]; omega, s3, by rw [encs_nil]; rfl⟩
  | g :: gs, s3, h => by
    have h1 := h g (by simp)
    rw [encs_cons]
    have et : tName 3 (enc g) [.val T, .val w, .val L, s3] = some [.val T, .val w, .val L, .val (enc g)] := rfl
    by_cases c : wid g ≤ 8
    · rw [if_pos c] at h1
      have eb := cnb_ok (T := T) (w := w) (L := L) h1
      rcases cn_loop gs (.val (enc g)) (fun x hx => h x (by simp [hx])) with ⟨c2, s3', e⟩ | ⟨c2, ev, e⟩
      · exact .inl ⟨by rw [wids]; omega, s3', (loop_nx et eb).trans e⟩
      · exact .inr ⟨by rw [wids]; omega, ev, (loop_nx et eb).trans e⟩
    · rw [if_neg c] at h1
      have eb := cnb_x (T := T) (w := w) (L := L) h1
      refine .inr ⟨by rw [wids]; omega, [.val T, .val w, .val L, .val (enc g)], ?_⟩
      unfold loop
      simp only [et, eb]
theorem narrow_ok : ∀ (d : Nat) (g : G), dep g < d → form g = true → fn_check_narrow d [enc g] = if wid g ≤ 8 then .ok (enc g, false) else .exc "OutOfRange"
  | 0, g, h, _ => absurd h (by omega)
  | d + 1, .leaf i, _, _ => by
    rw [wid, if_pos (by omega), un_check_narrow, enc]
    exact cn_leaf
  | d + 1, .node w gs x, h, hf => by
    obtain ⟨hx, _, _, hfs⟩ := form_n hf
    subst hx
    have en : enc (.node w gs false) = .tup [.str w, .tup (encs gs)] := by rw [enc]; rfl
    have hr : ∀ g ∈ gs, fn_check_narrow d [enc g] = if wid g ≤ 8 then .ok (enc g, false) else .exc "OutOfRange" := fun g hg => by
      have := dep_mem hg
      rw [dep] at h
      exact narrow_ok d g (by omega) (forms_all.mp hfs g hg)
    have ll := encs_len gs
    rw [en, un_check_narrow, wid]
    by_cases c : w = "any" ∧ 8 < gs.length
    · obtain ⟨rfl, c⟩ := c
      rw [if_neg (by rw [if_pos rfl]; omega)]
      exact cn_wide (by omega)
    · have hl : w = "any" → (encs gs).length ≤ 8 := fun e => by
        by_cases c' : 8 < gs.length
        · exact absurd ⟨e, c'⟩ c
        · omega
      have hm : (if w = "any" then gs.length else 0) ≤ 8 := by
        split
        · rename_i e
          have := hl e
          omega
        · omega
      rcases cn_loop (r_ := fn_check_narrow d) (T := .tup [.str w, .tup (encs gs)]) (w := .str w) (L := .tup (encs gs)) gs .no hr with ⟨c2, s3', e⟩ | ⟨c2, ev, e⟩
      · rw [if_pos (by omega)]
        exact cn_go hl e rfl
      · rw [if_neg (by omega)]
        exact cn_exc hl e
theorem mp_leaf {r_ : Fn} {i : Int} : runF 3 1 (sv__law_most_parts r_) [.int i] = .ok (.int 0, false) := by
  unfold sv__law_most_parts
  simp
def mpc (r_ : Fn) : Pv.M Pv.RV := mComp (mSeq (eOp gIx (pVar 0) (look (eC (.int 1))))) (tName 2) (Pv.ret true) (eFn r_ (aCons (eVar 2) (Pv.ret []))) [2]
theorem mp_eq (r_ : Fn) : sv__law_most_parts r_ = sq (mIfS (tTru (look (mIsi "int" (pVar 0)))) (sq (bnd (eC (.int 0)) mRet) (Pv.ret .nx)) (Pv.ret .nx)) (sq (bnd (eCall gMax (kCons (look (mpc r_)) (Pv.ret []))) (setR 1)) (sq (mIfS (blOf (eOp (gEq false) (look (eOp gIx (pVar 0) (look (eC (.int 0))))) (look (eC (.str "any"))))) (sq (bnd (eCall gMax (kCons (pVar 1) (kCons (look (eCall gLen (kCons (look (eOp gIx (pVar 0) (look (eC (.int 1))))) (Pv.ret [])))) (Pv.ret [])))) (setR 1)) (Pv.ret .nx)) (Pv.ret .nx)) (sq (mRetV 1) (Pv.ret .nx)))) := rfl
theorem mp_v {r_ : Fn} {w : Str} {L X : List PV} {a b n : Int} (h : mpc r_ [.val (.tup [.str w, .tup L]), .no, .no] = .ok (.lst X, true) [.val (.tup [.str w, .tup L]), .no, .no]) (gl : gLen [.tup L] = some (.int n, false)) (g : gMax [.lst X] = some (.int a, false)) (g2 : gMax [.int a, .int n] = some (.int b, false)) : runF 3 1 (sv__law_most_parts r_) [.tup [.str w, .tup L]] = .ok (.int (if w = "any" then b else a), false) := by
  have h0 : atI [PV.str w, PV.tup L] 0 = some (.str w) := at0
  have h1 : atI [PV.str w, PV.tup L] 1 = some (.tup L) := at1
  rw [mp_eq]
  by_cases c : w = "any"
  · subst c
    simp [-gLen_t, h, g, h0, h1, gl, g2]
  · simp [-gLen_t, h, g, h0, c]
end K22
set_option Elab.async false
set_option linter.all false
set_option maxRecDepth 100000
namespace K22
open Pv PySem PySem.Spec L2
open PyProof.Rows hiding St
def n2c (r_ : Fn) : Pv.M Pv.RV := mComp (mSeq (eVar 3)) (tName 10) (Pv.ret true) (eFn r_ (aCons (eVar 10) (aCons (eVar 1) (Pv.ret [])))) [10]
def n3c : Pv.M Pv.RV := mComp (mSeq (eVar 4)) (tNames [11, 12]) (Pv.ret true) (eVar 12) [11, 12]
def n4i (Fturned : Fn) : Pv.M Pv.RV := mComp (mSeq (eVar 5)) (tName 14) (Pv.ret true) (eFn Fturned (aCons (eVar 1) (aCons (eVar 13) (aCons (eVar 14) (Pv.ret []))))) [14]
def n4c (Fturned : Fn) : Pv.M Pv.RV := mComp (mSeq (eVar 5)) (tName 13) (Pv.ret true) (mComp (mSeq (eVar 5)) (tName 14) (Pv.ret true) (eFn Fturned (aCons (eVar 1) (aCons (eVar 13) (aCons (eVar 14) (Pv.ret []))))) [14]) [13]
def n5 (Fbest_sequence Fbest_direction : Fn) : Pv.M Fl := bnd (mIf (blOf (eOp (gEq false) (pVar 2) (look (eC (.str "any"))))) (eFn Fbest_sequence (aCons (eVar 6) (Pv.ret []))) (eFn Fbest_direction (aCons (eVar 6) (Pv.ret [])))) fun r => mTgt (tNames [7, 8]) r.1
def n6c : Pv.M Pv.RV := mComp (mSeq (eVar 4)) (tNames [15, 11]) (Pv.ret true) (eVar 15) [11, 15]
def n6 (C : Pv.M Pv.RV) : Pv.M Fl := bnd (eCall gSum (kCons (look C) (Pv.ret []))) (setR 9)
def n7c : Pv.M Pv.RV := mComp (mSeq (eVar 8)) (tName 16) (Pv.ret true) (eOp gIx (pVar 5) (pVar 16)) [16]
def n7 (Fjoined : Fn) (C : Pv.M Pv.RV) : Pv.M Fl := bnd (mTup (aCons (eOp gAdd (pVar 9) (pVar 7)) (aCons (eFn Fjoined (aCons C (Pv.ret []))) (Pv.ret [])))) mRet
theorem nl_eq (Fturned Fbest_sequence Fbest_direction Fjoined r_ : Fn) : sv_nearest_listed Fturned Fbest_sequence Fbest_direction Fjoined r_ = sq (mIfS (tTru (look (mIsi "int" (pVar 0)))) (sq (bnd (mTup (aCons (eC (.int 0)) (aCons (mLst (aCons (eVar 0) (Pv.ret []))) (Pv.ret [])))) mRet) (Pv.ret .nx)) (Pv.ret .nx)) (sq (bnd (eVar 0) fun r => mTgt (tNames [2, 3]) r.1) (sq (bnd (n2c r_) (setR 4)) (sq (bnd n3c (setR 5)) (sq (bnd (n4c Fturned) (setR 6)) (sq (n5 Fbest_sequence Fbest_direction) (sq (n6 n6c) (sq (n7 Fjoined n7c) (Pv.ret .nx)))))))) := rfl
theorem nl_leaf {F1 F2 F3 F4 r_ : Fn} {i : Int} {W : PV} : runF 17 2 (sv_nearest_listed F1 F2 F3 F4 r_) [.int i, W] = .ok (.tup [.int 0, .lst [.int i]], false) := by
  unfold sv_nearest_listed
  simp
abbrev nq (q : Int × List Int) : PV := .tup [.int q.1, .lst (q.2.map .int)]
section
variable {Tr W : PV} {w : Str} {L : List PV} {P : Int → G} {Q : Int → Int × List Int} {C : Int → Int → Int} {l : List Int} {s7 s8 s9 : Pv.Slot}
theorem n1_ok : (bnd (eVar 0) fun r => mTgt (tNames [2, 3]) r.1) [.val (.tup [.str w, .tup L]), .val W, .no, .no, .no, .no, .no, .no, .no, .no, .no, .no, .no, .no, .no, .no, .no] = .ok .nx [.val (.tup [.str w, .tup L]), .val W, .val (.str w), .val (.tup L), .no, .no, .no, .no, .no, .no, .no, .no, .no, .no, .no, .no, .no] := rfl
theorem n0_ok : (mIfS (tTru (look (mIsi "int" (pVar 0)))) (sq (bnd (mTup (aCons (eC (.int 0)) (aCons (mLst (aCons (eVar 0) (Pv.ret []))) (Pv.ret [])))) mRet) (Pv.ret .nx)) (Pv.ret .nx)) [.val (.tup [.str w, .tup L]), .val W, .no, .no, .no, .no, .no, .no, .no, .no, .no, .no, .no, .no, .no, .no, .no] = .ok .nx [.val (.tup [.str w, .tup L]), .val W, .no, .no, .no, .no, .no, .no, .no, .no, .no, .no, .no, .no, .no, .no, .no] := by
  simp
theorem n2_ok {r_ : Fn} (hL : L = l.map fun i => enc (P i)) (hr : ∀ i ∈ l, r_ [enc (P i), W] = .ok (nq (Q i), false)) (hW : ∀ ps, W ≠ .lst ps) (hz : l.length ≤ 1000) : bnd (n2c r_) (setR 4) [.val Tr, .val W, .val (.str w), .val (.tup L), .no, .no, .no, .no, .no, .no, .no, .no, .no, .no, .no, .no, .no] = .ok .nx [.val Tr, .val W, .val (.str w), .val (.tup L), .own (l.map fun i => nq (Q i)), .no, .no, .no, .no, .no, .no, .no, .no, .no, .no, .no, .no] := by
  have m := comp_map (v := 10) (mi := mSeq (eVar 3)) (me := eFn r_ (aCons (eVar 10) (aCons (eVar 1) (Pv.ret [])))) (e := fun i => enc (P i)) (g := fun i => nq (Q i)) (l := l) (ev := [.val Tr, .val W, .val (.str w), .val (.tup L), .no, .no, .no, .no, .no, .no, .no, .no, .no, .no, .no, .no, .no]) (ev1 := [.val Tr, .val W, .val (.str w), .val (.tup L), .no, .no, .no, .no, .no, .no, .no, .no, .no, .no, .no, .no, .no]) (by rw [← hL]; rfl) rfl (fun i hi => ⟨false, by
    have h := hr i hi
    have ne := enc_ne (P i)
    generalize enc (P i) = E at *
    generalize nq (Q i) = Z at *
    show eFn r_ (aCons (eVar 10) (aCons (eVar 1) (Pv.ret []))) [.val Tr, .val W, .val (.str w), .val (.tup L), .no, .no, .no, .no, .no, .no, .val E, .no, .no, .no, .no, .no, .no] = .ok (Z, false) [.val Tr, .val W, .val (.str w), .val (.tup L), .no, .no, .no, .no, .no, .no, .val E, .no, .no, .no, .no, .no, .no]
    simp [h]⟩) (by omega)
  unfold n2c
  rw [bnd_ok m]; rfl
theorem n3_ok (hz : l.length ≤ 1000) : bnd n3c (setR 5) [.val Tr, .val W, .val (.str w), .val (.tup L), .own (l.map fun i => nq (Q i)), .no, .no, .no, .no, .no, .no, .no, .no, .no, .no, .no, .no] = .ok .nx [.val Tr, .val W, .val (.str w), .val (.tup L), .val (.lst (l.map fun i => nq (Q i))), .own (l.map fun i => lstP (Q i).2), .no, .no, .no, .no, .no, .no, .no, .no, .no, .no, .no] := by
  have m := comp_genT (t := tNames [11, 12]) (vs := [11, 12]) (mt := Pv.ret true) (mi := mSeq (eVar 4)) (me := eVar 12) (e := fun i => nq (Q i)) (B := fun i => [.val Tr, .val W, .val (.str w), .val (.tup L), .val (.lst (l.map fun i => nq (Q i))), .no, .no, .no, .no, .no, .no, .val (.int (Q i).1), .val (lstP (Q i).2), .no, .no, .no, .no]) (c := fun _ => true) (g := fun i => lstP (Q i).2) (l := l) (ev := [.val Tr, .val W, .val (.str w), .val (.tup L), .own (l.map fun i => nq (Q i)), .no, .no, .no, .no, .no, .no, .no, .no, .no, .no, .no, .no]) (ev1 := [.val Tr, .val W, .val (.str w), .val (.tup L), .val (.lst (l.map fun i => nq (Q i))), .no, .no, .no, .no, .no, .no, .no, .no, .no, .no, .no, .no]) rfl rfl rfl (fun i hi => rfl) (fun i hi => rfl) (fun i hi => rfl) (fun i hi _ => ⟨false, rfl⟩) (by omega)
  rw [List.filter_eq_self.mpr (fun _ _ => rfl)] at m
  unfold n3c
  rw [bnd_ok m]; rfl
theorem n4_ok {F : Fn} {A : PV} (hA : ∀ ps, A ≠ .lst ps) (hF : ∀ i ∈ l, ∀ j ∈ l, F [A, lstP (Q i).2, lstP (Q j).2] = .ok (.int (C i j), false)) (hz : l.length ≤ 1000) {s4 : PV} : bnd (n4c F) (setR 6) [.val Tr, .val A, .val (.str w), .val (.tup L), .val s4, .own (l.map fun i => lstP (Q i).2), .no, .no, .no, .no, .no, .no, .no, .no, .no, .no, .no] = .ok .nx [.val Tr, .val A, .val (.str w), .val (.tup L), .val s4, .val (.lst (l.map fun i => lstP (Q i).2)), .own ((l.map fun i => l.map (C i)).map lstP), .no, .no, .no, .no, .no, .no, .no, .no, .no, .no] := by
  have m := comp_map (v := 13) (mi := mSeq (eVar 5)) (me := n4i F) (e := fun i => lstP (Q i).2) (g := fun i => lstP (l.map (C i))) (l := l) (ev := [.val Tr, .val A, .val (.str w), .val (.tup L), .val s4, .own (l.map fun i => lstP (Q i).2), .no, .no, .no, .no, .no, .no, .no, .no, .no, .no, .no]) (ev1 := [.val Tr, .val A, .val (.str w), .val (.tup L), .val s4, .val (.lst (l.map fun i => lstP (Q i).2)), .no, .no, .no, .no, .no, .no, .no, .no, .no, .no, .no]) rfl rfl (fun i hi => ⟨true, by
    have m2 := comp_map (v := 14) (mi := mSeq (eVar 5)) (me := eFn F (aCons (eVar 1) (aCons (eVar 13) (aCons (eVar 14) (Pv.ret []))))) (e := fun j => lstP (Q j).2) (g := fun j => PV.int (C i j)) (l := l) (ev := [.val Tr, .val A, .val (.str w), .val (.tup L), .val s4, .val (.lst (l.map fun i => lstP (Q i).2)), .no, .no, .no, .no, .no, .no, .no, .val (lstP (Q i).2), .no, .no, .no]) (ev1 := [.val Tr, .val A, .val (.str w), .val (.tup L), .val s4, .val (.lst (l.map fun i => lstP (Q i).2)), .no, .no, .no, .no, .no, .no, .no, .val (lstP (Q i).2), .no, .no, .no]) rfl rfl (fun j hj => ⟨false, by
      have h := hF i hi j hj
      generalize lstP (Q i).2 = X at *
      generalize lstP (Q j).2 = Y at *
      generalize PV.lst (l.map fun i => lstP (Q i).2) = Z
      show eFn F (aCons (eVar 1) (aCons (eVar 13) (aCons (eVar 14) (Pv.ret [])))) [.val Tr, .val A, .val (.str w), .val (.tup L), .val s4, .val Z, .no, .no, .no, .no, .no, .no, .no, .val X, .val Y, .no, .no] = .ok (.int (C i j), false) [.val Tr, .val A, .val (.str w), .val (.tup L), .val s4, .val Z, .no, .no, .no, .no, .no, .no, .no, .val X, .val Y, .no, .no]
      simp [h]⟩) (by omega)
    have e2 : l.map (fun j => PV.int (C i j)) = (l.map (C i)).map PV.int := by rw [List.map_map]; rfl
    rw [e2] at m2
    exact m2⟩) (by omega)
  have e : l.map (fun i => lstP (l.map (C i))) = (l.map fun i => l.map (C i)).map lstP := by rw [List.map_map]; rfl
  rw [e] at m
  unfold n4i at m
  unfold n4c
  rw [bnd_ok m]; rfl
theorem n5_any {F G : Fn} {R : List PV} {s4 s5 Z : PV} {c : Int} (h : F [.lst R] = .ok (.tup [.int c, Z], false)) : n5 F G [.val Tr, .val W, .val (.str "any"), .val (.tup L), .val s4, .val s5, .own R, .no, .no, .no, .no, .no, .no, .no, .no, .no, .no] = .ok .nx [.val Tr, .val W, .val (.str "any"), .val (.tup L), .val s4, .val s5, .val (.lst R), .val (.int c), .val Z, .no, .no, .no, .no, .no, .no, .no, .no] := by
  have g : gEq false (.str "any") (.str "any") = some (.bl true, false) := rfl
  have e : mIf (blOf (eOp (gEq false) (pVar 2) (look (eC (.str "any"))))) (eFn F (aCons (eVar 6) (Pv.ret []))) (eFn G (aCons (eVar 6) (Pv.ret []))) [.val Tr, .val W, .val (.str "any"), .val (.tup L), .val s4, .val s5, .own R, .no, .no, .no, .no, .no, .no, .no, .no, .no, .no] = .ok (.tup [.int c, Z], false) [.val Tr, .val W, .val (.str "any"), .val (.tup L), .val s4, .val s5, .val (.lst R), .no, .no, .no, .no, .no, .no, .no, .no, .no, .no] := by
    simp [-gEq_ss, g, h]
  unfold n5
  rw [bnd_ok e]; rfl
theorem n5_row {F G : Fn} {R : List PV} {s4 s5 Z : PV} {c : Int} (hw : w ≠ "any") (h : G [.lst R] = .ok (.tup [.int c, Z], false)) : n5 F G [.val Tr, .val W, .val (.str w), .val (.tup L), .val s4, .val s5, .own R, .no, .no, .no, .no, .no, .no, .no, .no, .no, .no] = .ok .nx [.val Tr, .val W, .val (.str w), .val (.tup L), .val s4, .val s5, .val (.lst R), .val (.int c), .val Z, .no, .no, .no, .no, .no, .no, .no, .no] := by
  have g : gEq false (.str w) (.str "any") = some (.bl false, false) := by rw [gEq_ss]; simp [hw]
  have e : mIf (blOf (eOp (gEq false) (pVar 2) (look (eC (.str "any"))))) (eFn F (aCons (eVar 6) (Pv.ret []))) (eFn G (aCons (eVar 6) (Pv.ret []))) [.val Tr, .val W, .val (.str w), .val (.tup L), .val s4, .val s5, .own R, .no, .no, .no, .no, .no, .no, .no, .no, .no, .no] = .ok (.tup [.int c, Z], false) [.val Tr, .val W, .val (.str w), .val (.tup L), .val s4, .val s5, .val (.lst R), .no, .no, .no, .no, .no, .no, .no, .no, .no, .no] := by
    simp [-gEq_ss, g, h]
  unfold n5
  rw [bnd_ok e]; rfl
theorem n6_v {K : Pv.M Pv.RV} {ev ev' : SL} {X : List PV} {k : Int} (h : K ev = .ok (.lst X, true) ev') (g : gSum [.lst X] = some (.int k, false)) (hl : 9 < ev'.length) : n6 K ev = .ok .nx (ev'.set 9 (.val (.int k))) := by
  have e0 : look K ev = .ok (.lst X) ev' := by rw [look_ap, bnd_ok h]; rfl
  have e : kCons (look K) (Pv.ret []) ev = .ok [.lst X] ev' := by rw [kCons_ap, bnd_ok e0]; rfl
  unfold n6
  have e2 : eCall gSum (kCons (look K) (Pv.ret [])) ev = .ok (.int k, false) ev' := by rw [eCall_ap, bnd_ok e, g]; rfl
  rw [bnd_ok e2, setR_ap, if_pos hl]
theorem n6_ok {s5 s6 Z : PV} {c : Int} (hz : l.length ≤ 1000) : n6 n6c [.val Tr, .val W, .val (.str w), .val (.tup L), .val (.lst (l.map fun i => nq (Q i))), .val s5, .val s6, .val (.int c), .val Z, .no, .no, .no, .no, .no, .no, .no, .no] = .ok .nx [.val Tr, .val W, .val (.str w), .val (.tup L), .val (.lst (l.map fun i => nq (Q i))), .val s5, .val s6, .val (.int c), .val Z, .val (.int (sm (l.map fun i => (Q i).1))), .no, .no, .no, .no, .no, .no, .no] := by
  have m := comp_genT (t := tNames [15, 11]) (vs := [11, 15]) (mt := Pv.ret true) (mi := mSeq (eVar 4)) (me := eVar 15) (e := fun i => nq (Q i)) (B := fun i => [.val Tr, .val W, .val (.str w), .val (.tup L), .val (.lst (l.map fun i => nq (Q i))), .val s5, .val s6, .val (.int c), .val Z, .no, .no, .val (lstP (Q i).2), .no, .no, .no, .val (.int (Q i).1), .no]) (c := fun _ => true) (g := fun i => PV.int (Q i).1) (l := l) (ev := [.val Tr, .val W, .val (.str w), .val (.tup L), .val (.lst (l.map fun i => nq (Q i))), .val s5, .val s6, .val (.int c), .val Z, .no, .no, .no, .no, .no, .no, .no, .no]) (ev1 := [.val Tr, .val W, .val (.str w), .val (.tup L), .val (.lst (l.map fun i => nq (Q i))), .val s5, .val s6, .val (.int c), .val Z, .no, .no, .no, .no, .no, .no, .no, .no]) rfl rfl rfl (fun i hi => rfl) (fun i hi => rfl) (fun i hi => rfl) (fun i hi _ => ⟨false, rfl⟩) (by omega)
  rw [List.filter_eq_self.mpr (fun _ _ => rfl)] at m
  have g := gSum_sm (l.map fun i => (Q i).1)
  rw [List.map_map] at g
  exact n6_v m g (by show 9 < 17; omega)
theorem n7_v {F : Fn} {K : Pv.M Pv.RV} {ev : SL} {X J : List PV} {a b : Int} (h9 : pVar 9 ev = .ok (.int a) ev) (h7 : pVar 7 ev = .ok (.int b) ev) (h : K ev = .ok (.lst X, true) ev) (hj : F [.lst X] = .ok (.lst J, true)) : n7 F K ev = .ok (.rt (.tup [.int (a + b), .lst J], false)) ev := by
  have e1 : eOp gAdd (pVar 9) (pVar 7) ev = .ok (.int (a + b), false) ev := by rw [eOp_ap, bnd_ok h9, bnd_ok h7]; rfl
  have e2 : aCons K (Pv.ret []) ev = .ok [.lst X] ev := by rw [aCons_ap, bnd_ok h]; rfl
  have e3 : eFn F (aCons K (Pv.ret [])) ev = .ok (.lst J, true) ev := by
    rw [eFn_ap, e2]
    show (match F [.lst X] with | .ok r => R.ok r ev | .exc c => R.exc c ev | .bad => R.bad) = _
    rw [hj]
  have e4 : aCons (eFn F (aCons K (Pv.ret []))) (Pv.ret []) ev = .ok [.lst J] ev := by rw [aCons_ap, bnd_ok e3]; rfl
  have e5 : aCons (eOp gAdd (pVar 9) (pVar 7)) (aCons (eFn F (aCons K (Pv.ret []))) (Pv.ret [])) ev = .ok [.int (a + b), .lst J] ev := by rw [aCons_ap, bnd_ok e1, bnd_ok e4]; rfl
  unfold n7
  have e6 : mTup (aCons (eOp gAdd (pVar 9) (pVar 7)) (aCons (eFn F (aCons K (Pv.ret []))) (Pv.ret []))) ev = .ok (.tup [.int (a + b), .lst J], false) ev := by
    unfold mTup
    rw [bnd_ok e5]; rfl
  rw [bnd_ok e6]; rfl
theorem n7_ok {F : Fn} {s4 s6 Z : PV} {b a : Int} {J : List PV} {s : List Int} (hZ : SeqP Z s) (hs : ∀ i ∈ s, i ∈ l) (hl : l = Pv.upTo 0 l.length) (hz : s.length ≤ 1000) (hj : F [.lst (s.map fun i => lstP (Q i).2)] = .ok (.lst J, true)) : n7 F n7c [.val Tr, .val W, .val (.str w), .val (.tup L), .val s4, .val (.lst (l.map fun i => lstP (Q i).2)), .val s6, .val (.int b), .val Z, .val (.int a), .no, .no, .no, .no, .no, .no, .no] = .ok (.rt (.tup [.int (a + b), .lst J], false)) [.val Tr, .val W, .val (.str w), .val (.tup L), .val s4, .val (.lst (l.map fun i => lstP (Q i).2)), .val s6, .val (.int b), .val Z, .val (.int a), .no, .no, .no, .no, .no, .no, .no] := by
  have m := comp_map (v := 16) (mi := mSeq (eVar 8)) (me := eOp gIx (pVar 5) (pVar 16)) (e := PV.int) (g := fun i => lstP (Q i).2) (l := s) (ev := [.val Tr, .val W, .val (.str w), .val (.tup L), .val s4, .val (.lst (l.map fun i => lstP (Q i).2)), .val s6, .val (.int b), .val Z, .val (.int a), .no, .no, .no, .no, .no, .no, .no]) (ev1 := [.val Tr, .val W, .val (.str w), .val (.tup L), .val s4, .val (.lst (l.map fun i => lstP (Q i).2)), .val s6, .val (.int b), .val Z, .val (.int a), .no, .no, .no, .no, .no, .no, .no]) (seq_it hZ rfl) rfl (fun i hi => ⟨false, by
    have hi' := hs i hi
    rw [hl] at hi'
    have hi2 := upm.mp hi'
    have h0 : atI (l.map fun i => lstP (Q i).2) i = some (lstP (Q i).2) := by
      have hk : i.toNat < l.length := by omega
      have e : l[i.toNat]? = some i := by
        rw [hl]
        unfold Pv.upTo
        rw [List.getElem?_map, List.getElem?_range hk]
        show some (0 + ((i.toNat : Nat) : Int)) = some i
        congr 1; omega
      have := atI_nat (xs := l.map fun i => lstP (Q i).2) (j := i.toNat) (v := lstP (Q i).2) (by rw [List.getElem?_map, e]; rfl)
      rwa [show ((i.toNat : Nat) : Int) = i by omega] at this
    generalize l.map (fun i => lstP (Q i).2) = Y at *
    generalize (Q i).2.map PV.int = X at *
    show eOp gIx (pVar 5) (pVar 16) [.val Tr, .val W, .val (.str w), .val (.tup L), .val s4, .val (.lst Y), .val s6, .val (.int b), .val Z, .val (.int a), .no, .no, .no, .no, .no, .no, .val (.int i)] = .ok (lstP (Q i).2, false) [.val Tr, .val W, .val (.str w), .val (.tup L), .val s4, .val (.lst Y), .val s6, .val (.int b), .val Z, .val (.int a), .no, .no, .no, .no, .no, .no, .val (.int i)]
    simp [h0]⟩) (by omega)
  exact n7_v rfl rfl m hj
end
end K22
set_option Elab.async false
set_option linter.all false
set_option maxRecDepth 100000
namespace K22
open Pv PySem PySem.Spec L2
open PyProof.Rows hiding St
theorem sc_congr {C D : Int → Int → Int} : ∀ {s : List Int}, (∀ p ∈ s, ∀ q ∈ s, C p q = D p q) → sc C s = sc D s
  | [], _ => rfl
  | p :: s, h => by
    show sm (s.map (C p)) + sc C s = sm (s.map (D p)) + sc D s
    rw [sc_congr fun a ha b hb => h a (by simp [ha]) b (by simp [hb]), List.map_congr_left (g := D p) fun q hq => h p (by simp) q (by simp [hq])]
theorem up_get {m : Nat} {i : Int} (h : 0 ≤ i ∧ i < (m : Int)) : (Pv.upTo 0 m)[i.toNat]? = some i := by
  unfold Pv.upTo
  rw [List.getElem?_map, List.getElem?_range (by omega)]
  show some (0 + ((i.toNat : Nat) : Int)) = some i
  congr 1; omega
theorem sqr_of (C : Int → Int → Int) (m : Nat) : Sqr ((Pv.upTo 0 m).map fun i => (Pv.upTo 0 m).map (C i)) m where
  len := by rw [List.length_map, upTo_len]
  row := fun r hr => by
    obtain ⟨i, _, rfl⟩ := List.mem_map.mp hr
    rw [List.length_map, upTo_len]
theorem cM_of {C : Int → Int → Int} {m : Nat} {i j : Int} (hi : 0 ≤ i ∧ i < (m : Int)) (hj : 0 ≤ j ∧ j < (m : Int)) : cM ((Pv.upTo 0 m).map fun i => (Pv.upTo 0 m).map (C i)) i j = C i j := by
  unfold cM
  rw [List.getD_eq_getElem?_getD, List.getD_eq_getElem?_getD, List.getElem?_map, up_get hi]
  show (((Pv.upTo 0 m).map (C i))[j.toNat]?).getD 0 = _
  rw [List.getElem?_map, up_get hj]; rfl
theorem sc_of {C : Int → Int → Int} {m : Nat} {s : List Int} (hs : ∀ p ∈ s, 0 ≤ p ∧ p < (m : Int)) : sc (cM ((Pv.upTo 0 m).map fun i => (Pv.upTo 0 m).map (C i))) s = sc C s := sc_congr fun p hp q hq => cM_of (hs p hp) (hs q hq)
theorem lea_in {gs : List G} {g : G} (h : g ∈ gs) {x : Int} (hx : x ∈ lea g) : x ∈ leas gs := leas_mem.mpr ⟨g, h, hx⟩
theorem near_ok {w : List Int} : ∀ (d : Nat) (g : G), dep g < d → form g = true → (lea g).length ≤ 24 → (∀ x ∈ lea g, x ∈ w) → wid g ≤ 8 → ∃ q : Int × List Int, fn_nearest_listed d [enc g, .tup (w.map .int)] = .ok (nq q, false) ∧ Near (posn w) g q
  | 0, g, h, _, _, _, _ => absurd h (by omega)
  | d + 1, .leaf i, _, _, _, _, _ => ⟨(0, [i]), by rw [un_nearest_listed, enc]; exact nl_leaf, by rw [tol], rfl, fun o ho => by
    show (0 : Int) ≤ _
    omega⟩
  | d + 1, .node v gs x, h, hf, hl, hw, hn => by
    have hd : ∀ g ∈ gs, dep g < d := fun g hg => by
      have := dep_mem hg
      rw [dep] at h
      omega
    obtain ⟨hx, _, hlen, hfs⟩ := form_n hf
    subst hx
    have hf' : ∀ g ∈ gs, form g = true := fun g hg => forms_all.mp hfs g hg
    have hl' : (leas gs).length ≤ 24 := by rw [lea] at hl; exact hl
    have hw' : ∀ x ∈ leas gs, x ∈ w := by rw [lea] at hw; exact hw
    have hz : gs.length ≤ 24 := Nat.le_trans (leas_len gs hfs) hl'
    rw [wid] at hn
    have hn' : ∀ g ∈ gs, wid g ≤ 8 := fun g hg => by have := wids_le hg; omega
    let P : Int → G := fun i => getG gs i.toNat
    have hPm : ∀ i, i.toNat < gs.length → P i ∈ gs := fun i hi => getG_mem hi
    have ex : ∀ i : Int, ∃ q : Int × List Int, Near (posn w) (P i) q ∧ (i.toNat < gs.length → fn_nearest_listed d [enc (P i), .tup (w.map .int)] = .ok (nq q, false)) := fun i => by
      by_cases c : i.toNat < gs.length
      · have hm := hPm i c
        obtain ⟨q, e, t⟩ := near_ok (w := w) d (P i) (hd _ hm) (hf' _ hm) (Nat.le_trans (lea_mem hm) hl') (fun x hx => hw' x (lea_in hm hx)) (hn' _ hm)
        exact ⟨q, t, fun _ => e⟩
      · have e : P i = .leaf 0 := by
          show gs.getD i.toNat (.leaf 0) = _
          rw [List.getD_eq_getElem?_getD, List.getElem?_eq_none (by omega)]; rfl
        rw [e]
        exact ⟨(0, [0]), ⟨by rw [tol], rfl, fun o _ => by show (0 : Int) ≤ _; omega⟩, fun z => absurd z c⟩
    obtain ⟨Q, hQ⟩ : ∃ Q : Int → Int × List Int, ∀ i, Near (posn w) (P i) (Q i) ∧ (i.toNat < gs.length → fn_nearest_listed d [enc (P i), .tup (w.map .int)] = .ok (nq (Q i), false)) := ⟨fun i => (ex i).choose, fun i => (ex i).choose_spec⟩
    have hN : ∀ i, Near (posn w) (P i) (Q i) := fun i => (hQ i).1
    have rg : ∀ i ∈ Pv.upTo 0 gs.length, i.toNat < gs.length := fun i hi => by have := upm.mp hi; omega
    have hP : (Pv.upTo 0 gs.length).map P = gs := by
      rw [← range_up, List.map_map]
      exact map_getG gs
    have hE : encs gs = (Pv.upTo 0 gs.length).map fun i => enc (P i) := by
      rw [encs_map]
      conv => lhs; rw [← hP]
      rw [List.map_map]; rfl
    let C : Int → Int → Int := fun i j => (tn (posn w) (Q i).2 (Q j).2 : Nat)
    have hC : ∀ i j, C i j = tn (posn w) (Q i).2 (Q j).2 := fun _ _ => rfl
    have mw : ∀ i ∈ Pv.upTo 0 gs.length, (∀ x ∈ (Q i).2, x ∈ w) ∧ (Q i).2.length ≤ 100 := fun i hi => by
      have hm := hPm i (rg i hi)
      have p := tol_perm _ (hN i).tl
      refine ⟨fun x hx => hw' x (lea_in hm (p.mem_iff.mp hx)), ?_⟩
      rw [p.length_eq]
      have := lea_mem hm
      omega
    have ul : (Pv.upTo 0 gs.length).length = gs.length := upTo_len 0 gs.length
    have wn : ∀ ps, (PV.tup (w.map .int)) ≠ .lst ps := fun ps z => by cases z
    have en : enc (.node v gs false) = .tup [.str v, .tup (encs gs)] := by rw [enc]; rfl
    have q2 := n2_ok (Tr := enc (.node v gs false)) (W := .tup (w.map .int)) (w := v) (L := encs gs) (P := P) (Q := Q) (l := Pv.upTo 0 gs.length) (r_ := fn_nearest_listed d) hE (fun i hi => (hQ i).2 (rg i hi)) wn (by omega)
    have q3 := n3_ok (Tr := enc (.node v gs false)) (W := .tup (w.map .int)) (w := v) (L := encs gs) (Q := Q) (l := Pv.upTo 0 gs.length) (by omega)
    have q4 := n4_ok (Tr := enc (.node v gs false)) (A := .tup (w.map .int)) (w := v) (L := encs gs) (Q := Q) (C := C) (l := Pv.upTo 0 gs.length) (s4 := .lst ((Pv.upTo 0 gs.length).map fun i => nq (Q i))) (F := fn_turned) wn (fun i hi j hj => turned_ok (.inl rfl) (.inl rfl) (mw i hi).1 (mw j hj).1 (mw i hi).2 (mw j hj).2) (by omega)
    have sq_ := sqr_of C gs.length
    have prm_rg : ∀ {s : List Int}, s.Perm (Pv.upTo 0 gs.length) → ∀ p ∈ s, 0 ≤ p ∧ p < (gs.length : Int) := fun p x hx => upm.mp (p.mem_iff.mp hx)
    have fin : ∀ (Z : PV) (s : List Int) (c : Int), SeqP Z s → s.Perm (Pv.upTo 0 gs.length) → Near (posn w) (.node v ((Pv.upTo 0 gs.length).map P) false) (sm ((Pv.upTo 0 gs.length).map fun i => (Q i).1) + c, (s.map fun i => (Q i).2).flatten) →
        n5 fn_best_sequence fn_best_direction [.val (enc (.node v gs false)), .val (.tup (w.map .int)), .val (.str v), .val (.tup (encs gs)), .val (.lst ((Pv.upTo 0 gs.length).map fun i => nq (Q i))), .val (.lst ((Pv.upTo 0 gs.length).map fun i => lstP (Q i).2)), .own (((Pv.upTo 0 gs.length).map fun i => (Pv.upTo 0 gs.length).map (C i)).map lstP), .no, .no, .no, .no, .no, .no, .no, .no, .no, .no] = .ok .nx [.val (enc (.node v gs false)), .val (.tup (w.map .int)), .val (.str v), .val (.tup (encs gs)), .val (.lst ((Pv.upTo 0 gs.length).map fun i => nq (Q i))), .val (.lst ((Pv.upTo 0 gs.length).map fun i => lstP (Q i).2)), .val (.lst (((Pv.upTo 0 gs.length).map fun i => (Pv.upTo 0 gs.length).map (C i)).map lstP)), .val (.int c), .val Z, .no, .no, .no, .no, .no, .no, .no, .no] →
        ∃ q : Int × List Int, fn_nearest_listed (d + 1) [enc (.node v gs false), .tup (w.map .int)] = .ok (nq q, false) ∧ Near (posn w) (.node v gs false) q := fun Z s c hZ hs hNr q5 => by
      rw [hP] at hNr
      have q6 := n6_ok (Tr := enc (.node v gs false)) (W := .tup (w.map .int)) (w := v) (L := encs gs) (Q := Q) (l := Pv.upTo 0 gs.length) (s5 := .lst ((Pv.upTo 0 gs.length).map fun i => lstP (Q i).2)) (s6 := .lst (((Pv.upTo 0 gs.length).map fun i => (Pv.upTo 0 gs.length).map (C i)).map lstP)) (Z := Z) (c := c) (by omega)
      have fl : (s.map fun i => (Q i).2).flatten.length ≤ 1000 := by
        have := (tol_perm _ hNr.tl).length_eq
        rw [lea] at this
        have e : (s.map fun i => (Q i).2).flatten.length = (leas gs).length := this
        omega
      have hj := joinL_ok (s.map fun i => (Q i).2) fl
      have ej : (s.map fun i => (Q i).2).map lstP = s.map fun i => lstP (Q i).2 := by rw [List.map_map]; rfl
      rw [ej] at hj
      have q7 := n7_ok (Tr := enc (.node v gs false)) (W := .tup (w.map .int)) (w := v) (L := encs gs) (Q := Q) (l := Pv.upTo 0 gs.length) (s4 := .lst ((Pv.upTo 0 gs.length).map fun i => nq (Q i))) (s6 := .lst (((Pv.upTo 0 gs.length).map fun i => (Pv.upTo 0 gs.length).map (C i)).map lstP)) (Z := Z) (b := c) (a := sm ((Pv.upTo 0 gs.length).map fun i => (Q i).1)) (s := s) hZ (fun i hi => hs.mem_iff.mp hi) (by rw [ul]) (by rw [hs.length_eq]; omega) hj
      refine ⟨_, ?_, hNr⟩
      rw [un_nearest_listed, nl_eq]
      rw [en] at *
      exact runF_ok ((sq_nx n0_ok).trans ((sq_nx n1_ok).trans ((sq_nx q2).trans ((sq_nx q3).trans ((sq_nx q4).trans ((sq_nx q5).trans ((sq_nx q6).trans (sq_rt q7)))))))) rfl (by decide)
    by_cases c : v = "any"
    · subst c
      rw [if_pos rfl] at hn
      obtain ⟨c, s, eB, hs, hc, hle⟩ := bestseq_ok sq_ (by omega : gs.length ≤ 8)
      rw [sc_of (prm_rg hs)] at hc
      have nr := near_any (x := false) hN hC hs hc (fun s' hs' => by
        have := hle s' hs'
        rwa [sc_of (prm_rg hs')] at this)
      exact fin _ s c (.inr rfl) hs nr (n5_any eB)
    · obtain ⟨c', s, eB, hs, hc, h1, h2⟩ := bestdir_ok sq_ (by omega)
      have hsp : s.Perm (Pv.upTo 0 gs.length) := by
        rcases hs with rfl | rfl
        · exact .refl _
        · exact List.reverse_perm _
      rw [sc_of (prm_rg hsp)] at hc
      rw [sc_of (prm_rg (.refl _))] at h1
      rw [sc_of (prm_rg (List.reverse_perm _))] at h2
      have nr := near_row (x := false) hN hC c hs hc h1 h2
      exact fin _ s c' (.inl rfl) hsp nr (n5_row c eB)
theorem nst_v {F1 F2 F3 F4 : Fn} {T : PV} {W O : List PV} {n c : Int} (hT : ∀ ps, T ≠ .lst ps) (h2 : F2 [T] = .ok (.int n, false)) (h1 : F1 [.int n, .tup W] = .ok (.tup W, false)) (h4 : F4 [T] = .ok (T, false)) (h3 : F3 [T, .tup W] = .ok (.tup [.int c, .lst O], false)) : runF 4 2 (sv_nearest F1 F2 F3 F4) [T, .tup W] = .ok (.tup [.int c, .tup O], false) := by
  unfold sv_nearest
  simp [h1, h2, h3, h4]
theorem nst_x {F1 F2 F3 F4 : Fn} {T : PV} {W : List PV} {n : Int} {e : Str} (hT : ∀ ps, T ≠ .lst ps) (h2 : F2 [T] = .ok (.int n, false)) (h1 : F1 [.int n, .tup W] = .ok (.tup W, false)) (h4 : F4 [T] = .exc e) : runF 4 2 (sv_nearest F1 F2 F3 F4) [T, .tup W] = .exc e := by
  unfold sv_nearest
  simp [h1, h2, h4]
theorem nearest_ok {n : Nat} {g : G} {w : List Int} (t : Tree n g) (hw : isOrder (n : Nat) w = true) : (wid g ≤ 8 ∧ ∃ q : Int × List Int, fn_nearest [enc g, .tup (w.map .int)] = .ok (.tup [.int q.1, .tup (q.2.map .int)], false) ∧ Near (posn w) g q) ∨ (¬ wid g ≤ 8 ∧ fn_nearest [enc g, .tup (w.map .int)] = .exc "OutOfRange") := by
  have c1 := order_is (n : Nat) w
  rw [if_pos hw] at c1
  have p := order_perm hw
  rw [Int.toNat_natCast] at p
  have hd : dep g < 40 := by have := t.d; have := t.n2; omega
  have hc := narrow_ok 40 g hd t.f
  have lp : (lea g).Perm (Pv.upTo 0 n) := t.l
  rw [un_nearest]
  by_cases c : wid g ≤ 8
  · rw [if_pos c] at hc
    obtain ⟨q, e, N⟩ := near_ok (w := w) 40 g hd t.f (by rw [t.len]; exact t.n2) (fun x hx => p.mem_iff.mpr (lp.mem_iff.mp hx)) c
    exact .inl ⟨c, q, nst_v (enc_ne g) t.own c1 hc e, N⟩
  · rw [if_neg c] at hc
    exact .inr ⟨c, nst_x (enc_ne g) t.own c1 hc⟩
theorem gMax_g (x y : Int) : gMax [.int x, .int y] = some (.int (if y > x then y else x), false) := rfl
theorem most_ok : ∀ (d : Nat) (g : G), dep g < d → form g = true → (lea g).length ≤ 24 → fn__law_most_parts d [enc g] = .ok (.int (wid g : Nat), false)
  | 0, g, h, _, _ => absurd h (by omega)
  | d + 1, .leaf i, _, _, _ => by
    rw [wid, un__law_most_parts, enc]
    exact mp_leaf
  | d + 1, .node v gs x, h, hf, hl => by
    obtain ⟨hx, _, hlen, hfs⟩ := form_n hf
    subst hx
    have en : enc (.node v gs false) = .tup [.str v, .tup (encs gs)] := by rw [enc]; rfl
    have hl' : (leas gs).length ≤ 24 := by rw [lea] at hl; exact hl
    have hz : gs.length ≤ 24 := Nat.le_trans (leas_len gs hfs) hl'
    have hr : ∀ g ∈ gs, fn__law_most_parts d [enc g] = .ok (.int (wid g : Nat), false) := fun g hg => by
      have := dep_mem hg
      rw [dep] at h
      exact most_ok d g (by omega) (forms_all.mp hfs g hg) (Nat.le_trans (lea_mem hg) hl')
    have m := comp_map (v := 2) (mi := mSeq (eOp gIx (pVar 0) (look (eC (.int 1))))) (me := eFn (fn__law_most_parts d) (aCons (eVar 2) (Pv.ret []))) (e := enc) (g := fun g => PV.int (wid g : Nat)) (l := gs) (ev := [.val (.tup [.str v, .tup (encs gs)]), .no, .no]) (ev1 := [.val (.tup [.str v, .tup (encs gs)]), .no, .no]) (by
      have h1 : atI [PV.str v, PV.tup (encs gs)] 1 = some (.tup (encs gs)) := at1
      rw [encs_map] at *
      generalize gs.map enc = E at *
      simp [h1]) rfl (fun g hg => ⟨false, by
      have e := hr g hg
      have ne := enc_ne g
      generalize enc g = E at *
      generalize PV.int ((wid g : Nat) : Int) = Z at *
      show eFn (fn__law_most_parts d) (aCons (eVar 2) (Pv.ret [])) [.val (.tup [.str v, .tup (encs gs)]), .no, .val E] = .ok (Z, false) [.val (.tup [.str v, .tup (encs gs)]), .no, .val E]
      generalize fn__law_most_parts d = F at *
      simp [e]⟩) (by omega)
    have e2 : gs.map (fun g => PV.int (wid g : Nat)) = (gs.map fun g => ((wid g : Nat) : Int)).map PV.int := by rw [List.map_map]; rfl
    rw [e2] at m
    have gl : gLen [.tup (encs gs)] = some (.int (gs.length : Nat), false) := by rw [gLen_t, encs_len]
    have lv : least v ≤ gs.length := hlen
    rw [en, un__law_most_parts, wid]
    cases gs with
    | nil =>
      unfold least at lv
      split at lv <;> simp at lv
    | cons g0 gs =>
      rw [List.map_cons] at m
      have gm := gMax_l ((wid g0 : Nat) : Int) (gs.map fun g => ((wid g : Nat) : Int))
      obtain ⟨l1, l2, l3⟩ := lmax_le (gs.map fun g => ((wid g : Nat) : Int)) ((wid g0 : Nat) : Int)
      have up : lmax ((wid g0 : Nat) : Int) (gs.map fun g => ((wid g : Nat) : Int)) = ((wids (g0 :: gs) : Nat) : Int) := by
        have a : lmax ((wid g0 : Nat) : Int) (gs.map fun g => ((wid g : Nat) : Int)) ≤ ((wids (g0 :: gs) : Nat) : Int) := by
          rcases l3 with e | e
          · rw [e]
            have := wids_le (gs := g0 :: gs) (g := g0) (by simp)
            omega
          · obtain ⟨g, hg, e⟩ := List.mem_map.mp e
            rw [← e]
            have := wids_le (gs := g0 :: gs) (g := g) (by simp [hg])
            omega
        have b : ((wids (g0 :: gs) : Nat) : Int) ≤ lmax ((wid g0 : Nat) : Int) (gs.map fun g => ((wid g : Nat) : Int)) := by
          obtain ⟨g, hg, e⟩ := wids_mem (gs := g0 :: gs) (by simp)
          rw [← e]
          rcases List.mem_cons.mp hg with rfl | hg
          · exact l1
          · exact l2 _ (List.mem_map.mpr ⟨g, hg, rfl⟩)
        omega
      rw [up] at gm
      have := mp_v (w := v) m gl gm (gMax_g _ _)
      rw [this]
      congr 3
      by_cases c : v = "any"
      · rw [if_pos c, if_pos c]
        split <;> omega
      · rw [if_neg c, if_neg c]
        omega
theorem lexLt_ltL : ∀ a b : List Int, HT.lexLt a b = ltL a b
  | [], [] => by rw [ltl_nil]; rfl
  | x :: a, [] => by rw [ltl_nil]; rfl
  | [], y :: b => by rw [ltL]; rfl
  | x :: a, y :: b => by rw [HT.lexLt_cons, ltl_cons, lexLt_ltL a b]
theorem zip_fst {α β : Type} {a : List α} {b : List β} (h : a.length = b.length) : (a.zip b).map Prod.fst = a := List.map_fst_zip (by omega)
theorem zip_snd {α β : Type} {a : List α} {b : List β} (h : a.length = b.length) : (a.zip b).map Prod.snd = b := List.map_snd_zip (by omega)
theorem leastT_ok : ∀ (d : Nat) (g : G), dep g < d → form g = true → (lea g).Nodup → (lea g).length ≤ 24 → ∃ (o : List Int) (b : Bool), fn_least_listed d [enc g] = .ok (lstP o, b) ∧ LeastT g o
  | 0, g, h, _, _, _ => absurd h (by omega)
  | d + 1, .leaf i, _, _, _, _ => ⟨[i], true, by rw [un_least_listed]; exact ll_leaf, by rw [tol], fun o ho => by
    rw [tol] at ho
    rw [ho]
    exact ltl_irr _⟩
  | d + 1, .node w gs x, h, hf, hnd, hl => by
    have hd : ∀ g ∈ gs, dep g < d := fun g hg => by
      have := dep_mem hg
      rw [dep] at h
      omega
    obtain ⟨hx, _, _, hfs⟩ := form_n hf
    subst hx
    have hf' : ∀ g ∈ gs, form g = true := fun g hg => forms_all.mp hfs g hg
    have hl' : (leas gs).length ≤ 24 := by rw [lea] at hl; exact hl
    have hnd' : (leas gs).Nodup := by rw [lea] at hnd; exact hnd
    have hz : gs.length ≤ 24 := Nat.le_trans (leas_len gs hfs) hl'
    obtain ⟨os, q1, q2, q3⟩ := tols_of gs (fun g o => (∃ b : Bool, fn_least_listed d [enc g] = .ok (lstP o, b)) ∧ LeastT g o) fun g hg => by
      have l1 : (lea g).length ≤ 24 := Nat.le_trans (lea_mem hg) hl'
      obtain ⟨o, b, e, t⟩ := leastT_ok d g (hd g hg) (hf' g hg) (nd_mem hnd' g hg) l1
      exact ⟨o, ⟨⟨b, e⟩, t⟩, t.tl⟩
    have hp := tols_leas gs q1
    have hflat : os.flatten.length ≤ 1000 := by rw [hp.length_eq]; omega
    have e3 := mcL_ok (T := enc (.node w gs false)) (W := .str w) (r_ := fn_least_listed d) (gs := gs) (O := os) (by omega) q2 (fun i g o a b => (q3 i g o a b).1)
    have en : enc (.node w gs false) = .tup [.str w, .tup (encs gs)] := by rw [enc]; rfl
    have zf := zip_fst q2.symm
    have zs := zip_snd q2.symm
    have hZ : ∀ z ∈ gs.zip os, LeastT z.1 z.2 := fun z hz => by
      obtain ⟨i, hi, eq⟩ := List.getElem_of_mem hz
      have g1 : (gs.zip os)[i]? = some z := by rw [List.getElem?_eq_getElem hi, eq]
      rw [List.getElem?_zip_eq_some] at g1
      exact (q3 i z.1 z.2 g1.1 g1.2).2
    rw [en] at e3
    by_cases c : w = "any"
    · subst c
      have pf : (sortL os).flatten.Perm os.flatten := (sortL_perm os).flatten
      have e4 := joinL_ok (sortL os) (by rw [pf.length_eq]; exact hflat)
      obtain ⟨Zs, pz, ez⟩ := perm_of_map Prod.snd (sortL_perm os) (l := gs.zip os) zs.symm
      have LT := lst_any (x := false) pz hZ (by rw [← ez]; exact sortL_sorted os) (by rw [zf]; exact hnd') (fun z hz => by
        have : z.1 ∈ gs := by rw [← zf]; exact List.mem_map.mpr ⟨z, hz, rfl⟩
        exact lea_ne _ (hf' _ this))
      rw [zf, ← ez] at LT
      refine ⟨(sortL os).flatten, true, ?_, LT⟩
      rw [en, un_least_listed, ll_eq]
      obtain ⟨ev', e5⟩ := ll_any (T := .tup [.str "any", .tup (encs gs)]) (L := encs gs) (O := os.map lstP) (gSortL_ok os) e4
      exact runF_ok ((sq_nx ll_1).trans ((sq_nx ll_2).trans ((sq_nx (ll_3 e3)).trans (sq_rt e5)))) rfl (by decide)
    · have e4 := joinL_ok os hflat
      have pr : os.reverse.flatten.Perm os.flatten := (List.reverse_perm os).flatten
      have e4' := joinL_ok os.reverse (by rw [pr.length_eq]; exact hflat)
      rw [List.map_reverse] at e4'
      have hm := gMinL_ok os.flatten os.reverse.flatten
      have LT := lst_row (x := false) c hZ
      rw [zf, zs] at LT
      have ei : (if ltL os.reverse.flatten os.flatten = true then lstP os.reverse.flatten else lstP os.flatten) = lstP (if ltL os.reverse.flatten os.flatten = true then os.reverse.flatten else os.flatten) := by split <;> rfl
      rw [ei] at hm
      refine ⟨_, false, ?_, LT⟩
      rw [en, un_least_listed, ll_eq]
      obtain ⟨ev', e5⟩ := ll_min (T := .tup [.str w, .tup (encs gs)]) (W := .str w) (L := encs gs) (O := os.map lstP) e4 e4' hm
      exact runF_ok ((sq_nx ll_1).trans ((sq_nx ll_2).trans ((sq_nx (ll_3 e3)).trans ((sq_nx (ll_row c)).trans (sq_rt e5))))) rfl (by decide)
theorem leastorderT_ok {n : Nat} {g : G} (t : Tree n g) : ∃ o : List Int, fn_least_order [enc g] = .ok (.tup (o.map .int), false) ∧ LeastT g o := by
  obtain ⟨o, b, e, h⟩ := leastT_ok 40 g (by have := t.d; have := t.n2; omega) t.f t.nd (by rw [t.len]; exact t.n2)
  refine ⟨o, ?_, h⟩
  rw [un_least_order]
  exact lo_1 (enc_ne g) t.own e
end K22
set_option Elab.async false
set_option linter.all false
set_option maxRecDepth 100000
namespace K22
open Pv PySem PySem.Spec L2
open PyProof.Rows hiding St
theorem leaf_map (n : Nat) : encs ((Pv.upTo 0 n).map .leaf) = (Pv.upTo 0 n).map .int := (leaf_good _).2.2.2.2
def plainG (n : Nat) : G := if n = 1 then .leaf 0 else .node "any" ((Pv.upTo 0 n).map .leaf) false
theorem upTo_one : Pv.upTo 0 1 = [0] := rfl
theorem plain_tree_ok {n : Nat} (h1 : 1 ≤ n) (h2 : n ≤ 24) : Tree n (plainG n) := by
  unfold plainG
  by_cases c : n = 1
  · subst c
    rw [if_pos rfl]
    exact Tree.mk' (by rw [form]) (by rw [lea, upTo_one]) (by omega) (by omega)
  · rw [if_neg c]
    obtain ⟨q1, q2, _⟩ := leaf_good (Pv.upTo 0 n)
    refine Tree.mk' (form_mk (by decide) ?_ q1) (by rw [lea, q2]) h1 h2
    have : least "any" = 2 := by decide
    rw [List.length_map, upTo_len]; omega
theorem leaf_sq : ∀ (l o : List Int), sqT (l.map .leaf) o ↔ o = l
  | [], o => by rw [List.map_nil, sq_nil]
  | i :: l, o => by
    rw [List.map_cons, sq_cons]
    constructor
    · rintro ⟨a, b, rfl, h1, h2⟩
      rw [tol] at h1
      rw [h1, (leaf_sq l b).mp h2]; rfl
    · rintro rfl
      exact ⟨[i], l, rfl, by rw [tol], (leaf_sq l l).mpr rfl⟩
theorem plain_tol {n : Nat} (o : List Int) : tol (plainG n) o ↔ o.Perm (Pv.upTo 0 n) := by
  unfold plainG
  by_cases c : n = 1
  · subst c
    rw [if_pos rfl, tol, upTo_one]
    exact ⟨fun h => by rw [h], fun h => List.perm_singleton.mp h⟩
  · rw [if_neg c, tol_any]
    constructor
    · rintro ⟨qs, hp, hq⟩
      obtain ⟨l, pl, rfl⟩ := perm_of_map (G.leaf) hp rfl
      rw [(leaf_sq l o).mp hq]; exact pl
    · intro h
      exact ⟨o.map .leaf, h.map _, (leaf_sq o o).mpr rfl⟩
def sv_law (F_law_digits F_law_rich F_law_cell F_law_tree F_law_order Fnearest F_law_most_parts F_law_drawn_order F_law_orders F_law_told Fleast_order Fdistance F_law_distance F_law_is_integer : Fn) : M Fl := sq (bnd (eFn F_law_digits (aCons (eFn F_law_rich (aCons (eFn F_law_cell (aCons (eVar 0) (aCons (eC (.int 0)) (Pv.ret [])))) (Pv.ret []))) (aCons (mLst (aCons (eC (.int 9)) (aCons (eC (.int 8)) (aCons (eC (.int 17)) (Pv.ret []))))) (Pv.ret [])))) (setR 1)) (sq (bnd (eOp gAdd (look (eC (.int 1))) (look (eOp gIx (pVar 1) (look (eC (.int 0)))))) (setR 2)) (sq (bnd (eFn F_law_tree (aCons (eFn F_law_cell (aCons (eVar 0) (aCons (eC (.int 1)) (Pv.ret [])))) (aCons (eVar 2) (Pv.ret [])))) (setR 3)) (sq (bnd (eFn F_law_order (aCons (eFn F_law_cell (aCons (eVar 0) (aCons (eC (.int 2)) (Pv.ret [])))) (aCons (eVar 2) (Pv.ret [])))) (setR 4)) (sq (mIfS (blOf (eOp (gEq false) (look (eOp gIx (pVar 1) (look (eC (.int 1))))) (look (eC (.int 0))))) (sq (bnd (eOp gAdd (look (eC (.int 8))) (look (eOp gIx (pVar 1) (look (eC (.int 2)))))) (setR 2)) (sq (bnd (mTup (aCons (eC (.str "any")) (aCons (eCall gTuple (kCons (look (mComp (mRng1 (kCons (pVar 2) (Pv.ret []))) (tName 8) (Pv.ret true) (eVar 8) [8])) (Pv.ret []))) (Pv.ret [])))) (setR 3)) (sq (bnd (eFn F_law_order (aCons (eFn F_law_cell (aCons (eVar 0) (aCons (eC (.int 2)) (Pv.ret [])))) (aCons (eVar 2) (Pv.ret [])))) (setR 4)) (Pv.ret .nx)))) (Pv.ret .nx)) (sq (bnd (eC .non) (setR 5)) (sq (mTryO (sq (bnd (eFn Fnearest (aCons (eVar 3) (aCons (eVar 4) (Pv.ret [])))) (setR 5)) (Pv.ret .nx)) is_law (fun _ => sq (bnd (eC .non) (setR 5)) (Pv.ret .nx))) (sq (mIfS (blOf (eOp (gEq true) (look (eOp (gIs false) (pVar 5) (look (eC .non)))) (look (eOp cGt (look (eFn F_law_most_parts (aCons (eVar 3) (Pv.ret [])))) (look (eC (.int 8))))))) (sq (bnd (eC (.bl false)) mRet) (Pv.ret .nx)) (Pv.ret .nx)) (sq (bnd (mComp (mRng1 (kCons (look (eC (.int 5))) (Pv.ret []))) (tName 9) (Pv.ret true) (eFn F_law_drawn_order (aCons (eVar 3) (aCons (eFn F_law_rich (aCons (eOp gAdd (look (eFn F_law_cell (aCons (eVar 0) (aCons (eC (.int 3)) (Pv.ret []))))) (pVar 9)) (Pv.ret []))) (Pv.ret [])))) [9]) (setR 6)) (sq (mIfS (blOf (eOp cLt (pVar 2) (look (eC (.int 6))))) (sq (bnd (mComp (mSeq (eFn F_law_orders (aCons (eVar 2) (Pv.ret [])))) (tName 10) (tTru (look (eFn F_law_told (aCons (eVar 3) (aCons (eVar 10) (Pv.ret [])))))) (eVar 10) [10]) (setR 6)) (Pv.ret .nx)) (Pv.ret .nx)) (sq (mIfS (blOf (eOp (gEq false) (look (eOp gIx (pVar 1) (look (eC (.int 1))))) (look (eC (.int 0))))) (sq (mMet 6 (aCons (eVar 4) (Pv.ret [])) gAppend) (Pv.ret .nx)) (Pv.ret .nx)) (sq (bnd (eFn Fleast_order (aCons (eVar 3) (Pv.ret []))) (setR 7)) (sq (mIfS (mOr (mNot (tTru (look (mIsi "tuple" (pVar 7))))) (mOr (mNot (tTru (look (eFn F_law_told (aCons (eVar 3) (aCons (eVar 7) (Pv.ret []))))))) (blOf (eOp (gEq true) (look (mComp (mSeq (eVar 6)) (tName 10) (blOf (eOp gLt2 (pVar 10) (pVar 7))) (eVar 10) [10])) (look (mLst (Pv.ret []))))))) (sq (bnd (eC (.bl false)) mRet) (Pv.ret .nx)) (Pv.ret .nx)) (sq (mIfS (blOf (eOp (gEq true) (look (eFn Fdistance (aCons (eOp gIx (pVar 6) (look (eC (.int 0)))) (aCons (eVar 4) (Pv.ret []))))) (look (eFn F_law_distance (aCons (eOp gIx (pVar 6) (look (eC (.int 0)))) (aCons (eVar 4) (Pv.ret []))))))) (sq (bnd (eC (.bl false)) mRet) (Pv.ret .nx)) (Pv.ret .nx)) (sq (mIfS (blOf (eOp (gIs false) (pVar 5) (look (eC .non)))) (sq (bnd (eC (.bl true)) mRet) (Pv.ret .nx)) (Pv.ret .nx)) (sq (mIfS (mOr (mNot (tTru (look (mIsi "tuple" (pVar 5))))) (mOr (blOf (eOp (gEq true) (look (eCall gLen (kCons (pVar 5) (Pv.ret [])))) (look (eC (.int 2))))) (mOr (mNot (tTru (look (mIsi "tuple" (look (eOp gIx (pVar 5) (look (eC (.int 1))))))))) (mNot (tTru (look (eFn F_law_told (aCons (eVar 3) (aCons (eOp gIx (pVar 5) (look (eC (.int 1)))) (Pv.ret [])))))))))) (sq (bnd (eC (.bl false)) mRet) (Pv.ret .nx)) (Pv.ret .nx)) (sq (mIfS (mOr (mNot (tTru (look (eFn F_law_is_integer (aCons (eOp gIx (pVar 5) (look (eC (.int 0)))) (Pv.ret [])))))) (blOf (eOp (gEq true) (look (eOp gIx (pVar 5) (look (eC (.int 0))))) (look (eFn F_law_distance (aCons (eOp gIx (pVar 5) (look (eC (.int 1)))) (aCons (eVar 4) (Pv.ret [])))))))) (sq (bnd (eC (.bl false)) mRet) (Pv.ret .nx)) (Pv.ret .nx)) (sq (bnd (eOp (gEq false) (look (mComp (mSeq (eVar 6)) (tName 10) (blOf (eOp cLt (look (eFn F_law_distance (aCons (eVar 10) (aCons (eVar 4) (Pv.ret []))))) (look (eOp gIx (pVar 5) (look (eC (.int 0))))))) (eVar 10) [10])) (look (mLst (Pv.ret [])))) mRet) (Pv.ret .nx))))))))))))))))))
theorem un_law : fn_law = runF 11 1 (sv_law fn__law_digits fn__law_rich fn__law_cell fn__law_tree fn__law_order fn_nearest (fn__law_most_parts 40) (fn__law_drawn_order 40) fn__law_orders (fn__law_told 40) fn_least_order fn_distance fn__law_distance fn__law_is_integer) := rfl
def lw1 (F_law_digits F_law_rich F_law_cell : Fn) : M Fl := bnd (eFn F_law_digits (aCons (eFn F_law_rich (aCons (eFn F_law_cell (aCons (eVar 0) (aCons (eC (.int 0)) (Pv.ret [])))) (Pv.ret []))) (aCons (mLst (aCons (eC (.int 9)) (aCons (eC (.int 8)) (aCons (eC (.int 17)) (Pv.ret []))))) (Pv.ret [])))) (setR 1)
def lw2 : M Fl := bnd (eOp gAdd (look (eC (.int 1))) (look (eOp gIx (pVar 1) (look (eC (.int 0)))))) (setR 2)
def lw3 (F_law_tree F_law_cell : Fn) : M Fl := bnd (eFn F_law_tree (aCons (eFn F_law_cell (aCons (eVar 0) (aCons (eC (.int 1)) (Pv.ret [])))) (aCons (eVar 2) (Pv.ret [])))) (setR 3)
def lw4 (F_law_order F_law_cell : Fn) : M Fl := bnd (eFn F_law_order (aCons (eFn F_law_cell (aCons (eVar 0) (aCons (eC (.int 2)) (Pv.ret [])))) (aCons (eVar 2) (Pv.ret [])))) (setR 4)
def lw5 (F_law_order F_law_cell : Fn) : M Fl := mIfS (blOf (eOp (gEq false) (look (eOp gIx (pVar 1) (look (eC (.int 1))))) (look (eC (.int 0))))) (sq (bnd (eOp gAdd (look (eC (.int 8))) (look (eOp gIx (pVar 1) (look (eC (.int 2)))))) (setR 2)) (sq (bnd (mTup (aCons (eC (.str "any")) (aCons (eCall gTuple (kCons (look (mComp (mRng1 (kCons (pVar 2) (Pv.ret []))) (tName 8) (Pv.ret true) (eVar 8) [8])) (Pv.ret []))) (Pv.ret [])))) (setR 3)) (sq (bnd (eFn F_law_order (aCons (eFn F_law_cell (aCons (eVar 0) (aCons (eC (.int 2)) (Pv.ret [])))) (aCons (eVar 2) (Pv.ret [])))) (setR 4)) (Pv.ret .nx)))) (Pv.ret .nx)
def lw6 : M Fl := bnd (eC .non) (setR 5)
def lw7 (Fnearest : Fn) : M Fl := mTryO (sq (bnd (eFn Fnearest (aCons (eVar 3) (aCons (eVar 4) (Pv.ret [])))) (setR 5)) (Pv.ret .nx)) is_law (fun _ => sq (bnd (eC .non) (setR 5)) (Pv.ret .nx))
def lw8 (F_law_most_parts : Fn) : M Fl := mIfS (blOf (eOp (gEq true) (look (eOp (gIs false) (pVar 5) (look (eC .non)))) (look (eOp cGt (look (eFn F_law_most_parts (aCons (eVar 3) (Pv.ret [])))) (look (eC (.int 8))))))) (sq (bnd (eC (.bl false)) mRet) (Pv.ret .nx)) (Pv.ret .nx)
def lw9 (F_law_drawn_order F_law_rich F_law_cell : Fn) : M Fl := bnd (mComp (mRng1 (kCons (look (eC (.int 5))) (Pv.ret []))) (tName 9) (Pv.ret true) (eFn F_law_drawn_order (aCons (eVar 3) (aCons (eFn F_law_rich (aCons (eOp gAdd (look (eFn F_law_cell (aCons (eVar 0) (aCons (eC (.int 3)) (Pv.ret []))))) (pVar 9)) (Pv.ret []))) (Pv.ret [])))) [9]) (setR 6)
def lw10 (F_law_orders F_law_told : Fn) : M Fl := mIfS (blOf (eOp cLt (pVar 2) (look (eC (.int 6))))) (sq (bnd (mComp (mSeq (eFn F_law_orders (aCons (eVar 2) (Pv.ret [])))) (tName 10) (tTru (look (eFn F_law_told (aCons (eVar 3) (aCons (eVar 10) (Pv.ret [])))))) (eVar 10) [10]) (setR 6)) (Pv.ret .nx)) (Pv.ret .nx)
def lw11 : M Fl := mIfS (blOf (eOp (gEq false) (look (eOp gIx (pVar 1) (look (eC (.int 1))))) (look (eC (.int 0))))) (sq (mMet 6 (aCons (eVar 4) (Pv.ret [])) gAppend) (Pv.ret .nx)) (Pv.ret .nx)
def lw12 (Fleast_order : Fn) : M Fl := bnd (eFn Fleast_order (aCons (eVar 3) (Pv.ret []))) (setR 7)
def lw13 (F_law_told : Fn) : M Fl := mIfS (mOr (mNot (tTru (look (mIsi "tuple" (pVar 7))))) (mOr (mNot (tTru (look (eFn F_law_told (aCons (eVar 3) (aCons (eVar 7) (Pv.ret []))))))) (blOf (eOp (gEq true) (look (mComp (mSeq (eVar 6)) (tName 10) (blOf (eOp gLt2 (pVar 10) (pVar 7))) (eVar 10) [10])) (look (mLst (Pv.ret []))))))) (sq (bnd (eC (.bl false)) mRet) (Pv.ret .nx)) (Pv.ret .nx)
def lw14 (Fdistance F_law_distance : Fn) : M Fl := mIfS (blOf (eOp (gEq true) (look (eFn Fdistance (aCons (eOp gIx (pVar 6) (look (eC (.int 0)))) (aCons (eVar 4) (Pv.ret []))))) (look (eFn F_law_distance (aCons (eOp gIx (pVar 6) (look (eC (.int 0)))) (aCons (eVar 4) (Pv.ret []))))))) (sq (bnd (eC (.bl false)) mRet) (Pv.ret .nx)) (Pv.ret .nx)
def lw15 : M Fl := mIfS (blOf (eOp (gIs false) (pVar 5) (look (eC .non)))) (sq (bnd (eC (.bl true)) mRet) (Pv.ret .nx)) (Pv.ret .nx)
def lw16 (F_law_told : Fn) : M Fl := mIfS (mOr (mNot (tTru (look (mIsi "tuple" (pVar 5))))) (mOr (blOf (eOp (gEq true) (look (eCall gLen (kCons (pVar 5) (Pv.ret [])))) (look (eC (.int 2))))) (mOr (mNot (tTru (look (mIsi "tuple" (look (eOp gIx (pVar 5) (look (eC (.int 1))))))))) (mNot (tTru (look (eFn F_law_told (aCons (eVar 3) (aCons (eOp gIx (pVar 5) (look (eC (.int 1)))) (Pv.ret [])))))))))) (sq (bnd (eC (.bl false)) mRet) (Pv.ret .nx)) (Pv.ret .nx)
def lw17 (F_law_is_integer F_law_distance : Fn) : M Fl := mIfS (mOr (mNot (tTru (look (eFn F_law_is_integer (aCons (eOp gIx (pVar 5) (look (eC (.int 0)))) (Pv.ret [])))))) (blOf (eOp (gEq true) (look (eOp gIx (pVar 5) (look (eC (.int 0))))) (look (eFn F_law_distance (aCons (eOp gIx (pVar 5) (look (eC (.int 1)))) (aCons (eVar 4) (Pv.ret [])))))))) (sq (bnd (eC (.bl false)) mRet) (Pv.ret .nx)) (Pv.ret .nx)
def lw18 (F_law_distance : Fn) : M Fl := bnd (eOp (gEq false) (look (mComp (mSeq (eVar 6)) (tName 10) (blOf (eOp cLt (look (eFn F_law_distance (aCons (eVar 10) (aCons (eVar 4) (Pv.ret []))))) (look (eOp gIx (pVar 5) (look (eC (.int 0))))))) (eVar 10) [10])) (look (mLst (Pv.ret [])))) mRet
def sv__law_is_integer : M Fl := sq (bnd (vAnd (mIsi "int" (pVar 0)) (vNot (mIsi "bool" (pVar 0)))) mRet) (Pv.ret .nx)
theorem un__law_is_integer : fn__law_is_integer = runF 1 1 (sv__law_is_integer ) := rfl
theorem isint_ok (i : Int) : fn__law_is_integer [.int i] = .ok (.bl true, false) := by
  have k1 : kitB "int" "int" = some true := by decide +kernel
  have k2 : kitB "int" "bool" = some false := by decide +kernel
  rw [un__law_is_integer]
  unfold sv__law_is_integer
  simp [tyP, k1, k2]
theorem law_eq (F_law_digits F_law_rich F_law_cell F_law_tree F_law_order Fnearest F_law_most_parts F_law_drawn_order F_law_orders F_law_told Fleast_order Fdistance F_law_distance F_law_is_integer : Fn) : sv_law F_law_digits F_law_rich F_law_cell F_law_tree F_law_order Fnearest F_law_most_parts F_law_drawn_order F_law_orders F_law_told Fleast_order Fdistance F_law_distance F_law_is_integer = sq (lw1 F_law_digits F_law_rich F_law_cell) (sq (lw2 ) (sq (lw3 F_law_tree F_law_cell) (sq (lw4 F_law_order F_law_cell) (sq (lw5 F_law_order F_law_cell) (sq (lw6 ) (sq (lw7 Fnearest) (sq (lw8 F_law_most_parts) (sq (lw9 F_law_drawn_order F_law_rich F_law_cell) (sq (lw10 F_law_orders F_law_told) (sq (lw11 ) (sq (lw12 Fleast_order) (sq (lw13 F_law_told) (sq (lw14 Fdistance F_law_distance) (sq (lw15 ) (sq (lw16 F_law_told) (sq (lw17 F_law_is_integer F_law_distance) (sq (lw18 F_law_distance) (Pv.ret .nx)))))))))))))))))) := rfl
def c5 : Pv.M Pv.RV := mComp (mRng1 (kCons (pVar 2) (Pv.ret []))) (tName 8) (Pv.ret true) (eVar 8) [8]
def c9 (F_law_drawn_order F_law_rich F_law_cell : Fn) : Pv.M Pv.RV := mComp (mRng1 (kCons (look (eC (.int 5))) (Pv.ret []))) (tName 9) (Pv.ret true) (eFn F_law_drawn_order (aCons (eVar 3) (aCons (eFn F_law_rich (aCons (eOp gAdd (look (eFn F_law_cell (aCons (eVar 0) (aCons (eC (.int 3)) (Pv.ret []))))) (pVar 9)) (Pv.ret []))) (Pv.ret [])))) [9]
def e9 (F_law_drawn_order F_law_rich F_law_cell : Fn) : Pv.M Pv.RV := eFn F_law_drawn_order (aCons (eVar 3) (aCons (eFn F_law_rich (aCons (eOp gAdd (look (eFn F_law_cell (aCons (eVar 0) (aCons (eC (.int 3)) (Pv.ret []))))) (pVar 9)) (Pv.ret []))) (Pv.ret [])))
theorem c9_eq (F_law_drawn_order F_law_rich F_law_cell : Fn) : c9 F_law_drawn_order F_law_rich F_law_cell = mComp (mRng1 (kCons (look (eC (.int 5))) (Pv.ret []))) (tName 9) (Pv.ret true) (e9 F_law_drawn_order F_law_rich F_law_cell) [9] := rfl
def c10 (F_law_orders F_law_told : Fn) : Pv.M Pv.RV := mComp (mSeq (eFn F_law_orders (aCons (eVar 2) (Pv.ret [])))) (tName 10) (tTru (look (eFn F_law_told (aCons (eVar 3) (aCons (eVar 10) (Pv.ret [])))))) (eVar 10) [10]
def t10 (F_law_told : Fn) : Pv.M Bool := tTru (look (eFn F_law_told (aCons (eVar 3) (aCons (eVar 10) (Pv.ret [])))))
theorem c10_eq (F_law_orders F_law_told : Fn) : c10 F_law_orders F_law_told = mComp (mSeq (eFn F_law_orders (aCons (eVar 2) (Pv.ret [])))) (tName 10) (t10 F_law_told) (eVar 10) [10] := rfl
def c13 : Pv.M Pv.RV := mComp (mSeq (eVar 6)) (tName 10) (blOf (eOp gLt2 (pVar 10) (pVar 7))) (eVar 10) [10]
def t13 : Pv.M Bool := blOf (eOp gLt2 (pVar 10) (pVar 7))
theorem c13_eq : c13 = mComp (mSeq (eVar 6)) (tName 10) t13 (eVar 10) [10] := rfl
def q13 (F_law_told : Fn) (C : Pv.M Pv.RV) : Pv.M Bool := mOr (mNot (tTru (look (mIsi "tuple" (pVar 7))))) (mOr (mNot (tTru (look (eFn F_law_told (aCons (eVar 3) (aCons (eVar 7) (Pv.ret []))))))) (blOf (eOp (gEq true) (look C) (look (mLst (Pv.ret []))))))
theorem lw13_eq (F_law_told : Fn) : lw13 F_law_told = mIfS (q13 F_law_told c13) (sq (bnd (eC (.bl false)) mRet) (Pv.ret .nx)) (Pv.ret .nx) := rfl
def c18 (F_law_distance : Fn) : Pv.M Pv.RV := mComp (mSeq (eVar 6)) (tName 10) (blOf (eOp cLt (look (eFn F_law_distance (aCons (eVar 10) (aCons (eVar 4) (Pv.ret []))))) (look (eOp gIx (pVar 5) (look (eC (.int 0))))))) (eVar 10) [10]
def t18 (F_law_distance : Fn) : Pv.M Bool := blOf (eOp cLt (look (eFn F_law_distance (aCons (eVar 10) (aCons (eVar 4) (Pv.ret []))))) (look (eOp gIx (pVar 5) (look (eC (.int 0))))))
theorem c18_eq (F_law_distance : Fn) : c18 F_law_distance = mComp (mSeq (eVar 6)) (tName 10) (t18 F_law_distance) (eVar 10) [10] := rfl
def q18 (C : Pv.M Pv.RV) : Pv.M Fl := bnd (eOp (gEq false) (look C) (look (mLst (Pv.ret [])))) mRet
theorem lw18_eq (F_law_distance : Fn) : lw18 F_law_distance = q18 (c18 F_law_distance) := rfl
section
variable {ns : List Int} {n c r x0 x1 x2 k : Int} {E W DV O : List PV} {T Z Q : PV} {s3 s4 s5 s6 : Pv.Slot} {b : Bool}
theorem lw1_ok {F1 F2 F3 : Fn} (h1 : F3 [.scr ns, .int 0] = .ok (.int c, false)) (h2 : F2 [.int c] = .ok (.int r, false)) (h3 : F1 [.int r, .lst [.int 9, .int 8, .int 17]] = .ok (.lst E, true)) : lw1 F1 F2 F3 [.val (.scr ns), .no, .no, .no, .no, .no, .no, .no, .no, .no, .no] = .ok .nx [.val (.scr ns), .own E, .no, .no, .no, .no, .no, .no, .no, .no, .no] := by
  unfold lw1
  simp [h1, h2, h3]
theorem lw2_ok (h0 : atI E 0 = some (.int x0)) : lw2 [.val (.scr ns), .own E, .no, .no, .no, .no, .no, .no, .no, .no, .no] = .ok .nx [.val (.scr ns), .own E, .val (.int (1 + x0)), .no, .no, .no, .no, .no, .no, .no, .no] := by
  unfold lw2
  simp [h0]
theorem lw3_ok {F G : Fn} (h1 : G [.scr ns, .int 1] = .ok (.int c, false)) (h2 : F [.int c, .int n] = .ok (T, false)) (hT : ∀ ps, T ≠ .lst ps) : lw3 F G [.val (.scr ns), .own E, .val (.int n), .no, .no, .no, .no, .no, .no, .no, .no] = .ok .nx [.val (.scr ns), .own E, .val (.int n), .val T, .no, .no, .no, .no, .no, .no, .no] := by
  unfold lw3
  simp [h1, h2]
theorem lw4_ok {F G : Fn} (h1 : G [.scr ns, .int 2] = .ok (.int c, false)) (h2 : F [.int c, .int n] = .ok (.tup W, false)) : lw4 F G [.val (.scr ns), .own E, .val (.int n), .val T, .no, .no, .no, .no, .no, .no, .no] = .ok .nx [.val (.scr ns), .own E, .val (.int n), .val T, .val (.tup W), .no, .no, .no, .no, .no, .no] := by
  unfold lw4
  simp [h1, h2]
theorem lw5_n {F G : Fn} (h1 : atI E 1 = some (.int x1)) (h : x1 ≠ 0) : lw5 F G [.val (.scr ns), .own E, .val (.int n), .val T, .val (.tup W), .no, .no, .no, .no, .no, .no] = .ok .nx [.val (.scr ns), .own E, .val (.int n), .val T, .val (.tup W), .no, .no, .no, .no, .no, .no] := by
  unfold lw5
  simp [h1, h]
theorem lw5_y {F G : Fn} {L W2 : List PV} (h1 : atI E 1 = some (.int 0)) (h2 : atI E 2 = some (.int x2)) (hc : c5 [.val (.scr ns), .own E, .val (.int (8 + x2)), .val T, .val (.tup W), .no, .no, .no, .no, .no, .no] = .ok (.lst L, true) [.val (.scr ns), .own E, .val (.int (8 + x2)), .val T, .val (.tup W), .no, .no, .no, .no, .no, .no]) (h3 : G [.scr ns, .int 2] = .ok (.int c, false)) (h4 : F [.int c, .int (8 + x2)] = .ok (.tup W2, false)) : lw5 F G [.val (.scr ns), .own E, .val (.int n), .val T, .val (.tup W), .no, .no, .no, .no, .no, .no] = .ok .nx [.val (.scr ns), .own E, .val (.int (8 + x2)), .val (.tup [.str "any", .tup L]), .val (.tup W2), .no, .no, .no, .no, .no, .no] := by
  unfold c5 at hc
  unfold lw5
  simp [-mComp_ap, h1, h2, hc, h3, h4]
theorem lw6_ok : lw6 [.val (.scr ns), .own E, .val (.int n), .val T, .val (.tup W), .no, .no, .no, .no, .no, .no] = .ok .nx [.val (.scr ns), .own E, .val (.int n), .val T, .val (.tup W), .val .non, .no, .no, .no, .no, .no] := rfl
theorem lw7_y {F : Fn} {V : List PV} (h : F [T, .tup W] = .ok (.tup V, false)) (hT : ∀ ps, T ≠ .lst ps) : lw7 F [.val (.scr ns), .own E, .val (.int n), .val T, .val (.tup W), .val .non, .no, .no, .no, .no, .no] = .ok .nx [.val (.scr ns), .own E, .val (.int n), .val T, .val (.tup W), .val (.tup V), .no, .no, .no, .no, .no] := by
  unfold lw7 mTryO
  have : (sq (bnd (eFn F (aCons (eVar 3) (aCons (eVar 4) (Pv.ret [])))) (setR 5)) (Pv.ret .nx)) [.val (.scr ns), .own E, .val (.int n), .val T, .val (.tup W), .val .non, .no, .no, .no, .no, .no] = .ok .nx [.val (.scr ns), .own E, .val (.int n), .val T, .val (.tup W), .val (.tup V), .no, .no, .no, .no, .no] := by simp [h]
  rw [this]
theorem lw7_x {F : Fn} (h : F [T, .tup W] = .exc "OutOfRange") (hT : ∀ ps, T ≠ .lst ps) : lw7 F [.val (.scr ns), .own E, .val (.int n), .val T, .val (.tup W), .val .non, .no, .no, .no, .no, .no] = .ok .nx [.val (.scr ns), .own E, .val (.int n), .val T, .val (.tup W), .val .non, .no, .no, .no, .no, .no] := by
  unfold lw7 mTryO
  have : (sq (bnd (eFn F (aCons (eVar 3) (aCons (eVar 4) (Pv.ret [])))) (setR 5)) (Pv.ret .nx)) [.val (.scr ns), .own E, .val (.int n), .val T, .val (.tup W), .val .non, .no, .no, .no, .no, .no] = .exc "OutOfRange" [.val (.scr ns), .own E, .val (.int n), .val T, .val (.tup W), .val .non, .no, .no, .no, .no, .no] := by simp [h]
  have i : is_law "OutOfRange" = some true := rfl
  simp only [this, i]
  rfl
theorem lw8_y {F : Fn} {V : List PV} (h : F [T] = .ok (.int k, false)) (hk : k ≤ 8) (hT : ∀ ps, T ≠ .lst ps) : lw8 F [.val (.scr ns), .own E, .val (.int n), .val T, .val (.tup W), .val (.tup V), .no, .no, .no, .no, .no] = .ok .nx [.val (.scr ns), .own E, .val (.int n), .val T, .val (.tup W), .val (.tup V), .no, .no, .no, .no, .no] := by
  have g : gIs false (.tup V) .non = some (.bl false, false) := rfl
  have c : ¬ 8 < k := by omega
  have g2 : gEq true (.bl false) (.bl false) = some (.bl false, false) := rfl
  unfold lw8
  simp [h, g, g2, c]
theorem lw8_x {F : Fn} (h : F [T] = .ok (.int k, false)) (hk : 8 < k) (hT : ∀ ps, T ≠ .lst ps) : lw8 F [.val (.scr ns), .own E, .val (.int n), .val T, .val (.tup W), .val .non, .no, .no, .no, .no, .no] = .ok .nx [.val (.scr ns), .own E, .val (.int n), .val T, .val (.tup W), .val .non, .no, .no, .no, .no, .no] := by
  have g : gIs false .non .non = some (.bl true, false) := rfl
  have g2 : gEq true (.bl true) (.bl true) = some (.bl false, false) := rfl
  unfold lw8
  simp [h, g, g2, hk]
theorem e9_ok {F1 F2 F3 : Fn} {P : PV} (h3 : F3 [.scr ns, .int 3] = .ok (.int c, false)) (h2 : F2 [.int (c + k)] = .ok (.int r, false)) (h1 : F1 [T, .int r] = .ok (P, false)) (hT : ∀ ps, T ≠ .lst ps) : e9 F1 F2 F3 [.val (.scr ns), .own E, .val (.int n), .val T, .val (.tup W), .val Z, .no, .no, .no, .val (.int k), .no] = .ok (P, false) [.val (.scr ns), .own E, .val (.int n), .val T, .val (.tup W), .val Z, .no, .no, .no, .val (.int k), .no] := by
  unfold e9
  simp [h1, h2, h3]
theorem lw10_n {F G : Fn} (h : ¬ n < 6) : lw10 F G [.val (.scr ns), .own E, .val (.int n), .val T, .val (.tup W), .val Z, .own DV, .no, .no, .no, .no] = .ok .nx [.val (.scr ns), .own E, .val (.int n), .val T, .val (.tup W), .val Z, .own DV, .no, .no, .no, .no] := by
  unfold lw10
  simp [h]
theorem i10_ok {F : Fn} {L : List PV} {b : Bool} (h : F [.int n] = .ok (.lst L, b)) : mSeq (eFn F (aCons (eVar 2) (Pv.ret []))) [.val (.scr ns), .own E, .val (.int n), .val T, .val (.tup W), .val Z, .own DV, .no, .no, .no, .no] = .ok L [.val (.scr ns), .own E, .val (.int n), .val T, .val (.tup W), .val Z, .own DV, .no, .no, .no, .no] := by
  simp [h]
theorem t10_ok {F : Fn} (h : F [T, .tup O] = .ok (.bl b, false)) (hT : ∀ ps, T ≠ .lst ps) : t10 F [.val (.scr ns), .own E, .val (.int n), .val T, .val (.tup W), .val Z, .own DV, .no, .no, .no, .val (.tup O)] = .ok b [.val (.scr ns), .own E, .val (.int n), .val T, .val (.tup W), .val Z, .own DV, .no, .no, .no, .val (.tup O)] := by
  have tr : truP (.bl b) = some b := rfl
  unfold t10
  simp [h, tr]
theorem lw10_y {F G : Fn} {L : List PV} (h : n < 6) (hc : c10 F G [.val (.scr ns), .own E, .val (.int n), .val T, .val (.tup W), .val Z, .own DV, .no, .no, .no, .no] = .ok (.lst L, true) [.val (.scr ns), .own E, .val (.int n), .val T, .val (.tup W), .val Z, .own DV, .no, .no, .no, .no]) : lw10 F G [.val (.scr ns), .own E, .val (.int n), .val T, .val (.tup W), .val Z, .own DV, .no, .no, .no, .no] = .ok .nx [.val (.scr ns), .own E, .val (.int n), .val T, .val (.tup W), .val Z, .own L, .no, .no, .no, .no] := by
  unfold c10 at hc
  unfold lw10
  simp [-mComp_ap, h, hc]
theorem lw11_n (h1 : atI E 1 = some (.int x1)) (h : x1 ≠ 0) : lw11 [.val (.scr ns), .own E, .val (.int n), .val T, .val (.tup W), .val Z, .own DV, .no, .no, .no, .no] = .ok .nx [.val (.scr ns), .own E, .val (.int n), .val T, .val (.tup W), .val Z, .own DV, .no, .no, .no, .no] := by
  unfold lw11
  simp [h1, h]
theorem lw11_y {L : List PV} (h1 : atI E 1 = some (.int 0)) (g : gAppend DV [.tup W] = some L) : lw11 [.val (.scr ns), .own E, .val (.int n), .val T, .val (.tup W), .val Z, .own DV, .no, .no, .no, .no] = .ok .nx [.val (.scr ns), .own E, .val (.int n), .val T, .val (.tup W), .val Z, .own L, .no, .no, .no, .no] := by
  unfold lw11
  simp [h1, g]
theorem lw12_ok {F : Fn} (h : F [T] = .ok (.tup O, false)) (hT : ∀ ps, T ≠ .lst ps) : lw12 F [.val (.scr ns), .own E, .val (.int n), .val T, .val (.tup W), .val Z, .own DV, .no, .no, .no, .no] = .ok .nx [.val (.scr ns), .own E, .val (.int n), .val T, .val (.tup W), .val Z, .own DV, .val (.tup O), .no, .no, .no] := by
  unfold lw12
  simp [h]
theorem t13_ok {P : List PV} {s : Pv.Slot} (g : gLt2 (.tup P) (.tup O) = some (.bl b, false)) : t13 [.val (.scr ns), .own E, .val (.int n), .val T, .val (.tup W), .val Z, s, .val (.tup O), .no, .no, .val (.tup P)] = .ok b [.val (.scr ns), .own E, .val (.int n), .val T, .val (.tup W), .val Z, s, .val (.tup O), .no, .no, .val (.tup P)] := by
  unfold t13
  simp [g]
theorem q13_ok {F : Fn} {C : Pv.M Pv.RV} (h : F [T, .tup O] = .ok (.bl true, false)) (hc : C [.val (.scr ns), .own E, .val (.int n), .val T, .val (.tup W), .val Z, .own DV, .val (.tup O), .no, .no, .no] = .ok (.lst [], true) [.val (.scr ns), .own E, .val (.int n), .val T, .val (.tup W), .val Z, .val (.lst DV), .val (.tup O), .no, .no, .no]) (hT : ∀ ps, T ≠ .lst ps) : q13 F C [.val (.scr ns), .own E, .val (.int n), .val T, .val (.tup W), .val Z, .own DV, .val (.tup O), .no, .no, .no] = .ok false [.val (.scr ns), .own E, .val (.int n), .val T, .val (.tup W), .val Z, .val (.lst DV), .val (.tup O), .no, .no, .no] := by
  have tr : truP (.bl true) = some true := rfl
  have kb : kitB "tuple" "tuple" = some true := by decide
  have g : gEq true (.lst []) (.lst []) = some (.bl false, false) := gEq_lstI true [] []
  unfold q13
  simp [h, hc, tr, kb, tyP, g]
theorem lw14_ok {F G : Fn} {P : List PV} (h0 : atI DV 0 = some (.tup P)) (h1 : F [.tup P, .tup W] = .ok (.int k, false)) (h2 : G [.tup P, .tup W] = .ok (.int k, false)) : lw14 F G [.val (.scr ns), .own E, .val (.int n), .val T, .val (.tup W), .val Z, .val (.lst DV), .val (.tup O), .no, .no, .no] = .ok .nx [.val (.scr ns), .own E, .val (.int n), .val T, .val (.tup W), .val Z, .val (.lst DV), .val (.tup O), .no, .no, .no] := by
  unfold lw14
  simp [h0, h1, h2]
theorem lw15_x : lw15 [.val (.scr ns), .own E, .val (.int n), .val T, .val (.tup W), .val .non, .val (.lst DV), .val (.tup O), .no, .no, .no] = .ok (.rt (.bl true, false)) [.val (.scr ns), .own E, .val (.int n), .val T, .val (.tup W), .val .non, .val (.lst DV), .val (.tup O), .no, .no, .no] := by
  have g : gIs false .non .non = some (.bl true, false) := rfl
  unfold lw15
  simp [g]
theorem lw15_y {V : List PV} : lw15 [.val (.scr ns), .own E, .val (.int n), .val T, .val (.tup W), .val (.tup V), .val (.lst DV), .val (.tup O), .no, .no, .no] = .ok .nx [.val (.scr ns), .own E, .val (.int n), .val T, .val (.tup W), .val (.tup V), .val (.lst DV), .val (.tup O), .no, .no, .no] := by
  have g : gIs false (.tup V) .non = some (.bl false, false) := rfl
  unfold lw15
  simp [g]
theorem lw16_ok {F : Fn} {P : List PV} (h : F [T, .tup P] = .ok (.bl true, false)) (hT : ∀ ps, T ≠ .lst ps) : lw16 F [.val (.scr ns), .own E, .val (.int n), .val T, .val (.tup W), .val (.tup [.int k, .tup P]), .val (.lst DV), .val (.tup O), .no, .no, .no] = .ok .nx [.val (.scr ns), .own E, .val (.int n), .val T, .val (.tup W), .val (.tup [.int k, .tup P]), .val (.lst DV), .val (.tup O), .no, .no, .no] := by
  have h1 : atI [PV.int k, PV.tup P] 1 = some (.tup P) := at1
  have gl : gLen [.tup [PV.int k, PV.tup P]] = some (.int 2, false) := rfl
  have tr : truP (.bl true) = some true := rfl
  have kb : kitB "tuple" "tuple" = some true := by decide
  unfold lw16
  simp [-gLen_t, h, h1, gl, tr, kb, tyP]
theorem lw17_ok {F G : Fn} {P : List PV} (h : F [.int k] = .ok (.bl true, false)) (h2 : G [.tup P, .tup W] = .ok (.int k, false)) : lw17 F G [.val (.scr ns), .own E, .val (.int n), .val T, .val (.tup W), .val (.tup [.int k, .tup P]), .val (.lst DV), .val (.tup O), .no, .no, .no] = .ok .nx [.val (.scr ns), .own E, .val (.int n), .val T, .val (.tup W), .val (.tup [.int k, .tup P]), .val (.lst DV), .val (.tup O), .no, .no, .no] := by
  have h0 : atI [PV.int k, PV.tup P] 0 = some (.int k) := at0
  have h1 : atI [PV.int k, PV.tup P] 1 = some (.tup P) := at1
  have tr : truP (.bl true) = some true := rfl
  unfold lw17
  simp [h, h0, h1, h2, tr]
theorem t18_ok {F : Fn} {P X : List PV} (h : F [.tup X, .tup W] = .ok (.int r, false)) : t18 F [.val (.scr ns), .own E, .val (.int n), .val T, .val (.tup W), .val (.tup [.int k, .tup P]), .val (.lst DV), .val (.tup O), .no, .no, .val (.tup X)] = .ok (decide (r < k)) [.val (.scr ns), .own E, .val (.int n), .val T, .val (.tup W), .val (.tup [.int k, .tup P]), .val (.lst DV), .val (.tup O), .no, .no, .val (.tup X)] := by
  have h0 : atI [PV.int k, PV.tup P] 0 = some (.int k) := at0
  unfold t18
  simp [h, h0]
theorem q18_ok {C : Pv.M Pv.RV} (hc : C [.val (.scr ns), .own E, .val (.int n), .val T, .val (.tup W), .val Z, .val (.lst DV), .val (.tup O), .no, .no, .no] = .ok (.lst [], true) [.val (.scr ns), .own E, .val (.int n), .val T, .val (.tup W), .val Z, .val (.lst DV), .val (.tup O), .no, .no, .no]) : q18 C [.val (.scr ns), .own E, .val (.int n), .val T, .val (.tup W), .val Z, .val (.lst DV), .val (.tup O), .no, .no, .no] = .ok (.rt (.bl true, false)) [.val (.scr ns), .own E, .val (.int n), .val T, .val (.tup W), .val Z, .val (.lst DV), .val (.tup O), .no, .no, .no] := by
  have g : gEq false (.lst []) (.lst []) = some (.bl true, false) := gEq_lstI false [] []
  unfold q18
  simp [hc, g]
end
section
variable {ns : List Int} {E : List PV}
theorem c5_ok {m : Nat} {T : PV} {W : List PV} (hm : m ≤ 24) : c5 [.val (.scr ns), .own E, .val (.int (m : Nat)), .val T, .val (.tup W), .no, .no, .no, .no, .no, .no] = .ok (.lst ((Pv.upTo 0 m).map .int), true) [.val (.scr ns), .own E, .val (.int (m : Nat)), .val T, .val (.tup W), .no, .no, .no, .no, .no, .no] := by
  have r1 : mRng1 (kCons (pVar 2) (Pv.ret [])) [.val (.scr ns), .own E, .val (.int (m : Nat)), .val T, .val (.tup W), .no, .no, .no, .no, .no, .no] = .ok ((Pv.upTo 0 m).map .int) [.val (.scr ns), .own E, .val (.int (m : Nat)), .val T, .val (.tup W), .no, .no, .no, .no, .no, .no] := by
    refine rngN_ok (n := m) ?_ (by omega)
    generalize ((m : Nat) : Int) = z
    simp
  exact comp_map (v := 8) (me := eVar 8) (e := PV.int) (g := PV.int) r1 rfl (fun x _ => ⟨false, rfl⟩) (by rw [upTo_len]; omega)
theorem told_p {n : Nat} {g : G} (t : Tree n g) : ∃ p : List Int → Bool, ∀ o, fn__law_told 40 [enc g, .tup (o.map .int)] = .ok (.bl (p o), false) ∧ (p o = true ↔ tol g o) := ⟨fun o => (told40 t.ok o).choose, fun o => (told40 t.ok o).choose_spec⟩
theorem drawn9 {n : Nat} {g : G} (t : Tree n g) {W : List PV} {Z : PV} : ∃ Dl : List (List Int), Dl.length = 5 ∧ (∀ o ∈ Dl, tol g o) ∧ lw9 (fn__law_drawn_order 40) fn__law_rich fn__law_cell [.val (.scr ns), .own E, .val (.int (n : Nat)), .val (enc g), .val (.tup W), .val Z, .no, .no, .no, .no, .no] = .ok .nx [.val (.scr ns), .own E, .val (.int (n : Nat)), .val (enc g), .val (.tup W), .val Z, .own (tabV Dl), .no, .no, .no, .no] := by
  obtain ⟨c3, e3⟩ := cell_z ns (z := 3) (by omega)
  obtain ⟨vf, hvf⟩ : ∃ vf : Int → List Int, ∀ k : Int, fn__law_drawn_order 40 [enc g, .int (richV (c3 + k))] = .ok (.tup ((vf k).map .int), false) ∧ Told g (vf k) := ⟨fun k => (drawn_told t (richV (c3 + k))).choose, fun k => (drawn_told t (richV (c3 + k))).choose_spec⟩
  have r1 : mRng1 (kCons (look (eC (.int 5))) (Pv.ret [])) [.val (.scr ns), .own E, .val (.int (n : Nat)), .val (enc g), .val (.tup W), .val Z, .no, .no, .no, .no, .no] = .ok ((Pv.upTo 0 5).map .int) [.val (.scr ns), .own E, .val (.int (n : Nat)), .val (enc g), .val (.tup W), .val Z, .no, .no, .no, .no, .no] := rngN_ok (n := 5) (by simp) (by omega)
  have m := comp_map (v := 9) (me := e9 (fn__law_drawn_order 40) fn__law_rich fn__law_cell) (e := PV.int) (g := fun k : Int => PV.tup ((vf k).map .int)) (l := Pv.upTo 0 5) r1 rfl (fun k _ => ⟨false, e9_ok e3 (rich_eq _) (hvf k).1 (enc_ne g)⟩) (by rw [upTo_len]; omega)
  rw [← c9_eq] at m
  have e : (Pv.upTo 0 5).map (fun k : Int => PV.tup ((vf k).map .int)) = tabV ((Pv.upTo 0 5).map vf) := by unfold tabV; rw [List.map_map]; rfl
  rw [e] at m
  refine ⟨(Pv.upTo 0 5).map vf, by rw [List.length_map, upTo_len], fun o ho => ?_, ?_⟩
  · obtain ⟨k, _, rfl⟩ := List.mem_map.mp ho
    exact told_tol t.f (hvf k).2
  · unfold c9 at m
    unfold lw9
    rw [bnd_ok m]; rfl
theorem drawn10 {n : Nat} {g : G} (t : Tree n g) {W : List PV} {Z : PV} {o0 : List Int} (h0 : tol g o0) {Dl : List (List Int)} (lD : Dl.length = 5) (hD : ∀ o ∈ Dl, tol g o) : ∃ Dl' : List (List Int), Dl' ≠ [] ∧ Dl'.length ≤ 1000 ∧ (∀ o ∈ Dl', tol g o) ∧ lw10 fn__law_orders (fn__law_told 40) [.val (.scr ns), .own E, .val (.int (n : Nat)), .val (enc g), .val (.tup W), .val Z, .own (tabV Dl), .no, .no, .no, .no] = .ok .nx [.val (.scr ns), .own E, .val (.int (n : Nat)), .val (enc g), .val (.tup W), .val Z, .own (tabV Dl'), .no, .no, .no, .no] := by
  by_cases c : (n : Int) < 6
  · obtain ⟨M, b, eM, mM, lM⟩ := orders_all n (by omega)
    obtain ⟨p, hp⟩ := told_p t
    have m := comp_gen (v := 10) (mt := t10 (fn__law_told 40)) (me := eVar 10) (e := fun o : List Int => PV.tup (o.map .int)) (c := p) (g := fun o : List Int => PV.tup (o.map .int)) (l := M) (i10_ok (ns := ns) (E := E) (n := (n : Nat)) (T := enc g) (W := W) (Z := Z) (DV := tabV Dl) (L := tabV M) eM) rfl (fun o ho => t10_ok (hp o).1 (enc_ne g)) (fun o _ _ => ⟨false, rfl⟩) (by omega)
    rw [← c10_eq] at m
    have q := lw10_y (ns := ns) (E := E) (W := W) (Z := Z) c m
    have p0 := (tol_perm _ h0).trans t.l
    refine ⟨M.filter p, fun z => ?_, Nat.le_trans (List.length_filter_le _ _) (by omega), fun o ho => (hp o).2.mp (List.mem_filter.mp ho).2, q⟩
    have : o0 ∈ M.filter p := List.mem_filter.mpr ⟨(mM o0).mpr p0, (hp o0).2.mpr h0⟩
    rw [z] at this
    cases this
  · exact ⟨Dl, (fun z => by rw [z] at lD; cases lD), by omega, hD, lw10_n c⟩
end
theorem law_true (ns : List Int) (h : ns.length ≤ 63) : fn_law [.scr ns] = .ok (.bl true, false) := by
  obtain ⟨c0, ec0⟩ := cell_z ns (z := 0) (by omega)
  obtain ⟨c1, ec1⟩ := cell_z ns (z := 1) (by omega)
  obtain ⟨c2, ec2⟩ := cell_z ns (z := 2) (by omega)
  have hp : ∀ s ∈ [(9 : Int), 8, 17], 0 < s ∧ s < 1073741824 := fun s hs => by
    simp only [List.mem_cons, List.not_mem_nil, or_false] at hs
    rcases hs with rfl | rfl | rfl <;> omega
  have ed := digits_ok (richV c0) [(9 : Int), 8, 17] hp (by simp)
  obtain ⟨x0, d0, p0⟩ := dg_get (l := [(9 : Int), 8, 17]) (c := richV c0) (k := 0) rfl fun s hs => (hp s hs).1
  obtain ⟨x1, d1, p1⟩ := dg_get (l := [(9 : Int), 8, 17]) (c := richV c0) (k := 1) rfl fun s hs => (hp s hs).1
  obtain ⟨x2, d2, p2⟩ := dg_get (l := [(9 : Int), 8, 17]) (c := richV c0) (k := 2) rfl fun s hs => (hp s hs).1
  generalize (dg (richV c0) [(9 : Int), 8, 17]).map PV.int = E at *
  have q1 := lw1_ok (ns := ns) ec0 (rich_eq c0) ed
  obtain ⟨m, em⟩ : ∃ m : Nat, 1 + x0 = (m : Int) := ⟨(1 + x0).toNat, by omega⟩
  have q2 := lw2_ok (ns := ns) d0
  rw [em] at q2
  obtain ⟨g1, eg1, g11, g12, g13, g14⟩ := tree_ok c1 m (by omega) (by omega)
  have t1 : Tree m g1 := ⟨g11, g12, g13, g14, by omega, by omega⟩
  obtain ⟨w1, ew1, pw1⟩ := order_ok c2 m (by omega)
  have q3 := lw3_ok (ns := ns) (E := E) ec1 eg1 (enc_ne g1)
  have q4 := lw4_ok (ns := ns) (E := E) (T := enc g1) ec2 ew1
  -- the tree and the order that are asked
  have h5 : ∃ (n : Nat) (g : G) (w : List Int), Tree n g ∧ w.Perm (Pv.upTo 0 n) ∧ (x1 = 0 → tol g w) ∧ lw5 fn__law_order fn__law_cell [.val (.scr ns), .own E, .val (.int (m : Nat)), .val (enc g1), .val (.tup (w1.map .int)), .no, .no, .no, .no, .no, .no] = .ok .nx [.val (.scr ns), .own E, .val (.int (n : Nat)), .val (enc g), .val (.tup (w.map .int)), .no, .no, .no, .no, .no, .no] := by
    by_cases c : x1 = 0
    · subst c
      obtain ⟨n, en⟩ : ∃ n : Nat, 8 + x2 = (n : Int) := ⟨(8 + x2).toNat, by omega⟩
      obtain ⟨w, ew, pw⟩ := order_ok c2 n (by omega)
      have hc := c5_ok (ns := ns) (E := E) (m := n) (T := enc g1) (W := w1.map .int) (by omega)
      rw [← en] at hc ew
      have q := lw5_y (ns := ns) (E := E) (n := (m : Nat)) (T := enc g1) (W := w1.map .int) d1 d2 hc ec2 ew
      have eP : PV.tup [.str "any", .tup ((Pv.upTo 0 n).map .int)] = enc (plainG n) := by
        unfold plainG
        rw [if_neg (by omega), enc, leaf_map]
        rfl
      rw [eP, en] at q
      exact ⟨n, plainG n, w, plain_tree_ok (by omega) (by omega), pw, fun _ => (plain_tol w).mpr pw, q⟩
    · exact ⟨m, g1, w1, t1, pw1, fun z => absurd z c, lw5_n d1 c⟩
  obtain ⟨n, g, w, t, pw, hwt, q5⟩ := h5
  have hn1 := t.n1
  have hn2 := t.n2
  have lw_ : w.length = n := by rw [pw.length_eq, upTo_len]
  have iw : isOrder (n : Nat) w = true := by
    have := order_of t.n1 t.n2 pw
    rwa [lw_] at this
  have told_in : ∀ o, tol g o → isOrder (n : Nat) o = true ∧ o.length ≤ 100 ∧ ∀ x ∈ o, x ∈ w := fun o ho => by
    have p := (tol_perm g ho).trans t.l
    have lo : o.length = n := by rw [p.length_eq, upTo_len]
    have := order_of t.n1 t.n2 p
    rw [lo] at this
    exact ⟨this, by omega, fun x hx => pw.mem_iff.mpr (p.mem_iff.mp hx)⟩
  have q6 := lw6_ok (ns := ns) (E := E) (n := (n : Nat)) (T := enc g) (W := w.map .int)
  obtain ⟨o0, eL, LT⟩ := leastorderT_ok t
  obtain ⟨p, hpp⟩ := told_p t
  have et0 := (hpp o0).1
  rw [(hpp o0).2.mpr LT.tl] at et0
  have emo := most_ok 40 g (by have := t.d; omega) t.f (by rw [t.len]; omega)
  -- from the drawn orders on to the distance
  have mid : ∀ Z : PV, ∃ Dl : List (List Int), (∀ o ∈ Dl, tol g o) ∧ Dl.length ≤ 10000 ∧ ∀ (rest : Pv.M Fl) (ev' : SL) (r : Pv.R Fl), rest [.val (.scr ns), .own E, .val (.int (n : Nat)), .val (enc g), .val (.tup (w.map .int)), .val Z, .val (.lst (tabV Dl)), .val (.tup (o0.map .int)), .no, .no, .no] = r → (sq (lw9 (fn__law_drawn_order 40) fn__law_rich fn__law_cell) (sq (lw10 fn__law_orders (fn__law_told 40)) (sq lw11 (sq (lw12 fn_least_order) (sq (lw13 (fn__law_told 40)) (sq (lw14 fn_distance fn__law_distance) rest)))))) [.val (.scr ns), .own E, .val (.int (n : Nat)), .val (enc g), .val (.tup (w.map .int)), .val Z, .no, .no, .no, .no, .no] = r := fun Z => by
    obtain ⟨D1, l1, h1, q9⟩ := drawn9 (ns := ns) (E := E) t (W := w.map .int) (Z := Z)
    obtain ⟨D2, ne2, l2, h2, q10⟩ := drawn10 (ns := ns) (E := E) t (W := w.map .int) (Z := Z) LT.tl l1 h1
    have h11 : ∃ D3 : List (List Int), D3 ≠ [] ∧ D3.length ≤ 10000 ∧ (∀ o ∈ D3, tol g o) ∧ lw11 [.val (.scr ns), .own E, .val (.int (n : Nat)), .val (enc g), .val (.tup (w.map .int)), .val Z, .own (tabV D2), .no, .no, .no, .no] = .ok .nx [.val (.scr ns), .own E, .val (.int (n : Nat)), .val (enc g), .val (.tup (w.map .int)), .val Z, .own (tabV D3), .no, .no, .no, .no] := by
      by_cases c : x1 = 0
      · subst c
        have ga : gAppend (tabV D2) [.tup (w.map .int)] = some (tabV (D2 ++ [w])) := by
          unfold tabV
          rw [List.map_append]
          exact (gAppend_1).trans (if_pos (by rw [List.length_map, SZ]; omega))
        refine ⟨D2 ++ [w], by simp, by rw [List.length_append]; show _ + 1 ≤ _; omega, fun o ho => ?_, lw11_y d1 ga⟩
        rcases List.mem_append.mp ho with ho | ho
        · exact h2 o ho
        · rw [List.mem_singleton.mp ho]
          exact hwt rfl
      · exact ⟨D2, ne2, by omega, h2, lw11_n d1 c⟩
    obtain ⟨D3, ne3, l3, h3, q11⟩ := h11
    refine ⟨D3, h3, l3, fun rest ev' r hr => ?_⟩
    have q12 := lw12_ok (ns := ns) (E := E) (n := (n : Nat)) (W := w.map .int) (Z := Z) (DV := tabV D3) eL (enc_ne g)
    have m13 := comp_gen (v := 10) (mi := mSeq (eVar 6)) (mt := t13) (me := eVar 10) (e := fun o : List Int => PV.tup (o.map .int)) (c := fun o => ltL o o0) (g := fun o : List Int => PV.tup (o.map .int)) (l := D3) (ev := [.val (.scr ns), .own E, .val (.int (n : Nat)), .val (enc g), .val (.tup (w.map .int)), .val Z, .own (tabV D3), .val (.tup (o0.map .int)), .no, .no, .no]) (ev1 := [.val (.scr ns), .own E, .val (.int (n : Nat)), .val (enc g), .val (.tup (w.map .int)), .val Z, .val (.lst (tabV D3)), .val (.tup (o0.map .int)), .no, .no, .no]) rfl rfl (fun o _ => t13_ok (by rw [gLt2_tt, lexLt_ltL])) (fun o _ _ => ⟨false, rfl⟩) (by omega)
    rw [List.filter_eq_nil_iff.mpr (fun o ho => by rw [LT.le o (h3 o ho)]; simp), ← c13_eq] at m13
    have q13 : lw13 (fn__law_told 40) [.val (.scr ns), .own E, .val (.int (n : Nat)), .val (enc g), .val (.tup (w.map .int)), .val Z, .own (tabV D3), .val (.tup (o0.map .int)), .no, .no, .no] = .ok .nx [.val (.scr ns), .own E, .val (.int (n : Nat)), .val (enc g), .val (.tup (w.map .int)), .val Z, .val (.lst (tabV D3)), .val (.tup (o0.map .int)), .no, .no, .no] := by
      rw [lw13_eq]
      exact (ifS_f (q13_ok et0 m13 (enc_ne g))).trans rfl
    have q14 : lw14 fn_distance fn__law_distance [.val (.scr ns), .own E, .val (.int (n : Nat)), .val (enc g), .val (.tup (w.map .int)), .val Z, .val (.lst (tabV D3)), .val (.tup (o0.map .int)), .no, .no, .no] = .ok .nx [.val (.scr ns), .own E, .val (.int (n : Nat)), .val (enc g), .val (.tup (w.map .int)), .val Z, .val (.lst (tabV D3)), .val (.tup (o0.map .int)), .no, .no, .no] := by
      cases D3 with
      | nil => exact absurd rfl ne3
      | cons o D3 =>
        obtain ⟨i1, i2, i3⟩ := told_in o (h3 o (by simp))
        exact lw14_ok at0 (distance_ok i1 iw) (lawdist_ok i2 i3)
    exact (sq_nx q9).trans ((sq_nx q10).trans ((sq_nx q11).trans ((sq_nx q12).trans ((sq_nx q13).trans ((sq_nx q14).trans hr)))))
  rw [un_law, law_eq]
  rcases nearest_ok t iw with ⟨wn, q, eN, N⟩ | ⟨wn, eN⟩
  · have q7 := lw7_y (ns := ns) (E := E) (n := (n : Nat)) eN (enc_ne g)
    have q8 := lw8_y (ns := ns) (E := E) (n := (n : Nat)) (W := w.map .int) (V := [.int q.1, .tup (q.2.map .int)]) emo (by omega) (enc_ne g)
    obtain ⟨Dl, hD, lD, go⟩ := mid (.tup [.int q.1, .tup (q.2.map .int)])
    have q15 := lw15_y (ns := ns) (E := E) (n := (n : Nat)) (T := enc g) (W := w.map .int) (DV := tabV Dl) (O := o0.map .int) (V := [.int q.1, .tup (q.2.map .int)])
    have etq := (hpp q.2).1
    rw [(hpp q.2).2.mpr N.tl] at etq
    have q16 := lw16_ok (ns := ns) (E := E) (n := (n : Nat)) (W := w.map .int) (DV := tabV Dl) (O := o0.map .int) (k := q.1) etq (enc_ne g)
    obtain ⟨_, i2, i3⟩ := told_in q.2 N.tl
    have ld := lawdist_ok (w := w) i2 i3
    rw [← N.eq] at ld
    have q17 := lw17_ok (ns := ns) (E := E) (n := (n : Nat)) (T := enc g) (W := w.map .int) (DV := tabV Dl) (O := o0.map .int) (k := q.1) (isint_ok q.1) ld
    have m18 := comp_gen (v := 10) (mi := mSeq (eVar 6)) (mt := t18 fn__law_distance) (me := eVar 10) (e := fun o : List Int => PV.tup (o.map .int)) (c := fun o => decide ((inv (posn w) o : Int) < q.1)) (g := fun o : List Int => PV.tup (o.map .int)) (l := Dl) (ev := [.val (.scr ns), .own E, .val (.int (n : Nat)), .val (enc g), .val (.tup (w.map .int)), .val (.tup [.int q.1, .tup (q.2.map .int)]), .val (.lst (tabV Dl)), .val (.tup (o0.map .int)), .no, .no, .no]) (ev1 := [.val (.scr ns), .own E, .val (.int (n : Nat)), .val (enc g), .val (.tup (w.map .int)), .val (.tup [.int q.1, .tup (q.2.map .int)]), .val (.lst (tabV Dl)), .val (.tup (o0.map .int)), .no, .no, .no]) rfl rfl (fun o ho => by
      obtain ⟨_, j2, j3⟩ := told_in o (hD o ho)
      exact t18_ok (lawdist_ok j2 j3)) (fun o _ _ => ⟨false, rfl⟩) (by omega)
    rw [List.filter_eq_nil_iff.mpr (fun o ho => by
      have := N.le o (hD o ho)
      rw [decide_eq_false (by omega)]; simp), ← c18_eq] at m18
    have q18 : lw18 fn__law_distance [.val (.scr ns), .own E, .val (.int (n : Nat)), .val (enc g), .val (.tup (w.map .int)), .val (.tup [.int q.1, .tup (q.2.map .int)]), .val (.lst (tabV Dl)), .val (.tup (o0.map .int)), .no, .no, .no] = .ok (.rt (.bl true, false)) [.val (.scr ns), .own E, .val (.int (n : Nat)), .val (enc g), .val (.tup (w.map .int)), .val (.tup [.int q.1, .tup (q.2.map .int)]), .val (.lst (tabV Dl)), .val (.tup (o0.map .int)), .no, .no, .no] := by
      rw [lw18_eq]
      exact q18_ok m18
    have fin := go (sq lw15 (sq (lw16 (fn__law_told 40)) (sq (lw17 fn__law_is_integer fn__law_distance) (sq (lw18 fn__law_distance) (Pv.ret .nx))))) [] _ ((sq_nx q15).trans ((sq_nx q16).trans ((sq_nx q17).trans (sq_rt q18))))
    exact runF_ok ((sq_nx q1).trans ((sq_nx q2).trans ((sq_nx q3).trans ((sq_nx q4).trans ((sq_nx q5).trans ((sq_nx q6).trans ((sq_nx q7).trans ((sq_nx q8).trans fin)))))))) rfl (by decide)
  · have q7 := lw7_x (ns := ns) (E := E) (n := (n : Nat)) eN (enc_ne g)
    have q8 := lw8_x (ns := ns) (E := E) (n := (n : Nat)) (W := w.map .int) emo (by omega) (enc_ne g)
    obtain ⟨Dl, hD, lD, go⟩ := mid .non
    have q15 := lw15_x (ns := ns) (E := E) (n := (n : Nat)) (T := enc g) (W := w.map .int) (DV := tabV Dl) (O := o0.map .int)
    have fin := go (sq lw15 (sq (lw16 (fn__law_told 40)) (sq (lw17 fn__law_is_integer fn__law_distance) (sq (lw18 fn__law_distance) (Pv.ret .nx))))) [] _ (sq_rt q15)
    exact runF_ok ((sq_nx q1).trans ((sq_nx q2).trans ((sq_nx q3).trans ((sq_nx q4).trans ((sq_nx q5).trans ((sq_nx q6).trans ((sq_nx q7).trans ((sq_nx q8).trans fin)))))))) rfl (by decide)
end K22
set_option Elab.async false
set_option linter.all false
set_option maxRecDepth 100000
set_option maxHeartbeats 0
open PySem PySem.W PySem.Calls PyProof.Rows
theorem PySem.Challenge.cw_unpartedrows_k22_whole_nearest_orders_holds : PySem.Challenge.rw_unpartedrows_k22_whole_nearest_orders.Holds := by
  w_on; o_law
  refine HandSHeadRun.head_imp (r := OpenLaw.row PySem.Challenge.rw_unpartedrows_k22_whole_nearest_orders) (q := K22.qv) (H := K22.hk) (ob := K22.ob) (M := 30000) (loose := K22.looseL) (d := HandSHeadRun.topDef (OpenLaw.row PySem.Challenge.rw_unpartedrows_k22_whole_nearest_orders).prog 45) (kwd := []) K22.ob_eq
    K22.run (by kernel_rfl) (by kernel_rfl) (by kernel_rfl) (by rfl) (by first | assumption | decide +kernel) (by decide +kernel) ⟨rfl, rfl, rfl, rfl, rfl, by decide +kernel⟩ ?hw ?hc
  case hw => w_witness2
  case hc =>
    refine Pv.walk_law (l := PySem.Challenge.rw_unpartedrows_k22_whole_nearest_orders) (n := 63) (k := 82) (x := "script") rfl (by decide) (by kernel_rfl) ⟨rfl, by decide, by decide⟩ ?F (fun w H s e s' ⟨_, _, _, _, _, _, _, _, _, _, _, _, h⟩ => h)
    intro w mg fa h Y G hmg0
    obtain ⟨K, KX, c⟩ := Y
    have hmg : mg ("law" : PySem.Str) = some (.ref fa) := by
      have e : (HandSHeadRun.topDef (OpenLaw.row PySem.Challenge.rw_unpartedrows_k22_whole_nearest_orders).prog 45).name = ("law" : PySem.Str) := by kernel_rfl
      rw [← e]
      exact hmg0
    obtain ⟨fd, hb, hF⟩ := K22.facts (P := (PySem.Challenge.rw_unpartedrows_k22_whole_nearest_orders).prog) (w := w) KX G hmg c
    exact ⟨K, fd, K22.fn_law, Pv.cmK K, KX, hb, K22.law_true, fun base _ _ => hF base⟩
