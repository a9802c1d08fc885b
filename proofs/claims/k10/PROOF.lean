import PyProof.Rows.All
import Wide.All
import OpenK.AllK
import Wide.FinOn
import HandS.ForMost
import HandS.ForExc
import HandS.Evl
import HandS.Walk
import HandS.IsInst
import HandS.Flow
import HandS.ExcCtx
import HandS.TupSets
import HandS.Strs
import HandS.SetFor
import KE.GoesNew
import KE.GoesMore
import KE.GoesZip
import HandS.Iter
import KE.GoesEnum
import KE.KDictZip
import HandS.Zip0
import HandS.SortRule
import HandS.Style
import HandS.TupAny
import HandS.DictComp
import HandS.DictTup
import PyProof.Rows.TupDisplay
import PyProof.DictMoreH
import HandS.List
import KE.DataMinMax
import HandS.Codes
import HandS.Conv
import HandS.Dict
import HandS.Defaults
import HandS.Head0
import HandS.Head1
import HandS.Head2
import HandS.HeadEnd
import HandS.HeadHook1
import HandS.HeadHook2
import PySem.Challenge.RW_surehouse_k10_whole_bills
set_option Elab.async false
set_option linter.all false
set_option maxRecDepth 100000
set_option maxHeartbeats 4000000
/-! Data that stands still in the heap, and what evaluates to which data. -/
namespace Sh
open PySem PySem.Spec L2
open Evl (Ex)

abbrev D := PyData
theorem rdR {G H : Hp} {a : Addr} {u : HO} (e : Ex G H) (h : Rd G a u) : Rd H a u := h.elim (fun q => .inl (e _ _ q)) fun ⟨o, q⟩ => .inr ⟨o, e _ _ q⟩
theorem rdx {G H : Hp} {a : Addr} {u : HO} (e : Ex G H) (h : G a = some u) : Rd H a u := .inl (e _ _ h)
mutual
/-- at v stands the data d, all of it tracked in G -/
inductive Dn (G : Hp) : V → D → Prop
  | non : Dn G .non .none
  | bl (b : Bool) : Dn G (.bl b) (.bool b)
  | int (i : Int) : Dn G (.int i) (.int i)
  | str (x : Str) : Dn G (.str x) (.str x)
  | lst {a : Addr} {xs : List V} {ds : List D} : G a = some (.lst xs) → DnL G xs ds → Dn G (.ref a) (.list ds)
  | tup {a : Addr} {xs : List V} {ds : List D} : G a = some (.tup xs) → DnL G xs ds → Dn G (.ref a) (.tuple ds)
  | dct {a : Addr} {kvs : List (Key × V)} {ps : List (D × D)} : G a = some (.dK kvs) → DnK G kvs ps → Dn G (.ref a) (.dict ps)
inductive DnL (G : Hp) : List V → List D → Prop
  | nil : DnL G [] []
  | cons {v : V} {vs : List V} {d : D} {ds : List D} : Dn G v d → DnL G vs ds → DnL G (v :: vs) (d :: ds)
inductive DnK (G : Hp) : List (Key × V) → List (D × D) → Prop
  | nil : DnK G [] []
  | cons {x : Str} {v : V} {kvs : List (Key × V)} {d : D} {ps : List (D × D)} : Dn G v d → DnK G kvs ps → DnK G ((.inr x, v) :: kvs) ((.str x, d) :: ps)
end

section
variable {G G' : Hp}
mutual
theorem Dn.mono (e : Ex G G') : ∀ (d : D) {v : V}, Dn G v d → Dn G' v d
  | .none, _, h => by cases h; exact .non
  | .bool b, _, h => by cases h; exact .bl b
  | .int i, _, h => by cases h; exact .int i
  | .str x, _, h => by cases h; exact .str x
  | .list ds, _, h => by
    cases h with
    | lst h1 h2 => exact .lst (e _ _ h1) (DnL.mono e ds h2)
  | .tuple ds, _, h => by
    cases h with
    | tup h1 h2 => exact .tup (e _ _ h1) (DnL.mono e ds h2)
  | .dict ps, _, h => by
    cases h with
    | dct h1 h2 => exact .dct (e _ _ h1) (DnK.mono e ps h2)
theorem DnL.mono (e : Ex G G') : ∀ (ds : List D) {vs : List V}, DnL G vs ds → DnL G' vs ds
  | [], _, h => by cases h; exact .nil
  | d :: ds, _, h => by
    cases h with
    | cons h1 h2 => exact .cons (Dn.mono e d h1) (DnL.mono e ds h2)
theorem DnK.mono (e : Ex G G') : ∀ (ps : List (D × D)) {kvs : List (Key × V)}, DnK G kvs ps → DnK G' kvs ps
  | [], _, h => by cases h; exact .nil
  | (a, d) :: ps, _, h => by
    cases h with
    | cons h1 h2 => exact .cons (Dn.mono e d h1) (DnK.mono e ps h2)
end
mutual
def flatD : D → Bool
  | .dict _ => false
  | .list ds => flatDs ds
  | .tuple ds => flatDs ds
  | _ => true
def flatDs : List D → Bool
  | [] => true
  | d :: ds => flatD d && flatDs ds
end
mutual
theorem Dn.dp {K : PySem.W.Frag} : ∀ (d : D) {v : V}, flatD d = true → Dn G v d → Dp K G v d
  | .none, _, _, h => by cases h; exact .non
  | .bool b, _, _, h => by cases h; exact .bl b
  | .int i, _, _, h => by cases h; exact .int i
  | .str x, _, _, h => by cases h; exact .str x
  | .list ds, _, f, h => by
    cases h with
    | lst h1 h2 => exact .lst (.inl (.inl h1)) (DnL.dp ds (by unfold flatD at f; exact f) h2)
  | .tuple ds, _, f, h => by
    cases h with
    | tup h1 h2 => exact .tup (.inl (.inl h1)) (DnL.dp ds (by unfold flatD at f; exact f) h2)
  | .dict ps, _, f, h => by
    unfold flatD at f
    cases f
theorem DnL.dp {K : PySem.W.Frag} : ∀ (ds : List D) {vs : List V}, flatDs ds = true → DnL G vs ds → DpAll K G vs ds
  | [], _, _, h => by cases h; exact .nil
  | d :: ds, _, f, h => by
    unfold flatDs at f
    rw [Bool.and_eq_true] at f
    cases h with
    | cons h1 h2 => exact .cons (Dn.dp d f.1 h1) (DnL.dp ds f.2 h2)
end
theorem DnL.length : ∀ {vs : List V} {ds : List D}, DnL G vs ds → vs.length = ds.length
  | [], [], _ => rfl
  | _ :: _, _ :: _, h => by
    cases h with
    | cons _ h2 => exact congrArg Nat.succ (DnL.length h2)
theorem DnL.at : ∀ {vs : List V} {ds : List D} {i : Nat} {d : D}, DnL G vs ds → ds[i]? = some d → ∃ v, vs[i]? = some v ∧ Dn G v d
  | _, [], i, d, _, e => by simp at e
  | _, d' :: ds, 0, d, h, e => by
    cases h with
    | cons h1 _ =>
      have e' : d' = d := by simpa using e
      subst e'
      exact ⟨_, rfl, h1⟩
  | _, d' :: ds, i + 1, d, h, e => by
    cases h with
    | cons _ h2 =>
      obtain ⟨v, e1, e2⟩ := DnL.at h2 (i := i) (d := d) (by simpa using e)
      exact ⟨v, by simpa using e1, e2⟩
theorem DnL.att : ∀ {vs : List V} {ds : List D} {i : Nat} {v : V}, DnL G vs ds → vs[i]? = some v → ∃ d, ds[i]? = some d ∧ Dn G v d
  | [], _, i, v, _, e => by simp at e
  | v' :: vs, _, 0, v, h, e => by
    cases h with
    | cons h1 _ =>
      have e' : v' = v := by simpa using e
      subst e'
      exact ⟨_, rfl, h1⟩
  | v' :: vs, _, i + 1, v, h, e => by
    cases h with
    | cons _ h2 =>
      obtain ⟨d, e1, e2⟩ := DnL.att h2 (i := i) (v := v) (by simpa using e)
      exact ⟨d, by simpa using e1, e2⟩
theorem DnL.app {vs us : List V} {ds es : List D} (h : DnL G vs ds) (k : DnL G us es) : DnL G (vs ++ us) (ds ++ es) := by
  induction ds generalizing vs with
  | nil => cases h; exact k
  | cons d ds ih =>
    cases h with
    | cons h1 h2 => exact .cons h1 (ih h2)
theorem DnL.snoc {vs : List V} {ds : List D} {v : V} {d : D} (h : DnL G vs ds) (k : Dn G v d) : DnL G (vs ++ [v]) (ds ++ [d]) := h.app (.cons k .nil)
end

/-! ### growth: G what stands still, H the whole heap -/
@[reducible] def stiff : Option HO → Option HO
  | some (.tup _) => none
  | some (.frz _ (.tup _)) => none
  | o => o
theorem stf {H : Hp} {a : Addr} (h : H a = none) : stiff (H a) = none := by rw [h]
theorem stiff_up {H H2 : Hp} {a : Addr} (h : ∀ o, H a = some o → H2 a = some o) (k : stiff (H a) ≠ none) : stiff (H2 a) ≠ none := by
  cases q : H a with
  | none => exact absurd (stf q) k
  | some o =>
    rw [h o q, ← q]
    exact k
structure Gr (G H G2 H2 : Hp) : Prop where
  g : Ex G G2
  s : Ex G2 H2
  h : Ex H H2
  f : ∀ a, G a = none → stiff (H a) ≠ none → G2 a = none
section
variable {G H G2 H2 G3 H3 : Hp}
theorem Gr.refl (e : Ex G H) : Gr G H G H := ⟨Ex.refl _, e, Ex.refl _, fun _ h _ => h⟩
theorem Gr.trans (a : Gr G H G2 H2) (b : Gr G2 H2 G3 H3) : Gr G H G3 H3 :=
  ⟨a.g.trans b.g, b.s, a.h.trans b.h, fun x h1 h2 => b.f x (a.f x h1 h2) (stiff_up (a.h x) h2)⟩
theorem Ex.upd2 {p : Addr} {o : HO} (e : Ex G H) : Ex (upd G p o) (upd H p o) := fun a u q => by
  by_cases h : a = p
  · subst h
    rw [upd_same] at q ⊢
    exact q
  · rw [upd_ne h] at q ⊢
    exact e a u q
theorem Gr.new {p : Addr} {o : HO} (e : Ex G H) (hp : H p = none) : Gr G H (upd G p o) (upd H p o) :=
  ⟨Ex.new (Evl.fresh_back e hp), Ex.upd2 e, Ex.new hp, fun a h1 h2 => by
    have hne : a ≠ p := fun z => h2 (by rw [z]; exact stf hp)
    rw [upd_ne hne]
    exact h1⟩
/-- a new object that may change: not of what stands still -/
theorem Gr.loose {p : Addr} {o : HO} (e : Ex G H) (hp : H p = none) : Gr G H G (upd H p o) := ⟨Ex.refl _, e.trans (Ex.new hp), Ex.new hp, fun _ h _ => h⟩
theorem Gr.old (a : Gr G H G2 H2) {p : Addr} (h : H2 p = none) : H p = none := Evl.fresh_back a.h h
end

/-! ### what evaluates to which data -/
def EvD (te : TE) (σ : St) (G : Hp) (d : D) : Prop := ∀ H, Ex G H → ∀ Q : VK, (∀ v G2 H2, Gr G H G2 H2 → Dn G2 v d → Q v H2) → te σ H Q
def EvT (tt : TT) (σ : St) (G : Hp) (b : Bool) : Prop := ∀ H, Ex G H → ∀ Q : Bool → Hp → Prop, (∀ G2 H2, Gr G H G2 H2 → Q b H2) → tt σ H Q
def EvA (ta : TA) (σ : St) (G : Hp) (ds : List D) : Prop := ∀ H, Ex G H → ∀ Q : List V → Hp → Prop, (∀ vs G2 H2, Gr G H G2 H2 → DnL G2 vs ds → Q vs H2) → ta σ H Q
section
variable {K : PySem.W.Frag} {σ : St} {G G' : Hp} {ta tb te tc : TE} {t u : TT} {d e : D} {ar : TA}
/-- what stands still may be more -/
theorem grow_up {H G2 H2 : Hp} (e : Ex G G') (h : Ex G' H) (g : Gr G H G2 H2) : ∃ G3, Ex G2 G3 ∧ Gr G' H G3 H2 := by
  refine ⟨fun a => match G2 a with | some o => some o | none => G' a, fun a o q => ?_, ⟨fun a o q => ?_, fun a o q => ?_, g.h, fun a h1 h2 => ?_⟩⟩
  · show (match G2 a with | some o => some o | none => G' a) = some o
    rw [q]
  · show (match G2 a with | some o => some o | none => G' a) = some o
    cases r : G2 a with
    | none => exact q
    | some u =>
      have r1 := g.s a u r
      have r2 := g.h a o (h a o q)
      rw [r1] at r2
      exact r2
  · have q' : (match G2 a with | some o => some o | none => G' a) = some o := q
    cases r : G2 a with
    | none =>
      rw [r] at q'
      exact g.h a o (h a o q')
    | some uu =>
      rw [r] at q'
      cases q'
      exact g.s a o r
  · show (match G2 a with | some o => some o | none => G' a) = none
    have r : G a = none := Evl.fresh_back e h1
    rw [g.f a r h2]
    exact h1
theorem EvD.mono (e : Ex G G') (h : EvD te σ G d) : EvD te σ G' d := fun H x Q q => h H (e.trans x) Q fun v G2 H2 g k => by
  obtain ⟨G3, a, b⟩ := grow_up e x g
  exact q v G3 H2 b (Dn.mono a d k)
theorem EvT.mono {b : Bool} (e : Ex G G') (h : EvT t σ G b) : EvT t σ G' b := fun H x Q q => h H (e.trans x) Q fun G2 H2 g => by
  obtain ⟨G3, a, b⟩ := grow_up e x g
  exact q G3 H2 b
theorem EvA.mono {ds : List D} (e : Ex G G') (h : EvA ar σ G ds) : EvA ar σ G' ds := fun H x Q q => h H (e.trans x) Q fun v G2 H2 g k => by
  obtain ⟨G3, a, b⟩ := grow_up e x g
  exact q v G3 H2 b (DnL.mono a ds k)

/-- the i-th slot holds d -/
def Sl (σ : St) (G : Hp) (i : Nat) (d : D) : Prop := ∃ v, σ[i]? = some (some v) ∧ Dn G v d
theorem Sl.mono {i : Nat} (e : Ex G G') (h : Sl σ G i d) : Sl σ G' i d := let ⟨v, a, b⟩ := h; ⟨v, a, Dn.mono e d b⟩
theorem evd_var {i : Nat} (h : Sl σ G i d) : EvD (tVar i) σ G d := fun H e Q q => let ⟨v, a, b⟩ := h; ⟨v, a, q v G H (Gr.refl e) b⟩
theorem evd_c {v : V} (h : Dn G v d) : EvD (tC v) σ G d := fun H e Q q => q v G H (Gr.refl e) h
theorem evd_int {i : Int} : EvD (tC (.int i)) σ G (.int i) := evd_c (.int i)
theorem evd_str {x : Str} : EvD (tC (.str x)) σ G (.str x) := evd_c (.str x)
theorem evd_bl {b : Bool} : EvD (tC (.bl b)) σ G (.bool b) := evd_c (.bl b)
theorem evd_non : EvD (tC .non) σ G .none := evd_c .non
theorem evd_is {d' : D} (h : EvD te σ G d) (e : d = d') : EvD te σ G d' := e ▸ h
theorem evt_is {b b' : Bool} (h : EvT t σ G b) (e : b = b') : EvT t σ G b' := e ▸ h
theorem ea_nil : EvA tNil σ G [] := fun H e Q q => q [] G H (Gr.refl e) .nil
theorem ea_cons {ds : List D} (h : EvD te σ G d) (k : EvA ar σ G ds) : EvA (tCons te ar) σ G (d :: ds) := fun H e Q q =>
  h H e _ fun v G2 H2 g1 n1 => (k.mono g1.g) H2 g1.s _ fun vs G3 H3 g2 n2 => q _ G3 H3 (g1.trans g2) (.cons (Dn.mono g2.g _ n1) n2)
theorem evd_tup {ds : List D} (h : EvA ar σ G ds) (hl : ds.length ≤ 100000) : EvD (tTup ar) σ G (.tuple ds) := fun H e Q q =>
  h H e _ fun vs G2 H2 g n => ⟨Evl.sz_of (by rw [n.length]; exact hl), fun p hp => q _ (upd G2 p (.tup vs)) _ (g.trans (Gr.new g.s hp)) (.tup upd_same (DnL.mono (Ex.new (Evl.fresh_back g.s hp)) ds n))⟩
theorem evd_lst {ds : List D} (h : EvA ar σ G ds) (hl : ds.length ≤ 100000) : EvD (tLst ar) σ G (.list ds) := fun H e Q q =>
  h H e _ fun vs G2 H2 g n => ⟨Evl.sz_of (by rw [n.length]; exact hl), fun p hp => q _ (upd G2 p (.lst vs)) _ (g.trans (Gr.new g.s hp)) (.lst upd_same (DnL.mono (Ex.new (Evl.fresh_back g.s hp)) ds n))⟩

/-! operators -/
/-- r of data: on values that bear d and e it gives a value that bears c -/
def R2D (r : R2) (d e c : D) (G : Hp) : Prop := ∀ G1 H x y, Ex G G1 → Ex G1 H → Dn G1 x d → Dn G1 y e → ∀ Q : VK, (∀ v G2 H2, Gr G1 H G2 H2 → Dn G2 v c → Q v H2) → r x y H Q
theorem evd_op {r : R2} {c : D} (h : EvD ta σ G d) (k : EvD tb σ G e) (hr : R2D r d e c G) : EvD (tOp r ta tb) σ G c := fun H x Q q =>
  h H x _ fun v G2 H2 g1 n1 => (k.mono g1.g) H2 g1.s _ fun w G3 H3 g2 n2 => hr G3 H3 v w (g1.g.trans g2.g) g2.s (Dn.mono g2.g _ n1) n2 Q fun z G4 H4 g3 n3 => q z G4 H4 ((g1.trans g2).trans g3) n3
theorem r_I0 {g : Int → Int → V} {i j : Int} {c : D} (hc : ∀ G, Dn G (g i j) c) : R2D (rI0 g) (.int i) (.int j) c G := fun G1 H x y _ e hx hy Q q => by
  cases hx
  cases hy
  exact ⟨i, j, rfl, rfl, q _ G1 H (Gr.refl e) (hc G1)⟩
theorem r_I {C : Int → Int → Prop} {g : Int → Int → V} {i j : Int} {c : D} (h : C i j) (hc : ∀ G, Dn G (g i j) c) : R2D (rI C g) (.int i) (.int j) c G := fun G1 H x y _ e hx hy Q q => by
  cases hx
  cases hy
  exact ⟨i, j, rfl, rfl, h, q _ G1 H (Gr.refl e) (hc G1)⟩
/-- == of two scalars -/
def scalD : D → D → Option Bool
  | .none, .none => some true
  | .int i, .int j => some (decide (i = j))
  | .str x, .str y => some (decide (x = y))
  | .bool x, .bool y => some (decide (x = y))
  | _, _ => none
theorem r_eq {b : Bool} (h : scalD d e = some b) : R2D rEq d e (.bool b) G := fun G1 H x y _ ex hx hy Q q => by
  have key : scal x y = true ∧ decide (x = y) = b := by
    cases hx <;> cases hy <;> first | cases h | skip
    · exact ⟨rfl, rfl⟩
    · rename_i p p'
      refine ⟨rfl, ?_⟩
      cases p <;> cases p' <;> rfl
    · rename_i p p'
      refine ⟨rfl, ?_⟩
      by_cases z : p = p'
      · subst z; simp
      · simp [z]
    · rename_i p p'
      refine ⟨rfl, ?_⟩
      by_cases z : p = p'
      · subst z; simp
      · simp [z]
  refine ⟨key.1, ?_⟩
  rw [key.2]
  exact q _ G1 H (Gr.refl ex) (.bl b)
theorem r_ne {b : Bool} (h : scalD d e = some b) : R2D rNe d e (.bool (!b)) G := fun G1 H x y _ ex hx hy Q q => by
  have key : scal x y = true ∧ decide (x = y) = b := by
    cases hx <;> cases hy <;> first | cases h | skip
    · exact ⟨rfl, rfl⟩
    · rename_i p p'
      refine ⟨rfl, ?_⟩
      cases p <;> cases p' <;> rfl
    · rename_i p p'
      refine ⟨rfl, ?_⟩
      by_cases z : p = p'
      · subst z; simp
      · simp [z]
    · rename_i p p'
      refine ⟨rfl, ?_⟩
      by_cases z : p = p'
      · subst z; simp
      · simp [z]
  refine ⟨key.1, ?_⟩
  rw [key.2]
  exact q _ G1 H (Gr.refl ex) (.bl (!b))
/-- a chain of two comparisons -/
theorem evd_chain {r r' : R2} {c : D} {b b' : Bool} (h : EvD ta σ G d) (k : EvD tb σ G e) (l : EvD tc σ G c) (hr : R2D r d e (.bool b) G) (hr' : b = true → R2D r' e c (.bool b') G) : EvD (tChain r r' ta tb tc) σ G (.bool (b && b')) := fun H x Q q =>
  h H x _ fun v G2 H2 g1 n1 => (k.mono g1.g) H2 g1.s _ fun w G3 H3 g2 n2 => hr G3 H3 v w (g1.g.trans g2.g) g2.s (Dn.mono g2.g _ n1) n2 _ fun z G4 H4 g3 n3 => by
    cases n3
    refine ⟨b, rfl, ?_⟩
    cases b with
    | true =>
      show tc σ H4 fun w' H5 => r' w w' H5 Q
      exact (l.mono ((g1.g.trans g2.g).trans g3.g)) H4 g3.s _ fun w' G5 H5 g4 n4 => hr' rfl G5 H5 w w' (((g1.g.trans g2.g).trans g3.g).trans g4.g) g4.s (Dn.mono (g3.g.trans g4.g) _ n2) n4 Q fun z G6 H6 g5 n5 => q z G6 H6 ((((g1.trans g2).trans g3).trans g4).trans g5) n5
    | false =>
      show Q (.bl false) H4
      exact q _ G4 H4 ((g1.trans g2).trans g3) (.bl false)

/-! tests -/
theorem evt_test {b : Bool} (h : EvD te σ G (.bool b)) : EvT (tTest te) σ G b := fun H e Q q => h H e _ fun v G2 H2 g n => by
  cases n
  exact ⟨b, rfl, q G2 H2 g⟩
theorem evt_B {b : Bool} (h : EvD te σ G (.bool b)) : EvT (tB te) σ G b := fun H e Q q => h H e _ fun v G2 H2 g n => by
  cases n
  exact ⟨b, rfl, q G2 H2 g⟩
theorem evt_not {b : Bool} (h : EvT t σ G b) : EvT (tNot t) σ G (!b) := fun H e Q q => h H e _ q
theorem evt_and {a b : Bool} (h : EvT t σ G a) (k : a = true → EvT u σ G b) : EvT (tAnd t u) σ G (a && b) := fun H e Q q => h H e _ fun G2 H2 g => by
  cases a with
  | true =>
    show u σ H2 Q
    exact ((k rfl).mono g.g) H2 g.s Q fun G3 H3 g2 => q G3 H3 (g.trans g2)
  | false => exact q G2 H2 g
theorem evt_or {a b : Bool} (h : EvT t σ G a) (k : a = false → EvT u σ G b) : EvT (tOr t u) σ G (a || b) := fun H e Q q => h H e _ fun G2 H2 g => by
  cases a with
  | true => exact q G2 H2 g
  | false =>
    show u σ H2 Q
    exact ((k rfl).mono g.g) H2 g.s Q fun G3 H3 g2 => q G3 H3 (g.trans g2)
theorem evd_and {a b : Bool} (h : EvD ta σ G (.bool a)) (k : a = true → EvD tb σ G (.bool b)) : EvD (tAndV ta tb) σ G (.bool (a && b)) := fun H e Q q => h H e _ fun v G2 H2 g n => by
  cases n
  refine ⟨a, rfl, ?_⟩
  cases a with
  | true =>
    show tb σ H2 Q
    exact ((k rfl).mono g.g) H2 g.s Q fun v G3 H3 g2 n2 => q v G3 H3 (g.trans g2) n2
  | false => exact q _ G2 H2 g (.bl false)
theorem evd_or {a b : Bool} (h : EvD ta σ G (.bool a)) (k : a = false → EvD tb σ G (.bool b)) : EvD (tOrV ta tb) σ G (.bool (a || b)) := fun H e Q q => h H e _ fun v G2 H2 g n => by
  cases n
  refine ⟨a, rfl, ?_⟩
  cases a with
  | true => exact q _ G2 H2 g (.bl true)
  | false =>
    show tb σ H2 Q
    exact ((k rfl).mono g.g) H2 g.s Q fun v G3 H3 g2 n2 => q v G3 H3 (g.trans g2) n2
theorem evd_not {a : Bool} (h : EvD ta σ G (.bool a)) : EvD (tNotV ta) σ G (.bool (!a)) := fun H e Q q => h H e _ fun v G2 H2 g n => by
  cases n
  exact ⟨a, rfl, q _ G2 H2 g (.bl _)⟩
theorem evd_if {b : Bool} (h : EvT t σ G b) (k1 : b = true → EvD ta σ G d) (k2 : b = false → EvD tb σ G d) : EvD (tIf t ta tb) σ G d := fun H e Q q => h H e _ fun G2 H2 g => by
  cases b with
  | true =>
    show ta σ H2 Q
    exact ((k1 rfl).mono g.g) H2 g.s Q fun v G3 H3 g2 n2 => q v G3 H3 (g.trans g2) n2
  | false =>
    show tb σ H2 Q
    exact ((k2 rfl).mono g.g) H2 g.s Q fun v G3 H3 g2 n2 => q v G3 H3 (g.trans g2) n2

/-! calls of built-ins, by data -/
def RCD (r : List V → Hp → VK → Prop) (ds : List D) (c : D) (G : Hp) : Prop := ∀ G1 H vs, Ex G G1 → Ex G1 H → DnL G1 vs ds → ∀ Q : VK, (∀ v G2 H2, Gr G1 H G2 H2 → Dn G2 v c → Q v H2) → r vs H Q
theorem evd_cb {r : List V → Hp → VK → Prop} {ds : List D} {c : D} (h : EvA ar σ G ds) (hr : RCD r ds c G) : EvD (tCB r ar) σ G c := fun H e Q q =>
  h H e _ fun vs G2 H2 g n => hr G2 H2 vs g.g g.s n Q fun v G3 H3 g2 n2 => q v G3 H3 (g.trans g2) n2
theorem one_of {G : Hp} {vs : List V} {d : D} (h : DnL G vs [d]) : ∃ v, vs = [v] ∧ Dn G v d := by
  cases h with
  | cons h1 h2 =>
    cases h2
    exact ⟨_, rfl, h1⟩
theorem two_of {G : Hp} {vs : List V} {d e : D} (h : DnL G vs [d, e]) : ∃ v w, vs = [v, w] ∧ Dn G v d ∧ Dn G w e := by
  cases h with
  | cons h1 h2 =>
    obtain ⟨w, rfl, h3⟩ := one_of h2
    exact ⟨_, _, rfl, h1, h3⟩
end
end Sh

set_option Elab.async false
set_option linter.all false
set_option maxRecDepth 100000
set_option maxHeartbeats 4000000
namespace Sh
open PySem PySem.Spec L2
open Evl (Ex)

def strL (xs : List Str) : List D := xs.map .str
def intL (xs : List Int) : List D := xs.map .int
def boolL (xs : List Bool) : List D := xs.map .bool
theorem dn_strs {G : Hp} : ∀ {xs : List Str} {vs : List V}, DnL G vs (strL xs) → vs = xs.map V.str
  | [], _, h => by cases h; rfl
  | x :: xs, _, h => by
    cases h with
    | cons h1 h2 =>
      cases h1
      rw [dn_strs h2]
      rfl
theorem dn_ints {G : Hp} : ∀ {xs : List Int} {vs : List V}, DnL G vs (intL xs) → vs = xs.map V.int
  | [], _, h => by cases h; rfl
  | x :: xs, _, h => by
    cases h with
    | cons h1 h2 =>
      cases h1
      rw [dn_ints h2]
      rfl
theorem dn_bools {G : Hp} : ∀ {xs : List Bool} {vs : List V}, DnL G vs (boolL xs) → vs = xs.map V.bl
  | [], _, h => by cases h; rfl
  | x :: xs, _, h => by
    cases h with
    | cons h1 h2 =>
      cases h1
      rw [dn_bools h2]
      rfl
theorem strs_dn {G : Hp} : ∀ (xs : List Str), DnL G (xs.map V.str) (strL xs)
  | [] => .nil
  | x :: xs => .cons (.str x) (strs_dn xs)
theorem ints_dn {G : Hp} : ∀ (xs : List Int), DnL G (xs.map V.int) (intL xs)
  | [] => .nil
  | x :: xs => .cons (.int x) (ints_dn xs)
theorem all_flat (xs : List Str) : (xs.map V.str).all flatV = true := by
  induction xs with
  | nil => rfl
  | cons x xs ih => rw [List.map_cons, List.all_cons, ih] <;> rfl
theorem inV_str (x : Str) (xs : List Str) : inV (.str x) (xs.map V.str) = decide (x ∈ xs) := by
  unfold inV
  induction xs with
  | nil => simp
  | cons y ys ih =>
    rw [List.map_cons, List.any_cons, ih]
    show (y == x || decide (x ∈ ys)) = decide (x ∈ y :: ys)
    by_cases h : y = x
    · subst h
      simp
    · have h2 : ¬ x = y := fun e => h e.symm
      simp [h, h2]
/-! names for what the layer writes out -/
abbrev rLenD (K : PySem.W.Frag) : List V → Hp → VK → Prop := fun xs H Q => ∃ x n, xs = [x] ∧ LenV K x H n ∧ Q (.int n) H
abbrev rListD (K : PySem.W.Frag) : List V → Hp → VK → Prop := fun xs H Q => ∃ p ys, xs = [.ref p] ∧ (SqL K H p ys ∨ SqT K H p ys) ∧ ∀ l, H l = none → Q (.ref l) (upd H l (.lst ys))
abbrev rTupD (K : PySem.W.Frag) : List V → Hp → VK → Prop := fun xs H Q => ∃ p ys, xs = [.ref p] ∧ ((SqL K H p ys ∧ ∀ l, H l = none → Q (.ref l) (upd H l (.tup ys))) ∨ (SqT K H p ys ∧ Q (.ref p) H))
section
variable {K : PySem.W.Frag} {σ : L2.St} {G : Hp} {ta tb te tc : TE} {t : TT} {d e : D} {ar : TA}

/-! in, not in -/
theorem r_inT {x : Str} {xs : List Str} {neg : Bool} {b : Bool} (hb : (if neg then !decide (x ∈ xs) else decide (x ∈ xs)) = b) : R2D (rIn K neg) (.str x) (.tuple (strL xs)) (.bool b) G := fun G1 H u v _ ex hx hy Q q => by
  cases hx
  cases hy with
  | tup h1 h2 =>
    have e1 := dn_strs h2
    subst e1
    refine ⟨_, _, rfl, .inr (.inl (rdx ex h1)), rfl, all_flat xs, ?_⟩
    rw [inV_str, hb]
    exact q _ G1 H (Gr.refl ex) (.bl b)
theorem r_inL {x : Str} {xs : List Str} {neg : Bool} {b : Bool} (hb : (if neg then !decide (x ∈ xs) else decide (x ∈ xs)) = b) : R2D (rIn K neg) (.str x) (.list (strL xs)) (.bool b) G := fun G1 H u v _ ex hx hy Q q => by
  cases hx
  cases hy with
  | lst h1 h2 =>
    have e1 := dn_strs h2
    subst e1
    refine ⟨_, _, rfl, .inl (.inl (.inl (ex _ _ h1))), rfl, all_flat xs, ?_⟩
    rw [inV_str, hb]
    exact q _ G1 H (Gr.refl ex) (.bl b)
/-- one sign in a text -/
theorem r_sign {c : Nat} {z : Str} : R2D (fun x y H Q => ∃ (c : Nat) (z : Str), x = .str ⟨#[c]⟩ ∧ y = .str z ∧ Q (.bl (decide (c ∈ z.cps.toList))) H) (.str ⟨#[c]⟩) (.str z) (.bool (decide (c ∈ z.cps.toList))) G := fun G1 H u v _ ex hx hy Q q => by
  cases hx
  cases hy
  exact ⟨c, z, rfl, rfl, q _ G1 H (Gr.refl ex) (.bl _)⟩

/-! isinstance -/
def tyD : D → String
  | .none => "NoneType"
  | .bool _ => "bool"
  | .int _ => "int"
  | .str _ => "str"
  | .list _ => "list"
  | .tuple _ => "tuple"
  | .dict _ => "dict"
theorem tyX_of {G1 H : Hp} {v : V} (ex : Ex G1 H) (n : Dn G1 v d) : TyX K H v (.type (tyD d)) := by
  cases n with
  | non => exact .base .non
  | bl b => exact .base (.bl b)
  | int i => exact .base (.int i)
  | str x => exact .base (.str x)
  | lst h _ => exact .base (.lst (ex _ _ h))
  | tup h _ =>
    rcases rdx ex h with h | ⟨o, h⟩
    · exact .base (.tup h)
    · exact .fTuple h
  | dct h _ => exact .base (.dK (ex _ _ h))
theorem evd_isi {T : String} {b : Bool} (h : EvD te σ G d) (hb : kitB (tyD d) T = some b) : EvD (tCB (rIsi K) (tCons te (tCons (tC (.ty T)) tNil))) σ G (.bool b) := fun H x Q q =>
  h H x _ fun v G2 H2 g n => ⟨v, _, _, _, b, rfl, .ty T, tyX_of g.s n, kit_ty hb, q _ G2 H2 g (.bl b)⟩
/-- isinstance(x, (S, T)) -/
theorem evd_isi2 {S T : String} {a b : Bool} (h : EvD te σ G d) (ha : kitB (tyD d) S = some a) (hb : kitB (tyD d) T = some b) :
    EvD (tCB (rIsiT K) (tCons te (tCons (tTup (tCons (tC (.ty S)) (tCons (tC (.ty T)) tNil))) tNil))) σ G (.bool (a || b)) := fun H x Q q =>
  h H x _ fun v G2 H2 g n => ⟨by show 2 ≤ sizeLine; decide, fun p hp => by
    have ex2 : Ex G2 (upd H2 p (.tup [.ty S, .ty T])) := g.s.trans (Ex.new hp)
    refine ⟨v, p, [.ty S, .ty T], _, [.type S, .type T], a || b, rfl, upd_same, .cons (.ty S) (.cons (.ty T) .nil), tyX_of ex2 n, ?_, ?_⟩
    · refine kitAny_cons (b := a) (kit_ty ha) (fun e => ?_) (fun e => by rw [e]; rfl)
      refine kitAny_cons (b := b) (kit_ty hb) (fun e2 => ?_) (fun e2 => by rw [e2, Bool.or_true])
      rw [e, e2]
      exact kitAny_nil
    · exact q _ G2 _ (g.trans (Gr.loose g.s hp)) (.bl _)⟩

/-! len, all, any, sum, list, tuple -/
theorem r_lenT {ds : List D} {n : Int} (hn : (ds.length : Int) = n) : RCD (fun xs H Q => ∃ x n, xs = [x] ∧ LenV K x H n ∧ Q (.int n) H) [.tuple ds] (.int n) G := fun G1 H vs _ ex h Q q => by
  obtain ⟨v, rfl, n⟩ := one_of h
  cases n with
  | tup h1 h2 =>
    refine ⟨_, _, rfl, .inr ⟨_, .inl (rdx ex h1), rfl⟩, ?_⟩
    rw [h2.length, hn]
    exact q _ G1 H (Gr.refl ex) (.int _)
theorem r_lenL {ds : List D} {n : Int} (hn : (ds.length : Int) = n) : RCD (fun xs H Q => ∃ x n, xs = [x] ∧ LenV K x H n ∧ Q (.int n) H) [.list ds] (.int n) G := fun G1 H vs _ ex h Q q => by
  obtain ⟨v, rfl, n⟩ := one_of h
  cases n with
  | lst h1 h2 =>
    refine ⟨_, _, rfl, .inl ⟨_, .inl (.inl (ex _ _ h1)), rfl⟩, ?_⟩
    rw [h2.length, hn]
    exact q _ G1 H (Gr.refl ex) (.int _)
theorem r_lenS {x : Str} (hz : x.length ≤ 100000) {n : Int} (hn : (x.length : Int) = n) : RCD (fun xs H Q => ∃ x n, xs = [x] ∧ LenV K x H n ∧ Q (.int n) H) [.str x] (.int n) G := fun G1 H vs _ ex h Q q => by
  obtain ⟨v, rfl, n⟩ := one_of h
  cases n
  refine ⟨_, x.length, rfl, ⟨Evl.sz_of hz, rfl⟩, ?_⟩
  rw [hn]
  exact q _ G1 H (Gr.refl ex) (.int _)
theorem r_all {bs : List Bool} {b : Bool} (hb : bs.all id = b) : RCD (rAll K) [.list (boolL bs)] (.bool b) G := fun G1 H vs _ ex h Q q => by
  obtain ⟨v, rfl, n⟩ := one_of h
  cases n with
  | lst h1 h2 =>
    have e1 := dn_bools h2
    subst e1
    refine ⟨_, bs, rfl, .inl (.inl (ex _ _ h1)), ?_⟩
    rw [hb]
    exact q _ G1 H (Gr.refl ex) (.bl _)
theorem r_any {bs : List Bool} {b : Bool} (hb : bs.any id = b) : RCD (rAny K) [.list (boolL bs)] (.bool b) G := fun G1 H vs _ ex h Q q => by
  obtain ⟨v, rfl, n⟩ := one_of h
  cases n with
  | lst h1 h2 =>
    have e1 := dn_bools h2
    subst e1
    refine ⟨_, bs, rfl, .inl (.inl (ex _ _ h1)), ?_⟩
    rw [hb]
    exact q _ G1 H (Gr.refl ex) (.bl _)
theorem r_sum {ns : List Int} {z : Int} (hz : ns.sum = z) : RCD (rSum K) [.list (intL ns)] (.int z) G := fun G1 H vs _ ex h Q q => by
  obtain ⟨v, rfl, n⟩ := one_of h
  cases n with
  | lst h1 h2 =>
    have e1 := dn_ints h2
    subst e1
    refine ⟨_, ns, rfl, .inl (.inl (ex _ _ h1)), ?_⟩
    rw [hz]
    exact q _ G1 H (Gr.refl ex) (.int _)
theorem r_listT {ds : List D} : RCD (fun xs H Q => ∃ p ys, xs = [.ref p] ∧ (SqL K H p ys ∨ SqT K H p ys) ∧ ∀ l, H l = none → Q (.ref l) (upd H l (.lst ys))) [.tuple ds] (.list ds) G := fun G1 H vs _ ex h Q q => by
  obtain ⟨v, rfl, n⟩ := one_of h
  cases n with
  | tup h1 h2 =>
    exact ⟨_, _, rfl, .inr (.inl (rdx ex h1)), fun l hl => q _ (upd G1 l (.lst _)) _ (Gr.new ex hl) (.lst upd_same (DnL.mono (Ex.new (Evl.fresh_back ex hl)) ds h2))⟩
theorem r_listL {ds : List D} : RCD (fun xs H Q => ∃ p ys, xs = [.ref p] ∧ (SqL K H p ys ∨ SqT K H p ys) ∧ ∀ l, H l = none → Q (.ref l) (upd H l (.lst ys))) [.list ds] (.list ds) G := fun G1 H vs _ ex h Q q => by
  obtain ⟨v, rfl, n⟩ := one_of h
  cases n with
  | lst h1 h2 =>
    exact ⟨_, _, rfl, .inl (.inl (.inl (ex _ _ h1))), fun l hl => q _ (upd G1 l (.lst _)) _ (Gr.new ex hl) (.lst upd_same (DnL.mono (Ex.new (Evl.fresh_back ex hl)) ds h2))⟩
theorem r_tupL {ds : List D} : RCD (fun xs H Q => ∃ p ys, xs = [.ref p] ∧ ((SqL K H p ys ∧ ∀ l, H l = none → Q (.ref l) (upd H l (.tup ys))) ∨ (SqT K H p ys ∧ Q (.ref p) H))) [.list ds] (.tuple ds) G := fun G1 H vs _ ex h Q q => by
  obtain ⟨v, rfl, n⟩ := one_of h
  cases n with
  | lst h1 h2 =>
    exact ⟨_, _, rfl, .inl ⟨.inl (.inl (ex _ _ h1)), fun l hl => q _ (upd G1 l (.tup _)) _ (Gr.new ex hl) (.tup upd_same (DnL.mono (Ex.new (Evl.fresh_back ex hl)) ds h2))⟩⟩

/-! items -/
theorem r_ixT {ds : List D} {i : Nat} {c : D} (h : ds[i]? = some c) : R2D (rIxT K) (.tuple ds) (.int i) c G := fun G1 H u v _ ex hx hy Q q => by
  cases hy
  cases hx with
  | tup h1 h2 =>
    obtain ⟨w, e1, e2⟩ := h2.at h
    exact ⟨_, _, _, w, rfl, rfl, .inl (rdx ex h1), atI_nat e1, q w G1 H (Gr.refl ex) e2⟩
theorem r_ixL {ds : List D} {i : Nat} {c : D} (h : ds[i]? = some c) : R2D (rIxL K) (.list ds) (.int i) c G := fun G1 H u v _ ex hx hy Q q => by
  cases hy
  cases hx with
  | lst h1 h2 =>
    obtain ⟨w, e1, e2⟩ := h2.at h
    exact ⟨_, _, _, w, rfl, rfl, .inl (.inl (ex _ _ h1)), atI_nat e1, q w G1 H (Gr.refl ex) e2⟩
theorem r_ixS {x : Str} {i : Nat} {c : Nat} (hz : x.length ≤ 100000) (h : x.cps.toList[i]? = some c) : R2D rIxS (.str x) (.int i) (.str ⟨#[c]⟩) G := fun G1 H u v _ ex hx hy Q q => by
  cases hx
  cases hy
  exact ⟨x, i, c, rfl, rfl, Evl.sz_of hz, atI_nat h, q _ G1 H (Gr.refl ex) (.str _)⟩
/-- the four values of a dict's text keys -/
def lookD (ps : List (D × D)) (x : Str) : Option D := (ps.find? fun p => match p.1 with | .str y => decide (y = x) | _ => false).map (·.2)
theorem dnk_val {kvs : List (Key × V)} {ps : List (D × D)} {x : Str} (h : DnK G kvs ps) : (valV kvs (.inr x) = none ∧ lookD ps x = none) ∨ ∃ v d, valV kvs (.inr x) = some v ∧ lookD ps x = some d ∧ Dn G v d := by
  induction ps generalizing kvs with
  | nil =>
    cases h
    exact .inl ⟨rfl, rfl⟩
  | cons p ps ih =>
    cases h with
    | @cons y v kvs' d _ h1 h2 =>
      by_cases hy : y = x
      · subst hy
        refine .inr ⟨v, d, ?_, ?_, h1⟩
        · unfold valV
          rw [List.find?_cons_of_pos (by simp)]
          rfl
        · unfold lookD
          rw [List.find?_cons_of_pos (by simp)]
          rfl
      · have e1 : valV ((Sum.inr y, v) :: kvs') (.inr x) = valV kvs' (.inr x) := by
          unfold valV
          rw [List.find?_cons_of_neg]
          simpa using hy
        have e2 : lookD ((.str y, d) :: ps) x = lookD ps x := by
          unfold lookD
          rw [List.find?_cons_of_neg]
          simpa using hy
        rw [e1, e2]
        exact ih h2
theorem evd_dget {ps : List (D × D)} {x : Str} {c : D} (h : EvD ta σ G (.dict ps)) (k : EvD tb σ G (.str x)) (hl : lookD ps x = some c) : EvD (tDGet ta tb) σ G c := fun H e Q q =>
  h H e _ fun v G2 H2 g n => (k.mono g.g) H2 g.s _ fun w G3 H3 g2 n2 => by
    cases n2
    cases n with
    | dct h1 h2 =>
      rcases dnk_val (x := x) h2 with ⟨_, z⟩ | ⟨u, d', z1, z2, z3⟩
      · rw [hl] at z
        cases z
      · rw [hl] at z2
        cases z2
        refine ⟨_, u, rfl, ?_, q u G3 H3 (g.trans g2) (Dn.mono g2.g _ z3)⟩
        rw [← z1]
        exact DGet.k (k := Sum.inr x) (g2.s _ _ (g2.g _ _ h1))
theorem evd_din {ps : List (D × D)} {x : Str} {b : Bool} (k : EvD tb σ G (.str x)) (h : EvD ta σ G (.dict ps)) (hl : (lookD ps x).isSome = b) : EvD (tDIn tb ta) σ G (.bool b) := fun H e Q q =>
  k H e _ fun w G2 H2 g n => (h.mono g.g) H2 g.s _ fun v G3 H3 g2 n2 => by
    cases n
    cases n2 with
    | dct h1 h2 =>
      rename_i a kvs
      refine ⟨_, valV kvs (.inr x), rfl, DGet.k (k := Sum.inr x) (g2.s _ _ h1), ?_⟩
      have e1 : (valV kvs (.inr x)).isSome = b := by
        rcases dnk_val (x := x) h2 with ⟨z1, z2⟩ | ⟨u, d', z1, z2, _⟩
        · rw [z1, ← hl, z2] <;> rfl
        · rw [z1, ← hl, z2] <;> rfl
      rw [e1]
      exact q _ G3 H3 (g.trans g2) (.bl b)

/-! promises by data -/
/-- what a def of data hands back: dom tells the arguments and the value -/
def spD (dom : List D → D → Prop) : Sp := fun vs H Q _ => ∃ ds c G, Ex G H ∧ DnL G vs ds ∧ dom ds c ∧ ∀ v G2 H2, Gr G H G2 H2 → Dn G2 v c → Q v H2
theorem evd_call {dom : List D → D → Prop} {ds : List D} {c : D} {E : XK} (h : EvA ar σ G ds) (hc : dom ds c) : EvD (tCall (spD dom) [] E ar) σ G c := fun H e Q q =>
  h H e _ fun vs G2 H2 g n => by
    show spD dom (vs ++ []) H2 Q E
    rw [List.append_nil]
    exact ⟨ds, c, G2, g.s, n, hc, fun v G3 H3 g2 n2 => q v G3 H3 (g.trans g2) n2⟩
theorem spD_imp {dom dom' : List D → D → Prop} (h : ∀ ds c, dom' ds c → dom ds c) : ∀ vs H Q E, spD dom' vs H Q E → spD dom vs H Q E := fun _ _ _ _ ⟨ds, c, G, a, b, k, q⟩ => ⟨ds, c, G, a, b, h ds c k, q⟩

/-! walks -/
/-- J goes over the data ds: at each turn a value that bears the next -/
structure WalkD (J : It) (G : Hp) (ds : List D) : Prop where
  go : ∀ i H, i < ds.length → Ex G H → J.go i H
  stop : ∀ H, Ex G H → J.stop ds.length H
  yld : ∀ i H x H', i < ds.length → Ex G H → J.yld i H x H' → ∃ G2 d, Gr G H G2 H' ∧ ds[i]? = some d ∧ Dn G2 x d
def EvI (wi : TI) (σ : L2.St) (G : Hp) (ds : List D) : Prop := ∀ H, Ex G H → ∀ R : It → Hp → Prop, (∀ J G2 H2, Gr G H G2 H2 → WalkD J G2 ds → R J H2) → wi σ H R
theorem WalkD.mono {J : It} {G' : Hp} {ds : List D} (e : Ex G G') (w : WalkD J G ds) : WalkD J G' ds :=
  ⟨fun i H hi x => w.go i H hi (e.trans x), fun H x => w.stop H (e.trans x), fun i H x H' hi k y => by
    obtain ⟨G2, d, g, h1, h2⟩ := w.yld i H x H' hi (e.trans k) y
    obtain ⟨G3, a, b⟩ := grow_up e k g
    exact ⟨G3, d, b, h1, Dn.mono a d h2⟩⟩
theorem walkD_list {a : Addr} {xs : List V} {ds : List D} (h : G a = some (.lst xs)) (n : DnL G xs ds) : WalkD (Itl K a) G ds where
  go := fun i H hi e => by
    have hi' : i < xs.length := by rw [n.length]; exact hi
    exact (walk_list (K := K) (a := a) (xs := xs)).goes i H hi' (.inl (.inl (e _ _ h)))
  stop := fun H e => by
    rw [← n.length]
    exact (walk_list (K := K) (a := a) (xs := xs)).stops H (.inl (.inl (e _ _ h)))
  yld := fun i H x H' hi e y => by
    have hi' : i < xs.length := by rw [n.length]; exact hi
    obtain ⟨rfl, e2⟩ := (walk_list (K := K) (a := a) (xs := xs)).yields i H x H' hi' (.inl (.inl (e _ _ h))) y
    obtain ⟨d, h1, h2⟩ := n.att e2
    exact ⟨G, d, Gr.refl e, h1, h2⟩
theorem walkD_tup {a : Addr} {xs : List V} {ds : List D} (h : Rd G a (.tup xs)) (n : DnL G xs ds) : WalkD (Itt K a) G ds where
  go := fun i H hi e => by
    have hi' : i < xs.length := by rw [n.length]; exact hi
    exact (walk_tup (K := K) (a := a) (xs := xs)).goes i H hi' (.inl (rdR e h))
  stop := fun H e => by
    rw [← n.length]
    exact (walk_tup (K := K) (a := a) (xs := xs)).stops H (.inl (rdR e h))
  yld := fun i H x H' hi e y => by
    have hi' : i < xs.length := by rw [n.length]; exact hi
    obtain ⟨rfl, e2⟩ := (walk_tup (K := K) (a := a) (xs := xs)).yields i H x H' hi' (.inl (rdR e h)) y
    obtain ⟨d, h1, h2⟩ := n.att e2
    exact ⟨G, d, Gr.refl e, h1, h2⟩
theorem ei_list {ds : List D} (h : EvD te σ G (.list ds)) : EvI (iList K te) σ G ds := fun H e R r => h H e _ fun v G2 H2 g n => by
  cases n with
  | lst h1 h2 => exact ⟨_, rfl, ⟨_, .inl (.inl (g.s _ _ h1))⟩, r _ G2 H2 g (walkD_list h1 h2)⟩
theorem ei_tup {ds : List D} (h : EvD te σ G (.tuple ds)) : EvI (iTup K te) σ G ds := fun H e R r => h H e _ fun v G2 H2 g n => by
  cases n with
  | tup h1 h2 => exact ⟨_, rfl, ⟨_, .inl (rdx g.s h1)⟩, r _ G2 H2 g (walkD_tup (.inl h1) h2)⟩
def signs (x : Str) : List D := x.cps.toList.map fun c => .str ⟨#[c]⟩
theorem ei_str {x : Str} (h : EvD te σ G (.str x)) : EvI (iStr te) σ G (signs x) := fun H e R r => h H e _ fun v G2 H2 g n => by
  cases n
  refine ⟨x, rfl, r _ G2 H2 g ?_⟩
  have hl : (signs x).length = x.cps.size := by
    unfold signs
    rw [List.length_map, Array.length_toList]
  refine ⟨fun i H hi _ => ?_, fun H _ => ?_, fun i H y H' hi k z => ?_⟩
  · exact (walk_str (z := x)).goes i H (by rw [← hl]; exact hi) trivial
  · rw [hl]
    exact (walk_str (z := x)).stops H trivial
  · obtain ⟨rfl, c, e1, rfl⟩ := (walk_str (z := x)).yields i H y H' (by rw [← hl]; exact hi) trivial z
    refine ⟨G2, .str ⟨#[c]⟩, Gr.refl k, ?_, .str _⟩
    unfold signs
    rw [List.getElem?_map, Array.getElem?_toList, e1]
    rfl
def upTo (n : Nat) : List D := (List.range n).map fun (i : Nat) => .int i
theorem ei_range {n : Nat} (h : EvA ar σ G [.int n]) (hn : n ≤ 1000000) : EvI (iRng1 ar) σ G (upTo n) := fun H e R r => h H e _ fun vs G2 H2 g k0 => by
  obtain ⟨v, rfl, k1⟩ := one_of k0
  cases k1
  refine ⟨n, rfl, by omega, by omega, r _ G2 H2 g ?_⟩
  have hl : (upTo n).length = n := by
    unfold upTo
    rw [List.length_map, List.length_range]
  refine ⟨fun i H hi _ => ?_, fun H _ => ?_, fun i H y H' hi k z => ?_⟩
  · show i < ((n : Int)).toNat
    rw [hl] at hi
    omega
  · show ((n : Int)).toNat ≤ (upTo n).length
    rw [hl]
    omega
  · obtain ⟨rfl, rfl⟩ := z
    rw [hl] at hi
    refine ⟨G2, .int i, Gr.refl k, ?_, ?_⟩
    · unfold upTo
      rw [List.getElem?_map, List.getElem?_range hi]
      rfl
    · rw [Int.zero_add]
      exact .int _

/-! list comprehensions -/
/-- what a target does with a value that bears d: the slots behind it -/
def EvG (g : TG) (σ : L2.St) (G : Hp) (d : D) (B : Hp → L2.St → Prop) : Prop := ∀ x H, Ex G H → Dn G x d → ∀ Q : L2.St → Hp → Prop, (∀ σ2, B G σ2 → Q σ2 H) → g x σ H Q
theorem eg_name {j : Nat} {d : D} : EvG (gName j) σ G d (fun G σ2 => ∃ x, σ2 = σ.set j (some x) ∧ Dn G x d) := fun x H _ n Q q => q _ ⟨x, rfl, n⟩
theorem eg_pair {j k : Nat} {d e : D} : EvG (gTup K 2 (gCons (gName j) (gCons (gName k) gNil))) σ G (.tuple [d, e]) (fun G σ2 => ∃ x y, σ2 = (σ.set j (some x)).set k (some y) ∧ Dn G x d ∧ Dn G y e) := fun x H ex n Q q => by
  cases n with
  | tup h1 h2 =>
    obtain ⟨v, w, rfl, n1, n2⟩ := two_of h2
    exact ⟨_, _, rfl, .inl (rdx ex h1), rfl, v, _, rfl, w, _, rfl, rfl, q _ ⟨v, w, rfl, n1, n2⟩⟩
theorem take_len {α : Type} {l : List α} {i : Nat} {x : α} (h : l[i]? = some x) : l.take (i + 1) = l.take i ++ [x] := by
  rw [List.take_add_one, h]
  rfl
/-- a list that was made just now, still to be changed -/
def EvO (te : TE) (σ : L2.St) (G : Hp) (ds : List D) : Prop := ∀ H, Ex G H → ∀ Q : VK, (∀ p xs G2 H2, Gr G H G2 H2 → H p = none → G2 p = none → H2 p = some (.lst xs) → DnL G2 xs ds → Q (.ref p) H2) → te σ H Q
theorem EvO.toD {ds : List D} (h : EvO te σ G ds) : EvD te σ G (.list ds) := fun H e Q q => h H e Q fun p xs G2 H2 g hp n hp2 m => by
  refine q (.ref p) (upd G2 p (.lst xs)) H2 ⟨g.g.trans (Ex.new n), fun a o z => ?_, g.h, fun a h1 h2 => ?_⟩ (.lst upd_same (DnL.mono (Ex.new n) _ m))
  · by_cases ha : a = p
    · subst ha
      rw [upd_same] at z
      rw [hp2, z]
    · rw [upd_ne ha] at z
      exact g.s a o z
  · have h3 : a ≠ p := fun z => h2 (by rw [z]; exact stf hp)
    rw [upd_ne h3]
    exact g.f a h1 h2
/-- [r x for x in ds if f x] -/
theorem evo_lc {wi : TI} {g : TG} {vs : List Nat} {ds : List D} {f : D → Bool} {r : D → D} {B : D → Hp → L2.St → Prop} (hi : EvI wi σ G ds) (hz : ds.length ≤ 40000)
    (hg : ∀ d ∈ ds, ∀ G1, Ex G G1 → EvG g (wipe σ vs) G1 d (B d)) (hw : ∀ d G1 σ2, B d G1 σ2 → wipe σ2 vs = wipe σ vs)
    (ht : ∀ d ∈ ds, ∀ G1 σ2, Ex G G1 → B d G1 σ2 → EvT t σ2 G1 (f d))
    (he : ∀ d ∈ ds, f d = true → ∀ G1 σ2, Ex G G1 → B d G1 σ2 → EvD te σ2 G1 (r d)) :
    EvO (tLc wi g t te vs) σ G ((ds.filter f).map r) := fun H e Q q => hi H e _ fun J G0 H0 g0 w D hD => by
  -- what the i turns have made stands in some Gi, without the list at D itself
  refine ⟨fun i m H' => m = ds.length - i ∧ i ≤ ds.length ∧ ∃ Gi acc, Gr G0 H0 Gi H' ∧ Gi D = none ∧ H' D = some (.lst acc) ∧ DnL Gi acc (((ds.take i).filter f).map r),
    ⟨ds.length, by simp, Nat.zero_le _, G0, [], ⟨Ex.refl _, g0.s.trans (Ex.new hD), Ex.new hD, fun _ a _ => a⟩, Evl.fresh_back g0.s hD, upd_same, .nil⟩, ?_⟩
  rintro i m H' ⟨rfl, hi', Gi, acc, gi, hGD, hHD, na⟩
  have wi' := w.mono gi.g
  by_cases hlt : i < ds.length
  · refine .inr ⟨wi'.go i H' hlt gi.s, fun H2 => ∃ Gj acc, Gr G0 H0 Gj H2 ∧ Gj D = none ∧ H2 D = some (.lst acc) ∧ DnL Gj acc (((ds.take (i + 1)).filter f).map r),
      fun H2 p => ⟨ds.length - (i + 1), by omega, rfl, hlt, p⟩, fun x H2 y => ?_⟩
    obtain ⟨G2, d, g2, hd, n2⟩ := wi'.yld i H' x H2 hlt gi.s y
    have hmem : d ∈ ds := List.mem_of_getElem? hd
    have hGD2 : G2 D = none := g2.f D hGD (by rw [hHD]; intro z; cases z)
    have ex2 : Ex G G2 := (g0.g.trans gi.g).trans g2.g
    refine hg d hmem G2 ex2 x H2 g2.s n2 _ fun σ2 hB => ⟨hw d G2 σ2 hB, ?_⟩
    refine ht d hmem G2 σ2 ex2 hB H2 g2.s _ fun G3 H3 g3 => ?_
    have hHD2 := g2.h _ _ hHD
    have hGD3 : G3 D = none := g3.f D hGD2 (by rw [hHD2]; intro z; cases z)
    have hHD3 := g3.h _ _ hHD2
    have gg3 := (gi.trans g2).trans g3
    have na3 : DnL G3 acc (((ds.take i).filter f).map r) := DnL.mono (g2.g.trans g3.g) _ na
    cases hf : f d with
    | false =>
      refine ⟨G3, acc, gg3, hGD3, hHD3, ?_⟩
      rw [take_len hd, List.filter_append, List.filter_cons, if_neg (by rw [hf]; decide)]
      show DnL G3 acc ((((ds.take i).filter f) ++ []).map r)
      rw [List.append_nil]
      exact na3
    | true =>
      show te σ2 H3 _
      refine (he d hmem hf G2 σ2 ex2 hB).mono g3.g H3 g3.s _ fun v G4 H4 g4 n4 => ?_
      have hGD4 : G4 D = none := g4.f D hGD3 (by rw [hHD3]; intro z; cases z)
      have hHD4 := g4.h _ _ hHD3
      have gg4 := gg3.trans g4
      refine ⟨acc, hHD4, ?_, G4, acc ++ [v], ⟨gg4.g, ?_, ?_, gg4.f⟩, hGD4, upd_same, ?_⟩
      · rw [na.length, List.length_map]
        have l1 := List.length_filter_le f (ds.take i)
        rw [List.length_take] at l1
        exact Nat.lt_of_lt_of_le (show _ < 100000 by omega) (by decide)
      · exact Ex.mut gg4.s hGD4
      · exact Ex.mut gg4.h hD
      · rw [take_len hd, List.filter_append, List.filter_cons, if_pos hf, List.map_append]
        exact (DnL.mono g4.g _ na3).snoc n4
  · have ei : i = ds.length := by omega
    subst ei
    refine .inl ⟨wi'.stop H' gi.s, ?_⟩
    rw [List.take_length] at na
    exact q D acc Gi H' (g0.trans ⟨gi.g, gi.s, gi.h, gi.f⟩) (Evl.fresh_back g0.h hD) hGD hHD na
theorem evd_lc {wi : TI} {g : TG} {vs : List Nat} {ds : List D} {f : D → Bool} {r : D → D} {B : D → Hp → L2.St → Prop} (hi : EvI wi σ G ds) (hz : ds.length ≤ 40000)
    (hg : ∀ d ∈ ds, ∀ G1, Ex G G1 → EvG g (wipe σ vs) G1 d (B d)) (hw : ∀ d G1 σ2, B d G1 σ2 → wipe σ2 vs = wipe σ vs)
    (ht : ∀ d ∈ ds, ∀ G1 σ2, Ex G G1 → B d G1 σ2 → EvT t σ2 G1 (f d))
    (he : ∀ d ∈ ds, f d = true → ∀ G1 σ2, Ex G G1 → B d G1 σ2 → EvD te σ2 G1 (r d)) :
    EvD (tLc wi g t te vs) σ G (.list ((ds.filter f).map r)) := EvO.toD (evo_lc hi hz hg hw ht he)
/-- without a test -/
theorem filter_all {α : Type} (l : List α) : l.filter (fun _ => true) = l := by
  induction l with
  | nil => rfl
  | cons x xs ih => rw [List.filter_cons, if_pos rfl, ih]
theorem evt_yes : EvT tYes σ G true := fun H e Q q => q G H (Gr.refl e)
theorem evd_lcA {wi : TI} {g : TG} {vs : List Nat} {ds : List D} {r : D → D} {B : D → Hp → L2.St → Prop} (hi : EvI wi σ G ds) (hz : ds.length ≤ 40000)
    (hg : ∀ d ∈ ds, ∀ G1, Ex G G1 → EvG g (wipe σ vs) G1 d (B d)) (hw : ∀ d G1 σ2, B d G1 σ2 → wipe σ2 vs = wipe σ vs)
    (he : ∀ d ∈ ds, ∀ G1 σ2, Ex G G1 → B d G1 σ2 → EvD te σ2 G1 (r d)) :
    EvD (tLc wi g tYes te vs) σ G (.list (ds.map r)) := by
  have h := evd_lc (t := tYes) (te := te) (f := fun _ => true) (r := r) hi hz hg hw (fun _ _ _ _ _ _ => evt_yes) (fun d hd _ G1 σ2 e b => he d hd G1 σ2 e b)
  rw [filter_all] at h
  exact h
end
end Sh

set_option Elab.async false
set_option linter.all false
set_option maxRecDepth 100000
set_option maxHeartbeats 4000000
namespace Sh
open PySem PySem.Spec L2
open PyProof.Rows hiding St
open Evl (Ex)

/-- a def of the text stands under its name -/
def Stands (K : PySem.W.Frag) (mg : Str → Option Value) (x : Str) (st : Stmt) (ps : List Str) : Prop := ∃ f fd, Fun K x x st f fd ∧ mg x = some (.ref f) ∧ Binds K fd ps []
/-- a def keeps a promise -/
def Keeps (P : Program) (w : World) (K : PySem.W.Frag) (mg : Str → Option Value) (base : Heap) (CX : CXT) (k : Nat) (x : Str) (ps : List Str) (sp : Sp) : Prop :=
  ∃ f fd, FnOk P w K mg base CX k f fd ps sp ∧ mg x = some (.ref f) ∧ PySem.W.keepIn K (.ref f) = true ∧ Binds K fd ps []
/-- the built-ins' names are not bound by the text -/
structure Bi (mg : Str → Option Value) : Prop where
  isinstance : mg "isinstance" = none
  int : mg "int" = none
  bool : mg "bool" = none
  str : mg "str" = none
  tuple : mg "tuple" = none
  list : mg "list" = none
  dict : mg "dict" = none
  set : mg "set" = none
  len : mg "len" = none
  all : mg "all" = none
  any : mg "any" = none
  sum : mg "sum" = none
  range : mg "range" = none
  zip : mg "zip" = none
  min : mg "min" = none
  max : mg "max" = none
  enumerate : mg "enumerate" = none
  sorted : mg "sorted" = none
section
variable {P : Program} {w : World} {K : PySem.W.Frag} {mg : Str → Option Value} {base : Heap} {σ : L2.St} {G : Hp} {te : TE} {t u v : TS} {tt : TT} {c d : D}
/-- the block hands back c -/
def EvS (t : TS) (σ : L2.St) (G : Hp) (c : D) : Prop := ∀ H, Ex G H → ∀ E : Ends, (∀ v G2 H2, Gr G H G2 H2 → Dn G2 v c → E.rt v H2) → t E σ H
theorem evs_ret (h : EvD te σ G c) : EvS (tRet te) σ G c := fun H e E q => h H e _ q
theorem EvS.mono {G' : Hp} (e : Ex G G') (h : EvS t σ G c) : EvS t σ G' c := fun H x E q => h H (e.trans x) E fun v G2 H2 g n => by
  obtain ⟨G3, a, b⟩ := grow_up e x g
  exact q v G3 H2 b (Dn.mono a c n)
/-- if t: .. that hands back; the rest -/
theorem evs_if {b : Bool} (h : EvT tt σ G b) (k1 : b = true → EvS t σ G c) (k2 : b = false → EvS u σ G c) : EvS (tSeq (tIfS tt t tNext) u) σ G c := fun H e E q => h H e _ fun G2 H2 g => by
  cases b with
  | true =>
    show t { E with nx := u E } σ H2
    exact ((k1 rfl).mono g.g) H2 g.s _ fun v G3 H3 g2 n => q v G3 H3 (g.trans g2) n
  | false =>
    show u E σ H2
    exact ((k2 rfl).mono g.g) H2 g.s _ fun v G3 H3 g2 n => q v G3 H3 (g.trans g2) n
/-- x = e; the rest -/
theorem evs_set {i : Nat} (h : EvD te σ G d) (k : ∀ v G2, Ex G G2 → Dn G2 v d → EvS u (σ.set i (some v)) G2 c) : EvS (tSeq (tAsg te (gName i)) u) σ G c := fun H e E q => h H e _ fun v G2 H2 g n =>
  k v G2 g.g n H2 g.s E fun v' G3 H3 g2 n2 => q v' G3 H3 (g.trans g2) n2
/-- a, b, .. = e; the rest -/
theorem evs_asg {g : TG} {B : Hp → L2.St → Prop} (h : EvD te σ G d) (hg : ∀ G2, Ex G G2 → EvG g σ G2 d B) (k : ∀ σ2 G2, Ex G G2 → B G2 σ2 → EvS u σ2 G2 c) : EvS (tSeq (tAsg te g) u) σ G c := fun H e E q => h H e _ fun v G2 H2 g' n =>
  hg G2 g'.g v H2 g'.s n _ fun σ2 b => k σ2 G2 g'.g b H2 g'.s E fun v' G3 H3 g2 n2 => q v' G3 H3 (g'.trans g2) n2
/-- five names at once -/
theorem eg_five {i1 i2 i3 i4 i5 : Nat} {d1 d2 d3 d4 d5 : D} : EvG (gTup K 5 (gCons (gName i1) (gCons (gName i2) (gCons (gName i3) (gCons (gName i4) (gCons (gName i5) gNil)))))) σ G (.tuple [d1, d2, d3, d4, d5])
    (fun G σ2 => ∃ v1 v2 v3 v4 v5, σ2 = ((((σ.set i1 (some v1)).set i2 (some v2)).set i3 (some v3)).set i4 (some v4)).set i5 (some v5) ∧ Dn G v1 d1 ∧ Dn G v2 d2 ∧ Dn G v3 d3 ∧ Dn G v4 d4 ∧ Dn G v5 d5) := fun x H ex n Q q => by
  cases n with
  | tup h1 h2 =>
    cases h2 with
    | cons n1 h2 =>
      cases h2 with
      | cons n2 h2 =>
        cases h2 with
        | cons n3 h2 =>
          cases h2 with
          | cons n4 h2 =>
            cases h2 with
            | cons n5 h2 =>
              cases h2
              exact ⟨_, _, rfl, .inl (rdx ex h1), rfl, _, _, rfl, _, _, rfl, _, _, rfl, _, _, rfl, _, _, rfl, rfl, q _ ⟨_, _, _, _, _, rfl, n1, n2, n3, n4, n5⟩⟩
/-- a for over data: Pv G0 H0 i: behind i turns (G0, H0: where the loop began) -/
theorem for_data {wi : TI} {g : TG} {tb : TS} {ds : List D} {H : Hp} {E : Ends} (hi : EvI wi σ G ds) (e : Ex G H) (Pv : Hp → Hp → Nat → L2.St → Hp → Prop) (hG : ∀ G0 H0 i σ' H', Pv G0 H0 i σ' H' → Ex G0 H')
    (h0 : ∀ G0 H0, Gr G H G0 H0 → Pv G0 H0 0 σ H0)
    (hs : ∀ G0 H0 i d x σ' H' G2 H2, Gr G H G0 H0 → ds[i]? = some d → Pv G0 H0 i σ' H' → Gr G0 H' G2 H2 → Dn G2 x d → g x σ' H2 fun σ2 H3 => tb { E with nx := Pv G0 H0 (i + 1), ct := Pv G0 H0 (i + 1), bk := E.nx } σ2 H3)
    (hd : ∀ G0 H0 σ' H', Gr G H G0 H0 → Pv G0 H0 ds.length σ' H' → E.nx σ' H') : tFor wi g tb E σ H := hi H e _ fun J G0 H0 g0 w => by
  refine ⟨fun i m σ' H' => m = ds.length - i ∧ i ≤ ds.length ∧ Pv G0 H0 i σ' H', ⟨ds.length, by simp, Nat.zero_le _, h0 G0 H0 g0⟩, ?_⟩
  rintro i m σ' H' ⟨rfl, hi', p⟩
  have ex := hG G0 H0 i σ' H' p
  by_cases lt : i < ds.length
  · refine .inr ⟨w.go i H' lt ex, Pv G0 H0 (i + 1), fun σ2 H2 p2 => ⟨ds.length - (i + 1), by omega, rfl, lt, p2⟩, fun x H2 y => ?_⟩
    obtain ⟨G2, d, g2, hd', n⟩ := w.yld i H' x H2 lt ex y
    exact hs G0 H0 i d x σ' H' G2 H2 g0 hd' p g2 n
  · obtain rfl : i = ds.length := by omega
    exact .inl ⟨w.stop H' ex, hd G0 H0 σ' H' g0 p⟩
/-- one name as the target -/
theorem for_dataN {wi : TI} {j : Nat} {tb : TS} {ds : List D} {H : Hp} {E : Ends} (hi : EvI wi σ G ds) (e : Ex G H) (Pv : Hp → Hp → Nat → L2.St → Hp → Prop) (hG : ∀ G0 H0 i σ' H', Pv G0 H0 i σ' H' → Ex G0 H')
    (h0 : ∀ G0 H0, Gr G H G0 H0 → Pv G0 H0 0 σ H0)
    (hs : ∀ G0 H0 i d x σ' H' G2 H2, Gr G H G0 H0 → ds[i]? = some d → Pv G0 H0 i σ' H' → Gr G0 H' G2 H2 → Dn G2 x d → tb { E with nx := Pv G0 H0 (i + 1), ct := Pv G0 H0 (i + 1), bk := E.nx } (σ'.set j (some x)) H2)
    (hd : ∀ G0 H0 σ' H', Gr G H G0 H0 → Pv G0 H0 ds.length σ' H' → E.nx σ' H') : tFor wi (gName j) tb E σ H :=
  for_data (g := gName j) hi e Pv hG h0 hs hd
/-- if t: ..; the rest, with ends of any kind -/
theorem tif_of {t u u2 : TS} {H : Hp} {E : Ends} {b : Bool} (h : EvT tt σ G b) (e : Ex G H) (k1 : b = true → ∀ G2 H2, Gr G H G2 H2 → t { E with nx := u2 E } σ H2) (k2 : b = false → ∀ G2 H2, Gr G H G2 H2 → u { E with nx := u2 E } σ H2) : tSeq (tIfS tt t u) u2 E σ H := h H e _ fun G2 H2 g => by
  cases b with
  | true => exact k1 rfl G2 H2 g
  | false => exact k2 rfl G2 H2 g
/-- what stands still, and one object more that is read meanwhile -/
theorem Ex.lend {H : Hp} {l : Addr} {o : HO} (e : Ex G H) (h : H l = some o) : Ex (upd G l o) H := fun a u q => by
  by_cases z : a = l
  · subst z
    rw [upd_same] at q
    rw [← q]
    exact h
  · rw [upd_ne z] at q
    exact e a u q
/-- a def without errors, by its body -/
theorem keeps_of {x : Str} {st : Stmt} {N ps : List Str} {k : Nat} {dom : List D → D → Prop} (S : Stands K mg x st ps) (sc : FnScope N ps (defScope st)) (hl : ∀ ds c, dom ds c → ds.length = ps.length)
    (body : ∀ (f : Addr) (cdv : Value) (A : Around) (outer : List Env) (s : Shared) (H : Hp) (E : XK), Room k (A.deeper (envOfC x (defScope st) s.heap.objs.size f cdv)) →
      ∃ t, PSs (cxOf CX0 P w K mg base N x (defScope st) f cdv A outer s H E).nox (defBody st) t ∧ ∀ ds c vs G, dom ds c → DnL G vs ds → EvS t (start N vs) G c) :
    Keeps P w K mg base CX0 (k + 1) x ps (spD dom) := by
  obtain ⟨f, fd, F, hm, hb⟩ := S
  refine ⟨f, fd, F.ok sc (fun vs H Q E h => ?_) (fun cdv A outer s H vs Q E hr h => ?_), hm, F.kp, hb⟩
  · obtain ⟨ds, c, G, _, n, hd, _⟩ := h
    rw [n.length]
    exact hl ds c hd
  · obtain ⟨ds, c, G, e, n, hd, q⟩ := h
    obtain ⟨t, ht, hq⟩ := body f cdv A outer s H E hr
    exact ⟨t, ht, hq ds c vs G hd n H e _ q⟩
section
variable {X : Cx} {x : Str} {ps : List Str} {sp : Sp} {CX : CXT} {k : Nat} {E : XK} {e : Expr} {es : List Expr} {ar : TA} {p pos : Pos}
theorem pe_callD (F : Keeps X.prog X.w X.K X.mg X.base CX0 k x ps sp) (hr : Room k X.A) (ha : PA X (e :: es) ar) (hg : Gl X x := by rfl) (hdb : (x == ("__debug__" : Str)) = false := by decide)
    (he : starEach (e :: es) X.env = (false, eval e X.env) :: starEach es X.env := by rfl) (hpl : (backTo pos (starEach es X.env)).any (·.1) = false := by rfl) : PE X (.Call (.Name x p) (e :: es) [] pos) (tCall sp [] E0 ar) := by
  obtain ⟨f, fd, ok, hm, hk, hb⟩ := F
  exact pe_call ok hr hg hm hk hb .nil pass0 ha hdb he hpl
/-- a built-in function by its name, a built-in type's name as a value -/
theorem pe_ty {T : String} (hm : X.mg x = none) (hv : bootBuiltins x = some (.type T)) (hg : Gl X x := by rfl) (hn : x ≠ "__name__" := by decide) (hd : (x == ("__debug__" : Str)) = false := by decide) : PE X (.Name x pos) (tC (.ty T)) := pe_bltn hg hm hv rfl hn hd
end
theorem dn2 {vs : List V} {a b : D} (h : DnL G vs [a, b]) : ∃ u v, vs = [u, v] ∧ Dn G u a ∧ Dn G v b := two_of h
theorem dn3 {vs : List V} {a b c : D} (h : DnL G vs [a, b, c]) : ∃ u v w, vs = [u, v, w] ∧ Dn G u a ∧ Dn G v b ∧ Dn G w c := by
  cases h with
  | cons h1 h2 =>
    obtain ⟨v, w, rfl, h3, h4⟩ := dn2 h2
    exact ⟨_, v, w, rfl, h1, h3, h4⟩
theorem dn4 {vs : List V} {a b c d : D} (h : DnL G vs [a, b, c, d]) : ∃ u v w x, vs = [u, v, w, x] ∧ Dn G u a ∧ Dn G v b ∧ Dn G w c ∧ Dn G x d := by
  cases h with
  | cons h1 h2 =>
    obtain ⟨v, w, x, rfl, h3, h4, h5⟩ := dn3 h2
    exact ⟨_, v, w, x, rfl, h1, h3, h4, h5⟩
/-- the i-th slot, written -/
theorem evd_at {i : Nat} {v : V} {G1 : Hp} (n : Dn G v d) (e : Ex G G1 := by first | exact Ex.refl _ | assumption) (h : σ[i]? = some (some v) := by rfl) : EvD (tVar i) σ G1 d := evd_var ⟨v, h, Dn.mono e d n⟩
/-! comprehensions over names and pairs of names -/
theorem evd_lcN {wi : TI} {vs : List Nat} {ds : List D} {j : Nat} {r : D → D} (hi : EvI wi σ G ds) (hz : ds.length ≤ 40000) (hw : ∀ x, wipe ((wipe σ vs).set j (some x)) vs = wipe σ vs)
    (he : ∀ d ∈ ds, ∀ x G1, Ex G G1 → Dn G1 x d → EvD te ((wipe σ vs).set j (some x)) G1 (r d)) : EvD (tLc wi (gName j) tYes te vs) σ G (.list (ds.map r)) :=
  evd_lcA hi hz (fun d _ G1 _ => eg_name) (fun d G1 σ2 ⟨x, e, _⟩ => by rw [e]; exact hw x) (fun d hd G1 σ2 e ⟨x, e2, n⟩ => by rw [e2]; exact he d hd x G1 e n)
theorem evd_lcNF {wi : TI} {vs : List Nat} {ds : List D} {j : Nat} {f : D → Bool} {r : D → D} (hi : EvI wi σ G ds) (hz : ds.length ≤ 40000) (hw : ∀ x, wipe ((wipe σ vs).set j (some x)) vs = wipe σ vs)
    (ht : ∀ d ∈ ds, ∀ x G1, Ex G G1 → Dn G1 x d → EvT tt ((wipe σ vs).set j (some x)) G1 (f d)) (he : ∀ d ∈ ds, f d = true → ∀ x G1, Ex G G1 → Dn G1 x d → EvD te ((wipe σ vs).set j (some x)) G1 (r d)) :
    EvD (tLc wi (gName j) tt te vs) σ G (.list ((ds.filter f).map r)) :=
  evd_lc hi hz (fun d _ G1 _ => eg_name) (fun d G1 σ2 ⟨x, e, _⟩ => by rw [e]; exact hw x) (fun d hd G1 σ2 e ⟨x, e2, n⟩ => by rw [e2]; exact ht d hd x G1 e n) (fun d hd hf G1 σ2 e ⟨x, e2, n⟩ => by rw [e2]; exact he d hd hf x G1 e n)
theorem evd_lcP {wi : TI} {vs : List Nat} {ds : List D} {i j : Nat} {r : D → D} (hi : EvI wi σ G ds) (hz : ds.length ≤ 40000) (hp : ∀ d ∈ ds, ∃ a b, d = .tuple [a, b]) (hw : ∀ x y, wipe (((wipe σ vs).set i (some x)).set j (some y)) vs = wipe σ vs)
    (he : ∀ a b, PyData.tuple [a, b] ∈ ds → ∀ x y G1, Ex G G1 → Dn G1 x a → Dn G1 y b → EvD te (((wipe σ vs).set i (some x)).set j (some y)) G1 (r (.tuple [a, b]))) :
    EvD (tLc wi (gTup K 2 (gCons (gName i) (gCons (gName j) gNil))) tYes te vs) σ G (.list (ds.map r)) :=
  evd_lcA (B := fun d G1 σ2 => ∃ a b, d = .tuple [a, b] ∧ ∃ x y, σ2 = ((wipe σ vs).set i (some x)).set j (some y) ∧ Dn G1 x a ∧ Dn G1 y b) hi hz
    (fun d hd G1 e x H e1 n Q q => by
      obtain ⟨a, b, rfl⟩ := hp d hd
      exact eg_pair x H e1 n Q fun σ2 h => q σ2 ⟨a, b, rfl, h⟩)
    (fun d G1 σ2 ⟨a, b, _, x, y, e, _⟩ => by rw [e]; exact hw x y)
    (fun d hd G1 σ2 e ⟨a, b, ed, x, y, e2, n1, n2⟩ => by
      subst ed
      rw [e2]
      exact he a b hd x y G1 e n1 n2)
theorem evd_lcPF {wi : TI} {vs : List Nat} {ds : List D} {i j : Nat} {f : D → Bool} {r : D → D} (hi : EvI wi σ G ds) (hz : ds.length ≤ 40000) (hp : ∀ d ∈ ds, ∃ a b, d = .tuple [a, b]) (hw : ∀ x y, wipe (((wipe σ vs).set i (some x)).set j (some y)) vs = wipe σ vs)
    (ht : ∀ a b, PyData.tuple [a, b] ∈ ds → ∀ x y G1, Ex G G1 → Dn G1 x a → Dn G1 y b → EvT tt (((wipe σ vs).set i (some x)).set j (some y)) G1 (f (.tuple [a, b])))
    (he : ∀ a b, PyData.tuple [a, b] ∈ ds → f (.tuple [a, b]) = true → ∀ x y G1, Ex G G1 → Dn G1 x a → Dn G1 y b → EvD te (((wipe σ vs).set i (some x)).set j (some y)) G1 (r (.tuple [a, b]))) :
    EvD (tLc wi (gTup K 2 (gCons (gName i) (gCons (gName j) gNil))) tt te vs) σ G (.list ((ds.filter f).map r)) :=
  evd_lc (B := fun d G1 σ2 => ∃ a b, d = .tuple [a, b] ∧ ∃ x y, σ2 = ((wipe σ vs).set i (some x)).set j (some y) ∧ Dn G1 x a ∧ Dn G1 y b) hi hz
    (fun d hd G1 e x H e1 n Q q => by
      obtain ⟨a, b, rfl⟩ := hp d hd
      exact eg_pair x H e1 n Q fun σ2 h => q σ2 ⟨a, b, rfl, h⟩)
    (fun d G1 σ2 ⟨a, b, _, x, y, e, _⟩ => by rw [e]; exact hw x y)
    (fun d hd G1 σ2 e ⟨a, b, ed, x, y, e2, n1, n2⟩ => by
      subst ed
      rw [e2]
      exact ht a b hd x y G1 e n1 n2)
    (fun d hd hf G1 σ2 e ⟨a, b, ed, x, y, e2, n1, n2⟩ => by
      subst ed
      rw [e2]
      exact he a b hd hf x y G1 e n1 n2)
/-! types by name -/
def isS (T s : String) : Bool := s == T || (s == "bool" && T == "int")
def isK (T : String) (d : D) : Bool := isS T (tyD d)
theorem kit_int (d : D) : kitB (tyD d) "int" = some (isK "int" d) := by
  cases d
  · exact (by decide +kernel : kitB "NoneType" "int" = some (isS "int" "NoneType"))
  · exact (by decide +kernel : kitB "bool" "int" = some (isS "int" "bool"))
  · exact (by decide +kernel : kitB "int" "int" = some (isS "int" "int"))
  · exact (by decide +kernel : kitB "str" "int" = some (isS "int" "str"))
  · exact (by decide +kernel : kitB "list" "int" = some (isS "int" "list"))
  · exact (by decide +kernel : kitB "tuple" "int" = some (isS "int" "tuple"))
  · exact (by decide +kernel : kitB "dict" "int" = some (isS "int" "dict"))
theorem kit_bool (d : D) : kitB (tyD d) "bool" = some (isK "bool" d) := by
  cases d
  · exact (by decide +kernel : kitB "NoneType" "bool" = some (isS "bool" "NoneType"))
  · exact (by decide +kernel : kitB "bool" "bool" = some (isS "bool" "bool"))
  · exact (by decide +kernel : kitB "int" "bool" = some (isS "bool" "int"))
  · exact (by decide +kernel : kitB "str" "bool" = some (isS "bool" "str"))
  · exact (by decide +kernel : kitB "list" "bool" = some (isS "bool" "list"))
  · exact (by decide +kernel : kitB "tuple" "bool" = some (isS "bool" "tuple"))
  · exact (by decide +kernel : kitB "dict" "bool" = some (isS "bool" "dict"))
theorem kit_str (d : D) : kitB (tyD d) "str" = some (isK "str" d) := by
  cases d
  · exact (by decide +kernel : kitB "NoneType" "str" = some (isS "str" "NoneType"))
  · exact (by decide +kernel : kitB "bool" "str" = some (isS "str" "bool"))
  · exact (by decide +kernel : kitB "int" "str" = some (isS "str" "int"))
  · exact (by decide +kernel : kitB "str" "str" = some (isS "str" "str"))
  · exact (by decide +kernel : kitB "list" "str" = some (isS "str" "list"))
  · exact (by decide +kernel : kitB "tuple" "str" = some (isS "str" "tuple"))
  · exact (by decide +kernel : kitB "dict" "str" = some (isS "str" "dict"))
theorem kit_tuple (d : D) : kitB (tyD d) "tuple" = some (isK "tuple" d) := by
  cases d
  · exact (by decide +kernel : kitB "NoneType" "tuple" = some (isS "tuple" "NoneType"))
  · exact (by decide +kernel : kitB "bool" "tuple" = some (isS "tuple" "bool"))
  · exact (by decide +kernel : kitB "int" "tuple" = some (isS "tuple" "int"))
  · exact (by decide +kernel : kitB "str" "tuple" = some (isS "tuple" "str"))
  · exact (by decide +kernel : kitB "list" "tuple" = some (isS "tuple" "list"))
  · exact (by decide +kernel : kitB "tuple" "tuple" = some (isS "tuple" "tuple"))
  · exact (by decide +kernel : kitB "dict" "tuple" = some (isS "tuple" "dict"))
theorem kit_list (d : D) : kitB (tyD d) "list" = some (isK "list" d) := by
  cases d
  · exact (by decide +kernel : kitB "NoneType" "list" = some (isS "list" "NoneType"))
  · exact (by decide +kernel : kitB "bool" "list" = some (isS "list" "bool"))
  · exact (by decide +kernel : kitB "int" "list" = some (isS "list" "int"))
  · exact (by decide +kernel : kitB "str" "list" = some (isS "list" "str"))
  · exact (by decide +kernel : kitB "list" "list" = some (isS "list" "list"))
  · exact (by decide +kernel : kitB "tuple" "list" = some (isS "list" "tuple"))
  · exact (by decide +kernel : kitB "dict" "list" = some (isS "list" "dict"))
theorem bi_isinstance : bootBuiltins "isinstance" = some (.builtin "isinstance") := by decide +kernel
theorem bi_len : bootBuiltins "len" = some (.builtin "len") := by decide +kernel
theorem bi_all : bootBuiltins "all" = some (.builtin "all") := by decide +kernel
theorem bi_any : bootBuiltins "any" = some (.builtin "any") := by decide +kernel
theorem bi_sum : bootBuiltins "sum" = some (.builtin "sum") := by decide +kernel
theorem bi_int : bootBuiltins "int" = some (.type "int") := by decide +kernel
theorem bi_bool : bootBuiltins "bool" = some (.type "bool") := by decide +kernel
theorem bi_str : bootBuiltins "str" = some (.type "str") := by decide +kernel
theorem bi_tuple : bootBuiltins "tuple" = some (.type "tuple") := by decide +kernel
theorem bi_list : bootBuiltins "list" = some (.type "list") := by decide +kernel
theorem bi_dict : bootBuiltins "dict" = some (.type "dict") := by decide +kernel
theorem bi_sorted : bootBuiltins "sorted" = some (.builtin "sorted") := by decide +kernel
theorem bi_max : bootBuiltins "max" = some (.builtin "max") := by decide +kernel
theorem bi_set : bootBuiltins "set" = some (.type "set") := by decide +kernel
end
end Sh

set_option Elab.async false
set_option linter.all false
set_option maxRecDepth 100000
set_option maxHeartbeats 4000000
/-! defs that raise an own error, by data -/
namespace Sh
open PySem PySem.Spec L2
open PyProof.Rows hiding St
open Evl (Ex)
/-- an own error class stands under its name -/
structure ErrC (K : PySem.W.Frag) (mg : Str → Option Value) (x : Str) (C : Addr) : Prop where
  made : ∃ bmB B newId initId, ExcBaseFacts B newId initId bmB ∧ PySem.W.excIn K C bmB newId = true
  g : mg x = some (.ref C)
  k : PySem.W.keepIn K (.ref C) = true
  b : PySem.W.subIn K (.ref C) (.type "BaseException") = some true
  t : PySem.W.typeIn K (.ref C) = some (.type "type")
  one : PySem.W.exmOne K (.ref C) (.ref C) = some true
def tRaiseC (C : Addr) (W : WX) : TS := fun _ σ H => W (.ref C) none σ H
theorem ps_raiseC {X : Cx} {W : WX} {x m : Str} {C : Addr} {j : Nat} {p p2 pos pos' : Pos} (er : ErrC X.K X.mg x C) (hc : X.calm = true) (tk : L2N.Takes X W) (hg : Gl X x) (hdb : (x == ("__debug__" : Str)) = false := by decide) :
    PS X (.Raise (some (.Call (.Name x p) [.Constant (.str m) j p2] [] pos)) none pos') (tRaiseC C W) := by
  obtain ⟨bmB, B, newId, initId, F, q⟩ := er.made
  exact L2N.ps_raise hc tk (L2N.pmk_own F q er.g er.k (raises_own er.b er.t) hg hdb)
/-- a def that may raise, the error's context kept -/
theorem okN {P : Program} {w : World} {K : PySem.W.Frag} {mg : Str → Option Value} {base : Heap} {x qual : Str} {st : Stmt} {f : Addr} {fd : FuncData} {N ps : List Str} {k : Nat} {sp : Sp} (F : Fun K x qual st f fd) (S : FnScope N ps (defScope st)) (len : ∀ vs H Q E, sp vs H Q E → vs.length = ps.length)
    (hbody : ∀ (cdv : Value) (A : Around) (outer : List Env) (s : Shared) (H : Hp) (vs : List V) (Q : VK) (E : XK), Room k (A.deeper (envOfC qual (defScope st) s.heap.objs.size f cdv)) → sp vs H Q E →
      ∃ t, PSs (cxOf (L2N.CX P w) P w K mg base N qual (defScope st) f cdv A outer s H E) (defBody st) t ∧ t { nx := fun _ H' => Q .non H', rt := Q } (start N vs) H) : FnOk P w K mg base (L2N.CX P w) (k + 1) f fd ps sp := by
  obtain ⟨oc, od, kV, doc, pm, an, cdv, ct, osl, rfl, lk, hcd⟩ := F.ex
  exact fn_of lk hcd S len fun A outer s H vs Q E hr hsp => hbody cdv A outer s H vs Q E hr hsp
/-- the error a def leaves by -/
abbrev wOut (E : XK) : WX := fun cls d _ H => E cls d H
/-- what a def hands back, or the error C -/
def spR (C : Addr) (dom : List D → Option D → Prop) : Sp := fun vs H Q E => ∃ ds o G, Ex G H ∧ DnL G vs ds ∧ dom ds o ∧ (∀ c, o = some c → ∀ v G2 H2, Gr G H G2 H2 → Dn G2 v c → Q v H2) ∧ (o = none → ∀ H2, Ex H H2 → E (.ref C) none H2)
theorem dnc {G : Hp} {vs : List V} {d : D} {ds : List D} (h : DnL G vs (d :: ds)) : ∃ v r, vs = v :: r ∧ Dn G v d ∧ DnL G r ds := by
  cases h with
  | cons h1 h2 => exact ⟨_, _, rfl, h1, h2⟩
theorem dnn {G : Hp} {vs : List V} (h : DnL G vs []) : vs = [] := by
  cases h
  rfl
section
variable {P : Program} {w : World} {K : PySem.W.Frag} {mg : Str → Option Value} {base : Heap} {σ : L2.St} {G : Hp} {te : TE} {t u v : TS} {tt : TT} {c d : D} {o : Option D} {xk : XK} {C : Addr} {ar : TA}
/-- the block hands back o's value, or leaves by the error C -/
def EvX (xk : XK) (C : Addr) (t : TS) (σ : L2.St) (G : Hp) (o : Option D) : Prop := ∀ H, Ex G H → ∀ E : Ends, (∀ c, o = some c → ∀ v G2 H2, Gr G H G2 H2 → Dn G2 v c → E.rt v H2) → (o = none → ∀ H2, Ex H H2 → xk (.ref C) none H2) → t E σ H
theorem EvS.x (h : EvS t σ G c) : EvX xk C t σ G (some c) := fun H e E q _ => h H e E fun v G2 H2 g n => q c rfl v G2 H2 g n
theorem EvX.go {H H1 G1 : Hp} {E : Ends} (h : EvX xk C t σ G1 o) (g : Gr G H G1 H1) (q : ∀ c, o = some c → ∀ v G2 H2, Gr G H G2 H2 → Dn G2 v c → E.rt v H2) (b : o = none → ∀ H2, Ex H H2 → xk (.ref C) none H2) : t E σ H1 :=
  h H1 g.s E (fun c e v G3 H3 g2 n => q c e v G3 H3 (g.trans g2) n) fun e H3 x => b e H3 (g.h.trans x)
theorem EvX.mono {G' : Hp} (e : Ex G G') (h : EvX xk C t σ G o) : EvX xk C t σ G' o := fun H x E q b => h H (e.trans x) E (fun c ec v G2 H2 g n => by
  obtain ⟨G3, a, b⟩ := grow_up e x g
  exact q c ec v G3 H2 b (Dn.mono a c n)) b
theorem evx_ret (h : EvD te σ G c) : EvX xk C (tRet te) σ G (some c) := (evs_ret h).x
theorem evx_if {b : Bool} (h : EvT tt σ G b) (k1 : b = true → EvX xk C t σ G o) (k2 : b = false → EvX xk C u σ G o) : EvX xk C (tSeq (tIfS tt t tNext) u) σ G o := fun H e E q bad => h H e _ fun G2 H2 g => by
  cases b with
  | true =>
    show t { E with nx := u E } σ H2
    exact ((k1 rfl).mono g.g).go (E := { E with nx := u E }) g q bad
  | false =>
    show u E σ H2
    exact ((k2 rfl).mono g.g).go g q bad
theorem evx_set {i : Nat} (h : EvD te σ G d) (k : ∀ v G2, Ex G G2 → Dn G2 v d → EvX xk C u (σ.set i (some v)) G2 o) : EvX xk C (tSeq (tAsg te (gName i)) u) σ G o := fun H e E q bad => h H e _ fun v G2 H2 g n =>
  (k v G2 g.g n).go g q bad
theorem evx_drop (h : EvD te σ G d) (k : ∀ G2, Ex G G2 → EvX xk C u σ G2 o) : EvX xk C (tSeq (tDrop te) u) σ G o := fun H e E q bad => h H e _ fun v G2 H2 g n => (k G2 g.g).go g q bad
theorem evx_raise : EvX xk C (tRaiseC C (wOut xk)) σ G none := fun H e E q bad => bad rfl H (Ex.refl _)
/-- a call that may leave by the same error -/
theorem evx_dropR {dom : List D → Option D → Prop} {ds : List D} {o1 : Option D} (h : EvA ar σ G ds) (hc : dom ds o1) (k : ∀ c1, o1 = some c1 → ∀ G2, Ex G G2 → EvX xk C u σ G2 o) (hn : o1 = none → o = none) : EvX xk C (tSeq (tDrop (tCallS (spR C dom) (WE (wOut xk)) ar)) u) σ G o := fun H e E q bad =>
  h H e _ fun vs G2 H2 g n => ⟨ds, o1, G2, g.s, n, hc, fun c1 e1 v G3 H3 g2 _ => (k c1 e1 G3 (g.g.trans g2.g)).go (g.trans g2) q bad, fun e1 H3 x => bad (hn e1) H3 (g.h.trans x)⟩
/-- the body of a def that may raise, by data -/
theorem keeps_ofR {x : Str} {st : Stmt} {N ps : List Str} {k : Nat} {dom : List D → Option D → Prop} (S : Stands K mg x st ps) (sc : FnScope N ps (defScope st)) (hl : ∀ ds o, dom ds o → ds.length = ps.length)
    (body : ∀ (f : Addr) (cdv : Value) (A : Around) (outer : List Env) (s : Shared) (H : Hp) (E : XK), Room k (A.deeper (envOfC x (defScope st) s.heap.objs.size f cdv)) →
      ∃ t, PSs (cxOf (L2N.CX P w) P w K mg base N x (defScope st) f cdv A outer s H E) (defBody st) t ∧ ∀ ds o vs G, dom ds o → DnL G vs ds → EvX E C (tSeq t (tRet (tC .non))) (start N vs) G o) :
    Keeps P w K mg base (L2N.CX P w) (k + 1) x ps (spR C dom) := by
  obtain ⟨f, fd, F, hm, hb⟩ := S
  refine ⟨f, fd, okN F sc (fun vs H Q E h => ?_) (fun cdv A outer s H vs Q E hr h => ?_), hm, F.kp, hb⟩
  · obtain ⟨ds, c, G, _, n, hd, _⟩ := h
    rw [n.length]
    exact hl ds c hd
  · obtain ⟨ds, o, G, e, n, hd, q, bad⟩ := h
    obtain ⟨t, ht, hq⟩ := body f cdv A outer s H E hr
    exact ⟨t, ht, hq ds o vs G hd n H e { nx := fun _ H' => Q .non H', rt := Q } q bad⟩
/-- .. where every way hands back or raises -/
theorem keeps_ofR2 {x : Str} {st : Stmt} {N ps : List Str} {k : Nat} {dom : List D → Option D → Prop} (S : Stands K mg x st ps) (sc : FnScope N ps (defScope st)) (hl : ∀ ds o, dom ds o → ds.length = ps.length)
    (body : ∀ (f : Addr) (cdv : Value) (A : Around) (outer : List Env) (s : Shared) (H : Hp) (E : XK), Room k (A.deeper (envOfC x (defScope st) s.heap.objs.size f cdv)) →
      ∃ t, PSs (cxOf (L2N.CX P w) P w K mg base N x (defScope st) f cdv A outer s H E) (defBody st) t ∧ ∀ ds o vs G, dom ds o → DnL G vs ds → EvX E C t (start N vs) G o) :
    Keeps P w K mg base (L2N.CX P w) (k + 1) x ps (spR C dom) := by
  obtain ⟨f, fd, F, hm, hb⟩ := S
  refine ⟨f, fd, okN F sc (fun vs H Q E h => ?_) (fun cdv A outer s H vs Q E hr h => ?_), hm, F.kp, hb⟩
  · obtain ⟨ds, c, G, _, n, hd, _⟩ := h
    rw [n.length]
    exact hl ds c hd
  · obtain ⟨ds, o, G, e, n, hd, q, bad⟩ := h
    obtain ⟨t, ht, hq⟩ := body f cdv A outer s H E hr
    exact ⟨t, ht, hq ds o vs G hd n H e { nx := fun _ H' => Q .non H', rt := Q } q bad⟩
/-- a call that does not leave by its error here -/
theorem evx_dropS {C1 : Addr} {W : WX} {dom : List D → Option D → Prop} {ds : List D} {c1 : D} (h : EvA ar σ G ds) (hc : dom ds (some c1)) (k : ∀ G2, Ex G G2 → EvX xk C u σ G2 o) : EvX xk C (tSeq (tDrop (tCallS (spR C1 dom) (WE W) ar)) u) σ G o := fun H e E q bad =>
  h H e _ fun vs G2 H2 g n => ⟨ds, some c1, G2, g.s, n, hc, fun c2 e2 v G3 H3 g2 _ => (k G3 (g.g.trans g2.g)).go (g.trans g2) q bad, fun e1 => nomatch e1⟩
section
variable {X : Cx} {x : Str} {ps : List Str} {sp : Sp} {k : Nat} {W : WX} {e : Expr} {es : List Expr} {p pos : Pos}
theorem pe_callR (F : Keeps X.prog X.w X.K X.mg X.base (L2N.CX X.prog X.w) k x ps sp) (hr : Room k X.A) (tk : L2N.Takes X W) (ha : PA X (e :: es) ar) (hg : Gl X x := by rfl) (hdb : (x == ("__debug__" : Str)) = false := by decide)
    (he : starEach (e :: es) X.env = (false, eval e X.env) :: starEach es X.env := by rfl) (hpl : (backTo pos (starEach es X.env)).any (·.1) = false := by rfl) : PE X (.Call (.Name x p) (e :: es) [] pos) (tCallS sp (WE W) ar) := by
  obtain ⟨f, fd, ok, hm, hk, hb⟩ := F
  exact pe_callS ok hr hg hm hk hb (fun σ => L2N.passAt tk σ) ha hdb he hpl
end
end
end Sh

namespace Sh
open PySem L2
def topS (i : Nat) : Stmt := PySem.Challenge.pw_surehouse_k10_whole_bills.main.body.getD i (.Pass ⟨0, 0, 0, 0⟩)
end Sh

set_option Elab.async false
set_option linter.all false
set_option maxRecDepth 100000
set_option maxHeartbeats 4000000
namespace Sh
open PySem PySem.Spec L2
open PyProof.Rows hiding St
open Evl (Ex)
/-! ### is_between, is_row -/
abbrev s_is_between : Stmt := topS 10
theorem sc_is_between : FnScope ["value", "low", "high"] ["value", "low", "high"] (defScope s_is_between) := ⟨rfl, rfl, rfl, by decide +kernel, rfl, by decide +kernel, by decide +kernel⟩
abbrev s_is_row : Stmt := topS 11
theorem sc_is_row : FnScope ["value", "least", "most"] ["value", "least", "most"] (defScope s_is_row) := ⟨rfl, rfl, rfl, by decide +kernel, rfl, by decide +kernel, by decide +kernel⟩
def betweenD : D → Int → Int → Bool
  | .int i, lo, hi => decide (lo ≤ i) && decide (i ≤ hi)
  | _, _, _ => false
def domBetween (ds : List D) (c : D) : Prop := ∃ d lo hi, ds = [d, .int lo, .int hi] ∧ c = .bool (betweenD d lo hi)
/-- a tuple of least to most things -/
def rowD : D → Int → Int → Bool
  | .tuple ds, lo, hi => decide (lo ≤ (ds.length : Int)) && decide ((ds.length : Int) ≤ hi)
  | _, _, _ => false
def domRow (ds : List D) (c : D) : Prop := ∃ d lo hi, ds = [d, .int lo, .int hi] ∧ c = .bool (rowD d lo hi)
section
variable {P : Program} {w : World} {K : PySem.W.Frag} {mg : Str → Option Value} {base : Heap}
theorem keeps_between (B : Bi mg) (S : Stands K mg "is_between" s_is_between ["value", "low", "high"]) : Keeps P w K mg base CX0 1 "is_between" ["value", "low", "high"] (spD domBetween) := by
  refine keeps_of S sc_is_between (fun ds c h => ?_) (fun f cdv A outer s H E hr => ⟨_, (pss_one (ps_ret (pe_and (pe_callB call_isi rfl B.isinstance bi_isinstance (pa_cons (pv 0) (pa_cons (pe_ty B.int bi_int) pa_nil))) (pe_and (pe_not (pe_callB call_isi rfl B.isinstance bi_isinstance (pa_cons (pv 0) (pa_cons (pe_ty B.bool bi_bool) pa_nil)))) (pe_one (pe_chain op_le op_le (pv 1) (pv 0) (pv 2))))))), fun ds c vs G h n => ?_⟩)
  · obtain ⟨d, lo, hi, rfl, _⟩ := h
    rfl
  · obtain ⟨d, lo, hi, rfl, rfl⟩ := h
    obtain ⟨v, v1, v2, rfl, n0, n1, n2⟩ := dn3 n
    refine evs_ret (evd_is (evd_and (b := betweenD d lo hi) (evd_isi (evd_at n0) (kit_int d)) (fun h1 => evd_is (evd_and (b := betweenD d lo hi) (evd_not (evd_isi (evd_at n0) (kit_bool d))) (fun h2 => ?_)) ?_)) ?_)
    · cases d with
      | int i => exact evd_chain (evd_at n1) (evd_at n0) (evd_at n2) (r_I0 fun _ => .bl _) (fun _ => r_I0 fun _ => .bl _)
      | bool b => exact absurd (show false = true from h2) Bool.false_ne_true
      | _ => exact absurd (show false = true from h1) Bool.false_ne_true
    · cases d <;> rfl
    · cases d <;> rfl
theorem keeps_row (B : Bi mg) (S : Stands K mg "is_row" s_is_row ["value", "least", "most"]) : Keeps P w K mg base CX0 1 "is_row" ["value", "least", "most"] (spD domRow) := by
  refine keeps_of S sc_is_row (fun ds c h => ?_) (fun f cdv A outer s H E hr => ⟨_, (pss_one (ps_ret (pe_and (pe_callB call_isi rfl B.isinstance bi_isinstance (pa_cons (pv 0) (pa_cons (pe_ty B.tuple bi_tuple) pa_nil))) (pe_one (pe_chain op_le op_le (pv 1) (pe_callB call_len rfl B.len bi_len (pa_cons (pv 0) pa_nil)) (pv 2)))))), fun ds c vs G h n => ?_⟩)
  · obtain ⟨d, lo, hi, rfl, _⟩ := h
    rfl
  · obtain ⟨d, lo, hi, rfl, rfl⟩ := h
    obtain ⟨v, v1, v2, rfl, n0, n1, n2⟩ := dn3 n
    refine evs_ret (evd_is (evd_and (b := rowD d lo hi) (evd_isi (evd_at n0) (kit_tuple d)) (fun h1 => ?_)) ?_)
    · cases d with
      | tuple ds => exact evd_chain (evd_at n1) (evd_cb (ea_cons (evd_at n0) ea_nil) (r_lenT rfl)) (evd_at n2) (r_I0 fun _ => .bl _) (fun _ => r_I0 fun _ => .bl _)
      | _ => exact absurd (show false = true from h1) Bool.false_ne_true
    · cases d <;> rfl
end
end Sh

set_option Elab.async false
set_option linter.all false
set_option maxRecDepth 100000
set_option maxHeartbeats 4000000
/-! len(set(xs)): a set filled from a list or a tuple, whatever its keys; unlike texts, unlike tuples of texts. -/
namespace ShT
open PySem PySem.Spec PyProof.Rows L2
/-- how a set at S takes the items: Iv tells of the set behind i items -/
structure Fills (P : Program) (w : World) (S : Addr) (n : Nat) (Pv : Nat → Value → Prop) (h0 : Heap) (Iv : Nat → Heap → Prop) : Prop where
  keep : ∀ i h h', Iv i h → (∀ o, h.get? S = some o → h'.get? S = some o) → Iv i h'
  step : ∀ (i : Nat) (v : Value) (A : Around) (E : Value → Shared → Prop) (s : Shared), A.units < cLine → i < n → Pv i v → Iv i s.heap → (∀ b o, h0.get? b = some o → s.heap.get? b = some o) → ∀ Q : Bool → Shared → Prop,
    (∀ b h' tk, Heap.SameBut S s.heap h' → s.toks ≤ tk → Iv (i + 1) h' → Q b { s with heap := h', toks := tk }) → wpAny (model P w) A (setAdd S v) Q E s
abbrev freshSet (w : World) : Obj := { cls := .type "set", dict := none, data := .set #[] 0 (.fresh 0 0 (!w.params.followText "set-order")) }
section
variable {P : Program} {w : World} {A : Around} {E : Value → Shared → Prop} {s : Shared}
theorem fill_loop {I : Addr} {fp wr : List Addr} {G : Array GenState → Array GenState → Prop} {n : Nat} {Pv : Nat → Value → Prop} {St : Nat → Shared → Prop} {R : Result → Shared → Prop} {S : Addr} {h0 : Heap} {Iv : Nat → Heap → Prop}
    (W : WalksS P w A.in1 I fp wr G n Pv St) (Fi : Fills P w S n Pv h0 Iv) (hSf : S ∉ fp) (hS0 : h0.get? S = none) (hw0 : ∀ b ∈ wr, h0.get? b = none) (hu : A.in1.units < cLine) :
    ∀ (left done : Nat) (s : Shared), n - done = left → done ≤ n → St done s → (∀ b o, h0.get? b = some o → s.heap.get? b = some o) → Iv done s.heap →
      (∀ s', Moved (S :: wr) G s s' → Iv n s'.heap → (∀ b o, h0.get? b = some o → s'.heap.get? b = some o) → R (.ok (.ret .none)) s') →
      codeAny (model P w) A (.builtin "set.update.loop" ⟨[.ref S, .ref I], []⟩) R s := by
  have apart : S ∉ wr := fun h => hSf (W.sub _ h)
  have wide : ∀ b ∈ wr, b ∈ S :: wr := fun b hb => List.mem_cons_of_mem _ hb
  have stays : ∀ {s s' : Shared}, Moved wr G s s' → (∀ b o, h0.get? b = some o → s.heap.get? b = some o) → ∀ b o, h0.get? b = some o → s'.heap.get? b = some o := fun m k b o e =>
    m.heap b o (fun z => by rw [hw0 b z] at e; cases e) (k b o e)
  intro left
  induction left with
  | zero =>
    intro done s e1 e2 st k iv fin
    obtain rfl : done = n := by omega
    refine codeAny_builtin F.entry_set_update_loop ?_
    rw [Around.under_plainId F.plain_set_update_loop _]
    refine wpAny_bind (W.done s _ _ st fun s' m => ?_)
    exact wpAny_pure (fin s' (m.mono wide) (Fi.keep _ _ _ iv fun o z => m.heap S o apart z) (stays m k))
  | succ left ih =>
    intro done s e1 e2 st k iv fin
    have lt : done < n := by omega
    refine codeAny_builtin F.entry_set_update_loop ?_
    rw [Around.under_plainId F.plain_set_update_loop _]
    refine wpAny_bind (W.item done s _ _ lt st fun v s1 pv st1 m => ?_)
    have k1 := stays m k
    refine wpAny_bind (wpAny_holding ?_)
    refine Fi.step done v A.in1 _ s1 hu lt pv (Fi.keep _ _ _ iv fun o z => m.heap S o apart z) k1 _ fun b h' tk sb ht iv2 => ?_
    have k2 : ∀ b o, h0.get? b = some o → h'.get? b = some o := fun b o z => (sb.2 b (fun y => by rw [y, hS0] at z; cases z)).trans (k1 b o z)
    refine wpAny_pure ⟨plainId_quiet F.plain_set_update_loop _, ih (done + 1) _ (by omega) lt (W.frame _ s1 _ _ st1 ht fun b hb o z => ?_) k2 iv2 fun s2 m2 iv3 k3 => fin s2 (Moved.trans W.gtrans ((m.mono wide).then_heap ht fun b o hb z => ?_) m2) iv3 k3⟩
    · rw [sb.2 b (fun y : b = S => hSf (by rw [← y]; exact hb))]
      exact z
    · rw [sb.2 b (fun y : b = S => hb (by rw [y]; exact List.mem_cons_self))]
      exact z

set_option maxHeartbeats 8000000 in
theorem call_set_list {l : Addr} {items : Array Value} {Iv : Nat → Heap → Prop} {Q : Value → Shared → Prop} (hh : A.handled = none) (hl : s.heap.IsList l items) (hu : A.units + 3 < cLine)
    (Fi : Fills P w s.heap.objs.size items.size (fun i v => items[i]? = some v) s.heap Iv) (first : ∀ h : Heap, h.get? s.heap.objs.size = some (freshSet w) → Iv 0 h)
    (fin : ∀ (h' : Heap) (tk : Nat), Iv items.size h' → (∀ b o, s.heap.get? b = some o → h'.get? b = some o) → Q (.ref s.heap.objs.size) { s with heap := h', toks := tk }) :
    wpAny (model P w) A (call (.type "set") [.ref l]) Q E s := by
  obtain ⟨c0, tl0, mro0⟩ := F.called_set.mro
  have mk0 := F.called_set.made
  have sb0 := F.called_set.sub
  have nt0 := F.called_set.notType
  have cc0 := F.called_set.canCreate
  have tc0 := F.typeCall_set_1 (.ref l)
  have gone : ∀ b, s.heap.objs.size ≤ b → s.heap.get? b = none := fun b hb => by
    cases z : s.heap.get? b with
    | none => rfl
    | some o => exact absurd (Nat.lt_of_lt_of_le (Heap.lt_size z) hb) (Nat.lt_irrefl _)
  refine wpAny_call (codeAny_of_tree ?_)
  show wpAny _ _ (callAny (.type "set") _) _ _ _
  refine wpAny_pure ⟨Code.quiet_builtin _ (by decide +kernel), codeAny_builtin F.entry_type_call ?_⟩
  rw [Around.under_plain (weight_type_call_type "set" [.ref l] []) rfl]
  repeat (any_goals (first | assumption | wp_step))
  refine codeAny_mono (code_set_led1 (.ref l) (E := E) (Q₁ := fun v t => v = .ref s.heap.objs.size ∧ t = { s with heap := s.heap.push (freshSet w) }) ⟨rfl, rfl⟩) fun r t hr => ?_
  match r, hr with
  | .error e, hr => exact hr
  | .ok .next, hr => exact hr.elim
  | .ok .brk, hr => exact hr.elim
  | .ok .cont, hr => exact hr.elim
  | .ok (.ret v), ⟨ev, et⟩ =>
    subst ev et
    have got : (s.heap.push (freshSet w)).get? s.heap.objs.size = some (freshSet w) := Heap.get?_push_size _ rfl
    have isT : Shared.TypeIs { s with heap := s.heap.push (freshSet w) } (.ref s.heap.objs.size) "set" := ⟨_, got, rfl⟩
    have li0 := F.called_set.init.lookup
    have bi0 := F.called_set.init.bind (.ref s.heap.objs.size)
    repeat (any_goals (first | assumption | wp_step))
    refine codeAny_mono (codeAny_call_builtin (R := wants (fun v t => v = .none ∧ ∃ h' tk, t = { s with heap := h', toks := tk } ∧ Iv items.size h' ∧ ∀ b o, s.heap.get? b = some o → h'.get? b = some o) E)
      F.called_set.init.plain F.entry_set_init (check_set_init_1 isT ?_)) fun r t hr => ?_
    · obtain ⟨ol, hol, hcl, nl, hdl⟩ := hl
      obtain ⟨oc, od, dat, sl⟩ := ol
      simp only at hcl hdl
      subst hcl
      subst hdl
      have hol' : (s.heap.push (freshSet w)).get? l = some { cls := .type "list", dict := od, data := .seq items nl, slots := sl } := Heap.get?_push_of_some _ hol
      have sub1 := F.sub_list_set
      have sub2 := F.sub_list_frozenset
      have nd1 : (Value.type "list" == Value.type "dict") = false := by decide
      have hl1 : (s.heap.push (freshSet w)).IsList l items := ⟨_, hol', rfl, nl, rfl⟩
      unfold Builtin.«set.__init__» noKeywords Builtin.Frozenset.updateFrom
      generalize hPI : pyIter = PI
      wp_walk
      subst hPI
      refine wpAny_pyIter_list hl1 ?_
      refine wpAny_bind (wpAny_runValue ?_)
      have lS : l < s.heap.objs.size := Heap.lt_size hol
      have hh3 : A.in1.in1.in1.handled = none := by simp [hh]
      have sz1 : (s.heap.push (freshSet w)).objs.size = s.heap.objs.size + 1 := Heap.size_push ..
      have ne1 : l ≠ (s.heap.push (freshSet w)).objs.size := by
        rw [sz1]
        exact Nat.ne_of_lt (Nat.lt_succ_of_lt lS)
      have out : s.heap.objs.size ∉ [(s.heap.push (freshSet w)).objs.size, l] := by
        rw [sz1]
        simp only [List.mem_cons, List.not_mem_nil, or_false, not_or]
        exact ⟨Nat.ne_of_lt (Nat.lt_succ_self _), Nat.ne_of_gt lS⟩
      refine fill_loop ((Walks.list hh3 _ l ne1 items).toS) Fi out (gone _ (Nat.le_refl _)) (fun b hb => gone b (by
          rw [List.mem_singleton.mp hb, sz1]
          exact Nat.le_succ _)) hu (items.size - 0) 0 _ (by omega) (Nat.zero_le _) ⟨⟨_, Heap.get?_push_size _ rfl, rfl, rfl⟩, (hl1.push _)⟩ (fun b o z => Heap.get?_push_of_some _ (Heap.get?_push_of_some _ z))
        (first _ (Heap.get?_push_of_some _ got)) (fun s2 m iv k => ?_)
      obtain ⟨h2, g2, d2, t2, os2⟩ := s2
      obtain rfl : g2 = s.gens := m.gens
      obtain rfl : d2 = s.drawn := m.drawn
      obtain rfl : os2 = s.os := m.os
      show wpAny _ _ _ _ _ _
      refine wpAny_pure ?_
      show wpAny _ _ (ret Value.none) _ _ _
      exact wpAny_pure ⟨rfl, h2, t2, rfl, iv, k⟩
    · match r, hr with
      | .error e, hr => exact hr
      | .ok .next, hr => exact hr.elim
      | .ok .brk, hr => exact hr.elim
      | .ok .cont, hr => exact hr.elim
      | .ok (.ret v), ⟨ev, h2, t2, et, iv, k⟩ =>
        subst ev et
        repeat (any_goals (first | assumption | wp_step))
        exact fin _ _ iv k

set_option maxHeartbeats 8000000 in
theorem call_set_tuple {l : Addr} {items : Array Value} {Iv : Nat → Heap → Prop} {Q : Value → Shared → Prop} (hh : A.handled = none) (hl : s.heap.IsTuple l items) (hu : A.units + 3 < cLine)
    (Fi : Fills P w s.heap.objs.size items.size (fun i v => items[i]? = some v) s.heap Iv) (first : ∀ h : Heap, h.get? s.heap.objs.size = some (freshSet w) → Iv 0 h)
    (fin : ∀ (h' : Heap) (tk : Nat), Iv items.size h' → (∀ b o, s.heap.get? b = some o → h'.get? b = some o) → Q (.ref s.heap.objs.size) { s with heap := h', toks := tk }) :
    wpAny (model P w) A (call (.type "set") [.ref l]) Q E s := by
  obtain ⟨c0, tl0, mro0⟩ := F.called_set.mro
  have mk0 := F.called_set.made
  have sb0 := F.called_set.sub
  have nt0 := F.called_set.notType
  have cc0 := F.called_set.canCreate
  have tc0 := F.typeCall_set_1 (.ref l)
  have gone : ∀ b, s.heap.objs.size ≤ b → s.heap.get? b = none := fun b hb => by
    cases z : s.heap.get? b with
    | none => rfl
    | some o => exact absurd (Nat.lt_of_lt_of_le (Heap.lt_size z) hb) (Nat.lt_irrefl _)
  refine wpAny_call (codeAny_of_tree ?_)
  show wpAny _ _ (callAny (.type "set") _) _ _ _
  refine wpAny_pure ⟨Code.quiet_builtin _ (by decide +kernel), codeAny_builtin F.entry_type_call ?_⟩
  rw [Around.under_plain (weight_type_call_type "set" [.ref l] []) rfl]
  repeat (any_goals (first | assumption | wp_step))
  refine codeAny_mono (code_set_led1 (.ref l) (E := E) (Q₁ := fun v t => v = .ref s.heap.objs.size ∧ t = { s with heap := s.heap.push (freshSet w) }) ⟨rfl, rfl⟩) fun r t hr => ?_
  match r, hr with
  | .error e, hr => exact hr
  | .ok .next, hr => exact hr.elim
  | .ok .brk, hr => exact hr.elim
  | .ok .cont, hr => exact hr.elim
  | .ok (.ret v), ⟨ev, et⟩ =>
    subst ev et
    have got : (s.heap.push (freshSet w)).get? s.heap.objs.size = some (freshSet w) := Heap.get?_push_size _ rfl
    have isT : Shared.TypeIs { s with heap := s.heap.push (freshSet w) } (.ref s.heap.objs.size) "set" := ⟨_, got, rfl⟩
    have li0 := F.called_set.init.lookup
    have bi0 := F.called_set.init.bind (.ref s.heap.objs.size)
    repeat (any_goals (first | assumption | wp_step))
    refine codeAny_mono (codeAny_call_builtin (R := wants (fun v t => v = .none ∧ ∃ h' tk, t = { s with heap := h', toks := tk } ∧ Iv items.size h' ∧ ∀ b o, s.heap.get? b = some o → h'.get? b = some o) E)
      F.called_set.init.plain F.entry_set_init (check_set_init_1 isT ?_)) fun r t hr => ?_
    · obtain ⟨ol, hol, hcl, nl, hdl⟩ := hl
      obtain ⟨oc, od, dat, sl⟩ := ol
      simp only at hcl hdl
      subst hcl
      subst hdl
      have hol' : (s.heap.push (freshSet w)).get? l = some { cls := .type "tuple", dict := od, data := .seq items nl, slots := sl } := Heap.get?_push_of_some _ hol
      have sub1 := F.sub_tuple_set
      have sub2 := F.sub_tuple_frozenset
      have nd1 : (Value.type "tuple" == Value.type "dict") = false := by decide
      have hl1 : (s.heap.push (freshSet w)).IsTuple l items := ⟨_, hol', rfl, nl, rfl⟩
      unfold Builtin.«set.__init__» noKeywords Builtin.Frozenset.updateFrom
      generalize hPI : pyIter = PI
      wp_walk
      subst hPI
      refine wpAny_pyIter_tuple hl1 ?_
      refine wpAny_bind (wpAny_runValue ?_)
      have lS : l < s.heap.objs.size := Heap.lt_size hol
      have hh3 : A.in1.in1.in1.handled = none := by simp [hh]
      have sz1 : (s.heap.push (freshSet w)).objs.size = s.heap.objs.size + 1 := Heap.size_push ..
      have ne1 : l ≠ (s.heap.push (freshSet w)).objs.size := by
        rw [sz1]
        exact Nat.ne_of_lt (Nat.lt_succ_of_lt lS)
      have out : s.heap.objs.size ∉ [(s.heap.push (freshSet w)).objs.size, l] := by
        rw [sz1]
        simp only [List.mem_cons, List.not_mem_nil, or_false, not_or]
        exact ⟨Nat.ne_of_lt (Nat.lt_succ_self _), Nat.ne_of_gt lS⟩
      refine fill_loop ((Walks.tuple hh3 _ l ne1 items).toS) Fi out (gone _ (Nat.le_refl _)) (fun b hb => gone b (by
          rw [List.mem_singleton.mp hb, sz1]
          exact Nat.le_succ _)) hu (items.size - 0) 0 _ (by omega) (Nat.zero_le _) ⟨⟨_, Heap.get?_push_size _ rfl, rfl, rfl⟩, (hl1.push _)⟩ (fun b o z => Heap.get?_push_of_some _ (Heap.get?_push_of_some _ z))
        (first _ (Heap.get?_push_of_some _ got)) (fun s2 m iv k => ?_)
      obtain ⟨h2, g2, d2, t2, os2⟩ := s2
      obtain rfl : g2 = s.gens := m.gens
      obtain rfl : d2 = s.drawn := m.drawn
      obtain rfl : os2 = s.os := m.os
      show wpAny _ _ _ _ _ _
      refine wpAny_pure ?_
      show wpAny _ _ (ret Value.none) _ _ _
      exact wpAny_pure ⟨rfl, h2, t2, rfl, iv, k⟩
    · match r, hr with
      | .error e, hr => exact hr
      | .ok .next, hr => exact hr.elim
      | .ok .brk, hr => exact hr.elim
      | .ok .cont, hr => exact hr.elim
      | .ok (.ret v), ⟨ev, h2, t2, et, iv, k⟩ =>
        subst ev et
        repeat (any_goals (first | assumption | wp_step))
        exact fin _ _ iv k
end
end ShT

set_option Elab.async false
set_option linter.all false
set_option maxRecDepth 100000
set_option maxHeartbeats 4000000
/-! unlike texts, unlike tuples of texts, into a set -/
namespace ShT
open PySem PySem.Spec PyProof.Rows L2
section
variable {P : Program} {w : World} {A : Around} {E : Value → Shared → Prop} {s : Shared}
/-! ### texts -/
/-- the set at S has the first i of the texts -/
def TxtIn (P : Program) (w : World) (S : Addr) (xs : List Str) (i : Nat) (h : Heap) : Prop := h.SetOf (PySem.strKind P w) S (fun k => decide (k ∈ xs.take i)) i
theorem setOf_turn {κ : Type} [DecidableEq κ] {knd : KeyKind P w κ} {h : Heap} {a : Addr} {S T : κ → Bool} {n m : Nat} (x : h.SetOf knd a S n) (e : ∀ k, T k = S k) (hn : n = m) : h.SetOf knd a T m := by
  obtain ⟨o, es, ep, t, h1, h2, h3, h4, h5, h6⟩ := x
  subst hn
  exact ⟨o, es, ep, t, h1, h2, h3, h4, fun k => by rw [e k]; exact h5 k, h6⟩
theorem not_ahead {α : Type} [DecidableEq α] {xs : List α} (nd : xs.Nodup) {i : Nat} {x : α} (h : xs[i]? = some x) : x ∉ xs.take i := fun hm => by
  obtain ⟨j, hj⟩ := List.mem_iff_getElem?.mp hm
  rw [List.getElem?_take] at hj
  by_cases c : j < i
  · rw [if_pos c] at hj
    obtain ⟨l1, e1⟩ := List.getElem?_eq_some_iff.mp hj
    obtain ⟨l2, e2⟩ := List.getElem?_eq_some_iff.mp h
    have := (List.getElem_inj nd).mp (e1.trans e2.symm)
    omega
  · rw [if_neg c] at hj
    cases hj
theorem txt_fills {S : Addr} {xs : List Str} {items : Array Value} {h0 : Heap} (hx : ∀ (i : Nat) (v : Value), items[i]? = some v → ∃ x t, xs[i]? = some x ∧ v = .str x t) (nd : xs.Nodup) (hb : xs.length < 4000) (hn : items.size = xs.length) :
    Fills P w S items.size (fun i v => items[i]? = some v) h0 (TxtIn P w S xs) where
  keep := fun i h h' ⟨o, es, ep, t, h1, r⟩ k => ⟨o, es, ep, t, k o h1, r⟩
  step := fun i v A E s hu hi hv iv _ Q q => by
    obtain ⟨x, t, ex, rfl⟩ := hx i v hv
    have fresh : decide (x ∈ xs.take i) = false := decide_eq_false (not_ahead nd ex)
    unfold setAdd
    refine wpAny_holding (wpAny_bind ((PySem.strKind P w).pyHash (k := x) (strKind_is _ _ _ _) ?_))
    refine wpAny_setAddHashed_of (knd := PySem.strKind P w) (s := { s with toks := s.toks + 1 }) (strKind_is _ _ _ _) rfl iv (by unfold scanBound; omega) fun h' sb r => ?_
    refine q _ h' (s.toks + 1) sb (Nat.le_succ _) (setOf_turn r (fun k => ?_) ?_)
    · show decide (k ∈ xs.take (i + 1)) = (decide (k ∈ xs.take i) || decide (k = x))
      rw [List.take_add_one, ex]
      simp [List.mem_append]
    · show (if decide (x ∈ xs.take i) = true then i else i + 1) = i + 1
      rw [fresh]
      rfl
theorem txt_first {S : Addr} {xs : List Str} (h : Heap) (e : h.get? S = some (freshSet w)) : TxtIn P w S xs 0 h :=
  ⟨_, #[], 0, _, e, ⟨rfl, rfl, rfl⟩, rfl, fun e he => by simp at he, fun k => by simp, by decide, by rfl, rfl⟩

/-! ### tuples of texts -/
abbrev TupS (P : Program) (w : World) (h : Heap) (k : List Str) (a : Addr) : Prop := IsTupleKey (PySem.strKind P w) h k a
abbrev hashT (P : Program) (w : World) (k : List Str) : Int := tupleKeyHash (PySem.strKind P w) k
theorem texts_of {k : List Str} {vs : List Value} (h : ItemsAre (PySem.strKind P w) k vs) : ∀ v ∈ vs, ∃ x t, v = Value.str x t := by
  induction h with
  | nil => exact fun v hv => absurd hv (by simp)
  | @cons x v' ks vs h1 _ ih =>
    intro v hv
    rcases List.mem_cons.mp hv with rfl | hv
    · obtain ⟨t, e⟩ := Value.isStrOf_shape h1
      exact ⟨x, t, e⟩
    · exact ih v hv
/-- a question asked of each text in turn that is answered so that the loop goes on -/
theorem ask_each {body : Value → Option Bool × PUnit → Sem (ForInStep (Option Bool × PUnit))} {vs : List Value} (ht : ∀ v ∈ vs, ∃ x t, v = Value.str x t)
    (one : ∀ x t (Q : ForInStep (Option Bool × PUnit) → Shared → Prop), Q (.yield (none, ⟨⟩)) s → wpAny (model P w) A (body (.str x t) (none, ⟨⟩)) Q E s) {Q : Option Bool × PUnit → Shared → Prop} (h : Q (none, ⟨⟩) s) :
    wpAny (model P w) A (forIn vs (none, ⟨⟩) body) Q E s := by
  refine wpAny_forIn_list _ (fun rest r s' => r = (none, ⟨⟩) ∧ s' = s ∧ ∀ v ∈ rest, ∃ x t, v = Value.str x t) _ ?_ ?_ _ _ ⟨rfl, rfl, ht⟩
  · rintro v rest r s' ⟨rfl, rfl, all⟩
    obtain ⟨x, t, rfl⟩ := all v List.mem_cons_self
    exact one x t _ ⟨rfl, rfl, fun u hu => all u (List.mem_cons_of_mem _ hu)⟩
  · rintro r s' ⟨rfl, rfl, _⟩
    exact h
theorem noClass_txt (n : Nat) (x : Str) (t : Tok) : ofAClassStatement n (.str x t) = pure false := by cases n <;> rfl
theorem notPlain_txt (n : Nat) (x : Str) (t : Tok) : hashByValue n (.str x t) = pure false := by cases n <;> rfl
theorem noClass_tup {k : List Str} {b : Addr} {Q : Bool → Shared → Prop} (hk : TupS P w s.heap k b) (h : Q false s) : wpAny (model P w) A (ofAClassStatement 8 (.ref b)) Q E s := by
  have ty := hk.typeIs
  obtain ⟨o, items, n, ho, _, hd, hi⟩ := hk
  unfold ofAClassStatement
  refine wpAny_bind (wpAny_typeOf ty ?_)
  dsimp only
  simp only [show (("tuple" : String) == "tuple") = true by decide, if_true]
  try refine wpAny_bind (wpAny_pure ?_)
  simp only [Bool.not_true, Bool.false_eq_true, if_false]
  try refine wpAny_bind (wpAny_pure ?_)
  refine wpAny_bind (wpAny_seqItems ho hd ?_)
  dsimp only
  rw [← Array.forIn_toList]
  refine wpAny_bind (ask_each (texts_of hi) (fun x t Q' q => ?_) ?_)
  · rw [noClass_txt]
    refine wpAny_bind (wpAny_pure ?_)
    simp only [Bool.false_eq_true, if_false]
    exact wpAny_pure q
  · exact wpAny_pure h
theorem byValue_tup {k : List Str} {b : Addr} {Q : Bool → Shared → Prop} (hk : TupS P w s.heap k b) (h : ∀ c, Q c s) : wpAny (model P w) A (hashByValue 8 (.ref b)) Q E s := by
  have ty := hk.typeIs
  obtain ⟨o, items, n, ho, _, hd, hi⟩ := hk
  unfold hashByValue
  refine wpAny_bind (wpAny_specialOf ty PySem.F.slot_tuple_hash.lookup ?_)
  show wpAny _ _ (seqItems? (.ref b) >>= _) _ _ s
  refine wpAny_bind (wpAny_seqItems ho hd ?_)
  rw [← Array.forIn_toList]
  refine wpAny_bind (wpAny_forIn_list _ (fun rest (r : Option Bool × PUnit) s' => s' = s ∧ ∀ v ∈ rest, ∃ x t, v = Value.str x t) _ ?_ ?_ _ _ ⟨rfl, texts_of hi⟩)
  · rintro v rest r s' ⟨rfl, all⟩
    obtain ⟨x, t, rfl⟩ := all v List.mem_cons_self
    rw [notPlain_txt]
    refine wpAny_bind (wpAny_pure ?_)
    simp only [Bool.not_false, if_true]
    exact wpAny_pure (wpAny_pure (h false))
  · rintro ⟨r1, r2⟩ s' ⟨rfl, _⟩
    cases r1 with
    | none => exact wpAny_pure (h true)
    | some c => exact wpAny_pure (h c)
/-- a search among such tuples shows nothing -/
theorem unseen {k : List Str} {b : Addr} {ys : List Value} {Q : Bool → Shared → Prop} (hk : TupS P w s.heap k b) (hy : ∀ y ∈ ys, ∃ k' c, y = Value.ref c ∧ TupS P w s.heap k' c) (h : Q false s) : wpAny (model P w) A (searchCouldBeSeen (.ref b) ys) Q E s := by
  unfold searchCouldBeSeen
  refine wpAny_bind (wpAny_forIn_list _ (fun rest r s' => r = (none, ⟨⟩) ∧ s' = s ∧ ∀ y ∈ rest, ∃ k' c, y = Value.ref c ∧ TupS P w s.heap k' c) _ ?_ ?_ _ _ ⟨rfl, rfl, hy⟩)
  · rintro y rest r s' ⟨rfl, rfl, all⟩
    obtain ⟨k', c, rfl, hc⟩ := all y List.mem_cons_self
    have next : ∀ y ∈ rest, ∃ k' c, y = Value.ref c ∧ TupS P w s'.heap k' c := fun u hu => all u (List.mem_cons_of_mem _ hu)
    dsimp only
    by_cases e : (b == c || (carriedByValue (.ref b) && carriedByValue (.ref c))) = true
    · exact wp_if_pos e (wpAny_pure ⟨rfl, rfl, next⟩)
    · refine wp_if_neg e (wpAny_bind (wpAny_eqIsQuiet_tuple hk ?_))
      simp only [Bool.not_true, Bool.false_eq_true, if_false]
      refine wpAny_bind (wpAny_eqIsQuiet_tuple hc ?_)
      simp only [Bool.not_true, Bool.false_eq_true, if_false]
      refine wpAny_bind (noClass_tup hk ?_)
      simp only [Bool.false_eq_true, if_false]
      refine wpAny_bind (noClass_tup hc ?_)
      simp only [Bool.false_eq_true, if_false]
      exact wpAny_pure ⟨rfl, rfl, next⟩
  · rintro r s' ⟨rfl, rfl, _⟩
    exact wpAny_pure h
end
end ShT

set_option Elab.async false
set_option linter.all false
set_option maxRecDepth 100000
set_option maxHeartbeats 4000000
namespace ShT
open PySem PySem.Spec PyProof.Rows L2
section
variable {P : Program} {w : World} {A : Around} {E : Value → Shared → Prop} {s : Shared}
abbrev rowT (P : Program) (w : World) (p : Addr × List Str) : Int × Value := (hashT P w p.2, Value.ref p.1)
/-- the set at a has the tuples L, in the order of its table -/
structure TabAt (P : Program) (w : World) (h : Heap) (a : Addr) (L : List (Addr × List Str)) (es : Array (Int × Value)) (ep : Nat) (t : SetTable) : Prop where
  ob : ∃ o, h.get? a = some o ∧ o.ExactSet ∧ o.data = .set es ep t
  rows : es.toList = L.map (rowT P w)
  tab : TabOk t (L.map fun p => hashT P w p.2)
  led : w.params.followText "set-order" = true ∨ t.led = true
  room : L.length * 5 < t.mask * 3
  few : L.length < 64
variable {a : Addr} {L : List (Addr × List Str)} {es : Array (Int × Value)} {ep : Nat} {t : SetTable}
theorem rows_size (h : es.toList = L.map (rowT P w)) : es.size = L.length := by
  have e := congrArg List.length h
  rwa [Array.length_toList, List.length_map] at e
theorem row_at (h : es.toList = L.map (rowT P w)) {i : Nat} {p : Addr × List Str} (hp : L[i]? = some p) : es[i]? = some (rowT P w p) := by
  rw [← Array.getElem?_toList, h, List.getElem?_map, hp]
  rfl
theorem TabAt.fits (R : TabAt P w s.heap a L es ep t) : t.fits es.size = true := by
  have z := R.tab.sz
  rw [List.length_map] at z
  have y := rows_size R.rows
  have r := R.room
  unfold SetTable.fits SetTable.fill
  rw [R.tab.dm, Bool.and_eq_true, beq_iff_eq, decide_eq_true_eq]
  refine ⟨by omega, ?_⟩
  show t.place.size + 0 ≤ t.mask
  omega
theorem no_dummy (m : Nat) : ∀ (n : Nat) (p : SetTable.Probe), p.dummy = none → (nth m p n).dummy = none
  | 0, _, h => h
  | n + 1, p, h => no_dummy m n (adv m p) (by
      unfold adv
      split <;> exact h)
/-- where the way of a hash stands behind c steps -/
abbrev wayAt (m : Nat) (h : Int) (c : Nat) : SetTable.Probe := nth m (runAt m (SetTable.bits h % (m + 1)) (SetTable.bits h)) c
theorem wayAt_add (m : Nat) (h : Int) (c q : Nat) : nth m (wayAt m h c) q = wayAt m h (c + q) := (nth_add m c _ q).symm
/-- the table doesn't give way -/
theorem stands (R : TabAt P w s.heap a L es ep t) : ¬ t.gaveWay = true := by
  unfold SetTable.gaveWay
  rw [mask_odd R.tab.mok]
  decide
/-- a search for what is not there comes to the first empty slot of its way -/
theorem search_new (R : TabAt P w s.heap a L es ep t) (tup : ∀ p ∈ L, TupS P w s.heap p.2 p.1) {x : Addr} {k : List Str} (hx : TupS P w s.heap k x) (hu : A.units < cLine) (new : ∀ p ∈ L, p.2 ≠ k) {K : Nat} (hKf : K < 10 * SetTable.turns t.mask)
    (hK : (wayAt t.mask (hashT P w k) K).j ∉ t.place.toList) (hKb : ∀ c, c < K → (wayAt t.mask (hashT P w k) c).j ∈ t.place.toList) {Q : SetFound → Shared → Prop} (q : Q (.free (wayAt t.mask (hashT P w k) K).j false) s) :
    ∀ (f c : Nat) (stand : Option SetTable.Probe), stand.getD (t.probeStart (hashT P w k)) = wayAt t.mask (hashT P w k) c → c ≤ K → K - c < f → wpAny (model P w) A (setSearchFrom a (.ref x) (hashT P w k) true f stand) Q E s
  | 0, c, _, _, _, hf => absurd hf (Nat.not_lt_zero _)
  | f + 1, c, stand, hst, hc, hf => by
    obtain ⟨o, ho, hex, hd⟩ := R.ob
    rw [setSearchFrom_succ]
    refine wpAny_bind (wpAny_setState_of ho hd R.fits ?_)
    dsimp only
    refine wp_if_neg (stands R) ?_
    try refine wpAny_bind (wpAny_pure ?_)
    have told := go_spec t R.tab.ris R.tab.dm (fun i => (es[i]?.map (·.1)).getD 0) (hashT P w k) (10 * SetTable.turns t.mask) (K - c) (wayAt t.mask (hashT P w k) c) (no_dummy t.mask c _ rfl) (by omega)
      (fun n hn => by rw [wayAt_add]; exact hKb (c + n) (by omega)) (by rw [wayAt_add, show c + (K - c) = K by omega]; exact hK)
    have prb : t.probe (fun i => (es[i]?.map (·.1)).getD 0) (hashT P w k) (stand.getD (t.probeStart (hashT P w k))) = SetTable.probe.go t (fun i => (es[i]?.map (·.1)).getD 0) (hashT P w k) (10 * SetTable.turns t.mask) (wayAt t.mask (hashT P w k) c) := by
      rw [hst]
      rfl
    rcases told with ⟨n, i, hn, hi, _, _, hgo⟩ | ⟨_, hgo⟩
    · -- one of the same hash: it is another
      rw [wayAt_add] at hi
      rw [prb, hgo, wayAt_add, wayAt_add]
      dsimp only
      have hil : i < L.length := by
        have l1 := (List.getElem?_eq_some_iff.mp hi).1
        have l2 := R.tab.sz
        rw [List.length_map] at l2
        rw [Array.length_toList] at l1
        omega
      have hp : L[i]? = some L[i] := List.getElem?_eq_getElem hil
      generalize L[i] = p at hp
      have hm : p ∈ L := List.mem_of_getElem? hp
      have ne := new p hm
      have go : wpAny (model P w) A (searchRest a (.ref x) (hashT P w k) true f es t (wayAt t.mask (hashT P w k) (c + n)).j i (wayAt t.mask (hashT P w k) (c + (n + 1)))) Q E s := by
        unfold searchRest
        rw [row_at R.rows hp]
        dsimp only
        refine wpAny_bind (wpAny_holding (wpAny_eqBool_tuple hu (tup p hm) hx ?_))
        rw [decide_eq_false ne]
        refine wpAny_bind (wpAny_setState_of ho hd R.fits ?_)
        dsimp only
        refine wp_if_neg (by simp) ?_
        try refine wpAny_bind (wpAny_pure ?_)
        rw [sameMem]
        dsimp only
        simp only [if_true, slot_live R.tab.ris hi, row_at R.rows hp]
        refine wpAny_bind (wpAny_isSame_ref_self (wpAny_bind (wpAny_pure ?_)))
        simp only [if_true]
        refine wp_if_neg (by simp) ?_
        exact search_new R tup hx hu new hKf hK hKb q f (c + (n + 1)) _ rfl (by omega) (by omega)
      by_cases hl : t.led = true
      · refine wp_if_neg (by simp [hl]) ?_
        try refine wpAny_bind (wpAny_pure ?_)
        exact go
      · refine wp_if_pos (by simp [hl]) ?_
        refine wpAny_bind (unseen hx (fun y hy => ?_) ?_)
        · obtain ⟨e, he, ee⟩ := List.mem_map.mp hy
          have e1 : e ∈ es ∧ e.1 = hashT P w k := by simpa using he
          have e2 : e ∈ es.toList := by simpa using e1.1
          rw [R.rows] at e2
          obtain ⟨p2, hp2, e3⟩ := List.mem_map.mp e2
          exact ⟨p2.2, p2.1, by rw [← ee, ← e3], tup p2 hp2⟩
        · refine wp_if_neg (by decide) ?_
          try refine wpAny_bind (wpAny_pure ?_)
          exact go
    · -- the empty slot
      rw [wayAt_add, show c + (K - c) = K by omega] at hgo
      rw [prb, hgo]
      dsimp only
      exact wpAny_pure q

/-! ### a new one is laid -/
theorem pick_take {α : Type} (L : List α) : ∀ n, n ≤ L.length → (List.range n).filterMap (fun i => L[i]?) = L.take n
  | 0, _ => rfl
  | n + 1, h => by
    have e := List.getElem?_eq_getElem (show n < L.length from h)
    rw [List.range_succ, List.filterMap_append, pick_take L n (Nat.le_of_lt h), List.take_add_one, List.filterMap_cons_some e, e]
    rfl
theorem pick_perm {α : Type} {L : List α} {l : List Nat} (h : l.Perm (List.range L.length)) : (l.filterMap fun i => L[i]?).Perm L := by
  have z := h.filterMap (fun i => L[i]?)
  rwa [pick_take L _ (Nat.le_refl _), List.take_length] at z
theorem pick_map {α β : Type} (f : α → β) (L : List α) : ∀ l : List Nat, l.filterMap (fun i => (L.map f)[i]?) = (l.filterMap fun i => L[i]?).map f
  | [] => rfl
  | i :: l => by
    rw [List.filterMap_cons, List.filterMap_cons, pick_map f L l, List.getElem?_map]
    cases L[i]? <;> rfl
theorem pick_hash {L : List (Addr × List Str)} (hr : es.toList = L.map (rowT P w)) : ∀ l : List Nat, (∀ i ∈ l, i < L.length) → ((l.filterMap fun i => L[i]?).map fun p => hashT P w p.2) = l.map fun i => (es.map (·.1)).getD i 0
  | [], _ => rfl
  | i :: l, h => by
    have e := List.getElem?_eq_getElem (h i List.mem_cons_self)
    have e2 : (es.map (·.1))[i]? = some (hashT P w (L[i]'(h i List.mem_cons_self)).2) := by rw [Array.getElem?_map, row_at hr e] <;> rfl
    rw [List.filterMap_cons_some e, List.map_cons, List.map_cons, pick_hash hr l fun j hj => h j (List.mem_cons_of_mem _ hj), Array.getD_eq_getD_getElem?, e2]
    rfl
/-- the table laid anew in a larger one -/
theorem relay_new {o : Obj} (ho : s.heap.get? a = some o) (hex : o.ExactSet) (hd : o.data = .set es ep t) (hr : es.toList = L.map (rowT P w)) (T : TabOk t (L.map fun p => hashT P w p.2)) (hfl : L.length ≤ t.mask) (ld : w.params.followText "set-order" = true ∨ t.led = true) (few : L.length < 64)
    {wanted M : Nat} (hw : SetTable.sizeAbove wanted - 1 = M) (hM : MaskOk M) (hw2 : SetTable.sizeAbove wanted ≤ 128) (hn : L.length * 5 < M * 3) {Q : Unit → Shared → Prop}
    (q : ∀ h' L' es' ep' t', Heap.SameBut a s.heap h' → TabAt P w h' a L' es' ep' t' → L'.Perm L → Q () { s with heap := h' }) : wpAny (model P w) A (setRelay a wanted) Q E s := by
  have hz := rows_size hr
  have hsz := T.sz
  rw [List.length_map] at hsz
  have fit : t.fits es.size = true := by
    unfold SetTable.fits SetTable.fill
    rw [T.dm, Bool.and_eq_true, beq_iff_eq, decide_eq_true_eq]
    refine ⟨by omega, ?_⟩
    show t.place.size + 0 ≤ t.mask
    omega
  obtain ⟨t', order, e, hp, T', em, el, _, ed⟩ := relaid_ok t (hs := es.map (·.1)) (wanted := wanted) hw hM (by rw [Array.size_map, hz]; omega)
  rw [Array.size_map, hz] at hp
  have inr : ∀ i ∈ order.toList, i < L.length := fun i hi => List.mem_range.mp (hp.mem_iff.mp hi)
  rw [← pick_hash hr order.toList inr] at T'
  have rows' : (order.filterMap (es[·]?)).toList = (order.toList.filterMap fun i => L[i]?).map (rowT P w) := by
    rw [← pick_map, ← hr, Array.toList_filterMap]
    exact congrArg (fun f => List.filterMap f order.toList) (funext fun i => Array.getElem?_toList.symm)
  have pm := pick_perm hp
  generalize order.toList.filterMap (fun i => L[i]?) = L2 at T' rows' pm
  have sz2 : (order.filterMap (es[·]?)).size = es.size := by rw [rows_size rows', pm.length_eq, hz]
  rw [setRelay_eq]
  refine wpAny_bind (wpAny_setState_of ho hd fit ?_)
  dsimp only
  refine wp_if_neg (by rw [sizeLine_eq]; omega) ?_
  try refine wpAny_bind (wpAny_pure ?_)
  rw [e]
  dsimp only
  refine wpAny_bind ?_
  refine wp_if_neg (by rw [sz2]; simp) ?_
  try refine wpAny_bind (wpAny_pure ?_)
  refine wpAny_pure ?_
  dsimp only
  refine wpAny_storeSet_of ho hd ?_ (by rw [sz2, hz, sizeLine_eq]; omega)
  have sb : Heap.SameBut a s.heap (s.heap.update a (Obj.putSet (order.filterMap (es[·]?)) t')) := Heap.SameBut.update ..
  exact q _ L2 _ (ep + 1) t' sb ⟨⟨_, store_at ho hd, ⟨hex.1, hex.2.1, hex.2.2⟩, rfl⟩, rows', T', by rw [el]; exact ld, by rw [pm.length_eq, em]; exact hn, by rw [pm.length_eq]; exact few⟩ pm
/-- one more tuple that is none of the set's -/
theorem add_new (R : TabAt P w s.heap a L es ep t) (tup : ∀ p ∈ L, TupS P w s.heap p.2 p.1) {x : Addr} {k : List Str} (hx : TupS P w s.heap k x) (hu : A.units < cLine) (new : ∀ p ∈ L, p.2 ≠ k) (few : L.length + 1 < 64) {Q : Bool → Shared → Prop}
    (q : ∀ h' L' es' ep' t', Heap.SameBut a s.heap h' → TabAt P w h' a L' es' ep' t' → L'.Perm ((x, k) :: L) → Q true { s with heap := h' }) : wpAny (model P w) A (setAddHashed a (.ref x) (hashT P w k)) Q E s := by
  obtain ⟨o, ho, hex, hd⟩ := R.ob
  have hz := rows_size R.rows
  have room := R.room
  obtain ⟨K, hKf, hK, hKb⟩ := R.tab.first (by rw [List.length_map]; omega) (hashT P w k)
  have hK1 : K < 100000 := by
    have : 10 * SetTable.turns t.mask ≤ 1420 := by
      unfold SetTable.turns
      rcases R.tab.mok with e | e | e <;> omega
    omega
  unfold setAddHashed
  refine wpAny_holding ?_
  rw [show (100000 : Nat) = 99999 + 1 from rfl, setAddHashedIn_succ]
  refine wpAny_bind (wpAny_setState_of ho hd R.fits ?_)
  dsimp only
  refine wp_if_neg (by simp [byScan, Value.scannable]) ?_
  try refine wpAny_bind (wpAny_pure ?_)
  refine wpAny_bind ?_
  unfold setSearch
  refine search_new R tup hx hu new hKf hK hKb ?_ 100000 0 none rfl (Nat.zero_le _) (by omega)
  dsimp only
  refine wpAny_bind (wpAny_setState_of ho hd R.fits ?_)
  dsimp only
  obtain ⟨q1, q2, q3, q4, q5, _, _, _, q9⟩ := R.tab.put hK hKb
  generalize hpt : t.put (wayAt t.mask (hashT P w k) K).j = pt at q1 q3 q4 q5 q9 ⊢
  obtain ⟨t1, p⟩ := pt
  dsimp only at q1 q3 q4 q5 q9 ⊢
  subst q1
  generalize SetTable.below t.place (wayAt t.mask (hashT P w k) K).j = p at q2 q3 ⊢
  have pm := put_perm L p (x, k)
  have hlen : (L.take p ++ (x, k) :: L.drop p).length = L.length + 1 := pm.length_eq
  have rows1 : (SetTable.insertAt es p (hashT P w k, Value.ref x)).toList = (L.take p ++ (x, k) :: L.drop p).map (rowT P w) := by
    rw [SetTable.toList_insertAt, R.rows, List.map_append, List.map_cons, List.map_take, List.map_drop]
  have hs1 : (L.map fun p => hashT P w p.2).take p ++ hashT P w k :: (L.map fun p => hashT P w p.2).drop p = (L.take p ++ (x, k) :: L.drop p).map fun p => hashT P w p.2 := by
    rw [List.map_append, List.map_cons, List.map_take, List.map_drop]
  rw [hs1] at q3
  rw [hz]
  generalize SetTable.insertAt es p (hashT P w k, Value.ref x) = es1 at rows1 ⊢
  generalize L.take p ++ (x, k) :: L.drop p = L1 at pm hlen q3 rows1
  have hz1 := rows_size rows1
  -- whether the table stays plain is of no matter
  have rest : ∀ t2 : SetTable, TabOk t2 (L1.map fun p => hashT P w p.2) → t2.mask = t.mask → t2.led = t.led → t2.fill = L.length + 1 → wpAny (model P w) A (do
      storeSet a es1 t2
      if (!false && t2.tooFull) = true then setRelay a (SetTable.grown (L.length + 1))
      return true) Q E s := fun t2 T2 m2 l2 f2 => by
    refine wpAny_bind (wpAny_storeSet_of ho hd ?_ (by rw [hz1, hlen, sizeLine_eq]; omega))
    have sb : Heap.SameBut a s.heap (s.heap.update a (Obj.putSet es1 t2)) := Heap.SameBut.update ..
    have ho1 := store_at (es' := es1) (t' := t2) ho hd
    generalize s.heap.update a (Obj.putSet es1 t2) = h1 at sb ho1 ⊢
    have ld : w.params.followText "set-order" = true ∨ t2.led = true := by rw [l2]; exact R.led
    by_cases hf : t2.tooFull = true
    · have full := hf
      unfold SetTable.tooFull at full
      rw [decide_eq_true_eq, f2, m2] at full
      have two : (t.mask = 7 ∧ L.length = 4) ∨ (t.mask = 31 ∧ L.length = 18) := by
        rcases R.tab.mok with e | e | e
        · left; rw [e] at full room; exact ⟨e, by omega⟩
        · right; rw [e] at full room; exact ⟨e, by omega⟩
        · exfalso; rw [e] at full; omega
      first
        | (refine wpAny_bind ?_; refine wp_if_pos (by simp [hf]) ?_)
        | (refine wp_if_pos (by simp [hf]) ?_; refine wpAny_bind ?_)
      have go : ∀ M, SetTable.sizeAbove (SetTable.grown (L.length + 1)) - 1 = M → MaskOk M → SetTable.sizeAbove (SetTable.grown (L.length + 1)) ≤ 128 → (L.length + 1) * 5 < M * 3 →
          wpAny (model P w) A (setRelay a (SetTable.grown (L.length + 1))) (fun _ s' => wpAny (model P w) A (pure true) Q E s') E { s with heap := h1 } := fun M a1 a2 a3 a4 =>
        relay_new (s := { s with heap := h1 }) ho1 ⟨hex.1, hex.2.1, hex.2.2⟩ rfl rows1 T2 (by rw [m2, hlen]; rcases two with ⟨e, e2⟩ | ⟨e, e2⟩ <;> omega) ld (by rw [hlen]; exact few) a1 a2 a3 (by rw [hlen]; exact a4)
          fun h2 L2 es2 ep2 t3 sb2 R2 pm2 => wpAny_pure (q h2 L2 es2 ep2 t3 (sb.trans sb2) R2 (pm2.trans pm))
      rcases two with ⟨_, e2⟩ | ⟨_, e2⟩
      · exact go 31 (by rw [e2, size_20]) (.inr (.inl rfl)) (by rw [e2, size_20]; decide) (by omega)
      · exact go 127 (by rw [e2, size_76]) (.inr (.inr rfl)) (by rw [e2, size_76]; decide) (by omega)
    · have free := hf
      unfold SetTable.tooFull at free
      rw [decide_eq_true_eq, f2, m2] at free
      first
        | refine wp_if_neg (by simp [hf]) ?_
        | (refine wpAny_bind ?_; refine wp_if_neg (by simp [hf]) ?_; refine wpAny_pure ?_)
      exact wpAny_pure (q h1 L1 es1 (ep + 1) t2 sb ⟨⟨_, ho1, ⟨hex.1, hex.2.1, hex.2.2⟩, rfl⟩, rows1, T2, ld, by rw [hlen, m2]; omega, by rw [hlen]; exact few⟩ pm)
  have off : TabOk { t1 with plain := false } (L1.map fun p => hashT P w p.2) := ⟨q3.ris, q3.dm, q3.sz, q3.mok, q3.bd, q3.reach⟩
  have fill1 : t1.fill = L.length + 1 := by rw [q9, List.length_map]
  have both : ∀ c : Bool, wpAny (model P w) A (do
      storeSet a es1 (if c = true then t1 else { t1 with plain := false })
      if (!false && (if c = true then t1 else { t1 with plain := false }).tooFull) = true then setRelay a (SetTable.grown (L.length + 1))
      return true) Q E s := fun c => by
    cases c with
    | true => exact rest t1 q3 q4 q5 fill1
    | false => exact rest { t1 with plain := false } off q4 q5 fill1
  by_cases hpl : t1.plain = true
  · first
      | (refine wpAny_bind ?_; refine wp_if_pos hpl ?_; exact byValue_tup hx fun c => both c)
      | (refine wp_if_pos hpl ?_; refine wpAny_bind (byValue_tup hx fun c => ?_); exact both c)
  · first
      | (refine wpAny_bind ?_; refine wp_if_neg hpl ?_; exact wpAny_pure (both true))
      | (refine wp_if_neg hpl ?_; exact both true)
end
end ShT

set_option Elab.async false
set_option linter.all false
set_option maxRecDepth 100000
set_option maxHeartbeats 4000000
namespace ShT
open PySem PySem.Spec PyProof.Rows L2
section
variable {P : Program} {w : World}
/-- the set at S has the first i of the tuples -/
def TupIn (P : Program) (w : World) (S : Addr) (ks : List (Addr × List Str)) (i : Nat) (h : Heap) : Prop := ∃ L es ep t, TabAt P w h S L es ep t ∧ L.Perm (ks.take i)
theorem tup_kept {h h' : Heap} {k : List Str} {b : Addr} (x : TupS P w h k b) (e : ∀ c o, h.get? c = some o → h'.get? c = some o) : TupS P w h' k b := let ⟨o, items, n, h1, r⟩ := x; ⟨o, items, n, e b o h1, r⟩
theorem tup_fills {S : Addr} {ks : List (Addr × List Str)} {items : Array Value} {h0 : Heap} (hx : ∀ (i : Nat) (v : Value), items[i]? = some v → ∃ p, ks[i]? = some p ∧ v = .ref p.1) (nd : (ks.map (·.2)).Nodup) (few : ks.length < 63)
    (hk : ∀ p ∈ ks, TupS P w h0 p.2 p.1) : Fills P w S items.size (fun i v => items[i]? = some v) h0 (TupIn P w S ks) where
  keep := fun i h h' ⟨L, es, ep, t, ⟨⟨o, h1, r⟩, b1, b2, b3, b4, b5⟩, pm⟩ k => ⟨L, es, ep, t, ⟨⟨o, k o h1, r⟩, b1, b2, b3, b4, b5⟩, pm⟩
  step := fun i v A E s hu hi hv ⟨L, es, ep, t, R, pm⟩ k0 Q q => by
    obtain ⟨p, eat, rfl⟩ := hx i v hv
    have lt := (List.getElem?_eq_some_iff.mp eat).1
    have sub : ∀ r ∈ L, r ∈ ks := fun r hr => List.mem_of_mem_take (pm.mem_iff.mp hr)
    have old : ∀ r ∈ L, TupS P w s.heap r.2 r.1 := fun r hr => tup_kept (hk r (sub r hr)) k0
    have mine : TupS P w s.heap p.2 p.1 := tup_kept (hk p (List.mem_of_getElem? eat)) k0
    have new : ∀ r ∈ L, r.2 ≠ p.2 := fun r hr e => by
      have e2 : (ks.map (·.2))[i]? = some p.2 := by rw [List.getElem?_map, eat] <;> rfl
      refine not_ahead nd e2 ?_
      rw [← List.map_take, ← e]
      exact List.mem_map.mpr ⟨r, pm.mem_iff.mp hr, rfl⟩
    have hl : L.length ≤ i := by
      rw [pm.length_eq, List.length_take]
      omega
    unfold setAdd
    refine wpAny_holding (wpAny_bind (wpAny_pyHash_tuple hu mine ?_))
    refine add_new (s := { s with toks := s.toks + (p.2.length + 1) }) R old mine hu new (by omega) fun h' L' es' ep' t' sb R' pm' => ?_
    refine q _ h' _ sb (Nat.le_add_right _ _) ⟨L', es', ep', t', R', ?_⟩
    have e3 : ks.take (i + 1) = ks.take i ++ [p] := by
      rw [List.take_add_one, eat]
      rfl
    rw [e3]
    exact (pm'.trans (pm.cons p)).trans (List.perm_append_singleton p _).symm
theorem tup_first {S : Addr} {ks : List (Addr × List Str)} (h : Heap) (e : h.get? S = some (freshSet w)) : TupIn P w S ks 0 h := by
  refine ⟨[], #[], 0, _, ⟨⟨_, e, ⟨rfl, rfl, rfl⟩, rfl⟩, rfl, ⟨List.Pairwise.nil, rfl, rfl, .inl rfl, fun x hx => (by cases hx), fun i h j hi => (by simp at hi)⟩, ?_, ?_, ?_⟩, List.Perm.refl _⟩
  · show _ ∨ (!w.params.followText "set-order") = true
    cases w.params.followText "set-order"
    · exact .inr rfl
    · exact .inl rfl
  · show 0 * 5 < 7 * 3
    decide
  · show 0 < 64
    decide
theorem items_str {P : Program} {w : World} : ∀ {xs : List Str} {us : List Value}, Vals (xs.map V.str) us → ItemsAre (PySem.strKind P w) xs us
  | [], _, .nil => .nil
  | x :: xs, _, .cons r rs => by
    obtain ⟨t, rfl⟩ := r
    exact .cons (strKind_is _ _ _ _) (items_str rs)
theorem vals_txt {xs : List Str} {us : List Value} (h : Vals (xs.map V.str) us) (i : Nat) (v : Value) (e : us[i]? = some v) : ∃ x t, xs[i]? = some x ∧ v = .str x t := by
  induction xs generalizing us i with
  | nil =>
    cases h
    simp at e
  | cons x xs ih =>
    cases h with
    | cons r rs =>
      cases i with
      | zero =>
        obtain ⟨t, rfl⟩ := r
        exact ⟨x, t, rfl, (Option.some.inj e).symm⟩
      | succ i => exact ih rs i e
theorem vals_ref {α : Type} {ks : List (Addr × α)} {us : List Value} (h : Vals (ks.map fun p => V.ref p.1) us) (i : Nat) (v : Value) (e : us[i]? = some v) : ∃ p, ks[i]? = some p ∧ v = .ref p.1 := by
  induction ks generalizing us i with
  | nil =>
    cases h
    simp at e
  | cons x ks ih =>
    cases h with
    | cons r rs =>
      cases i with
      | zero =>
        cases r
        exact ⟨x, rfl, (Option.some.inj e).symm⟩
      | succ i => exact ih rs i e
end
/-- len(set(xs)) of unlike texts (a list or a tuple), or of a list of unlike tuples of texts -/
def tLenUnlike (K : PySem.W.Frag) (ta : TE) : TE := fun σ H Q => ta σ H fun x H1 => ∃ l, x = .ref l ∧
  ((∃ xs : List Str, (SqL K H1 l (xs.map V.str) ∨ SqT K H1 l (xs.map V.str)) ∧ xs.Nodup ∧ xs.length < 4000 ∧ Q (.int xs.length) H1) ∨
   ∃ ks : List (Addr × List Str), SqL K H1 l (ks.map fun p => V.ref p.1) ∧ (∀ p ∈ ks, Rd H1 p.1 (.tup (p.2.map V.str))) ∧ (ks.map (·.2)).Nodup ∧ ks.length < 63 ∧ Q (.int ks.length) H1)
theorem pe_lenUnlike {X : Cx} {a : Expr} {ta : TE} {k : Nat} {p p2 q pos : Pos} (hr : Room k X.A) (hm : X.mg "len" = none) (hm2 : X.mg "set" = none) (ha : PE X a ta) (hc : X.calm = true := by rfl) (hg : Gl X "len" := by rfl) (hg2 : Gl X "set" := by rfl)
    (na : starEach [a] X.env = (false, eval a X.env) :: starEach [] X.env := by rfl) : PE X (.Call (.Name "len" p) [.Call (.Name "set" p2) [a] [] q] [] pos) (tLenUnlike X.K ta) := by
  refine ⟨fun pins s σ H Q I h => ?_⟩
  refine Call_ (ld_blt I hg hm PySem.boot_len ?_)
  refine PyProof.Rows.callWith_builtin1 (PyProof.Rows.args_cons ?_ rfl) rfl rfl
  refine Call_ (ld_blt I hg2 hm2 PyProof.Rows.boot_set ?_)
  refine PyProof.Rows.callWith_type1 (PyProof.Rows.args_cons (thn (ha.run pins s σ H _ I h) fun v s1 ⟨x, H1, I1, r1, l, ex, told⟩ => PyProof.Rows.args_nil ?_) na) na rfl
  subst ex
  cases r1
  have hh := I1.ok.hd hc
  have hu : X.A.units + 3 < cLine := by
    have z := hr.units
    omega
  -- behind the set: its length
  have ends : ∀ (n : Nat) (h' : Heap) (tk : Nat), n < 4096 → (∃ o es ep t, h'.get? s1.heap.objs.size = some o ∧ o.ExactSet ∧ o.data = .set es ep t ∧ t.fits es.size = true ∧ es.size = n) → (∀ b o, s1.heap.get? b = some o → h'.get? b = some o) → Q (.int n) H1 →
      wpAny (model X.prog X.w) X.A (spliced (backTo pos (starEach [] X.env))) (fun vs s₂ => wpAny (model X.prog X.w) X.A (call (.builtin "len") (Value.ref s1.heap.objs.size :: vs)) (EP X pins σ Q) X.xe s₂) X.xe { s1 with heap := h', toks := tk } :=
    fun n h' tk hn ⟨o, es, ep, t, ho, hex, hd, hf, hz⟩ kp qn => by
      refine PyProof.Rows.args_nil ?_
      have I2 : Inv X pins σ H1 { s1 with heap := h', toks := tk } := I1.kept kp
      exact call_len_set ho hex hd hf (by omega) ⟨.int n, H1, I2.tok _, ⟨_, by rw [hz]⟩, qn⟩
  rcases told with ⟨xs, hq, nd, hl, qn⟩ | ⟨ks, hq, hk, nd, hl, qn⟩
  · rcases hq with hq | hq
    · obtain ⟨its, r, pl, _⟩ := I1.list hq
      have hz : its.toArray.size = xs.length := by rw [List.size_toArray, ← r.length, List.length_map]
      refine call_set_list hh pl.isList hu (txt_fills (fun i v e => vals_txt r i v (by simpa using e)) nd hl hz) (fun h e => txt_first h e) fun h' tk iv kp => ?_
      obtain ⟨o, es, ep, t, ho, hex, hd, _, _, _, hf, hn⟩ := iv
      exact ends xs.length h' tk (by omega) ⟨o, es, ep, t, ho, hex, hd, hf, by omega⟩ kp qn
    · obtain ⟨its, r, pl, _⟩ := I1.tuple hq
      have hz : its.toArray.size = xs.length := by rw [List.size_toArray, ← r.length, List.length_map]
      refine call_set_tuple hh pl hu (txt_fills (fun i v e => vals_txt r i v (by simpa using e)) nd hl hz) (fun h e => txt_first h e) fun h' tk iv kp => ?_
      obtain ⟨o, es, ep, t, ho, hex, hd, _, _, _, hf, hn⟩ := iv
      exact ends xs.length h' tk (by omega) ⟨o, es, ep, t, ho, hex, hd, hf, by omega⟩ kp qn
  · obtain ⟨its, r, pl, _⟩ := I1.list hq
    have hz : its.toArray.size = ks.length := by rw [List.size_toArray, ← r.length, List.length_map]
    have tups : ∀ p ∈ ks, TupS X.prog X.w s1.heap p.2 p.1 := fun p hp => by
      obtain ⟨it2, r2, ⟨o, ho, hc2, n, hd2⟩, _⟩ := I1.tuple (.inl (hk p hp))
      exact ⟨o, it2.toArray, n, ho, hc2, hd2, by simpa using items_str r2⟩
    refine call_set_list hh pl.isList hu (tup_fills (fun i v e => vals_ref r i v (by simpa using e)) nd hl tups) (fun h e => tup_first h e) fun h' tk iv kp => ?_
    obtain ⟨L, es, ep, t, R, pm⟩ := iv
    have hlen : es.size = ks.length := by
      rw [rows_size R.rows, pm.length_eq, List.length_take, hz]
      omega
    have fit := TabAt.fits (s := { s1 with heap := h' }) R
    obtain ⟨o, ho, hex, hd⟩ := R.ob
    exact ends ks.length h' tk (by omega) ⟨o, es, ep, t, ho, hex, hd, fit, hlen⟩ kp qn
end ShT

set_option Elab.async false
set_option linter.all false
set_option maxRecDepth 100000
set_option maxHeartbeats 4000000
/-! zip of a tuple and a list -/
namespace ShT
open PySem PySem.Spec PyProof.Rows L2
/-- the tuple at a and the list at b, side by side -/
def ItTL (K : PySem.W.Frag) (a b : Addr) : It where
  go := fun i H => ∃ (xs ys : List V) (x y : V), SqT K H a xs ∧ SqL K H b ys ∧ xs[i]? = some x ∧ ys[i]? = some y
  yld := fun i H v H' => ∃ T x y, v = .ref T ∧ H T = none ∧ H' = upd H T (.tup [x, y]) ∧ (∀ xs, SqT K H a xs → xs[i]? = some x) ∧ ∀ ys, SqL K H b ys → ys[i]? = some y
  stop := fun i H => ∃ xs ys : List V, SqT K H a xs ∧ SqL K H b ys ∧ i = min xs.length ys.length
abbrev tl1 (h : Heap) (a : Addr) : Heap := h.push { cls := .type "tuple_iterator", data := .fields #[.ref a, .int 0 0] }
abbrev tl2 (h : Heap) (a b : Addr) : Heap := (tl1 h a).push { cls := .type "list_iterator", data := .fields #[.ref b, .int 0 0] }
abbrev tl3 (h : Heap) (a b : Addr) : Heap := (tl2 h a b).push { cls := .type "tuple", data := .seq #[.ref h.objs.size, .ref (tl1 h a).objs.size] }
abbrev tl4 (h : Heap) (a b : Addr) : Heap := (tl3 h a b).push { cls := .type "tuple", data := .seq #[.none, .none] }
abbrev tl5 (h : Heap) (a b : Addr) : Heap := (tl4 h a b).push { cls := .type "zip", data := .fields #[.none, .bool false, .bool false, .ref (tl2 h a b).objs.size, .ref (tl3 h a b).objs.size] }
theorem new_zipTL (a b : Addr) (xs ys : Array Value) :
    Meets (Builtin.«zip.__new__» ⟨[.type "zip", .ref a, .ref b], []⟩) (fun _ R s => s.heap.IsTuple a xs ∧ s.heap.IsList b ys ∧ R (.ok (.ret (.ref (tl4 s.heap a b).objs.size))) { s with heap := tl5 s.heap a b }) :=
  .of_wp fun prog w A R s h => by
    obtain ⟨hp, g, d, tk, os⟩ := s
    obtain ⟨q1, q2, h⟩ := h
    have sub := sub_zip
    have u1 : Heap.IsTuple (Shared.heap ⟨hp, g, d, tk, os⟩) a xs := q1
    have u2 : Heap.IsList (Shared.heap ⟨tl1 hp a, g, d, tk, os⟩) b ys := Heap.IsList.push q2 _
    wp_walk using wpAny_pyIter_tuple u1, wpAny_pyIter_list u2
    exact ⟨_, rfl, h⟩
theorem call_zipTL {prog : Program} {w : World} {A : Around} {E : Value → Shared → Prop} {s : Shared} {a b : Addr} {xs ys : Array Value} {Q : Value → Shared → Prop} (h1 : s.heap.IsTuple a xs) (h2 : s.heap.IsList b ys)
    (h : ∀ h', IsZip h' (s.heap.objs.size + 4) (s.heap.objs.size + 2) (s.heap.objs.size + 3) .none → IsPair h' (s.heap.objs.size + 2) (.ref s.heap.objs.size) (.ref (s.heap.objs.size + 1)) →
      IsPair h' (s.heap.objs.size + 3) .none .none → h'.IsTupleIter s.heap.objs.size a 0 → h'.IsListIter (s.heap.objs.size + 1) b 0 → (∀ c o, s.heap.get? c = some o → h'.get? c = some o) → Q (.ref (s.heap.objs.size + 4)) { s with heap := h' }) :
    wpAny (model prog w) A (call (.type "zip") [.ref a, .ref b]) Q E s := by
  refine callType_new PySem.F.called_zip (by decide) (PySem.F.typeCall_zip_2 _ _) (PySem.F.newCall_zip_2 _ _) (fun obj => PySem.F.args_object_init_3 obj _ _) PySem.F.entry_zip_new (new_zipTL a b xs ys) ⟨h1, h2, ?_⟩
  have z1 : (tl1 s.heap a).objs.size = s.heap.objs.size + 1 := Heap.size_push ..
  have z2 : (tl2 s.heap a b).objs.size = s.heap.objs.size + 2 := by rw [Heap.size_push, z1]
  have z3 : (tl3 s.heap a b).objs.size = s.heap.objs.size + 3 := by rw [Heap.size_push, z2]
  have z4 : (tl4 s.heap a b).objs.size = s.heap.objs.size + 4 := by rw [Heap.size_push, z3]
  have g5 : (tl5 s.heap a b).get? (tl4 s.heap a b).objs.size = some _ := Heap.get?_push_size _ rfl
  have g4 : (tl5 s.heap a b).get? (tl3 s.heap a b).objs.size = some _ := Heap.get?_push_of_some _ (Heap.get?_push_size _ rfl)
  have g3 : (tl5 s.heap a b).get? (tl2 s.heap a b).objs.size = some _ := Heap.get?_push_of_some _ (Heap.get?_push_of_some _ (Heap.get?_push_size _ rfl))
  have g2 : (tl5 s.heap a b).get? (tl1 s.heap a).objs.size = some _ := Heap.get?_push_of_some _ (Heap.get?_push_of_some _ (Heap.get?_push_of_some _ (Heap.get?_push_size _ rfl)))
  have g1 : (tl5 s.heap a b).get? s.heap.objs.size = some _ := Heap.get?_push_of_some _ (Heap.get?_push_of_some _ (Heap.get?_push_of_some _ (Heap.get?_push_of_some _ (Heap.get?_push_size _ rfl))))
  show _ ∧ _
  rw [z2, z3, z4] at g5
  rw [z1, z2] at g3
  rw [z3] at g4
  rw [z1] at g2
  rw [z4]
  exact ⟨⟨_, g5, rfl⟩, h _ g5 g3 g4 ⟨_, g1, rfl, rfl⟩ ⟨_, g2, rfl, rfl⟩ fun c o x => Heap.get?_push_of_some _ (Heap.get?_push_of_some _ (Heap.get?_push_of_some _ (Heap.get?_push_of_some _ (Heap.get?_push_of_some _ x))))⟩
theorem turn_zipTL {P : Program} {w : World} {K : PySem.W.Frag} {elts : List Expr} {kk : Nat} {tpos : Pos} {a b z TI TO i1 i2 : Addr} (D : ZipApart z TI TO i1 i2 a b) :
    Turn P w K (.Tuple elts kk tpos) (ItTL K a b) [z, TI, TO, i1, i2] z (fun i h => IsZip h z TI TO .none ∧ IsPair h TI (.ref i1) (.ref i2) ∧ (∃ x y, IsPair h TO x y) ∧ h.IsTupleIter i1 a i ∧ h.IsListIter i2 b i) where
  mem := by simp
  obj := fun i h st c hc => by
    obtain ⟨e0, e1, ⟨x, y, e2⟩, ⟨o3, e3, _, d3⟩, ⟨o4, e4, _, d4⟩⟩ := st
    simp only [List.mem_cons, List.not_mem_nil, or_false] at hc
    rcases hc with rfl | rfl | rfl | rfl | rfl
    · exact ⟨_, e0, fun v q => nomatch q⟩
    · exact ⟨_, e1, fun v q => nomatch q⟩
    · exact ⟨_, e2, fun v q => nomatch q⟩
    · exact ⟨o3, e3, fun v q => by rw [d3] at q; cases q⟩
    · exact ⟨o4, e4, fun v q => by rw [d4] at q; cases q⟩
  keep := fun i h h' st k => by
    obtain ⟨e0, e1, ⟨x, y, e2⟩, e3, e4⟩ := st
    exact ⟨k z (by simp) _ e0, k TI (by simp) _ e1, ⟨x, y, k TO (by simp) _ e2⟩, e3.at fun o q => k i1 (by simp) o q, e4.at fun o q => k i2 (by simp) o q⟩
  item := by
    intro X hP hw hK hc i pins s σ H E I hf st hg
    subst hP hw hK
    obtain ⟨e0, e1, e2, e3, e4⟩ := st
    obtain ⟨xs, ys, x, y, qx, qy, hx, hy⟩ := hg
    obtain ⟨us, ru, p1, _⟩ := I.tuple qx
    obtain ⟨ws, rw', p2, _⟩ := I.list qy
    obtain ⟨u, hu, rx⟩ := ru.get hx
    obtain ⟨v, hv, ry⟩ := rw'.get hy
    have li : i < us.toArray.size := by
      rw [List.size_toArray]
      exact (List.getElem?_eq_some_iff.mp hu).1
    have lj : i < ws.toArray.size := by
      rw [List.size_toArray]
      exact (List.getElem?_eq_some_iff.mp hv).1
    have sep : ZipSep2 z TI TO i1 i2 [i1, a] [i2, b] := ⟨D.TIz, D.TOz, D.TITO, D.TIi1, by simp, by simp [D.i1z.symm, D.l1z.symm], by simp [D.TOi1, D.l1TO.symm], D.TIi2, by simp, by simp [D.i2z.symm, D.l2z.symm], by simp [D.TOi2, D.l2TO.symm], by simp [D.i12, D.l2i1.symm], by simp [D.i12.symm, D.l1i2.symm]⟩
    have hd : X.A.in1.handled = none := I.ok.hd hc
    have W := GoesN.zip2 (elts := elts) (x1 := kk) (pos := tpos) sep (Draws.tuple (prog := X.prog) (w := X.w) hd i1 a D.l1i1 us.toArray) (Draws.list (prog := X.prog) (w := X.w) hd i2 b D.l2i2 ws.toArray)
    refine W.goes i s _ E (by omega) ⟨e0, e1, e2, ⟨e3, p1⟩, ⟨e4, p2.isList⟩⟩ fun T' h' tk hY st' hk htk => ?_
    obtain ⟨T, x1, x2, rfl, hT, a1, a2, hTup⟩ := hY
    obtain ⟨f0, f1, f2, ⟨f3, _⟩, ⟨f4, _⟩⟩ := st'
    have b1 : x1 = u := Option.some.inj (a1.symm.trans (by simpa using hu))
    have b2 : x2 = v := Option.some.inj (a2.symm.trans (by simpa using hv))
    subst b1 b2
    have hk' : ∀ c o, c ∉ [z, TI, TO, i1, i2] → s.heap.get? c = some o → h'.get? c = some o := fun c o hc => hk c o fun q => hc (by
      simp only [List.mem_cons, List.not_mem_nil, or_false] at q ⊢
      rcases q with q | q | q | q <;> simp [q])
    have new : ObjOk X.prog X.w (upd H T (.tup [x, y])) h' T (.tup [x, y]) := ⟨by show 2 ≤ sizeLine; decide, [x1, x2], .cons rx (.cons ry .nil), hTup⟩
    refine ⟨.ref T, upd H T (.tup [x, y]), I.turnedNew (t' := tk) hk' hf hT new, rfl, ⟨T, x, y, rfl, I.hok.fresh hT, rfl, fun l hl => by rw [I.tuple_inj hl qx]; exact hx, fun l hl => by rw [I.list_inj hl qy]; exact hy⟩, ⟨f0, f1, f2, f3, f4⟩, fun c hc => ?_⟩
    have lt : c < s.heap.objs.size := by
      obtain ⟨o3, g3, _⟩ := e3
      obtain ⟨o4, g4, _⟩ := e4
      obtain ⟨_, _, g2⟩ := e2
      simp only [List.mem_cons, List.not_mem_nil, or_false] at hc
      rcases hc with rfl | rfl | rfl | rfl | rfl
      · exact Heap.lt_size e0
      · exact Heap.lt_size e1
      · exact Heap.lt_size g2
      · exact Heap.lt_size g3
      · exact Heap.lt_size g4
    rw [upd_ne (Nat.ne_of_lt (Nat.lt_of_lt_of_le lt hT))]
    exact (hf c hc).1
  done := by
    intro X hP hw hK hc i pins s σ H E I hf st hg
    subst hP hw hK
    obtain ⟨e0, e1, ⟨y1, y2, e2⟩, e3, e4⟩ := st
    obtain ⟨xs, ys, qx, qy, hend⟩ := hg
    obtain ⟨us, ru, p1, _⟩ := I.tuple qx
    obtain ⟨ws, rw', p2, _⟩ := I.list qy
    have sep : ZipSep2 z TI TO i1 i2 [i1, a] [i2, b] := ⟨D.TIz, D.TOz, D.TITO, D.TIi1, by simp, by simp [D.i1z.symm, D.l1z.symm], by simp [D.TOi1, D.l1TO.symm], D.TIi2, by simp, by simp [D.i2z.symm, D.l2z.symm], by simp [D.TOi2, D.l2TO.symm], by simp [D.i12, D.l2i1.symm], by simp [D.i12.symm, D.l1i2.symm]⟩
    have hd : X.A.in1.handled = none := I.ok.hd hc
    have l1 : us.toArray.size = xs.length := by rw [List.size_toArray, ru.length]
    have l2 : ws.toArray.size = ys.length := by rw [List.size_toArray, rw'.length]
    refine wpAny_with_toks (Nat.le_refl s.toks) (wpAny_pyNext_zipD2_end sep (Draws.tuple (prog := X.prog) (w := X.w) hd i1 a D.l1i1 us.toArray) (Draws.list (prog := X.prog) (w := X.w) hd i2 b D.l2i2 ws.toArray) e0 e1 e2 ⟨e3, p1⟩ ⟨e4, p2.isList⟩ (by omega) (by omega) (by omega) fun h' tk hk _ => ⟨rfl, ?_⟩)
    exact I.turnedL (t' := tk) (ch := [z, TI, TO, i1, i2]) (fun c o hc q => hk c o (fun q' => hc (by simp [q'])) (fun q' => hc (by simp [q'])) (fun q' => hc (by simp [q'])) (fun q' => hc (by simp [q'])) q) hf
  self := fun A i s Q E st h => wpAny_pyIter_zip st.1 h

/-- zip(t, xs), t a tuple and xs a list, as a loop's source -/
def iZipTL (K : PySem.W.Frag) (ta : TA) : TI := fun σ H R => ta σ H fun vs H1 => ∃ a b xs ys, vs = [.ref a, .ref b] ∧ SqT K H1 a xs ∧ SqL K H1 b ys ∧ R (ItTL K a b) H1
theorem pi_zipTL {X : Cx} {e e2 : Expr} {ta : TA} {p pos tpos : Pos} {elts : List Expr} {kk : Nat} (hm : X.mg "zip" = none) (ha : PA X [e, e2] ta) (hg : Gl X "zip" := by rfl)
    (hs : starEach [e, e2] X.env = (false, eval e X.env) :: starEach [e2] X.env := by rfl) (hpl : (backTo pos (starEach [e2] X.env)).any (·.1) = false := by rfl) : PI X (.Tuple elts kk tpos) (.Call (.Name "zip" p) [e, e2] [] pos) (iZipTL X.K ta) := by
  refine ⟨fun pins s σ H R I h => ?_⟩
  refine Call_ (ld_blt I hg hm PyProof.Rows.boot_zip (PyProof.Rows.callWith_type1 (thn (ha.run pos pins s σ H _ I h) fun us s1 ⟨vs, H1, I1, r1, a, b, xs, ys, ex, qx, qy, q⟩ => ?_) hs hpl))
  subst ex
  obtain ⟨u1, u2, rfl, r1, r2⟩ := vals2 r1
  cases r1
  cases r2
  obtain ⟨its, rv, p1, _⟩ := I1.tuple qx
  obtain ⟨its2, rv2, p2, _⟩ := I1.list qy
  obtain ⟨o1, ho1, _⟩ := id p1
  refine call_zipTL (show s1.heap.IsTuple a its.toArray from p1) p2.isList fun h' hz hTI hTO h1 h2 hk => wpAny_pyIter_zip hz ?_
  refine ⟨s1.heap.objs.size + 4, [s1.heap.objs.size + 4, s1.heap.objs.size + 2, s1.heap.objs.size + 3, s1.heap.objs.size, s1.heap.objs.size + 1], _, _, H1, rfl, I1.kept (t' := s1.toks) hk, turn_zipTL (PySem.W.ktu_apart s1.heap.objs.size a b (Heap.lt_size ho1) p2.lt), ⟨hz, hTI, ⟨_, _, hTO⟩, h1, h2⟩, fun c hc => ?_, q⟩
  have le : s1.heap.objs.size ≤ c := by
    simp only [List.mem_cons, List.not_mem_nil, or_false] at hc
    rcases hc with rfl | rfl | rfl | rfl | rfl
    · exact Nat.le_add_right _ _
    · exact Nat.le_add_right _ _
    · exact Nat.le_add_right _ _
    · exact Nat.le_refl _
    · exact Nat.le_add_right _ _
  exact I1.fpOk le (I1.hok.fresh le)
end ShT
namespace Sh
open PySem PySem.Spec L2
open Evl (Ex)
/-- side by side -/
def zipD (xs ys : List D) : List D := List.zipWith (fun a b => PyData.tuple [a, b]) xs ys
theorem zipD_at {xs ys : List D} {i : Nat} {a b : D} (h : xs[i]? = some a) (k : ys[i]? = some b) : (zipD xs ys)[i]? = some (.tuple [a, b]) := by
  unfold zipD
  rw [List.getElem?_zipWith, h, k]
theorem zipD_len (xs ys : List D) : (zipD xs ys).length = min xs.length ys.length := List.length_zipWith
section
variable {K : PySem.W.Frag} {σ : L2.St} {G : Hp} {ar : TA}
theorem ei_zipTL {xs ys : List D} (h : EvA ar σ G [.tuple xs, .list ys]) : EvI (ShT.iZipTL K ar) σ G (zipD xs ys) := fun H e R r => h H e _ fun vs G2 H2 g n => by
  obtain ⟨v, w, rfl, n1, n2⟩ := two_of n
  cases n1 with
  | tup h1 m1 =>
    cases n2 with
    | lst h2 m2 =>
      rename_i a us b ws
      refine ⟨_, _, _, _, rfl, .inl (rdx g.s h1), .inl (.inl (g.s _ _ h2)), r _ G2 H2 g ⟨fun i H hi e => ?_, fun H e => ?_, fun i H x H' hi e y => ?_⟩⟩
      · rw [zipD_len, ← m1.length, ← m2.length] at hi
        have l1 : i < us.length := by omega
        have l2 : i < ws.length := by omega
        exact ⟨us, ws, us[i], ws[i], .inl (rdx e h1), .inl (.inl (e _ _ h2)), List.getElem?_eq_getElem l1, List.getElem?_eq_getElem l2⟩
      · exact ⟨us, ws, .inl (rdx e h1), .inl (.inl (e _ _ h2)), by rw [zipD_len, ← m1.length, ← m2.length]⟩
      · obtain ⟨T, x1, x2, rfl, hT, rfl, q1, q2⟩ := y
        obtain ⟨d1, e1, k1⟩ := m1.att (q1 us (.inl (rdx e h1)))
        obtain ⟨d2, e2, k2⟩ := m2.att (q2 ws (.inl (.inl (e _ _ h2))))
        have fr := Ex.new (o := HO.tup [x1, x2]) (Evl.fresh_back e hT)
        exact ⟨upd G2 T (.tup [x1, x2]), _, Gr.new e hT, zipD_at e1 e2, .tup upd_same (.cons (Dn.mono fr _ k1) (.cons (Dn.mono fr _ k2) .nil))⟩
theorem ei_zipLL {xs ys : List D} (h : EvA ar σ G [.list xs, .list ys]) : EvI (iZip K ar) σ G (zipD xs ys) := fun H e R r => h H e _ fun vs G2 H2 g n => by
  obtain ⟨v, w, rfl, n1, n2⟩ := two_of n
  cases n1 with
  | lst h1 m1 =>
    cases n2 with
    | lst h2 m2 =>
      rename_i a us b ws
      refine ⟨_, _, _, _, rfl, .inl (.inl (g.s _ _ h1)), .inl (.inl (g.s _ _ h2)), r _ G2 H2 g ⟨fun i H hi e => ?_, fun H e => ?_, fun i H x H' hi e y => ?_⟩⟩
      · rw [zipD_len, ← m1.length, ← m2.length] at hi
        have l1 : i < us.length := by omega
        have l2 : i < ws.length := by omega
        exact ⟨us, ws, us[i], ws[i], .inl (.inl (e _ _ h1)), .inl (.inl (e _ _ h2)), List.getElem?_eq_getElem l1, List.getElem?_eq_getElem l2⟩
      · refine ⟨us, ws, .inl (.inl (e _ _ h1)), .inl (.inl (e _ _ h2)), ?_⟩
        rw [zipD_len, ← m1.length, ← m2.length]
        omega
      · obtain ⟨T, x1, x2, rfl, hT, rfl, q1, q2⟩ := y
        obtain ⟨d1, e1, k1⟩ := m1.att (q1 us (.inl (.inl (e _ _ h1))))
        obtain ⟨d2, e2, k2⟩ := m2.att (q2 ws (.inl (.inl (e _ _ h2))))
        have fr := Ex.new (o := HO.tup [x1, x2]) (Evl.fresh_back e hT)
        exact ⟨upd G2 T (.tup [x1, x2]), _, Gr.new e hT, zipD_at e1 e2, .tup upd_same (.cons (Dn.mono fr _ k1) (.cons (Dn.mono fr _ k2) .nil))⟩
end
end Sh

set_option Elab.async false
set_option linter.all false
set_option maxRecDepth 100000
set_option maxHeartbeats 4000000
namespace Sh
open PySem PySem.Spec L2
open PyProof.Rows hiding St
open Evl (Ex)
section
variable {P : Program} {w : World} {K : PySem.W.Frag} {mg : Str → Option Value} {base : Heap}
/-! ### are_unlike -/
theorem sl_tups {G : Hp} : ∀ {kss : List (List Str)} {vs : List V}, DnL G vs (kss.map fun k => PyData.tuple (strL k)) → ∃ ks : List (Addr × List Str), vs = ks.map (fun p => V.ref p.1) ∧ ks.map (·.2) = kss ∧ ∀ p ∈ ks, Rd G p.1 (.tup (p.2.map V.str))
  | [], _, h => by
    cases h
    exact ⟨[], rfl, rfl, fun p hp => by cases hp⟩
  | k :: kss, _, h => by
    cases h with
    | cons h1 h2 =>
      obtain ⟨ks, e1, e2, e3⟩ := sl_tups h2
      cases h1 with
      | tup g1 n1 =>
        rename_i a us
        have e := dn_strs n1
        subst e
        refine ⟨(a, k) :: ks, by rw [e1] <;> rfl, by rw [List.map_cons, e2], fun p hp => ?_⟩
        rcases List.mem_cons.mp hp with rfl | hp
        · exact .inl g1
        · exact e3 p hp
theorem evd_unT {σ : L2.St} {G : Hp} {te : TE} {xs : List Str} (h : EvD te σ G (.tuple (strL xs))) (nd : xs.Nodup) (hl : xs.length < 4000) : EvD (ShT.tLenUnlike K te) σ G (.int xs.length) := fun H e Q q => h H e _ fun v G2 H2 g n => by
  cases n with
  | tup h1 n1 =>
    have e1 := dn_strs n1
    subst e1
    exact ⟨_, rfl, .inl ⟨xs, .inr (.inl (rdx g.s h1)), nd, hl, q _ G2 H2 g (.int _)⟩⟩
theorem evd_unL {σ : L2.St} {G : Hp} {te : TE} {xs : List Str} (h : EvD te σ G (.list (strL xs))) (nd : xs.Nodup) (hl : xs.length < 4000) : EvD (ShT.tLenUnlike K te) σ G (.int xs.length) := fun H e Q q => h H e _ fun v G2 H2 g n => by
  cases n with
  | lst h1 n1 =>
    have e1 := dn_strs n1
    subst e1
    exact ⟨_, rfl, .inl ⟨xs, .inl (.inl (.inl (g.s _ _ h1))), nd, hl, q _ G2 H2 g (.int _)⟩⟩
theorem evd_unP {σ : L2.St} {G : Hp} {te : TE} {kss : List (List Str)} (h : EvD te σ G (.list (kss.map fun k => PyData.tuple (strL k)))) (nd : kss.Nodup) (hl : kss.length < 63) : EvD (ShT.tLenUnlike K te) σ G (.int kss.length) := fun H e Q q => h H e _ fun v G2 H2 g n => by
  cases n with
  | lst h1 n1 =>
    obtain ⟨ks, e1, e2, e3⟩ := sl_tups n1
    subst e1 e2
    refine ⟨_, rfl, .inr ⟨ks, .inl (.inl (g.s _ _ h1)), fun p hp => rdR g.s (e3 p hp), nd, by simpa using hl, ?_⟩⟩
    have z : (ks.map (·.2)).length = ks.length := List.length_map _
    rw [← z]
    exact q _ G2 H2 g (.int _)
abbrev s_are_unlike : Stmt := topS 12
theorem sc_are_unlike : FnScope ["keys"] ["keys"] (defScope s_are_unlike) := ⟨rfl, rfl, rfl, by decide +kernel, rfl, by decide +kernel, by decide +kernel⟩
/-- unlike texts, or unlike tuples of texts -/
def domUnlike (ds : List D) (c : D) : Prop := c = .bool true ∧ ((∃ xs : List Str, (ds = [.tuple (strL xs)] ∨ ds = [.list (strL xs)]) ∧ xs.Nodup ∧ xs.length < 4000) ∨ ∃ kss : List (List Str), ds = [.list (kss.map fun k => PyData.tuple (strL k))] ∧ kss.Nodup ∧ kss.length < 63)
theorem strL_len (xs : List Str) : (strL xs).length = xs.length := List.length_map _
theorem keeps_unlike (B : Bi mg) (S : Stands K mg "are_unlike" s_are_unlike ["keys"]) : Keeps P w K mg base CX0 1 "are_unlike" ["keys"] (spD domUnlike) := by
  refine keeps_of S sc_are_unlike (fun ds c h => ?_) (fun f cdv A outer s H E hr => ⟨_, (pss_one (ps_ret (pe_cmpR op_eq (ShT.pe_lenUnlike hr B.len B.set (pv 0)) (pe_callB call_len rfl B.len bi_len (pa_cons (pv 0) pa_nil)) (nomark _)))), fun ds c vs G h n => ?_⟩)
  · obtain ⟨_, ⟨xs, rfl | rfl, _⟩ | ⟨kss, rfl, _⟩⟩ := h <;> rfl
  · obtain ⟨rfl, ⟨xs, rfl | rfl, nd, hl⟩ | ⟨kss, rfl, nd, hl⟩⟩ := h
    · obtain ⟨v, rfl, n0⟩ := one_of n
      exact evs_ret (evd_op (evd_unT (evd_at n0) nd hl) (evd_cb (ea_cons (evd_at n0) ea_nil) (r_lenT (n := xs.length) (by rw [strL_len]))) (r_eq (by simp [scalD])))
    · obtain ⟨v, rfl, n0⟩ := one_of n
      exact evs_ret (evd_op (evd_unL (evd_at n0) nd hl) (evd_cb (ea_cons (evd_at n0) ea_nil) (r_lenL (n := xs.length) (by rw [strL_len]))) (r_eq (by simp [scalD])))
    · obtain ⟨v, rfl, n0⟩ := one_of n
      exact evs_ret (evd_op (evd_unP (evd_at n0) nd hl) (evd_cb (ea_cons (evd_at n0) ea_nil) (r_lenL (n := kss.length) (by rw [List.length_map]))) (r_eq (by simp [scalD])))
/-! ### is_name -/
def LET : Str := Str.ofString "abcdefghijklmnopqrstuvwxyz"
def SIG : Str := Str.ofString "abcdefghijklmnopqrstuvwxyz0123456789"
/-- the two constants of the text -/
structure Abc (mg : Str → Option Value) : Prop where
  letters : ∃ t, mg "LETTERS" = some (.str LET t)
  signs : ∃ t, mg "SIGNS" = some (.str SIG t)
def nameS (x : Str) : Bool := decide (1 ≤ (x.length : Int)) && decide ((x.length : Int) ≤ 8) && (decide (x.cps.toList.getD 0 0 ∈ LET.cps.toList) && x.cps.toList.all fun c => decide (c ∈ SIG.cps.toList))
def nameD : D → Bool
  | .str x => nameS x
  | _ => false
/-- whether a sign is one of SIGNS -/
def signIn : D → D
  | .str z => .bool (decide (z.cps.toList.getD 0 0 ∈ SIG.cps.toList))
  | _ => .none
abbrev s_is_name : Stmt := topS 13
theorem sc_is_name : FnScope ["value", "sign"] ["value"] (defScope s_is_name) := ⟨rfl, rfl, rfl, by decide +kernel, rfl, by decide +kernel, by decide +kernel⟩
def domName (ds : List D) (c : D) : Prop := ∃ d, ds = [d] ∧ c = .bool (nameD d) ∧ ∀ x, d = .str x → x.length ≤ 100000
theorem keeps_name (B : Bi mg) (C : Abc mg) (S : Stands K mg "is_name" s_is_name ["value"]) : Keeps P w K mg base CX0 1 "is_name" ["value"] (spD domName) := by
  obtain ⟨tl, cl⟩ := C.letters
  obtain ⟨ts, cs⟩ := C.signs
  refine keeps_of S sc_is_name (fun ds c h => ?_) (fun f cdv A outer s H E hr => ⟨_, (pss_cons (ps_if (PW.pt (pw_or (pt_not (pt_val (pe_callB call_isi rfl B.isinstance bi_isinstance (pa_cons (pv 0) (pa_cons (pe_ty B.str bi_str) pa_nil))))) (pw_or1 (pt_not (pt_chain op_le op_le pe_int (pe_callB call_len rfl B.len bi_len (pa_cons (pv 0) pa_nil)) pe_int))))) (pss_one (ps_ret pe_bl)) pss_nil)
    (pss_one (ps_ret (pe_and (pe_cmpR op_in_sign (pe_ix ix_str (pv 0) pe_int (fun _ _ => rfl)) (pe_glob (v := .str LET) rfl cl ⟨tl, rfl⟩) (by rfl)) (pe_one (pe_callB (cr_all rfl) rfl B.all bi_all (pa_cons (pe_lc (own := [("sign", 1)]) (g := gName 1) (tt := tYes) rfl sc_is_name.nd (pi_str (pv 0)) (blkOk_by (N := ["value", "sign"]) (sc := defScope s_is_name) (by decide +kernel)) (fun _ _ _ _ _ => (pg_name (i := 1) sc_is_name.nd rfl (.inl rfl))) (fun _ _ _ _ _ => pts_nil) (fun _ _ _ _ _ => (pe_cmpR op_in_sign (pv 1) (pe_glob (v := .str SIG) rfl cs ⟨ts, rfl⟩) (by rfl)))) pa_nil))))))), fun ds c vs G h n => ?_⟩)
  · obtain ⟨d, rfl, _⟩ := h
    rfl
  · obtain ⟨d, rfl, rfl, hx⟩ := h
    obtain ⟨v, rfl, n0⟩ := one_of n
    cases d with
    | str x =>
      have hz := hx x rfl
      refine evs_if (b := !(decide (1 ≤ (x.length : Int)) && decide ((x.length : Int) ≤ 8))) (evt_is (evt_or (evt_not (evt_B (evd_isi (evd_at n0) (kit_str _)))) (fun _ => evt_not (evt_test (evd_chain evd_int (evd_cb (ea_cons (evd_at n0) ea_nil) (r_lenS hz rfl)) evd_int (r_I0 fun _ => .bl _) (fun _ => r_I0 fun _ => .bl _))))) ?_) (fun h1 => ?_) (fun h1 => ?_)
      · rfl
      · refine evs_ret (evd_is evd_bl ?_)
        show PyData.bool false = PyData.bool (nameS x)
        unfold nameS
        rw [Bool.not_eq_true'] at h1
        rw [h1]
        rfl
      · have h2 : (decide (1 ≤ (x.length : Int)) && decide ((x.length : Int) ≤ 8)) = true := by
          cases z : (decide (1 ≤ (x.length : Int)) && decide ((x.length : Int) ≤ 8)) with
          | true => rfl
          | false =>
            rw [z] at h1
            cases h1
        have hl : 0 < x.cps.toList.length := by
          have z := (Bool.and_eq_true _ _).mp h2
          have z1 := of_decide_eq_true z.1
          have z2 : x.length = x.cps.toList.length := Array.length_toList.symm
          omega
        have at0 : x.cps.toList[0]? = some (x.cps.toList.getD 0 0) := by
          rw [List.getD_eq_getElem?_getD, List.getElem?_eq_getElem hl]
          rfl
        refine evs_ret (evd_is (evd_and (evd_op (evd_op (evd_at n0) (evd_int (i := ((0 : Nat) : Int))) (r_ixS hz at0)) evd_str r_sign) (fun _ => evd_cb (ea_cons (evd_is (d' := .list (boolL (x.cps.toList.map fun c => decide (c ∈ SIG.cps.toList)))) (evd_lcN (r := signIn) (ei_str (evd_at n0)) ?_ (fun x => rfl) (fun d hd y G1 e ny => ?_)) ?_) ea_nil) (r_all rfl))) ?_)
        · unfold signs
          rw [List.length_map, Array.length_toList]
          exact Nat.le_trans (show x.cps.size ≤ 8 from by
            have z := (Bool.and_eq_true _ _).mp h2
            have z1 := of_decide_eq_true z.2
            have z3 : (x.length : Int) = (x.cps.size : Int) := rfl
            omega) (by decide)
        · obtain ⟨c, hc, rfl⟩ := List.mem_map.mp hd
          exact evd_op (evd_at ny) evd_str r_sign
        · unfold signs boolL
          rw [List.map_map, List.map_map]
          rfl
        · show PyData.bool _ = PyData.bool (nameS x)
          unfold nameS
          rw [h2, List.all_map, Bool.true_and]
          rfl
    | _ => exact evs_if (b := true) (evt_is (evt_or (b := true) (evt_not (evt_B (evd_isi (evd_at n0) (kit_str _)))) (fun h => absurd (show true = false from h) (by decide))) rfl) (fun _ => evs_ret evd_bl) (fun h => absurd h (by decide))

/-! ### are_names -/
abbrev s_are_names : Stmt := topS 14
theorem sc_are_names : FnScope ["value", "least", "most", "name"] ["value", "least", "most"] (defScope s_are_names) := ⟨rfl, rfl, rfl, by decide +kernel, rfl, by decide +kernel, by decide +kernel⟩
/-- names of a catalog -/
structure NamesOk (xs : List Str) (lo hi : Int) : Prop where
  each : ∀ x ∈ xs, nameS x = true
  nd : xs.Nodup
  lo : lo ≤ (xs.length : Int)
  hi : (xs.length : Int) ≤ hi
  few : xs.length < 4000
theorem nameS_len {x : Str} (h : nameS x = true) : x.length ≤ 100000 := by
  unfold nameS at h
  rw [Bool.and_eq_true, Bool.and_eq_true] at h
  have z := of_decide_eq_true h.1.2
  omega
theorem nameS_dom {x : Str} (h : nameS x = true) : domName [.str x] (.bool true) := ⟨.str x, rfl, by rw [show nameD (.str x) = nameS x from rfl, h], fun y e => by
  cases e
  exact nameS_len h⟩
def domNames (ds : List D) (c : D) : Prop := ∃ xs lo hi, ds = [.tuple (strL xs), .int lo, .int hi] ∧ NamesOk xs lo hi ∧ c = .bool true
theorem all_true {α : Type} (xs : List α) : (xs.map fun _ => true).all id = true := by
  rw [List.all_map, List.all_eq_true]
  exact fun _ _ => rfl
theorem map_true {α : Type} (xs : List α) : xs.map (fun _ => PyData.bool true) = boolL (xs.map fun _ => true) := by
  unfold boolL
  rw [List.map_map]
  rfl
theorem keeps_names (B : Bi mg) (S : Stands K mg "are_names" s_are_names ["value", "least", "most"]) (K_is_row : Keeps P w K mg base CX0 1 "is_row" ["value", "least", "most"] (spD domRow)) (K_is_name : Keeps P w K mg base CX0 1 "is_name" ["value"] (spD domName)) (K_are_unlike : Keeps P w K mg base CX0 1 "are_unlike" ["keys"] (spD domUnlike)) :
    Keeps P w K mg base CX0 2 "are_names" ["value", "least", "most"] (spD domNames) := by
  refine keeps_of S sc_are_names (fun ds c h => ?_) (fun f cdv A outer s H E hr => ⟨_, (pss_one (ps_ret (pe_and (pe_callD K_is_row (hr.mono (by omega)) (pa_cons (pv 0) (pa_cons (pv 1) (pa_cons (pv 2) pa_nil)))) (pe_and (pe_callB (cr_all rfl) rfl B.all bi_all (pa_cons (pe_lc (own := [("name", 3)]) (g := gName 3) (tt := tYes) rfl sc_are_names.nd (pi_tup (pv 0)) (blkOk_by (N := ["value", "least", "most", "name"]) (sc := defScope s_are_names) (by decide +kernel)) (fun _ _ _ _ _ => (pg_name (i := 3) sc_are_names.nd rfl (.inl rfl))) (fun _ _ _ _ _ => pts_nil) (fun _ _ _ _ _ => (pe_callD K_is_name (hr.mono (by omega)) (pa_cons (pv 3) pa_nil)))) pa_nil)) (pe_one (pe_callD K_are_unlike (hr.mono (by omega)) (pa_cons (pv 0) pa_nil))))))), fun ds c vs G h n => ?_⟩)
  · obtain ⟨xs, lo, hi, rfl, _⟩ := h
    rfl
  · obtain ⟨xs, lo, hi, rfl, N, rfl⟩ := h
    obtain ⟨v, v1, v2, rfl, n0, n1, n2⟩ := dn3 n
    refine evs_ret (evd_and (a := true) (evd_call (ea_cons (evd_at n0) (ea_cons (evd_at n1) (ea_cons (evd_at n2) ea_nil))) ⟨_, _, _, rfl, ?_⟩) (fun _ => evd_and (a := true) (evd_cb (ea_cons (evd_is (evd_lcN (r := fun _ => .bool true) (ei_tup (evd_at n0)) ?_ (fun x => rfl) (fun d hd y G1 e ny => ?_)) ?_) ea_nil) (r_all (all_true xs)))
      (fun _ => evd_call (ea_cons (evd_at n0) ea_nil) ⟨rfl, .inl ⟨xs, .inl rfl, N.nd, N.few⟩⟩)))
    · show PyData.bool true = PyData.bool (decide (lo ≤ ((strL xs).length : Int)) && decide (((strL xs).length : Int) ≤ hi))
      rw [strL_len, decide_eq_true N.lo, decide_eq_true N.hi] <;> rfl
    · rw [strL_len]
      exact Nat.le_trans (Nat.le_of_lt N.few) (by decide)
    · obtain ⟨x, hx, rfl⟩ := List.mem_map.mp hd
      exact evd_call (ea_cons (evd_at ny) ea_nil) (nameS_dom (N.each x hx))
    · unfold strL
      rw [List.map_map]
      exact congrArg PyData.list (map_true xs)
/-! ### is_lane, are_lanes -/
structure Lane where
  h : Str
  r : Str
  lo : Int
  hi : Int
  pr : Int
def Lane.d (l : Lane) : D := .tuple [.str l.h, .str l.r, .int l.lo, .int l.hi, .int l.pr]
structure LaneOk (hs rs : List Str) (l : Lane) : Prop where
  h : l.h ∈ hs
  r : l.r ∈ rs
  lo0 : 0 ≤ l.lo
  lo9 : l.lo ≤ 9
  hi0 : l.lo ≤ l.hi
  hi9 : l.hi ≤ 9
  pr0 : 0 ≤ l.pr
  pr9 : l.pr ≤ 99
abbrev s_is_lane : Stmt := topS 15
theorem sc_is_lane : FnScope ["houses", "regions", "value", "house", "region", "least", "most", "price"] ["houses", "regions", "value"] (defScope s_is_lane) := ⟨rfl, rfl, rfl, by decide +kernel, rfl, by decide +kernel, by decide +kernel⟩
def domLane (ds : List D) (c : D) : Prop := ∃ hs rs l, ds = [.tuple (strL hs), .tuple (strL rs), Lane.d l] ∧ LaneOk hs rs l ∧ c = .bool true
theorem between_dom {i lo hi : Int} (h1 : lo ≤ i) (h2 : i ≤ hi) : domBetween [.int i, .int lo, .int hi] (.bool true) := ⟨_, _, _, rfl, by
  show PyData.bool true = PyData.bool (decide (lo ≤ i) && decide (i ≤ hi))
  rw [decide_eq_true h1, decide_eq_true h2]
  rfl⟩
theorem row_dom {ds : List D} {lo hi : Int} (h1 : lo ≤ (ds.length : Int)) (h2 : (ds.length : Int) ≤ hi) : domRow [.tuple ds, .int lo, .int hi] (.bool true) := ⟨_, _, _, rfl, by
  show PyData.bool true = PyData.bool (decide (lo ≤ (ds.length : Int)) && decide ((ds.length : Int) ≤ hi))
  rw [decide_eq_true h1, decide_eq_true h2]
  rfl⟩
theorem keeps_lane (S : Stands K mg "is_lane" s_is_lane ["houses", "regions", "value"]) (K_is_row : Keeps P w K mg base CX0 1 "is_row" ["value", "least", "most"] (spD domRow)) (K_is_between : Keeps P w K mg base CX0 1 "is_between" ["value", "low", "high"] (spD domBetween)) :
    Keeps P w K mg base CX0 2 "is_lane" ["houses", "regions", "value"] (spD domLane) := by
  refine keeps_of S sc_is_lane (fun ds c h => ?_) (fun f cdv A outer s H E hr => ⟨_, (pss_cons (ps_if (pt_not (pt_val (pe_callD K_is_row (hr.mono (by omega)) (pa_cons (pv 2) (pa_cons pe_int (pa_cons pe_int pa_nil)))))) (pss_one (ps_ret pe_bl)) pss_nil)
    (pss_cons (ps_asg (pv 2) (pg_tup rfl (pgs_cons (pg_name (i := 3) sc_is_lane.nd rfl (.inl rfl)) (pgs_cons (pg_name (i := 4) sc_is_lane.nd rfl (.inl rfl)) (pgs_cons (pg_name (i := 5) sc_is_lane.nd rfl (.inl rfl)) (pgs_cons (pg_name (i := 6) sc_is_lane.nd rfl (.inl rfl)) (pgs_cons (pg_name (i := 7) sc_is_lane.nd rfl (.inl rfl)) pgs_nil)))))))
    (pss_cons (ps_if (PW.pt (pw_or (pt_cmpR op_notIn_seq (pv 3) (pv 0) (by rfl)) (pw_or1 (pt_cmpR op_notIn_seq (pv 4) (pv 1) (by rfl))))) (pss_one (ps_ret pe_bl)) pss_nil)
    (pss_one (ps_ret (pe_and (pe_callD K_is_between (hr.mono (by omega)) (pa_cons (pv 5) (pa_cons pe_int (pa_cons pe_int pa_nil)))) (pe_and (pe_callD K_is_between (hr.mono (by omega)) (pa_cons (pv 6) (pa_cons (pv 5) (pa_cons pe_int pa_nil)))) (pe_one (pe_callD K_is_between (hr.mono (by omega)) (pa_cons (pv 7) (pa_cons pe_int (pa_cons pe_int pa_nil)))))))))))), fun ds c vs G h n => ?_⟩)
  · obtain ⟨hs, rs, l, rfl, _⟩ := h
    rfl
  · obtain ⟨hs, rs, l, rfl, L, rfl⟩ := h
    obtain ⟨v, v1, v2, rfl, n0, n1, n2⟩ := dn3 n
    refine evs_if (b := false) (evt_not (b := true) (evt_B (evd_call (ea_cons (evd_at n2) (ea_cons evd_int (ea_cons evd_int ea_nil))) (row_dom (show (5 : Int) ≤ 5 by decide) (show (5 : Int) ≤ 5 by decide))))) (fun h => nomatch h) (fun _ => ?_)
    refine evs_asg (evd_at n2) (fun G2 _ => eg_five) (fun σ2 G2 e2 ⟨a1, a2, a3, a4, a5, es, m1, m2, m3, m4, m5⟩ => ?_)
    subst es
    refine evs_if (b := false) (evt_is (evt_or (a := false) (b := false) (evt_test (evd_op (evd_at m1) (evd_at n0) (r_inT (neg := true) (by simp [L.h])))) (fun _ => evt_test (evd_op (evd_at m2) (evd_at n1) (r_inT (neg := true) (by simp [L.r]))))) rfl) (fun h => nomatch h) (fun _ => ?_)
    exact evs_ret (evd_and (a := true) (evd_call (ea_cons (evd_at m3) (ea_cons evd_int (ea_cons evd_int ea_nil))) (between_dom L.lo0 L.lo9)) (fun _ => evd_and (a := true) (evd_call (ea_cons (evd_at m4) (ea_cons (evd_at m3) (ea_cons evd_int ea_nil))) (between_dom L.hi0 L.hi9)) (fun _ => evd_call (ea_cons (evd_at m5) (ea_cons evd_int (ea_cons evd_int ea_nil))) (between_dom L.pr0 L.pr9))))

abbrev s_are_lanes : Stmt := topS 16
theorem sc_are_lanes : FnScope ["houses", "regions", "value", "lane"] ["houses", "regions", "value"] (defScope s_are_lanes) := ⟨rfl, rfl, rfl, by decide +kernel, rfl, by decide +kernel, by decide +kernel⟩
structure LanesOk (hs rs : List Str) (ls : List Lane) : Prop where
  each : ∀ l ∈ ls, LaneOk hs rs l
  few : ls.length ≤ 20
  nd : (ls.map fun l => [l.h, l.r]).Nodup
def domLanes (ds : List D) (c : D) : Prop := ∃ hs rs ls, ds = [.tuple (strL hs), .tuple (strL rs), .tuple (ls.map Lane.d)] ∧ LanesOk hs rs ls ∧ c = .bool true
/-- the first two items of a row -/
def twoOf : D → D
  | .tuple (a :: b :: _) => .tuple [a, b]
  | d => d
theorem keeps_lanes (B : Bi mg) (S : Stands K mg "are_lanes" s_are_lanes ["houses", "regions", "value"]) (K_is_row : Keeps P w K mg base CX0 1 "is_row" ["value", "least", "most"] (spD domRow)) (K_is_lane : Keeps P w K mg base CX0 2 "is_lane" ["houses", "regions", "value"] (spD domLane))
    (K_are_unlike : Keeps P w K mg base CX0 1 "are_unlike" ["keys"] (spD domUnlike)) : Keeps P w K mg base CX0 3 "are_lanes" ["houses", "regions", "value"] (spD domLanes) := by
  refine keeps_of S sc_are_lanes (fun ds c h => ?_) (fun f cdv A outer s H E hr => ⟨_, (pss_cons (ps_if (PW.pt (pw_or (pt_not (pt_val (pe_callD K_is_row (hr.mono (by omega)) (pa_cons (pv 2) (pa_cons pe_int (pa_cons pe_int pa_nil)))))) (pw_or1 (pt_not (pt_val (pe_callB (cr_all rfl) rfl B.all bi_all (pa_cons (pe_lc (own := [("lane", 3)]) (g := gName 3) (tt := tYes) rfl sc_are_lanes.nd (pi_tup (pv 2)) (blkOk_by (N := ["houses", "regions", "value", "lane"]) (sc := defScope s_are_lanes) (by decide +kernel)) (fun _ _ _ _ _ => (pg_name (i := 3) sc_are_lanes.nd rfl (.inl rfl))) (fun _ _ _ _ _ => pts_nil) (fun _ _ _ _ _ => (pe_callD K_is_lane (hr.mono (by omega)) (pa_cons (pv 0) (pa_cons (pv 1) (pa_cons (pv 3) pa_nil)))))) pa_nil))))))) (pss_one (ps_ret pe_bl)) pss_nil)
    (pss_one (ps_ret (pe_callD K_are_unlike (hr.mono (by omega)) (pa_cons (pe_lc (own := [("lane", 3)]) (g := gName 3) (tt := tYes) rfl sc_are_lanes.nd (pi_tup (pv 2)) (blkOk_by (N := ["houses", "regions", "value", "lane"]) (sc := defScope s_are_lanes) (by decide +kernel)) (fun _ _ _ _ _ => (pg_name (i := 3) sc_are_lanes.nd rfl (.inl rfl))) (fun _ _ _ _ _ => pts_nil) (fun _ _ _ _ _ => (pe_tup (pa_cons (pe_ix (r := rIxT K) ix_tup (pv 3) pe_int (fun _ _ => rfl)) (pa_cons (pe_ix (r := rIxT K) ix_tup (pv 3) pe_int (fun _ _ => rfl)) pa_nil))))) pa_nil))))), fun ds c vs G h n => ?_⟩)
  · obtain ⟨hs, rs, ls, rfl, _⟩ := h
    rfl
  · obtain ⟨hs, rs, ls, rfl, L, rfl⟩ := h
    obtain ⟨v, v1, v2, rfl, n0, n1, n2⟩ := dn3 n
    have few := L.few
    have len1 : (ls.map Lane.d).length = ls.length := List.length_map _
    refine evs_if (b := false) (evt_is (evt_or (a := false) (b := false) (evt_not (b := true) (evt_B (evd_call (ea_cons (evd_at n2) (ea_cons evd_int (ea_cons evd_int ea_nil))) (row_dom (by omega) (by rw [len1]; omega)))))
      (fun _ => evt_not (b := true) (evt_B (evd_cb (ea_cons (evd_is (evd_lcN (r := fun _ => .bool true) (ei_tup (evd_at n2)) (by rw [len1]; omega) (fun x => rfl) (fun d hd y G1 e ny => ?_)) (congrArg PyData.list (map_true _))) ea_nil) (r_all (all_true _)))))) rfl) (fun h => nomatch h) (fun _ => ?_)
    · obtain ⟨l, hl, rfl⟩ := List.mem_map.mp hd
      exact evd_call (ea_cons (evd_at n0) (ea_cons (evd_at n1) (ea_cons (evd_at ny) ea_nil))) ⟨hs, rs, l, rfl, L.each l hl, rfl⟩
    · refine evs_ret (evd_call (ea_cons (evd_is (d' := .list ((ls.map fun l => [l.h, l.r]).map fun k => PyData.tuple (strL k))) (evd_lcN (r := twoOf) (ei_tup (evd_at n2)) (by rw [len1]; omega) (fun x => rfl) (fun d hd y G1 e ny => ?_)) ?_) ea_nil) ⟨rfl, .inr ⟨_, rfl, L.nd, by rw [List.length_map]; omega⟩⟩)
      · obtain ⟨l, hl, rfl⟩ := List.mem_map.mp hd
        exact evd_tup (ea_cons (evd_op (evd_at ny) (evd_int (i := ((0 : Nat) : Int))) (r_ixT rfl)) (ea_cons (evd_op (evd_at ny) (evd_int (i := ((1 : Nat) : Int))) (r_ixT rfl)) ea_nil)) (show (2 : Nat) ≤ 100000 by decide)
      · rw [List.map_map, List.map_map]
        rfl
/-! ### is_supply, are_supplies -/
structure Sup where
  n : Str
  h : Str
  i : Str
  day : Int
  cnt : Int
def Sup.d (s : Sup) : D := .tuple [.str s.n, .str s.h, .str s.i, .int s.day, .int s.cnt]
structure SupOk (hs its : List Str) (s : Sup) : Prop where
  n : nameS s.n = true
  h : s.h ∈ hs
  i : s.i ∈ its
  day0 : 0 ≤ s.day
  day60 : s.day ≤ 60
  cnt0 : 0 ≤ s.cnt
  cnt99 : s.cnt ≤ 99
abbrev s_is_supply : Stmt := topS 17
theorem sc_is_supply : FnScope ["houses", "items", "value", "name", "house", "item", "day", "count"] ["houses", "items", "value"] (defScope s_is_supply) := ⟨rfl, rfl, rfl, by decide +kernel, rfl, by decide +kernel, by decide +kernel⟩
def domSup (ds : List D) (c : D) : Prop := ∃ hs its s, ds = [.tuple (strL hs), .tuple (strL its), Sup.d s] ∧ SupOk hs its s ∧ c = .bool true
theorem keeps_sup (S : Stands K mg "is_supply" s_is_supply ["houses", "items", "value"]) (K_is_row : Keeps P w K mg base CX0 1 "is_row" ["value", "least", "most"] (spD domRow)) (K_is_name : Keeps P w K mg base CX0 1 "is_name" ["value"] (spD domName)) (K_is_between : Keeps P w K mg base CX0 1 "is_between" ["value", "low", "high"] (spD domBetween)) :
    Keeps P w K mg base CX0 2 "is_supply" ["houses", "items", "value"] (spD domSup) := by
  refine keeps_of S sc_is_supply (fun ds c h => ?_) (fun f cdv A outer s H E hr => ⟨_, (pss_cons (ps_if (pt_not (pt_val (pe_callD K_is_row (hr.mono (by omega)) (pa_cons (pv 2) (pa_cons pe_int (pa_cons pe_int pa_nil)))))) (pss_one (ps_ret pe_bl)) pss_nil)
    (pss_cons (ps_asg (pv 2) (pg_tup rfl (pgs_cons (pg_name (i := 3) sc_is_supply.nd rfl (.inl rfl)) (pgs_cons (pg_name (i := 4) sc_is_supply.nd rfl (.inl rfl)) (pgs_cons (pg_name (i := 5) sc_is_supply.nd rfl (.inl rfl)) (pgs_cons (pg_name (i := 6) sc_is_supply.nd rfl (.inl rfl)) (pgs_cons (pg_name (i := 7) sc_is_supply.nd rfl (.inl rfl)) pgs_nil)))))))
    (pss_cons (ps_if (PW.pt (pw_or (pt_not (pt_val (pe_callD K_is_name (hr.mono (by omega)) (pa_cons (pv 3) pa_nil)))) (pw_or (pt_cmpR op_notIn_seq (pv 4) (pv 0) (by rfl)) (pw_or1 (pt_cmpR op_notIn_seq (pv 5) (pv 1) (by rfl)))))) (pss_one (ps_ret pe_bl)) pss_nil)
    (pss_one (ps_ret (pe_and (pe_callD K_is_between (hr.mono (by omega)) (pa_cons (pv 6) (pa_cons pe_int (pa_cons pe_int pa_nil)))) (pe_one (pe_callD K_is_between (hr.mono (by omega)) (pa_cons (pv 7) (pa_cons pe_int (pa_cons pe_int pa_nil))))))))))), fun ds c vs G h n => ?_⟩)
  · obtain ⟨hs, its, s, rfl, _⟩ := h
    rfl
  · obtain ⟨hs, its, s, rfl, L, rfl⟩ := h
    obtain ⟨v, v1, v2, rfl, n0, n1, n2⟩ := dn3 n
    refine evs_if (b := false) (evt_not (b := true) (evt_B (evd_call (ea_cons (evd_at n2) (ea_cons evd_int (ea_cons evd_int ea_nil))) (row_dom (show (5 : Int) ≤ 5 by decide) (show (5 : Int) ≤ 5 by decide))))) (fun h => nomatch h) (fun _ => ?_)
    refine evs_asg (evd_at n2) (fun G2 _ => eg_five) (fun σ2 G2 e2 ⟨a1, a2, a3, a4, a5, es, m1, m2, m3, m4, m5⟩ => ?_)
    subst es
    refine evs_if (b := false) (evt_is (evt_or (a := false) (b := false) (evt_not (b := true) (evt_B (evd_call (ea_cons (evd_at m1) ea_nil) (nameS_dom L.n)))) (fun _ => evt_is (evt_or (a := false) (b := false) (evt_test (evd_op (evd_at m2) (evd_at n0) (r_inT (neg := true) (by simp [L.h])))) (fun _ => evt_test (evd_op (evd_at m3) (evd_at n1) (r_inT (neg := true) (by simp [L.i]))))) rfl)) rfl) (fun h => nomatch h) (fun _ => ?_)
    exact evs_ret (evd_and (a := true) (evd_call (ea_cons (evd_at m4) (ea_cons evd_int (ea_cons evd_int ea_nil))) (between_dom L.day0 L.day60)) (fun _ => evd_call (ea_cons (evd_at m5) (ea_cons evd_int (ea_cons evd_int ea_nil))) (between_dom L.cnt0 L.cnt99)))
abbrev s_are_supplies : Stmt := topS 18
theorem sc_are_supplies : FnScope ["houses", "items", "value", "supply"] ["houses", "items", "value"] (defScope s_are_supplies) := ⟨rfl, rfl, rfl, by decide +kernel, rfl, by decide +kernel, by decide +kernel⟩
structure SupsOk (hs its : List Str) (ss : List Sup) : Prop where
  each : ∀ s ∈ ss, SupOk hs its s
  few : ss.length ≤ 14
  nd : (ss.map (·.n)).Nodup
def domSups (ds : List D) (c : D) : Prop := ∃ hs its ss, ds = [.tuple (strL hs), .tuple (strL its), .tuple (ss.map Sup.d)] ∧ SupsOk hs its ss ∧ c = .bool true
def oneOf : D → D
  | .tuple (a :: _) => a
  | d => d
theorem keeps_sups (B : Bi mg) (S : Stands K mg "are_supplies" s_are_supplies ["houses", "items", "value"]) (K_is_row : Keeps P w K mg base CX0 1 "is_row" ["value", "least", "most"] (spD domRow)) (K_is_supply : Keeps P w K mg base CX0 2 "is_supply" ["houses", "items", "value"] (spD domSup))
    (K_are_unlike : Keeps P w K mg base CX0 1 "are_unlike" ["keys"] (spD domUnlike)) : Keeps P w K mg base CX0 3 "are_supplies" ["houses", "items", "value"] (spD domSups) := by
  refine keeps_of S sc_are_supplies (fun ds c h => ?_) (fun f cdv A outer s H E hr => ⟨_, (pss_cons (ps_if (PW.pt (pw_or (pt_not (pt_val (pe_callD K_is_row (hr.mono (by omega)) (pa_cons (pv 2) (pa_cons pe_int (pa_cons pe_int pa_nil)))))) (pw_or1 (pt_not (pt_val (pe_callB (cr_all rfl) rfl B.all bi_all (pa_cons (pe_lc (own := [("supply", 3)]) (g := gName 3) (tt := tYes) rfl sc_are_supplies.nd (pi_tup (pv 2)) (blkOk_by (N := ["houses", "items", "value", "supply"]) (sc := defScope s_are_supplies) (by decide +kernel)) (fun _ _ _ _ _ => (pg_name (i := 3) sc_are_supplies.nd rfl (.inl rfl))) (fun _ _ _ _ _ => pts_nil) (fun _ _ _ _ _ => (pe_callD K_is_supply (hr.mono (by omega)) (pa_cons (pv 0) (pa_cons (pv 1) (pa_cons (pv 3) pa_nil)))))) pa_nil))))))) (pss_one (ps_ret pe_bl)) pss_nil)
    (pss_one (ps_ret (pe_callD K_are_unlike (hr.mono (by omega)) (pa_cons (pe_lc (own := [("supply", 3)]) (g := gName 3) (tt := tYes) rfl sc_are_supplies.nd (pi_tup (pv 2)) (blkOk_by (N := ["houses", "items", "value", "supply"]) (sc := defScope s_are_supplies) (by decide +kernel)) (fun _ _ _ _ _ => (pg_name (i := 3) sc_are_supplies.nd rfl (.inl rfl))) (fun _ _ _ _ _ => pts_nil) (fun _ _ _ _ _ => (pe_ix (r := rIxT K) ix_tup (pv 3) pe_int (fun _ _ => rfl)))) pa_nil))))), fun ds c vs G h n => ?_⟩)
  · obtain ⟨hs, its, ss, rfl, _⟩ := h
    rfl
  · obtain ⟨hs, its, ss, rfl, L, rfl⟩ := h
    obtain ⟨v, v1, v2, rfl, n0, n1, n2⟩ := dn3 n
    have few := L.few
    have len1 : (ss.map Sup.d).length = ss.length := List.length_map _
    refine evs_if (b := false) (evt_is (evt_or (a := false) (b := false) (evt_not (b := true) (evt_B (evd_call (ea_cons (evd_at n2) (ea_cons evd_int (ea_cons evd_int ea_nil))) (row_dom (by omega) (by rw [len1]; omega)))))
      (fun _ => evt_not (b := true) (evt_B (evd_cb (ea_cons (evd_is (evd_lcN (r := fun _ => .bool true) (ei_tup (evd_at n2)) (by rw [len1]; omega) (fun x => rfl) (fun d hd y G1 e ny => ?_)) (congrArg PyData.list (map_true _))) ea_nil) (r_all (all_true _)))))) rfl) (fun h => nomatch h) (fun _ => ?_)
    · obtain ⟨l, hl, rfl⟩ := List.mem_map.mp hd
      exact evd_call (ea_cons (evd_at n0) (ea_cons (evd_at n1) (ea_cons (evd_at ny) ea_nil))) ⟨hs, its, l, rfl, L.each l hl, rfl⟩
    · refine evs_ret (evd_call (ea_cons (evd_is (d' := .list (strL (ss.map (·.n)))) (evd_lcN (r := oneOf) (ei_tup (evd_at n2)) (by rw [len1]; omega) (fun x => rfl) (fun d hd y G1 e ny => ?_)) ?_) ea_nil) ⟨rfl, .inl ⟨_, .inr rfl, L.nd, by rw [List.length_map]; omega⟩⟩)
      · obtain ⟨l, hl, rfl⟩ := List.mem_map.mp hd
        exact evd_op (evd_at ny) (evd_int (i := ((0 : Nat) : Int))) (r_ixT rfl)
      · unfold strL
        rw [List.map_map, List.map_map]
        rfl
/-! ### is_catalog, check_catalog -/
structure Cat where
  hs : List Str
  rs : List Str
  its : List Str
  ls : List Lane
  ss : List Sup
def Cat.d (c : Cat) : D := .tuple [.tuple (strL c.hs), .tuple (strL c.rs), .tuple (strL c.its), .tuple (c.ls.map Lane.d), .tuple (c.ss.map Sup.d)]
structure CatOk (c : Cat) : Prop where
  hs : NamesOk c.hs 1 5
  rs : NamesOk c.rs 1 5
  its : NamesOk c.its 1 5
  ls : LanesOk c.hs c.rs c.ls
  ss : SupsOk c.hs c.its c.ss
abbrev s_is_catalog : Stmt := topS 19
theorem sc_is_catalog : FnScope ["value", "houses", "regions", "items", "lanes", "supplies", "names"] ["value"] (defScope s_is_catalog) := ⟨rfl, rfl, rfl, by decide +kernel, rfl, by decide +kernel, by decide +kernel⟩
def domCat (ds : List D) (c : D) : Prop := ∃ t, ds = [Cat.d t] ∧ CatOk t ∧ c = .bool true
theorem keeps_isCat (B : Bi mg) (S : Stands K mg "is_catalog" s_is_catalog ["value"]) (K_is_row : Keeps P w K mg base CX0 1 "is_row" ["value", "least", "most"] (spD domRow)) (K_are_names : Keeps P w K mg base CX0 2 "are_names" ["value", "least", "most"] (spD domNames))
    (K_are_lanes : Keeps P w K mg base CX0 3 "are_lanes" ["houses", "regions", "value"] (spD domLanes)) (K_are_supplies : Keeps P w K mg base CX0 3 "are_supplies" ["houses", "items", "value"] (spD domSups)) : Keeps P w K mg base CX0 4 "is_catalog" ["value"] (spD domCat) := by
  refine keeps_of S sc_is_catalog (fun ds c h => ?_) (fun f cdv A outer s H E hr => ⟨_, (pss_cons (ps_if (pt_not (pt_val (pe_callD K_is_row (hr.mono (by omega)) (pa_cons (pv 0) (pa_cons pe_int (pa_cons pe_int pa_nil)))))) (pss_one (ps_ret pe_bl)) pss_nil)
    (pss_cons (ps_asg (pv 0) (pg_tup rfl (pgs_cons (pg_name (i := 1) sc_is_catalog.nd rfl (.inl rfl)) (pgs_cons (pg_name (i := 2) sc_is_catalog.nd rfl (.inl rfl)) (pgs_cons (pg_name (i := 3) sc_is_catalog.nd rfl (.inl rfl)) (pgs_cons (pg_name (i := 4) sc_is_catalog.nd rfl (.inl rfl)) (pgs_cons (pg_name (i := 5) sc_is_catalog.nd rfl (.inl rfl)) pgs_nil)))))))
    (pss_cons (ps_if (pt_not (pt_val (pe_callB (cr_all rfl) rfl B.all bi_all (pa_cons (pe_lc (own := [("names", 6)]) (g := gName 6) (tt := tYes) rfl sc_is_catalog.nd (pi_tup (pe_tup (pa_cons (pv 1) (pa_cons (pv 2) (pa_cons (pv 3) pa_nil))))) (blkOk_by (N := ["value", "houses", "regions", "items", "lanes", "supplies", "names"]) (sc := defScope s_is_catalog) (by decide +kernel)) (fun _ _ _ _ _ => (pg_name (i := 6) sc_is_catalog.nd rfl (.inl rfl))) (fun _ _ _ _ _ => pts_nil) (fun _ _ _ _ _ => (pe_callD K_are_names (hr.mono (by omega)) (pa_cons (pv 6) (pa_cons pe_int (pa_cons pe_int pa_nil)))))) pa_nil)))) (pss_one (ps_ret pe_bl)) pss_nil)
    (pss_one (ps_ret (pe_and (pe_callD K_are_lanes (hr.mono (by omega)) (pa_cons (pv 1) (pa_cons (pv 2) (pa_cons (pv 4) pa_nil)))) (pe_one (pe_callD K_are_supplies (hr.mono (by omega)) (pa_cons (pv 1) (pa_cons (pv 3) (pa_cons (pv 5) pa_nil))))))))))), fun ds c vs G h n => ?_⟩)
  · obtain ⟨t, rfl, _⟩ := h
    rfl
  · obtain ⟨t, rfl, L, rfl⟩ := h
    obtain ⟨v, rfl, n0⟩ := one_of n
    refine evs_if (b := false) (evt_not (b := true) (evt_B (evd_call (ea_cons (evd_at n0) (ea_cons evd_int (ea_cons evd_int ea_nil))) (row_dom (show (5 : Int) ≤ 5 by decide) (show (5 : Int) ≤ 5 by decide))))) (fun h => nomatch h) (fun _ => ?_)
    refine evs_asg (evd_at n0) (fun G2 _ => eg_five) (fun σ2 G2 e2 ⟨a1, a2, a3, a4, a5, es, m1, m2, m3, m4, m5⟩ => ?_)
    subst es
    refine evs_if (b := false) (evt_not (b := true) (evt_B (evd_cb (ea_cons (evd_is (evd_lcN (r := fun _ => .bool true) (ei_tup (evd_tup (ea_cons (evd_at m1) (ea_cons (evd_at m2) (ea_cons (evd_at m3) ea_nil))) (show (3 : Nat) ≤ 100000 by decide))) (show (3 : Nat) ≤ 40000 by decide) (fun x => rfl) (fun d hd y G1 e ny => ?_)) (congrArg PyData.list (map_true _))) ea_nil) (r_all (all_true _))))) (fun h => nomatch h) (fun _ => ?_)
    · simp only [List.mem_cons, List.not_mem_nil, or_false] at hd
      rcases hd with rfl | rfl | rfl
      · exact evd_call (ea_cons (evd_at ny) (ea_cons evd_int (ea_cons evd_int ea_nil))) ⟨_, _, _, rfl, L.hs, rfl⟩
      · exact evd_call (ea_cons (evd_at ny) (ea_cons evd_int (ea_cons evd_int ea_nil))) ⟨_, _, _, rfl, L.rs, rfl⟩
      · exact evd_call (ea_cons (evd_at ny) (ea_cons evd_int (ea_cons evd_int ea_nil))) ⟨_, _, _, rfl, L.its, rfl⟩
    · exact evs_ret (evd_and (a := true) (evd_call (ea_cons (evd_at m1) (ea_cons (evd_at m2) (ea_cons (evd_at m4) ea_nil))) ⟨_, _, _, rfl, L.ls, rfl⟩) (fun _ => evd_call (ea_cons (evd_at m1) (ea_cons (evd_at m3) (ea_cons (evd_at m5) ea_nil))) ⟨_, _, _, rfl, L.ss, rfl⟩))
abbrev s_check_catalog : Stmt := topS 20
theorem sc_check_catalog : FnScope ["catalog"] ["catalog"] (defScope s_check_catalog) := ⟨rfl, rfl, rfl, by decide +kernel, rfl, by decide +kernel, by decide +kernel⟩
def domCheckCat (ds : List D) (c : D) : Prop := ∃ t, ds = [Cat.d t] ∧ CatOk t ∧ c = .none
theorem keeps_checkCat (S : Stands K mg "check_catalog" s_check_catalog ["catalog"]) (K_is_catalog : Keeps P w K mg base CX0 4 "is_catalog" ["value"] (spD domCat)) : Keeps P w K mg base CX0 5 "check_catalog" ["catalog"] (spD domCheckCat) := by
  obtain ⟨f, fd, F, hm, hb⟩ := S
  refine ⟨f, fd, F.ok sc_check_catalog (fun vs H Q E h => ?_) (fun cdv A outer s H vs Q E hr h => ?_), hm, F.kp, hb⟩
  · obtain ⟨ds, c, G, _, n, ⟨t, rfl, _⟩, _⟩ := h
    rw [n.length]
    rfl
  · obtain ⟨ds, c, G, e, n, ⟨t, rfl, L, rfl⟩, q⟩ := h
    obtain ⟨v, rfl, n0⟩ := one_of n
    refine ⟨_, (pss_one (ps_if (pt_not (pt_val (pe_callD K_is_catalog (hr.mono (by omega)) (pa_cons (pv 0) pa_nil)))) (pss_one ps_never) pss_nil)), ?_⟩
    have k : EvD (tCall (spD domCat) [] E0 (tCons (tVar 0) tNil)) (start ["catalog"] [v]) G (.bool true) := evd_call (ea_cons (evd_at n0) ea_nil) ⟨t, rfl, L, rfl⟩
    refine evt_not (b := true) (evt_B k) H e _ fun G2 H2 g => ?_
    exact q .non G2 H2 g .non
end
end Sh

set_option Elab.async false
set_option linter.all false
set_option maxRecDepth 100000
set_option maxHeartbeats 4000000
/-! orders of a catalog, good ones -/
namespace Sh
open PySem PySem.Spec L2
open PyProof.Rows hiding St
open Evl (Ex)
structure Wish where
  its : List Str
  cnt : Int
def Wish.d (x : Wish) : D := .tuple [.tuple (strL x.its), .int x.cnt]
structure Ord where
  n : Str
  r : Str
  ws : List Wish
  til : Int
  worth : Int
def Ord.d (o : Ord) : D := .tuple [.str o.n, .str o.r, .tuple (o.ws.map Wish.d), .int o.til, .int o.worth]
structure WishOk (its : List Str) (x : Wish) : Prop where
  nms : NamesOk x.its 1 3
  its : ∀ i ∈ x.its, i ∈ its
  c1 : 1 ≤ x.cnt
  c2 : x.cnt ≤ 99
structure OrdOk (rs its : List Str) (o : Ord) : Prop where
  n : nameS o.n = true
  r : o.r ∈ rs
  l1 : 1 ≤ o.ws.length
  l2 : o.ws.length ≤ 3
  each : ∀ x ∈ o.ws, WishOk its x
  b0 : 0 ≤ o.til
  b1 : o.til ≤ 60
  w0 : 0 ≤ o.worth
  w1 : o.worth ≤ 999
section
variable {P : Program} {w : World} {K : PySem.W.Frag} {mg : Str → Option Value} {base : Heap}
abbrev s_are_wished : Stmt := topS 21
theorem sc_are_wished : FnScope ["catalog", "value", "item"] ["catalog", "value"] (defScope s_are_wished) := ⟨rfl, rfl, rfl, by decide +kernel, rfl, by decide +kernel, by decide +kernel⟩
def domWished (ds : List D) (c : D) : Prop := ∃ t xs, ds = [Cat.d t, .tuple (strL xs)] ∧ NamesOk xs 1 3 ∧ (∀ i ∈ xs, i ∈ t.its) ∧ c = .bool true
theorem keeps_wished (B : Bi mg) (S : Stands K mg "are_wished" s_are_wished ["catalog", "value"]) (K_are_names : Keeps P w K mg base CX0 2 "are_names" ["value", "least", "most"] (spD domNames)) :
    Keeps P w K mg base CX0 3 "are_wished" ["catalog", "value"] (spD domWished) := by
  refine keeps_of S sc_are_wished (fun ds c h => ?_) (fun f cdv A outer s H E hr => ⟨_, (pss_one (ps_ret (pe_and (pe_callD K_are_names (hr.mono (by omega)) (pa_cons (pv 1) (pa_cons pe_int (pa_cons pe_int pa_nil)))) (pe_one (pe_callB (cr_all rfl) rfl B.all bi_all (pa_cons (pe_lc (own := [("item", 2)]) (g := gName 2) (tt := tYes) rfl sc_are_wished.nd (pi_tup (pv 1)) (blkOk_by (N := ["catalog", "value", "item"]) (sc := defScope s_are_wished) (by decide +kernel)) (fun _ _ _ _ _ => (pg_name (i := 2) sc_are_wished.nd rfl (.inl rfl))) (fun _ _ _ _ _ => pts_nil) (fun _ _ _ _ _ => (pe_cmpR (r := rIn K false) op_in_seq (pv 2) (pe_ix (r := rIxT K) ix_tup (pv 0) pe_int (fun _ _ => rfl)) (by rfl)))) pa_nil)))))), fun ds c vs G h n => ?_⟩)
  · obtain ⟨t, xs, rfl, _⟩ := h
    rfl
  · obtain ⟨t, xs, rfl, N, sub, rfl⟩ := h
    obtain ⟨v, v1, rfl, n0, n1⟩ := dn2 n
    refine evs_ret (evd_and (a := true) (evd_call (ea_cons (evd_at n1) (ea_cons evd_int (ea_cons evd_int ea_nil))) ⟨_, _, _, rfl, N, rfl⟩) (fun _ => evd_cb (ea_cons (evd_is (evd_lcN (r := fun _ => .bool true) (ei_tup (evd_at n1)) (by rw [strL_len]; have := N.few; omega) (fun x => rfl) (fun d hd y G1 e ny => ?_)) ?_) ea_nil) (r_all (all_true xs))))
    · obtain ⟨x, hx, rfl⟩ := List.mem_map.mp hd
      exact evd_op (evd_at ny) (evd_op (evd_at n0) (evd_int (i := ((2 : Nat) : Int))) (r_ixT rfl)) (r_inT (neg := false) (by simp [sub x hx]))
    · unfold strL
      rw [List.map_map]
      exact congrArg PyData.list (map_true xs)
abbrev s_is_wish : Stmt := topS 22
theorem sc_is_wish : FnScope ["catalog", "value"] ["catalog", "value"] (defScope s_is_wish) := ⟨rfl, rfl, rfl, by decide +kernel, rfl, by decide +kernel, by decide +kernel⟩
def domWish (ds : List D) (c : D) : Prop := ∃ t x, ds = [Cat.d t, Wish.d x] ∧ WishOk t.its x ∧ c = .bool true
theorem keeps_wish (S : Stands K mg "is_wish" s_is_wish ["catalog", "value"]) (K_is_row : Keeps P w K mg base CX0 1 "is_row" ["value", "least", "most"] (spD domRow)) (K_is_between : Keeps P w K mg base CX0 1 "is_between" ["value", "low", "high"] (spD domBetween))
    (K_are_wished : Keeps P w K mg base CX0 3 "are_wished" ["catalog", "value"] (spD domWished)) : Keeps P w K mg base CX0 4 "is_wish" ["catalog", "value"] (spD domWish) := by
  refine keeps_of S sc_is_wish (fun ds c h => ?_) (fun f cdv A outer s H E hr => ⟨_, (pss_one (ps_ret (pe_and (pe_callD K_is_row (hr.mono (by omega)) (pa_cons (pv 1) (pa_cons pe_int (pa_cons pe_int pa_nil)))) (pe_and (pe_callD K_are_wished (hr.mono (by omega)) (pa_cons (pv 0) (pa_cons (pe_ix ix_tup (pv 1) pe_int (fun _ _ => rfl)) pa_nil))) (pe_one (pe_callD K_is_between (hr.mono (by omega)) (pa_cons (pe_ix ix_tup (pv 1) pe_int (fun _ _ => rfl)) (pa_cons pe_int (pa_cons pe_int pa_nil))))))))), fun ds c vs G h n => ?_⟩)
  · obtain ⟨t, x, rfl, _⟩ := h
    rfl
  · obtain ⟨t, x, rfl, L, rfl⟩ := h
    obtain ⟨v, v1, rfl, n0, n1⟩ := dn2 n
    exact evs_ret (evd_and (a := true) (evd_call (ea_cons (evd_at n1) (ea_cons evd_int (ea_cons evd_int ea_nil))) (row_dom (show (2 : Int) ≤ 2 by decide) (show (2 : Int) ≤ 2 by decide)))
      (fun _ => evd_and (a := true) (evd_call (ea_cons (evd_at n0) (ea_cons (evd_op (evd_at n1) (evd_int (i := ((0 : Nat) : Int))) (r_ixT rfl)) ea_nil)) ⟨t, x.its, rfl, L.nms, L.its, rfl⟩)
        (fun _ => evd_call (ea_cons (evd_op (evd_at n1) (evd_int (i := ((1 : Nat) : Int))) (r_ixT rfl)) (ea_cons evd_int (ea_cons evd_int ea_nil))) (between_dom L.c1 L.c2))))
abbrev s_is_order : Stmt := topS 23
theorem sc_is_order : FnScope ["catalog", "value", "name", "region", "wishes", "by", "worth", "wish"] ["catalog", "value"] (defScope s_is_order) := ⟨rfl, rfl, rfl, by decide +kernel, rfl, by decide +kernel, by decide +kernel⟩
def domOrder (ds : List D) (c : D) : Prop := ∃ t o, ds = [Cat.d t, Ord.d o] ∧ OrdOk t.rs t.its o ∧ c = .bool true
theorem keeps_order (B : Bi mg) (S : Stands K mg "is_order" s_is_order ["catalog", "value"]) (K_is_row : Keeps P w K mg base CX0 1 "is_row" ["value", "least", "most"] (spD domRow)) (K_is_name : Keeps P w K mg base CX0 1 "is_name" ["value"] (spD domName))
    (K_is_between : Keeps P w K mg base CX0 1 "is_between" ["value", "low", "high"] (spD domBetween)) (K_is_wish : Keeps P w K mg base CX0 4 "is_wish" ["catalog", "value"] (spD domWish)) : Keeps P w K mg base CX0 5 "is_order" ["catalog", "value"] (spD domOrder) := by
  refine keeps_of S sc_is_order (fun ds c h => ?_) (fun f cdv A outer s H E hr => ⟨_, (pss_cons (ps_if (pt_not (pt_val (pe_callD K_is_row (hr.mono (by omega)) (pa_cons (pv 1) (pa_cons pe_int (pa_cons pe_int pa_nil)))))) (pss_one (ps_ret pe_bl)) pss_nil)
    (pss_cons (ps_asg (pv 1) (pg_tup rfl (pgs_cons (pg_name (i := 2) sc_is_order.nd rfl (.inl rfl)) (pgs_cons (pg_name (i := 3) sc_is_order.nd rfl (.inl rfl)) (pgs_cons (pg_name (i := 4) sc_is_order.nd rfl (.inl rfl)) (pgs_cons (pg_name (i := 5) sc_is_order.nd rfl (.inl rfl)) (pgs_cons (pg_name (i := 6) sc_is_order.nd rfl (.inl rfl)) pgs_nil)))))))
    (pss_cons (ps_if (PW.pt (pw_or (pt_not (pt_val (pe_callD K_is_name (hr.mono (by omega)) (pa_cons (pv 2) pa_nil)))) (pw_or1 (pt_cmpR op_notIn_seq (pv 3) (pe_ix ix_tup (pv 0) pe_int (fun _ _ => rfl)) (by rfl))))) (pss_one (ps_ret pe_bl)) pss_nil)
    (pss_cons (ps_if (PW.pt (pw_or (pt_not (pt_val (pe_callD K_is_row (hr.mono (by omega)) (pa_cons (pv 4) (pa_cons pe_int (pa_cons pe_int pa_nil)))))) (pw_or1 (pt_not (pt_val (pe_callB (cr_all rfl) rfl B.all bi_all (pa_cons (pe_lc (own := [("wish", 7)]) (g := gName 7) (tt := tYes) rfl sc_is_order.nd (pi_tup (pv 4)) (blkOk_by (N := ["catalog", "value", "name", "region", "wishes", "by", "worth", "wish"]) (sc := defScope s_is_order) (by decide +kernel)) (fun _ _ _ _ _ => (pg_name (i := 7) sc_is_order.nd rfl (.inl rfl))) (fun _ _ _ _ _ => pts_nil) (fun _ _ _ _ _ => (pe_callD K_is_wish (hr.mono (by omega)) (pa_cons (pv 0) (pa_cons (pv 7) pa_nil))))) pa_nil))))))) (pss_one (ps_ret pe_bl)) pss_nil)
    (pss_one (ps_ret (pe_and (pe_callD K_is_between (hr.mono (by omega)) (pa_cons (pv 5) (pa_cons pe_int (pa_cons pe_int pa_nil)))) (pe_one (pe_callD K_is_between (hr.mono (by omega)) (pa_cons (pv 6) (pa_cons pe_int (pa_cons pe_int pa_nil)))))))))))), fun ds c vs G h n => ?_⟩)
  · obtain ⟨t, o, rfl, _⟩ := h
    rfl
  · obtain ⟨t, o, rfl, L, rfl⟩ := h
    obtain ⟨v, v1, rfl, n0, n1⟩ := dn2 n
    have l1 := L.l1
    have l2 := L.l2
    have len1 : (o.ws.map Wish.d).length = o.ws.length := List.length_map _
    refine evs_if (b := false) (evt_not (b := true) (evt_B (evd_call (ea_cons (evd_at n1) (ea_cons evd_int (ea_cons evd_int ea_nil))) (row_dom (show (5 : Int) ≤ 5 by decide) (show (5 : Int) ≤ 5 by decide))))) (fun h => nomatch h) (fun _ => ?_)
    refine evs_asg (evd_at n1) (fun G2 _ => eg_five) (fun σ2 G2 e2 ⟨a1, a2, a3, a4, a5, es, m1, m2, m3, m4, m5⟩ => ?_)
    subst es
    refine evs_if (b := false) (evt_is (evt_or (a := false) (b := false) (evt_not (b := true) (evt_B (evd_call (ea_cons (evd_at m1) ea_nil) (nameS_dom L.n)))) (fun _ => evt_test (evd_op (evd_at m2) (evd_op (evd_at n0 e2) (evd_int (i := ((1 : Nat) : Int))) (r_ixT rfl)) (r_inT (neg := true) (by simp [L.r]))))) rfl) (fun h => nomatch h) (fun _ => ?_)
    refine evs_if (b := false) (evt_is (evt_or (a := false) (b := false) (evt_not (b := true) (evt_B (evd_call (ea_cons (evd_at m3) (ea_cons evd_int (ea_cons evd_int ea_nil))) (row_dom (by rw [len1]; omega) (by rw [len1]; omega)))))
      (fun _ => evt_not (b := true) (evt_B (evd_cb (ea_cons (evd_is (evd_lcN (r := fun _ => .bool true) (ei_tup (evd_at m3)) (by rw [len1]; omega) (fun x => rfl) (fun d hd y G1 e ny => ?_)) (congrArg PyData.list (map_true _))) ea_nil) (r_all (all_true _)))))) rfl) (fun h => nomatch h) (fun _ => ?_)
    · obtain ⟨x, hx, rfl⟩ := List.mem_map.mp hd
      exact evd_call (ea_cons (evd_at n0 (e2.trans e)) (ea_cons (evd_at ny) ea_nil)) ⟨t, x, rfl, L.each x hx, rfl⟩
    · exact evs_ret (evd_and (a := true) (evd_call (ea_cons (evd_at m4) (ea_cons evd_int (ea_cons evd_int ea_nil))) (between_dom L.b0 L.b1)) (fun _ => evd_call (ea_cons (evd_at m5) (ea_cons evd_int (ea_cons evd_int ea_nil))) (between_dom L.w0 L.w1)))
end
end Sh

set_option Elab.async false
set_option linter.all false
set_option maxRecDepth 100000
set_option maxHeartbeats 4000000
/-! one object that changes, beside what stands still -/
namespace Sh
open PySem PySem.Spec L2
open Evl (Ex)
def del (G : Hp) (p : Addr) : Hp := fun a => if a = p then none else G a
theorem del_same {G : Hp} {p : Addr} : del G p p = none := by
  unfold del
  rw [if_pos rfl]
theorem del_ne {G : Hp} {p a : Addr} (h : a ≠ p) : del G p a = G a := by
  unfold del
  rw [if_neg h]
/-- growth but for the object at p, which is not of what stands still -/
structure Gm (p : Addr) (G H G2 H2 : Hp) : Prop where
  g : Ex G G2
  s : Ex G2 H2
  h : ∀ a o, a ≠ p → H a = some o → H2 a = some o
  f : ∀ a, G a = none → stiff (H a) ≠ none → G2 a = none
  n : G2 p = none
section
variable {p : Addr} {G H G2 H2 G3 H3 : Hp} {o : HO}
theorem Gm.start (e : Ex G H) (hp : H p = none) : Gm p G H G (upd H p o) := ⟨Ex.refl _, e.trans (Ex.new hp), fun a u ha q => (by
  rw [upd_ne ha]
  exact q), fun _ h _ => h, Evl.fresh_back e hp⟩
theorem Gm.step (a : Gm p G H G2 H2) (hp : H2 p = some o) (b : Gr G2 H2 G3 H3) (lo : stiff (some o) ≠ none := by intro z; cases z) : Gm p G H G3 H3 ∧ H3 p = some o := by
  have ne : stiff (H2 p) ≠ none := by
    rw [hp]
    exact lo
  refine ⟨⟨a.g.trans b.g, b.s, fun x u hx q => b.h _ _ (a.h x u hx q), fun x h1 h2 => ?_, b.f p a.n ne⟩, b.h _ _ hp⟩
  by_cases hx : x = p
  · subst hx
    exact b.f x a.n ne
  · exact b.f x (a.f x h1 h2) (stiff_up (fun u => a.h x u hx) h2)
theorem Gm.put (a : Gm p G H G2 H2) : Gm p G H G2 (upd H2 p o) := ⟨a.g, Ex.mut a.s a.n, fun x u hx q => (by
  rw [upd_ne hx]
  exact a.h x u hx q), a.f, a.n⟩
/-- what it has become stands still now -/
theorem Gm.close (a : Gm p G H G2 H2) (hp : H p = none) (h2 : H2 p = some o) : Gr G H (upd G2 p o) H2 := ⟨a.g.trans (Ex.new a.n), Ex.lend a.s h2, fun x u q => a.h x u (fun z => by
  rw [z, hp] at q
  cases q) q, fun x h1 h3 => by
  have hx : x ≠ p := fun z => h3 (by rw [z]; exact stf hp)
  rw [upd_ne hx]
  exact a.f x h1 h3⟩
theorem Gm.drop (a : Gm p G H G2 H2) (hp : H p = none) : Gr G H G2 H2 := ⟨a.g, a.s, fun x u q => a.h x u (fun z => by
  rw [z, hp] at q
  cases q) q, a.f⟩
theorem Gr.unlend (n : G p = none) (b : Gr (upd G p o) H G3 H3) : Gr G H (del G3 p) H3 := ⟨fun a u q => by
  have ha : a ≠ p := fun z => by
    rw [z, n] at q
    cases q
  rw [del_ne ha]
  exact b.g a u (by rw [upd_ne ha]; exact q), fun a u q => by
  by_cases ha : a = p
  · rw [ha, del_same] at q
    cases q
  · rw [del_ne ha] at q
    exact b.s a u q, b.h, fun a h1 h2 => by
  by_cases ha : a = p
  · rw [ha]
    exact del_same
  · rw [del_ne ha]
    exact b.f a (by rw [upd_ne ha]; exact h1) h2⟩
mutual
theorem Dn.undk {kvs : List (Key × V)} (e : G p = some (.dK kvs)) : ∀ (d : D) {v : V}, flatD d = true → Dn G v d → Dn (del G p) v d
  | .none, _, _, h => by cases h; exact .non
  | .bool b, _, _, h => by cases h; exact .bl b
  | .int i, _, _, h => by cases h; exact .int i
  | .str x, _, _, h => by cases h; exact .str x
  | .list ds, _, f, h => by
    cases h with
    | @lst a _ _ h1 h2 =>
      have ha : a ≠ p := fun z => by
        rw [z, e] at h1
        cases h1
      exact .lst (by rw [del_ne ha]; exact h1) (DnL.undk e ds (by unfold flatD at f; exact f) h2)
  | .tuple ds, _, f, h => by
    cases h with
    | @tup a _ _ h1 h2 =>
      have ha : a ≠ p := fun z => by
        rw [z, e] at h1
        cases h1
      exact .tup (by rw [del_ne ha]; exact h1) (DnL.undk e ds (by unfold flatD at f; exact f) h2)
  | .dict ps, _, f, h => by
    unfold flatD at f
    cases f
theorem DnL.undk {kvs : List (Key × V)} (e : G p = some (.dK kvs)) : ∀ (ds : List D) {vs : List V}, flatDs ds = true → DnL G vs ds → DnL (del G p) vs ds
  | [], _, _, h => by cases h; exact .nil
  | d :: ds, _, f, h => by
    unfold flatDs at f
    rw [Bool.and_eq_true] at f
    cases h with
    | cons h1 h2 => exact .cons (Dn.undk e d f.1 h1) (DnL.undk e ds f.2 h2)
end
theorem flat_ints : ∀ (xs : List Int), flatDs (intL xs) = true
  | [] => rfl
  | x :: xs => by
    show (flatD (.int x) && flatDs (intL xs)) = true
    rw [flat_ints xs]
    rfl
theorem DnK.snoc {kvs : List (Key × V)} {ps : List (D × D)} {x : Str} {v : V} {d : D} (h : DnK G kvs ps) (n : Dn G v d) : DnK G (kvs ++ [(.inr x, v)]) (ps ++ [(.str x, d)]) := by
  induction ps generalizing kvs with
  | nil =>
    cases h
    exact .cons n .nil
  | cons q ps ih =>
    cases h with
    | cons h1 h2 => exact .cons h1 (ih h2)
theorem DnK.len {kvs : List (Key × V)} {ps : List (D × D)} (h : DnK G kvs ps) : kvs.length = ps.length := by
  induction ps generalizing kvs with
  | nil =>
    cases h
    rfl
  | cons q ps ih =>
    cases h with
    | cons h1 h2 =>
      rw [List.length_cons, List.length_cons, ih h2]
/-- a key that is not there yet -/
theorem putK_new {kvs : List (Key × V)} {ps : List (D × D)} {x : Str} {v : V} (h : DnK G kvs ps) (n : lookD ps x = none) : putK kvs (.inr x) v = kvs ++ [(.inr x, v)] := by
  have z : (kvs.any fun kv => decide (kv.1 = (Sum.inr x : Key))) = false := by
    induction ps generalizing kvs with
    | nil =>
      cases h
      rfl
    | cons q ps ih =>
      cases h with
      | @cons y u kvs' d _ h1 h2 =>
        by_cases hy : y = x
        · subst hy
          unfold lookD at n
          rw [List.find?_cons_of_pos (by simp)] at n
          cases n
        · have n2 : lookD ps x = none := by
            unfold lookD at n ⊢
            rw [List.find?_cons_of_neg (by simpa using hy)] at n
            exact n
          rw [List.any_cons, ih h2 n2, Bool.or_false]
          simpa using hy
  unfold putK
  rw [if_neg (by rw [z]; decide)]
end
end Sh

set_option Elab.async false
set_option linter.all false
set_option maxRecDepth 100000
set_option maxHeartbeats 4000000
/-! walks over pairs of pairs: a zip that somebody else draws from -/
namespace ShW
open PySem PySem.Spec PyProof.Rows L2
/-- a zip, whatever it remembers of the tuple it gave out last -/
abbrev Zp (h : Heap) (z TI TO : Addr) (f0 : Value) (f1 : Bool) : Prop := h.get? z = some { cls := .type "zip", dict := none, data := .fields #[f0, .bool f1, .bool false, .ref TI, .ref TO], slots := #[] }
def Fld (v : Value) : Prop := v = .none ∨ ∃ T : Addr, v = rawInt T
def ZOk (h : Heap) (z TI TO : Addr) : Prop := ∃ f0 f1, Fld f0 ∧ Zp h z TI TO f0 f1
section
variable {prog : Program} {w : World} {A : Around} {E : Value → Shared → Prop} {s : Shared} {z TI TO i1 i2 : Addr} {fp1 fp2 : List Addr} {n1 n2 i : Nat} {P1 P2 : Nat → Value → Prop} {St1 St2 : Nat → Heap → Prop} {f0 : Value} {f1 : Bool}
theorem at_field {α : Type} {a : Addr} {o : Obj} {vs : Array Value} {k : Nat} {x : Value} {f : Value → Sem α} {Q : α → Shared → Prop} (ho : s.heap.get? a = some o) (hd : o.data = .fields vs) (hx : vs[k]? = some x) (h : wpAny (model prog w) A (f x) Q E s) : wpAny (model prog w) A (field (.ref a) k >>= f) Q E s :=
  wpAny_bind (wpAny_field ho hd hx h)
theorem at_alive {α : Type} {a : Addr} {f : Option Obj → Sem α} {Q : α → Shared → Prop} (h : wpAny (model prog w) A (f (s.heap.get? a)) Q E s) : wpAny (model prog w) A (loadIfAlive a >>= f) Q E s := fun Γ p hΓ => h Γ p hΓ
theorem is_free {Q : Bool → Shared → Prop} (hz : Zp s.heap z TI TO f0 f1) (hf : Fld f0) (h1 : Q true s) (h2 : ∀ h', Zp h' z TI TO f0 true → Heap.SameBut z s.heap h' → Q false { s with heap := h' }) :
    wpAny (model prog w) A (Builtin.SmallTypes.ownedTupleIsFree (.ref z)) Q E s := by
  unfold Builtin.SmallTypes.ownedTupleIsFree
  rcases hf with e | ⟨T, e⟩
  · subst e
    exact at_field hz rfl (x := .none) rfl (wpAny_pure h1)
  · subst e
    refine at_field hz rfl (x := rawInt T) rfl ?_
    refine at_alive (a := (T : Int).toNat) ?_
    cases hT : s.heap.get? (T : Int).toNat with
    | none => exact wpAny_pure h1
    | some o =>
      refine at_field hz rfl (x := .bool f1) rfl ?_
      cases f1 with
      | true => exact wpAny_pure (h2 s.heap hz (Heap.SameBut.refl _ _))
      | false => exact wpAny_bind (wpAny_setField_rec hz (by simp) fun g z' sb => wpAny_pure (h2 g z' sb))
/-- one pair more -/
theorem draw_item {Q : Value → Shared → Prop} (S : ZipSep2 z TI TO i1 i2 fp1 fp2) (D1 : Draws prog w A i1 fp1 n1 P1 St1) (D2 : Draws prog w A i2 fp2 n2 P2 St2)
    (hz : ZOk s.heap z TI TO) (tI : IsPair s.heap TI (.ref i1) (.ref i2)) (tO : ∃ a b, IsPair s.heap TO a b) (st1 : St1 i s.heap) (st2 : St2 i s.heap) (lt1 : i < n1) (lt2 : i < n2)
    (hQ : ∀ x y h' tk, P1 i x → P2 i y → ZOk h' z TI TO → (∃ a b, IsPair h' TO a b) → St1 (i + 1) h' → St2 (i + 1) h' → IsPair h' s.heap.objs.size x y → h'.objs.size = s.heap.objs.size + 1 →
      (∀ c o, c ∉ [z, TO, i1, i2] → s.heap.get? c = some o → h'.get? c = some o) → Q (.ref s.heap.objs.size) { s with heap := h', toks := tk }) :
    wpAny (model prog w) A (Builtin.«zip.__next__» ⟨[.ref z], []⟩) (fun fin s' => ∃ v, fin = .done (.ret v) ∧ Q v s') E s := by
  obtain ⟨f0, f1, hf, hz⟩ := hz
  obtain ⟨a, b, tO⟩ := tO
  obtain ⟨hp, g, d, tk0, os⟩ := s
  show wpAny _ _ (field (.ref z) 2 >>= _) _ _ _
  refine at_field hz rfl (x := .bool false) rfl ?_
  show wpAny _ _ (field (.ref z) 3 >>= _) _ _ _
  refine at_field hz rfl (x := .ref TI) rfl (wpAny_bind (wpAny_seqItems tI rfl ?_))
  show wpAny _ _ (Builtin.SmallTypes.ownedTupleIsFree (.ref z) >>= _) _ _ _
  refine wpAny_bind (is_free hz hf ?_ fun u0 zu su => ?_)
  · -- its own tuple is free
    simp only [if_true]
    refine wpAny_bind (wpAny_rule (at_field hz rfl (x := .ref TO) rfl (wpAny_bind (wpAny_setField_rec hz (by simp) fun u0 zu su => ?_))))
    replace zu : Zp u0 z TI TO .ellipsis f1 := zu
    replace su : Heap.SameBut z hp u0 := su
    refine wpAny_bind ?_
    simp only [List.zipIdx_cons, List.zipIdx_nil, List.forIn_cons, List.forIn_nil]
    refine wpAny_bind (wpAny_bind (wpAny_onRaise ?_))
    show wpAny _ _ (Builtin.SmallTypes.nextOf (.ref i1) >>= _) _ _ ⟨u0, g, d, tk0, os⟩
    refine wpAny_bind (D1.item i _ _ _ lt1 (D1.over st1 su S.zf1) fun x v1 tk1 hx sx sv => wpAny_pure ?_)
    replace sv : Heap.SameBut i1 u0 v1 := sv
    have to1 : IsPair v1 TO a b := sv.extBut _ _ S.Ti1 (su.extBut _ _ S.TOz tO)
    refine wpAny_bind (wpAny_seqItems (s := ⟨v1, g, d, tk1, os⟩) to1 rfl (wpAny_bind (wpAny_updateSeq_pair (s := ⟨v1, g, d, tk1, os⟩) to1 fun u1 tu s1 => wpAny_bind (wpAny_letGo (wpAny_pure ?_)))))
    replace tu : IsPair u1 TO x b := tu
    replace s1 : Heap.SameBut TO v1 u1 := s1
    refine wpAny_bind (wpAny_bind (wpAny_onRaise ?_))
    show wpAny _ _ (Builtin.SmallTypes.nextOf (.ref i2) >>= _) _ _ ⟨u1, g, d, tk1, os⟩
    refine wpAny_bind (D2.item i _ _ _ lt2 (D2.over (D2.over (D2.over st2 su S.zf2) sv S.sep1_2) s1 S.Tf2) fun y v2 tk2 hy sy sw => wpAny_pure ?_)
    replace sw : Heap.SameBut i2 u1 v2 := sw
    have to2 : IsPair v2 TO x b := sw.extBut _ _ S.Ti2 tu
    refine wpAny_bind (wpAny_seqItems (s := ⟨v2, g, d, tk2, os⟩) to2 rfl (wpAny_bind (wpAny_updateSeq_pair (s := ⟨v2, g, d, tk2, os⟩) to2 fun u2 tu2 s2 => wpAny_bind (wpAny_letGo (wpAny_pure (wpAny_pure ?_))))))
    replace tu2 : IsPair u2 TO x y := tu2
    replace s2 : Heap.SameBut TO v2 u2 := s2
    refine wpAny_bind (wpAny_seqItems (s := ⟨u2, g, d, tk2, os⟩) tu2 rfl (wpAny_bind (wpAny_newTuple ?_)))
    have sz : u2.objs.size = hp.objs.size := by rw [s2.1, sw.1, s1.1, sv.1, su.1]
    have z2 : Zp u2 z TI TO .ellipsis f1 := s2.extBut _ _ S.TOz.symm (sw.extBut _ _ S.zi2 (s1.extBut _ _ S.TOz.symm (sv.extBut _ _ S.zi1 zu)))
    have lt : z < u2.objs.size := Heap.lt_size z2
    have kk : ∀ c o, c ∉ [z, TO, i1, i2] → hp.get? c = some o → u2.get? c = some o := fun c o hc q => by
      simp only [List.mem_cons, List.not_mem_nil, or_false, not_or] at hc
      exact s2.extBut _ _ hc.2.1 (sw.extBut _ _ hc.2.2.2 (s1.extBut _ _ hc.2.1 (sv.extBut _ _ hc.2.2.1 (su.extBut _ _ hc.1 q))))
    show wpAny _ _ (Builtin.SmallTypes.ownedTupleHandOut (.ref z) (.ref u2.objs.size) >>= _) _ _ ⟨u2.push { cls := .type "tuple", data := .seq #[x, y] }, g, d, tk2, os⟩
    refine wpAny_bind ?_
    unfold Builtin.SmallTypes.ownedTupleHandOut
    have z3 : Zp (u2.push { cls := .type "tuple", data := .seq #[x, y] }) z TI TO .ellipsis f1 := Heap.get?_push_of_some _ z2
    refine wpAny_bind (wpAny_setField_rec z3 (by simp) fun u3 z4 s3 => ?_)
    replace z4 : Zp u3 z TI TO (rawInt u2.objs.size) f1 := z4
    refine wpAny_setField_rec z4 (by simp) fun u4 z5 s4 => wpAny_pure ⟨_, rfl, ?_⟩
    replace z5 : Zp u4 z TI TO (rawInt u2.objs.size) false := z5
    replace s3 : Heap.SameBut z (u2.push { cls := .type "tuple", data := .seq #[x, y] }) u3 := s3
    replace s4 : Heap.SameBut z u3 u4 := s4
    have up : ∀ c o, c ≠ z → u2.get? c = some o → u4.get? c = some o := fun c o hc q => s4.extBut _ _ hc (s3.extBut _ _ hc (Heap.get?_push_of_some _ q))
    have new : IsPair u4 u2.objs.size x y := s4.extBut _ _ (Nat.ne_of_gt lt) (s3.extBut _ _ (Nat.ne_of_gt lt) (Heap.get?_push_size _ rfl))
    have big : u4.objs.size = u2.objs.size + 1 := by rw [s4.1, s3.1, Heap.size_push]
    show Q (.ref u2.objs.size) ⟨u4, g, d, tk2, os⟩
    rw [sz] at new big z5 ⊢
    have n1 : St1 (i + 1) u4 := D1.frame _ _ _ (D1.over (D1.over (D1.over sx s1 S.Tf1) sw S.sep2_1) s2 S.Tf1) fun c hc o q => up c o (fun e => S.zf1 (e ▸ hc)) q
    have n2 : St2 (i + 1) u4 := D2.frame _ _ _ (D2.over sy s2 S.Tf2) fun c hc o q => up c o (fun e => S.zf2 (e ▸ hc)) q
    exact hQ x y u4 tk2 hx hy ⟨_, _, .inr ⟨_, rfl⟩, z5⟩ ⟨x, y, up _ _ S.TOz tu2⟩ n1 n2 new big fun c o hc q => up c o (fun e => hc (by simp [e])) (kk c o hc q)
  · -- it is out: another one
    replace su : Heap.SameBut z hp u0 := su
    simp only [Bool.false_eq_true, if_false]
    refine wpAny_bind ?_
    rw [← Array.forIn_toList]
    simp only [List.forIn_cons, List.forIn_nil]
    refine wpAny_bind (wpAny_bind (wpAny_holding ?_))
    show wpAny _ _ (Builtin.SmallTypes.nextOf (.ref i1) >>= _) _ _ ⟨u0, g, d, tk0, os⟩
    refine wpAny_bind (D1.item i _ _ _ lt1 (D1.over st1 su S.zf1) fun x v1 tk1 hx sx sv => wpAny_pure (wpAny_pure ?_))
    replace sv : Heap.SameBut i1 u0 v1 := sv
    refine wpAny_bind (wpAny_bind (wpAny_holding ?_))
    show wpAny _ _ (Builtin.SmallTypes.nextOf (.ref i2) >>= _) _ _ ⟨v1, g, d, tk1, os⟩
    refine wpAny_bind (D2.item i _ _ _ lt2 (D2.over (D2.over st2 su S.zf2) sv S.sep1_2) fun y v2 tk2 hy sy sw => wpAny_pure (wpAny_pure (wpAny_pure ?_)))
    replace sw : Heap.SameBut i2 v1 v2 := sw
    show wpAny _ _ (newTuple [x, y] >>= _) _ _ ⟨v2, g, d, tk2, os⟩
    refine wpAny_bind (wpAny_newTuple (wpAny_pure ⟨_, rfl, ?_⟩))
    have sz : v2.objs.size = hp.objs.size := by rw [sw.1, sv.1, su.1]
    have z2 : Zp v2 z TI TO f0 true := sw.extBut _ _ S.zi2 (sv.extBut _ _ S.zi1 zu)
    have up : ∀ c o, v2.get? c = some o → (v2.push { cls := .type "tuple", data := .seq #[x, y] }).get? c = some o := fun c o q => Heap.get?_push_of_some _ q
    have new : IsPair (v2.push { cls := .type "tuple", data := .seq #[x, y] }) v2.objs.size x y := Heap.get?_push_size _ rfl
    have big : (v2.push { cls := .type "tuple", data := .seq #[x, y] }).objs.size = v2.objs.size + 1 := Heap.size_push ..
    show Q (.ref v2.objs.size) ⟨v2.push { cls := .type "tuple", data := .seq #[x, y] }, g, d, tk2, os⟩
    rw [sz] at new big ⊢
    refine hQ x y _ tk2 hx hy ⟨f0, true, hf, up _ _ z2⟩ ⟨a, b, up _ _ (sw.extBut _ _ S.Ti2 (sv.extBut _ _ S.Ti1 (su.extBut _ _ S.TOz tO)))⟩ (D1.frame _ _ _ (D1.over sx sw S.sep2_1) fun c hc o q => up c o q) (D2.frame _ _ _ sy fun c hc o q => up c o q) new big fun c o hc q => up c o ?_
    simp only [List.mem_cons, List.not_mem_nil, or_false, not_or] at hc
    exact sw.extBut _ _ hc.2.2.2 (sv.extBut _ _ hc.2.2.1 (su.extBut _ _ hc.1 q))
/-- and none -/
theorem draw_end {Q : PySem.Fin → Shared → Prop} (S : ZipSep2 z TI TO i1 i2 fp1 fp2) (D1 : Draws prog w A i1 fp1 n1 P1 St1) (D2 : Draws prog w A i2 fp2 n2 P2 St2)
    (hz : ZOk s.heap z TI TO) (tI : IsPair s.heap TI (.ref i1) (.ref i2)) (tO : ∃ a b, IsPair s.heap TO a b) (st1 : St1 i s.heap) (st2 : St2 i s.heap) (le1 : i ≤ n1) (le2 : i ≤ n2) (hend : i = n1 ∨ i = n2)
    (hE : ∀ h' tk e, (∀ c o, c ∉ [z, TO, i1, i2] → s.heap.get? c = some o → h'.get? c = some o) → (∃ o, h'.get? e = some o ∧ o.cls = .type "StopIteration") → E (.ref e) { s with heap := h', toks := tk }) :
    wpAny (model prog w) A (Builtin.«zip.__next__» ⟨[.ref z], []⟩) Q E s := by
  obtain ⟨f0, f1, hf, hz⟩ := hz
  obtain ⟨a, b, tO⟩ := tO
  obtain ⟨hp, g, d, tk0, os⟩ := s
  show wpAny _ _ (field (.ref z) 2 >>= _) _ _ _
  refine at_field hz rfl (x := .bool false) rfl ?_
  show wpAny _ _ (field (.ref z) 3 >>= _) _ _ _
  refine at_field hz rfl (x := .ref TI) rfl (wpAny_bind (wpAny_seqItems tI rfl ?_))
  show wpAny _ _ (Builtin.SmallTypes.ownedTupleIsFree (.ref z) >>= _) _ _ _
  have far : ∀ {c : Addr}, c ∉ [z, TO, i1, i2] → c ≠ z ∧ c ≠ TO ∧ c ≠ i1 ∧ c ≠ i2 := fun hc => by
    simp only [List.mem_cons, List.not_mem_nil, or_false, not_or] at hc
    exact hc
  refine wpAny_bind (is_free hz hf ?_ fun u0 zu su => ?_)
  · simp only [if_true]
    refine wpAny_bind (wpAny_rule (at_field hz rfl (x := .ref TO) rfl (wpAny_bind (wpAny_setField_rec hz (by simp) fun u0 zu su => ?_))))
    replace zu : Zp u0 z TI TO .ellipsis f1 := zu
    replace su : Heap.SameBut z hp u0 := su
    refine wpAny_bind ?_
    simp only [List.zipIdx_cons, List.zipIdx_nil, List.forIn_cons, List.forIn_nil]
    refine wpAny_bind (wpAny_bind (wpAny_onRaise ?_))
    show wpAny _ _ (Builtin.SmallTypes.nextOf (.ref i1) >>= _) _ _ ⟨u0, g, d, tk0, os⟩
    -- how it is told: the zip's own field is cleared
    have told : ∀ (v : Heap) (tk : Nat) (e : Addr), Zp v z TI TO .ellipsis f1 → (∀ c o, c ∉ [z, TO, i1, i2] → hp.get? c = some o → v.get? c = some o) → (∃ o, v.get? e = some o ∧ o.cls = .type "StopIteration") →
        wpAny (model prog w) A (setField (.ref z) 0 .none) (fun _ s'' => E (.ref e) s'') E ⟨v, g, d, tk, os⟩ := fun v tk e zv kv ⟨o, ho, hc⟩ => by
      have ne : e ≠ z := fun q => by
        subst q
        rw [zv] at ho
        cases ho
        simp at hc
      refine wpAny_setField_rec (s := ⟨v, g, d, tk, os⟩) zv (by simp) fun v' _ sv => ?_
      replace sv : Heap.SameBut z v v' := sv
      exact hE v' tk e (fun c o hc q => sv.extBut _ _ (far hc).1 (kv c o hc q)) ⟨o, sv.extBut _ _ ne ho, hc⟩
    by_cases lt1 : i < n1
    · refine wpAny_bind (D1.item i _ _ _ lt1 (D1.over st1 su S.zf1) fun x v1 tk1 hx sx sv => wpAny_pure ?_)
      replace sv : Heap.SameBut i1 u0 v1 := sv
      have to1 : IsPair v1 TO a b := sv.extBut _ _ S.Ti1 (su.extBut _ _ S.TOz tO)
      refine wpAny_bind (wpAny_seqItems (s := ⟨v1, g, d, tk1, os⟩) to1 rfl (wpAny_bind (wpAny_updateSeq_pair (s := ⟨v1, g, d, tk1, os⟩) to1 fun u1 tu s1 => wpAny_bind (wpAny_letGo (wpAny_pure ?_)))))
      replace s1 : Heap.SameBut TO v1 u1 := s1
      have e2 : i = n2 := by omega
      refine wpAny_bind (wpAny_bind (wpAny_onRaise ?_))
      show wpAny _ _ (Builtin.SmallTypes.nextOf (.ref i2) >>= _) _ _ ⟨u1, g, d, tk1, os⟩
      have sy : St2 n2 u1 := e2 ▸ D2.over (D2.over (D2.over st2 su S.zf2) sv S.sep1_2) s1 S.Tf2
      refine wpAny_bind (D2.done ⟨u1, g, d, tk1, os⟩ _ _ sy fun v e sw he => told v tk1 e ?_ (fun c o hc q => ?_) he)
      · exact sw _ _ S.zi2 (s1.extBut _ _ S.TOz.symm (sv.extBut _ _ S.zi1 zu))
      · exact sw _ _ (far hc).2.2.2 (s1.extBut _ _ (far hc).2.1 (sv.extBut _ _ (far hc).2.2.1 (su.extBut _ _ (far hc).1 q)))
    · have e1 : i = n1 := by omega
      refine wpAny_bind (D1.done ⟨u0, g, d, tk0, os⟩ _ _ (e1 ▸ D1.over st1 su S.zf1) fun v e sw he => told v tk0 e (sw _ _ S.zi1 zu) (fun c o hc q => sw _ _ (far hc).2.2.1 (su.extBut _ _ (far hc).1 q)) he)
  · replace su : Heap.SameBut z hp u0 := su
    simp only [Bool.false_eq_true, if_false]
    refine wpAny_bind ?_
    rw [← Array.forIn_toList]
    simp only [List.forIn_cons, List.forIn_nil]
    refine wpAny_bind (wpAny_bind (wpAny_holding ?_))
    show wpAny _ _ (Builtin.SmallTypes.nextOf (.ref i1) >>= _) _ _ ⟨u0, g, d, tk0, os⟩
    by_cases lt1 : i < n1
    · refine wpAny_bind (D1.item i _ _ _ lt1 (D1.over st1 su S.zf1) fun x v1 tk1 hx sx sv => wpAny_pure (wpAny_pure ?_))
      replace sv : Heap.SameBut i1 u0 v1 := sv
      have e2 : i = n2 := by omega
      refine wpAny_bind (wpAny_bind (wpAny_holding ?_))
      show wpAny _ _ (Builtin.SmallTypes.nextOf (.ref i2) >>= _) _ _ ⟨v1, g, d, tk1, os⟩
      refine wpAny_bind (D2.done ⟨v1, g, d, tk1, os⟩ _ _ (e2 ▸ D2.over (D2.over st2 su S.zf2) sv S.sep1_2) fun v e sw he => hE v tk1 e (fun c o hc q => ?_) he)
      exact sw _ _ (far hc).2.2.2 (sv.extBut _ _ (far hc).2.2.1 (su.extBut _ _ (far hc).1 q))
    · have e1 : i = n1 := by omega
      exact wpAny_bind (D1.done ⟨u0, g, d, tk0, os⟩ _ _ (e1 ▸ D1.over st1 su S.zf1) fun v e sw he => hE v tk0 e (fun c o hc q => sw _ _ (far hc).2.2.1 (su.extBut _ _ (far hc).1 q)) he)
/-- its next, asked by another iterator -/
theorem nextOf_zip {Q : Value → Shared → Prop} (hz : ZOk s.heap z TI TO) (h : wpAny (model prog w) A.in1 (Builtin.«zip.__next__» ⟨[.ref z], []⟩) (fun fin s' => ∃ v, fin = .done (.ret v) ∧ Q v s') E s) : wpAny (model prog w) A (Builtin.SmallTypes.nextOf (.ref z)) Q E s := by
  obtain ⟨f0, f1, _, hz⟩ := hz
  have ty : s.TypeIs (.ref z) "zip" := ⟨_, hz, rfl⟩
  unfold Builtin.SmallTypes.nextOf
  exact wpAny_bind (wpAny_callSpecial?_slot (name := Str.ofString "__next__") ty PySem.F.slot_zip_next (wpAny_call_entry PySem.F.slot_zip_next ty PySem.F.entry_zip_next (wpAny_mono h (fun fin s' ⟨v, e, q⟩ => ⟨v, e, wpAny_pure q⟩) fun _ _ q => q) (PySem.F.args_zip_next_1 _)))
end
end ShW

set_option Elab.async false
set_option linter.all false
set_option maxRecDepth 100000
set_option maxHeartbeats 4000000
/-! lists and tuples alike: enumerate, zip, enumerate of a zip -/
namespace ShW
open PySem PySem.Spec PyProof.Rows L2
inductive Kd | t | l
def itN : Kd → String
  | .t => "tuple_iterator"
  | .l => "list_iterator"
def IterK (h : Heap) (k : Kd) (it a : Addr) (i : Nat) : Prop := ∃ o, h.get? it = some o ∧ o.cls = .type (itN k) ∧ o.data = .fields #[.ref a, .int i 0]
def SeqK (h : Heap) : Kd → Addr → Array Value → Prop
  | .t, a, xs => h.IsTuple a xs
  | .l, a, xs => h.IsList a xs
def SqK (K : PySem.W.Frag) : Kd → Hp → Addr → List V → Prop
  | .t, H, a, xs => SqT K H a xs
  | .l, H, a, xs => SqL K H a xs
section
variable {prog : Program} {w : World} {A : Around} {E : Value → Shared → Prop} {s : Shared} {k k1 k2 : Kd} {a b it : Addr} {xs ys : Array Value}
theorem SeqK.push {h : Heap} {o : Obj} (x : SeqK h k a xs) : SeqK (h.push o) k a xs := by
  cases k with
  | t => obtain ⟨u, e, r⟩ := x; exact ⟨u, Heap.get?_push_of_some _ e, r⟩
  | l => obtain ⟨u, e, r⟩ := x; exact ⟨u, Heap.get?_push_of_some _ e, r⟩
theorem SeqK.lt {h : Heap} (x : SeqK h k a xs) : a < h.objs.size := by
  cases k with
  | t => obtain ⟨u, e, r⟩ := x; exact Heap.lt_size e
  | l => obtain ⟨u, e, r⟩ := x; exact Heap.lt_size e
theorem IterK.keep {h h' : Heap} {i : Nat} (x : IterK h k it a i) (e : ∀ o, h.get? it = some o → h'.get? it = some o) : IterK h' k it a i := by
  obtain ⟨u, e1, r⟩ := x
  exact ⟨u, e u e1, r⟩
theorem drawsK (hh : A.handled = none) (hne : a ≠ it) : Draws prog w A it [it, a] xs.size (fun i v => xs[i]? = some v) (fun i h => IterK h k it a i ∧ SeqK h k a xs) := by
  cases k with
  | t => exact Draws.tuple hh it a hne xs
  | l => exact Draws.list hh it a hne xs
theorem iterK {Q : Value → Shared → Prop} (h : SeqK s.heap k a xs) (q : Q (.ref s.heap.objs.size) { s with heap := s.heap.push { cls := .type (itN k), data := .fields #[.ref a, .int 0 0] } }) : wpAny (model prog w) A (pyIter (.ref a)) Q E s := by
  cases k with
  | t => exact wpAny_pyIter_tuple h q
  | l => exact wpAny_pyIter_list h q
/-- what stands in the text's H stands so in the heap -/
theorem SqK.at {X : Cx} {pins : List (Addr × Obj)} {σ : L2.St} {H : Hp} {vs : List V} (I : Inv X pins σ H s) (h : SqK X.K k H a vs) : ∃ us : List Value, Vals vs us ∧ SeqK s.heap k a us.toArray := by
  cases k with
  | t =>
    obtain ⟨us, r, p, _⟩ := I.tuple h
    exact ⟨us, r, p⟩
  | l =>
    obtain ⟨us, r, p, _⟩ := I.list h
    exact ⟨us, r, p.isList⟩
theorem SqK.one {X : Cx} {pins : List (Addr × Obj)} {σ : L2.St} {H : Hp} {vs us : List V} (I : Inv X pins σ H s) (h : SqK X.K k H a vs) (h2 : SqK X.K k H a us) : vs = us := by
  cases k with
  | t => exact I.tuple_inj h h2
  | l => exact I.list_inj h h2

/-! ### zip -/
abbrev zq1 (h : Heap) (k1 : Kd) (a : Addr) : Heap := h.push { cls := .type (itN k1), data := .fields #[.ref a, .int 0 0] }
abbrev zq2 (h : Heap) (k1 k2 : Kd) (a b : Addr) : Heap := (zq1 h k1 a).push { cls := .type (itN k2), data := .fields #[.ref b, .int 0 0] }
abbrev zq3 (h : Heap) (k1 k2 : Kd) (a b : Addr) : Heap := (zq2 h k1 k2 a b).push { cls := .type "tuple", data := .seq #[.ref h.objs.size, .ref (zq1 h k1 a).objs.size] }
abbrev zq4 (h : Heap) (k1 k2 : Kd) (a b : Addr) : Heap := (zq3 h k1 k2 a b).push { cls := .type "tuple", data := .seq #[.none, .none] }
abbrev zq5 (h : Heap) (k1 k2 : Kd) (a b : Addr) : Heap := (zq4 h k1 k2 a b).push { cls := .type "zip", data := .fields #[.none, .bool false, .bool false, .ref (zq2 h k1 k2 a b).objs.size, .ref (zq3 h k1 k2 a b).objs.size] }
theorem new_zipK : Meets (Builtin.«zip.__new__» ⟨[.type "zip", .ref a, .ref b], []⟩) (fun _ R s => SeqK s.heap k1 a xs ∧ SeqK s.heap k2 b ys ∧ R (.ok (.ret (.ref (zq4 s.heap k1 k2 a b).objs.size))) { s with heap := zq5 s.heap k1 k2 a b }) :=
  .of_wp fun prog w A R s h => by
    obtain ⟨hp, g, d, tk, os⟩ := s
    obtain ⟨q1, q2, h⟩ := h
    have sub := sub_zip
    have u1 : SeqK (Shared.heap ⟨hp, g, d, tk, os⟩) k1 a xs := q1
    have u2 : SeqK (Shared.heap ⟨zq1 hp k1 a, g, d, tk, os⟩) k2 b ys := SeqK.push q2
    wp_walk using iterK u1, iterK u2
    exact ⟨_, rfl, h⟩
/-- a zip as it was made: at N + 4, its cells from N on -/
structure NewZip (h' : Heap) (k1 k2 : Kd) (a b : Addr) (N : Nat) : Prop where
  z : Zp h' (N + 4) (N + 2) (N + 3) .none false
  tI : IsPair h' (N + 2) (.ref N) (.ref (N + 1))
  tO : IsPair h' (N + 3) .none .none
  i1 : IterK h' k1 N a 0
  i2 : IterK h' k2 (N + 1) b 0
  sz : h'.objs.size = N + 5
theorem call_zipK {Q : Value → Shared → Prop} (h1 : SeqK s.heap k1 a xs) (h2 : SeqK s.heap k2 b ys) (h : ∀ h', NewZip h' k1 k2 a b s.heap.objs.size → (∀ c o, s.heap.get? c = some o → h'.get? c = some o) → Q (.ref (s.heap.objs.size + 4)) { s with heap := h' }) :
    wpAny (model prog w) A (call (.type "zip") [.ref a, .ref b]) Q E s := by
  refine callType_new PySem.F.called_zip (by decide) (PySem.F.typeCall_zip_2 _ _) (PySem.F.newCall_zip_2 _ _) (fun obj => PySem.F.args_object_init_3 obj _ _) PySem.F.entry_zip_new (new_zipK (k1 := k1) (k2 := k2)) ⟨h1, h2, ?_⟩
  have s1 : (zq1 s.heap k1 a).objs.size = s.heap.objs.size + 1 := Heap.size_push ..
  have s2 : (zq2 s.heap k1 k2 a b).objs.size = s.heap.objs.size + 2 := by rw [Heap.size_push, s1]
  have s3 : (zq3 s.heap k1 k2 a b).objs.size = s.heap.objs.size + 3 := by rw [Heap.size_push, s2]
  have s4 : (zq4 s.heap k1 k2 a b).objs.size = s.heap.objs.size + 4 := by rw [Heap.size_push, s3]
  have s5 : (zq5 s.heap k1 k2 a b).objs.size = s.heap.objs.size + 5 := by rw [Heap.size_push, s4]
  have up : ∀ {h : Heap} {o o' : Obj} {c : Addr}, h.get? c = some o → (h.push o').get? c = some o := fun q => Heap.get?_push_of_some _ q
  have e5 : (zq5 s.heap k1 k2 a b).get? (zq4 s.heap k1 k2 a b).objs.size = some _ := Heap.get?_push_size _ rfl
  have e4 : (zq5 s.heap k1 k2 a b).get? (zq3 s.heap k1 k2 a b).objs.size = some _ := up (Heap.get?_push_size _ rfl)
  have e3 : (zq5 s.heap k1 k2 a b).get? (zq2 s.heap k1 k2 a b).objs.size = some _ := up (up (Heap.get?_push_size _ rfl))
  have e2 : (zq5 s.heap k1 k2 a b).get? (zq1 s.heap k1 a).objs.size = some _ := up (up (up (Heap.get?_push_size _ rfl)))
  have e1 : (zq5 s.heap k1 k2 a b).get? s.heap.objs.size = some _ := up (up (up (up (Heap.get?_push_size _ rfl))))
  show _ ∧ _
  rw [s2, s3, s4] at e5
  rw [s1, s2] at e3
  rw [s3] at e4
  rw [s1] at e2
  rw [s4]
  exact ⟨⟨_, e5, rfl⟩, h _ ⟨e5, e3, e4, ⟨_, e1, rfl, rfl⟩, ⟨_, e2, rfl, rfl⟩, s5⟩ fun c o q => up (up (up (up (up q))))⟩

/-! ### enumerate -/
end
end ShW

set_option Elab.async false
set_option linter.all false
set_option maxRecDepth 100000
set_option maxHeartbeats 4000000
/-! enumerate: of a list, a tuple, a zip -/
namespace ShW
open PySem PySem.Spec PyProof.Rows L2
section
variable {prog : Program} {w : World} {A : Around} {E : Value → Shared → Prop} {s : Shared} {k k1 k2 : Kd} {a b it e z TI TO : Addr} {xs ys : Array Value}
abbrev enumO (it : Addr) : Obj := { cls := .type "enumerate", data := .fields #[.none, .bool false, .ref it, rawInt 0, .none, .none] }
theorem new_enumK : Meets (Builtin.«enumerate.__new__» ⟨[.type "enumerate", .ref a], []⟩) (fun _ R s => SeqK s.heap k a xs ∧ R (.ok (.ret (.ref (zq1 s.heap k a).objs.size))) { s with heap := (zq1 s.heap k a).push (enumO s.heap.objs.size) }) :=
  .of_wp fun prog w A R s h => by
    obtain ⟨hp, g, d, tk, os⟩ := s
    obtain ⟨q, h⟩ := h
    have sub := sub_enumerate
    have u : SeqK (Shared.heap ⟨hp, g, d, tk, os⟩) k a xs := q
    wp_walk
    refine wpAny_stack_any fun above => wpAny_pure ?_
    split
    · next c _ _ _ _ _ =>
      cases (c == Value.type "enumerate") <;> (wp_walk using iterK u; exact ⟨_, rfl, h⟩)
    · wp_walk using iterK u
      exact ⟨_, rfl, h⟩
theorem iterZ {Q : Value → Shared → Prop} {f0 : Value} {f1 : Bool} (hz : Zp s.heap z TI TO f0 f1) (h : Q (.ref z) s) : wpAny (model prog w) A (pyIter (.ref z)) Q E s := by
  have ty : s.TypeIs (.ref z) "zip" := ⟨_, hz, rfl⟩
  refine wpAny_pyIter_slot ty PySem.F.slot_zip_iter (wpAny_call_entry PySem.F.slot_zip_iter ty PySem.F.entry_zip_iter (?_ : wpAny _ _ (ret (.ref z)) _ _ s) (PySem.F.args_zip_iter_1 _))
  exact wpAny_pure ⟨_, rfl, "zip", _, ty, PySem.F.slot_zip_next.lookup, h⟩
theorem new_enumZ : Meets (Builtin.«enumerate.__new__» ⟨[.type "enumerate", .ref z], []⟩) (fun _ R s => Zp s.heap z TI TO .none false ∧ R (.ok (.ret (.ref s.heap.objs.size))) { s with heap := s.heap.push (enumO z) }) :=
  .of_wp fun prog w A R s h => by
    obtain ⟨hp, g, d, tk, os⟩ := s
    obtain ⟨q, h⟩ := h
    have sub := sub_enumerate
    have u : Zp (Shared.heap ⟨hp, g, d, tk, os⟩) z TI TO .none false := q
    wp_walk
    refine wpAny_stack_any fun above => wpAny_pure ?_
    split
    · next c _ _ _ _ _ =>
      cases (c == Value.type "enumerate") <;> (wp_walk using iterZ u; exact ⟨_, rfl, h⟩)
    · wp_walk using iterZ u
      exact ⟨_, rfl, h⟩
theorem call_enumK {Q : Value → Shared → Prop} (h1 : SeqK s.heap k a xs) (h : ∀ h', IsEnum h' (s.heap.objs.size + 1) s.heap.objs.size 0 .none → IterK h' k s.heap.objs.size a 0 → (∀ c o, s.heap.get? c = some o → h'.get? c = some o) → Q (.ref (s.heap.objs.size + 1)) { s with heap := h' }) :
    wpAny (model prog w) A (call (.type "enumerate") [.ref a]) Q E s := by
  refine callType_new PySem.F.called_enumerate (by decide) (PySem.F.typeCall_enumerate_1 _) (PySem.F.newCall_enumerate_1 _) (fun obj => PySem.F.args_object_init_2 obj _) PySem.F.entry_enumerate_new (new_enumK (k := k)) ⟨h1, ?_⟩
  have s1 : (zq1 s.heap k a).objs.size = s.heap.objs.size + 1 := Heap.size_push ..
  have e1 : ((zq1 s.heap k a).push (enumO s.heap.objs.size)).get? (zq1 s.heap k a).objs.size = some _ := Heap.get?_push_size _ rfl
  have e0 : ((zq1 s.heap k a).push (enumO s.heap.objs.size)).get? s.heap.objs.size = some _ := Heap.get?_push_of_some _ (Heap.get?_push_size _ rfl)
  show _ ∧ _
  rw [s1] at e1 ⊢
  exact ⟨⟨_, e1, rfl⟩, h _ e1 ⟨_, e0, rfl, rfl⟩ fun c o q => Heap.get?_push_of_some _ (Heap.get?_push_of_some _ q)⟩
theorem call_enumZ {Q : Value → Shared → Prop} (h1 : Zp s.heap z TI TO .none false) (h : ∀ h', IsEnum h' s.heap.objs.size z 0 .none → (∀ c o, s.heap.get? c = some o → h'.get? c = some o) → Q (.ref s.heap.objs.size) { s with heap := h' }) :
    wpAny (model prog w) A (call (.type "enumerate") [.ref z]) Q E s := by
  refine callType_new PySem.F.called_enumerate (by decide) (PySem.F.typeCall_enumerate_1 _) (PySem.F.newCall_enumerate_1 _) (fun obj => PySem.F.args_object_init_2 obj _) PySem.F.entry_enumerate_new (new_enumZ (TI := TI) (TO := TO)) ⟨h1, ?_⟩
  have e0 : (s.heap.push (enumO z)).get? s.heap.objs.size = some _ := Heap.get?_push_size _ rfl
  exact ⟨⟨_, e0, rfl⟩, h _ e0 fun c o q => Heap.get?_push_of_some _ q⟩
/-- the next number beside whatever the source gives -/
theorem enum_item {c : Int} {old : Value} {Q : Value → Shared → Prop} {Y : Value → Heap → Prop} (he : IsEnum s.heap e it c old)
    (src : ∀ R : Value → Shared → Prop, (∀ x h' tk, Y x h' → IsEnum h' e it c old → R x { s with heap := h', toks := tk }) → wpAny (model prog w) A (Builtin.SmallTypes.nextOf (.ref it)) R E s)
    (hQ : ∀ x h1 h' tk, Y x h1 → IsEnumOut h' e it (c + 1) x h1.objs.size → IsPair h' h1.objs.size (.int c tk) x → (∀ b o, b ≠ e → h1.get? b = some o → h'.get? b = some o) → Q (.ref h1.objs.size) { s with heap := h', toks := tk + 1 }) :
    wpAny (model prog w) A (Builtin.«enumerate.__next__» ⟨[.ref e], []⟩) (fun fin s' => ∃ v, fin = .done (.ret v) ∧ Q v s') E s := by
  show wpAny _ _ (field (.ref e) 2 >>= _) _ _ _
  refine at_field he rfl (x := .ref it) rfl (wpAny_bind (src _ fun x h1 tk hY e1 => ?_))
  obtain ⟨hp, g, d, tk0, os⟩ := s
  show wpAny _ _ (field (.ref e) 3 >>= _) _ _ ⟨h1, g, d, tk, os⟩
  refine at_field e1 rfl (x := rawInt c) rfl ?_
  show wpAny _ _ (field (.ref e) 4 >>= _) _ _ ⟨h1, g, d, tk, os⟩
  refine at_field e1 rfl (x := .none) rfl ?_
  show wpAny _ _ (mkInt c >>= _) _ _ ⟨h1, g, d, tk, os⟩
  refine wpAny_bind (wpAny_mkInt ?_)
  show wpAny _ _ (setField (.ref e) 3 (rawInt (c + 1)) >>= _) _ _ ⟨h1, g, d, tk + 1, os⟩
  refine wpAny_bind (wpAny_setField_rec e1 (by simp) fun h2 e2 s2 => ?_)
  replace s2 : Heap.SameBut e h1 h2 := s2
  replace e2 : IsEnum h2 e it (c + 1) old := e2
  show wpAny _ _ (setField (.ref e) 4 .none >>= _) _ _ ⟨h2, g, d, tk + 1, os⟩
  refine wpAny_bind (wpAny_setField_rec e2 (by simp) fun h3 e3 s3 => ?_)
  replace s3 : Heap.SameBut e h2 h3 := s3
  replace e3 : IsEnum h3 e it (c + 1) old := e3
  show wpAny _ _ (newTuple [.int c tk, x] >>= _) _ _ ⟨h3, g, d, tk + 1, os⟩
  refine wpAny_bind (wpAny_newTuple ?_)
  have sz : h3.objs.size = h1.objs.size := by rw [s3.1, s2.1]
  have lt : e < h1.objs.size := Heap.lt_size e1
  obtain ⟨h4, q4⟩ : ∃ h4, h4 = h3.push { cls := .type "tuple", data := .seq #[.int c tk, x] } := ⟨_, rfl⟩
  have e4 : IsEnum h4 e it (c + 1) old := by rw [q4]; exact Heap.get?_push_of_some _ e3
  have t4 : IsPair h4 h1.objs.size (.int c tk) x := by rw [q4, ← sz]; exact Heap.get?_push_size _ rfl
  have k4 : ∀ b o, b ≠ e → h1.get? b = some o → h4.get? b = some o := fun b o hb q => by
    rw [q4]
    exact Heap.get?_push_of_some _ (s3.extBut b o hb (s2.extBut b o hb q))
  show wpAny _ _ (Builtin.SmallTypes.ownedTupleIsFree (.ref e) >>= _) _ _ ⟨h3.push { cls := .type "tuple", data := .seq #[.int c tk, x] }, g, d, tk + 1, os⟩
  rw [← q4, sz]
  refine wpAny_bind ?_
  unfold Builtin.SmallTypes.ownedTupleIsFree
  refine at_field e4 rfl (x := .none) rfl (wpAny_pure ?_)
  simp only [if_true]
  refine wpAny_bind (wpAny_rule (at_field e4 rfl (x := old) rfl (wpAny_bind (wpAny_setField_rec e4 (by simp) fun h5 e5 s5 => ?_))))
  replace s5 : Heap.SameBut e h4 h5 := s5
  replace e5 : IsEnum h5 e it (c + 1) x := e5
  show wpAny _ _ (Builtin.SmallTypes.ownedTupleHandOut (.ref e) (.ref h1.objs.size) >>= _) _ _ ⟨h5, g, d, tk + 1, os⟩
  refine wpAny_bind ?_
  unfold Builtin.SmallTypes.ownedTupleHandOut
  refine wpAny_bind (wpAny_setField_rec e5 (by simp) fun h6 e6 s6 => ?_)
  replace s6 : Heap.SameBut e h5 h6 := s6
  replace e6 : IsEnumOut h6 e it (c + 1) x h1.objs.size := e6
  refine wpAny_setField_rec e6 (by simp) fun h7 e7 s7 => ?_
  replace s7 : Heap.SameBut e h6 h7 := s7
  replace e7 : IsEnumOut h7 e it (c + 1) x h1.objs.size := e7
  have up : ∀ b o, b ≠ e → h4.get? b = some o → h7.get? b = some o := fun b o hb q => s7.extBut b o hb (s6.extBut b o hb (s5.extBut b o hb q))
  exact wpAny_bind (wpAny_letGo (wpAny_pure ⟨_, rfl, hQ x h1 h7 tk hY e7 (up _ _ (Nat.ne_of_gt lt) t4) fun b o hb q => up b o hb (k4 b o hb q)⟩))
/-- no next: the source has none -/
theorem enum_end {c : Int} {old : Value} {Q : PySem.Fin → Shared → Prop} (he : IsEnum s.heap e it c old) (src : ∀ R : Value → Shared → Prop, wpAny (model prog w) A (Builtin.SmallTypes.nextOf (.ref it)) R E s) :
    wpAny (model prog w) A (Builtin.«enumerate.__next__» ⟨[.ref e], []⟩) Q E s := by
  show wpAny _ _ (field (.ref e) 2 >>= _) _ _ _
  exact at_field he rfl (x := .ref it) rfl (wpAny_bind (src _))
/-- pyNext of an enumerate -/
theorem next_enum {c : Int} {old : Value} {Q : Option Value → Shared → Prop} (he : IsEnum s.heap e it c old) (h : wpAny (model prog w) A.in1 (Builtin.«enumerate.__next__» ⟨[.ref e], []⟩) (fun fin s' => ∃ v, fin = .done (.ret v) ∧ Q (some v) s') (fun _ _ => False) s) : wpAny (model prog w) A (pyNext (.ref e)) Q E s := by
  have ty : s.TypeIs (.ref e) "enumerate" := ⟨_, he, rfl⟩
  unfold pyNext
  exact wpAny_bind (wpAny_attempt (wpAny_callSpecial?_slot (name := Str.ofString "__next__") ty PySem.F.slot_enumerate_next (wpAny_call_entry PySem.F.slot_enumerate_next ty PySem.F.entry_enumerate_next (wpAny_mono h (fun fin s' ⟨v, e, q⟩ => ⟨v, e, wpAny_pure q⟩) fun _ _ q => q.elim) (PySem.F.args_enumerate_next_1 _))))
theorem next_enum_end {c : Int} {old : Value} {Q : Option Value → Shared → Prop} (he : IsEnum s.heap e it c old) (h : wpAny (model prog w) A.in1 (Builtin.«enumerate.__next__» ⟨[.ref e], []⟩) (fun _ _ => False) (fun x s' => (∃ a o, x = .ref a ∧ s'.heap.get? a = some o ∧ o.cls = .type "StopIteration") ∧ Q none s') s) : wpAny (model prog w) A (pyNext (.ref e)) Q E s := by
  have ty : s.TypeIs (.ref e) "enumerate" := ⟨_, he, rfl⟩
  unfold pyNext
  refine wpAny_bind (wpAny_attempt (wpAny_callSpecial?_slot (name := Str.ofString "__next__") ty PySem.F.slot_enumerate_next (wpAny_call_entry PySem.F.slot_enumerate_next ty PySem.F.entry_enumerate_next (wpAny_mono h (fun fin s' q => q.elim) fun x s' ⟨⟨a, o, e1, e2, e3⟩, q⟩ => ?_) (PySem.F.args_enumerate_next_1 _))))
  subst e1
  exact wpAny_bind (wpAny_isInstance (T := "StopIteration") (b := true) ⟨o, e2, e3⟩ isSubtype_stop (wpAny_pure q))
end
end ShW

set_option Elab.async false
set_option linter.all false
set_option maxRecDepth 100000
set_option maxHeartbeats 4000000
/-! what enumerate draws from, and its turns -/
namespace ShW
open PySem PySem.Spec PyProof.Rows L2
/-- an iterator that another one draws from -/
structure Src (P : Program) (w : World) (K : PySem.W.Frag) (J : It) (fp : List Addr) (it : Addr) (tn : Nat → Heap → Prop) : Prop where
  mem : it ∈ fp
  obj : ∀ i h, tn i h → ∀ b ∈ fp, ∃ o, h.get? b = some o ∧ ∀ v, o.data ≠ .cell v
  keep : ∀ i h h', tn i h → (∀ b ∈ fp, ∀ o, h.get? b = some o → h'.get? b = some o) → tn i h'
  item : ∀ (X : Cx), X.prog = P → X.w = w → X.K = K → X.calm = true → ∀ (i : Nat) (pins : List (Addr × Obj)) (s : Shared) (σ : L2.St) (H : Hp) (R : Value → Shared → Prop) (E : Value → Shared → Prop), Inv X pins σ H s → (∀ b ∈ fp, FpOk X pins H b) → tn i s.heap → J.go i H →
    (∀ u x H' h' tk, Inv X pins σ H' { s with heap := h', toks := tk } → RelV x u → J.yld i H x H' → tn (i + 1) h' → (∀ b, b < s.heap.objs.size → H b = none → H' b = none) → (∀ b o, b ∉ fp → s.heap.get? b = some o → h'.get? b = some o) → R u { s with heap := h', toks := tk }) →
    wpAny (model P w) X.A.in1 (Builtin.SmallTypes.nextOf (.ref it)) R E s
  done : ∀ (X : Cx), X.prog = P → X.w = w → X.K = K → X.calm = true → ∀ (i : Nat) (pins : List (Addr × Obj)) (s : Shared) (σ : L2.St) (H : Hp) (R : Value → Shared → Prop), Inv X pins σ H s → (∀ b ∈ fp, FpOk X pins H b) → tn i s.heap → J.stop i H →
    wpAny (model P w) X.A.in1 (Builtin.SmallTypes.nextOf (.ref it)) R (fun x s' => (∃ a o, x = .ref a ∧ s'.heap.get? a = some o ∧ o.cls = .type "StopIteration") ∧ Inv X pins σ H s') s
section
variable {P : Program} {w : World} {K : PySem.W.Frag} {k k1 k2 : Kd} {a b it e z TI TO i1 i2 : Addr}
/-- the things at a, one by one -/
def ItK (K : PySem.W.Frag) (k : Kd) (a : Addr) : It where
  go := fun i H => ∃ (xs : List V) (x : V), SqK K k H a xs ∧ xs[i]? = some x
  yld := fun i H x H' => H' = H ∧ ∀ xs, SqK K k H a xs → xs[i]? = some x
  stop := fun i H => ∃ xs : List V, SqK K k H a xs ∧ i = xs.length
theorem srcK : Src P w K (ItK K k a) [it] it (fun i h => IterK h k it a i ∧ a ≠ it) where
  mem := by simp
  obj := fun i h ⟨⟨o, e1, _, e2⟩, _⟩ b hb => by
    rw [List.mem_singleton.mp hb]
    exact ⟨o, e1, fun v q => by rw [e2] at q; cases q⟩
  keep := fun i h h' ⟨x, ne⟩ q => ⟨x.keep fun o e => q it (by simp) o e, ne⟩
  item := by
    intro X hP hw hK hc i pins s σ H R E I hf ⟨st, ne⟩ ⟨xs, x, q1, q2⟩ h
    subst hP hw hK
    obtain ⟨us, r, p⟩ := SqK.at I q1
    obtain ⟨u, hu, ru⟩ := r.get q2
    have lt : i < us.toArray.size := by
      rw [List.size_toArray]
      exact (List.getElem?_eq_some_iff.mp hu).1
    refine (drawsK (k := k) (prog := X.prog) (w := X.w) (A := X.A.in1) (I.ok.hd hc) ne (xs := us.toArray)).item i s R E lt ⟨st, p⟩ fun y h' tk hy st' sb => ?_
    have ey : y = u := Option.some.inj (hy.symm.trans (by simpa using hu))
    subst ey
    have I' : Inv X pins σ H { s with heap := h', toks := tk } := I.turnedL (ch := [it]) (fun c o hc q => sb.extBut c o (fun z => hc (by simp [z])) q) hf
    exact h y x H h' tk I' ru ⟨rfl, fun ys hy => by rw [SqK.one I hy q1]; exact q2⟩ ⟨st'.1, ne⟩ (fun c _ z => z) fun c o hc q => sb.extBut c o (fun z => hc (by simp [z])) q
  done := by
    intro X hP hw hK hc i pins s σ H R I hf ⟨st, ne⟩ ⟨xs, q1, q2⟩
    subst hP hw hK
    obtain ⟨us, r, p⟩ := SqK.at I q1
    have e : us.toArray.size = i := by rw [List.size_toArray, q2, r.length]
    refine (drawsK (k := k) (prog := X.prog) (w := X.w) (A := X.A.in1) (I.ok.hd hc) ne (xs := us.toArray)).done s R _ ⟨by rw [e]; exact st, p⟩ fun h' x sb ⟨o, e1, e2⟩ => ⟨⟨x, o, rfl, e1, e2⟩, ?_⟩
    exact I.turnedL (t' := s.toks) (ch := [it]) (fun c o hc q => sb c o (fun z => hc (by simp [z])) q) hf
/-- the things at a and b, side by side, each pair a new tuple -/
def ItZ (K : PySem.W.Frag) (k1 k2 : Kd) (a b : Addr) : It where
  go := fun i H => ∃ (xs ys : List V) (x y : V), SqK K k1 H a xs ∧ SqK K k2 H b ys ∧ xs[i]? = some x ∧ ys[i]? = some y
  yld := fun i H v H' => ∃ T x y, v = .ref T ∧ H T = none ∧ H' = upd H T (.tup [x, y]) ∧ (∀ xs, SqK K k1 H a xs → xs[i]? = some x) ∧ ∀ ys, SqK K k2 H b ys → ys[i]? = some y
  stop := fun i H => ∃ xs ys : List V, SqK K k1 H a xs ∧ SqK K k2 H b ys ∧ i = min xs.length ys.length
/-- a zip's cells lie apart -/
structure Apart (z TI TO i1 i2 a b : Addr) : Prop where
  s : ZipSep2 z TI TO i1 i2 [i1, a] [i2, b]
  a1 : a ≠ i1
  b2 : b ≠ i2
theorem apart_new {N a b : Nat} (h1 : a < N) (h2 : b < N) : Apart (N + 4) (N + 2) (N + 3) N (N + 1) a b := by
  have ne : ∀ {x y : Nat}, x ≠ y → (x : Addr) ≠ y := fun h => h
  have ni : ∀ {x y v : Nat}, x ≠ y → x ≠ v → (x : Addr) ∉ [y, v] := fun h1 h2 h => by
    rcases List.mem_cons.mp h with h | h
    · exact h1 h
    · exact h2 (List.mem_singleton.mp h)
  exact ⟨⟨ne (by omega), ne (by omega), ne (by omega), ne (by omega), List.mem_cons_self, ni (by omega) (by omega), ni (by omega) (by omega), ne (by omega), List.mem_cons_self, ni (by omega) (by omega), ni (by omega) (by omega), ni (by omega) (by omega), ni (by omega) (by omega)⟩, ne (by omega), ne (by omega)⟩
theorem srcZ : Src P w K (ItZ K k1 k2 a b) [z, TI, TO, i1, i2] z (fun i h => ZOk h z TI TO ∧ IsPair h TI (.ref i1) (.ref i2) ∧ (∃ x y, IsPair h TO x y) ∧ IterK h k1 i1 a i ∧ IterK h k2 i2 b i ∧ Apart z TI TO i1 i2 a b) where
  mem := by simp
  obj := fun i h ⟨⟨f0, f1, _, e0⟩, e1, ⟨x, y, e2⟩, ⟨o3, e3, _, d3⟩, ⟨o4, e4, _, d4⟩, _⟩ c hc => by
    simp only [List.mem_cons, List.not_mem_nil, or_false] at hc
    rcases hc with rfl | rfl | rfl | rfl | rfl
    · exact ⟨_, e0, fun v q => nomatch q⟩
    · exact ⟨_, e1, fun v q => nomatch q⟩
    · exact ⟨_, e2, fun v q => nomatch q⟩
    · exact ⟨o3, e3, fun v q => by rw [d3] at q; cases q⟩
    · exact ⟨o4, e4, fun v q => by rw [d4] at q; cases q⟩
  keep := fun i h h' ⟨⟨f0, f1, ef, e0⟩, e1, ⟨x, y, e2⟩, e3, e4, D⟩ q => ⟨⟨f0, f1, ef, q z (by simp) _ e0⟩, q TI (by simp) _ e1, ⟨x, y, q TO (by simp) _ e2⟩, e3.keep fun o u => q i1 (by simp) o u, e4.keep fun o u => q i2 (by simp) o u, D⟩
  item := by
    intro X hP hw hK hc i pins s σ H R E I hf ⟨e0, e1, e2, e3, e4, D⟩ ⟨xs, ys, x, y, qx, qy, hx, hy⟩ h
    subst hP hw hK
    obtain ⟨us, r1, p1⟩ := SqK.at I qx
    obtain ⟨vs, r2, p2⟩ := SqK.at I qy
    obtain ⟨u, hu, ru⟩ := r1.get hx
    obtain ⟨v, hv, rv⟩ := r2.get hy
    have l1 : i < us.toArray.size := by
      rw [List.size_toArray]
      exact (List.getElem?_eq_some_iff.mp hu).1
    have l2 : i < vs.toArray.size := by
      rw [List.size_toArray]
      exact (List.getElem?_eq_some_iff.mp hv).1
    refine nextOf_zip e0 (draw_item (i := i) D.s (drawsK (k := k1) (I.ok.hd hc) D.a1 (xs := us.toArray)) (drawsK (k := k2) (I.ok.hd hc) D.b2 (xs := vs.toArray)) e0 e1 e2 ⟨e3, p1⟩ ⟨e4, p2⟩ l1 l2 fun x1 x2 h' tk hx1 hx2 z' tO' s1 s2 new big kp => ?_)
    have b1 : x1 = u := Option.some.inj (hx1.symm.trans (by simpa using hu))
    have b2 : x2 = v := Option.some.inj (hx2.symm.trans (by simpa using hv))
    subst b1 b2
    have kp' : ∀ c o, c ∉ [z, TI, TO, i1, i2] → s.heap.get? c = some o → h'.get? c = some o := fun c o hc => kp c o fun q => hc (by
      simp only [List.mem_cons, List.not_mem_nil, or_false] at q ⊢
      rcases q with q | q | q | q <;> simp [q])
    have ok : ObjOk X.prog X.w (upd H s.heap.objs.size (.tup [x, y])) h' s.heap.objs.size (.tup [x, y]) := ⟨by show 2 ≤ sizeLine; decide, [x1, x2], .cons ru (.cons rv .nil), ⟨_, new, rfl, _, rfl⟩⟩
    have nTI : TI ∉ [z, TO, i1, i2] := by
      simp only [List.mem_cons, List.not_mem_nil, or_false, not_or]
      exact ⟨D.s.TIz, D.s.TITO, D.s.TIi1, D.s.TIi2⟩
    exact h (.ref s.heap.objs.size) (.ref s.heap.objs.size) (upd H s.heap.objs.size (.tup [x, y])) h' tk (I.turnedNew (t' := tk) kp' hf (Nat.le_refl _) ok) rfl
      ⟨_, x, y, rfl, I.hok.fresh (Nat.le_refl _), rfl, fun l hl => by rw [SqK.one I hl qx]; exact hx, fun l hl => by rw [SqK.one I hl qy]; exact hy⟩
      ⟨z', kp _ _ nTI e1, tO', s1.1, s2.1, D⟩ (fun c lt hn => by rw [upd_ne (Nat.ne_of_lt lt)]; exact hn) kp'
  done := by
    intro X hP hw hK hc i pins s σ H R I hf ⟨e0, e1, e2, e3, e4, D⟩ ⟨xs, ys, qx, qy, hend⟩
    subst hP hw hK
    obtain ⟨us, r1, p1⟩ := SqK.at I qx
    obtain ⟨vs, r2, p2⟩ := SqK.at I qy
    have l1 : us.toArray.size = xs.length := by rw [List.size_toArray, r1.length]
    have l2 : vs.toArray.size = ys.length := by rw [List.size_toArray, r2.length]
    refine nextOf_zip e0 (draw_end (i := i) D.s (drawsK (k := k1) (I.ok.hd hc) D.a1 (xs := us.toArray)) (drawsK (k := k2) (I.ok.hd hc) D.b2 (xs := vs.toArray)) e0 e1 e2 ⟨e3, p1⟩ ⟨e4, p2⟩ (by omega) (by omega) (by omega) fun h' tk x kp ⟨o, q1, q2⟩ => ⟨⟨x, o, rfl, q1, q2⟩, ?_⟩)
    exact I.turnedL (t' := tk) (ch := [z, TI, TO, i1, i2]) (fun c o hc q => kp c o (fun y => hc (by
      simp only [List.mem_cons, List.not_mem_nil, or_false] at y ⊢
      rcases y with y | y | y | y <;> simp [y])) q) hf
/-- numbered -/
def ItE (J : It) : It where
  go := J.go
  yld := fun i H v H' => ∃ T x H1, J.yld i H x H1 ∧ v = .ref T ∧ H1 T = none ∧ H' = upd H1 T (.tup [.int (i : Nat), x])
  stop := J.stop
theorem turn_enumS {J : It} {fp : List Addr} {tn : Nat → Heap → Prop} {elts : List Expr} {kk : Nat} {tpos : Pos} (S : Src P w K J fp it tn) (ne : e ∉ fp) :
    Turn P w K (.Tuple elts kk tpos) (ItE J) (e :: fp) e (fun i h => (∃ old, IsEnum h e it ((i : Nat) : Int) old) ∧ tn i h) where
  mem := by simp
  obj := fun i h ⟨⟨old, he⟩, st⟩ b hb => by
    rcases List.mem_cons.mp hb with rfl | hb
    · exact ⟨_, he, fun v q => nomatch q⟩
    · exact S.obj i h st b hb
  keep := fun i h h' ⟨⟨old, he⟩, st⟩ q => ⟨⟨old, q e (by simp) _ he⟩, S.keep i h h' st fun b hb o u => q b (List.mem_cons_of_mem _ hb) o u⟩
  item := by
    intro X hP hw hK hc i pins s σ H E I hf ⟨⟨old, he⟩, st⟩ hg
    have lte : e < s.heap.objs.size := Heap.lt_size he
    have hff : ∀ b ∈ fp, FpOk X pins H b := fun b hb => hf b (List.mem_cons_of_mem _ hb)
    refine next_enum he (enum_item (Y := fun u h' => ∃ x H' tk, Inv X pins σ H' { s with heap := h', toks := tk } ∧ RelV x u ∧ J.yld i H x H' ∧ tn (i + 1) h' ∧ (∀ b, b < s.heap.objs.size → H b = none → H' b = none) ∧ ∀ b o, b ∉ fp → s.heap.get? b = some o → h'.get? b = some o) he (fun R hR => ?_) fun u h1 h' tk hY out new kp => ?_)
    · exact S.item X hP hw hK hc i pins s σ H R _ I hff st hg fun u x H' h' tk a1 a2 a3 a4 a5 a6 => hR u h' tk ⟨x, H', tk, a1, a2, a3, a4, a5, a6⟩ (a6 e _ ne he)
    · obtain ⟨x, H1, tk1, I1, ru, hy, st1, fr, kp1⟩ := hY
      have e1 := kp1 e _ ne he
      have lt1 : e < h1.objs.size := Heap.lt_size e1
      refine ⟨_, rfl, wpAny_letOwnedTupleGo_enum (s := { s with heap := h', toks := tk + 1 }) out fun h2 e2 sb => ?_⟩
      have new2 : h2.get? h1.objs.size = some { cls := .type "tuple", data := .seq #[.int (i : Nat) tk, u] } := (sb.2 _ (Nat.ne_of_gt lt1)).trans new
      have kp2 : ∀ b o, b ∉ [e] → h1.get? b = some o → h2.get? b = some o := fun b o hb q => (sb.2 b fun z => hb (by simp [z])).trans (kp b o (fun z => hb (by simp [z])) q)
      have ok : ObjOk X.prog X.w (upd H1 h1.objs.size (.tup [.int (i : Nat), x])) h2 h1.objs.size (.tup [.int (i : Nat), x]) := ⟨by show 2 ≤ sizeLine; decide, [.int (i : Nat) tk, u], .cons ⟨_, rfl⟩ (.cons ru .nil), ⟨_, new2, rfl, _, rfl⟩⟩
      have fe : FpOk X pins H1 e := ⟨fr e lte (hf e (by simp)).1, (hf e (by simp)).2⟩
      have I2 : Inv X pins σ (upd H1 h1.objs.size (.tup [.int (i : Nat), x])) { s with heap := h2, toks := tk + 1 } := I1.turnedNew (t' := tk + 1) (ch := [e]) kp2 (fun b hb => by rw [List.mem_singleton.mp hb]; exact fe) (Nat.le_refl _) ok
      refine ⟨.ref h1.objs.size, _, I2, rfl, ⟨_, x, H1, hy, rfl, I1.hok.fresh (Nat.le_refl _), rfl⟩, ⟨⟨u, ?_⟩, ?_⟩, fun b hb => ?_⟩
      · rw [show ((i + 1 : Nat) : Int) = (i : Int) + 1 by omega]
        exact e2
      · exact S.keep _ _ _ st1 fun b hb o q => kp2 b o (fun z => ne (by rw [← List.mem_singleton.mp z]; exact hb)) q
      · have lb : b < h1.objs.size := by
          rcases List.mem_cons.mp hb with rfl | hb
          · exact lt1
          · obtain ⟨o, q, _⟩ := S.obj _ _ st1 b hb
            exact Heap.lt_size q
        rw [upd_ne (Nat.ne_of_lt lb)]
        refine fr b ?_ (hf b hb).1
        rcases List.mem_cons.mp hb with rfl | hb
        · exact lte
        · obtain ⟨o, q, _⟩ := S.obj _ _ st b hb
          exact Heap.lt_size q
  done := by
    intro X hP hw hK hc i pins s σ H E I hf ⟨⟨old, he⟩, st⟩ hg
    exact next_enum_end he (enum_end he fun R => wpAny_mono (S.done X hP hw hK hc i pins s σ H R I (fun b hb => hf b (List.mem_cons_of_mem _ hb)) st hg) (fun _ _ z => z) fun x s' ⟨h1, h2⟩ => ⟨h1, rfl, h2⟩)
  self := fun A i s Q E st h => let ⟨⟨_, he⟩, _⟩ := st; wpAny_pyIter_enum he h
end
end ShW

set_option Elab.async false
set_option linter.all false
set_option maxRecDepth 100000
set_option maxHeartbeats 4000000
/-! the loops' sources by their text, and by data -/
namespace ShW
open PySem PySem.Spec PyProof.Rows L2
section
variable {prog : Program} {w : World} {A : Around} {E : Value → Shared → Prop} {s : Shared} {P : Program} {K : PySem.W.Frag} {k k1 k2 : Kd} {a b it e z TI TO i1 i2 : Addr}
theorem next_zip {Q : Option Value → Shared → Prop} (hz : ZOk s.heap z TI TO) (h : wpAny (model prog w) A.in1 (Builtin.«zip.__next__» ⟨[.ref z], []⟩) (fun fin s' => ∃ v, fin = .done (.ret v) ∧ Q (some v) s') (fun _ _ => False) s) : wpAny (model prog w) A (pyNext (.ref z)) Q E s := by
  obtain ⟨f0, f1, _, hz⟩ := hz
  have ty : s.TypeIs (.ref z) "zip" := ⟨_, hz, rfl⟩
  unfold pyNext
  exact wpAny_bind (wpAny_attempt (wpAny_callSpecial?_slot (name := Str.ofString "__next__") ty PySem.F.slot_zip_next (wpAny_call_entry PySem.F.slot_zip_next ty PySem.F.entry_zip_next (wpAny_mono h (fun fin s' ⟨v, e, q⟩ => ⟨v, e, wpAny_pure q⟩) fun _ _ q => q.elim) (PySem.F.args_zip_next_1 _))))
theorem next_zip_end {Q : Option Value → Shared → Prop} (hz : ZOk s.heap z TI TO) (h : wpAny (model prog w) A.in1 (Builtin.«zip.__next__» ⟨[.ref z], []⟩) (fun _ _ => False) (fun x s' => (∃ a o, x = .ref a ∧ s'.heap.get? a = some o ∧ o.cls = .type "StopIteration") ∧ Q none s') s) : wpAny (model prog w) A (pyNext (.ref z)) Q E s := by
  obtain ⟨f0, f1, _, hz⟩ := hz
  have ty : s.TypeIs (.ref z) "zip" := ⟨_, hz, rfl⟩
  unfold pyNext
  refine wpAny_bind (wpAny_attempt (wpAny_callSpecial?_slot (name := Str.ofString "__next__") ty PySem.F.slot_zip_next (wpAny_call_entry PySem.F.slot_zip_next ty PySem.F.entry_zip_next (wpAny_mono h (fun fin s' q => q.elim) fun x s' ⟨⟨a, o, e1, e2, e3⟩, q⟩ => ?_) (PySem.F.args_zip_next_1 _))))
  subst e1
  exact wpAny_bind (wpAny_isInstance (T := "StopIteration") (b := true) ⟨o, e2, e3⟩ isSubtype_stop (wpAny_pure q))
theorem letgo_zip {elts : List Expr} {kk : Nat} {tpos : Pos} {T : Addr} {Q : Unit → Shared → Prop} (hz : ZOk s.heap z TI TO) (h : ∀ h', ZOk h' z TI TO → Heap.SameBut z s.heap h' → Q () { s with heap := h' }) : wpAny (model prog w) A (letOwnedTupleGo (.Tuple elts kk tpos) (.ref z) (.ref T)) Q E s := by
  obtain ⟨f0, f1, ef, hz⟩ := hz
  unfold letOwnedTupleGo
  refine wpAny_bind (wpAny_load hz ?_)
  show wpAny _ _ (if _ then _ else _) _ _ s
  split
  · refine wpAny_bind (wpAny_rule (wpAny_setField_rec hz (by simp) fun h' z' sb => ?_))
    exact h h' ⟨.none, f1, .inl rfl, z'⟩ sb
  · exact wpAny_pure (h s.heap ⟨f0, f1, ef, hz⟩ (Heap.SameBut.refl _ _))
theorem turn_zipK {elts : List Expr} {kk : Nat} {tpos : Pos} :
    Turn P w K (.Tuple elts kk tpos) (ItZ K k1 k2 a b) [z, TI, TO, i1, i2] z (fun i h => ZOk h z TI TO ∧ IsPair h TI (.ref i1) (.ref i2) ∧ (∃ x y, IsPair h TO x y) ∧ IterK h k1 i1 a i ∧ IterK h k2 i2 b i ∧ Apart z TI TO i1 i2 a b) where
  mem := by simp
  obj := (srcZ (P := P) (w := w) (K := K) (k1 := k1) (k2 := k2)).obj
  keep := (srcZ (P := P) (w := w) (K := K) (k1 := k1) (k2 := k2)).keep
  item := by
    intro X hP hw hK hc i pins s σ H E I hf ⟨e0, e1, e2, e3, e4, D⟩ ⟨xs, ys, x, y, qx, qy, hx, hy⟩
    subst hP hw hK
    obtain ⟨us, r1, p1⟩ := SqK.at I qx
    obtain ⟨vs, r2, p2⟩ := SqK.at I qy
    obtain ⟨u, hu, ru⟩ := r1.get hx
    obtain ⟨v, hv, rv⟩ := r2.get hy
    have l1 : i < us.toArray.size := by
      rw [List.size_toArray]
      exact (List.getElem?_eq_some_iff.mp hu).1
    have l2 : i < vs.toArray.size := by
      rw [List.size_toArray]
      exact (List.getElem?_eq_some_iff.mp hv).1
    have hd : X.A.in1.handled = none := I.ok.hd hc
    refine next_zip e0 (draw_item (i := i) D.s (drawsK (k := k1) hd D.a1 (xs := us.toArray)) (drawsK (k := k2) hd D.b2 (xs := vs.toArray)) e0 e1 e2 ⟨e3, p1⟩ ⟨e4, p2⟩ l1 l2 fun x1 x2 h1 tk hx1 hx2 z1 tO1 s1 s2 new big kp => ?_)
    have b1 : x1 = u := Option.some.inj (hx1.symm.trans (by simpa using hu))
    have b2 : x2 = v := Option.some.inj (hx2.symm.trans (by simpa using hv))
    subst b1 b2
    refine ⟨_, rfl, letgo_zip (s := { s with heap := h1, toks := tk }) z1 fun h' z' sb => ?_⟩
    replace sb : Heap.SameBut z h1 h' := sb
    have far : ∀ {c}, c ∉ [z, TI, TO, i1, i2] → c ≠ z ∧ c ∉ [z, TO, i1, i2] := fun {c} hc => by
      simp only [List.mem_cons, List.not_mem_nil, or_false, not_or] at hc ⊢
      exact ⟨hc.1, hc.1, hc.2.2.1, hc.2.2.2.1, hc.2.2.2.2⟩
    have kp' : ∀ c o, c ∉ [z, TI, TO, i1, i2] → s.heap.get? c = some o → h'.get? c = some o := fun c o hc q => sb.extBut c o (far hc).1 (kp c o (far hc).2 q)
    have nTI : TI ∉ [z, TO, i1, i2] := by
      simp only [List.mem_cons, List.not_mem_nil, or_false, not_or]
      exact ⟨D.s.TIz, D.s.TITO, D.s.TIi1, D.s.TIi2⟩
    have lz : z < s.heap.objs.size := by
      obtain ⟨_, _, _, q⟩ := e0
      exact Heap.lt_size q
    have new' := sb.extBut _ _ (Nat.ne_of_gt lz) new
    have ok : ObjOk X.prog X.w (upd H s.heap.objs.size (.tup [x, y])) h' s.heap.objs.size (.tup [x, y]) := ⟨by show 2 ≤ sizeLine; decide, [x1, x2], .cons ru (.cons rv .nil), ⟨_, new', rfl, _, rfl⟩⟩
    obtain ⟨p, q, tO⟩ := tO1
    refine ⟨.ref s.heap.objs.size, upd H s.heap.objs.size (.tup [x, y]), I.turnedNew (t' := tk) kp' hf (Nat.le_refl _) ok, rfl, ⟨_, x, y, rfl, I.hok.fresh (Nat.le_refl _), rfl, fun l hl => by rw [SqK.one I hl qx]; exact hx, fun l hl => by rw [SqK.one I hl qy]; exact hy⟩,
      ⟨z', sb.extBut _ _ D.s.TIz (kp _ _ nTI e1), ⟨p, q, sb.extBut _ _ D.s.TOz tO⟩, s1.1.keep fun o => sb.extBut _ o D.s.zi1.symm, s2.1.keep fun o => sb.extBut _ o D.s.zi2.symm, D⟩, fun c hc => ?_⟩
    obtain ⟨o, q, _⟩ := (srcZ (P := X.prog) (w := X.w) (K := X.K) (k1 := k1) (k2 := k2)).obj i s.heap ⟨e0, e1, e2, e3, e4, D⟩ c hc
    rw [upd_ne (Nat.ne_of_lt (Heap.lt_size q))]
    exact (hf c hc).1
  done := by
    intro X hP hw hK hc i pins s σ H E I hf ⟨e0, e1, e2, e3, e4, D⟩ ⟨xs, ys, qx, qy, hend⟩
    subst hP hw hK
    obtain ⟨us, r1, p1⟩ := SqK.at I qx
    obtain ⟨vs, r2, p2⟩ := SqK.at I qy
    have l1 : us.toArray.size = xs.length := by rw [List.size_toArray, r1.length]
    have l2 : vs.toArray.size = ys.length := by rw [List.size_toArray, r2.length]
    have hd : X.A.in1.handled = none := I.ok.hd hc
    refine next_zip_end e0 (draw_end (i := i) D.s (drawsK (k := k1) hd D.a1 (xs := us.toArray)) (drawsK (k := k2) hd D.b2 (xs := vs.toArray)) e0 e1 e2 ⟨e3, p1⟩ ⟨e4, p2⟩ (by omega) (by omega) (by omega) fun h' tk x kp ⟨o, q1, q2⟩ => ⟨⟨x, o, rfl, q1, q2⟩, rfl, ?_⟩)
    exact I.turnedL (t' := tk) (ch := [z, TI, TO, i1, i2]) (fun c o hc q => kp c o (fun y => hc (by
      simp only [List.mem_cons, List.not_mem_nil, or_false] at y ⊢
      rcases y with y | y | y | y <;> simp [y])) q) hf
  self := fun A i s Q E ⟨⟨_, _, _, q⟩, _⟩ h => iterZ q h
end
section
variable {X : Cx} {e e2 : Expr} {ta : TA} {p p2 pos pos2 tpos : Pos} {elts : List Expr} {kk : Nat} {k k1 k2 : Kd}
def iEnK (K : PySem.W.Frag) (k : Kd) (ta : TA) : TI := fun σ H R => ta σ H fun vs H1 => ∃ a xs, vs = [.ref a] ∧ SqK K k H1 a xs ∧ R (ItE (ItK K k a)) H1
def iZK (K : PySem.W.Frag) (k1 k2 : Kd) (ta : TA) : TI := fun σ H R => ta σ H fun vs H1 => ∃ a b xs ys, vs = [.ref a, .ref b] ∧ SqK K k1 H1 a xs ∧ SqK K k2 H1 b ys ∧ R (ItZ K k1 k2 a b) H1
def iEnZ (K : PySem.W.Frag) (k1 k2 : Kd) (ta : TA) : TI := fun σ H R => ta σ H fun vs H1 => ∃ a b xs ys, vs = [.ref a, .ref b] ∧ SqK K k1 H1 a xs ∧ SqK K k2 H1 b ys ∧ R (ItE (ItZ K k1 k2 a b)) H1
theorem pi_enK (hm : X.mg "enumerate" = none) (ha : PA X [e] ta) (hg : Gl X "enumerate" := by rfl) (hs : starEach [e] X.env = [(false, eval e X.env)] := by rfl) : PI X (.Tuple elts kk tpos) (.Call (.Name "enumerate" p) [e] [] pos) (iEnK X.K k ta) := by
  refine ⟨fun pins s σ H R I h => ?_⟩
  refine Call_ (ld_blt I hg hm boot_enumerate (PyProof.Rows.callWith_type1 (thn (ha.run pos pins s σ H _ I h) fun us s1 ⟨vs, H1, I1, r1, a, xs, ex, hq, q⟩ => ?_) hs rfl))
  subst ex
  rw [Vals.ref1 r1]
  obtain ⟨its, rv, p1⟩ := SqK.at I1 hq
  refine call_enumK p1 fun h' he hit kp => wpAny_pyIter_enum he ?_
  have lt := p1.lt
  refine ⟨s1.heap.objs.size + 1, [s1.heap.objs.size + 1, s1.heap.objs.size], _, _, H1, rfl, I1.kept (t' := s1.toks) kp, turn_enumS (srcK (it := s1.heap.objs.size) (k := k)) (by simp), ⟨⟨.none, he⟩, hit, Nat.ne_of_lt lt⟩, fun b hb => ?_, q⟩
  have le : s1.heap.objs.size ≤ b := by
    simp only [List.mem_cons, List.not_mem_nil, or_false] at hb
    rcases hb with rfl | rfl
    · exact Nat.le_add_right _ _
    · exact Nat.le_refl _
  exact I1.fpOk le (I1.hok.fresh le)
theorem zip_le {N c : Nat} (hc : c ∈ [N + 4, N + 2, N + 3, N, N + 1]) : N ≤ c := by
  simp only [List.mem_cons, List.not_mem_nil, or_false] at hc
  omega
theorem pi_zK (hm : X.mg "zip" = none) (ha : PA X [e, e2] ta) (hg : Gl X "zip" := by rfl) (hs : starEach [e, e2] X.env = (false, eval e X.env) :: starEach [e2] X.env := by rfl) (hpl : (backTo pos (starEach [e2] X.env)).any (·.1) = false := by rfl) :
    PI X (.Tuple elts kk tpos) (.Call (.Name "zip" p) [e, e2] [] pos) (iZK X.K k1 k2 ta) := by
  refine ⟨fun pins s σ H R I h => ?_⟩
  refine Call_ (ld_blt I hg hm PyProof.Rows.boot_zip (PyProof.Rows.callWith_type1 (thn (ha.run pos pins s σ H _ I h) fun us s1 ⟨vs, H1, I1, r1, a, b, xs, ys, ex, qx, qy, q⟩ => ?_) hs hpl))
  subst ex
  obtain ⟨u1, u2, rfl, r1, r2⟩ := vals2 r1
  cases r1
  cases r2
  obtain ⟨us, _, p1⟩ := SqK.at I1 qx
  obtain ⟨vs, _, p2⟩ := SqK.at I1 qy
  refine call_zipK p1 p2 fun h' z kp => iterZ z.z ?_
  exact ⟨s1.heap.objs.size + 4, [s1.heap.objs.size + 4, s1.heap.objs.size + 2, s1.heap.objs.size + 3, s1.heap.objs.size, s1.heap.objs.size + 1], _, _, H1, rfl, I1.kept (t' := s1.toks) kp, turn_zipK, ⟨⟨_, _, .inl rfl, z.z⟩, z.tI, ⟨_, _, z.tO⟩, z.i1, z.i2, apart_new p1.lt p2.lt⟩, fun c hc => I1.fpOk (zip_le hc) (I1.hok.fresh (zip_le hc)), q⟩
theorem pi_enZ (hm : X.mg "enumerate" = none) (hm2 : X.mg "zip" = none) (ha : PA X [e, e2] ta) (hg : Gl X "enumerate" := by rfl) (hg2 : Gl X "zip" := by rfl) (hs : starEach [e, e2] X.env = (false, eval e X.env) :: starEach [e2] X.env := by rfl) (hpl : (backTo pos2 (starEach [e2] X.env)).any (·.1) = false := by rfl)
    (hs1 : starEach [.Call (.Name "zip" p2) [e, e2] [] pos2] X.env = [(false, eval (.Call (.Name "zip" p2) [e, e2] [] pos2) X.env)] := by rfl) :
    PI X (.Tuple elts kk tpos) (.Call (.Name "enumerate" p) [.Call (.Name "zip" p2) [e, e2] [] pos2] [] pos) (iEnZ X.K k1 k2 ta) := by
  refine ⟨fun pins s σ H R I h => ?_⟩
  refine Call_ (ld_blt I hg hm boot_enumerate (PyProof.Rows.callWith_type1 ?_ hs1 rfl))
  rw [hs1]
  show wpAny _ _ (spliced ((false, eval (.Call (.Name "zip" p2) [e, e2] [] pos2) X.env) :: backTo pos [])) _ _ s
  refine Calls.spliced_cons ?_
  refine Call_ (ld_blt I hg2 hm2 PyProof.Rows.boot_zip (PyProof.Rows.callWith_type1 (thn (ha.run pos2 pins s σ H _ I h) fun us s1 ⟨vs, H1, I1, r1, a, b, xs, ys, ex, qx, qy, q⟩ => ?_) hs hpl))
  subst ex
  obtain ⟨u1, u2, rfl, r1, r2⟩ := vals2 r1
  cases r1
  cases r2
  obtain ⟨us, _, p1⟩ := SqK.at I1 qx
  obtain ⟨vs, _, p2⟩ := SqK.at I1 qy
  refine call_zipK p1 p2 fun h1 z kp => Calls.spliced_nil (call_enumZ (s := { s1 with heap := h1 }) z.z fun h2 he kp2 => wpAny_pyIter_enum he ?_)
  replace he : IsEnum h2 h1.objs.size (s1.heap.objs.size + 4) 0 .none := he
  replace kp2 : ∀ c o, h1.get? c = some o → h2.get? c = some o := kp2
  rw [z.sz] at he
  have up : ∀ {k : Kd} {it a : Addr} {i : Nat}, IterK h1 k it a i → IterK h2 k it a i := fun x => x.keep fun o e => kp2 _ o e
  show PIE X pins σ _ _ (.ref h1.objs.size) _
  rw [z.sz]
  refine ⟨s1.heap.objs.size + 5, [s1.heap.objs.size + 5, s1.heap.objs.size + 4, s1.heap.objs.size + 2, s1.heap.objs.size + 3, s1.heap.objs.size, s1.heap.objs.size + 1], _, _, H1, rfl, I1.kept (t' := s1.toks) fun c o x => kp2 _ _ (kp c o x), turn_enumS (srcZ (k1 := k1) (k2 := k2) (z := s1.heap.objs.size + 4) (TI := s1.heap.objs.size + 2) (TO := s1.heap.objs.size + 3) (i1 := s1.heap.objs.size) (i2 := s1.heap.objs.size + 1)) (fun m => ?_), ⟨⟨.none, he⟩, ⟨_, _, .inl rfl, kp2 _ _ z.z⟩, kp2 _ _ z.tI, ⟨_, _, kp2 _ _ z.tO⟩, up z.i1, up z.i2, apart_new p1.lt p2.lt⟩, fun c hc => ?_, q⟩
  · simp only [List.mem_cons, List.not_mem_nil, or_false] at m
    have m' : ∀ {x y : Nat}, (x : Addr) = y → x = y := fun h => h
    rcases m with m | m | m | m | m <;> · have := m' m; omega
  · have le : s1.heap.objs.size ≤ c := by
      rcases List.mem_cons.mp hc with rfl | hc
      · exact Nat.le_add_right _ _
      · exact zip_le hc
    exact I1.fpOk le (I1.hok.fresh le)
end
end ShW

set_option Elab.async false
set_option linter.all false
set_option maxRecDepth 100000
set_option maxHeartbeats 4000000
/-! the loops' sources, by data -/
namespace Sh
open PySem PySem.Spec L2
open Evl (Ex)
open ShW (Kd SqK ItK ItZ ItE iEnK iZK iEnZ)
def seqD : Kd → List D → D
  | .t, ds => .tuple ds
  | .l, ds => .list ds
/-- numbered -/
def enumD (ds : List D) : List D := ds.zipIdx.map fun p => .tuple [.int (p.2 : Nat), p.1]
theorem enumD_len (ds : List D) : (enumD ds).length = ds.length := by
  unfold enumD
  rw [List.length_map, List.length_zipIdx]
theorem enumD_at {ds : List D} {i : Nat} {d : D} (h : ds[i]? = some d) : (enumD ds)[i]? = some (.tuple [.int (i : Nat), d]) := by
  unfold enumD
  rw [List.getElem?_map, List.getElem?_zipIdx, h]
  show some (PyData.tuple [.int ((0 + i : Nat) : Int), d]) = _
  rw [Nat.zero_add]
section
variable {K : PySem.W.Frag} {σ : L2.St} {G : Hp} {ar : TA} {k k1 k2 : Kd}
theorem sq_of {G2 H : Hp} {v : V} {ds : List D} (n : Dn G2 v (seqD k ds)) (e : Ex G2 H) : ∃ a xs, v = .ref a ∧ SqK K k H a xs ∧ DnL G2 xs ds ∧ ∀ H', Ex G2 H' → SqK K k H' a xs := by
  cases k with
  | t =>
    cases n with
    | tup h1 h2 => exact ⟨_, _, rfl, .inl (rdx e h1), h2, fun H' e' => .inl (rdx e' h1)⟩
  | l =>
    cases n with
    | lst h1 h2 => exact ⟨_, _, rfl, .inl (.inl (e _ _ h1)), h2, fun H' e' => .inl (.inl (e' _ _ h1))⟩
theorem sq_one {H : Hp} {a : Addr} {xs ys : List V} {J : Prop} (f : (∀ ys : List V, SqK K k H a ys → J)) (h : SqK K k H a xs) : J := f xs h
theorem walk_K {a : Addr} {xs : List V} {ds : List D} (h : ∀ H', Ex G H' → SqK K k H' a xs) (n : DnL G xs ds) : WalkD (ItK K k a) G ds where
  go := fun i H hi e => by
    have lt : i < xs.length := by rw [n.length]; exact hi
    exact ⟨xs, xs[i], h H e, List.getElem?_eq_getElem lt⟩
  stop := fun H e => ⟨xs, h H e, n.length.symm⟩
  yld := fun i H x H' hi e ⟨e1, e2⟩ => by
    subst e1
    obtain ⟨d, h1, h2⟩ := n.att (e2 xs (h H' e))
    exact ⟨G, d, Gr.refl e, h1, h2⟩
theorem walk_Z {a b : Addr} {xs ys : List V} {ds es : List D} (h : ∀ H', Ex G H' → SqK K k1 H' a xs) (n : DnL G xs ds) (h2 : ∀ H', Ex G H' → SqK K k2 H' b ys) (n2 : DnL G ys es) : WalkD (ItZ K k1 k2 a b) G (zipD ds es) where
  go := fun i H hi e => by
    rw [zipD_len, ← n.length, ← n2.length] at hi
    have l1 : i < xs.length := by omega
    have l2 : i < ys.length := by omega
    exact ⟨xs, ys, xs[i], ys[i], h H e, h2 H e, List.getElem?_eq_getElem l1, List.getElem?_eq_getElem l2⟩
  stop := fun H e => ⟨xs, ys, h H e, h2 H e, by rw [zipD_len, ← n.length, ← n2.length]⟩
  yld := fun i H v H' hi e ⟨T, x, y, e1, hT, e2, q1, q2⟩ => by
    subst e1 e2
    obtain ⟨d1, e1, m1⟩ := n.att (q1 xs (h H e))
    obtain ⟨d2, e2, m2⟩ := n2.att (q2 ys (h2 H e))
    have fr := Ex.new (o := HO.tup [x, y]) (Evl.fresh_back e hT)
    exact ⟨upd G T (.tup [x, y]), _, Gr.new e hT, zipD_at e1 e2, .tup upd_same (.cons (Dn.mono fr _ m1) (.cons (Dn.mono fr _ m2) .nil))⟩
theorem walk_E {J : It} {ds : List D} (w : WalkD J G ds) : WalkD (ItE J) G (enumD ds) where
  go := fun i H hi e => w.go i H (by rw [enumD_len] at hi; exact hi) e
  stop := fun H e => by
    rw [enumD_len]
    exact w.stop H e
  yld := fun i H v H' hi e ⟨T, x, H1, y, e1, hT, e2⟩ => by
    subst e1 e2
    rw [enumD_len] at hi
    obtain ⟨G2, d, g, h1, h2⟩ := w.yld i H x H1 hi e y
    have fr := Ex.new (o := HO.tup [.int (i : Nat), x]) (Evl.fresh_back g.s hT)
    exact ⟨upd G2 T (.tup [.int (i : Nat), x]), _, g.trans (Gr.new g.s hT), enumD_at h1, .tup upd_same (.cons (.int _) (.cons (Dn.mono fr _ h2) .nil))⟩
theorem ei_enK {ds : List D} (h : EvA ar σ G [seqD k ds]) : EvI (iEnK K k ar) σ G (enumD ds) := fun H e R r => h H e _ fun vs G2 H2 g n => by
  obtain ⟨v, rfl, n1⟩ := one_of n
  obtain ⟨a, xs, rfl, q, m, st⟩ := sq_of n1 g.s
  exact ⟨a, xs, rfl, q, r _ G2 H2 g (walk_E (walk_K st m))⟩
theorem ei_zK {ds es : List D} (h : EvA ar σ G [seqD k1 ds, seqD k2 es]) : EvI (iZK K k1 k2 ar) σ G (zipD ds es) := fun H e R r => h H e _ fun vs G2 H2 g n => by
  obtain ⟨v, w, rfl, n1, n2⟩ := two_of n
  obtain ⟨a, xs, rfl, q, m, st⟩ := sq_of n1 g.s
  obtain ⟨b, ys, rfl, q2, m2, st2⟩ := sq_of n2 g.s
  exact ⟨a, b, xs, ys, rfl, q, q2, r _ G2 H2 g (walk_Z st m st2 m2)⟩
theorem ei_enZ {ds es : List D} (h : EvA ar σ G [seqD k1 ds, seqD k2 es]) : EvI (iEnZ K k1 k2 ar) σ G (enumD (zipD ds es)) := fun H e R r => h H e _ fun vs G2 H2 g n => by
  obtain ⟨v, w, rfl, n1, n2⟩ := two_of n
  obtain ⟨a, xs, rfl, q, m, st⟩ := sq_of n1 g.s
  obtain ⟨b, ys, rfl, q2, m2, st2⟩ := sq_of n2 g.s
  exact ⟨a, b, xs, ys, rfl, q, q2, r _ G2 H2 g (walk_E (walk_Z st m st2 m2))⟩
end
end Sh

set_option Elab.async false
set_option linter.all false
set_option maxRecDepth 100000
set_option maxHeartbeats 4000000
/-! sorted lists of pairs of ints; an item of a list, written in place -/
namespace Sh
open PySem PySem.Spec PyProof.Rows L2
open Evl (Ex)
/-- sorted(xs), xs of pairs of ints, whatever holds them -/
def rSortedR (K : PySem.W.Frag) : List V → Hp → VK → Prop := fun vs H Q => ∃ (a : Addr) (xs : List V) (k : V → Int × Int), vs = [V.ref a] ∧ SqL K H a xs ∧ (∀ x ∈ xs, ∃ t, x = V.ref t ∧ SqT K H t [.int (k x).1, .int (k x).2]) ∧
  ∀ ys p, SrtO.Srtd (ltP k) ys → SrtO.Stb (ltP k) ys xs → H p = none → Q (.ref p) (upd H p (.lst ys))
theorem cr_sortedR {X : Cx} : CallR X (.builtin "sorted") (rSortedR X.K) := by
  intro pins s σ H vs us Q I r h
  obtain ⟨a, xs, k, rfl, hs, hx, q⟩ := h
  obtain ⟨its, rv, hl, hz⟩ := I.list hs
  obtain ⟨u, rfl, ru⟩ := vals1 r
  obtain rfl : u = Value.ref a := ru
  obtain ⟨e1, e2⟩ := refs_back rv fun x m => (hx x m).imp fun _ z => z.1
  have mem : ∀ {t : Addr}, Value.ref t ∈ its → V.ref t ∈ xs := fun hv => by rw [e1]; exact List.mem_map.mpr ⟨_, hv, rfl⟩
  refine SrtO.sorted_pairsO (k := fun u => k (backV u)) hl.isList (by rw [← rv.length]; exact hz) (fun v hv => ?_) fun h' d out h1 h2 kp hd hn => ?_
  · obtain ⟨t, rfl⟩ := e2 v hv
    obtain ⟨t', et, ht⟩ := hx _ (mem hv)
    cases et
    obtain ⟨us, r2, ⟨o, ho, hc, n, hd⟩, _⟩ := I.tuple ht
    obtain ⟨u1, u2, rfl, ⟨t1, rfl⟩, ⟨t2, rfl⟩⟩ := vals2 r2
    exact ⟨t, o, t1, t2, n, rfl, ho, hc, hd⟩
  · have h3 : ∀ u ∈ out, ∃ a, u = Value.ref a := fun u hu => e2 u (h2.perm.mem_iff.mp hu)
    obtain ⟨n, hn⟩ := hn
    have hb : SrtO.Stb (ltP k) (out.map backV) xs := e1 ▸ SrtO.Stb.map (ltP_swo k) backV h2
    exact ⟨.ref d, upd H d (.lst (out.map backV)), I.laid (t' := s.toks) kp hd ⟨by rw [hb.len]; exact hz, out, n, vals_back h3, hn⟩, rfl, q _ d (SrtO.srtd_map h1) hb (I.hok.fresh hd)⟩
/-- xs[i], read ahead of xs[i] += .. -/
theorem pget_list {X : Cx} : PGet X (rIxL X.K) := by
  intro pins s σ H o i ov iv Q I ro ri h
  obtain ⟨p, xs, k, z, rfl, rfl, hq, he, q⟩ := h
  cases ro
  obtain ⟨t, rfl⟩ := ri
  obtain ⟨its, r, pl, _⟩ := I.list hq
  obtain ⟨j, b1, b2, b3, b4, b5⟩ := atI_get he
  obtain ⟨w, ew, rw'⟩ := r.get b2
  have len := r.length
  have big := line63
  have fin : EP X pins σ Q w s := ⟨z, H, I, rw', q⟩
  by_cases low : 0 ≤ k
  · have at1 : k.toNat = j := by
      rw [seqIndex_of low b5] at b1
      exact Option.some.inj b1
    exact wpAny_getItem_list pl.isList low (by omega) (by rw [at1]; simpa using ew) fin
  · have at1 : (k + (its.toArray.size : Int)).toNat = j := by
      rw [seqIndex_neg (by omega) b4] at b1
      rw [List.size_toArray, ← len]
      exact Option.some.inj b1
    exact wpAny_getItem_list_neg pl.isList (by omega) (by rw [List.size_toArray] <;> omega) (by omega) (by rw [at1]; simpa using ew) fin
end Sh
namespace ShW
open PySem PySem.Spec PyProof.Rows L2
theorem preSum_at (ns : List Int) : ∀ n, n ≤ ns.length → preSum (fun i => ns.getD i 0) n = (ns.take n).sum
  | 0, _ => rfl
  | n + 1, h => by
    have at1 : ns[n]? = some ns[n] := List.getElem?_eq_getElem h
    show preSum (fun i => ns.getD i 0) n + ns.getD n 0 = _
    rw [preSum_at ns n (by omega), List.take_succ, at1, List.getD_eq_getElem?_getD, at1, List.sum_append]
    simp
theorem ints_at {ns : List Int} {us : List Value} (r : Vals (ns.map V.int) us) {i : Nat} {v : Value} (h : us[i]? = some v) : ∃ t, v = .int (ns.getD i 0) t := by
  induction ns generalizing us i with
  | nil =>
    cases r
    simp at h
  | cons n ns ih =>
    cases r with
    | cons r1 r2 =>
      cases i with
      | zero =>
        obtain ⟨t, e⟩ := r1
        have e' : v = _ := (by simpa using h.symm)
        exact ⟨t, by rw [e', e] <;> rfl⟩
      | succ i => exact ih r2 (by simpa using h)
/-- sum(x), x a list or a tuple of ints -/
def rSumK (K : PySem.W.Frag) (k : Kd) : List V → Hp → VK → Prop := fun vs H Q => ∃ (a : Addr) (ns : List Int), vs = [V.ref a] ∧ SqK K k H a (ns.map V.int) ∧ Q (.int ns.sum) H
theorem walksK {prog : Program} {w : World} {A : Around} {k : Kd} {it a : Addr} {xs : Array Value} (hh : A.handled = none) (hne : a ≠ it) : Walks prog w A it [it, a] [it] xs.size (fun i v => xs[i]? = some v) (fun i h => IterK h k it a i ∧ SeqK h k a xs) := by
  cases k with
  | t => exact Walks.tuple hh it a hne xs
  | l => exact Walks.list hh it a hne xs
theorem cr_sumK {X : Cx} {k : Kd} (hc : X.calm = true) : CallR X (.builtin "sum") (rSumK X.K k) := by
  intro pins s σ H vs us Q I r h
  obtain ⟨a, ns, rfl, hs, q⟩ := h
  obtain ⟨its, rv, p⟩ := SqK.at I hs
  rw [Vals.ref1 r]
  have lt := p.lt
  have len : its.length = ns.length := by rw [← rv.length, List.length_map]
  refine call_sum_walkG (iterK p ⟨s.heap.objs.size, [s.heap.objs.size, a], [s.heap.objs.size], its.toArray.size, _, _, fun i => ns.getD i 0, rfl, walksK (I.ok.hd hc) (Nat.ne_of_lt lt), ⟨⟨_, Heap.get?_push_size _ rfl, rfl, rfl⟩, p.push⟩, fun b hb => ?_, fun i v hv => ints_at rv (by simpa using hv), fun h' tk t' kp => ?_⟩)
  · show b < (s.heap.push _).objs.size
    rw [Heap.size_push]
    rcases List.mem_cons.mp hb with rfl | hb
    · exact Nat.lt_succ_self _
    · rw [List.mem_singleton.mp hb]
      exact Nat.lt_succ_of_lt lt
  · have kp' : ∀ b u, s.heap.get? b = some u → h'.get? b = some u := fun b u e => kp b u (fun m => Nat.ne_of_lt (Heap.lt_size e) (List.mem_singleton.mp m)) (Heap.get?_push_of_some _ e)
    have e : preSum (fun i => ns.getD i 0) its.toArray.size = ns.sum := by rw [List.size_toArray, len, preSum_at ns _ (Nat.le_refl _), List.take_length]
    rw [e]
    exact ⟨.int _, H, I.kept (t' := tk) kp', ⟨_, rfl⟩, q⟩
end ShW
namespace Sh
open PySem PySem.Spec L2
open Evl (Ex)
open ShW (Kd SqK rSumK)
section
variable {K : PySem.W.Frag} {σ : L2.St} {G : Hp} {te : TE} {ar : TA}
theorem r_sumK {k : Kd} {ns : List Int} {z : Int} (hz : ns.sum = z) : RCD (rSumK K k) [seqD k (intL ns)] (.int z) G := fun G1 H vs _ ex h Q q => by
  obtain ⟨v, rfl, n⟩ := one_of h
  obtain ⟨a, xs, rfl, sq, m, _⟩ := sq_of n ex
  have e1 := dn_ints m
  subst e1
  refine ⟨a, ns, rfl, sq, ?_⟩
  rw [hz]
  exact q _ G1 H (Gr.refl ex) (.int _)
/-- xs[:n], a new list -/
theorem evo_cut {ds : List D} {n : Nat} {tb : TE} (h : EvD te σ G (.list ds)) (k : EvD tb σ G (.int (n : Nat))) : EvO (tSl (rSlL K) te tNoPart (tPart tb)) σ G (ds.take n) := fun H e Q q =>
  h H e _ fun v G2 H2 g m => k.mono g.g H2 g.s _ fun u G3 H3 g2 m2 => by
    cases m2
    have m3 := Dn.mono g2.g _ m
    cases m3 with
    | lst h1 h2 =>
      rename_i a xs
      refine ⟨_, rfl, a, xs, rfl, .inl (.inl (g2.s _ _ h1)), fun p hp => ?_⟩
      have gg := g.trans g2
      have e1 : cutV xs none (some (n : Nat)) = xs.take n := by
        unfold cutV
        rw [HT.sIx_none, HT.sIx_nat, List.drop_zero, Nat.sub_zero]
        by_cases hn : n ≤ xs.length
        · rw [Nat.min_eq_left hn]
        · rw [Nat.min_eq_right (by omega), List.take_length, List.take_of_length_le (by omega)]
      rw [e1]
      refine q p _ G3 _ ⟨gg.g, gg.s.trans (Ex.new hp), gg.h.trans (Ex.new hp), gg.f⟩ (gg.old hp) (Evl.fresh_back gg.s hp) upd_same ?_
      have : ∀ {vs : List V} {es : List D} (j : Nat), DnL G3 vs es → DnL G3 (vs.take j) (es.take j) := fun {vs es} j => by
        induction es generalizing vs j with
        | nil => intro z; cases z; simp; exact .nil
        | cons d es ih =>
          intro z
          cases z with
          | cons z1 z2 =>
            cases j with
            | zero => exact .nil
            | succ j => exact .cons z1 (ih j z2)
      exact this n h2
end
/-! what stands still without p: data of tuples and scalars does not lean on a list or a dict at p -/
mutual
def tupD : D → Bool
  | .dict _ => false
  | .list _ => false
  | .tuple ds => tupDs ds
  | _ => true
def tupDs : List D → Bool
  | [] => true
  | d :: ds => tupD d && tupDs ds
end
section
variable {G : Hp} {p : Addr}
mutual
theorem Dn.unp (np : ∀ ys, ¬ Rd G p (.tup ys)) : ∀ (d : D) {v : V}, tupD d = true → Dn G v d → Dn (del G p) v d
  | .none, _, _, h => by cases h; exact .non
  | .bool b, _, _, h => by cases h; exact .bl b
  | .int i, _, _, h => by cases h; exact .int i
  | .str x, _, _, h => by cases h; exact .str x
  | .list ds, _, f, h => by
    unfold tupD at f
    cases f
  | .dict ps, _, f, h => by
    unfold tupD at f
    cases f
  | .tuple ds, _, f, h => by
    cases h with
    | @tup a _ _ h1 h2 =>
      have ha : a ≠ p := fun z => np _ (by rw [← z]; exact .inl h1)
      exact .tup (by rw [del_ne ha]; exact h1) (DnL.unp np ds (by unfold tupD at f; exact f) h2)
theorem DnL.unp (np : ∀ ys, ¬ Rd G p (.tup ys)) : ∀ (ds : List D) {vs : List V}, tupDs ds = true → DnL G vs ds → DnL (del G p) vs ds
  | [], _, _, h => by cases h; exact .nil
  | d :: ds, _, f, h => by
    unfold tupDs at f
    rw [Bool.and_eq_true] at f
    cases h with
    | cons h1 h2 => exact .cons (Dn.unp np d f.1 h1) (DnL.unp np ds f.2 h2)
end
theorem no_tup {o : HO} (h : G p = some o) (ht : ∀ ys, o ≠ .tup ys) (hf : ∀ u ys, o ≠ .frz u (.tup ys)) : ∀ ys, ¬ Rd G p (.tup ys) := fun ys z => by
  rcases z with z | ⟨u, z⟩
  · rw [h] at z
    exact ht ys (Option.some.inj z)
  · rw [h] at z
    exact hf u ys (Option.some.inj z)
end
section
variable {K : PySem.W.Frag} {σ : L2.St} {G : Hp} {te : TE} {ar : TA} {d : D} {p : Addr} {o : HO}
/-- an expression that reads the changing object at p -/
theorem EvD.lent {H : Hp} {Q : VK} (h : EvD te σ (upd G p o) d) (e : Ex G H) (n : G p = none) (hp : H p = some o) (ht : ∀ ys, o ≠ .tup ys) (hf : ∀ u ys, o ≠ .frz u (.tup ys)) (f : tupD d = true) (q : ∀ v G2 H2, Gr G H G2 H2 → Dn G2 v d → Q v H2) : te σ H Q :=
  h H (Ex.lend e hp) Q fun v G2 H2 g m => q v (del G2 p) H2 (Gr.unlend n g) (m.unp (no_tup (g.g _ _ upd_same) ht hf) d f)
theorem EvO.lent {ds : List D} {H : Hp} {Q : VK} (h : EvO te σ (upd G p o) ds) (e : Ex G H) (n : G p = none) (hp : H p = some o) (ht : ∀ ys, o ≠ .tup ys) (hf : ∀ u ys, o ≠ .frz u (.tup ys)) (f : tupDs ds = true) (q : ∀ l xs G2 H2, Gr G H G2 H2 → H l = none → G2 l = none → H2 l = some (.lst xs) → DnL G2 xs ds → Q (.ref l) H2) : te σ H Q :=
  h H (Ex.lend e hp) Q fun l xs G2 H2 g hl nl h2 m => q l xs (del G2 p) H2 (Gr.unlend n g) hl (by
    by_cases z : l = p
    · rw [z]
      exact del_same
    · rw [del_ne z]
      exact nl) h2 (DnL.unp (no_tup (g.g _ _ upd_same) ht hf) ds f m)
theorem EvT.lent {tt : TT} {b : Bool} {H : Hp} {Q : Bool → Hp → Prop} (h : EvT tt σ (upd G p o) b) (e : Ex G H) (n : G p = none) (hp : H p = some o) (q : ∀ G2 H2, Gr G H G2 H2 → Q b H2) : tt σ H Q :=
  h H (Ex.lend e hp) Q fun G2 H2 g => q (del G2 p) H2 (Gr.unlend n g)
def pairZ (q : Int × Int) : D := .tuple [.int q.1, .int q.2]
theorem pair_dn {G : Hp} {v : V} {q : Int × Int} (h : Dn G v (pairZ q)) : ∃ t, v = .ref t ∧ Rd G t (.tup [.int q.1, .int q.2]) := by
  cases h with
  | tup h1 h2 =>
    obtain ⟨u, w, rfl, n1, n2⟩ := two_of h2
    cases n1
    cases n2
    exact ⟨_, rfl, .inl h1⟩
theorem pair_one {G : Hp} {v : V} {q r : Int × Int} (h : Dn G v (pairZ q)) (k : Dn G v (pairZ r)) : q = r := by
  obtain ⟨t, rfl, h1⟩ := pair_dn h
  obtain ⟨t', e, h2⟩ := pair_dn k
  cases e
  have e2 : (HO.tup [V.int q.1, V.int q.2]) = .tup [.int r.1, .int r.2] := by
    rcases h1 with h1 | ⟨o, h1⟩ <;> rcases h2 with h2 | ⟨o', h2⟩
    · rw [h1] at h2
      exact Option.some.inj h2
    · rw [h1] at h2
      exact nomatch Option.some.inj h2
    · rw [h1] at h2
      exact nomatch Option.some.inj h2
    · rw [h1] at h2
      injection h2 with h2
      injection h2
  injection e2 with e2
  injection e2 with e3 e4
  injection e4 with e4
  injection e3 with e3
  injection e4 with e4
  exact Prod.ext e3 e4
theorem pairs_back {G : Hp} (k : V → Int × Int) : ∀ {ys : List V}, (∀ y ∈ ys, Dn G y (pairZ (k y))) → DnL G ys ((ys.map k).map pairZ)
  | [], _ => .nil
  | y :: ys, h => .cons (h y List.mem_cons_self) (pairs_back k fun z hz => h z (List.mem_cons_of_mem _ hz))
theorem pairs_map {G : Hp} (k : V → Int × Int) : ∀ {xs : List V} {ps : List (Int × Int)}, (∀ x q, Dn G x (pairZ q) → k x = q) → DnL G xs (ps.map pairZ) → xs.map k = ps
  | _, [], _, h => by cases h; rfl
  | _, q :: ps, hk, h => by
    cases h with
    | cons h1 h2 => rw [List.map_cons, hk _ _ h1, pairs_map k hk h2]
def lexLe (p q : Int × Int) : Prop := p.1 < q.1 ∨ (p.1 = q.1 ∧ p.2 ≤ q.2)
/-- sorted(xs), xs of pairs of ints -/
theorem ev_sorted {ps : List (Int × Int)} (h : EvA ar σ G [.list (ps.map pairZ)]) {H : Hp} {Q : VK} (e : Ex G H) (q : ∀ (qs : List (Int × Int)) l xs G2 H2, qs.Perm ps → qs.Pairwise lexLe → Gr G H G2 H2 → H l = none → G2 l = none → H2 l = some (.lst xs) → DnL G2 xs (qs.map pairZ) → Q (.ref l) H2) : tCB (rSortedR K) ar σ H Q := h H e _ fun vs G2 H2 g n => by
  obtain ⟨v, rfl, n1⟩ := one_of n
  cases n1 with
  | lst h1 h2 =>
    rename_i a xs
    classical
    let k : V → Int × Int := fun x => if z : ∃ q, Dn G2 x (pairZ q) then Classical.choose z else (0, 0)
    have kq : ∀ x q, Dn G2 x (pairZ q) → k x = q := fun x q m => by
      have z : ∃ q, Dn G2 x (pairZ q) := ⟨q, m⟩
      have e1 : k x = Classical.choose z := dif_pos z
      rw [e1]
      exact pair_one (Classical.choose_spec z) m
    have each : ∀ {us : List V} {rs : List (Int × Int)}, DnL G2 us (rs.map pairZ) → ∀ x ∈ us, Dn G2 x (pairZ (k x)) := fun {us rs} => by
      induction rs generalizing us with
      | nil =>
        intro z
        cases z
        exact fun x hx => by cases hx
      | cons r rs ih =>
        intro z
        cases z with
        | cons z1 z2 =>
          intro x hx
          rcases List.mem_cons.mp hx with rfl | hx
          · rw [kq _ _ z1]
            exact z1
          · exact ih z2 x hx
    have fine := each h2
    refine ⟨a, xs, k, rfl, .inl (.inl (g.s _ _ h1)), fun x hx => ?_, fun ys l hs hb hl => ?_⟩
    · obtain ⟨t, e1, e2⟩ := pair_dn (fine x hx)
      exact ⟨t, e1, .inl (rdR g.s e2)⟩
    · refine q (ys.map k) l ys G2 _ ?_ ?_ ⟨g.g, g.s.trans (Ex.new hl), g.h.trans (Ex.new hl), g.f⟩ (g.old hl) (Evl.fresh_back g.s hl) upd_same (pairs_back k fun y hy => fine y (hb.perm.mem_iff.mp hy))
      · have z := hb.perm.map k
        rw [pairs_map k kq h2] at z
        exact z
      · refine List.pairwise_map.mpr (hs.imp fun {x y} z => ?_)
        have z := SrtO.lexB_no.mp z
        show (k x).1 < (k y).1 ∨ _
        omega
end
end Sh

set_option Elab.async false
set_option linter.all false
set_option maxRecDepth 100000
set_option maxHeartbeats 4000000
/-! sums: the checks, taxed, net_of -/
namespace Sh
open PySem PySem.Spec L2
open PyProof.Rows hiding St
open Evl (Ex)
open ShW (rSumK)
abbrev MOST : Int := 1000000000000
def Most (mg : Str → Option Value) : Prop := ∃ t, mg "MOST" = some (.int 1000000000000 t)
def amtB (d : D) : Bool := betweenD d 0 MOST
def rateB (d : D) : Bool := betweenD d 0 999
def intOf : D → Int
  | .int i => i
  | _ => 0
def wOk : D → Bool
  | .tuple es => rowD (.tuple es) 1 40 && (es.all amtB && !decide ((es.map intOf).sum = 0))
  | _ => false
theorem amt_int {d : D} (h : amtB d = true) : ∃ i, d = .int i ∧ 0 ≤ i ∧ i ≤ MOST := by
  cases d with
  | int i =>
    have z : (decide (0 ≤ i) && decide (i ≤ MOST)) = true := h
    rw [Bool.and_eq_true, decide_eq_true_eq, decide_eq_true_eq] at z
    exact ⟨i, rfl, z⟩
  | _ => cases h
theorem rate_int {d : D} (h : rateB d = true) : ∃ i, d = .int i ∧ 0 ≤ i ∧ i ≤ 999 := by
  cases d with
  | int i =>
    have z : (decide (0 ≤ i) && decide (i ≤ 999)) = true := h
    rw [Bool.and_eq_true, decide_eq_true_eq, decide_eq_true_eq] at z
    exact ⟨i, rfl, z⟩
  | _ => cases h
theorem all_ints : ∀ {es : List D}, es.all amtB = true → es = intL (es.map intOf)
  | [], _ => rfl
  | d :: es, h => by
    rw [List.all_cons, Bool.and_eq_true] at h
    obtain ⟨i, rfl, _⟩ := amt_int h.1
    show PyData.int i :: es = .int i :: intL (es.map intOf)
    rw [← all_ints h.2]
def unit1 (b : Bool) : Option D := if b then some .none else none
def dom1 (f : D → Bool) (ds : List D) (o : Option D) : Prop := ∃ d, ds = [d] ∧ (∀ es, d = .tuple es → es.length ≤ 1000) ∧ o = unit1 (f d)
section
variable {P : Program} {w : World} {K : PySem.W.Frag} {mg : Str → Option Value} {base : Heap} {C : Addr}
abbrev s_check_amount : Stmt := topS 27
theorem sc_check_amount : FnScope ["amount"] ["amount"] (defScope s_check_amount) := ⟨rfl, rfl, rfl, by decide +kernel, rfl, by decide +kernel, by decide +kernel⟩
theorem keeps_amount (er : ErrC K mg "BadNumber" C) (M : Most mg) (S : Stands K mg "check_amount" s_check_amount ["amount"]) (K_is_between : Keeps P w K mg base CX0 1 "is_between" ["value", "low", "high"] (spD domBetween)) :
    Keeps P w K mg base (L2N.CX P w) 2 "check_amount" ["amount"] (spR C (dom1 amtB)) := by
  obtain ⟨tM, cM⟩ := M
  refine keeps_ofR S sc_check_amount (fun ds c h => ?_) (fun f cdv A outer s H E hr => ⟨_, (pss_one (ps_if (pt_not (pt_val (pe_callD K_is_between (hr.mono (by omega)) (pa_cons (pv 0) (pa_cons pe_int (pa_cons (pe_glob (v := .int 1000000000000) rfl cM ⟨tM, rfl⟩) pa_nil)))))) (pss_one (ps_raiseC er rfl (L2N.takes_of rfl rfl rfl rfl) rfl)) pss_nil)), fun ds c vs G h n => ?_⟩)
  · obtain ⟨d, rfl, _⟩ := h
    rfl
  · obtain ⟨d, rfl, _, rfl⟩ := h
    obtain ⟨v, rfl, n0⟩ := one_of n
    have t1 := evt_not (evt_B (evd_call (E := E0) (ea_cons (evd_at (σ := start ["amount"] [v]) (i := 0) n0) (ea_cons (evd_int (i := 0)) (ea_cons (evd_int (i := MOST)) ea_nil))) (show domBetween [d, .int 0, .int MOST] (.bool (amtB d)) from ⟨d, 0, MOST, rfl, rfl⟩)))
    cases hb : amtB d with
    | true =>
      rw [hb] at t1
      exact evx_if (b := false) t1 (fun z => nomatch z) (fun _ => evx_ret (evd_c .non))
    | false =>
      rw [hb] at t1
      exact evx_if (b := true) t1 (fun _ => evx_raise) (fun z => nomatch z)
abbrev s_check_rate : Stmt := topS 29
theorem sc_check_rate : FnScope ["rate"] ["rate"] (defScope s_check_rate) := ⟨rfl, rfl, rfl, by decide +kernel, rfl, by decide +kernel, by decide +kernel⟩
theorem keeps_rate (er : ErrC K mg "BadNumber" C) (S : Stands K mg "check_rate" s_check_rate ["rate"]) (K_is_between : Keeps P w K mg base CX0 1 "is_between" ["value", "low", "high"] (spD domBetween)) :
    Keeps P w K mg base (L2N.CX P w) 2 "check_rate" ["rate"] (spR C (dom1 rateB)) := by
  refine keeps_ofR S sc_check_rate (fun ds c h => ?_) (fun f cdv A outer s H E hr => ⟨_, (pss_one (ps_if (pt_not (pt_val (pe_callD K_is_between (hr.mono (by omega)) (pa_cons (pv 0) (pa_cons pe_int (pa_cons pe_int pa_nil)))))) (pss_one (ps_raiseC er rfl (L2N.takes_of rfl rfl rfl rfl) rfl)) pss_nil)), fun ds c vs G h n => ?_⟩)
  · obtain ⟨d, rfl, _⟩ := h
    rfl
  · obtain ⟨d, rfl, _, rfl⟩ := h
    obtain ⟨v, rfl, n0⟩ := one_of n
    have t1 := evt_not (evt_B (evd_call (E := E0) (ea_cons (evd_at (σ := start ["rate"] [v]) (i := 0) n0) (ea_cons (evd_int (i := 0)) (ea_cons (evd_int (i := 999)) ea_nil))) (show domBetween [d, .int 0, .int 999] (.bool (rateB d)) from ⟨d, 0, 999, rfl, rfl⟩)))
    cases hb : rateB d with
    | true =>
      rw [hb] at t1
      exact evx_if (b := false) t1 (fun z => nomatch z) (fun _ => evx_ret (evd_c .non))
    | false =>
      rw [hb] at t1
      exact evx_if (b := true) t1 (fun _ => evx_raise) (fun z => nomatch z)
abbrev s_check_weights : Stmt := topS 28
theorem sc_check_weights : FnScope ["weights", "weight"] ["weights"] (defScope s_check_weights) := ⟨rfl, rfl, rfl, by decide +kernel, rfl, by decide +kernel, by decide +kernel⟩
theorem keeps_weights (B : Bi mg) (er : ErrC K mg "BadNumber" C) (M : Most mg) (S : Stands K mg "check_weights" s_check_weights ["weights"]) (K_is_between : Keeps P w K mg base CX0 1 "is_between" ["value", "low", "high"] (spD domBetween)) (K_is_row : Keeps P w K mg base CX0 1 "is_row" ["value", "least", "most"] (spD domRow)) :
    Keeps P w K mg base (L2N.CX P w) 2 "check_weights" ["weights"] (spR C (dom1 wOk)) := by
  obtain ⟨tM, cM⟩ := M
  refine keeps_ofR S sc_check_weights (fun ds c h => ?_) (fun f cdv A outer s H E hr => ⟨_, (pss_one (ps_if (PW.pt (pw_or (pt_not (pt_val (pe_callD K_is_row (hr.mono (by omega)) (pa_cons (pv 0) (pa_cons pe_int (pa_cons pe_int pa_nil)))))) (pw_or (pt_not (pt_val (pe_callB (cr_all rfl) rfl B.all bi_all (pa_cons (pe_lc (own := [("weight", 1)]) (g := gName 1) (tt := tYes) rfl sc_check_weights.nd (pi_tup (pv 0)) (blkOk_by (N := ["weights", "weight"]) (sc := defScope s_check_weights) (by decide +kernel)) (fun _ _ _ _ _ => (pg_name (i := 1) sc_check_weights.nd rfl (.inl rfl))) (fun _ _ _ _ _ => pts_nil) (fun _ _ _ _ _ => (pe_callD K_is_between (hr.mono (by omega)) (pa_cons (pv 1) (pa_cons pe_int (pa_cons (pe_glob (v := .int 1000000000000) rfl cM ⟨tM, rfl⟩) pa_nil)))))) pa_nil)))) (pw_or1 (pt_cmpR op_eq (pe_callB (ShW.cr_sumK (k := .t) rfl) rfl B.sum bi_sum (pa_cons (pv 0) pa_nil)) pe_int (nomark _)))))) (pss_one (ps_raiseC er rfl (L2N.takes_of rfl rfl rfl rfl) rfl)) pss_nil)), fun ds c vs G h n => ?_⟩)
  · obtain ⟨d, rfl, _⟩ := h
    rfl
  · obtain ⟨d, rfl, few, rfl⟩ := h
    obtain ⟨v, rfl, n0⟩ := one_of n
    refine evx_if (b := !wOk d) (evt_is (evt_or (a := !rowD d 1 40) (evt_not (evt_B (evd_call (E := E0) (ea_cons (evd_at n0) (ea_cons (evd_int (i := 1)) (ea_cons (evd_int (i := 40)) ea_nil))) ⟨d, 1, 40, rfl, rfl⟩))) (b := !wOk d) (fun hrow => ?_)) ?_) (fun hb => ?_) (fun hb => ?_)
    · rw [Bool.not_eq_false'] at hrow
      cases d with
      | tuple es =>
        have few := few es rfl
        have hw : wOk (.tuple es) = (es.all amtB && !decide ((es.map intOf).sum = 0)) := by
          show (rowD (.tuple es) 1 40 && _) = _
          rw [hrow, Bool.true_and]
        rw [hw, Bool.not_and, Bool.not_not]
        refine evt_or (evt_not (evt_B (evd_cb (ea_cons (evd_is (d' := .list (boolL (es.map amtB))) (evd_lcN (r := fun d => .bool (amtB d)) (ei_tup (evd_at n0)) (by omega) (fun x => rfl) (fun d hd y G1 e1 ny => ?_)) ?_) ea_nil) (r_all (b := es.all amtB) ?_)))) (fun hall => ?_)
        · exact evd_call (ea_cons (evd_at ny) (ea_cons (evd_int (i := 0)) (ea_cons (evd_int (i := MOST)) ea_nil))) ⟨d, 0, MOST, rfl, rfl⟩
        · unfold boolL
          rw [List.map_map]
          rfl
        · rw [List.all_map]
          rfl
        · rw [Bool.not_eq_false'] at hall
          have ei := all_ints hall
          have n0' : Dn G v (.tuple (intL (es.map intOf))) := by
            rw [← ei]
            exact n0
          exact evt_test (evd_op (evd_cb (ea_cons (evd_at n0') ea_nil) (r_sumK (k := .t) (ns := es.map intOf) rfl)) evd_int (r_eq rfl))
      | _ => cases hrow
    · cases d with
      | tuple es =>
        show (!rowD (.tuple es) 1 40 || !(rowD (.tuple es) 1 40 && _)) = !(rowD (.tuple es) 1 40 && _)
        cases rowD (.tuple es) 1 40 <;> rfl
      | _ => rfl
    · rw [Bool.not_eq_true'] at hb
      rw [hb]
      exact evx_raise
    · rw [Bool.not_eq_false'] at hb
      rw [hb]
      exact evx_ret (evd_c .non)
def taxZ (n r : Int) : Int := (n * r + 500) / 1000
def taxF : D → D → Option D
  | .int n, .int r => if amtB (.int n) then (if rateB (.int r) then some (.int (taxZ n r)) else none) else none
  | _, _ => none
def netZ (g r : Int) : Int := (1000 * g + 499) / (1000 + r)
def netF : D → D → Option D
  | .int n, .int r => if amtB (.int n) then (if rateB (.int r) then some (.int (netZ n r)) else none) else none
  | _, _ => none
def noT (d : D) : Prop := ∀ es, d = .tuple es → es.length ≤ 1000
def dom2 (f : D → D → Option D) (ds : List D) (o : Option D) : Prop := ∃ d e, ds = [d, e] ∧ noT d ∧ noT e ∧ o = f d e
abbrev s_taxed : Stmt := topS 31
theorem sc_taxed : FnScope ["net", "rate"] ["net", "rate"] (defScope s_taxed) := ⟨rfl, rfl, rfl, by decide +kernel, rfl, by decide +kernel, by decide +kernel⟩
theorem keeps_taxed (S : Stands K mg "taxed" s_taxed ["net", "rate"]) (K_check_amount : Keeps P w K mg base (L2N.CX P w) 2 "check_amount" ["amount"] (spR C (dom1 amtB))) (K_check_rate : Keeps P w K mg base (L2N.CX P w) 2 "check_rate" ["rate"] (spR C (dom1 rateB))) :
    Keeps P w K mg base (L2N.CX P w) 3 "taxed" ["net", "rate"] (spR C (dom2 taxF)) := by
  refine keeps_ofR2 S sc_taxed (fun ds c h => ?_) (fun f cdv A outer s H E hr => ⟨_, (pss_cons (ps_expr (pe_callR K_check_amount (hr.mono (by decide)) (L2N.takes_of rfl rfl rfl rfl) (pa_cons (pv 0) pa_nil)))
    (pss_cons (ps_expr (pe_callR K_check_rate (hr.mono (by decide)) (L2N.takes_of rfl rfl rfl rfl) (pa_cons (pv 1) pa_nil)))
    (pss_one (ps_ret (pe_op op_fdivN (pe_op op_add (pe_op op_mul (pv 0) (pv 1)) pe_int) pe_int))))), fun ds c vs G h n => ?_⟩)
  · obtain ⟨d, e, rfl, _⟩ := h
    rfl
  · obtain ⟨d, e, rfl, t1, t2, rfl⟩ := h
    obtain ⟨v, v1, rfl, n0, n1⟩ := two_of n
    refine evx_dropR (o1 := unit1 (amtB d)) (ea_cons (evd_at n0) ea_nil) ⟨d, rfl, t1, rfl⟩ (fun c1 e1 G1 x1 => ?_) (fun e1 => ?_)
    · have a : amtB d = true := by
        cases h : amtB d with
        | true => rfl
        | false => rw [h] at e1; cases e1
      obtain ⟨i, rfl, i0, i1⟩ := amt_int a
      refine evx_dropR (o1 := unit1 (rateB e)) (ea_cons (evd_at n1 x1) ea_nil) ⟨e, rfl, t2, rfl⟩ (fun c2 e2 G2 x2 => ?_) (fun e2 => ?_)
      · have b : rateB e = true := by
          cases h : rateB e with
          | true => rfl
          | false => rw [h] at e2; cases e2
        obtain ⟨j, rfl, j0, j1⟩ := rate_int b
        have eo : taxF (.int i) (.int j) = some (.int (taxZ i j)) := by
          show (if amtB (.int i) then (if rateB (.int j) then _ else none) else none) = _
          rw [if_pos a, if_pos b]
        rw [eo]
        have x12 := x1.trans x2
        refine evx_ret (evd_is (evd_op (evd_op (evd_op (evd_at n0 x12) (evd_at n1 x12) (r_I (.inr ⟨by omega, by omega⟩) fun _ => .int _)) evd_int (r_I0 fun _ => .int _)) evd_int (r_I ⟨by decide, by decide⟩ fun _ => .int _)) ?_)
        show PyData.int ((i * j + 500).fdiv 1000) = .int (taxZ i j)
        rw [Int.fdiv_eq_ediv_of_nonneg _ (by decide)]
        rfl
      · have b : rateB e = false := by
          cases h : rateB e with
          | false => rfl
          | true => rw [h] at e2; cases e2
        cases e with
        | int j =>
          show (if amtB (.int i) then (if rateB (.int j) then _ else none) else none) = none
          rw [if_pos a, if_neg (by rw [b]; decide)]
        | _ => rfl
    · have a : amtB d = false := by
        cases h : amtB d with
        | false => rfl
        | true => rw [h] at e1; cases e1
      cases d with
      | int i =>
        cases e with
        | int j =>
          show (if amtB (.int i) then (if rateB (.int j) then _ else none) else none) = none
          rw [if_neg (by rw [a]; decide)]
        | _ => rfl
      | _ => rfl
end
end Sh

set_option Elab.async false
set_option linter.all false
/-! the mathematics of sums: parts by rests, parts by steps -/
namespace Sh
/-! sums -/
theorem perm_sum {α : Type} {f : α → Int} {l m : List α} (h : l.Perm m) : (l.map f).sum = (m.map f).sum := by
  induction h with
  | nil => rfl
  | cons x _ ih => rw [List.map_cons, List.map_cons, List.sum_cons, List.sum_cons, ih]
  | swap x y l => rw [List.map_cons, List.map_cons, List.map_cons, List.map_cons, List.sum_cons, List.sum_cons, List.sum_cons, List.sum_cons]; omega
  | trans _ _ h1 h2 => rw [h1, h2]
theorem sum_nonneg {α : Type} {f : α → Int} : ∀ {l : List α}, (∀ x ∈ l, 0 ≤ f x) → 0 ≤ (l.map f).sum
  | [], _ => Int.le_refl _
  | x :: l, h => by
    rw [List.map_cons, List.sum_cons]
    have h1 := h x List.mem_cons_self
    have h2 := sum_nonneg (l := l) fun y hy => h y (List.mem_cons_of_mem _ hy)
    omega
theorem sum_most {α : Type} {f : α → Int} {T : Int} : ∀ {l : List α}, (∀ x ∈ l, f x ≤ T) → (l.map f).sum ≤ (l.length : Int) * T
  | [], _ => by simp
  | x :: l, h => by
    rw [List.map_cons, List.sum_cons, List.length_cons]
    have h1 := h x List.mem_cons_self
    have h2 := sum_most (l := l) fun y hy => h y (List.mem_cons_of_mem _ hy)
    have e : ((l.length + 1 : Nat) : Int) * T = (l.length : Int) * T + T := by rw [Int.natCast_add, Int.add_mul]; simp
    omega
theorem sum_zero {α : Type} {f : α → Int} : ∀ {l : List α}, (∀ x ∈ l, f x = 0) → (l.map f).sum = 0
  | [], _ => rfl
  | x :: l, h => by
    rw [List.map_cons, List.sum_cons, h x List.mem_cons_self, sum_zero (l := l) fun y hy => h y (List.mem_cons_of_mem _ hy)]
    rfl
theorem sum_lin {α : Type} (f g : α → Int) (T : Int) : ∀ l : List α, (l.map fun x => f x - g x * T).sum = (l.map f).sum - (l.map g).sum * T
  | [] => by simp
  | x :: l => by
    simp only [List.map_cons, List.sum_cons]
    rw [sum_lin f g T l, Int.add_mul]
    omega
theorem sum_mul (a : Int) : ∀ l : List Int, (l.map fun w => a * w).sum = a * l.sum
  | [] => by simp
  | x :: l => by
    simp only [List.map_cons, List.sum_cons]
    rw [sum_mul a l, Int.mul_add]
/-! sorted by rests -/
def lexB2 (p q : Int × Int) : Bool := decide (p.1 < q.1) || (decide (p.1 = q.1) && decide (p.2 ≤ q.2))
theorem lexB2_iff {p q : Int × Int} : lexB2 p q = true ↔ lexLe p q := by
  unfold lexB2 lexLe
  simp only [Bool.or_eq_true, Bool.and_eq_true, decide_eq_true_eq]
def sortZ (ps : List (Int × Int)) : List (Int × Int) := ps.mergeSort lexB2
theorem sortZ_perm (ps : List (Int × Int)) : (sortZ ps).Perm ps := List.mergeSort_perm ps lexB2
theorem sortZ_le (ps : List (Int × Int)) : (sortZ ps).Pairwise lexLe := by
  refine (List.pairwise_mergeSort (le := lexB2) (fun a b c h1 h2 => ?_) (fun a b => ?_) ps).imp fun h => lexB2_iff.mp h
  · rw [lexB2_iff] at h1 h2 ⊢
    unfold lexLe at *
    omega
  · rw [Bool.or_eq_true, lexB2_iff, lexB2_iff]
    unfold lexLe
    omega
theorem sorted_is {ps qs : List (Int × Int)} (h : qs.Perm ps) (k : qs.Pairwise lexLe) : qs = sortZ ps :=
  List.Perm.eq_of_pairwise (fun a b _ _ h1 h2 => by
    unfold lexLe at h1 h2
    exact Prod.ext (by omega) (by omega)) k (sortZ_le ps) (h.trans (sortZ_perm ps).symm)
section
variable (a : Int) (ws : List Int)
def fl (w : Int) : Int := a * w / ws.sum
def rst (w : Int) : Int := a * w - fl a ws w * ws.sum
def floors : List Int := ws.map (fl a ws)
def restsF : List (Int × Int) := ws.zipIdx.map fun p => (-(rst a ws p.1), (p.2 : Int))
def kF : Int := a - (floors a ws).sum
def pickF : List (Int × Int) := (sortZ (restsF a ws)).take (kF a ws).toNat
def bump (l : List Int) (i : Nat) : List Int := l.set i (l.getD i 0 + 1)
def sharedF : List Int := (pickF a ws).foldl (fun l q => bump l q.2.toNat) (floors a ws)
def chosen (i : Nat) : Prop := (i : Int) ∈ (pickF a ws).map (·.2)
end
theorem bump_len (l : List Int) (i : Nat) : (bump l i).length = l.length := List.length_set
theorem bump_at (l : List Int) (i j : Nat) : (bump l i)[j]? = if i = j then (l[j]?).map (· + 1) else l[j]? := by
  unfold bump
  rw [List.getElem?_set]
  by_cases h : i = j
  · subst h
    rw [if_pos rfl, if_pos rfl]
    by_cases lt : i < l.length
    · rw [if_pos lt, List.getD_eq_getElem?_getD, List.getElem?_eq_getElem lt]
      rfl
    · rw [if_neg lt, List.getElem?_eq_none (by omega)]
      rfl
  · rw [if_neg h, if_neg h]
theorem bump_sum {l : List Int} {i : Nat} (h : i < l.length) : (bump l i).sum = l.sum + 1 := by
  unfold bump
  induction l generalizing i with
  | nil => simp at h
  | cons x l ih =>
    cases i with
    | zero =>
      simp only [List.set_cons_zero, List.sum_cons, List.getD_cons_zero]
      omega
    | succ i =>
      simp only [List.set_cons_succ, List.sum_cons, List.getD_cons_succ]
      rw [ih (by simpa using h)]
      omega
theorem bumps_len (qs : List (Int × Int)) : ∀ l : List Int, (qs.foldl (fun l q => bump l q.2.toNat) l).length = l.length := by
  induction qs with
  | nil => exact fun l => rfl
  | cons q qs ih => exact fun l => by rw [List.foldl_cons, ih, bump_len]
theorem bumps_sum {n : Nat} (qs : List (Int × Int)) : ∀ l : List Int, l.length = n → (∀ q ∈ qs, q.2.toNat < n) → (qs.foldl (fun l q => bump l q.2.toNat) l).sum = l.sum + qs.length := by
  induction qs with
  | nil => exact fun l _ _ => by simp
  | cons q qs ih =>
    intro l hl h
    rw [List.foldl_cons, ih _ (by rw [bump_len, hl]) fun r hr => h r (List.mem_cons_of_mem _ hr), bump_sum (by rw [hl]; exact h q List.mem_cons_self), List.length_cons]
    omega
theorem bumps_at (qs : List (Int × Int)) (j : Nat) : ∀ l : List Int, (∀ q ∈ qs, 0 ≤ q.2) → (qs.map (·.2)).Nodup → ∀ x, l[j]? = some x →
    ((j : Int) ∈ qs.map (·.2) → (qs.foldl (fun l q => bump l q.2.toNat) l)[j]? = some (x + 1)) ∧ ((j : Int) ∉ qs.map (·.2) → (qs.foldl (fun l q => bump l q.2.toNat) l)[j]? = some x) := by
  induction qs with
  | nil => exact fun l _ _ x e => ⟨fun h => (by cases h), fun _ => e⟩
  | cons q qs ih =>
    intro l hn nd x e
    rw [List.map_cons, List.nodup_cons] at nd
    have hq := hn q List.mem_cons_self
    have hn' := fun r hr => hn r (List.mem_cons_of_mem _ hr)
    by_cases h : q.2.toNat = j
    · have eq : q.2 = (j : Int) := by omega
      have e1 : (bump l q.2.toNat)[j]? = some (x + 1) := by rw [bump_at, if_pos h, e] <;> rfl
      obtain ⟨_, z⟩ := ih _ hn' nd.2 _ e1
      refine ⟨fun _ => ?_, fun k => ?_⟩
      · rw [List.foldl_cons]
        exact z (by rw [← eq]; exact nd.1)
      · exact absurd (by rw [List.map_cons, eq]; exact List.mem_cons_self) k
    · have ne : q.2 ≠ (j : Int) := by omega
      have e1 : (bump l q.2.toNat)[j]? = some x := by rw [bump_at, if_neg h, e]
      obtain ⟨z1, z2⟩ := ih _ hn' nd.2 _ e1
      refine ⟨fun k => ?_, fun k => ?_⟩
      · rw [List.foldl_cons]
        rw [List.map_cons] at k
        rcases List.mem_cons.mp k with k | k
        · exact absurd k.symm ne
        · exact z1 k
      · rw [List.foldl_cons]
        exact z2 fun m => k (List.mem_cons_of_mem _ m)
/-- what is asked of an amount and weights -/
structure SumOk (a : Int) (ws : List Int) : Prop where
  a0 : 0 ≤ a
  w0 : ∀ w ∈ ws, 0 ≤ w
  T : 0 < ws.sum
section
variable {a : Int} {ws : List Int}
theorem rst_lo (h : SumOk a ws) (w : Int) : 0 ≤ rst a ws w := by
  unfold rst fl
  have := Int.ediv_mul_le (a * w) (b := ws.sum) (by have := h.T; omega)
  omega
theorem rst_hi (h : SumOk a ws) (w : Int) : rst a ws w < ws.sum := by
  unfold rst fl
  have := Int.lt_ediv_add_one_mul_self (a * w) h.T
  rw [Int.add_mul] at this
  omega
theorem rst_mod (w : Int) : a * w % ws.sum = rst a ws w := by
  unfold rst fl
  rw [Int.emod_def, Int.mul_comm ws.sum]
theorem rests_sum : ((restsF a ws).map fun q => -q.1).sum = ws.sum * kF a ws := by
  unfold restsF kF floors
  rw [List.map_map]
  have e1 : ((fun q : Int × Int => -q.1) ∘ fun p : Int × Nat => (-(rst a ws p.1), (p.2 : Int))) = (rst a ws) ∘ (fun p : Int × Nat => p.1) := by
    funext p
    show - -(rst a ws p.1) = rst a ws p.1
    omega
  rw [e1, ← List.map_map, List.zipIdx_map_fst]
  have e2 := sum_lin (fun w => a * w) (fl a ws) ws.sum ws
  have e3 : ws.map (rst a ws) = ws.map fun w => a * w - fl a ws w * ws.sum := rfl
  rw [e3, e2, sum_mul, Int.mul_sub, Int.mul_comm ws.sum a, Int.mul_comm ws.sum]
theorem rests_len : (restsF a ws).length = ws.length := by
  unfold restsF
  rw [List.length_map, List.length_zipIdx]
theorem rests_mem {q : Int × Int} (h : q ∈ restsF a ws) : ∃ (i : Nat) (w : Int), ws[i]? = some w ∧ q = (-(rst a ws w), ((i : Nat) : Int)) := by
  unfold restsF at h
  obtain ⟨⟨w, i⟩, h1, rfl⟩ := List.mem_map.mp h
  have := List.mem_zipIdx_iff_getElem?.mp h1
  exact ⟨i, w, this, rfl⟩
theorem rests_at {i : Nat} {w : Int} (h : ws[i]? = some w) : (-(rst a ws w), (i : Int)) ∈ restsF a ws := by
  unfold restsF
  exact List.mem_map.mpr ⟨(w, i), List.mem_zipIdx_iff_getElem?.mpr h, rfl⟩
theorem rests_nd : ((restsF a ws).map (·.2)).Nodup := by
  unfold restsF
  rw [List.map_map]
  have e : ((fun q : Int × Int => q.2) ∘ fun p : Int × Nat => (-(rst a ws p.1), (p.2 : Int))) = (fun n : Nat => (n : Int)) ∘ (fun p : Int × Nat => p.2) := rfl
  rw [e, ← List.map_map, List.zipIdx_map_snd]
  refine List.Pairwise.map _ (fun x y h z => h (by have : (x : Int) = y := z; omega)) List.nodup_range'
theorem k_lo (h : SumOk a ws) : 0 ≤ kF a ws := by
  have e := rests_sum (a := a) (ws := ws)
  have s : 0 ≤ ((restsF a ws).map fun q => -q.1).sum := sum_nonneg fun q hq => by
    obtain ⟨i, w, _, rfl⟩ := rests_mem hq
    have := rst_lo h w
    show 0 ≤ - -(rst a ws w)
    omega
  rw [e] at s
  have T := h.T
  by_cases c : 0 ≤ kF a ws
  · exact c
  · have : ws.sum * kF a ws < 0 := Int.mul_neg_of_pos_of_neg T (by omega)
    omega
theorem k_hi (h : SumOk a ws) : kF a ws ≤ ws.length := by
  have e := rests_sum (a := a) (ws := ws)
  have s : ((restsF a ws).map fun q => -q.1).sum ≤ ((restsF a ws).length : Int) * ws.sum := sum_most fun q hq => by
    obtain ⟨i, w, _, rfl⟩ := rests_mem hq
    have := rst_hi h w
    show - -(rst a ws w) ≤ _
    omega
  rw [e, rests_len, Int.mul_comm (ws.length : Int)] at s
  exact Int.le_of_mul_le_mul_left s h.T
theorem pick_sub {q : Int × Int} (h : q ∈ pickF a ws) : q ∈ restsF a ws := (sortZ_perm _).mem_iff.mp (List.mem_of_mem_take h)
theorem pick_nd : ((pickF a ws).map (·.2)).Nodup := by
  unfold pickF
  rw [List.map_take]
  exact ((sortZ_perm (restsF a ws)).map (·.2)).nodup_iff.mpr rests_nd |>.sublist (List.take_sublist _ _)
theorem pick_len (h : SumOk a ws) : ((pickF a ws).length : Int) = kF a ws := by
  unfold pickF
  rw [List.length_take, (sortZ_perm _).length_eq, rests_len]
  have := k_lo h
  have := k_hi h
  omega
theorem pick_at {q : Int × Int} (h : q ∈ pickF a ws) : 0 ≤ q.2 ∧ q.2.toNat < ws.length := by
  obtain ⟨i, w, h1, rfl⟩ := rests_mem (pick_sub h)
  have := (List.getElem?_eq_some_iff.mp h1).1
  exact ⟨Int.natCast_nonneg i, by show ((i : Int)).toNat < ws.length; omega⟩
theorem floors_len : (floors a ws).length = ws.length := List.length_map _
theorem shared_len : (sharedF a ws).length = ws.length := by
  unfold sharedF
  rw [bumps_len]
  exact List.length_map _
theorem shared_sum (h : SumOk a ws) : (sharedF a ws).sum = a := by
  unfold sharedF
  rw [bumps_sum (n := ws.length) _ _ floors_len fun q hq => (pick_at hq).2, pick_len h]
  unfold kF
  omega
theorem shared_at {i : Nat} {w : Int} (e : ws[i]? = some w) : (chosen a ws i → (sharedF a ws)[i]? = some (fl a ws w + 1)) ∧ (¬ chosen a ws i → (sharedF a ws)[i]? = some (fl a ws w)) := by
  unfold sharedF chosen
  refine bumps_at (pickF a ws) i (floors a ws) (fun q hq => (pick_at hq).1) pick_nd _ ?_
  unfold floors
  rw [List.getElem?_map, e]
  rfl
theorem chosen_mem {i : Nat} {w : Int} (e : ws[i]? = some w) : chosen a ws i ↔ (-(rst a ws w), (i : Int)) ∈ pickF a ws := by
  unfold chosen
  constructor
  · intro h
    obtain ⟨q, h1, h2⟩ := List.mem_map.mp h
    obtain ⟨j, v, h3, rfl⟩ := rests_mem (pick_sub h1)
    have : (j : Int) = i := h2
    have : j = i := by omega
    subst this
    rw [e] at h3
    cases h3
    exact h1
  · intro h
    exact List.mem_map.mpr ⟨_, h, rfl⟩
/-- the greatest rests, first ones first -/
theorem pick_order {i j : Nat} {v w : Int} (hi : ws[i]? = some v) (hj : ws[j]? = some w) (ni : ¬ chosen a ws i) (cj : chosen a ws j) : ¬ (rst a ws v > rst a ws w ∨ (rst a ws v = rst a ws w ∧ i < j)) := by
  rw [chosen_mem hi] at ni
  rw [chosen_mem hj] at cj
  have mi : (-(rst a ws v), (i : Int)) ∈ sortZ (restsF a ws) := (sortZ_perm _).mem_iff.mpr (rests_at hi)
  rw [← List.take_append_drop (kF a ws).toNat (sortZ (restsF a ws))] at mi
  have di : (-(rst a ws v), (i : Int)) ∈ (sortZ (restsF a ws)).drop (kF a ws).toNat := by
    rcases List.mem_append.mp mi with m | m
    · exact absurd m ni
    · exact m
  have p := sortZ_le (restsF a ws)
  rw [← List.take_append_drop (kF a ws).toNat (sortZ (restsF a ws)), List.pairwise_append] at p
  have z := p.2.2 _ cj _ di
  unfold lexLe at z
  have z : -(rst a ws w) < -(rst a ws v) ∨ (-(rst a ws w) = -(rst a ws v) ∧ (j : Int) ≤ i) := z
  omega
/-- none of them is 0 -/
theorem pick_pos (h : SumOk a ws) {i : Nat} {w : Int} (e : ws[i]? = some w) (c : chosen a ws i) : rst a ws w ≠ 0 := fun z => by
  rw [chosen_mem e] at c
  unfold pickF at c
  obtain ⟨n, hn, en⟩ := List.mem_take_iff_getElem.mp c
  have lt : n < (kF a ws).toNat := by omega
  have lt2 : n < (sortZ (restsF a ws)).length := by omega
  have sp : sortZ (restsF a ws) = (sortZ (restsF a ws)).take n ++ (sortZ (restsF a ws)).drop n := (List.take_append_drop _ _).symm
  have p := sortZ_le (restsF a ws)
  have dz : ∀ q ∈ (sortZ (restsF a ws)).drop n, -q.1 = 0 := fun q hq => by
    rw [List.drop_eq_getElem_cons lt2, en] at hq
    have p2 := p.sublist (List.drop_sublist n _)
    rw [List.drop_eq_getElem_cons lt2, en, List.pairwise_cons] at p2
    have lo : ∀ q ∈ sortZ (restsF a ws), q.1 ≤ 0 := fun q hq => by
      obtain ⟨j, v, _, rfl⟩ := rests_mem ((sortZ_perm _).mem_iff.mp hq)
      have := rst_lo h v
      show -(rst a ws v) ≤ 0
      omega
    rcases List.mem_cons.mp hq with rfl | hq
    · show - -(rst a ws w) = 0
      omega
    · have y := p2.1 q hq
      have y : -(rst a ws w) < q.1 ∨ (-(rst a ws w) = q.1 ∧ _) := y
      have l := lo q (List.mem_of_mem_drop (i := n + 1) hq)
      omega
  have s1 : ((sortZ (restsF a ws)).map fun q => -q.1).sum = ws.sum * kF a ws := by rw [perm_sum (sortZ_perm _), rests_sum]
  rw [sp, List.map_append, List.sum_append, sum_zero dz] at s1
  have s2 : (((sortZ (restsF a ws)).take n).map fun q => -q.1).sum ≤ (((sortZ (restsF a ws)).take n).length : Int) * ws.sum := sum_most fun q hq => by
    obtain ⟨j, v, _, rfl⟩ := rests_mem ((sortZ_perm _).mem_iff.mp (List.mem_of_mem_take hq))
    have := rst_hi h v
    show - -(rst a ws v) ≤ _
    omega
  rw [List.length_take, Nat.min_eq_left (by omega)] at s2
  have T := h.T
  have s3 : (n : Int) * ws.sum < kF a ws * ws.sum := Int.mul_lt_mul_of_pos_right (by omega) T
  rw [Int.mul_comm (kF a ws)] at s3
  omega
end
/-! by steps -/
section
variable (a : Int) (ws : List Int)
def upS (i : Nat) : Int := a * (ws.take i).sum / ws.sum
def stepF : List Int := (List.range ws.length).map fun i => upS a ws (i + 1) - upS a ws i
end
theorem steps_sum {a : Int} {ws : List Int} : ∀ k, k ≤ ws.length → ((stepF a ws).take k).sum = upS a ws k
  | 0, _ => by
    unfold upS
    simp
  | k + 1, h => by
    have e : (stepF a ws)[k]? = some (upS a ws (k + 1) - upS a ws k) := by
      unfold stepF
      rw [List.getElem?_map, List.getElem?_range (by omega)]
      rfl
    rw [List.take_add_one, e, List.sum_append, steps_sum k (by omega)]
    simp
    omega
theorem steps_len {a : Int} {ws : List Int} : (stepF a ws).length = ws.length := by
  unfold stepF
  rw [List.length_map, List.length_range]
theorem steps_all {a : Int} {ws : List Int} (h : 0 < ws.sum) : (stepF a ws).sum = a := by
  have z := steps_sum (a := a) (ws := ws) ws.length (Nat.le_refl _)
  rw [← steps_len (a := a), List.take_length] at z
  rw [z]
  unfold upS
  rw [steps_len, List.take_length]
  exact Int.mul_ediv_cancel _ (by omega)
end Sh

set_option Elab.async false
set_option linter.all false
set_option maxRecDepth 100000
set_option maxHeartbeats 4000000
/-! steps of a reading, each under the head it has -/
namespace Sh
open PySem PySem.Spec L2
open Evl (Ex)
theorem Gr.grow {G H H2 : Hp} (e : Ex G H) (x : Ex H H2) : Gr G H G H2 := ⟨Ex.refl _, e.trans x, x, fun _ h _ => h⟩
section
variable {σ : L2.St} {H : Hp} {K : PySem.W.Frag}
theorem go_set {te : TE} {i : Nat} {u : TS} {D : Ends} (h : te σ H fun v H2 => u D (σ.set i (some v)) H2) : tSeq (tAsg te (gName i)) u D σ H := h
theorem go_set1 {te : TE} {i : Nat} {D : Ends} (h : te σ H fun v H2 => D.nx (σ.set i (some v)) H2) : tAsg te (gName i) D σ H := h
theorem go_asg {te : TE} {g : TG} {u : TS} {D : Ends} (h : te σ H fun v H2 => g v σ H2 fun σ2 H3 => u D σ2 H3) : tSeq (tAsg te g) u D σ H := h
theorem go_seq {t u : TS} {D : Ends} (h : t { D with nx := u D } σ H) : tSeq t u D σ H := h
theorem go_drop {te : TE} {D : Ends} (h : te σ H fun _ H2 => D.nx σ H2) : tDrop te D σ H := h
theorem go_dropS {te : TE} {u : TS} {D : Ends} (h : te σ H fun _ H2 => u D σ H2) : tSeq (tDrop te) u D σ H := h
theorem go_ret {te : TE} {D : Ends} (h : te σ H D.rt) : tRet te D σ H := h
theorem go_callS {sp : Sp} {E : L2.St → XK} {t : TA} {Q : VK} (h : t σ H fun vs H1 => sp vs H1 Q (E σ)) : tCallS sp E t σ H Q := h
theorem go_cons {te : TE} {t : TA} {Q : List V → Hp → Prop} (h : te σ H fun v H1 => t σ H1 fun vs H2 => Q (v :: vs) H2) : tCons te t σ H Q := h
theorem go_nil {Q : List V → Hp → Prop} (h : Q [] H) : tNil σ H Q := h
theorem go_var {i : Nat} {Q : VK} {v : V} (hs : σ[i]? = some (some v)) (h : Q v H) : tVar i σ H Q := ⟨v, hs, h⟩
theorem go_c {v : V} {Q : VK} (h : Q v H) : tC v σ H Q := h
theorem go_for {wi : TI} {g : TG} {tb u : TS} {D : Ends} (h : tFor wi g tb { D with nx := u D } σ H) : tSeq (tFor wi g tb) u D σ H := h
theorem go_cb {r : List V → Hp → VK → Prop} {ar : TA} {Q : VK} (h : ar σ H fun vs H1 => r vs H1 Q) : tCB r ar σ H Q := h
theorem go_op {r : R2} {ta tb : TE} {Q : VK} (h : ta σ H fun x H1 => tb σ H1 fun y H2 => r x y H2 Q) : tOp r ta tb σ H Q := h
theorem go_tup {ar : TA} {Q : VK} (h : ar σ H fun vs H1 => vs.length ≤ sizeLine ∧ ∀ p, H1 p = none → Q (.ref p) (upd H1 p (.tup vs))) : tTup ar σ H Q := h
theorem go_lst {ar : TA} {Q : VK} (h : ar σ H fun vs H1 => vs.length ≤ sizeLine ∧ ∀ p, H1 p = none → Q (.ref p) (upd H1 p (.lst vs))) : tLst ar σ H Q := h
theorem go_par {i j : Nat} {ta : TA} {D : Ends} (h : ta σ H fun vs H1 => ∃ v w, vs = [v, w] ∧ D.nx ((σ.set i (some v)).set j (some w)) H1) : tPar i j ta D σ H := h
theorem go_parS {i j : Nat} {ta : TA} {u : TS} {D : Ends} (h : ta σ H fun vs H1 => ∃ v w, vs = [v, w] ∧ u D ((σ.set i (some v)).set j (some w)) H1) : tSeq (tPar i j ta) u D σ H := h
theorem go_bm {T : String} {r : V → List V → Hp → VK → Prop} {to : TE} {t : TA} {Q : VK} (h : to σ H fun x H1 => tyV K T x H1 ∧ t σ H1 fun xs H2 => r x xs H2 Q) : tBM K T r to t σ H Q := h
theorem go_aug {i : Nat} {te : TE} {ti : TIp} {D : Ends} {x : V} (hs : σ[i]? = some (some x)) (h : te σ H fun y H1 => ti x y H1 fun z H2 => D.nx (σ.set i (some z)) H2) : tAug i te ti D σ H := ⟨x, hs, h⟩
theorem go_augS {i : Nat} {te : TE} {ti : TIp} {u : TS} {D : Ends} {x : V} (hs : σ[i]? = some (some x)) (h : te σ H fun y H1 => ti x y H1 fun z H2 => u D (σ.set i (some z)) H2) : tSeq (tAug i te ti) u D σ H := ⟨x, hs, h⟩
theorem go_if {tt : TT} {t u : TS} {D : Ends} {G : Hp} {b : Bool} (h : EvT tt σ G b) (e : Ex G H) (k1 : b = true → ∀ G2 H2, Gr G H G2 H2 → t D σ H2) (k2 : b = false → ∀ G2 H2, Gr G H G2 H2 → u D σ H2) : tIfS tt t u D σ H := h H e _ fun G2 H2 g => by
  cases b with
  | true => exact k1 rfl G2 H2 g
  | false => exact k2 rfl G2 H2 g
theorem app_at {Q : VK} {p : Addr} {xs : List V} {v : V} (hp : H p = some (.lst xs)) (hz : xs.length ≤ 90000) (q : Q .non (upd H p (.lst (xs ++ [v])))) : rAppend (.ref p) [v] H Q :=
  ⟨p, xs, v, rfl, rfl, hp, Nat.lt_of_le_of_lt hz (by decide), q⟩
/-- tuple(xs), xs the changing list at p -/
theorem tup_at {Q : VK} {p : Addr} {xs : List V} (hp : H p = some (.lst xs)) (q : ∀ l, H l = none → Q (.ref l) (upd H l (.tup xs))) : rTupD K [.ref p] H Q := ⟨p, xs, rfl, .inl ⟨.inl (.inl hp), q⟩⟩
theorem sq_lst {p : Addr} {xs : List V} (hp : H p = some (.lst xs)) : SqL K H p xs := .inl (.inl hp)
end
/-! a for over what its source comes to just here -/
section
variable {σ : L2.St} {G : Hp} {K : PySem.W.Frag} {te : TE} {tt : TT}
def SrcAt (wi : TI) (σ : L2.St) (G H : Hp) (ds : List D) : Prop := ∀ R : It → Hp → Prop, (∀ J G2 H2, Gr G H G2 H2 → WalkD J G2 ds → R J H2) → wi σ H R
theorem for_at {wi : TI} {g : TG} {tb : TS} {ds : List D} {H : Hp} {E : Ends} (hi : SrcAt wi σ G H ds) (Pv : Hp → Hp → Nat → L2.St → Hp → Prop) (hG : ∀ G0 H0 i σ' H', Pv G0 H0 i σ' H' → Ex G0 H')
    (h0 : ∀ G0 H0, Gr G H G0 H0 → Pv G0 H0 0 σ H0)
    (hs : ∀ G0 H0 i d x σ' H' G2 H2, Gr G H G0 H0 → ds[i]? = some d → Pv G0 H0 i σ' H' → Gr G0 H' G2 H2 → Dn G2 x d → g x σ' H2 fun σ2 H3 => tb { E with nx := Pv G0 H0 (i + 1), ct := Pv G0 H0 (i + 1), bk := E.nx } σ2 H3)
    (hd : ∀ G0 H0 σ' H', Gr G H G0 H0 → Pv G0 H0 ds.length σ' H' → E.nx σ' H') : tFor wi g tb E σ H := hi _ fun J G0 H0 g0 w => by
  refine ⟨fun i m σ' H' => m = ds.length - i ∧ i ≤ ds.length ∧ Pv G0 H0 i σ' H', ⟨ds.length, by simp, Nat.zero_le _, h0 G0 H0 g0⟩, ?_⟩
  rintro i m σ' H' ⟨rfl, hi', p⟩
  have ex := hG G0 H0 i σ' H' p
  by_cases lt : i < ds.length
  · refine .inr ⟨w.go i H' lt ex, Pv G0 H0 (i + 1), fun σ2 H2 p2 => ⟨ds.length - (i + 1), by omega, rfl, lt, p2⟩, fun x H2 y => ?_⟩
    obtain ⟨G2, d, g2, hd', n⟩ := w.yld i H' x H2 lt ex y
    exact hs G0 H0 i d x σ' H' G2 H2 g0 hd' p g2 n
  · obtain rfl : i = ds.length := by omega
    exact .inl ⟨w.stop H' ex, hd G0 H0 σ' H' g0 p⟩
/-- a list made just now, of data that does not lean on what changes -/
theorem src_own {H : Hp} {ds : List D} (h : ∀ Q : VK, (∀ l xs G2 H2, Gr G H G2 H2 → H l = none → G2 l = none → H2 l = some (.lst xs) → DnL G2 xs ds → Q (.ref l) H2) → te σ H Q) : SrcAt (iList K te) σ G H ds := fun R r => h _ fun l xs G2 H2 g hl nl h2 m =>
  ⟨l, rfl, ⟨_, .inl (.inl h2)⟩, r _ (upd G2 l (.lst xs)) H2 ⟨g.g.trans (Ex.new nl), Ex.lend g.s h2, g.h, fun a h1 h3 => by
    have ne : a ≠ l := fun z => h3 (by rw [z]; exact stf hl)
    rw [upd_ne ne]
    exact g.f a h1 h3⟩ (walkD_list upd_same (DnL.mono (Ex.new nl) _ m))⟩
theorem evo_lcA {wi : TI} {g : TG} {vs : List Nat} {ds : List D} {r : D → D} {B : D → Hp → L2.St → Prop} (hi : EvI wi σ G ds) (hz : ds.length ≤ 40000)
    (hg : ∀ d ∈ ds, ∀ G1, Ex G G1 → EvG g (wipe σ vs) G1 d (B d)) (hw : ∀ d G1 σ2, B d G1 σ2 → wipe σ2 vs = wipe σ vs)
    (he : ∀ d ∈ ds, ∀ G1 σ2, Ex G G1 → B d G1 σ2 → EvD te σ2 G1 (r d)) : EvO (tLc wi g tYes te vs) σ G (ds.map r) := by
  have h := evo_lc (t := tYes) (te := te) (f := fun _ => true) (r := r) hi hz hg hw (fun _ _ _ _ _ _ => evt_yes) (fun d hd _ G1 σ2 e b => he d hd G1 σ2 e b)
  rw [filter_all] at h
  exact h
theorem evo_lcN {wi : TI} {vs : List Nat} {ds : List D} {j : Nat} {r : D → D} (hi : EvI wi σ G ds) (hz : ds.length ≤ 40000) (hw : ∀ x, wipe ((wipe σ vs).set j (some x)) vs = wipe σ vs)
    (he : ∀ d ∈ ds, ∀ x G1, Ex G G1 → Dn G1 x d → EvD te ((wipe σ vs).set j (some x)) G1 (r d)) : EvO (tLc wi (gName j) tYes te vs) σ G (ds.map r) :=
  evo_lcA hi hz (fun d _ G1 _ => eg_name) (fun d G1 σ2 ⟨x, e, _⟩ => by rw [e]; exact hw x) (fun d hd G1 σ2 e ⟨x, e2, n⟩ => by rw [e2]; exact he d hd x G1 e n)
theorem EvO.is {ds ds' : List D} (h : EvO te σ G ds) (e : ds = ds') : EvO te σ G ds' := e ▸ h
/-- a, (b, c) -/
theorem eg_nest {i j k : Nat} {a b c : D} : EvG (gTup K 2 (gCons (gName i) (gCons (gTup K 2 (gCons (gName j) (gCons (gName k) gNil))) gNil))) σ G (.tuple [a, .tuple [b, c]]) (fun G σ2 => ∃ x y z, σ2 = ((σ.set i (some x)).set j (some y)).set k (some z) ∧ Dn G x a ∧ Dn G y b ∧ Dn G z c) := fun v H ex n Q q => by
  cases n with
  | tup h1 h2 =>
    obtain ⟨x, u, rfl, n1, n2⟩ := two_of h2
    cases n2 with
    | tup h3 h4 =>
      obtain ⟨y, z, rfl, n3, n4⟩ := two_of h4
      exact ⟨_, _, rfl, .inl (rdx ex h1), rfl, x, _, rfl, _, _, rfl, ⟨_, _, rfl, .inl (rdx ex h3), rfl, y, _, rfl, z, _, rfl, rfl, rfl, q _ ⟨x, y, z, rfl, n1, n3, n4⟩⟩⟩
theorem evd_lc3 {wi : TI} {vs : List Nat} {ds : List D} {i j k : Nat} {r : D → D} (hi : EvI wi σ G ds) (hz : ds.length ≤ 40000) (hp : ∀ d ∈ ds, ∃ a b c, d = .tuple [a, .tuple [b, c]])
    (hw : ∀ x y z, wipe ((((wipe σ vs).set i (some x)).set j (some y)).set k (some z)) vs = wipe σ vs)
    (he : ∀ a b c, PyData.tuple [a, .tuple [b, c]] ∈ ds → ∀ x y z G1, Ex G G1 → Dn G1 x a → Dn G1 y b → Dn G1 z c → EvD te ((((wipe σ vs).set i (some x)).set j (some y)).set k (some z)) G1 (r (.tuple [a, .tuple [b, c]]))) :
    EvD (tLc wi (gTup K 2 (gCons (gName i) (gCons (gTup K 2 (gCons (gName j) (gCons (gName k) gNil))) gNil))) tYes te vs) σ G (.list (ds.map r)) :=
  evd_lcA (B := fun d G1 σ2 => ∃ a b c, d = .tuple [a, .tuple [b, c]] ∧ ∃ x y z, σ2 = (((wipe σ vs).set i (some x)).set j (some y)).set k (some z) ∧ Dn G1 x a ∧ Dn G1 y b ∧ Dn G1 z c) hi hz
    (fun d hd G1 e x H e1 n Q q => by
      obtain ⟨a, b, c, rfl⟩ := hp d hd
      exact eg_nest x H e1 n Q fun σ2 h => q σ2 ⟨a, b, c, rfl, h⟩)
    (fun d G1 σ2 ⟨a, b, c, _, x, y, z, e, _⟩ => by rw [e]; exact hw x y z)
    (fun d hd G1 σ2 e ⟨a, b, c, ed, x, y, z, e2, n1, n2, n3⟩ => by
      subst ed
      rw [e2]
      exact he a b c hd x y z G1 e n1 n2 n3)
theorem evd_neg {i : Int} (h : EvD te σ G (.int i)) : EvD (tUn (rU fun i => .int (-i)) te) σ G (.int (-i)) := fun H e Q q => h H e _ fun v G2 H2 g n => by
  cases n
  exact ⟨i, rfl, q _ G2 H2 g (.int _)⟩
theorem Gm.ofGr {p : Addr} {H G2 H2 : Hp} (g : Gr G H G2 H2) (n : G2 p = none) : Gm p G H G2 H2 := ⟨g.g, g.s, fun a o _ q => g.h a o q, g.f, n⟩
/-- xs[i] += e, xs the changing list of ints at p -/
theorem go_bumpL {i j : Nat} {te : TE} {D : Ends} {H : Hp} {p : Addr} {xs : List Int} {k : Nat} {x y : Int} (hs : σ[i]? = some (some (.ref p))) (hj : σ[j]? = some (some (.int (k : Nat)))) (hp : H p = some (.lst (xs.map V.int))) (hx : xs[k]? = some x) (he : ∀ Q : VK, Q (.int y) H → te σ H Q)
    (q : D.nx σ (upd H p (.lst ((xs.set k (x + y)).map V.int)))) : tAugS (tVar i) (tVar j) te (rIxL K) (ipI fun i j => i + j) rSetL D σ H := by
  have lt : k < xs.length := (List.getElem?_eq_some_iff.mp hx).1
  refine ⟨_, hs, _, hj, p, _, _, _, rfl, rfl, sq_lst hp, atI_nat (by rw [List.getElem?_map, hx]; rfl), he _ ⟨_, _, rfl, rfl, p, _, _, k, rfl, rfl, hp, ?_, ?_⟩⟩
  · unfold ixN
    rw [List.length_map, if_pos (by omega), if_pos (by omega)]
    rfl
  · rw [show (xs.map V.int).set k (.int (x + y)) = (xs.set k (x + y)).map V.int by rw [List.map_set]]
    exact q
end
end Sh

set_option Elab.async false
set_option linter.all false
set_option maxRecDepth 100000
set_option maxHeartbeats 4000000
/-! sums: stepped -/
namespace Sh
open PySem PySem.Spec L2
open PyProof.Rows hiding St
open Evl (Ex)
open ShW (rSumK)
/-- parts of an amount by weights: as f tells, or the error -/
def domParts (f : Int → List Int → List Int) (ds : List D) (o : Option D) : Prop := ∃ d e, ds = [d, e] ∧ noT d ∧ noT e ∧
  ((amtB d && wOk e) = true → ∃ a ws, d = .int a ∧ e = .tuple (intL ws) ∧ (∀ w ∈ ws, w ≤ 20000) ∧ o = some (.tuple (intL (f a ws)))) ∧ ((amtB d && wOk e) = false → o = none)
structure WOk (ws : List Int) : Prop where
  len : ws.length ≤ 40
  lo : ∀ w ∈ ws, 0 ≤ w
  T : 0 < ws.sum
theorem nonneg_sum : ∀ {ws : List Int}, (∀ w ∈ ws, 0 ≤ w) → 0 ≤ ws.sum
  | [], _ => Int.le_refl _
  | w :: ws, h => by
    rw [List.sum_cons]
    have h1 := h w List.mem_cons_self
    have h2 := nonneg_sum (ws := ws) fun x hx => h x (List.mem_cons_of_mem _ hx)
    omega
theorem intOf_int (ws : List Int) : (intL ws).map intOf = ws := by
  unfold intL
  rw [List.map_map]
  exact List.map_id _
theorem wOk_of {ws : List Int} (h : wOk (.tuple (intL ws)) = true) : WOk ws := by
  have h : (rowD (.tuple (intL ws)) 1 40 && ((intL ws).all amtB && !decide (((intL ws).map intOf).sum = 0))) = true := h
  rw [Bool.and_eq_true, Bool.and_eq_true, Bool.not_eq_true', decide_eq_false_iff_not, intOf_int] at h
  obtain ⟨h1, h2, h3⟩ := h
  have h1 : (decide (1 ≤ ((intL ws).length : Int)) && decide (((intL ws).length : Int) ≤ 40)) = true := h1
  rw [Bool.and_eq_true, decide_eq_true_eq, decide_eq_true_eq] at h1
  have len : (intL ws).length = ws.length := List.length_map _
  have lo : ∀ w ∈ ws, 0 ≤ w := fun w hw => by
    have z := List.all_eq_true.mp h2 (.int w) (List.mem_map.mpr ⟨w, hw, rfl⟩)
    obtain ⟨i, e, i0, _⟩ := amt_int z
    cases e
    exact i0
  have := nonneg_sum lo
  exact ⟨by omega, lo, by omega⟩
theorem sum_big {ws : List Int} (h : WOk ws) (m : ∀ w ∈ ws, w ≤ 20000) : ws.sum ≤ 800000 := by
  have z := sum_most (f := fun w : Int => w) (T := 20000) (l := ws) m
  rw [List.map_id'] at z
  have := h.len
  omega
theorem take_sum_lo {ws : List Int} (h : WOk ws) (i : Nat) : 0 ≤ (ws.take i).sum := nonneg_sum fun w hw => h.lo w (List.mem_of_mem_take hw)
section
variable {P : Program} {w : World} {K : PySem.W.Frag} {mg : Str → Option Value} {base : Heap} {C : Addr}
theorem two_checks {xk : XK} {σ : L2.St} {G : Hp} {d e : D} {v v1 : V} {o : Option D} {u : TS} {i j : Nat} (n0 : Dn G v d) (n1 : Dn G v1 e) (hi : σ[i]? = some (some v)) (hj : σ[j]? = some (some v1)) (t1 : noT d) (t2 : noT e) (no : (amtB d && wOk e) = false → o = none)
    (k : (amtB d && wOk e) = true → ∀ G2, Ex G G2 → EvX xk C u σ G2 o) :
    EvX xk C (tSeq (tDrop (tCallS (spR C (dom1 amtB)) (WE (wOut xk)) (tCons (tVar i) tNil))) (tSeq (tDrop (tCallS (spR C (dom1 wOk)) (WE (wOut xk)) (tCons (tVar j) tNil))) u)) σ G o := by
  refine evx_dropR (o1 := unit1 (amtB d)) (ea_cons (evd_at n0 (Ex.refl _) hi) ea_nil) ⟨d, rfl, t1, rfl⟩ (fun c1 e1 G1 x1 => ?_) (fun e1 => ?_)
  · have a : amtB d = true := by
      cases h : amtB d with
      | true => rfl
      | false => rw [h] at e1; cases e1
    refine evx_dropR (o1 := unit1 (wOk e)) (ea_cons (evd_at n1 x1 hj) ea_nil) ⟨e, rfl, t2, rfl⟩ (fun c2 e2 G2 x2 => ?_) (fun e2 => ?_)
    · have b : wOk e = true := by
        cases h : wOk e with
        | true => rfl
        | false => rw [h] at e2; cases e2
      exact k (by rw [a, b]; rfl) G2 (x1.trans x2)
    · have b : wOk e = false := by
        cases h : wOk e with
        | false => rfl
        | true => rw [h] at e2; cases e2
      exact no (by rw [b, Bool.and_false])
  · have a : amtB d = false := by
      cases h : amtB d with
      | false => rfl
      | true => rw [h] at e1; cases e1
    exact no (by rw [a, Bool.false_and])
end
end Sh

set_option Elab.async false
set_option linter.all false
set_option maxRecDepth 100000
set_option maxHeartbeats 4000000
/-! sums: shared -/
namespace Sh
open PySem PySem.Spec L2
open PyProof.Rows hiding St
open Evl (Ex)
open ShW (rSumK)
section
variable {P : Program} {w : World} {K : PySem.W.Frag} {mg : Str → Option Value} {base : Heap} {C : Addr}
abbrev s_shared : Stmt := topS 30
theorem sc_shared : FnScope ["amount", "weights", "total", "parts", "by_rest", "_", "place", "weight", "part"] ["amount", "weights"] (defScope s_shared) := ⟨rfl, rfl, rfl, by decide +kernel, rfl, by decide +kernel, by decide +kernel⟩
def floD (a T : Int) : D → D
  | .int w => .int (a * w / T)
  | _ => .none
def rowD2 (a T : Int) : D → D
  | .tuple [.int i, .tuple [.int w, .int f]] => .tuple [.int (-(a * w - f * T)), .int i]
  | _ => .none
theorem rows_are (a : Int) (ws : List Int) : ((enumD (zipD (intL ws) (intL (floors a ws)))).map (rowD2 a ws.sum)) = (restsF a ws).map pairZ := by
  refine List.ext_getElem? fun i => ?_
  unfold restsF
  rw [List.getElem?_map, List.getElem?_map, List.getElem?_map, List.getElem?_zipIdx]
  unfold enumD
  rw [List.getElem?_map, List.getElem?_zipIdx]
  unfold zipD intL floors
  rw [List.getElem?_zipWith, List.getElem?_map, List.getElem?_map, List.getElem?_map]
  cases ws[i]? with
  | none => rfl
  | some v => rfl
theorem keeps_shared (B : Bi mg) (S : Stands K mg "shared" s_shared ["amount", "weights"]) (K_check_amount : Keeps P w K mg base (L2N.CX P w) 2 "check_amount" ["amount"] (spR C (dom1 amtB))) (K_check_weights : Keeps P w K mg base (L2N.CX P w) 2 "check_weights" ["weights"] (spR C (dom1 wOk))) :
    Keeps P w K mg base (L2N.CX P w) 3 "shared" ["amount", "weights"] (spR C (domParts sharedF)) := by
  refine keeps_ofR2 S sc_shared (fun ds c h => ?_) (fun f cdv A outer s H E hr => ⟨_, (pss_cons (ps_expr (pe_callR K_check_amount (hr.mono (by decide)) (L2N.takes_of rfl rfl rfl rfl) (pa_cons (pv 0) pa_nil)))
    (pss_cons (ps_expr (pe_callR K_check_weights (hr.mono (by decide)) (L2N.takes_of rfl rfl rfl rfl) (pa_cons (pv 1) pa_nil)))
    (PSs.nox (pss_cons (ps_set (i := 2) sc_shared.nd rfl (.inr rfl) (pe_callB (ShW.cr_sumK (k := .t) rfl) rfl B.sum bi_sum (pa_cons (pv 1) pa_nil)))
    (pss_cons (ps_setLc (i := 3) (own := [("weight", 7)]) (g := gName 7) (tt := tYes) rfl sc_shared.nd rfl rfl (sw_true rfl rfl rfl (by decide +kernel)) (pi_tup (pv 1)) (blkOk_by (N := ["amount", "weights", "total", "parts", "by_rest", "_", "place", "weight", "part"]) (sc := defScope s_shared) (by decide +kernel)) (fun _ _ _ _ _ => (pg_name (i := 7) sc_shared.nd rfl (.inl rfl))) (fun _ _ _ _ _ => pts_nil) (fun _ _ _ _ _ => (pe_op op_fdivN (pe_op op_mul (pv 0) (pv 7)) (pv 2))))
    (pss_cons (ps_set (i := 4) sc_shared.nd rfl (.inl rfl) (pe_callB cr_sortedR rfl B.sorted bi_sorted (pa_cons (pe_lc (own := [("place", 6), ("weight", 7), ("part", 8)]) (g := gTup K 2 (gCons (gName 6) (gCons (gTup K 2 (gCons (gName 7) (gCons (gName 8) gNil))) gNil))) (tt := tYes) rfl sc_shared.nd (ShW.pi_enZ (k1 := .t) (k2 := .l) B.enumerate B.zip (pa_cons (pv 1) (pa_cons (pv 3) pa_nil))) (blkOk_by (N := ["amount", "weights", "total", "parts", "by_rest", "_", "place", "weight", "part"]) (sc := defScope s_shared) (by decide +kernel)) (fun _ _ _ _ _ => by exact (pg_tup rfl (pgs_cons (pg_name (i := 6) sc_shared.nd rfl (.inl rfl)) (pgs_cons (pg_tup rfl (pgs_cons (pg_name (i := 7) sc_shared.nd rfl (.inl rfl)) (pgs_cons (pg_name (i := 8) sc_shared.nd rfl (.inl rfl)) pgs_nil))) pgs_nil)))) (fun _ _ _ _ _ => pts_nil) (fun _ _ _ _ _ => (pe_tup (pa_cons (pe_un un_neg (pe_op op_sub (pe_op op_mul (pv 0) (pv 7)) (pe_op op_mul (pv 8) (pv 2)))) (pa_cons (pv 6) pa_nil))))) pa_nil)))
    (pss_cons (ps_for PassesOwn.never rfl (pi_list (pe_slice sl_list (pv 4) po_none (po_some (pe_op op_sub (pv 0) (pe_callB (ShW.cr_sumK (k := .l) rfl) rfl B.sum bi_sum (pa_cons (pv 3) pa_nil)))))) (pg_tup rfl (pgs_cons (pg_name (i := 5) sc_shared.nd rfl (.inl rfl)) (pgs_cons (pg_name (i := 6) sc_shared.nd rfl (.inl rfl)) pgs_nil)))
      (pss_one (ps_augS (pv 3) (pv 6) pget_list pe_int ip_add set_list)))
    (pss_one (ps_ret (pe_callTy call_tuple_of rfl B.tuple bi_tuple (pa_cons (pv 3) pa_nil))))))))))), fun ds c vs G h n => ?_⟩)
  · obtain ⟨d, e, rfl, _⟩ := h
    rfl
  · obtain ⟨d, e, rfl, t1, t2, yes, no⟩ := h
    obtain ⟨v, v1, rfl, n0, n1⟩ := two_of n
    refine two_checks n0 n1 rfl rfl t1 t2 no (fun h G2 x2 => ?_)
    obtain ⟨a, ws, rfl, rfl, small, rfl⟩ := yes h
    rw [Bool.and_eq_true] at h
    obtain ⟨_, e0, a0, a1⟩ := amt_int h.1
    cases e0
    have W := wOk_of h.2
    have big := sum_big W small
    have T := W.T
    have hM : MOST = 1000000000000 := rfl
    have len40 := W.len
    have lenW : (intL ws).length = ws.length := List.length_map _
    have ok : SumOk a ws := ⟨a0, W.lo, T⟩
    cases n0
    refine evx_set (evd_cb (ea_cons (evd_at n1 x2) ea_nil) (r_sumK (k := .t) (ns := ws) rfl)) (fun v2 G3 x3 n2 => ?_)
    cases n2
    intro H0 e0 E1 q bad
    have n1' : Dn G3 v1 (.tuple (intL ws)) := Dn.mono (x2.trans x3) _ n1
    have c0 : ∀ {G : Hp} {i : Int}, Dn G (.int i) (.int i) := .int _
    -- the floors
    refine go_set ((evo_lcN (G := G3) (r := floD a ws.sum) (ei_tup (evd_at n1')) (by rw [lenW]; omega) (fun x => rfl) (fun d hd x G4 x4 nx => ?_)).is (ds' := intL (floors a ws)) ?_ H0 e0 _ fun p xs G4 H4 g4 hp np h4 m4 => ?_)
    · obtain ⟨w, hw, rfl⟩ := List.mem_map.mp hd
      have := W.lo w hw
      have := small w hw
      refine evd_is (evd_op (evd_op (evd_at (d := .int a) c0) (evd_at nx) (r_I (.inl ⟨by omega, by omega⟩) fun _ => .int _)) (evd_at (d := .int ws.sum) c0) (r_I ⟨by omega, by omega⟩ fun _ => .int _)) ?_
      show PyData.int ((a * w).fdiv ws.sum) = .int (a * w / ws.sum)
      rw [Int.fdiv_eq_ediv_of_nonneg _ (by omega)]
    · unfold intL floors
      rw [List.map_map, List.map_map]
      rfl
    · have exs := dn_ints m4
      subst exs
      have gm4 := Gm.ofGr g4 np
      have lists : ∀ ys, (HO.lst ((floors a ws).map V.int)) ≠ .tup ys := fun ys z => nomatch z
      have lists2 : ∀ u ys, (HO.lst ((floors a ws).map V.int)) ≠ .frz u (.tup ys) := fun u ys z => nomatch z
      have lenF : (floors a ws).length = ws.length := floors_len
      -- sorted by rests
      have n1p : Dn (upd G4 p (.lst ((floors a ws).map V.int))) v1 (.tuple (intL ws)) := Dn.mono (g4.g.trans (Ex.new np)) _ n1'
      have np4 : Dn (upd G4 p (.lst ((floors a ws).map V.int))) (.ref p) (.list (intL (floors a ws))) := .lst upd_same (ints_dn _)
      have rowsIn : ∀ {b c d : D}, PyData.tuple [b, .tuple [c, d]] ∈ enumD (zipD (intL ws) (intL (floors a ws))) → ∃ (i : Nat) (w : Int), ws[i]? = some w ∧ b = .int (i : Nat) ∧ c = .int w ∧ d = .int (fl a ws w) := fun {b c d} h => by
        obtain ⟨i, hi⟩ := List.getElem?_of_mem h
        unfold enumD at hi
        rw [List.getElem?_map, List.getElem?_zipIdx] at hi
        unfold zipD intL floors at hi
        rw [List.getElem?_zipWith, List.getElem?_map, List.getElem?_map, List.getElem?_map] at hi
        cases hw : ws[i]? with
        | none =>
          rw [hw] at hi
          cases hi
        | some v =>
          rw [hw] at hi
          have hi : PyData.tuple [.int ((0 + i : Nat) : Int), .tuple [.int v, .int (fl a ws v)]] = .tuple [b, .tuple [c, d]] := Option.some.inj hi
          rw [Nat.zero_add] at hi
          cases hi
          exact ⟨i, v, hw, rfl, rfl, rfl⟩
      have rows3 : ∀ d ∈ enumD (zipD (intL ws) (intL (floors a ws))), ∃ a b c, d = .tuple [a, .tuple [b, c]] := fun d hd => by
        unfold enumD zipD at hd
        obtain ⟨⟨x, i⟩, hx, rfl⟩ := List.mem_map.mp hd
        have hx := List.mem_zipIdx_iff_getElem?.mp hx
        rw [List.getElem?_zipWith] at hx
        cases e1 : (intL ws)[i]? with
        | none => rw [e1] at hx; cases hx
        | some y =>
          cases e2 : (intL (floors a ws))[i]? with
          | none => rw [e1, e2] at hx; cases hx
          | some z =>
            rw [e1, e2] at hx
            exact ⟨_, y, z, by rw [← Option.some.inj hx]⟩
      have lenE : (enumD (zipD (intL ws) (intL (floors a ws)))).length ≤ 40000 := by
        rw [enumD_len, zipD_len, lenW]
        omega
      refine go_set (ev_sorted (G := upd G4 p (.lst ((floors a ws).map V.int))) (ps := restsF a ws) (ea_cons (evd_is (d' := .list ((restsF a ws).map pairZ)) (evd_lc3 (r := rowD2 a ws.sum) (ei_enZ (k1 := .t) (k2 := .l) (ea_cons (evd_at n1p) (ea_cons (evd_at np4) ea_nil))) lenE rows3 (fun x y z => rfl) (fun b c d hbcd x y z G5 x5 nx ny nz => ?_)) (congrArg PyData.list (rows_are a ws))) ea_nil) (Ex.lend g4.s h4) fun qs l ys G5 H5 perm srt g5 hl nl h5 m5 => ?_)
      · obtain ⟨i, w, hi, rfl, rfl, rfl⟩ := rowsIn hbcd
        have hw := List.mem_of_getElem? hi
        have := W.lo w hw
        have := small w hw
        cases nx
        cases ny
        cases nz
        have f0 : 0 ≤ fl a ws w := Int.ediv_nonneg (Int.mul_nonneg a0 (by omega)) (by omega)
        refine evd_tup (ea_cons (d := .int (-(a * w - fl a ws w * ws.sum))) (evd_neg (evd_op (evd_op (evd_at (d := .int a) c0) (evd_at (d := .int w) c0) (r_I (.inl ⟨by omega, by omega⟩) fun _ => .int _)) (evd_op (evd_at (d := .int (fl a ws w)) c0) (evd_at (d := .int ws.sum) c0) (r_I (.inr ⟨by omega, by omega⟩) fun _ => .int _)) (r_I0 fun _ => .int _))) (ea_cons (evd_at (d := .int (i : Nat)) c0) ea_nil)) (by show 2 ≤ 100000; decide)
      · have eqs := sorted_is perm srt
        subst eqs
        have ne : l ≠ p := fun z => by
          rw [z, h4] at hl
          cases hl
        have g5' := Gr.unlend np g5
        have m5' := DnL.unp (no_tup (g5.g _ _ upd_same) lists lists2) ((sortZ (restsF a ws)).map pairZ) (by
          have : ∀ qs : List (Int × Int), tupDs (qs.map pairZ) = true := fun qs => by
            induction qs with
            | nil => rfl
            | cons q qs ih =>
              show (tupD (pairZ q) && tupDs (qs.map pairZ)) = true
              rw [ih]
              rfl
          exact this _) m5
        have nl' : (del G5 p) l = none := by
          rw [del_ne ne]
          exact nl
        -- by_rest stands still now
        have g6 : Gr G4 H4 (upd (del G5 p) l (.lst ys)) H5 := ⟨g5'.g.trans (Ex.new nl'), Ex.lend g5'.s h5, g5'.h, fun b h1 h2 => by
          have hb : b ≠ l := fun z => h2 (by rw [z]; exact stf hl)
          rw [upd_ne hb]
          exact g5'.f b h1 h2⟩
        have n4 : Dn (upd (del G5 p) l (.lst ys)) (.ref l) (.list ((sortZ (restsF a ws)).map pairZ)) := .lst upd_same (DnL.mono (Ex.new nl') _ m5')
        generalize upd (del G5 p) l (.lst ys) = G6 at g6 n4
        obtain ⟨gm6, hp6⟩ := gm4.step h4 g6
        have kl := k_lo ok
        have tups : ∀ qs : List (Int × Int), tupDs (qs.map pairZ) = true := fun qs => by
          induction qs with
          | nil => rfl
          | cons q qs ih =>
            show (tupD (pairZ q) && tupDs (qs.map pairZ)) = true
            rw [ih]
            rfl
        have pkl : (pickF a ws).map pairZ = ((sortZ (restsF a ws)).map pairZ).take (kF a ws).toNat := by
          unfold pickF
          rw [List.map_take]
        -- the walk over the first ones
        refine go_for (for_at (G := G6) (ds := (pickF a ws).map pairZ) (src_own fun Q' q' => ?_) (fun G1 H1 i σ' H' => ∃ Gi y z, Ex G1 Gi ∧ Gm p G3 H0 Gi H' ∧ H' p = some (.lst ((((pickF a ws).take i).foldl (fun l q => bump l q.2.toNat) (floors a ws)).map V.int)) ∧ σ' = [some (.int a), some v1, some (.int ws.sum), some (.ref p), some (.ref l), y, z, none, none])
          (fun _ _ _ _ _ ⟨Gi, _, _, x, gm, _⟩ => x.trans gm.s) (fun G1 H1 g1 => ?_) (fun G1 H1 i d x σ' H' G2 H2 g1 hdi pv g2 nx => ?_) (fun G1 H1 σ' H' g1 pv => ?_))
        · have n4p : Dn (upd G6 p (.lst ((floors a ws).map V.int))) (.ref l) (.list ((sortZ (restsF a ws)).map pairZ)) := Dn.mono (Ex.new gm6.n) _ n4
          have np6 : Dn (upd G6 p (.lst ((floors a ws).map V.int))) (.ref p) (.list (intL (floors a ws))) := .lst upd_same (ints_dn _)
          have cnt : EvD (tOp (rI0 fun i j => .int (i - j)) (tVar 0) (tCB (rSumK K .l) (tCons (tVar 3) tNil))) [some (.int a), some v1, some (.int ws.sum), some (.ref p), some (.ref l), none, none, none, none] (upd G6 p (.lst ((floors a ws).map V.int))) (.int ((kF a ws).toNat : Nat)) := by
            refine evd_is (evd_op (evd_at (d := .int a) c0) (evd_cb (ea_cons (evd_at np6) ea_nil) (r_sumK (k := .l) (ns := floors a ws) rfl)) (r_I0 fun _ => .int _)) ?_
            show PyData.int (a - (floors a ws).sum) = .int ((kF a ws).toNat : Nat)
            rw [show (((kF a ws).toNat : Nat) : Int) = kF a ws by omega]
            rfl
          refine EvO.lent (evo_cut (evd_at n4p) cnt) gm6.s gm6.n hp6 lists lists2 ?_ fun l2 xs2 G7 H7 g7 hl2 nl2 h7 m7 => q' l2 xs2 G7 H7 g7 hl2 nl2 h7 ?_
          · rw [← pkl]
            exact tups _
          · rw [pkl]
            exact m7
        · obtain ⟨gm7, hp7⟩ := gm6.step hp6 g1
          exact ⟨G1, none, none, Ex.refl _, gm7, hp7, rfl⟩
        · obtain ⟨Gi, y, z, x1, gm, hpi, rfl⟩ := pv
          obtain ⟨gm2, hp2⟩ := gm.step hpi (Gr.grow gm.s g2.h)
          rw [List.getElem?_map] at hdi
          cases hix : (pickF a ws)[i]? with
          | none =>
            rw [hix] at hdi
            cases hdi
          | some qi =>
            rw [hix] at hdi
            cases hdi
            refine eg_pair x H2 g2.s nx _ fun σ2 ⟨y1, z1, es, ny, nz⟩ => ?_
            subst es
            cases nz
            have mem : qi ∈ pickF a ws := List.mem_of_getElem? hix
            obtain ⟨p0, p1⟩ := pick_at mem
            have eqi : qi.2 = ((qi.2.toNat : Nat) : Int) := by omega
            have lenB : (((pickF a ws).take i).foldl (fun l q => bump l q.2.toNat) (floors a ws)).length = ws.length := by rw [bumps_len, lenF]
            rw [eqi]
            have nxt : ((pickF a ws).take (i + 1)).foldl (fun l q => bump l q.2.toNat) (floors a ws) = bump (((pickF a ws).take i).foldl (fun l q => bump l q.2.toNat) (floors a ws)) qi.2.toNat := by
              rw [take_len hix, List.foldl_append]
              rfl
            generalize ((pickF a ws).take i).foldl (fun l q => bump l q.2.toNat) (floors a ws) = cur at hp2 lenB nxt
            have lt : qi.2.toNat < cur.length := by omega
            refine go_bumpL (k := qi.2.toNat) (x := cur[qi.2.toNat]) (y := 1) rfl rfl hp2 (List.getElem?_eq_getElem lt) (fun Q q => q) ?_
            refine ⟨Gi, some y1, some (.int ((qi.2.toNat : Nat) : Int)), x1, gm2.put, ?_, rfl⟩
            rw [upd_same, nxt]
            unfold bump
            rw [List.getD_eq_getElem?_getD, List.getElem?_eq_getElem lt]
            rfl
        · obtain ⟨Gi, y, z, x1, gm, hpi, rfl⟩ := pv
          rw [List.length_map, List.take_length] at hpi
          refine go_ret (go_cb (go_cons (go_var rfl (go_nil (tup_at hpi fun l2 hl2 => ?_)))))
          have g3 := gm.drop hp
          have g4 := g3.trans (Gr.new (o := .tup ((sharedF a ws).map V.int)) g3.s hl2)
          exact q _ rfl _ _ _ g4 (.tup upd_same (ints_dn _))
end
end Sh

set_option Elab.async false
set_option linter.all false
set_option maxRecDepth 100000
set_option maxHeartbeats 4000000
/-! the row of draws; what an expression with draws may come to; the law's block -/
namespace Sh
open PySem PySem.Spec L2
open PyProof.Rows hiding St
open Evl (Ex)
theorem sqx {K : PySem.W.Frag} {G H : Hp} {a : Addr} {xs : List V} (e : Ex G H) (h : SqL K G a xs) : SqL K H a xs := h.elim (fun q => .inl (rdR e q)) .inr
/-- the row of draws stands at r, over the script at sc -/
structure RowSt (K : PySem.W.Frag) (r sc : Addr) (G H : Hp) : Prop where
  s : Ex G H
  n : G r = none
  row : ∃ a b c : Int, 0 ≤ a ∧ H r = some (.lst [.ref sc, .int a, .int b, .int c])
  scr : ∃ ns : List Int, SqL K G sc (ns.map V.int)
/-- growth, and draws made -/
structure Gq (K : PySem.W.Frag) (r sc : Addr) (G H G2 H2 : Hp) : Prop where
  g : Ex G G2
  st : RowSt K r sc G2 H2
  h : ∀ a o, a ≠ r → H a = some o → H2 a = some o
  f : ∀ a, G a = none → stiff (H a) ≠ none → G2 a = none
section
variable {K : PySem.W.Frag} {r sc : Addr} {G H G2 H2 G3 H3 : Hp}
theorem Gq.refl (s : RowSt K r sc G H) : Gq K r sc G H G H := ⟨Ex.refl _, s, fun _ _ _ h => h, fun _ h _ => h⟩
theorem Gq.of (s : RowSt K r sc G H) (b : Gr G H G2 H2) : Gq K r sc G H G2 H2 := by
  obtain ⟨a, bb, c, h1, h2⟩ := s.row
  obtain ⟨ns, h3⟩ := s.scr
  exact ⟨b.g, ⟨b.s, b.f r s.n (by rw [h2]; intro z; cases z), ⟨a, bb, c, h1, b.h _ _ h2⟩, ⟨ns, sqx b.g h3⟩⟩, fun a o _ q => b.h _ _ q, b.f⟩
theorem RowSt.gr (s : RowSt K r sc G H) (b : Gr G H G2 H2) : RowSt K r sc G2 H2 := (Gq.of s b).st
theorem Gq.trans (s : RowSt K r sc G H) (a : Gq K r sc G H G2 H2) (b : Gq K r sc G2 H2 G3 H3) : Gq K r sc G H G3 H3 := ⟨a.g.trans b.g, b.st, fun x o hx q => b.h x o hx (a.h x o hx q), fun x h1 h2 => by
  by_cases hx : x = r
  · rw [hx]
    exact b.st.n
  · exact b.f x (a.f x h1 h2) (stiff_up (fun u => a.h x u hx) h2)⟩
/-- the row alone is written -/
theorem RowSt.put (s : RowSt K r sc G H) {a b c : Int} (h : 0 ≤ a) : RowSt K r sc G (upd H r (.lst [.ref sc, .int a, .int b, .int c])) := ⟨Ex.mut s.s s.n, s.n, ⟨a, b, c, h, upd_same⟩, s.scr⟩
theorem Gq.put (s : RowSt K r sc G H) {a b c : Int} (h : 0 ≤ a) : Gq K r sc G H G (upd H r (.lst [.ref sc, .int a, .int b, .int c])) := ⟨Ex.refl _, s.put h, fun x o hx q => by
  rw [upd_ne hx]
  exact q, fun _ h _ => h⟩
end
def spTaken (K : PySem.W.Frag) : Sp := fun vs H Q _ => ∃ r sc G m, vs = [.ref r, .int m] ∧ 0 < m ∧ m ≤ 1000000 ∧ RowSt K r sc G H ∧ ∀ (v : Nat) H2, (v : Int) < m → Gq K r sc G H G H2 → Q (.int v) H2
def spPick (K : PySem.W.Frag) : Sp := fun vs H Q _ => ∃ r sc G ds v, vs = [.ref r, v] ∧ RowSt K r sc G H ∧ Dn G v (.list ds) ∧ 0 < ds.length ∧ ds.length ≤ 1000 ∧ ∀ u d G2 H2, d ∈ ds → Dn G2 u d → Gq K r sc G H G2 H2 → Q u H2
/-- with draws, te comes to some data of which P holds -/
def EvR (K : PySem.W.Frag) (r sc : Addr) (te : TE) (σ : L2.St) (G : Hp) (P : D → Prop) : Prop := ∀ H, RowSt K r sc G H → ∀ Q : VK, (∀ v d G2 H2, P d → Gq K r sc G H G2 H2 → Dn G2 v d → Q v H2) → te σ H Q
/-- from here the law hands back True -/
def EvL (K : PySem.W.Frag) (r sc : Addr) (t : TS) (σ : L2.St) (G : Hp) : Prop := ∀ H, RowSt K r sc G H → ∀ E : Ends, (∀ H2, E.rt (.bl true) H2) → t E σ H
section
variable {K : PySem.W.Frag} {r sc : Addr} {σ : L2.St} {G : Hp} {te ta tb : TE} {t u : TS} {tt : TT} {d : D} {P : D → Prop}
theorem evr_d (h : EvD te σ G d) (p : P d) : EvR K r sc te σ G P := fun H st Q q => h H st.s _ fun v G2 H2 g n => q v d G2 H2 p (Gq.of st g) n
theorem EvR.imp {P' : D → Prop} (h : EvR K r sc te σ G P) (k : ∀ d, P d → P' d) : EvR K r sc te σ G P' := fun H st Q q => h H st Q fun v d G2 H2 p g n => q v d G2 H2 (k d p) g n
theorem evr_tk {i : Nat} {E : XK} (hs : σ[i]? = some (some (.ref r))) (h : EvR K r sc te σ G fun d => ∃ m : Int, d = .int m ∧ 0 < m ∧ m ≤ 1000000 ∧ ∀ v : Nat, (v : Int) < m → P (.int (v : Nat))) : EvR K r sc (tCall (spTaken K) [] E (tCons (tVar i) (tCons te tNil))) σ G P := fun H st Q q =>
  ⟨_, hs, h H st _ fun v d G2 H2 ⟨m, ed, m0, m1, p⟩ g n => by
    subst ed
    cases n
    exact ⟨r, sc, G2, m, rfl, m0, m1, g.st, fun v H3 lt g2 => q (.int (v : Nat)) _ G2 H3 (p v lt) (g.trans st g2) (.int _)⟩⟩
theorem evr_pk {i : Nat} {E : XK} (hs : σ[i]? = some (some (.ref r))) (h : EvR K r sc te σ G fun d => ∃ ds, d = .list ds ∧ 0 < ds.length ∧ ds.length ≤ 1000 ∧ ∀ x ∈ ds, P x) : EvR K r sc (tCall (spPick K) [] E (tCons (tVar i) (tCons te tNil))) σ G P := fun H st Q q =>
  ⟨_, hs, h H st _ fun v d G2 H2 ⟨ds, ed, l0, l1, p⟩ g n => by
    subst ed
    exact ⟨r, sc, G2, ds, v, rfl, g.st, n, l0, l1, fun u x G3 H3 hx nx g2 => q u x G3 H3 (p x hx) (g.trans st g2) nx⟩⟩
theorem evr_op {rr : R2} {P1 : D → Prop} {P2 : D → D → Prop} (h : EvR K r sc ta σ G P1) (k : ∀ d G2, P1 d → Ex G G2 → EvR K r sc tb σ G2 (P2 d)) (hr : ∀ d e, P1 d → P2 d e → ∀ G2, ∃ c, P c ∧ R2D rr d e c G2) : EvR K r sc (tOp rr ta tb) σ G P := fun H st Q q =>
  h H st _ fun v d G2 H2 p1 g n => k d G2 p1 g.g H2 g.st _ fun w e G3 H3 p2 g2 n2 => by
    obtain ⟨c, pc, rc⟩ := hr d e p1 p2 G3
    exact rc G3 H3 v w (Ex.refl _) g2.st.s (Dn.mono g2.g _ n) n2 Q fun z G4 H4 g3 n3 => q z c G4 H4 pc ((g.trans st g2).trans st (Gq.of g2.st g3)) n3
theorem evr_cb1 {rr : List V → Hp → VK → Prop} {P1 : D → Prop} (h : EvR K r sc te σ G P1) (hr : ∀ d, P1 d → ∀ G2, ∃ c, P c ∧ RCD rr [d] c G2) : EvR K r sc (tCB rr (tCons te tNil)) σ G P := fun H st Q q =>
  h H st _ fun v d G2 H2 p1 g n => by
    obtain ⟨c, pc, rc⟩ := hr d p1 G2
    exact rc G2 H2 [v] (Ex.refl _) g.st.s (.cons n .nil) Q fun z G3 H3 g2 n2 => q z c G3 H3 pc (g.trans st (Gq.of g.st g2)) n2
theorem evl_set {i : Nat} (h : EvD te σ G d) (k : ∀ v G2, Ex G G2 → Dn G2 v d → EvL K r sc u (σ.set i (some v)) G2) : EvL K r sc (tSeq (tAsg te (gName i)) u) σ G := fun H st E q => h H st.s _ fun v G2 H2 g n => k v G2 g.g n H2 (st.gr g) E q
theorem evl_setR {i : Nat} (h : EvR K r sc te σ G P) (k : ∀ v d G2, P d → Ex G G2 → Dn G2 v d → EvL K r sc u (σ.set i (some v)) G2) : EvL K r sc (tSeq (tAsg te (gName i)) u) σ G := fun H st E q => h H st _ fun v d G2 H2 p g n => k v d G2 p g.g n H2 g.st E q
theorem evl_asg {g : TG} {B : Hp → L2.St → Prop} (h : EvD te σ G d) (hg : ∀ G2, Ex G G2 → EvG g σ G2 d B) (k : ∀ σ2 G2, Ex G G2 → B G2 σ2 → EvL K r sc u σ2 G2) : EvL K r sc (tSeq (tAsg te g) u) σ G := fun H st E q => h H st.s _ fun v G2 H2 g' n =>
  hg G2 g'.g v H2 g'.s n _ fun σ2 b => k σ2 G2 g'.g b H2 (st.gr g') E q
theorem evl_if {v : TS} {b : Bool} (h : EvT tt σ G b) (k1 : b = true → ∀ G2, Ex G G2 → EvL K r sc (tSeq t u) σ G2) (k2 : b = false → ∀ G2, Ex G G2 → EvL K r sc u σ G2) : EvL K r sc (tSeq (tIfS tt t tNext) u) σ G := fun H st E q => h H st.s _ fun G2 H2 g => by
  cases b with
  | true => exact k1 rfl G2 g.g H2 (st.gr g) E q
  | false => exact k2 rfl G2 g.g H2 (st.gr g) E q
/-- a test that is false here -/
theorem evl_no (h : EvT tt σ G false) (k : ∀ G2, Ex G G2 → EvL K r sc u σ G2) : EvL K r sc (tSeq (tIfS tt t tNext) u) σ G := fun H st E q => h H st.s _ fun G2 H2 g => k G2 g.g H2 (st.gr g) E q
theorem evl_ret (h : EvD te σ G (.bool true)) : EvL K r sc (tRet te) σ G := fun H st E q => h H st.s _ fun v G2 H2 g n => by
  cases n
  exact q H2
/-- a block that goes through, leaving slots of which B holds -/
def EvN (t : TS) (σ : L2.St) (G : Hp) (B : Hp → L2.St → Prop) : Prop := ∀ H, Ex G H → ∀ E : Ends, (∀ σ2 G2 H2, Gr G H G2 H2 → B G2 σ2 → E.nx σ2 H2) → t E σ H
theorem evl_nx {B : Hp → L2.St → Prop} (h : EvN t σ G B) (k : ∀ σ2 G2, Ex G G2 → B G2 σ2 → EvL K r sc u σ2 G2) : EvL K r sc (tSeq t u) σ G := fun H st E q => h H st.s _ fun σ2 G2 H2 g b => k σ2 G2 g.g b H2 (st.gr g) E q
theorem evn_seq {B B' : Hp → L2.St → Prop} (h : EvN t σ G B) (k : ∀ σ2 G2, Ex G G2 → B G2 σ2 → EvN u σ2 G2 B') : EvN (tSeq t u) σ G B' := fun H e E q => h H e _ fun σ2 G2 H2 g b => k σ2 G2 g.g b H2 g.s E fun σ3 G3 H3 g2 b2 => q σ3 G3 H3 (g.trans g2) b2
theorem evn_set {i : Nat} {B : Hp → L2.St → Prop} (h : EvD te σ G d) (k : ∀ v G2, Ex G G2 → Dn G2 v d → EvN u (σ.set i (some v)) G2 B) : EvN (tSeq (tAsg te (gName i)) u) σ G B := fun H e E q => h H e _ fun v G2 H2 g n => k v G2 g.g n H2 g.s E fun σ3 G3 H3 g2 b2 => q σ3 G3 H3 (g.trans g2) b2
theorem evn_set1 {i : Nat} {B : Hp → L2.St → Prop} (h : EvD te σ G d) (k : ∀ v G2, Ex G G2 → Dn G2 v d → B G2 (σ.set i (some v))) : EvN (tAsg te (gName i)) σ G B := fun H e E q => h H e _ fun v G2 H2 g n => q _ G2 H2 g (k v G2 g.g n)
theorem evn_no {B : Hp → L2.St → Prop} (h : EvT tt σ G false) (k : ∀ G2, Ex G G2 → EvN u σ G2 B) : EvN (tSeq (tIfS tt t tNext) u) σ G B := fun H e E q => h H e _ fun G2 H2 g => k G2 g.g H2 g.s E fun σ3 G3 H3 g2 b2 => q σ3 G3 H3 (g.trans g2) b2
theorem evn_no1 {B : Hp → L2.St → Prop} (h : EvT tt σ G false) (k : ∀ G2, Ex G G2 → B G2 σ) : EvN (tIfS tt t tNext) σ G B := fun H e E q => h H e _ fun G2 H2 g => q σ G2 H2 g (k G2 g.g)
theorem evn_aug {i : Nat} {ti : TIp} {B : Hp → L2.St → Prop} {x y z : Int} (hs : σ[i]? = some (some (.int x))) (h : EvD te σ G (.int y)) (hz : ∀ H (Q : VK), Q (.int z) H → ti (.int x) (.int y) H Q) (k : ∀ G2, Ex G G2 → EvN u (σ.set i (some (.int z))) G2 B) : EvN (tSeq (tAug i te ti) u) σ G B := fun H e E q =>
  ⟨_, hs, h H e _ fun v G2 H2 g n => by
    cases n
    exact hz H2 _ (k G2 g.g H2 g.s E fun σ3 G3 H3 g2 b2 => q σ3 G3 H3 (g.trans g2) b2)⟩
theorem evn_if {B : Hp → L2.St → Prop} {v : TS} {b : Bool} (h : EvT tt σ G b) (k1 : b = true → ∀ G2, Ex G G2 → EvN t σ G2 B) (k2 : b = false → ∀ G2, Ex G G2 → EvN v σ G2 B) : EvN (tIfS tt t v) σ G B := fun H e E q => h H e _ fun G2 H2 g => by
  cases b with
  | true => exact k1 rfl G2 g.g H2 g.s E fun σ3 G3 H3 g2 b2 => q σ3 G3 H3 (g.trans g2) b2
  | false => exact k2 rfl G2 g.g H2 g.s E fun σ3 G3 H3 g2 b2 => q σ3 G3 H3 (g.trans g2) b2
theorem evn_next {B : Hp → L2.St → Prop} (h : B G σ) : EvN tNext σ G B := fun H e E q => q σ G H (Gr.refl e) h
/-- for x in data: .., the slots' invariant I, which what stands still may outgrow -/
theorem evn_for {wi : TI} {g : TG} {ds : List D} {I : Nat → Hp → L2.St → Prop} {C : D → Hp → L2.St → L2.St → Prop} (hi : EvI wi σ G ds) (mono : ∀ i G1 G2 σ', Ex G1 G2 → I i G1 σ' → I i G2 σ') (h0 : I 0 G σ)
    (hg : ∀ i d σ' G1, ds[i]? = some d → Ex G G1 → I i G1 σ' → EvG g σ' G1 d fun G2 σ2 => C d G2 σ' σ2)
    (hb : ∀ i d σ' σ2 G1, ds[i]? = some d → Ex G G1 → I i G1 σ' → C d G1 σ' σ2 → EvN t σ2 G1 (I (i + 1))) : EvN (tFor wi g t) σ G (I ds.length) := fun H e E q =>
  for_data hi e (fun G0 H0 i σ' H' => ∃ Gi, Gr G0 H0 Gi H' ∧ I i Gi σ') (fun G0 H0 i σ' H' ⟨Gi, g, _⟩ => g.g.trans g.s) (fun G0 H0 g0 => ⟨G0, Gr.refl g0.s, mono 0 G G0 σ g0.g h0⟩)
    (fun G0 H0 i d x σ' H' G2 H2 g0 hd ⟨Gi, gi, hI⟩ g2 nx => by
      obtain ⟨G3, e23, g3⟩ := grow_up gi.g gi.s g2
      have gg := gi.trans g3
      have hI3 := mono i Gi G3 σ' g3.g hI
      refine hg i d σ' G3 hd (g0.g.trans gg.g) hI3 x H2 gg.s (Dn.mono e23 _ nx) _ fun σ2 hc => ?_
      have done := hb i d σ' σ2 G3 hd (g0.g.trans gg.g) hI3 hc
      exact done H2 gg.s _ fun σ3 G4 H4 g4 b4 => ⟨G4, gg.trans g4, b4⟩)
    (fun G0 H0 σ' H' g0 ⟨Gi, gi, hI⟩ => q σ' Gi H' (g0.trans gi) hI)
end
end Sh

set_option Elab.async false
set_option linter.all false
set_option maxRecDepth 100000
set_option maxHeartbeats 4000000
/-! comprehensions with draws; lists that a loop of the law builds -/
namespace Sh
open PySem PySem.Spec L2
open PyProof.Rows hiding St
open Evl (Ex)
section
variable {σ : L2.St} {H : Hp}
theorem go_lcr {ar : TA} {g : TG} {tt : TT} {te : TE} {vs' : List Nat} {Q : VK} (h : ar σ H fun vs H1 => ∃ k : Int, vs = [.int k] ∧ -(2 ^ 62) ≤ k ∧ k < 2 ^ 62 ∧ ∀ D, H1 D = none → ∃ W : Nat → Nat → Hp → Prop, (∃ m, W 0 m (upd H1 D (.lst []))) ∧ ∀ i m H, W i m H →
  ((Itr 0 k.toNat).stop i H ∧ Q (.ref D) H) ∨ ((Itr 0 k.toNat).go i H ∧ ∃ Nx : Hp → Prop, (∀ H', Nx H' → ∃ m', m' < m ∧ W (i + 1) m' H') ∧ ∀ x H', (Itr 0 k.toNat).yld i H x H' → g x (wipe σ vs') H' fun σ2 H2 => wipe σ2 vs' = wipe σ vs' ∧ tt σ2 H2 fun b H3 =>
    if b = true then te σ2 H3 fun y H4 => ∃ acc, H4 D = some (.lst acc) ∧ acc.length < sizeLine ∧ Nx (upd H4 D (.lst (acc ++ [y]))) else Nx H3)) : tLc (iRng1 ar) g tt te vs' σ H Q := h
theorem lcR_go {n : Nat} {k0 : Int} (hk : k0 = (n : Nat)) (hn : n ≤ 1000000) {H1 : Hp} {Q : Addr → Hp → Prop} {te : TE} {vs' : List Nat} {j : Nat} (hw : ∀ x, wipe ((wipe σ vs').set j (some x)) vs' = wipe σ vs')
    (h : ∀ D, H1 D = none → ∃ W : Nat → Hp → Prop, W 0 (upd H1 D (.lst [])) ∧ (∀ i H', i < n → W i H' → te ((wipe σ vs').set j (some (.int (i : Nat)))) H' fun y H4 => ∃ acc, H4 D = some (.lst acc) ∧ acc.length < sizeLine ∧ W (i + 1) (upd H4 D (.lst (acc ++ [y])))) ∧ ∀ H', W n H' → Q D H') :
    ∃ k : Int, [V.int k0] = [.int k] ∧ -(2 ^ 62) ≤ k ∧ k < 2 ^ 62 ∧ ∀ D, H1 D = none → ∃ W : Nat → Nat → Hp → Prop, (∃ m, W 0 m (upd H1 D (.lst []))) ∧ ∀ i m H, W i m H →
  ((Itr 0 k.toNat).stop i H ∧ Q D H) ∨ ((Itr 0 k.toNat).go i H ∧ ∃ Nx : Hp → Prop, (∀ H', Nx H' → ∃ m', m' < m ∧ W (i + 1) m' H') ∧ ∀ x H', (Itr 0 k.toNat).yld i H x H' → gName j x (wipe σ vs') H' fun σ2 H2 => wipe σ2 vs' = wipe σ vs' ∧ tYes σ2 H2 fun b H3 =>
    if b = true then te σ2 H3 fun y H4 => ∃ acc, H4 D = some (.lst acc) ∧ acc.length < sizeLine ∧ Nx (upd H4 D (.lst (acc ++ [y]))) else Nx H3) := by
  subst hk
  refine ⟨(n : Nat), rfl, by omega, by omega, fun D hD => ?_⟩
  obtain ⟨W, w0, ws, wd⟩ := h D hD
  refine ⟨fun i m H' => m = n - i ∧ i ≤ n ∧ W i H', ⟨n, by simp, Nat.zero_le _, w0⟩, ?_⟩
  rintro i m H' ⟨rfl, hi, p⟩
  by_cases lt : i < n
  · refine .inr ⟨?_, W (i + 1), fun H2 p2 => ⟨n - (i + 1), by omega, rfl, lt, p2⟩, fun x H2 y => ?_⟩
    · show i < ((n : Nat) : Int).toNat
      omega
    · obtain ⟨rfl, rfl⟩ := y
      refine ⟨hw _, ?_⟩
      have z := ws i H2 lt p
      show te ((wipe σ vs').set j (some (.int (0 + (i : Nat))))) H2 _
      rw [Int.zero_add]
      exact z
  · obtain rfl : i = n := by omega
    refine .inl ⟨?_, wd H' p⟩
    show ((i : Nat) : Int).toNat ≤ i
    omega
end
section
variable {K : PySem.W.Frag} {r sc : Addr} {σ : L2.St} {G : Hp} {te ta tb tn : TE} {t u : TS} {tt : TT} {d : D} {P : D → Prop}
/-- a new object, not the row -/
theorem RowSt.loose {H : Hp} {p : Addr} {o : HO} (s : RowSt K r sc G H) (hp : H p = none) : RowSt K r sc G (upd H p o) := by
  obtain ⟨a, b, c, h1, h2⟩ := s.row
  exact ⟨s.s.trans (Ex.new hp), s.n, ⟨a, b, c, h1, by
    rw [upd_ne (fun z => by rw [z, hp] at h2; cases h2)]
    exact h2⟩, s.scr⟩
theorem RowSt.ne {H : Hp} {p : Addr} (s : RowSt K r sc G H) (hp : H p = none) : p ≠ r := fun z => by
  obtain ⟨a, b, c, h1, h2⟩ := s.row
  rw [← z, hp] at h2
  cases h2
theorem RowSt.mut {H : Hp} {p : Addr} {o : HO} (s : RowSt K r sc G H) (hn : G p = none) (ne : p ≠ r) : RowSt K r sc G (upd H p o) := by
  obtain ⟨a, b, c, h1, h2⟩ := s.row
  exact ⟨Ex.mut s.s hn, s.n, ⟨a, b, c, h1, by rw [upd_ne (fun z => ne z.symm)]; exact h2⟩, s.scr⟩
/-- [te for j in range(n)], with draws -/
theorem evr_lcR {j : Nat} {vs : List Nat} {N : Nat → Prop} {P1 : D → Prop} (h : EvR K r sc tn σ G fun d => ∃ n : Nat, d = .int (n : Nat) ∧ n ≤ 1000 ∧ N n) (hw : ∀ x, wipe ((wipe σ vs).set j (some x)) vs = wipe σ vs)
    (he : ∀ (i : Nat) G1, Ex G G1 → EvR K r sc te ((wipe σ vs).set j (some (.int (i : Nat)))) G1 P1) (out : ∀ n ds, N n → ds.length = n → (∀ d ∈ ds, P1 d) → P (.list ds)) :
    EvR K r sc (tLc (iRng1 (tCons tn tNil)) (gName j) tYes te vs) σ G P := fun H st Q q => by
  refine go_lcr (go_cons (h H st _ fun v d G1 H1 ⟨n, ed, n1, nn⟩ g1 n0 => go_nil ?_))
  subst ed
  cases n0
  refine lcR_go (n := n) rfl (by omega) hw fun L hL => ?_
  have neL := g1.st.ne hL
  refine ⟨fun i H' => ∃ Gi acc ds, Gq K r sc G H Gi H' ∧ Ex G1 Gi ∧ Gi L = none ∧ H' L = some (.lst acc) ∧ DnL Gi acc ds ∧ ds.length = i ∧ ∀ d ∈ ds, P1 d, ⟨G1, [], [], ⟨g1.g, g1.st.loose hL, fun a o ha q => ?_, g1.f⟩, Ex.refl _, Evl.fresh_back g1.st.s hL, upd_same, .nil, rfl, fun d hd => (by cases hd)⟩, fun i H' lt ⟨Gi, acc, ds, gq, x1, nL, hL', m, len, each⟩ => ?_, fun H' ⟨Gi, acc, ds, gq, x1, nL, hL', m, len, each⟩ => ?_⟩
  · have z := g1.h a o ha q
    rw [upd_ne (fun e => by rw [← e, z] at hL; cases hL)]
    exact z
  · refine he i Gi (g1.g.trans x1) H' gq.st _ fun v d G2 H2 p g2 nv => ?_
    have hL2 : H2 L = some (.lst acc) := g2.h _ _ neL hL'
    have nL2 : G2 L = none := g2.f L nL (by rw [hL']; intro z; cases z)
    have gg := gq.trans st g2
    have lenA : acc.length = ds.length := m.length
    refine ⟨acc, hL2, Nat.lt_of_le_of_lt (show _ ≤ 1000 by omega) (by decide), G2, acc ++ [v], ds ++ [d], ⟨gg.g, gg.st.mut nL2 neL, fun a o ha q => ?_, gg.f⟩, x1.trans g2.g, nL2, upd_same, (DnL.mono g2.g _ m).snoc nv, by rw [List.length_append, len]; rfl, fun y hy => ?_⟩
    · have z := gg.h a o ha q
      rw [upd_ne (fun e => ?_)]
      · exact z
      · have y : H L = none := by
          cases c : H L with
          | none => rfl
          | some u =>
            have y := g1.h L u neL c
            rw [hL] at y
            cases y
        rw [e, y] at q
        cases q
    · rcases List.mem_append.mp hy with hy | hy
      · exact each y hy
      · rw [List.mem_singleton.mp hy]
        exact p
  · have fresh : H L = none := by
      cases c : H L with
      | none => rfl
      | some u =>
        have y := g1.h L u neL c
        rw [hL] at y
        cases y
    refine q (.ref L) (.list ds) (upd Gi L (.lst acc)) H' (out n ds nn len each) ⟨gq.g.trans (Ex.new nL), ⟨Ex.lend gq.st.s hL', ?_, gq.st.row, ?_⟩, gq.h, fun a h1 h2 => ?_⟩ (.lst upd_same (DnL.mono (Ex.new nL) _ m))
    · rw [upd_ne (fun e => neL e.symm)]
      exact gq.st.n
    · obtain ⟨ns, z⟩ := gq.st.scr
      exact ⟨ns, sqx (Ex.new nL) z⟩
    · have ne : a ≠ L := fun e => h2 (by rw [e]; exact stf fresh)
      rw [upd_ne ne]
      exact gq.f a h1 h2
/-- a block that appends one thing to the list at p -/
def EvAp (p : Addr) (t : TS) (σ : L2.St) (G : Hp) (o : D) (B : Hp → L2.St → Prop) : Prop := ∀ H xs, Ex G H → G p = none → H p = some (.lst xs) → xs.length ≤ 90000 → ∀ E : Ends, (∀ σ2 v G2 H2, Gr G H G2 H2 → Dn G2 v o → B G2 σ2 → E.nx σ2 (upd H2 p (.lst (xs ++ [v])))) → t E σ H
variable {p : Addr} {o : D} {B : Hp → L2.St → Prop}
theorem eva_app {i : Nat} (hs : σ[i]? = some (some (.ref p))) (h : EvD te σ G o) (hb : ∀ G2, Ex G G2 → B G2 σ) : EvAp p (tDrop (tBM K "list" rAppend (tVar i) (tCons te tNil))) σ G o B := fun H xs e n hp hz E q =>
  go_drop (go_bm (go_var hs ⟨.inl ⟨rfl, _, sq_lst hp⟩, go_cons (h H e _ fun v G2 H2 g m => go_nil (app_at (g.h _ _ hp) hz (q σ v G2 H2 g m (hb G2 g.g))))⟩))
theorem eva_set {i : Nat} (h : EvD te σ G d) (k : ∀ v G2, Ex G G2 → Dn G2 v d → EvAp p u (σ.set i (some v)) G2 o B) : EvAp p (tSeq (tAsg te (gName i)) u) σ G o B := fun H xs e n hp hz E q => h H e _ fun v G2 H2 g m =>
  k v G2 g.g m H2 xs g.s (g.f p n (by rw [hp]; intro z; cases z)) (g.h _ _ hp) hz E fun σ2 v2 G3 H3 g2 m2 b => q σ2 v2 G3 H3 (g.trans g2) m2 b
theorem eva_no (h : EvT tt σ G false) (k : ∀ G2, Ex G G2 → EvAp p u σ G2 o B) : EvAp p (tSeq (tIfS tt t tNext) u) σ G o B := fun H xs e n hp hz E q => h H e _ fun G2 H2 g =>
  k G2 g.g H2 xs g.s (g.f p n (by rw [hp]; intro z; cases z)) (g.h _ _ hp) hz E fun σ2 v2 G3 H3 g2 m2 b => q σ2 v2 G3 H3 (g.trans g2) m2 b
/-- xs = []; for x in data: .. xs.append(..) -/
theorem evl_build {wi : TI} {g : TG} {i : Nat} {ds : List D} {out : Nat → D} {I : Addr → Nat → Hp → L2.St → Prop} {C : D → Hp → L2.St → L2.St → Prop} (few : ds.length ≤ 90000) (hi : ∀ p, EvI wi (σ.set i (some (.ref p))) G ds) (mono : ∀ p i G1 G2 σ', Ex G1 G2 → I p i G1 σ' → I p i G2 σ')
    (h0 : ∀ p, I p 0 G (σ.set i (some (.ref p))))
    (hg : ∀ p j d σ' G1, ds[j]? = some d → Ex G G1 → I p j G1 σ' → EvG g σ' G1 d fun G2 σ2 => C d G2 σ' σ2)
    (hb : ∀ p j d σ' σ2 G1, ds[j]? = some d → Ex G G1 → I p j G1 σ' → C d G1 σ' σ2 → EvAp p t σ2 G1 (out j) (I p (j + 1)))
    (k : ∀ p σ2 G2, Ex G G2 → I p ds.length G2 σ2 → Dn G2 (.ref p) (.list ((List.range ds.length).map out)) → EvL K r sc u σ2 G2) :
    EvL K r sc (tSeq (tAsg (tLst tNil) (gName i)) (tSeq (tFor wi g t) u)) σ G := fun H st E q => by
  refine go_set (go_lst (go_nil ⟨Evl.sz_of (by show 0 ≤ 100000; decide), fun p hp => go_for ?_⟩))
  have ne := st.ne hp
  have gm0 := Gm.start (o := .lst []) st.s hp
  refine for_data (G := G) (hi p) gm0.s (fun G0 H0 j σ' H' => ∃ Gi xs, Ex G0 Gi ∧ Gm p G H Gi H' ∧ H' p = some (.lst xs) ∧ DnL Gi xs ((List.range j).map out) ∧ I p j Gi σ') (fun G0 H0 j σ' H' ⟨Gi, xs, x, gm, _⟩ => x.trans gm.s) (fun G0 H0 g0 => ?_) (fun G0 H0 j d x σ' H' G2 H2 g0 hd pv g2 nx => ?_) (fun G0 H0 σ' H' g0 pv => ?_)
  · obtain ⟨gm1, h1⟩ := gm0.step upd_same g0
    exact ⟨G0, [], Ex.refl _, gm1, h1, .nil, mono p 0 G G0 _ g0.g (h0 p)⟩
  · obtain ⟨Gi, xs, x1, gm, hpi, m, hI⟩ := pv
    obtain ⟨G3, e23, g3⟩ := grow_up x1 gm.s g2
    obtain ⟨gm3, hp3⟩ := gm.step hpi g3
    have hI3 := mono p j Gi G3 σ' g3.g hI
    refine hg p j d σ' G3 hd gm3.g hI3 x H2 gm3.s (Dn.mono e23 _ nx) _ fun σ2 hc => ?_
    have ln : xs.length = j := by rw [m.length, List.length_map, List.length_range]
    have lt := (List.getElem?_eq_some_iff.mp hd).1
    refine hb p j d σ' σ2 G3 hd gm3.g hI3 hc H2 xs gm3.s gm3.n hp3 (by omega) _ fun σ3 v G4 H4 g4 m4 b4 => ?_
    obtain ⟨gm4, hp4⟩ := gm3.step hp3 g4
    refine ⟨G4, xs ++ [v], x1.trans (g3.g.trans g4.g), gm4.put, upd_same, ?_, b4⟩
    rw [List.range_succ, List.map_append]
    exact (DnL.mono (g3.g.trans g4.g) _ m).snoc m4
  · obtain ⟨Gi, xs, x1, gm, hpi, m, hI⟩ := pv
    have gr := gm.close hp hpi
    have up : Ex Gi (upd Gi p (.lst xs)) := Ex.new gm.n
    exact k p σ' (upd Gi p (.lst xs)) gr.g (mono p _ Gi _ σ' up hI) (.lst upd_same (DnL.mono up _ m)) H' (st.gr gr) E q
end
theorem evr_taken {σ : L2.St} {G : Hp} {i : Nat} {K : PySem.W.Frag} {r sc : Addr} {te : TE} {m : Int} {E : XK} (hs : σ[i]? = some (some (.ref r))) (h : EvD te σ G (.int m)) (m0 : 0 < m) (m1 : m ≤ 1000000) (st : RowSt K r sc G H) (q : ∀ (v : Nat) G2 H2, (v : Int) < m → Gq K r sc G H G2 H2 → Q (.int v) H2) : tCall (spTaken K) [] E (tCons (tVar i) (tCons te tNil)) σ H Q :=
  ⟨_, hs, h H st.s _ fun v G2 H2 g n => by
    cases n
    have g1 := Gq.of st g
    exact ⟨r, sc, G2, m, rfl, m0, m1, g1.st, fun v H3 lt g2 => q v G2 H3 lt (g1.trans st g2)⟩⟩
/-- a pick, at Q -/
theorem evr_pick {σ : L2.St} {G : Hp} {i : Nat} {K : PySem.W.Frag} {r sc : Addr} {te : TE} {ds : List D} {E : XK} (hs : σ[i]? = some (some (.ref r))) (h : EvD te σ G (.list ds)) (l0 : 0 < ds.length) (l1 : ds.length ≤ 1000) (st : RowSt K r sc G H) (q : ∀ u d G2 H2, d ∈ ds → Dn G2 u d → Gq K r sc G H G2 H2 → Q u H2) : tCall (spPick K) [] E (tCons (tVar i) (tCons te tNil)) σ H Q :=
  ⟨_, hs, h H st.s _ fun v G2 H2 g n => by
    have g1 := Gq.of st g
    exact ⟨r, sc, G2, ds, v, rfl, g1.st, n, l0, l1, fun u d G3 H3 hd nd g2 => q u d G3 H3 hd nd (g1.trans st g2)⟩⟩
theorem takes0N {X : Cx} : L2N.Takes X (fun _ _ _ _ => False) := fun _ _ x => by
  obtain ⟨_, _, _, _, _, _, _, _, _, _, _, _, _, _, _, _, z⟩ := x
  exact z.elim
theorem evd_callS {σ : L2.St} {G : Hp} {ar : TA} {C : Addr} {W : WX} {dom : List D → Option D → Prop} {ds : List D} {c : D} (h : EvA ar σ G ds) (hc : dom ds (some c)) : EvD (tCallS (spR C dom) (WE W) ar) σ G c := fun H e Q q =>
  h H e _ fun vs G2 H2 g n => ⟨ds, some c, G2, g.s, n, hc, (fun c1 e1 v G3 H3 g2 n2 => by
    cases e1
    exact q v G3 H3 (g.trans g2) n2), fun z => nomatch z⟩
section
variable {K : PySem.W.Frag} {r sc : Addr} {σ : L2.St} {G : Hp} {ar : TA} {u : TS} {d e f : D}
theorem evl_par3 {i j l : Nat} (h : EvA ar σ G [d, e, f]) (k : ∀ x y z G2, Ex G G2 → Dn G2 x d → Dn G2 y e → Dn G2 z f → EvL K r sc u (((σ.set i (some x)).set j (some y)).set l (some z)) G2) : EvL K r sc (tSeq (tPar3 i j l ar) u) σ G := fun H st E q => h H st.s _ fun vs G2 H2 g n => by
  obtain ⟨x, r1, rfl, n1, n⟩ := dnc n
  obtain ⟨y, r2, rfl, n2, n⟩ := dnc n
  obtain ⟨z, r3, rfl, n3, n⟩ := dnc n
  obtain rfl := dnn n
  exact ⟨x, y, z, rfl, k x y z G2 g.g n1 n2 n3 H2 (st.gr g) E q⟩
end
end Sh

set_option Elab.async false
set_option linter.all false
set_option maxRecDepth 100000
set_option maxHeartbeats 4000000
/-! more rules by data -/
namespace Sh
open PySem PySem.Spec L2
open PyProof.Rows hiding St
open Evl (Ex)
section
variable {K : PySem.W.Frag} {σ : L2.St} {G : Hp} {te ta tb : TE} {d e : D}
theorem r_catT {ds es : List D} (h1 : 0 < ds.length) (h2 : 0 < es.length) (hz : ds.length + es.length ≤ 100000) : R2D (rCatT K) (.tuple ds) (.tuple es) (.tuple (ds ++ es)) G := fun G1 H x y _ ex hx hy Q q => by
  cases hx with
  | tup a1 a2 =>
    cases hy with
    | tup b1 b2 =>
      have l1 := a2.length
      have l2 := b2.length
      refine ⟨_, _, _, _, rfl, rfl, .inl (rdx ex a1), .inl (rdx ex b1), fun z => ?_, Evl.sz_of (by omega), fun z => ?_, fun _ p hp => ?_⟩
      · rw [z] at l1
        simp at l1
        omega
      · rw [z] at l2
        simp at l2
        omega
      · exact q _ (upd G1 p (.tup _)) _ (Gr.new ex hp) (.tup upd_same (DnL.mono (Ex.new (Evl.fresh_back ex hp)) _ (a2.app b2)))
theorem inV_int (x : Int) (xs : List Int) : inV (.int x) (xs.map V.int) = decide (x ∈ xs) := by
  unfold inV
  induction xs with
  | nil => simp
  | cons y ys ih =>
    rw [List.map_cons, List.any_cons, ih]
    show (decide (y = x) || decide (x ∈ ys)) = decide (x ∈ y :: ys)
    by_cases h : y = x
    · subst h
      simp
    · have h2 : ¬ x = y := fun e => h e.symm
      simp [h, h2]
theorem flat_ofInts (xs : List Int) : (xs.map V.int).all flatV = true := by
  induction xs with
  | nil => rfl
  | cons x xs ih => rw [List.map_cons, List.all_cons, ih] <;> rfl
theorem r_inI {x : Int} {xs : List Int} {neg : Bool} {b : Bool} (hb : (if neg then !decide (x ∈ xs) else decide (x ∈ xs)) = b) : R2D (rIn K neg) (.int x) (.list (intL xs)) (.bool b) G := fun G1 H u v _ ex hx hy Q q => by
  cases hx
  cases hy with
  | lst h1 h2 =>
    have e1 := dn_ints h2
    subst e1
    refine ⟨_, _, rfl, .inl (.inl (.inl (ex _ _ h1))), rfl, flat_ofInts xs, ?_⟩
    rw [inV_int, hb]
    exact q _ G1 H (Gr.refl ex) (.bl b)
theorem DnL.take {G : Hp} : ∀ {ds : List D} {vs : List V} (j : Nat), DnL G vs ds → DnL G (vs.take j) (ds.take j)
  | [], _, j, h => by
    cases h
    simp
    exact .nil
  | d :: ds, _, 0, h => by
    cases h
    exact .nil
  | d :: ds, _, j + 1, h => by
    cases h with
    | cons h1 h2 => exact .cons h1 (DnL.take j h2)
/-- t[:n] of a tuple -/
theorem evd_cutT {ds : List D} {n : Nat} (h : EvD te σ G (.tuple ds)) (k : EvD tb σ G (.int (n : Nat))) : EvD (tSl (rSlA K) te tNoPart (tPart tb)) σ G (.tuple (ds.take n)) := fun H e Q q =>
  h H e _ fun v G2 H2 g m => k.mono g.g H2 g.s _ fun u G3 H3 g2 m2 => by
    cases m2
    have m3 := Dn.mono g2.g _ m
    have gg := g.trans g2
    cases m3 with
    | tup h1 h2 =>
      rename_i a xs
      have len := h2.length
      refine ⟨_, rfl, a, xs, rfl, .inl (rdx gg.s h1), fun hw => ?_, fun hw p hp => ?_⟩
      · rw [HT.sIx_nat] at hw
        refine q _ G3 H3 gg ?_
        rw [List.take_of_length_le (by omega)]
        exact .tup h1 h2
      · have e1 : cutV xs none (some (n : Nat)) = xs.take n := by
          unfold cutV
          rw [HT.sIx_none, HT.sIx_nat, List.drop_zero, Nat.sub_zero]
          by_cases hn : n ≤ xs.length
          · rw [Nat.min_eq_left hn]
          · rw [Nat.min_eq_right (by omega), List.take_length, List.take_of_length_le (by omega)]
        rw [e1]
        exact q _ (upd G3 p (.tup (xs.take n))) _ (gg.trans (Gr.new gg.s hp)) (.tup upd_same (DnL.mono (Ex.new (Evl.fresh_back gg.s hp)) _ (DnL.take n h2)))
theorem eg_three {i1 i2 i3 : Nat} {d1 d2 d3 : D} : EvG (gTup K 3 (gCons (gName i1) (gCons (gName i2) (gCons (gName i3) gNil)))) σ G (.tuple [d1, d2, d3])
    (fun G σ2 => ∃ v1 v2 v3, σ2 = ((σ.set i1 (some v1)).set i2 (some v2)).set i3 (some v3) ∧ Dn G v1 d1 ∧ Dn G v2 d2 ∧ Dn G v3 d3) := fun x H ex n Q q => by
  cases n with
  | tup h1 h2 =>
    obtain ⟨v1, r1, rfl, n1, h2⟩ := dnc h2
    obtain ⟨v2, r2, rfl, n2, h2⟩ := dnc h2
    obtain ⟨v3, r3, rfl, n3, h2⟩ := dnc h2
    obtain rfl := dnn h2
    exact ⟨_, _, rfl, .inl (rdx ex h1), rfl, _, _, rfl, _, _, rfl, _, _, rfl, rfl, q _ ⟨_, _, _, rfl, n1, n2, n3⟩⟩
end
end Sh

set_option Elab.async false
set_option linter.all false
set_option maxRecDepth 100000
set_option maxHeartbeats 4000000
/-! several objects that change, the row of draws among them -/
namespace Sh
open PySem PySem.Spec L2
open PyProof.Rows hiding St
open Evl (Ex)
/-- growth but for the objects of L, which are not of what stands still -/
structure Gs (L : List Addr) (G H G2 H2 : Hp) : Prop where
  g : Ex G G2
  s : Ex G2 H2
  h : ∀ a o, a ∉ L → H a = some o → H2 a = some o
  f : ∀ a, G a = none → stiff (H a) ≠ none → G2 a = none
  n : ∀ a ∈ L, G2 a = none
  t : ∀ a ∈ L, stiff (H2 a) ≠ none
/-- the row in H -/
def RowAt (r sc : Addr) (H : Hp) : Prop := ∃ a b c : Int, 0 ≤ a ∧ H r = some (.lst [.ref sc, .int a, .int b, .int c])
section
variable {K : PySem.W.Frag} {L : List Addr} {p r sc : Addr} {G H G2 H2 G3 H3 : Hp} {o : HO}
theorem Gs.here (e : Ex G H) (n : ∀ a ∈ L, G a = none) (t : ∀ a ∈ L, stiff (H a) ≠ none) : Gs L G H G H := ⟨Ex.refl _, e, fun _ _ _ h => h, fun _ h _ => h, n, t⟩
theorem alive {L : List Addr} (h : ∀ a o, a ∉ L → H a = some o → H2 a = some o) (t : ∀ a ∈ L, stiff (H2 a) ≠ none) {a : Addr} (q : stiff (H a) ≠ none) : stiff (H2 a) ≠ none := by
  by_cases m : a ∈ L
  · exact t a m
  · exact stiff_up (fun o => h a o m) q
theorem Gs.step (a : Gs L G H G2 H2) (b : Gr G2 H2 G3 H3) : Gs L G H G3 H3 := ⟨a.g.trans b.g, b.s, fun x u hx q => b.h _ _ (a.h x u hx q), fun x h1 h2 => b.f x (a.f x h1 h2) (alive a.h a.t h2), fun x hx => b.f x (a.n x hx) (a.t x hx), fun x hx => stiff_up (b.h x) (a.t x hx)⟩
theorem Gs.stepQ (a : Gs L G H G2 H2) (hr : r ∈ L) (b : Gq K r sc G2 H2 G3 H3) : Gs L G H G3 H3 := by
  have t3 : ∀ x, stiff (H2 x) ≠ none → stiff (H3 x) ≠ none := fun x hx => by
    by_cases e : x = r
    · subst e
      obtain ⟨_, _, _, _, z⟩ := b.st.row
      rw [z]
      intro y
      cases y
    · exact stiff_up (fun u => b.h x u e) hx
  exact ⟨a.g.trans b.g, b.st.s, fun x u hx q => b.h x u (fun z => hx (by rw [z]; exact hr)) (a.h x u hx q), fun x h1 h2 => b.f x (a.f x h1 h2) (alive a.h a.t h2), fun x hx => b.f x (a.n x hx) (a.t x hx), fun x hx => t3 x (a.t x hx)⟩
theorem Gs.put (a : Gs L G H G2 H2) (hp : p ∈ L) (lo : stiff (some o) ≠ none := by intro z; cases z) : Gs L G H G2 (upd H2 p o) := ⟨a.g, Ex.mut a.s (a.n p hp), fun x u hx q => by
  rw [upd_ne (fun z => hx (by rw [z]; exact hp))]
  exact a.h x u hx q, a.f, a.n, fun x hx => by
  by_cases e : x = p
  · subst e
    rw [upd_same]
    exact lo
  · rw [upd_ne e]
    exact a.t x hx⟩
theorem Gs.new (a : Gs L G H G2 H2) (hp : H2 p = none) (lo : stiff (some o) ≠ none := by intro z; cases z) : Gs (p :: L) G H G2 (upd H2 p o) := by
  have np : ∀ {x : Addr}, H2 x ≠ none → x ≠ p := fun h z => h (by rw [z]; exact hp)
  refine ⟨a.g, a.s.trans (Ex.new hp), fun x u hx q => ?_, a.f, fun x hx => ?_, fun x hx => ?_⟩
  · have z := a.h x u (fun m => hx (List.mem_cons_of_mem _ m)) q
    rw [upd_ne (np (by rw [z]; intro y; cases y))]
    exact z
  · rcases List.mem_cons.mp hx with rfl | hx
    · exact Evl.fresh_back a.s hp
    · exact a.n x hx
  · rcases List.mem_cons.mp hx with rfl | hx
    · rw [upd_same]
      exact lo
    · rw [upd_ne (np (fun z => a.t x hx (stf z)))]
      exact a.t x hx
/-- what it has become stands still now -/
theorem Gs.close (a : Gs (p :: L) G H G2 H2) (hp : H p = none) (h2 : H2 p = some o) (hL : p ∉ L) : Gs L G H (upd G2 p o) H2 := ⟨a.g.trans (Ex.new (a.n p List.mem_cons_self)), Ex.lend a.s h2, fun x u hx q => a.h x u (fun m => by
  rcases List.mem_cons.mp m with rfl | m
  · rw [hp] at q
    cases q
  · exact hx m) q, fun x h1 h3 => by
  have hx : x ≠ p := fun z => h3 (by rw [z]; exact stf hp)
  rw [upd_ne hx]
  exact a.f x h1 h3, fun x hx => by
  rw [upd_ne (fun z => hL (by rw [← z]; exact hx))]
  exact a.n x (List.mem_cons_of_mem _ hx), fun x hx => a.t x (List.mem_cons_of_mem _ hx)⟩
theorem Gs.row (a : Gs L G H G2 H2) (hr : r ∈ L) (w : RowAt r sc H2) (sr : ∃ ns : List Int, SqL K G sc (ns.map V.int)) : RowSt K r sc G2 H2 := ⟨a.s, a.n r hr, w, let ⟨ns, h⟩ := sr; ⟨ns, sqx a.g h⟩⟩
theorem Gq.at (b : Gq K r sc G H G2 H2) : RowAt r sc H2 := b.st.row
theorem Gs.q (a : Gs [r] G H G2 H2) (w : RowAt r sc H2) (sr : ∃ ns : List Int, SqL K G sc (ns.map V.int)) : Gq K r sc G H G2 H2 := ⟨a.g, a.row List.mem_cons_self w sr, fun x u hx q => a.h x u (fun m => by
  rw [List.mem_singleton] at m
  exact hx m) q, a.f⟩
theorem RowAt.put {H : Hp} (w : RowAt r sc H) (h : p ≠ r) : RowAt r sc (upd H p o) := by
  obtain ⟨a, b, c, h1, h2⟩ := w
  exact ⟨a, b, c, h1, by rw [upd_ne (fun z => h z.symm)]; exact h2⟩
theorem RowAt.gr {H H2 : Hp} (w : RowAt r sc H) (b : Gr G H G2 H2) : RowAt r sc H2 := by
  obtain ⟨a, bb, c, h1, h2⟩ := w
  exact ⟨a, bb, c, h1, b.h _ _ h2⟩
end
section
variable {K : PySem.W.Frag} {σ : L2.St} {G H : Hp} {Q : VK} {r sc : Addr} {i : Nat}
/-- t[:1 + a draw] -/
theorem evr_sl {te : TE} {xs : List Str} {m : Nat} {E : XK} (hs : σ[i]? = some (some (.ref r))) (h : EvD te σ G (.tuple (strL xs))) (m0 : 0 < m) (m1 : m ≤ xs.length) (m2 : m ≤ 1000) (st : RowSt K r sc G H) (q : ∀ (v : Nat) u G2 H2, v < m → Gq K r sc G H G2 H2 → Dn G2 u (.tuple (strL (xs.take (1 + v)))) → Q u H2) :
    tSl (rSlA K) te tNoPart (tPart (tOp (rI0 fun i j => .int (i + j)) (tC (.int 1)) (tCall (spTaken K) [] E (tCons (tVar i) (tCons (tC (.int (m : Nat))) tNil))))) σ H Q := h H st.s _ fun x G2 H2 g n => by
  have g1 := Gq.of st g
  refine evr_taken (m := (m : Nat)) hs evd_int (by omega) (by omega) g1.st fun v G3 H3 lt g2 => ⟨_, _, rfl, rfl, _, rfl, ?_⟩
  have gg := g1.trans st g2
  have n3 := Dn.mono g2.g _ n
  cases n3 with
  | tup h1 h2 =>
    have e1 := dn_strs h2
    subst e1
    have ei : HT.sIx (xs.map V.str).length (xs.map V.str).length (some (1 + (v : Int))) = 1 + v := by
      rw [show (1 : Int) + (v : Int) = ((1 + v : Nat) : Int) by omega, HT.sIx_nat, List.length_map]
      omega
    refine ⟨_, _, rfl, .inl (rdx g2.st.s h1), fun hw => ?_, fun hw p hp => ?_⟩
    · rw [ei, List.length_map] at hw
      refine q v _ G3 H3 (by omega) gg ?_
      rw [hw.2, List.take_length]
      exact .tup h1 (strs_dn xs)
    · have ec : cutV (xs.map V.str) none (some (1 + (v : Int))) = (xs.take (1 + v)).map V.str := by
        unfold cutV
        rw [ei, HT.sIx_none, List.drop_zero, Nat.sub_zero, List.map_take]
      rw [ec]
      have g3 := gg.trans st (Gq.of gg.st (Gr.new (o := .tup ((xs.take (1 + v)).map V.str)) gg.st.s hp))
      exact q v _ _ _ (by omega) g3 (.tup upd_same (strs_dn _))
end
theorem dn_str {G : Hp} {v : V} {x : Str} (h : Dn G v (.str x)) : v = .str x := by
  cases h
  rfl
theorem str_at {xs : List Str} {i : Nat} {d : D} (h : (strL xs)[i]? = some d) : ∃ x, xs[i]? = some x ∧ d = .str x := by
  unfold strL at h
  rw [List.getElem?_map] at h
  cases q : xs[i]? with
  | none =>
    rw [q] at h
    cases h
  | some x =>
    rw [q] at h
    exact ⟨x, rfl, (Option.some.inj h).symm⟩
theorem Gq.gs {K : PySem.W.Frag} {r sc : Addr} {G H G2 H2 : Hp} (g : Gq K r sc G H G2 H2) : Gs [r] G H G2 H2 := ⟨g.g, g.st.s, fun a o ha q => g.h a o (fun z => ha (by rw [z]; exact List.mem_cons_self)) q, g.f, fun a ha => by
  rw [List.mem_singleton] at ha
  rw [ha]
  exact g.st.n, fun a ha => by
  rw [List.mem_singleton] at ha
  rw [ha]
  obtain ⟨_, _, _, _, z⟩ := g.st.row
  rw [z]
  intro y
  cases y⟩
/-- a for over range(n), n drawn -/
theorem rng_go {n : Nat} (hn : n ≤ 1000000) {σ : L2.St} {H1 : Hp} {E : Ends} {tb : TS} {j : Nat} (Pv : Nat → L2.St → Hp → Prop) (h0 : Pv 0 σ H1) (hs : ∀ i σ' H', i < n → Pv i σ' H' → tb { E with nx := Pv (i + 1), ct := Pv (i + 1), bk := E.nx } (σ'.set j (some (.int (i : Nat)))) H') (hd : ∀ σ' H', Pv n σ' H' → E.nx σ' H') :
    ∃ k : Int, [V.int (n : Nat)] = [.int k] ∧ -(2 ^ 62) ≤ k ∧ k < 2 ^ 62 ∧ ∃ W : Nat → Nat → L2.St → Hp → Prop, (∃ m, W 0 m σ H1) ∧ ∀ i m σ H, W i m σ H → ((Itr 0 k.toNat).stop i H ∧ E.nx σ H) ∨ ((Itr 0 k.toNat).go i H ∧ ∃ N : L2.St → Hp → Prop, (∀ σ' H', N σ' H' → ∃ m', m' < m ∧ W (i + 1) m' σ' H') ∧ ∀ x H', (Itr 0 k.toNat).yld i H x H' → gName j x σ H' fun σ2 H2 => tb { E with nx := N, ct := N, bk := E.nx } σ2 H2) := by
  refine ⟨(n : Nat), rfl, by omega, by omega, fun i m σ' H' => m = n - i ∧ i ≤ n ∧ Pv i σ' H', ⟨n, by simp, Nat.zero_le _, h0⟩, ?_⟩
  rintro i m σ' H' ⟨rfl, hi, p⟩
  by_cases lt : i < n
  · refine .inr ⟨?_, Pv (i + 1), fun σ2 H2 p2 => ⟨n - (i + 1), by omega, rfl, lt, p2⟩, fun x H2 y => ?_⟩
    · show i < ((n : Nat) : Int).toNat
      omega
    · obtain ⟨rfl, rfl⟩ := y
      have z := hs i σ' H2 lt p
      show tb _ (σ'.set j (some (.int (0 + (i : Nat))))) H2
      rw [Int.zero_add]
      exact z
  · obtain rfl : i = n := by omega
    refine .inl ⟨?_, hd σ' H' p⟩
    show ((i : Nat) : Int).toNat ≤ i
    omega
end Sh

set_option Elab.async false
set_option linter.all false
set_option maxRecDepth 100000
set_option maxHeartbeats 4000000
/-! lists picked from, loops over a drawn range, == of data -/
namespace Sh
open PySem PySem.Spec L2
open PyProof.Rows hiding St
open Evl (Ex)
theorem perm_erase {α : Type} : ∀ {l : List α} {i : Nat} {x : α}, l[i]? = some x → (x :: l.eraseIdx i).Perm l
  | [], _, _, h => by simp at h
  | y :: l, 0, x, h => by
    have e : y = x := by simpa using h
    subst e
    exact List.Perm.refl _
  | y :: l, i + 1, x, h => by
    have k := perm_erase (l := l) (i := i) (x := x) (by simpa using h)
    exact (List.Perm.swap y x _).trans (k.cons y)
theorem erase_map {α β : Type} (f : α → β) : ∀ (l : List α) (i : Nat), (l.map f).eraseIdx i = (l.eraseIdx i).map f
  | [], _ => rfl
  | _ :: _, 0 => rfl
  | x :: l, i + 1 => by
    show f x :: (l.map f).eraseIdx i = f x :: (l.eraseIdx i).map f
    rw [erase_map f l i]
theorem seq_at {v n : Nat} (h : v < n) : seqIndex? (v : Int) n = some v := by
  have z : ixN n ((v : Nat) : Int) = some v := by
    unfold ixN
    rw [if_pos (by omega), if_pos (by omega)]
    rfl
  exact (ixN_seq z).1
theorem r_eqD {K : PySem.W.Frag} {G : Hp} {d e : D} {b : Bool} (f1 : flatD d = true) (f2 : flatD e = true) (s1 : SeqAt.shaped d = true) (s2 : SeqAt.shaped e = true) (h : PyData.eqv d e = b) : R2D (rEqD K) d e (.bool b) G := fun G1 H u v _ ex hx hy Q q =>
  ⟨d, e, (Dn.dp d f1 (Dn.mono ex _ hx)), (Dn.dp e f2 (Dn.mono ex _ hy)), s1, s2, by rw [h]; exact q _ G1 H (Gr.refl ex) (.bl b)⟩
theorem r_neD {K : PySem.W.Frag} {G : Hp} {d e : D} {b : Bool} (f1 : flatD d = true) (f2 : flatD e = true) (s1 : SeqAt.shaped d = true) (s2 : SeqAt.shaped e = true) (h : (!PyData.eqv d e) = b) : R2D (rNeD K) d e (.bool b) G := fun G1 H u v _ ex hx hy Q q =>
  ⟨d, e, (Dn.dp d f1 (Dn.mono ex _ hx)), (Dn.dp e f2 (Dn.mono ex _ hy)), s1, s2, by rw [h]; exact q _ G1 H (Gr.refl ex) (.bl b)⟩
theorem r_isN {G : Hp} {d : D} {b : Bool} (h : (match d with | .none => true | _ => false) = b) : R2D (fun x y H Q => y = .non ∧ Q (.bl (decide (x = .non))) H) d .none (.bool b) G := fun G1 H u v _ ex hx hy Q q => by
  cases hy
  have e : decide (u = V.non) = b := by
    rw [← h]
    cases hx <;> simp
  refine ⟨rfl, ?_⟩
  rw [e]
  exact q _ G1 H (Gr.refl ex) (.bl b)
theorem filter_no {α : Type} (l : List α) : l.filter (fun _ => false) = [] := by
  induction l with
  | nil => rfl
  | cons x xs ih =>
    rw [List.filter_cons, if_neg (by decide), ih]
section
variable {σ : L2.St} {H : Hp}
theorem go_fr {ar : TA} {j : Nat} {tb : TS} {D : Ends} (h : ar σ H fun vs H1 => ∃ k : Int, vs = [.int k] ∧ -(2 ^ 62) ≤ k ∧ k < 2 ^ 62 ∧ ∃ W : Nat → Nat → L2.St → Hp → Prop, (∃ m, W 0 m σ H1) ∧ ∀ i m σ H, W i m σ H → ((Itr 0 k.toNat).stop i H ∧ D.nx σ H) ∨ ((Itr 0 k.toNat).go i H ∧ ∃ N : L2.St → Hp → Prop, (∀ σ' H', N σ' H' → ∃ m', m' < m ∧ W (i + 1) m' σ' H') ∧ ∀ x H', (Itr 0 k.toNat).yld i H x H' → gName j x σ H' fun σ2 H2 => tb { D with nx := N, ct := N, bk := D.nx } σ2 H2)) : tFor (iRng1 ar) (gName j) tb D σ H := h
theorem rngK_go {n : Nat} {k0 : Int} (hk : k0 = (n : Nat)) (hn : n ≤ 1000000) {H1 : Hp} {E : Ends} {tb : TS} {j : Nat} (Pv : Nat → L2.St → Hp → Prop) (h0 : Pv 0 σ H1) (hs : ∀ i σ' H', i < n → Pv i σ' H' → tb { E with nx := Pv (i + 1), ct := Pv (i + 1), bk := E.nx } (σ'.set j (some (.int (i : Nat)))) H') (hd : ∀ σ' H', Pv n σ' H' → E.nx σ' H') :
    ∃ k : Int, [V.int k0] = [.int k] ∧ -(2 ^ 62) ≤ k ∧ k < 2 ^ 62 ∧ ∃ W : Nat → Nat → L2.St → Hp → Prop, (∃ m, W 0 m σ H1) ∧ ∀ i m σ H, W i m σ H → ((Itr 0 k.toNat).stop i H ∧ E.nx σ H) ∨ ((Itr 0 k.toNat).go i H ∧ ∃ N : L2.St → Hp → Prop, (∀ σ' H', N σ' H' → ∃ m', m' < m ∧ W (i + 1) m' σ' H') ∧ ∀ x H', (Itr 0 k.toNat).yld i H x H' → gName j x σ H' fun σ2 H2 => tb { E with nx := N, ct := N, bk := E.nx } σ2 H2) := by
  subst hk
  exact rng_go hn Pv h0 hs hd
theorem pure_len {K : PySem.W.Frag} {i : Nat} {l : Addr} {xs : List V} {Q : VK} (hs : σ[i]? = some (some (.ref l))) (hl : H l = some (.lst xs)) (q : Q (.int (xs.length : Nat)) H) : tCB (rLenD K) (tCons (tVar i) tNil) σ H Q := ⟨_, hs, _, _, rfl, .inl ⟨_, .inl (.inl hl), rfl⟩, q⟩
theorem evr_takenP {G : Hp} {i : Nat} {K : PySem.W.Frag} {r sc : Addr} {te : TE} {m : Int} {E : XK} {Q : VK} (hs : σ[i]? = some (some (.ref r))) (h : ∀ Q' : VK, Q' (.int m) H → te σ H Q') (m0 : 0 < m) (m1 : m ≤ 1000000) (st : RowSt K r sc G H) (q : ∀ (v : Nat) G2 H2, (v : Int) < m → Gq K r sc G H G2 H2 → Q (.int v) H2) : tCall (spTaken K) [] E (tCons (tVar i) (tCons te tNil)) σ H Q :=
  ⟨_, hs, h _ ⟨r, sc, G, m, rfl, m0, m1, st, fun v H3 lt g2 => q v G H3 lt g2⟩⟩
theorem pure_min {te : TE} {a b : Int} {Q : VK} (h : ∀ Q' : VK, Q' (.int b) H → te σ H Q') (q : Q (.int (if b < a then b else a)) H) : tCB (fun xs H Q => ∃ i j, xs = [.int i, .int j] ∧ Q (.int (if j < i then j else i)) H) (tCons (tC (.int a)) (tCons te tNil)) σ H Q := h _ ⟨a, b, rfl, q⟩
end
theorem Gs.fresh {L : List Addr} {p : Addr} {G H G2 H2 : Hp} (a : Gs L G H G2 H2) (h : H2 p = none) : H p = none := by
  cases z : H p with
  | none => rfl
  | some o =>
    have m : p ∉ L := fun m => a.t p m (stf h)
    have y := a.h p o m z
    rw [h] at y
    cases y
theorem Gs.ne {L : List Addr} {p x : Addr} {G H G2 H2 : Hp} (a : Gs L G H G2 H2) (h : H2 p = none) (m : x ∈ L) : p ≠ x := fun z => a.t x m (by rw [← z]; exact stf h)
def layS (x : Str) : Bool := PyData.canLay0 (.str x)
theorem canLay_strs : ∀ xs : List Str, (∀ x ∈ xs, layS x = true) → PyData.canLayAll0 (strL xs) = true
  | [], _ => rfl
  | x :: xs, h => by
    show (PyData.canLay0 (.str x) && PyData.canLayAll0 (strL xs)) = true
    rw [canLay_strs xs fun y hy => h y (List.mem_cons_of_mem _ hy), Bool.and_true]
    exact h x List.mem_cons_self
theorem depth_strs : ∀ xs : List Str, PyData.depthAll (strL xs) = 0
  | [] => rfl
  | x :: xs => by
    show max (PyData.depth (.str x)) (PyData.depthAll (strL xs)) = 0
    rw [depth_strs xs]
    rfl
theorem shaped_strs (xs : List Str) (h : ∀ x ∈ xs, layS x = true) : SeqAt.shaped (.list (strL xs)) = true := by
  show (PyData.canLayAll0 (strL xs) && decide (PyData.depthAll (strL xs) + 1 ≤ 64)) = true
  rw [canLay_strs xs h, depth_strs]
  rfl
theorem flat_strs : ∀ xs : List Str, flatDs (strL xs) = true
  | [] => rfl
  | x :: xs => by
    show (flatD (.str x) && flatDs (strL xs)) = true
    rw [flat_strs xs]
    rfl
theorem eqv_strs (xs : List Str) : PyData.eqv (.list (strL xs)) (.list []) = xs.isEmpty := by
  cases xs with
  | nil => rfl
  | cons x xs => rfl
/-- xs == [], xs of texts -/
theorem r_void {K : PySem.W.Frag} {G : Hp} (xs : List Str) (h : ∀ x ∈ xs, layS x = true) : R2D (rEqD K) (.list (strL xs)) (.list []) (.bool xs.isEmpty) G := r_eqD (by show flatDs (strL xs) = true; exact flat_strs xs) rfl (shaped_strs xs h) (by decide +kernel) (eqv_strs xs)
section
variable {σ : L2.St} {H : Hp} {K : PySem.W.Frag}
theorem go_ifE {t : TT} {ta tb : TE} {Q : VK} (h : t σ H fun c H1 => if c = true then ta σ H1 Q else tb σ H1 Q) : tIf t ta tb σ H Q := h
/-- xs.pop(k): the list at l is one shorter -/
theorem pop_at {l : Addr} {xs : List Str} {k : Nat} {x : Str} {Q : VK} (hl : H l = some (.lst (xs.map V.str))) (hx : xs[k]? = some x) (hz : xs.length ≤ 1000000) (q : Q (.str x) (upd H l (.lst ((xs.eraseIdx k).map V.str)))) : rPopAt (.ref l) [.int (k : Nat)] H Q := by
  have lt := (List.getElem?_eq_some_iff.mp hx).1
  refine ⟨l, _, _, k, .str x, rfl, rfl, hl, by omega, by omega, ?_, ?_, ?_⟩
  · rw [List.length_map]
    exact seq_at lt
  · rw [List.getElem?_map, hx]
    rfl
  · rw [erase_map]
    exact q
end
end Sh

set_option Elab.async false
set_option linter.all false
set_option maxRecDepth 100000
set_option maxHeartbeats 4000000
/-! zip of three lists or tuples -/
namespace ShW
open PySem PySem.Spec PyProof.Rows L2
section
variable {P : Program} {w : World} {K : PySem.W.Frag} {k k1 k2 k3 : Kd} {a b c it z TI TO i1 i2 i3 : Addr}
/-- the things at a, b and c, side by side -/
def ItZ3 (K : PySem.W.Frag) (k1 k2 k3 : Kd) (a b c : Addr) : It where
  go := fun i H => ∃ (xs ys zs : List V) (x y u : V), SqK K k1 H a xs ∧ SqK K k2 H b ys ∧ SqK K k3 H c zs ∧ xs[i]? = some x ∧ ys[i]? = some y ∧ zs[i]? = some u
  yld := fun i H v H' => ∃ T x y u, v = .ref T ∧ H T = none ∧ H' = upd H T (.tup [x, y, u]) ∧ (∀ xs, SqK K k1 H a xs → xs[i]? = some x) ∧ (∀ ys, SqK K k2 H b ys → ys[i]? = some y) ∧ ∀ zs, SqK K k3 H c zs → zs[i]? = some u
  stop := fun i H => ∃ xs ys zs : List V, SqK K k1 H a xs ∧ SqK K k2 H b ys ∧ SqK K k3 H c zs ∧ i = min (min xs.length ys.length) zs.length
/-- a zip's cells lie apart -/
structure Apart3 (z TI TO i1 i2 i3 a b c : Addr) : Prop where
  s : ZipSep3 z TI TO i1 i2 i3 [i1, a] [i2, b] [i3, c]
  a1 : a ≠ i1
  b2 : b ≠ i2
  c3 : c ≠ i3
theorem apart3_new {N a b c : Nat} (h1 : a < N) (h2 : b < N) (h3 : c < N) : Apart3 (N + 5) (N + 3) (N + 4) N (N + 1) (N + 2) a b c := by
  have ne : ∀ {x y : Nat}, x ≠ y → (x : Addr) ≠ y := fun h => h
  have ni : ∀ {x y v : Nat}, x ≠ y → x ≠ v → (x : Addr) ∉ [y, v] := fun h1 h2 h => by
    rcases List.mem_cons.mp h with h | h
    · exact h1 h
    · exact h2 (List.mem_singleton.mp h)
  exact ⟨⟨ne (by omega), ne (by omega), ne (by omega), ne (by omega), List.mem_cons_self, ni (by omega) (by omega), ni (by omega) (by omega), ne (by omega), List.mem_cons_self, ni (by omega) (by omega), ni (by omega) (by omega), ne (by omega), List.mem_cons_self, ni (by omega) (by omega), ni (by omega) (by omega),
    ni (by omega) (by omega), ni (by omega) (by omega), ni (by omega) (by omega), ni (by omega) (by omega), ni (by omega) (by omega), ni (by omega) (by omega)⟩, ne (by omega), ne (by omega), ne (by omega)⟩
theorem begins_K (k : Kd) (a : Addr) (xs : Array Value) : Begins (.ref a) { cls := .type (itN k), data := .fields #[.ref a, .int 0 0] } fun h => SeqK h k a xs := by
  cases k with
  | t => exact begins_tuple a xs
  | l => exact begins_list a xs
theorem turn_zipK3 {elts : List Expr} {kk : Nat} {tpos : Pos} (D : Apart3 z TI TO i1 i2 i3 a b c) :
    Turn P w K (.Tuple elts kk tpos) (ItZ3 K k1 k2 k3 a b c) [z, TI, TO, i1, i2, i3] z (fun i h => IsZip h z TI TO .none ∧ IsTupOf3 h TI (.ref i1) (.ref i2) (.ref i3) ∧ (∃ x y u, IsTupOf3 h TO x y u) ∧ IterK h k1 i1 a i ∧ IterK h k2 i2 b i ∧ IterK h k3 i3 c i) where
  mem := by simp
  obj := fun i h st d hd => by
    obtain ⟨e0, e1, ⟨x, y, u, e2⟩, ⟨o3, e3, _, d3⟩, ⟨o4, e4, _, d4⟩, ⟨o5, e5, _, d5⟩⟩ := st
    simp only [List.mem_cons, List.not_mem_nil, or_false] at hd
    rcases hd with rfl | rfl | rfl | rfl | rfl | rfl
    · exact ⟨_, e0, fun v q => nomatch q⟩
    · exact ⟨_, e1, fun v q => nomatch q⟩
    · exact ⟨_, e2, fun v q => nomatch q⟩
    · exact ⟨o3, e3, fun v q => by rw [d3] at q; cases q⟩
    · exact ⟨o4, e4, fun v q => by rw [d4] at q; cases q⟩
    · exact ⟨o5, e5, fun v q => by rw [d5] at q; cases q⟩
  keep := fun i h h' st q => by
    obtain ⟨e0, e1, ⟨x, y, u, e2⟩, e3, e4, e5⟩ := st
    exact ⟨q z (by simp) _ e0, q TI (by simp) _ e1, ⟨x, y, u, q TO (by simp) _ e2⟩, e3.keep fun o e => q i1 (by simp) o e, e4.keep fun o e => q i2 (by simp) o e, e5.keep fun o e => q i3 (by simp) o e⟩
  item := by
    intro X hP hw hK hc i pins s σ H E I hf st hg
    subst hP hw hK
    obtain ⟨e0, e1, e2, e3, e4, e5⟩ := st
    obtain ⟨xs, ys, zs, x, y, u, qx, qy, qz, hx, hy, hz⟩ := hg
    obtain ⟨us, r1, p1⟩ := SqK.at I qx
    obtain ⟨vs, r2, p2⟩ := SqK.at I qy
    obtain ⟨ws, r3, p3⟩ := SqK.at I qz
    obtain ⟨u1, hu1, ru1⟩ := r1.get hx
    obtain ⟨u2, hu2, ru2⟩ := r2.get hy
    obtain ⟨u3, hu3, ru3⟩ := r3.get hz
    have l1 : i < us.toArray.size := by
      rw [List.size_toArray]
      exact (List.getElem?_eq_some_iff.mp hu1).1
    have l2 : i < vs.toArray.size := by
      rw [List.size_toArray]
      exact (List.getElem?_eq_some_iff.mp hu2).1
    have l3 : i < ws.toArray.size := by
      rw [List.size_toArray]
      exact (List.getElem?_eq_some_iff.mp hu3).1
    have hd : X.A.in1.handled = none := I.ok.hd hc
    have W := GoesN.zip3 (elts := elts) (x1 := kk) (pos := tpos) D.s (drawsK (prog := X.prog) (w := X.w) (k := k1) hd D.a1 (xs := us.toArray)) (drawsK (prog := X.prog) (w := X.w) (k := k2) hd D.b2 (xs := vs.toArray)) (drawsK (prog := X.prog) (w := X.w) (k := k3) hd D.c3 (xs := ws.toArray))
    refine W.goes i s _ E (by omega) ⟨e0, e1, e2, ⟨e3, p1⟩, ⟨e4, p2⟩, ⟨e5, p3⟩⟩ fun T' h' tk hY st' hk htk => ?_
    obtain ⟨T, x1, x2, x3, rfl, hT, a1, a2, a3, hTup⟩ := hY
    obtain ⟨f0, f1, f2, ⟨f3, _⟩, ⟨f4, _⟩, ⟨f5, _⟩⟩ := st'
    have b1 : x1 = u1 := Option.some.inj (a1.symm.trans (by simpa using hu1))
    have b2 : x2 = u2 := Option.some.inj (a2.symm.trans (by simpa using hu2))
    have b3 : x3 = u3 := Option.some.inj (a3.symm.trans (by simpa using hu3))
    subst b1 b2 b3
    have hk' : ∀ c o, c ∉ [z, TI, TO, i1, i2, i3] → s.heap.get? c = some o → h'.get? c = some o := fun c o hc => hk c o fun q => hc (by
      simp only [List.mem_cons, List.not_mem_nil, or_false] at q ⊢
      rcases q with q | q | q | q | q <;> simp [q])
    have new : ObjOk X.prog X.w (upd H T (.tup [x, y, u])) h' T (.tup [x, y, u]) := ⟨by show 3 ≤ sizeLine; decide, [x1, x2, x3], .cons ru1 (.cons ru2 (.cons ru3 .nil)), hTup⟩
    refine ⟨.ref T, upd H T (.tup [x, y, u]), I.turnedNew (t' := tk) hk' hf hT new, rfl, ⟨T, x, y, u, rfl, I.hok.fresh hT, rfl, fun l hl => by rw [SqK.one I hl qx]; exact hx, fun l hl => by rw [SqK.one I hl qy]; exact hy, fun l hl => by rw [SqK.one I hl qz]; exact hz⟩, ⟨f0, f1, f2, f3, f4, f5⟩, fun d hd => ?_⟩
    have lt : d < s.heap.objs.size := by
      obtain ⟨o3, g3, _⟩ := e3
      obtain ⟨o4, g4, _⟩ := e4
      obtain ⟨o5, g5, _⟩ := e5
      obtain ⟨_, _, _, g2⟩ := e2
      simp only [List.mem_cons, List.not_mem_nil, or_false] at hd
      rcases hd with rfl | rfl | rfl | rfl | rfl | rfl
      · exact Heap.lt_size e0
      · exact Heap.lt_size e1
      · exact Heap.lt_size g2
      · exact Heap.lt_size g3
      · exact Heap.lt_size g4
      · exact Heap.lt_size g5
    rw [upd_ne (Nat.ne_of_lt (Nat.lt_of_lt_of_le lt hT))]
    exact (hf d hd).1
  done := by
    intro X hP hw hK hc i pins s σ H E I hf st hg
    subst hP hw hK
    obtain ⟨e0, e1, ⟨y1, y2, y3, e2⟩, e3, e4, e5⟩ := st
    obtain ⟨xs, ys, zs, qx, qy, qz, hend⟩ := hg
    obtain ⟨us, r1, p1⟩ := SqK.at I qx
    obtain ⟨vs, r2, p2⟩ := SqK.at I qy
    obtain ⟨ws, r3, p3⟩ := SqK.at I qz
    have hd : X.A.in1.handled = none := I.ok.hd hc
    have l1 : us.toArray.size = xs.length := by rw [List.size_toArray, r1.length]
    have l2 : vs.toArray.size = ys.length := by rw [List.size_toArray, r2.length]
    have l3 : ws.toArray.size = zs.length := by rw [List.size_toArray, r3.length]
    refine wpAny_with_toks (Nat.le_refl s.toks) (wpAny_pyNext_zipD3_end (i := i) D.s (drawsK (prog := X.prog) (w := X.w) (k := k1) hd D.a1 (xs := us.toArray)) (drawsK (prog := X.prog) (w := X.w) (k := k2) hd D.b2 (xs := vs.toArray)) (drawsK (prog := X.prog) (w := X.w) (k := k3) hd D.c3 (xs := ws.toArray)) e0 e1 e2 ⟨e3, p1⟩ ⟨e4, p2⟩ ⟨e5, p3⟩ (by omega) (by omega) (by omega) (by omega) fun h' tk hk _ => ⟨rfl, ?_⟩)
    exact I.turnedL (t' := tk) (ch := [z, TI, TO, i1, i2, i3]) (fun c o hc q => hk c o (fun q' => hc (by simp [q'])) (fun q' => hc (by simp [q'])) (fun q' => hc (by simp [q'])) (fun q' => hc (by simp [q'])) (fun q' => hc (by simp [q'])) q) hf
  self := fun A i s Q E st h => wpAny_pyIter_zip st.1 h
end
section
variable {X : Cx} {e e2 e3 : Expr} {ta : TA} {p pos tpos : Pos} {elts : List Expr} {kk : Nat} {k1 k2 k3 : Kd}
def iZK3 (K : PySem.W.Frag) (k1 k2 k3 : Kd) (ta : TA) : TI := fun σ H R => ta σ H fun vs H1 => ∃ a b c xs ys zs, vs = [.ref a, .ref b, .ref c] ∧ SqK K k1 H1 a xs ∧ SqK K k2 H1 b ys ∧ SqK K k3 H1 c zs ∧ R (ItZ3 K k1 k2 k3 a b c) H1
theorem vals3 {us : List Value} {a b c : V} (h : Vals [a, b, c] us) : ∃ u v x, us = [u, v, x] ∧ RelV a u ∧ RelV b v ∧ RelV c x := by
  cases h with
  | cons h1 h => cases h with
    | cons h2 h => cases h with
      | cons h3 h =>
        cases h
        exact ⟨_, _, _, rfl, h1, h2, h3⟩
theorem pi_zK3 (hm : X.mg "zip" = none) (ha : PA X [e, e2, e3] ta) (hg : Gl X "zip" := by rfl) (hs : starEach [e, e2, e3] X.env = (false, eval e X.env) :: starEach [e2, e3] X.env := by rfl) (hpl : (backTo pos (starEach [e2, e3] X.env)).any (·.1) = false := by rfl) :
    PI X (.Tuple elts kk tpos) (.Call (.Name "zip" p) [e, e2, e3] [] pos) (iZK3 X.K k1 k2 k3 ta) := by
  refine ⟨fun pins s σ H R I h => ?_⟩
  refine Call_ (ld_blt I hg hm PyProof.Rows.boot_zip (PyProof.Rows.callWith_type1 (thn (ha.run pos pins s σ H _ I h) fun us s1 ⟨vs, H1, I1, r1, a, b, c, xs, ys, zs, ex, qx, qy, qz, q⟩ => ?_) hs hpl))
  subst ex
  obtain ⟨u1, u2, u3, rfl, r1, r2, r3⟩ := vals3 r1
  cases r1
  cases r2
  cases r3
  obtain ⟨us, _, p1⟩ := SqK.at I1 qx
  obtain ⟨vs, _, p2⟩ := SqK.at I1 qy
  obtain ⟨ws, _, p3⟩ := SqK.at I1 qz
  refine zip_begins3 (begins_K k1 a us.toArray) (begins_K k2 b vs.toArray) (begins_K k3 c ws.toArray) p1 p2 p3 fun h' hz hTI hTO g1 g2 g3 sz kp => wpAny_pyIter_zip hz ?_
  have i0 : ∀ {k : Kd} {it a : Addr}, h'.get? it = some { cls := .type (itN k), data := .fields #[.ref a, .int 0 0] } → IterK h' k it a 0 := fun h => ⟨_, h, rfl, rfl⟩
  refine ⟨s1.heap.objs.size + 5, [s1.heap.objs.size + 5, s1.heap.objs.size + 3, s1.heap.objs.size + 4, s1.heap.objs.size, s1.heap.objs.size + 1, s1.heap.objs.size + 2], _, _, H1, rfl, I1.kept (t' := s1.toks) kp, turn_zipK3 (apart3_new p1.lt p2.lt p3.lt), ⟨hz, hTI, ⟨_, _, _, hTO⟩, i0 g1, i0 g2, i0 g3⟩, fun d hd => ?_, q⟩
  have le : s1.heap.objs.size ≤ d := by
    simp only [List.mem_cons, List.not_mem_nil, or_false] at hd
    rcases hd with rfl | rfl | rfl | rfl | rfl | rfl
    all_goals first | exact Nat.le_refl _ | exact Nat.le_add_right _ _
  exact I1.fpOk le (I1.hok.fresh le)
end
end ShW
namespace Sh
open PySem PySem.Spec L2
open PyProof.Rows hiding St
open Evl (Ex)
open ShW
/-- three side by side -/
def zipD3 : List D → List D → List D → List D
  | x :: xs, y :: ys, u :: us => .tuple [x, y, u] :: zipD3 xs ys us
  | _, _, _ => []
theorem zipD3_len : ∀ xs ys us : List D, (zipD3 xs ys us).length = min (min xs.length ys.length) us.length
  | [], _, _ => by simp [zipD3]
  | _ :: _, [], _ => by simp [zipD3]
  | _ :: _, _ :: _, [] => by simp [zipD3]
  | _ :: xs, _ :: ys, _ :: us => by
    show (zipD3 xs ys us).length + 1 = min (min (xs.length + 1) (ys.length + 1)) (us.length + 1)
    rw [zipD3_len xs ys us]
    omega
theorem zipD3_at : ∀ {xs ys us : List D} {i : Nat} {a b c : D}, xs[i]? = some a → ys[i]? = some b → us[i]? = some c → (zipD3 xs ys us)[i]? = some (.tuple [a, b, c])
  | [], _, _, _, _, _, _, h, _, _ => by simp at h
  | _ :: _, [], _, _, _, _, _, _, h, _ => by simp at h
  | _ :: _, _ :: _, [], _, _, _, _, _, _, h => by simp at h
  | _ :: _, _ :: _, _ :: _, 0, _, _, _, h1, h2, h3 => by
    simp only [List.getElem?_cons_zero, Option.some.injEq] at h1 h2 h3
    subst h1 h2 h3
    rfl
  | _ :: xs, _ :: ys, _ :: us, i + 1, _, _, _, h1, h2, h3 => by
    show (zipD3 xs ys us)[i]? = _
    exact zipD3_at (by simpa using h1) (by simpa using h2) (by simpa using h3)
theorem ei_zK3 {K : PySem.W.Frag} {σ : L2.St} {G : Hp} {ar : TA} {k1 k2 k3 : Kd} {xs ys us : List D} (h : EvA ar σ G [seqD k1 xs, seqD k2 ys, seqD k3 us]) : EvI (iZK3 K k1 k2 k3 ar) σ G (zipD3 xs ys us) := fun H e R r => h H e _ fun vs G2 H2 g n => by
  obtain ⟨v1, v2, v3, rfl, n1, n2, n3⟩ := dn3 n
  obtain ⟨a, xs1, rfl, q1, m1, s1⟩ := sq_of (K := K) n1 g.s
  obtain ⟨b, xs2, rfl, q2, m2, s2⟩ := sq_of (K := K) n2 g.s
  obtain ⟨c, xs3, rfl, q3, m3, s3⟩ := sq_of (K := K) n3 g.s
  have e1 := m1.length
  have e2 := m2.length
  have e3 := m3.length
  refine ⟨_, _, _, _, _, _, rfl, q1, q2, q3, r _ G2 H2 g ⟨fun i H hi e => ?_, fun H e => ?_, fun i H x H' hi e y => ?_⟩⟩
  · rw [zipD3_len] at hi
    have l1 : i < xs1.length := by omega
    have l2 : i < xs2.length := by omega
    have l3 : i < xs3.length := by omega
    exact ⟨xs1, xs2, xs3, xs1[i], xs2[i], xs3[i], s1 H e, s2 H e, s3 H e, List.getElem?_eq_getElem l1, List.getElem?_eq_getElem l2, List.getElem?_eq_getElem l3⟩
  · exact ⟨xs1, xs2, xs3, s1 H e, s2 H e, s3 H e, by rw [zipD3_len, e1, e2, e3]⟩
  · obtain ⟨T, x1, x2, x3, rfl, hT, rfl, y1, y2, y3⟩ := y
    obtain ⟨d1, f1, k1⟩ := m1.att (y1 xs1 (s1 H e))
    obtain ⟨d2, f2, k2⟩ := m2.att (y2 xs2 (s2 H e))
    obtain ⟨d3, f3, k3⟩ := m3.att (y3 xs3 (s3 H e))
    have fr := Ex.new (o := HO.tup [x1, x2, x3]) (Evl.fresh_back e hT)
    exact ⟨upd G2 T (.tup [x1, x2, x3]), _, Gr.new e hT, zipD3_at f1 f2 f3, .tup upd_same (.cons (Dn.mono fr _ k1) (.cons (Dn.mono fr _ k2) (.cons (Dn.mono fr _ k3) .nil)))⟩
end Sh

set_option Elab.async false
set_option linter.all false
set_option maxRecDepth 100000
set_option maxHeartbeats 4000000
/-! dict comprehensions whose keys may be tuples: of one clause and of two -/
namespace ShD
open PySem PySem.Spec L2
open PyProof.Rows hiding St
abbrev Dc2 (kx vx t0 i0 t1 i1 : Expr) (f0 f1 : List Expr) (sc : Scope) (ps : Pos) : Expr := .DictComp kx vx [⟨t0, i0, f0, 0⟩, ⟨t1, i1, f1, 0⟩] sc ps
theorem outer_turn (kx vx t0 i0 t1 i1 : Expr) (f0 f1 : List Expr) (sc : Scope) (ps : Pos) (it acc : Value) (en : Env) : compTurn (Dc2 kx vx t0 i0 t1 i1 f0 f1 sc ps) 0 it acc en = (do
      standAt i0.pos
      match ← pyNext it with
      | none => pure (.done .next)
      | some u =>
        letOwnedTupleGo t0 it u
        assign t0 en u
        let mut fine := true
        for c in f0 do
          if fine then fine ← isTrue c en (eval c en)
        if fine then
          let y ← eval i1 en
          standAt i1.pos
          let y ← foldedSetIterable i1 en y
          let _ ← runOwn (.compStart (Dc2 kx vx t0 i0 t1 i1 f0 f1 sc ps) 1 (← holding [y] (pyIter y)) acc en) en
        again (.compLoop (Dc2 kx vx t0 i0 t1 i1 f0 f1 sc ps) 0 it acc en)) := by rfl
theorem inner_turn (kx vx t0 i0 t1 i1 : Expr) (f0 f1 : List Expr) (sc : Scope) (ps : Pos) (it : Value) (D : Addr) (en : Env) : compTurn (Dc2 kx vx t0 i0 t1 i1 f0 f1 sc ps) 1 it (.ref D) en = (do
      standAt i1.pos
      match ← pyNext it with
      | none => pure (.done .next)
      | some u =>
        letOwnedTupleGo t1 it u
        assign t1 en u
        let mut fine := true
        for c in f1 do
          if fine then fine ← isTrue c en (eval c en)
        if fine then
          (do
            let a ← eval kx en
            let b ← holding [a] (eval vx en)
            standAt { kx.pos with endLine := vx.pos.endLine, endCol := vx.pos.endCol }
            holding [a, b] (dictSet D a b))
        again (.compLoop (Dc2 kx vx t0 i0 t1 i1 f0 f1 sc ps) 1 it (.ref D) en)) := by rfl
section
variable {prog : Program} {w : World} {A : Around} {R : Result → Shared → Prop} {s : Shared} {kx vx t0 i0 t1 i1 : Expr} {f0 f1 : List Expr} {sc : Scope} {ps : Pos} {it acc : Value} {D : Addr} {en : Env}
/-- what an error of a part comes to -/
abbrev bad (prog : Program) (w : World) (A : Around) (R : Result → Shared → Prop) (en : Env) : Value → Shared → Prop := notedBy (model prog w) A en fun e s' => R (.error e) s'
abbrev testsOf (fs : List Expr) (en : Env) : Sem Bool := forIn fs true fun c r => if r = true then do let fine ← isTrue c en (eval c en); pure (ForInStep.yield fine) else pure (ForInStep.yield r)
theorem keep_bad {α : Type} {t : Sem α} {Q Q' : α → Shared → Prop} {B : Value → Shared → Prop} (h : wpAny (model prog w) A t Q B s) (k : ∀ a s', Q a s' → Q' a s') : wpAny (model prog w) A t Q' B s := wpAny_mono h k fun _ _ z => z
theorem outer_loop (hs : ∀ y, foldedSetIterable i1 en y = pure y) (J : Nat → Shared → Prop)
    (go : ∀ n s, J n s → wpAny (model prog w) A (pyNext it) (fun r s1 => match r with
      | none => R (.ok .next) s1
      | some u => wpAny (model prog w) A (letOwnedTupleGo t0 it u) (fun _ s2 => wpAny (model prog w) A (assign t0 en u) (fun _ s3 => wpAny (model prog w) A (testsOf f0 en) (fun fine s4 =>
            if fine = true then wpAny (model prog w) A (eval i1 en) (fun y s5 => wpAny (model prog w) A (pyIter y) (fun jt s6 =>
              codeAny (model prog w) A (.compStart (Dc2 kx vx t0 i0 t1 i1 f0 f1 sc ps) 1 jt acc en) (fun r s7 => match r with
                | .ok _ => ∃ m, m < n ∧ J m s7
                | .error _ => False) s6) (bad prog w A R en) s5) (bad prog w A R en) s4
            else ∃ m, m < n ∧ J m s4) (bad prog w A R en) s3) (bad prog w A R en) s2) (bad prog w A R en) s1) (bad prog w A R en) s)
    (n : Nat) (h : J n s) : codeAny (model prog w) A (.compLoop (Dc2 kx vx t0 i0 t1 i1 f0 f1 sc ps) 0 it acc en) R s := by
  refine codeAny_loop rfl J (fun n s j => ?_) n h
  show wpAny _ A ((compTurn (Dc2 kx vx t0 i0 t1 i1 f0 f1 sc ps) 0 it acc en).onRaise (fun x => do noteFrame x en; theTreesLotGoes x)) _ _ s
  refine wpAny_noted ?_
  rw [outer_turn]
  refine wpAny_bind (wpAny_standAt (wpAny_bind (keep_bad (go n s j) fun r s1 k1 => ?_)))
  match r, k1 with
  | none, k1 => exact wpAny_pure k1
  | some u, k1 =>
    refine wpAny_bind (keep_bad k1 fun _ s2 k2 => wpAny_bind (keep_bad k2 fun _ s3 k3 => wpAny_bind (keep_bad k3 fun fine s4 k4 => ?_)))
    match fine, k4 with
    | false, k4 => exact wpAny_pure ⟨rfl, k4⟩
    | true, k4 =>
      refine wpAny_bind (keep_bad k4 fun y s5 k5 => wpAny_bind (wpAny_standAt (wpAny_bind (wpAny_of_eq (hs y) (wpAny_bind (wpAny_holding (keep_bad k5 fun jt s6 k6 => ?_)))))))
      refine wpAny_bind (wpAny_runOwn ?_)
      rw [Around.mark_none]
      refine codeAny_mono k6 fun r s7 k7 => ?_
      match r, k7 with
      | .ok _, k7 => first | exact wpAny_pure ⟨rfl, k7⟩ | exact wpAny_bind (wpAny_pure (wpAny_pure ⟨rfl, k7⟩))
      | .error _, k7 => exact k7.elim
theorem inner_loop (J : Nat → Shared → Prop)
    (go : ∀ n s, J n s → wpAny (model prog w) A (pyNext it) (fun r s1 => match r with
      | none => R (.ok .next) s1
      | some u => wpAny (model prog w) A (letOwnedTupleGo t1 it u) (fun _ s2 => wpAny (model prog w) A (assign t1 en u) (fun _ s3 => wpAny (model prog w) A (testsOf f1 en) (fun fine s4 =>
            if fine = true then wpAny (model prog w) A (eval kx en) (fun a s5 => wpAny (model prog w) A (eval vx en) (fun b s6 =>
              wpAny (model prog w) A (dictSet D a b) (fun _ s7 => ∃ m, m < n ∧ J m s7) (bad prog w A R en) s6) (bad prog w A R en) s5) (bad prog w A R en) s4
            else ∃ m, m < n ∧ J m s4) (bad prog w A R en) s3) (bad prog w A R en) s2) (bad prog w A R en) s1) (bad prog w A R en) s)
    (n : Nat) (h : J n s) : codeAny (model prog w) A (.compLoop (Dc2 kx vx t0 i0 t1 i1 f0 f1 sc ps) 1 it (.ref D) en) R s := by
  refine codeAny_loop rfl J (fun n s j => ?_) n h
  show wpAny _ A ((compTurn (Dc2 kx vx t0 i0 t1 i1 f0 f1 sc ps) 1 it (.ref D) en).onRaise (fun x => do noteFrame x en; theTreesLotGoes x)) _ _ s
  refine wpAny_noted ?_
  rw [inner_turn]
  refine wpAny_bind (wpAny_standAt (wpAny_bind (keep_bad (go n s j) fun r s1 k1 => ?_)))
  match r, k1 with
  | none, k1 => exact wpAny_pure k1
  | some u, k1 =>
    refine wpAny_bind (keep_bad k1 fun _ s2 k2 => wpAny_bind (keep_bad k2 fun _ s3 k3 => wpAny_bind (keep_bad k3 fun fine s4 k4 => ?_)))
    match fine, k4 with
    | false, k4 => exact wpAny_pure ⟨rfl, k4⟩
    | true, k4 => exact wpAny_bind (wpAny_bind (keep_bad k4 fun a s5 k5 => wpAny_bind (wpAny_holding (keep_bad k5 fun b s6 k6 => wpAny_bind (wpAny_standAt (wpAny_holding (keep_bad k6 fun _ s7 k7 => wpAny_pure ⟨rfl, k7⟩)))))))
theorem inner_start (h0 : codeAny (model prog w) A (.compLoop (Dc2 kx vx t0 i0 t1 i1 f0 f1 sc ps) 1 it acc en) R s)
    (h : wpAny (model prog w) A (pyIter it) (fun jt s' => codeAny (model prog w) A (.compLoop (Dc2 kx vx t0 i0 t1 i1 f0 f1 sc ps) 1 jt acc en) R s') (bad prog w A R en) s) :
    codeAny (model prog w) A (.compStart (Dc2 kx vx t0 i0 t1 i1 f0 f1 sc ps) 1 it acc en) R s := by
  refine codeAny_of_tree ?_
  show wpAny _ _ ((compStart (Dc2 kx vx t0 i0 t1 i1 f0 f1 sc ps) 1 it acc en).onRaise (fun x => do noteFrame x en; standAt theWindowsPlace)) _ _ s
  refine wpAny_notedAt ?_
  unfold compStart
  show wpAny _ _ (ask >>= _) _ _ s
  refine wpAny_bind (wpAny_askSetting (wpAny_ite ?_))
  split
  · first
      | exact wpAny_bind (wpAny_pure (wpAny_pure ⟨rfl, h0⟩))
      | exact wpAny_pure ⟨rfl, h0⟩
  · first
      | exact wpAny_bind (wpAny_rule (wpAny_bind (wpAny_standAt (wpAny_bind (keep_bad h fun jt s' k => wpAny_pure ⟨rfl, k⟩)))))
      | (refine wpAny_bind (wpAny_rule ?_); show wpAny _ _ (standAt i1.pos >>= _) _ _ s; exact wpAny_bind (wpAny_standAt (wpAny_bind (keep_bad h fun jt s' k => wpAny_pure ⟨rfl, k⟩))))
end
section
variable {X : Cx} {pins : List (Addr × Obj)} {σ : St} {H H' : Hp} {s : Shared} {E : Value → Shared → Prop}
/-- the store of a dict comprehension, keys of either kind -/
theorem set_either {D : Addr} {y z : V} {u r : Value} {Q : Unit → Shared → Prop} (hu : X.A.units + 1 < cLine) (I : Inv X pins σ H s) (g : DPut H D y z H') (ry : RelV y u) (rz : RelV z r) (h : ∀ s', Inv X pins σ H' s' → Q () s') : wpAny (model X.prog X.w) X.A (dictSet D u r) Q E s := by
  rcases g with ⟨kvs, k, hD, rfl, few, rfl⟩ | ⟨kvs, k, b, hD, rfl, hb, few, rfl⟩
  · exact d_dictSet I hD few ry rz h
  · cases (show u = Value.ref b from ry)
    obtain ⟨_, low, xs, rel, dd⟩ := dt_of I.hok hD
    have len := Paired.length rel
    have more := length_putK kvs k z
    have hroom : (tupleKind (mixKind X.prog X.w)).room X.A := Nat.lt_of_succ_lt hu
    refine wpAny_dictSet_heap (hsz := by omega) hroom (key_of I.hok hb) dd fun h2 d2 same => h _ ?_
    obtain ⟨o2, es, ep, a1, a2, a3, a4, _, a5⟩ := d2
    refine d_write I (by rw [hD]; exact True.intro) same ⟨o2, a1⟩ ⟨by omega, low, _, (rel.put k hb rz).keeps fun c ys hc => ?_, o2, es, ep, a1, a2, a3, a4, a5⟩
    have ne : c ≠ D := fun e => by
      rw [e, hD] at hc
      cases hc
    rw [upd_ne ne]
    exact hc
/-- {k: v for tg in iter if .. for tg1 in iter1 if ..}: D the new dict; vs: the block's names; vs1: those of the second target -/
def tDc2 (wi : TI) (g : TG) (tt : TT) (wi1 : TI) (g1 : TG) (tt1 : TT) (tk tv : TE) (vs vs1 : List Nat) : TE := fun σ H Q => wi σ H fun J H1 => ∀ D, H1 D = none → ∃ W : Nat → Nat → Hp → Prop, (∃ m, W 0 m (upd H1 D (.dT []))) ∧ ∀ i m H, W i m H →
  (J.stop i H ∧ Q (.ref D) H) ∨ (J.go i H ∧ ∃ Nx : Hp → Prop, (∀ H', Nx H' → ∃ m', m' < m ∧ W (i + 1) m' H') ∧ ∀ x H', J.yld i H x H' → g x (wipe σ vs) H' fun σ2 H2 => wipe σ2 vs = wipe σ vs ∧ tt σ2 H2 fun b H3 =>
    if b = true then wi1 σ2 H3 fun J1 H4 => ∃ W1 : Nat → Nat → Hp → Prop, (∃ m, W1 0 m H4) ∧ ∀ j k H, W1 j k H →
      (J1.stop j H ∧ Nx H) ∨ (J1.go j H ∧ ∃ Nx1 : Hp → Prop, (∀ H', Nx1 H' → ∃ k', k' < k ∧ W1 (j + 1) k' H') ∧ ∀ x H', J1.yld j H x H' → g1 x (wipe σ2 vs1) H' fun σ3 H5 => wipe σ3 vs1 = wipe σ2 vs1 ∧ tt1 σ3 H5 fun b H6 =>
        if b = true then tk σ3 H6 fun y H7 => tv σ3 H7 fun z H8 => ∃ H9, DPut H8 D y z H9 ∧ Nx1 H9 else Nx1 H6)
    else Nx H3)
theorem pe_dc2 {kx vx tg iter tg1 iter1 : Expr} {ifs ifs1 : List Expr} {scope : Scope} {own : List (Str × Nat)} {vs1 : List Nat} {pos : Pos} {wi wi1 : TI} {g g1 : TG} {tt tt1 : TT} {tk tv : TE} (hc : X.calm = true) (hu : X.A.units + 1 < cLine) (hN : X.N.Nodup) (hi : PI X tg iter wi) (ok : BlkOk X.N X.env.scope scope own) (hv : ∀ i ∈ vs1, i ∈ own.map (·.2))
    (hg : ∀ (s : Shared) (H : Hp) (C : Addr) (cl : List (Str × Addr)) (fp : List Addr), PG (X.blk s H scope (compEnvC scope cl C X.env) fp) tg g) (ht : ∀ (s : Shared) (H : Hp) (C : Addr) (cl : List (Str × Addr)) (fp : List Addr), PTs (X.blk s H scope (compEnvC scope cl C X.env) fp) ifs tt)
    (hi1 : ∀ (s : Shared) (H : Hp) (C : Addr) (cl : List (Str × Addr)) (fp : List Addr), PI (X.blk s H scope (compEnvC scope cl C X.env) fp) tg1 iter1 wi1)
    (hg1 : ∀ (s : Shared) (H : Hp) (C : Addr) (cl : List (Str × Addr)) (fp : List Addr), PG (X.blk s H scope (compEnvC scope cl C X.env) fp) tg1 g1) (ht1 : ∀ (s : Shared) (H : Hp) (C : Addr) (cl : List (Str × Addr)) (fp : List Addr), PTs (X.blk s H scope (compEnvC scope cl C X.env) fp) ifs1 tt1)
    (hk : ∀ (s : Shared) (H : Hp) (C : Addr) (cl : List (Str × Addr)) (fp : List Addr), PE (X.blk s H scope (compEnvC scope cl C X.env) fp) kx tk)
    (he : ∀ (s : Shared) (H : Hp) (C : Addr) (cl : List (Str × Addr)) (fp : List Addr), PE (X.blk s H scope (compEnvC scope cl C X.env) fp) vx tv)
    (hs : ∀ x, foldedSetIterable iter X.env x = pure x := by intro _; rfl) (hs1 : ∀ env x, foldedSetIterable iter1 env x = pure x := by intro _ _; rfl) :
    PE X (Dc2 kx vx tg iter tg1 iter1 ifs ifs1 scope pos) (tDc2 wi g tt wi1 g1 tt1 tk tv (own.map (·.2)) vs1) := by
  refine ⟨fun pins s σ H Q I h => ?_⟩
  rw [arm_eval_DictComp]
  have free : ∀ y ∈ scope.names, y.2 = .free → ∃ c, X.env.cells.lookup y.1 = some c := fun y hy e => (ok.free y hy e).elim (fun k => I.ok.has _ (.inl k)) fun k => I.ok.has _ (.inr k)
  refine wpAny_comprehension_free rfl hs (closure_ok free) ok.kind (fun y hy e => by rw [ok.uniq y hy, e]) (thn (hi.run pins s σ H _ I h) fun xv s1 k1 => thn k1 fun itv s2 k2 => ?_)
  obtain ⟨it, fp, tn, J, H2, rfl, I2, T, q2, f2, start⟩ := k2
  refine wpAny_newObj_type (newEnv_comp ?_)
  obtain ⟨W, ⟨m0, w0⟩, turn⟩ := start _ (I2.hok.fresh (Nat.le_refl _))
  have I3 : Inv X pins σ (upd H2 s2.heap.objs.size (.dT [])) { s2 with heap := s2.heap.push { cls := .type "dict", data := .dict #[] } } := I2.laid (t' := s2.toks) (fun b o e => Heap.get?_push_of_some _ e) (Nat.le_refl _) (dt_empty s2.heap I2.big)
  have low : ∀ b ∈ fp, b < s2.heap.objs.size := fun b hb => (T.obj _ _ q2 b hb).elim fun _ z => Heap.lt_size z.1
  have f3 : ∀ b ∈ fp, FpOk X pins (upd H2 s2.heap.objs.size (.dT [])) b ∧ b < (s2.heap.push { cls := .type "dict", data := .dict #[] }).objs.size := fun b hb => by
    have lt := low b hb
    refine ⟨⟨?_, (f2 b hb).2⟩, by rw [Heap.size_push]; exact Nat.lt_succ_of_lt lt⟩
    rw [upd_ne (Nat.ne_of_lt lt)]
    exact (f2 b hb).1
  have q3 : tn 0 (s2.heap.push { cls := .type "dict", data := .dict #[] }) := T.keep _ _ _ q2 fun b _ o e => Heap.get?_push_of_some _ e
  generalize s2.heap.objs.size = D at I3 f3 w0 turn ⊢
  generalize hs3 : ({ s2 with heap := s2.heap.push { cls := .type "dict", data := .dict #[] } } : Shared) = s3 at I3 ⊢
  have eh : s2.heap.push { cls := .type "dict", data := .dict #[] } = s3.heap := congrArg Shared.heap hs3
  rw [eh] at f3 q3
  have I4 := block_start I3 ok hN f3
  have pg := hg s3 (upd H2 D (.dT [])) s3.heap.objs.size (cellsFrom (s3.heap.objs.size + 1) scope.names (cloFrom X.env.cells scope.names [])) fp
  have pt := ht s3 (upd H2 D (.dT [])) s3.heap.objs.size (cellsFrom (s3.heap.objs.size + 1) scope.names (cloFrom X.env.cells scope.names [])) fp
  have pi1 := hi1 s3 (upd H2 D (.dT [])) s3.heap.objs.size (cellsFrom (s3.heap.objs.size + 1) scope.names (cloFrom X.env.cells scope.names [])) fp
  have pg1 := hg1 s3 (upd H2 D (.dT [])) s3.heap.objs.size (cellsFrom (s3.heap.objs.size + 1) scope.names (cloFrom X.env.cells scope.names [])) fp
  have pt1 := ht1 s3 (upd H2 D (.dT [])) s3.heap.objs.size (cellsFrom (s3.heap.objs.size + 1) scope.names (cloFrom X.env.cells scope.names [])) fp
  have pk := hk s3 (upd H2 D (.dT [])) s3.heap.objs.size (cellsFrom (s3.heap.objs.size + 1) scope.names (cloFrom X.env.cells scope.names [])) fp
  have pv := he s3 (upd H2 D (.dT [])) s3.heap.objs.size (cellsFrom (s3.heap.objs.size + 1) scope.names (cloFrom X.env.cells scope.names [])) fp
  have none3 : ∀ b ∈ fp, (upd H2 D (.dT [])) b = none := fun b hb => (f3 b hb).1.1
  suffices whole : codeAny (model X.prog X.w) X.A (.compStart (Dc2 kx vx tg iter tg1 iter1 ifs ifs1 scope pos) 0 (.ref it) (.ref D) (compEnvC scope (cellsFrom (s3.heap.objs.size + 1) scope.names (cloFrom X.env.cells scope.names [])) s3.heap.objs.size X.env))
      (compPost (model X.prog X.w) X.A X.xe none (EP X pins σ Q) (.ref D) s3.heap.objs.size) { s3 with heap := pushCells (s3.heap.push { cls := .type "dict", data := .dict #[] }) scope.names } from whole
  generalize hce : compEnvC scope (cellsFrom (s3.heap.objs.size + 1) scope.names (cloFrom X.env.cells scope.names [])) s3.heap.objs.size X.env = ce at I4 pg pt pi1 pg1 pt1 pk pv ⊢
  have loc : ce.locals = s3.heap.objs.size := by subst hce; rfl
  generalize hH3 : upd H2 D (.dT []) = H3 at I3 I4 pg pt pi1 pg1 pt1 pk pv w0 none3 f3
  have q4 : tn 0 (pushCells (s3.heap.push { cls := .type "dict", data := .dict #[] }) scope.names) := T.keep _ _ _ q3 fun b _ o e => pushCells_keeps _ _ _ _ (Heap.get?_push_of_some _ e)
  generalize hs4 : ({ s3 with heap := pushCells (s3.heap.push { cls := .type "dict", data := .dict #[] }) scope.names } : Shared) = s4 at I4 ⊢
  have eh4 : pushCells (s3.heap.push { cls := .type "dict", data := .dict #[] }) scope.names = s4.heap := congrArg Shared.heap hs4
  rw [eh4] at q4
  have still : ∀ {σ' : St} {H' : Hp} {s' : Shared}, Inv (X.blk s3 H3 scope ce fp) [] σ' H' s' → (∀ b ∈ fp, H' b = none) → ∀ b ∈ fp, FpOk (X.blk s3 H3 scope ce fp) [] H' b := fun I' no b hb =>
    ⟨no b hb, (I'.ok.exf b hb).1, I'.ok.exfs b hb, .inl hb, fun x c e => (I'.ok.exf b hb).2 x c e, fun p hp => (List.not_mem_nil (show p ∈ ([] : List (Addr × Obj)) from hp)).elim⟩
  have loop : codeAny (model X.prog X.w) X.A (.compLoop (Dc2 kx vx tg iter tg1 iter1 ifs ifs1 scope pos) 0 (.ref it) (.ref D) ce) (compPost (model X.prog X.w) X.A X.xe none (EP X pins σ Q) (.ref D) s3.heap.objs.size) s4 := by
    refine outer_loop (hs1 ce) (fun n s' => ∃ i H', Inv (X.blk s3 H3 scope ce fp) [] (wipe σ (own.map (·.2))) H' s' ∧ tn i s'.heap ∧ (∀ b ∈ fp, H' b = none) ∧ W i n H') ?_ m0 ⟨0, H3, I4, q4, none3, w0⟩
    rintro n s5 ⟨i, H5, I5, q5, no5, w5⟩
    rcases turn i n H5 w5 with ⟨stop, fin⟩ | ⟨more, Nx, hNx, step⟩
    · refine thnF (T.done (X.blk s3 H3 scope ce fp) rfl rfl rfl hc i [] s5 _ H5 (fun _ _ => False) I5 (still I5 no5) q5 stop) fun r s6 ⟨er, I6⟩ => ?_
      subst er
      have I7 : Inv X pins σ H5 s6 := I3.call' (ch := fp) I6.os I6.base I6.hok I6.bare fun b hb => ⟨(f3 b hb).1.2.2.2.1, (f3 b hb).1.2.1, (f3 b hb).1.2.2.2.2.1, (f3 b hb).1.2.2.2.2.2⟩
      have noC : H5 s3.heap.objs.size = none := loc ▸ (I6.free : H5 ce.locals = none)
      obtain ⟨m, hm, _⟩ := I6.loc
      have hm : s6.heap.Ns s3.heap.objs.size m := loc ▸ (hm : s6.heap.Ns ce.locals m)
      obtain ⟨g0, g1', g2, g3, g4, g5⟩ := I3.fpOk (Nat.le_refl _) noC
      exact ⟨m, hm, fun h'' sb => ⟨.ref D, H5, I7.turned (t' := s6.toks) (fun b o hb e => (sb.2 b hb).trans e) g0 g1' g3 g4 g5, rfl, fin⟩⟩
    · refine thnF (T.item (X.blk s3 H3 scope ce fp) rfl rfl rfl hc i [] s5 _ H5 (fun _ _ => False) I5 (still I5 no5) q5 more) fun r s6 ⟨u, er, k6⟩ => ?_
      subst er
      refine thnF k6 fun _ s7 ⟨x, H7, I7, r7, y7, q7, no7⟩ => ?_
      have I7p := I7.pinned (still I7 no7) (T.obj _ _ q7)
      refine thnF (pg.run _ s7 _ H7 x u _ I7p r7 (step x H7 y7)) fun _ s8 ⟨σ8, H8, I8, wp8, k8⟩ => ?_
      refine thnF (pt.run _ s8 σ8 H8 _ I8 k8) fun fine s9 ⟨H9, I9, k9⟩ => ?_
      have len8 : (wipe σ (own.map (·.2))).length = σ8.length := by rw [← wp8, wipe_length]
      have know8 : ∀ (j : Nat) v, (wipe σ (own.map (·.2)))[j]? = some (some v) → σ8[j]? = some (some v) ∧ (wipe σ8 vs1)[j]? = some (some v) := fun j v e => by
        rw [← wp8] at e
        have z := wipe_some e
        exact ⟨z.1, by rw [wipe_out fun y => z.2 (hv j y)]; exact z.1⟩
      have next : ∀ {σ9 : St} {s' : Shared} {H' : Hp}, Inv (X.blk s3 H3 scope ce fp) ([] ++ pinsAt fp s7.heap) σ9 H' s' → (wipe σ (own.map (·.2))).length = σ9.length → (∀ (j : Nat) v, (wipe σ (own.map (·.2)))[j]? = some (some v) → σ9[j]? = some (some v)) → Nx H' →
          ∃ m, m < n ∧ ∃ i H', Inv (X.blk s3 H3 scope ce fp) [] (wipe σ (own.map (·.2))) H' s' ∧ tn i s'.heap ∧ (∀ b ∈ fp, H' b = none) ∧ W i m H' := fun {σ9 s' H'} I' len know nx => by
        obtain ⟨m', lt, w'⟩ := hNx H' nx
        have pin : ∀ b ∈ fp, ∀ o, s7.heap.get? b = some o → s'.heap.get? b = some o ∧ H' b = none := fun b hb o e =>
          have z := I'.pin (b, o) (List.mem_append_right _ (List.mem_append_right _ (mem_pinsAt hb e)))
          ⟨z.1, z.2.1⟩
        exact ⟨m', lt, i + 1, H', (I'.unpinned (pins := [])).weak len know, T.keep _ _ _ q7 fun b hb o e => (pin b hb o e).1, fun b hb => (T.obj _ _ q7 b hb).elim fun o e => (pin b hb o e.1).2, w'⟩
      match fine, k9 with
      | false, k9 => exact next I9 len8 (fun j v e => (know8 j v e).1) (by simpa using k9)
      | true, k9 =>
        rw [if_pos rfl] at k9
        show wpAny _ _ _ _ _ _
        refine thnF (pi1.run _ s9 σ8 H9 _ I9 k9) fun yv s10 k10 => thnF k10 fun jtv s11 k11 => ?_
        obtain ⟨jt, fp1, tn1, J1, H11, rfl, I11, T1, q11, f11, W1, ⟨m1, w1⟩, turn1⟩ := k11
        have still1 : ∀ {H' : Hp}, (∀ b ∈ fp1, H' b = none) → ∀ b ∈ fp1, FpOk (X.blk s3 H3 scope ce fp) ([] ++ pinsAt fp s7.heap) H' b := fun no b hb => ⟨no b hb, (f11 b hb).2⟩
        have loop1 : codeAny (model X.prog X.w) X.A (.compLoop (Dc2 kx vx tg iter tg1 iter1 ifs ifs1 scope pos) 1 (.ref jt) (.ref D) ce)
            (fun r s' => match r with
              | .ok _ => ∃ m, m < n ∧ ∃ i H', Inv (X.blk s3 H3 scope ce fp) [] (wipe σ (own.map (·.2))) H' s' ∧ tn i s'.heap ∧ (∀ b ∈ fp, H' b = none) ∧ W i m H'
              | .error _ => False) s11 := by
          refine inner_loop (fun k s' => ∃ j H', Inv (X.blk s3 H3 scope ce fp) ([] ++ pinsAt fp s7.heap) (wipe σ8 vs1) H' s' ∧ tn1 j s'.heap ∧ (∀ b ∈ fp1, H' b = none) ∧ W1 j k H') ?_ m1 ⟨0, H11, I11.weak (wipe_length _ _) (fun j v e => (wipe_some e).1), q11, fun b hb => (f11 b hb).1, w1⟩
          rintro k s12 ⟨j, H12, I12, q12, no12, w12⟩
          rcases turn1 j k H12 w12 with ⟨stop1, nx1⟩ | ⟨more1, Nx1, hNx1, step1⟩
          · refine thnF (T1.done (X.blk s3 H3 scope ce fp) rfl rfl rfl hc j _ s12 (wipe σ8 vs1) H12 (fun _ _ => False) I12 (still1 no12) q12 stop1) fun r s13 ⟨er, I13⟩ => ?_
            subst er
            exact next I13 (len8.trans (wipe_length σ8 vs1).symm) (fun j v e => (know8 j v e).2) nx1
          · refine thnF (T1.item (X.blk s3 H3 scope ce fp) rfl rfl rfl hc j _ s12 (wipe σ8 vs1) H12 (fun _ _ => False) I12 (still1 no12) q12 more1) fun r s13 ⟨u1, er, k13⟩ => ?_
            subst er
            refine thnF k13 fun _ s14 ⟨x1, H14, I14, r14, y14, q14, no14⟩ => ?_
            have I14p := I14.pinned (still1 no14) (T1.obj _ _ q14)
            refine thnF (pg1.run _ s14 (wipe σ8 vs1) H14 x1 u1 _ I14p r14 (step1 x1 H14 y14)) fun _ s15 ⟨σ15, H15, I15, wp15, k15⟩ => ?_
            refine thnF (pt1.run _ s15 σ15 H15 _ I15 k15) fun fine1 s16 ⟨H16, I16, k16⟩ => ?_
            have next1 : ∀ {s' : Shared} {H' : Hp}, Inv (X.blk s3 H3 scope ce fp) (([] ++ pinsAt fp s7.heap) ++ pinsAt fp1 s14.heap) σ15 H' s' → Nx1 H' → ∃ m, m < k ∧ ∃ j H', Inv (X.blk s3 H3 scope ce fp) ([] ++ pinsAt fp s7.heap) (wipe σ8 vs1) H' s' ∧ tn1 j s'.heap ∧ (∀ b ∈ fp1, H' b = none) ∧ W1 j m H' := fun {s' H'} I' nx => by
              obtain ⟨m', lt, w'⟩ := hNx1 H' nx
              have pin : ∀ b ∈ fp1, ∀ o, s14.heap.get? b = some o → s'.heap.get? b = some o ∧ H' b = none := fun b hb o e =>
                have z := I'.pin (b, o) (List.mem_append_right _ (List.mem_append_right _ (mem_pinsAt hb e)))
                ⟨z.1, z.2.1⟩
              exact ⟨m', lt, j + 1, H', I'.unpinned.weak (by rw [← wp15, wipe_length]) (fun j v e => by rw [← wp15] at e; exact (wipe_some e).1), T1.keep _ _ _ q14 fun b hb o e => (pin b hb o e).1, fun b hb => (T1.obj _ _ q14 b hb).elim fun o e => (pin b hb o e.1).2, w'⟩
            match fine1, k16 with
            | false, k16 => exact next1 I16 (by simpa using k16)
            | true, k16 =>
              rw [if_pos rfl] at k16
              show wpAny _ _ _ _ _ _
              refine thnF (pk.run _ s16 σ15 H16 _ I16 k16) fun a s17 ⟨ya, H17, I17, r17, k17⟩ => ?_
              refine thnF (pv.run _ s17 σ15 H17 _ I17 k17) fun b s18 ⟨yb, H18, I18, r18, H19, put, nx⟩ => ?_
              exact set_either (X := X.blk s3 H3 scope ce fp) hu I18 put r17 r18 fun s19 I19 => next1 I19 nx
        exact inner_start loop1 (T1.self X.A 0 _ _ _ q11 loop1)
  exact codeAny_compStart_dict loop (T.self X.A 0 _ _ _ q4 loop)
/-- of one clause -/
def tDcT (wi : TI) (g : TG) (tt : TT) (tk tv : TE) (vs : List Nat) : TE := fun σ H Q => wi σ H fun J H1 => ∀ D, H1 D = none → ∃ W : Nat → Nat → Hp → Prop, (∃ m, W 0 m (upd H1 D (.dT []))) ∧ ∀ i m H, W i m H →
  (J.stop i H ∧ Q (.ref D) H) ∨ (J.go i H ∧ ∃ Nx : Hp → Prop, (∀ H', Nx H' → ∃ m', m' < m ∧ W (i + 1) m' H') ∧ ∀ x H', J.yld i H x H' → g x (wipe σ vs) H' fun σ2 H2 => wipe σ2 vs = wipe σ vs ∧ tt σ2 H2 fun b H3 =>
    if b = true then tk σ2 H3 fun y H4 => tv σ2 H4 fun z H5 => ∃ H6, DPut H5 D y z H6 ∧ Nx H6 else Nx H3)
theorem pe_dcT {kx vx tg iter : Expr} {ifs : List Expr} {scope : Scope} {own : List (Str × Nat)} {pos : Pos} {wi : TI} {g : TG} {tt : TT} {tk tv : TE} (hc : X.calm = true) (hu : X.A.units + 1 < cLine) (hN : X.N.Nodup) (hi : PI X tg iter wi) (ok : BlkOk X.N X.env.scope scope own)
    (hg : ∀ (s : Shared) (H : Hp) (C : Addr) (cl : List (Str × Addr)) (fp : List Addr), PG (X.blk s H scope (compEnvC scope cl C X.env) fp) tg g) (ht : ∀ (s : Shared) (H : Hp) (C : Addr) (cl : List (Str × Addr)) (fp : List Addr), PTs (X.blk s H scope (compEnvC scope cl C X.env) fp) ifs tt)
    (hk : ∀ (s : Shared) (H : Hp) (C : Addr) (cl : List (Str × Addr)) (fp : List Addr), PE (X.blk s H scope (compEnvC scope cl C X.env) fp) kx tk)
    (he : ∀ (s : Shared) (H : Hp) (C : Addr) (cl : List (Str × Addr)) (fp : List Addr), PE (X.blk s H scope (compEnvC scope cl C X.env) fp) vx tv) (hs : ∀ x, foldedSetIterable iter X.env x = pure x := by intro _; rfl) :
    PE X (.DictComp kx vx [⟨tg, iter, ifs, 0⟩] scope pos) (tDcT wi g tt tk tv (own.map (·.2))) := by
  refine ⟨fun pins s σ H Q I h => ?_⟩
  rw [arm_eval_DictComp]
  have free : ∀ y ∈ scope.names, y.2 = .free → ∃ c, X.env.cells.lookup y.1 = some c := fun y hy e => (ok.free y hy e).elim (fun k => I.ok.has _ (.inl k)) fun k => I.ok.has _ (.inr k)
  refine wpAny_comprehension_free rfl hs (closure_ok free) ok.kind (fun y hy e => by rw [ok.uniq y hy, e]) (thn (hi.run pins s σ H _ I h) fun xv s1 k1 => thn k1 fun itv s2 k2 => ?_)
  obtain ⟨it, fp, tn, J, H2, rfl, I2, T, q2, f2, start⟩ := k2
  refine wpAny_newObj_type (newEnv_comp ?_)
  obtain ⟨W, ⟨m0, w0⟩, turn⟩ := start _ (I2.hok.fresh (Nat.le_refl _))
  have I3 : Inv X pins σ (upd H2 s2.heap.objs.size (.dT [])) { s2 with heap := s2.heap.push { cls := .type "dict", data := .dict #[] } } := I2.laid (t' := s2.toks) (fun b o e => Heap.get?_push_of_some _ e) (Nat.le_refl _) (dt_empty s2.heap I2.big)
  have low : ∀ b ∈ fp, b < s2.heap.objs.size := fun b hb => (T.obj _ _ q2 b hb).elim fun _ z => Heap.lt_size z.1
  have f3 : ∀ b ∈ fp, FpOk X pins (upd H2 s2.heap.objs.size (.dT [])) b ∧ b < (s2.heap.push { cls := .type "dict", data := .dict #[] }).objs.size := fun b hb => by
    have lt := low b hb
    refine ⟨⟨?_, (f2 b hb).2⟩, by rw [Heap.size_push]; exact Nat.lt_succ_of_lt lt⟩
    rw [upd_ne (Nat.ne_of_lt lt)]
    exact (f2 b hb).1
  have q3 : tn 0 (s2.heap.push { cls := .type "dict", data := .dict #[] }) := T.keep _ _ _ q2 fun b _ o e => Heap.get?_push_of_some _ e
  generalize s2.heap.objs.size = D at I3 f3 w0 turn ⊢
  generalize hs3 : ({ s2 with heap := s2.heap.push { cls := .type "dict", data := .dict #[] } } : Shared) = s3 at I3 ⊢
  have eh : s2.heap.push { cls := .type "dict", data := .dict #[] } = s3.heap := congrArg Shared.heap hs3
  rw [eh] at f3 q3
  have I4 := block_start I3 ok hN f3
  have pg := hg s3 (upd H2 D (.dT [])) s3.heap.objs.size (cellsFrom (s3.heap.objs.size + 1) scope.names (cloFrom X.env.cells scope.names [])) fp
  have pt := ht s3 (upd H2 D (.dT [])) s3.heap.objs.size (cellsFrom (s3.heap.objs.size + 1) scope.names (cloFrom X.env.cells scope.names [])) fp
  have pk := hk s3 (upd H2 D (.dT [])) s3.heap.objs.size (cellsFrom (s3.heap.objs.size + 1) scope.names (cloFrom X.env.cells scope.names [])) fp
  have pv := he s3 (upd H2 D (.dT [])) s3.heap.objs.size (cellsFrom (s3.heap.objs.size + 1) scope.names (cloFrom X.env.cells scope.names [])) fp
  have none3 : ∀ b ∈ fp, (upd H2 D (.dT [])) b = none := fun b hb => (f3 b hb).1.1
  suffices whole : codeAny (model X.prog X.w) X.A (.compStart (Expr.DictComp kx vx [⟨tg, iter, ifs, 0⟩] scope pos) 0 (.ref it) (.ref D) (compEnvC scope (cellsFrom (s3.heap.objs.size + 1) scope.names (cloFrom X.env.cells scope.names [])) s3.heap.objs.size X.env))
      (compPost (model X.prog X.w) X.A X.xe none (EP X pins σ Q) (.ref D) s3.heap.objs.size) { s3 with heap := pushCells (s3.heap.push { cls := .type "dict", data := .dict #[] }) scope.names } from whole
  generalize hce : compEnvC scope (cellsFrom (s3.heap.objs.size + 1) scope.names (cloFrom X.env.cells scope.names [])) s3.heap.objs.size X.env = ce at I4 pg pt pk pv ⊢
  have loc : ce.locals = s3.heap.objs.size := by subst hce; rfl
  generalize hH3 : upd H2 D (.dT []) = H3 at I3 I4 pg pt pk pv w0 none3 f3
  have q4 : tn 0 (pushCells (s3.heap.push { cls := .type "dict", data := .dict #[] }) scope.names) := T.keep _ _ _ q3 fun b _ o e => pushCells_keeps _ _ _ _ (Heap.get?_push_of_some _ e)
  generalize hs4 : ({ s3 with heap := pushCells (s3.heap.push { cls := .type "dict", data := .dict #[] }) scope.names } : Shared) = s4 at I4 ⊢
  have eh4 : pushCells (s3.heap.push { cls := .type "dict", data := .dict #[] }) scope.names = s4.heap := congrArg Shared.heap hs4
  rw [eh4] at q4
  have still : ∀ {σ' : St} {H' : Hp} {s' : Shared}, Inv (X.blk s3 H3 scope ce fp) [] σ' H' s' → (∀ b ∈ fp, H' b = none) → ∀ b ∈ fp, FpOk (X.blk s3 H3 scope ce fp) [] H' b := fun I' no b hb =>
    ⟨no b hb, (I'.ok.exf b hb).1, I'.ok.exfs b hb, .inl hb, fun x c e => (I'.ok.exf b hb).2 x c e, fun p hp => (List.not_mem_nil (show p ∈ ([] : List (Addr × Obj)) from hp)).elim⟩
  have loop : codeAny (model X.prog X.w) X.A (.compLoop (Expr.DictComp kx vx [⟨tg, iter, ifs, 0⟩] scope pos) 0 (.ref it) (.ref D) ce) (compPost (model X.prog X.w) X.A X.xe none (EP X pins σ Q) (.ref D) s3.heap.objs.size) s4 := by
    refine compLoop_anyD (fun n s' => ∃ i H', Inv (X.blk s3 H3 scope ce fp) [] (wipe σ (own.map (·.2))) H' s' ∧ tn i s'.heap ∧ (∀ b ∈ fp, H' b = none) ∧ W i n H') ?_ m0 ⟨0, H3, I4, q4, none3, w0⟩
    rintro n s5 ⟨i, H5, I5, q5, no5, w5⟩
    rcases turn i n H5 w5 with ⟨stop, fin⟩ | ⟨more, Nx, hNx, step⟩
    · refine thnF (T.done (X.blk s3 H3 scope ce fp) rfl rfl rfl hc i [] s5 _ H5 (fun _ _ => False) I5 (still I5 no5) q5 stop) fun r s6 ⟨er, I6⟩ => ?_
      subst er
      have I7 : Inv X pins σ H5 s6 := I3.call' (ch := fp) I6.os I6.base I6.hok I6.bare fun b hb => ⟨(f3 b hb).1.2.2.2.1, (f3 b hb).1.2.1, (f3 b hb).1.2.2.2.2.1, (f3 b hb).1.2.2.2.2.2⟩
      have noC : H5 s3.heap.objs.size = none := loc ▸ (I6.free : H5 ce.locals = none)
      obtain ⟨m, hm, _⟩ := I6.loc
      have hm : s6.heap.Ns s3.heap.objs.size m := loc ▸ (hm : s6.heap.Ns ce.locals m)
      obtain ⟨g0, g1', g2, g3, g4, g5⟩ := I3.fpOk (Nat.le_refl _) noC
      exact ⟨m, hm, fun h'' sb => ⟨.ref D, H5, I7.turned (t' := s6.toks) (fun b o hb e => (sb.2 b hb).trans e) g0 g1' g3 g4 g5, rfl, fin⟩⟩
    · refine thnF (T.item (X.blk s3 H3 scope ce fp) rfl rfl rfl hc i [] s5 _ H5 (fun _ _ => False) I5 (still I5 no5) q5 more) fun r s6 ⟨u, er, k6⟩ => ?_
      subst er
      refine thnF k6 fun _ s7 ⟨x, H7, I7, r7, y7, q7, no7⟩ => ?_
      have I7p := I7.pinned (still I7 no7) (T.obj _ _ q7)
      refine thnF (pg.run _ s7 _ H7 x u _ I7p r7 (step x H7 y7)) fun _ s8 ⟨σ8, H8, I8, wp8, k8⟩ => ?_
      refine thnF (pt.run _ s8 σ8 H8 _ I8 k8) fun fine s9 ⟨H9, I9, k9⟩ => ?_
      have len8 : (wipe σ (own.map (·.2))).length = σ8.length := by rw [← wp8, wipe_length]
      have next : ∀ {s' : Shared} {H' : Hp}, Inv (X.blk s3 H3 scope ce fp) ([] ++ pinsAt fp s7.heap) σ8 H' s' → Nx H' → ∃ m, m < n ∧ ∃ i H', Inv (X.blk s3 H3 scope ce fp) [] (wipe σ (own.map (·.2))) H' s' ∧ tn i s'.heap ∧ (∀ b ∈ fp, H' b = none) ∧ W i m H' := fun {s' H'} I' nx => by
        obtain ⟨m', lt, w'⟩ := hNx H' nx
        have pin : ∀ b ∈ fp, ∀ o, s7.heap.get? b = some o → s'.heap.get? b = some o ∧ H' b = none := fun b hb o e =>
          have z := I'.pin (b, o) (List.mem_append_right _ (List.mem_append_right _ (mem_pinsAt hb e)))
          ⟨z.1, z.2.1⟩
        exact ⟨m', lt, i + 1, H', (I'.unpinned (pins := [])).weak len8 (fun j v e => by rw [← wp8] at e; exact (wipe_some e).1), T.keep _ _ _ q7 fun b hb o e => (pin b hb o e).1, fun b hb => (T.obj _ _ q7 b hb).elim fun o e => (pin b hb o e.1).2, w'⟩
      match fine, k9 with
      | false, k9 => exact next I9 (by simpa using k9)
      | true, k9 =>
        rw [if_pos rfl] at k9
        show wpAny _ _ _ _ _ _
        refine thnF (pk.run _ s9 σ8 H9 _ I9 k9) fun a s10 ⟨ya, H10, I10, r10, k10⟩ => ?_
        refine thnF (pv.run _ s10 σ8 H10 _ I10 k10) fun b s11 ⟨yb, H11, I11, r11, H12, put, nx⟩ => ?_
        exact set_either (X := X.blk s3 H3 scope ce fp) hu I11 put r10 r11 fun s12 I12 => next I12 nx
  exact codeAny_compStart_dict loop (T.self X.A 0 _ _ _ q4 loop)
end
end ShD

set_option Elab.async false
set_option linter.all false
set_option maxRecDepth 100000
set_option maxHeartbeats 4000000
/-! x = {k: v for ..}: the new dict goes to its name from within the block -/
namespace ShD
open PySem PySem.Spec L2
open PyProof.Rows hiding St
theorem sw_dict {kx vx : Expr} {gs : List Comprehension} {scope : Scope} {pos py : Pos} {y : Str} {l : Nat} {env : Env} (f : env.scope.kind = .function) (loc : env.scope.names.lookup y = some .local) (row : (py.line == pos.line) = true)
    (own : (scope.names.any fun (n, k) => n == y && (k == .local || k == .cell)) = false) : swapsWith (.DictComp kx vx gs scope pos) (some (.Name y py)) l env = pure true := by
  have a : env.kindOf y = some .local := loc
  have b : env.blockKind = .function := by
    unfold Env.blockKind
    rw [f]
    rfl
  unfold swapsWith
  simp only [b, a, own, Expr.pos, row]
  rfl
section
variable {X : Cx}
theorem ps_setDc {i : Nat} {y : Str} {py : Pos} {kx vx tg iter : Expr} {ifs : List Expr} {scope : Scope} {own : List (Str × Nat)} {pos spos : Pos} {wi : TI} {g : TG} {tt : TT} {tk tv : TE} (hc : X.calm = true) (hN : X.N.Nodup) (hy : X.N[i]? = some y) (loc : X.env.scope.names.lookup y = some .local)
    (sw : swapsWith (.DictComp kx vx [⟨tg, iter, ifs, 0⟩] scope pos) (some (.Name y py)) spos.line X.env = pure true) (hi : PI X tg iter wi) (ok : BlkOk X.N X.env.scope scope own)
    (hg : ∀ (s : Shared) (H : Hp) (C : Addr) (cl : List (Str × Addr)) (fp : List Addr), PG (X.blk s H scope (compEnvC scope cl C X.env) fp) tg g) (ht : ∀ (s : Shared) (H : Hp) (C : Addr) (cl : List (Str × Addr)) (fp : List Addr), PTs (X.blk s H scope (compEnvC scope cl C X.env) fp) ifs tt)
    (hk : ∀ (s : Shared) (H : Hp) (C : Addr) (cl : List (Str × Addr)) (fp : List Addr), PE (X.blk s H scope (compEnvC scope cl C X.env) fp) kx tk)
    (hv : ∀ (s : Shared) (H : Hp) (C : Addr) (cl : List (Str × Addr)) (fp : List Addr), PE (X.blk s H scope (compEnvC scope cl C X.env) fp) vx tv) (hs : ∀ x, foldedSetIterable iter X.env x = pure x := by intro _; rfl) :
    PS X (.Assign [.Name y py] (.DictComp kx vx [⟨tg, iter, ifs, 0⟩] scope pos) spos) (tAsg (tDc wi g tt tk tv (own.map (·.2))) (gName i)) := by
  refine ⟨fun pins s σ H D I r => ?_⟩
  have r : tDc wi g tt tk tv (own.map (·.2)) σ H (fun x H1 => gName i x σ H1 D.nx) := r
  rw [exec_Assign_Name_used _ _ _ _ sw]
  refine wpAny_bind (wpAny_standAt (wpAny_bind ?_))
  show wpAny _ X.A (do let _ ← comprehension (.DictComp kx vx [⟨tg, iter, ifs, 0⟩] scope pos) scope X.env (firstIterPos [⟨tg, iter, ifs, 0⟩] pos) newDict false (eval iter X.env) (some (assign (.Name y py) X.env))) _ _ s
  refine wpAny_bind (thn (dc_core (Qf := fun _ t => SP X pins D .next t) hc hN I hi ok hg ht hk hv hs r fun d C t m H2 J q ns fp => ?_) fun _ _ z => wpAny_pure (wpAny_pure z))
  obtain ⟨f0, f1, f2, f3, f4, f5⟩ := fp
  show wpAny _ _ (assign (.Name y py) X.env (.ref d)) _ _ _
  refine wpAny_assign_Name (store_ok2 (v := V.ref d) J hN hy (.inl loc) rfl (fun t2 J2 ⟨a, same, at'⟩ => ?_) (.inr loc))
  have ne : C ≠ a := at'.elim (fun z => z ▸ f1) fun z e => f4 y a z e.symm
  exact ⟨m, ns.sameBut same ne, fun h3 same3 => ⟨_, H2, J2.turned (t' := t2.toks) (fun b o hb e => (same3.2 b hb).trans e) f0 f1 f3 f4 f5, q⟩⟩
end
end ShD

set_option Elab.async false
set_option linter.all false
set_option maxRecDepth 100000
set_option maxHeartbeats 4000000
/-! d.items() of a dict with tuple keys; a dict locked for good -/
namespace ShI
open PySem PySem.Spec L2
open PyProof.Rows hiding St
/-- the pairs of the locked dict at d: each a new tuple of the key's own tuple and the value -/
def Itp (d : Addr) (o : Obj) (kvs : List (List Key × V)) : It :=
  ⟨fun i H => H d = some (.frz o (.dT kvs)) ∧ i < kvs.length, fun i H x H' => ∃ T k v q, kvs[i]? = some (k, v) ∧ H q = some (.tup (k.map kV)) ∧ x = .ref T ∧ H T = none ∧ H' = upd H T (.tup [.ref q, v]), fun i H => H d = some (.frz o (.dT kvs)) ∧ kvs.length ≤ i⟩
section
variable {X : Cx} {pins : List (Addr × Obj)} {σ : L2.St} {H : Hp} {s : Shared} {d : Addr} {o : Obj} {kvs : List (List Key × V)}
theorem frz_rows (I : Inv X pins σ H s) (h : H d = some (.frz o (.dT kvs))) : (d == sysModules) = false ∧ s.heap.get? d = some o ∧ o.ExactDict ∧ ∃ (es : Array DictEntry) (ep : Nat), o.data = .dict es ep ∧ es.size = kvs.length ∧
    ∀ (i : Nat) (k : List Key) (v : V), kvs[i]? = some (k, v) → ∃ (en : DictEntry) (q : Addr), es[i]? = some en ∧ en.key = .ref q ∧ H q = some (.tup (k.map kV)) ∧ L2.RelV v en.val := by
  obtain ⟨a1, _, low, xs, pr, o2, es, ep, a2, a3, a4, a5, _⟩ := I.hok d _ h
  cases (a1.symm.trans a2 : some o = some o2)
  have l1 : es.size = xs.length := size_of_entries a5
  have l2 : kvs.length = xs.length := Paired.length pr
  refine ⟨low, a1, a3, es, ep, a4, by omega, fun i k v e => ?_⟩
  obtain ⟨⟨k2, b, u⟩, hb, e1, e2, e3⟩ := paired_get pr e
  have z := entry_at a5 i
  rw [hb] at z
  exact ⟨_, b, z, rfl, e2, e3⟩
end
variable {P : Program} {w : World} {K : PySem.W.Frag} {d : Addr} {o : Obj} {es : Array DictEntry} {ep : Nat}
theorem turn_pairs {kvs : List (List Key × V)} {elts : List Expr} {kk : Nat} {tpos : Pos} (it : Addr) (hod : o.data = .dict es ep) : Turn P w K (.Tuple elts kk tpos) (Itp d o kvs) [it] it (fun i h => ∃ a b, IsItemIter h it d i kvs.length ep a b) where
  mem := List.mem_singleton_self _
  obj := fun i h ⟨a, b, e⟩ c hc => by
    obtain rfl : c = it := List.mem_singleton.mp hc
    exact ⟨_, e, fun v z => nomatch z⟩
  keep := fun i h h' ⟨a, b, e⟩ k => ⟨a, b, k it (List.mem_singleton_self _) _ e⟩
  item := by
    rintro X rfl rfl rfl hc i pins s σ H E I hf ⟨a, b, st⟩ ⟨hd, lt⟩
    obtain ⟨low, gd, ed, es2, ep2, dd, sz, rows⟩ := frz_rows I hd
    obtain ⟨rfl, rfl⟩ := dict_ep hod dd
    obtain ⟨⟨k, v⟩, hkv⟩ : ∃ p, kvs[i]? = some p := ⟨_, List.getElem?_eq_getElem lt⟩
    obtain ⟨en, q, hen, hkey, hq, rv⟩ := rows i k v hkv
    have lt2 : i < es2.size := by omega
    have ie : es2[i] = en := Option.some.inj ((Array.getElem?_eq_getElem lt2).symm.trans hen)
    rw [← sz] at st
    have young : it < s.heap.objs.size := Heap.lt_size st
    refine DT.nextI st ⟨o, gd, ed, dd⟩ lt2 fun h1 out pair _ same => ?_
    rw [ie] at out pair
    refine ⟨_, rfl, wpAny_letOwnedTupleGo_items (s := { s with heap := h1 }) out fun h2 back sb => ?_⟩
    have pair2 : h2.get? s.heap.objs.size = some { cls := .type "tuple", data := .seq #[en.key, en.val] } := (sb.2 _ (Nat.ne_of_gt young)).trans pair
    have new : ObjOk X.prog X.w (upd H s.heap.objs.size (.tup [.ref q, v])) h2 s.heap.objs.size (.tup [.ref q, v]) := ⟨by show 2 ≤ sizeLine; decide, [en.key, en.val], .cons hkey (.cons rv .nil), ⟨_, pair2, rfl, _, rfl⟩⟩
    have I1 := I.turnedNew (t' := s.toks) (ch := [it]) (fun c oc hc e => (sb.2 c (by simpa using hc)).trans (same c oc (by simpa using hc) e)) hf (Nat.le_refl _) new
    refine ⟨.ref s.heap.objs.size, _, I1, rfl, ⟨_, k, v, q, hkv, hq, rfl, I.hok.fresh (Nat.le_refl _), rfl⟩, ⟨en.key, en.val, by rw [← sz]; exact back⟩, fun c hc => ?_⟩
    obtain rfl : c = it := List.mem_singleton.mp hc
    rw [upd_ne (Nat.ne_of_lt young)]
    exact (hf c (List.mem_singleton_self _)).1
  done := by
    rintro X rfl rfl rfl hc i pins s σ H E I hf ⟨a, b, st⟩ ⟨hd, ge⟩
    obtain ⟨low, gd, ed, es2, ep2, dd, sz, _⟩ := frz_rows I hd
    obtain ⟨rfl, rfl⟩ := dict_ep hod dd
    obtain ⟨f0, f1, _, f3, f4, f5⟩ := hf it (List.mem_singleton_self _)
    rw [← sz] at st ge
    exact DT.endI (I.ok.hd hc) st ⟨o, gd, ed, dd⟩ ge fun h1 eb => ⟨rfl, I.turned (t' := s.toks) (fun c oc hc e => eb c oc hc e) f0 f1 f3 f4 f5⟩
  self := fun A i s Q E ⟨a, b, e⟩ h => PySem.W.kcp_self e h
/-- for k, v in d.items(), d locked, its keys tuples -/
def iPairs (td : TE) : TI := fun σ H R => td σ H fun x H1 => ∃ d o kvs, x = .ref d ∧ H1 d = some (.frz o (.dT kvs)) ∧ R (Itp d o kvs) H1
theorem pi_pairs {X : Cx} {e : Expr} {td : TE} {apos cpos : Pos} {elts : List Expr} {kk : Nat} {tpos : Pos} (he : PE X e td) (hbase : attributeBase e "items" X.env (eval e X.env) = eval e X.env := by rfl) (hline : (apos.endLine == cpos.line) = true := by rfl) :
    PI X (.Tuple elts kk tpos) (.Call (.Attribute e "items" apos) [] [] cpos) (iPairs td) := by
  refine ⟨fun pins s σ H R I h => ?_⟩
  refine wpAny_Call_method (T := "dict") (id := "dict.items") hbase rfl hline F.plainAttrs_dict F.slot_dict_items F.type_dict_items (thn (he.run pins s σ H _ I h) fun u s1 ⟨x, H1, I1, rx, d, o, kvs, ex, hd, go⟩ => ?_)
  subst ex
  obtain rfl : u = Value.ref d := rx
  obtain ⟨low, gd, ed, es, ep, dd, sz, _⟩ := frz_rows I1 hd
  have raw : DT.Raw s1.heap d es ep := ⟨o, gd, ed, dd⟩
  refine ⟨raw.typeIs, fun c ec => ⟨o, ?_, ed.2.1⟩, ?_⟩
  · cases ec
    exact gd
  have I2 := I1.kept (t' := s1.toks) (h' := s1.heap.push { cls := .type "dict_items", data := .fields #[.ref d] }) fun b ob z => Heap.get?_push_of_some _ z
  have iter : wpAny (model X.prog X.w) X.A (pyIter (.ref s1.heap.objs.size)) (PIE X pins σ (.Tuple elts kk tpos) R) X.xe { s1 with heap := s1.heap.push { cls := .type "dict_items", data := .fields #[.ref d] } } := by
    refine DT.iterI (d := d) (es := es) (ep := ep) ⟨_, Heap.get?_push_size _ rfl, rfl, rfl⟩ (raw.push _) (pi_one (tk := s1.toks) I2 _ (turn_pairs _ dd) ⟨.none, .none, ?_⟩ go)
    rw [← sz]
    exact Heap.get?_push_size _ rfl
  show wpAny _ _ (callWith cpos (.builtin "dict.items") [.ref d] [] []) _ X.xe s1
  exact method_meetsIn F.slot_dict_items F.entry_dict_items rfl (PySem.evalArgs_none ⟨rfl, raw.typeIs, F.args_dict_items_1 _, _, DT.meetsItems (es := es) (ep := ep) low, raw, iter⟩)
/-- e, whose object is locked from then on -/
def tFreeze (t : TE) : TE := fun σ H Q => t σ H fun x H1 => ∃ d u, x = .ref d ∧ H1 d = some u ∧ Mut (some u) ∧ ∀ o, Q x (upd H1 d (.frz o u))
theorem pe_freeze {X : Cx} {e : Expr} {t : TE} (h : PE X e t) : PE X e (tFreeze t) := by
  refine ⟨fun pins s σ H Q I k => thn (h.run pins s σ H _ I k) fun u s1 ⟨x, H1, I1, rx, d, ob, ex, hd, mu, q⟩ => ?_⟩
  obtain ⟨o, I2⟩ := I1.lock hd mu
  exact ⟨x, _, I2, rx, q o⟩
end ShI

set_option Elab.async false
set_option linter.all false
set_option maxRecDepth 100000
set_option maxHeartbeats 4000000
/-! del d[k], {k: v} with a tuple as key -/
namespace ShD
open PySem PySem.Spec L2
open PyProof.Rows hiding St
section
variable {X : Cx} {pins : List (Addr × Obj)} {σ : L2.St} {H : Hp} {s : Shared} {E : Value → Shared → Prop}
theorem del_tup {d b : Addr} {kvs : List (List Key × V)} {k : List Key} {v : V} {Q : Unit → Shared → Prop} (hu : X.A.units + 1 < cLine) (I : Inv X pins σ H s) (hd : H d = some (.dT kvs)) (hb : H b = some (.tup (k.map kV))) (hv : valV kvs k = some v)
    (h : ∀ s', Inv X pins σ (upd H d (.dT (dropK kvs k))) s' → Q () s') : wpAny (model X.prog X.w) X.A (delItem (.ref d) (.ref b)) Q E s := by
  obtain ⟨few, low, xs, rel, dd⟩ := dt_of I.hok hd
  have len := Paired.length rel
  have there := rel.val k
  rw [hv] at there
  cases hk : atKey xs k with
  | none =>
    rw [hk] at there
    exact there.elim
  | some p =>
    refine wpAny_delItem_heap (hsz := by omega) (knd := tupleKind (mixKind X.prog X.w)) (tupleKind_room_in1 hu) (key_of I.hok hb) low dd hk fun h2 d2 same => h _ ?_
    obtain ⟨o2, es, ep, a1, a2, a3, a4, _, a5⟩ := d2
    have less : (dropK kvs k).length ≤ kvs.length := List.length_filter_le _ _
    refine d_write I (by rw [hd]; exact True.intro) same ⟨o2, a1⟩ ⟨by omega, low, _, KT.keeps (L2.DX.KT_drop k rel) fun c ys hc => ?_, o2, es, ep, a1, a2, a3, a4, a5⟩
    have ne : c ≠ d := fun e => by
      rw [e, hd] at hc
      cases hc
    rw [upd_ne ne]
    exact hc
end
section
variable {X : Cx} {o i : Expr} {td ty : TE} {pos tpos : Pos}
/-- del d[k], the key a tuple that is there -/
def sDelT (td ty : TE) : TS := fun D σ H => td σ H fun x H1 => ty σ H1 fun y H2 => ∃ d b kvs k v, x = .ref d ∧ y = .ref b ∧ H2 d = some (.dT kvs) ∧ H2 b = some (.tup (k.map kV)) ∧ valV kvs k = some v ∧ D.nx σ (upd H2 d (.dT (dropK kvs k)))
theorem ps_delT (hu : X.A.units + 1 < cLine) (ho : PE X o td) (hi : PE X i ty) : PS X (.Delete [.Subscript o i tpos] pos) (sDelT td ty) := by
  refine ⟨fun pins s σ H D I h => wpAny_Delete (wpAny_deleteEach_cons (wpAny_delete_Subscript (thn (ho.run pins s σ H _ I h) fun u s1 ⟨x, H1, I1, rx, k1⟩ => thn (hi.run pins s1 σ H1 _ I1 k1) fun u2 s2 ⟨y, H2, I2, ry, k2⟩ => ?_)))⟩
  obtain ⟨d, b, kvs, k, v, rfl, rfl, hd, hb, hv, nx⟩ := k2
  obtain rfl : u = Value.ref d := rx
  obtain rfl : u2 = Value.ref b := ry
  exact del_tup hu I2 hd hb hv fun s3 I3 => wpAny_deleteEach_nil ⟨σ, _, I3, nx⟩
/-- {k: v}, the key of either kind: the new dict stands empty meanwhile -/
def tOne (tk tv : TE) : TE := fun σ H Q => ∀ p, H p = none → tk σ (upd H p (.dT [])) fun x H1 => tv σ H1 fun y H2 => ∃ H3, DPut H2 p x y H3 ∧ Q (.ref p) H3
theorem pe_one {k v : Expr} {tk tv : TE} (hu : X.A.units + 1 < cLine) (hk : PE X k tk) (hv : PE X v tv) : PE X (.Dict [some k] [v] pos) (tOne tk tv) := by
  refine ⟨fun pins s σ H Q I h => ?_⟩
  have I1 := I.laid (a := s.heap.objs.size) (o := .dT []) (h' := s.heap.push { cls := .type "dict", data := .dict #[] }) (t' := s.toks) (fun _ _ z => Heap.get?_push_of_some _ z) (Nat.le_refl _) (dt_empty s.heap I.big)
  refine wpAny_Dict_any rfl rfl (by simp) (show 1 ≤ 15 by decide) (pairTrees_cons_walk (thn (hk.run pins _ σ _ _ I1 (h _ (I.hok.fresh (Nat.le_refl _)))) fun u s1 ⟨x, H1, I2, rx, k1⟩ => thn (hv.run pins s1 σ H1 _ I2 k1) fun u2 s2 ⟨y, H2, I3, ry, H3, put, q⟩ => pairTrees_nil_walk ?_))
  unfold storeAll
  rw [List.forIn_cons]
  refine wpAny_bind (wpAny_bind (set_either hu I3 put rx ry fun s3 I4 => wpAny_pure ?_))
  show wpAny _ _ (forIn [] _ _) _ _ _
  rw [List.forIn_nil]
  exact wpAny_pure ⟨.ref s.heap.objs.size, H3, I4, rfl, q⟩
end
end ShD

set_option Elab.async false
set_option linter.all false
set_option maxRecDepth 100000
set_option maxHeartbeats 4000000
/-! min of a list of pairs (a number, a text) -/
namespace ShI
open PySem.W (minD AlikeAll min_list_data)
open PySem PySem.Spec L2
open PyProof.Rows hiding St
/-- a pair's address, its number, its text -/
structure Pt where
  at_ : Addr
  p : Int
  s : Str
def Pt.d (k : Pt) : PyData := .tuple [.int k.p, .str k.s]
def rMinP (K : PySem.W.Frag) : List V → Hp → VK → Prop := fun vs H Q => ∃ (a : Addr) (k0 : Pt) (ks : List Pt), vs = [V.ref a] ∧ SqL K H a ((k0 :: ks).map fun k => V.ref k.at_) ∧ (∀ k ∈ k0 :: ks, SqT K H k.at_ [.int k.p, .str k.s]) ∧ ∀ k ∈ k0 :: ks, k.d = minD k0.d (ks.map Pt.d) → Q (.ref k.at_) H
theorem dp_pairs {K : PySem.W.Frag} {H : Hp} : ∀ {ks : List Pt}, (∀ k ∈ ks, SqT K H k.at_ [.int k.p, .str k.s]) → DpAll K H (ks.map fun k => V.ref k.at_) (ks.map Pt.d)
  | [], _ => .nil
  | k :: ks, h => .cons (.tup (h k List.mem_cons_self) (.cons (.int _) (.cons (.str _) .nil))) (dp_pairs fun j hj => h j (List.mem_cons_of_mem _ hj))
theorem pair_read {h : Heap} {t : Addr} {o : Obj} {u1 u2 : Value} {n : Nat} {p : Int} {x : Str} {d : PyData} {as : List Addr} (ho : h.get? t = some o) (hc : o.cls = .type "tuple") (hd : o.data = .seq #[u1, u2] n) (e1 : L2.RelV (.int p) u1) (e2 : L2.RelV (.str x) u2) (r : Reads h (.ref t) d as) : d = .tuple [.int p, .str x] := by
  obtain ⟨t1, rfl⟩ := e1
  obtain ⟨t2, rfl⟩ := e2
  cases r with
  | list a1 a2 a3 a4 =>
    cases (ho.symm.trans a1 : some o = some _)
    rw [hc] at a2
    exact absurd a2 (by decide)
  | dict a1 a2 a3 a4 a5 =>
    cases (ho.symm.trans a1 : some o = some _)
    rw [hc] at a2
    exact absurd a2 (by decide)
  | tuple a1 a2 a3 a4 =>
    cases (ho.symm.trans a1 : some o = some _)
    rw [hd] at a3
    cases a3
    cases a4 with
    | cons b1 b2 =>
      cases b1
      cases b2 with
      | cons b1 b2 =>
        cases b1
        cases b2
        rfl
theorem depth_pairs : ∀ ks : List Pt, PyData.depthAll (ks.map Pt.d) ≤ 1
  | [] => Nat.zero_le _
  | k :: ks => by
    show max (PyData.depth k.d) (PyData.depthAll (ks.map Pt.d)) ≤ 1
    have := depth_pairs ks
    have : PyData.depth k.d = 1 := rfl
    omega
theorem alike_pairs {ks : List Pt} : AlikeAll (ks.map Pt.d) := by
  refine ⟨fun x hx y hy => ?_, fun x hx => ?_⟩
  · obtain ⟨k, _, rfl⟩ := List.mem_map.mp hx
    obtain ⟨j, _, rfl⟩ := List.mem_map.mp hy
    rfl
  · obtain ⟨k, _, rfl⟩ := List.mem_map.mp hx
    exact fun z => nomatch z
theorem cr_minP {X : Cx} (hc : X.calm = true) (hu : X.A.units + 2 < cLine) : CallR X (.builtin "min") (rMinP X.K) := by
  intro pins s σ H vs us Q I r h
  obtain ⟨a, k0, ks, rfl, hs, each, q⟩ := h
  obtain ⟨its, rv, hl, _⟩ := I.list hs
  rw [Vals.ref1 r]
  obtain ⟨as, reads⟩ := Dp.readsAll I _ _ _ (dp_pairs each) rv
  have dep := depth_pairs (k0 :: ks)
  have dep : PyData.depthAll (k0.d :: ks.map Pt.d) ≤ 1 := dep
  refine min_list_data (vs := its.toArray) (x := k0.d) (xs := ks.map Pt.d) (I.ok.hd hc) hl.isList reads (alike_pairs (ks := k0 :: ks)) (by omega) fun i v h' tk bs hv rd kept => ?_
  have hv' : its[i]? = some v := by simpa using hv
  have lt : i < (k0 :: ks).length := by
    have z := (List.getElem?_eq_some_iff.mp hv').1
    have y := rv.length
    rw [List.length_map] at y
    omega
  obtain ⟨k, hk⟩ : ∃ k, (k0 :: ks)[i]? = some k := ⟨_, List.getElem?_eq_getElem lt⟩
  obtain ⟨v2, h2, rel⟩ := rv.get (i := i) (x := V.ref k.at_) (by rw [List.getElem?_map, hk]; rfl)
  have ev : v2 = v := Option.some.inj (h2.symm.trans hv')
  subst ev
  obtain rfl : v2 = Value.ref k.at_ := rel
  have mem := List.mem_of_getElem? hk
  obtain ⟨us2, r2, ⟨o, ho, hcl, n, hdt⟩, _⟩ := I.tuple (each k mem)
  obtain ⟨u1, u2, rfl, e1, e2⟩ := vals2 r2
  exact ⟨.ref k.at_, H, I.kept kept, rfl, q k mem (pair_read (kept _ _ ho) hcl hdt e1 e2 rd).symm⟩
end ShI

set_option Elab.async false
set_option linter.all false
set_option maxRecDepth 100000
set_option maxHeartbeats 4000000
/-! dicts as data that is locked; dict comprehensions by data -/
namespace Sh
open PySem PySem.Spec L2
open PyProof.Rows hiding St
open Evl (Ex)
open ShD (tDcT tDc2 pe_dcT pe_dc2 sDelT ps_delT tOne pe_one)
open ShI (tFreeze pe_freeze Itp iPairs pi_pairs)
/-- te comes to a value of which R holds, where what stands still has grown -/
def EvP (te : TE) (σ : L2.St) (G : Hp) (R : Hp → V → Prop) : Prop := ∀ H, Ex G H → ∀ Q : VK, (∀ v G2 H2, Gr G H G2 H2 → R G2 v → Q v H2) → te σ H Q
/-- te comes to a new dict with plain keys, which does not stand still -/
def EvK (te : TE) (σ : L2.St) (G : Hp) (R : Hp → List (Key × V) → Prop) : Prop := ∀ H, Ex G H → ∀ Q : VK, (∀ p kvs G2 H2, Gr G H G2 H2 → H p = none → G2 p = none → H2 p = some (.dK kvs) → R G2 kvs → Q (.ref p) H2) → te σ H Q
/-- .. with tuples as keys -/
def EvU (te : TE) (σ : L2.St) (G : Hp) (R : Hp → List (List Key × V) → Prop) : Prop := ∀ H, Ex G H → ∀ Q : VK, (∀ p kvs G2 H2, Gr G H G2 H2 → H p = none → G2 p = none → H2 p = some (.dT kvs) → R G2 kvs → Q (.ref p) H2) → te σ H Q
/-- monotone in what stands still -/
def Up (R : Hp → V → Prop) : Prop := ∀ G1 G2 v, Ex G1 G2 → R G1 v → R G2 v
/-- a locked dict with plain keys -/
def FK (R : Hp → List (Key × V) → Prop) (G : Hp) (v : V) : Prop := ∃ d o kvs, v = .ref d ∧ G d = some (.frz o (.dK kvs)) ∧ R G kvs
def FU (R : Hp → List (List Key × V) → Prop) (G : Hp) (v : V) : Prop := ∃ d o kvs, v = .ref d ∧ G d = some (.frz o (.dT kvs)) ∧ R G kvs
section
variable {K : PySem.W.Frag} {σ : L2.St} {G G' : Hp} {te tk tv : TE} {tt : TT} {d e : D}
theorem EvP.mono {R : Hp → V → Prop} (up : Up R) (e : Ex G G') (h : EvP te σ G R) : EvP te σ G' R := fun H x Q q => h H (e.trans x) Q fun v G2 H2 g k => by
  obtain ⟨G3, a, b⟩ := grow_up e x g
  exact q v G3 H2 b (up _ _ _ a k)
theorem EvD.p (h : EvD te σ G d) : EvP te σ G (fun G v => Dn G v d) := h
theorem up_dn {d : D} : Up (fun G v => Dn G v d) := fun _ _ _ e h => Dn.mono e d h
/-- a new dict, locked at once -/
theorem lockK {R : Hp → List (Key × V) → Prop} (up : ∀ G1 G2 kvs, Ex G1 G2 → R G1 kvs → R G2 kvs) (h : EvK te σ G R) : EvP (tFreeze te) σ G (FK R) := fun H x Q q => h H x _ fun p kvs G2 H2 g hp np h2 r =>
  ⟨p, _, rfl, h2, True.intro, fun o => q _ (upd G2 p (.frz o (.dK kvs))) _ ⟨g.g.trans (Ex.new np), Ex.upd2 g.s, fun a u z => by
    rw [upd_ne (fun y => by rw [y, hp] at z; cases z)]
    exact g.h a u z, fun a h1 h3 => by
    have ne : a ≠ p := fun z => h3 (by rw [z]; exact stf hp)
    rw [upd_ne ne]
    exact g.f a h1 h3⟩ ⟨p, o, kvs, rfl, upd_same, up _ _ _ (Ex.new np) r⟩⟩
theorem lockU {R : Hp → List (List Key × V) → Prop} (up : ∀ G1 G2 kvs, Ex G1 G2 → R G1 kvs → R G2 kvs) (h : EvU te σ G R) : EvP (tFreeze te) σ G (FU R) := fun H x Q q => h H x _ fun p kvs G2 H2 g hp np h2 r =>
  ⟨p, _, rfl, h2, True.intro, fun o => q _ (upd G2 p (.frz o (.dT kvs))) _ ⟨g.g.trans (Ex.new np), Ex.upd2 g.s, fun a u z => by
    rw [upd_ne (fun y => by rw [y, hp] at z; cases z)]
    exact g.h a u z, fun a h1 h3 => by
    have ne : a ≠ p := fun z => h3 (by rw [z]; exact stf hp)
    rw [upd_ne ne]
    exact g.f a h1 h3⟩ ⟨p, o, kvs, rfl, upd_same, up _ _ _ (Ex.new np) r⟩⟩
/-! walks over locked dicts -/
/-- the keys are these texts -/
def keysAre (kvs : List (Key × V)) (xs : List Str) : Prop := kvs.map (·.1) = xs.map Sum.inr
theorem key_at {kvs : List (Key × V)} {xs : List Str} (h : keysAre kvs xs) {i : Nat} {k : Key} {v : V} (e : kvs[i]? = some (k, v)) : ∃ x, xs[i]? = some x ∧ k = .inr x := by
  have z := congrArg (fun l => l[i]?) h
  simp only [List.getElem?_map] at z
  rw [e] at z
  cases q : xs[i]? with
  | none => rw [q] at z; cases z
  | some x =>
    rw [q] at z
    exact ⟨x, rfl, Option.some.inj z⟩
theorem walkD_keys {d : Addr} {o : Obj} {kvs : List (Key × V)} {xs : List Str} (h : G d = some (.frz o (.dK kvs))) (k : keysAre kvs xs) : WalkD (Itk d o kvs) G (strL xs) := by
  have len : (strL xs).length = kvs.length := by
    have z := congrArg List.length k
    rw [List.length_map, List.length_map] at z
    unfold strL
    rw [List.length_map, z]
  refine ⟨fun i H lt e => ⟨e _ _ h, by omega⟩, fun H e => ⟨e _ _ h, by omega⟩, fun i H x H' lt e ⟨eh, k2, v, hk, ex⟩ => ?_⟩
  subst eh
  obtain ⟨y, hy, rfl⟩ := key_at k hk
  refine ⟨G, .str y, Gr.refl e, ?_, by rw [ex]; exact .str y⟩
  unfold strL
  rw [List.getElem?_map, hy]
  rfl
/-- for x in d, d a locked dict with these texts as keys -/
theorem ei_keysK {R : Hp → V → Prop} {xs : List Str} (h : EvP te σ G R) (k : ∀ G v, R G v → ∃ d o kvs, v = .ref d ∧ G d = some (.frz o (.dK kvs)) ∧ keysAre kvs xs) : EvI (iKeys te) σ G (strL xs) := fun H e W w => h H e _ fun v G2 H2 g r => by
  obtain ⟨d, o, kvs, rfl, hd, hk⟩ := k G2 v r
  exact ⟨d, o, rfl, .inl ⟨kvs, g.s _ _ hd, w _ G2 H2 g (walkD_keys hd hk)⟩⟩
/-! dict comprehensions -/
theorem putK_snoc {kvs : List (Key × V)} {xs : List Str} (h : keysAre kvs xs) {x : Str} {v : V} (n : x ∉ xs) : putK kvs (.inr x) v = kvs ++ [(.inr x, v)] := by
  unfold putK
  rw [if_neg]
  intro z
  obtain ⟨⟨k, u⟩, hm, e⟩ := List.any_eq_true.mp z
  have e := of_decide_eq_true e
  obtain ⟨i, hi⟩ := List.getElem?_of_mem hm
  obtain ⟨y, hy, rfl⟩ := key_at h hi
  cases e
  exact n (List.mem_of_getElem? hy)
/-- pairs as they stand in a dict: the keys in order, each value as R tells of its data -/
def RowsK {α : Type} (k : α → Str) (R : Hp → V → α → Prop) (ds : List α) (G : Hp) (kvs : List (Key × V)) : Prop := Paired (fun (p : Key × V) (d : α) => p.1 = .inr (k d) ∧ R G p.2 d) kvs ds
theorem RowsK.up {α : Type} {k : α → Str} {R : Hp → V → α → Prop} (up : ∀ d, Up (fun G v => R G v d)) : ∀ {ds : List α} {G1 G2 : Hp} {kvs : List (Key × V)}, Ex G1 G2 → RowsK k R ds G1 kvs → RowsK k R ds G2 kvs := fun {ds G1 G2 kvs} e h => by
  unfold RowsK at h ⊢
  induction h with
  | nil => exact .nil
  | cons h t ih => exact .cons ⟨h.1, up _ _ _ _ e h.2⟩ ih
theorem RowsK.keys {α : Type} {k : α → Str} {R : Hp → V → α → Prop} : ∀ {ds : List α} {G1 : Hp} {kvs : List (Key × V)}, RowsK k R ds G1 kvs → keysAre kvs (ds.map k) := fun {ds G1 kvs} h => by
  unfold RowsK at h
  unfold keysAre
  induction h with
  | nil => rfl
  | cons h t ih => rw [List.map_cons, List.map_cons, List.map_cons, ih, h.1]
theorem RowsK.len {α : Type} {k : α → Str} {R : Hp → V → α → Prop} {ds : List α} {G1 : Hp} {kvs : List (Key × V)} (h : RowsK k R ds G1 kvs) : kvs.length = ds.length := Paired.length h
theorem evk_dc {wi : TI} {g : TG} {vs : List Nat} {ds : List D} {f : D → Bool} {k : D → Str} {R : Hp → V → D → Prop} {B : D → Hp → L2.St → Prop} (hi : EvI wi σ G ds) (hz : ds.length ≤ 40000) (up : ∀ d, Up (fun G v => R G v d))
    (hg : ∀ d ∈ ds, ∀ G1, Ex G G1 → EvG g (wipe σ vs) G1 d (B d)) (hw : ∀ d G1 σ2, B d G1 σ2 → wipe σ2 vs = wipe σ vs)
    (ht : ∀ d ∈ ds, ∀ G1 σ2, Ex G G1 → B d G1 σ2 → EvT tt σ2 G1 (f d))
    (hk : ∀ d ∈ ds, f d = true → ∀ G1 σ2, Ex G G1 → B d G1 σ2 → EvD tk σ2 G1 (.str (k d)))
    (hv : ∀ d ∈ ds, f d = true → ∀ G1 σ2, Ex G G1 → B d G1 σ2 → EvP tv σ2 G1 (fun G v => R G v d))
    (nd : ((ds.filter f).map k).Nodup) : EvK (tDc wi g tt tk tv vs) σ G (RowsK k R (ds.filter f)) := fun H e Q q => hi H e _ fun J G0 H0 g0 w D hD => by
  refine ⟨fun i m H' => m = ds.length - i ∧ i ≤ ds.length ∧ ∃ Gi kvs, Gr G0 H0 Gi H' ∧ Gi D = none ∧ H' D = some (.dK kvs) ∧ RowsK k R ((ds.take i).filter f) Gi kvs,
    ⟨ds.length, by simp, Nat.zero_le _, G0, [], ⟨Ex.refl _, g0.s.trans (Ex.new hD), Ex.new hD, fun _ a _ => a⟩, Evl.fresh_back g0.s hD, upd_same, .nil⟩, ?_⟩
  rintro i m H' ⟨rfl, hi', Gi, kvs, gi, hGD, hHD, na⟩
  have wi' := w.mono gi.g
  by_cases hlt : i < ds.length
  · refine .inr ⟨wi'.go i H' hlt gi.s, fun H2 => ∃ Gj kvs, Gr G0 H0 Gj H2 ∧ Gj D = none ∧ H2 D = some (.dK kvs) ∧ RowsK k R ((ds.take (i + 1)).filter f) Gj kvs, fun H2 p => ⟨ds.length - (i + 1), by omega, rfl, hlt, p⟩, fun x H2 y => ?_⟩
    obtain ⟨G2, d, g2, hd, n2⟩ := wi'.yld i H' x H2 hlt gi.s y
    have hmem : d ∈ ds := List.mem_of_getElem? hd
    have hGD2 : G2 D = none := g2.f D hGD (by rw [hHD]; intro z; cases z)
    have ex2 : Ex G G2 := (g0.g.trans gi.g).trans g2.g
    refine hg d hmem G2 ex2 x H2 g2.s n2 _ fun σ2 hB => ⟨hw d G2 σ2 hB, ?_⟩
    refine ht d hmem G2 σ2 ex2 hB H2 g2.s _ fun G3 H3 g3 => ?_
    have hHD2 := g2.h _ _ hHD
    have hGD3 : G3 D = none := g3.f D hGD2 (by rw [hHD2]; intro z; cases z)
    have hHD3 := g3.h _ _ hHD2
    have gg3 := (gi.trans g2).trans g3
    have na3 := na.up up (g2.g.trans g3.g)
    cases hf : f d with
    | false =>
      refine ⟨G3, kvs, gg3, hGD3, hHD3, ?_⟩
      rw [take_len hd, List.filter_append, List.filter_cons, if_neg (by rw [hf]; decide)]
      show RowsK k R (((ds.take i).filter f) ++ []) G3 kvs
      rw [List.append_nil]
      exact na3
    | true =>
      show tk σ2 H3 _
      refine (hk d hmem hf G2 σ2 ex2 hB).mono g3.g H3 g3.s _ fun y G4 H4 g4 n4 => ?_
      cases n4
      have hHD4 := g4.h _ _ hHD3
      have hGD4 : G4 D = none := g4.f D hGD3 (by rw [hHD3]; intro z; cases z)
      refine ((hv d hmem hf G2 σ2 ex2 hB).mono (up d) (g3.g.trans g4.g)) H4 g4.s _ fun z G5 H5 g5 n5 => ?_
      have hHD5 := g5.h _ _ hHD4
      have hGD5 : G5 D = none := g5.f D hGD4 (by rw [hHD4]; intro z; cases z)
      have gg5 := (gg3.trans g4).trans g5
      have na5 := na3.up up (g4.g.trans g5.g)
      have tk1 : (ds.take (i + 1)).filter f = (ds.take i).filter f ++ [d] := by rw [take_len hd, List.filter_append, List.filter_cons, if_pos hf] <;> rfl
      have sub : List.Sublist ((ds.take (i + 1)).filter f) (ds.filter f) := (List.take_sublist _ _).filter f
      have nd1 := nd.sublist (sub.map k)
      rw [tk1, List.map_append, List.nodup_append] at nd1
      have new : k d ∉ ((ds.take i).filter f).map k := fun m => nd1.2.2 _ m _ (List.mem_singleton_self _) rfl
      have e1 := putK_snoc (v := z) na5.keys new
      refine ⟨kvs, .inr (k d), rfl, hHD5, ?_, G5, kvs ++ [(.inr (k d), z)], ⟨gg5.g, Ex.mut gg5.s hGD5, Ex.mut gg5.h hD, gg5.f⟩, hGD5, ?_, ?_⟩
      · rw [na.len]
        have l1 := List.length_filter_le f (ds.take i)
        rw [List.length_take] at l1
        exact Nat.lt_of_lt_of_le (show _ < 100000 by omega) (by decide)
      · rw [upd_same, e1]
      · rw [tk1]
        exact Paired.snoc na5 ⟨rfl, n5⟩
  · have ei : i = ds.length := by omega
    subst ei
    refine .inl ⟨wi'.stop H' gi.s, ?_⟩
    rw [List.take_length] at na
    exact q D kvs Gi H' (g0.trans ⟨gi.g, gi.s, gi.h, gi.f⟩) (Evl.fresh_back g0.h hD) hGD hHD na
end
end Sh

set_option Elab.async false
set_option linter.all false
set_option maxRecDepth 100000
set_option maxHeartbeats 4000000
/-! min of a row of ints; more rules by data -/
namespace ShW
open PySem PySem.Spec PyProof.Rows L2
def rMinS (K : PySem.W.Frag) (k : Kd) : List V → Hp → VK → Prop := fun vs H Q => ∃ (a : Addr) (ns : List Int), vs = [V.ref a] ∧ SqK K k H a (ns.map V.int) ∧ 0 < ns.length ∧ ∀ m, m ∈ ns → (∀ y, y ∈ ns → m ≤ y) → Q (.int m) H
theorem cr_minS {X : Cx} {k : Kd} (hc : X.calm = true) : CallR X (.builtin "min") (rMinS X.K k) := by
  intro pins s σ H vs us Q I r h
  obtain ⟨a, ns, rfl, hs, hne, q⟩ := h
  obtain ⟨its, rv, p⟩ := SqK.at I hs
  rw [Vals.ref1 r]
  have lt := p.lt
  have len : its.length = ns.length := by rw [← rv.length, List.length_map]
  refine call_min_walk (iterK p ⟨s.heap.objs.size, [s.heap.objs.size, a], [s.heap.objs.size], its.toArray.size, _, _, fun i j => decide (ns.getD i 0 < ns.getD j 0), rfl, walksK (I.ok.hd hc) (Nat.ne_of_lt lt), ⟨⟨_, Heap.get?_push_size _ rfl, rfl, rfl⟩, p.push⟩, fun b hb => ?_, ?_, CmpOf.ints_lt (fun i => ns.getD i 0) (fun i v hv => ints_at rv (by simpa using hv)), fun v h' tk hv kp => ?_⟩)
  · show b < (s.heap.push _).objs.size
    rw [Heap.size_push]
    rcases List.mem_cons.mp hb with rfl | hb
    · exact Nat.lt_succ_self _
    · rw [List.mem_singleton.mp hb]
      exact Nat.lt_succ_of_lt lt
  · rw [List.size_toArray, len]
    exact hne
  · have kp' : ∀ b u, s.heap.get? b = some u → h'.get? b = some u := fun b u e => kp b u (fun m => Nat.ne_of_lt (Heap.lt_size e) (List.mem_singleton.mp m)) (Heap.get?_push_of_some _ e)
    obtain ⟨t, rfl⟩ := ints_at rv (by simpa using hv)
    obtain ⟨h1, h2⟩ := argBest_lt (fun i => ns.getD i 0) (its.toArray.size - 1)
    rw [List.size_toArray, len] at h1 h2
    have e3 : (fun i j => decide (ns.getD i 0 < ns.getD j 0)) = fun i j => decide (ns[i]?.getD 0 < ns[j]?.getD 0) := by
      funext i j
      rw [List.getD_eq_getElem?_getD, List.getD_eq_getElem?_getD]
    rw [e3] at h1 h2
    rw [len]
    generalize argBest (fun i j => decide (ns[i]?.getD 0 < ns[j]?.getD 0)) (ns.length - 1) = m at h1 h2
    refine ⟨.int _, H, I.kept (t' := tk) kp', ⟨_, rfl⟩, q _ (PySem.getD_mem (by omega)) fun y hy => ?_⟩
    obtain ⟨j, hj, rfl⟩ := mem_getD hy
    exact h2 j (by omega)
end ShW
namespace Sh
open PySem PySem.Spec L2
open PyProof.Rows hiding St
open Evl (Ex)
open ShW (Kd SqK rMinS)
section
variable {K : PySem.W.Frag} {σ : L2.St} {G : Hp} {te ta tb tk tv tn : TE} {t u : TS} {tt : TT} {d e : D} {r sc : Addr} {P : D → Prop}
theorem r_minS {k : Kd} {ns : List Int} {z : Int} (h0 : z ∈ ns) (h1 : ∀ y ∈ ns, z ≤ y) : RCD (rMinS K k) [seqD k (intL ns)] (.int z) G := fun G1 H vs _ ex h Q q => by
  obtain ⟨v, rfl, n⟩ := one_of h
  obtain ⟨a, xs, rfl, hq, m, _⟩ := sq_of (K := K) n ex
  have e1 := dn_ints m
  subst e1
  refine ⟨a, ns, rfl, hq, List.length_pos_of_mem h0, fun m hm hy => ?_⟩
  have e2 : m = z := Int.le_antisymm (hy z h0) (h1 m hm)
  rw [e2]
  exact q _ G1 H (Gr.refl ex) (.int _)
theorem r_min2 {a b z : Int} (h : (if b < a then b else a) = z) : RCD (fun xs H Q => ∃ i j, xs = [.int i, .int j] ∧ Q (.int (if j < i then j else i)) H) [.int a, .int b] (.int z) G := fun G1 H vs _ ex h' Q q => by
  obtain ⟨v, w, rfl, n1, n2⟩ := two_of h'
  cases n1
  cases n2
  refine ⟨a, b, rfl, ?_⟩
  rw [h]
  exact q _ G1 H (Gr.refl ex) (.int _)
/-- a dict made by a comprehension, its keys texts, its values data -/
theorem evd_dcD {wi : TI} {g : TG} {vs : List Nat} {ds : List D} {k : D → Str} {rr : D → D} {B : D → Hp → L2.St → Prop} (hi : EvI wi σ G ds) (hz : ds.length ≤ 40000)
    (hg : ∀ d ∈ ds, ∀ G1, Ex G G1 → EvG g (wipe σ vs) G1 d (B d)) (hw : ∀ d G1 σ2, B d G1 σ2 → wipe σ2 vs = wipe σ vs)
    (hk : ∀ d ∈ ds, ∀ G1 σ2, Ex G G1 → B d G1 σ2 → EvD tk σ2 G1 (.str (k d)))
    (hv : ∀ d ∈ ds, ∀ G1 σ2, Ex G G1 → B d G1 σ2 → EvD tv σ2 G1 (rr d)) (nd : (ds.map k).Nodup) :
    EvD (tDc wi g tYes tk tv vs) σ G (.dict (ds.map fun d => (.str (k d), rr d))) := fun H e Q q => by
  have h := evk_dc (tt := tYes) (tk := tk) (tv := tv) (f := fun _ => true) (k := k) (R := fun G v d => Dn G v (rr d)) hi hz (fun d => up_dn) hg hw (fun _ _ _ _ _ _ => evt_yes) (fun d hd _ => hk d hd) (fun d hd _ G1 σ2 e1 b => (hv d hd G1 σ2 e1 b).p) (by rw [filter_all]; exact nd)
  refine h H e Q fun p kvs G2 H2 g hp n hp2 m => ?_
  rw [filter_all] at m
  have mk : ∀ {ds : List D} {kvs : List (Key × V)}, RowsK k (fun G v d => Dn G v (rr d)) ds G2 kvs → DnK G2 kvs (ds.map fun d => (.str (k d), rr d)) := fun {ds kvs} m => by
    unfold RowsK at m
    induction m with
    | nil => exact .nil
    | @cons p d _ _ h _ ih =>
      obtain ⟨k1, v1⟩ := p
      obtain ⟨h1, h2⟩ := h
      have h1 : k1 = .inr (k d) := h1
      subst h1
      exact .cons h2 ih
  refine q (.ref p) (upd G2 p (.dK kvs)) H2 ⟨g.g.trans (Ex.new n), fun a o z => ?_, g.h, fun a h1 h2 => ?_⟩ (.dct upd_same (DnK.mono (Ex.new n) _ (mk m)))
  · by_cases ha : a = p
    · subst ha
      rw [upd_same] at z
      rw [hp2, z]
    · rw [upd_ne ha] at z
      exact g.s a o z
  · have h3 : a ≠ p := fun z => h2 (by rw [z]; exact stf hp)
    rw [upd_ne h3]
    exact g.f a h1 h2
theorem eg_four {i1 i2 i3 i4 : Nat} {d1 d2 d3 d4 : D} : EvG (gTup K 4 (gCons (gName i1) (gCons (gName i2) (gCons (gName i3) (gCons (gName i4) gNil))))) σ G (.tuple [d1, d2, d3, d4])
    (fun G σ2 => ∃ v1 v2 v3 v4, σ2 = (((σ.set i1 (some v1)).set i2 (some v2)).set i3 (some v3)).set i4 (some v4) ∧ Dn G v1 d1 ∧ Dn G v2 d2 ∧ Dn G v3 d3 ∧ Dn G v4 d4) := fun x H ex n Q q => by
  cases n with
  | tup h1 h2 =>
    obtain ⟨v1, r1, rfl, n1, h2⟩ := dnc h2
    obtain ⟨v2, r2, rfl, n2, h2⟩ := dnc h2
    obtain ⟨v3, r3, rfl, n3, h2⟩ := dnc h2
    obtain ⟨v4, r4, rfl, n4, h2⟩ := dnc h2
    obtain rfl := dnn h2
    exact ⟨_, _, rfl, .inl (rdx ex h1), rfl, _, _, rfl, _, _, rfl, _, _, rfl, _, _, rfl, rfl, q _ ⟨_, _, _, _, rfl, n1, n2, n3, n4⟩⟩
theorem eg_six {i1 i2 i3 i4 i5 i6 : Nat} {d1 d2 d3 d4 d5 d6 : D} : EvG (gTup K 6 (gCons (gName i1) (gCons (gName i2) (gCons (gName i3) (gCons (gName i4) (gCons (gName i5) (gCons (gName i6) gNil))))))) σ G (.tuple [d1, d2, d3, d4, d5, d6])
    (fun G σ2 => ∃ v1 v2 v3 v4 v5 v6, σ2 = (((((σ.set i1 (some v1)).set i2 (some v2)).set i3 (some v3)).set i4 (some v4)).set i5 (some v5)).set i6 (some v6) ∧ Dn G v1 d1 ∧ Dn G v2 d2 ∧ Dn G v3 d3 ∧ Dn G v4 d4 ∧ Dn G v5 d5 ∧ Dn G v6 d6) := fun x H ex n Q q => by
  cases n with
  | tup h1 h2 =>
    obtain ⟨v1, r1, rfl, n1, h2⟩ := dnc h2
    obtain ⟨v2, r2, rfl, n2, h2⟩ := dnc h2
    obtain ⟨v3, r3, rfl, n3, h2⟩ := dnc h2
    obtain ⟨v4, r4, rfl, n4, h2⟩ := dnc h2
    obtain ⟨v5, r5, rfl, n5, h2⟩ := dnc h2
    obtain ⟨v6, r6, rfl, n6, h2⟩ := dnc h2
    obtain rfl := dnn h2
    exact ⟨_, _, rfl, .inl (rdx ex h1), rfl, _, _, rfl, _, _, rfl, _, _, rfl, _, _, rfl, _, _, rfl, _, _, rfl, rfl, q _ ⟨_, _, _, _, _, _, rfl, n1, n2, n3, n4, n5, n6⟩⟩
/-- (a, b), c -/
theorem eg_nest2 {i j k : Nat} {a b c : D} : EvG (gTup K 2 (gCons (gTup K 2 (gCons (gName i) (gCons (gName j) gNil))) (gCons (gName k) gNil))) σ G (.tuple [.tuple [a, b], c])
    (fun G σ2 => ∃ x y z, σ2 = ((σ.set i (some x)).set j (some y)).set k (some z) ∧ Dn G x a ∧ Dn G y b ∧ Dn G z c) := fun x H ex n Q q => by
  cases n with
  | tup h1 h2 =>
    obtain ⟨v1, v2, rfl, n1, n2⟩ := two_of h2
    cases n1 with
    | tup h3 h4 =>
      obtain ⟨v3, v4, rfl, n3, n4⟩ := two_of h4
      exact ⟨_, _, rfl, .inl (rdx ex h1), rfl, _, _, rfl, ⟨_, _, rfl, .inl (rdx ex h3), rfl, _, _, rfl, _, _, rfl, rfl, _, _, rfl, rfl, q _ ⟨_, _, _, rfl, n3, n4, n2⟩⟩⟩
/-- a list filled by a loop, from a list that stands void: what comes behind the loop -/
theorem build_at {wi : TI} {g : TG} {p : Addr} {ds : List D} {out : Nat → D} {I : Nat → Hp → L2.St → Prop} {C : D → Hp → L2.St → L2.St → Prop} {G0 H0 H : Hp} {E : Ends} (gm : Gm p G0 H0 G H) (hp0 : H0 p = none) (hp : H p = some (.lst [])) (few : ds.length ≤ 90000) (hi : EvI wi σ G ds)
    (mono : ∀ i G1 G2 σ', Ex G1 G2 → I i G1 σ' → I i G2 σ') (h0 : I 0 G σ)
    (hg : ∀ j d σ' G1, ds[j]? = some d → Ex G G1 → I j G1 σ' → EvG g σ' G1 d fun G2 σ2 => C d G2 σ' σ2)
    (hb : ∀ j d σ' σ2 G1, ds[j]? = some d → Ex G G1 → I j G1 σ' → C d G1 σ' σ2 → EvAp p t σ2 G1 (out j) (I (j + 1)))
    (k : ∀ σ2 G2 H2, Gr G0 H0 G2 H2 → Ex G G2 → I ds.length G2 σ2 → Dn G2 (.ref p) (.list ((List.range ds.length).map out)) → E.nx σ2 H2) : tFor wi g t E σ H := by
  refine for_data (G := G) hi gm.s (fun G1 H1 j σ' H' => ∃ Gi xs, Ex G Gi ∧ Ex G1 Gi ∧ Gm p G0 H0 Gi H' ∧ H' p = some (.lst xs) ∧ DnL Gi xs ((List.range j).map out) ∧ I j Gi σ') (fun G1 H1 j σ' H' ⟨Gi, xs, _, x, gm, _⟩ => x.trans gm.s) (fun G1 H1 g1 => ?_) (fun G1 H1 j d x σ' H' G2 H2 g1 hd pv g2 nx => ?_) (fun G1 H1 σ' H' g1 pv => ?_)
  · obtain ⟨gm1, h1⟩ := gm.step hp g1
    exact ⟨G1, [], g1.g, Ex.refl _, gm1, h1, .nil, mono 0 G G1 _ g1.g h0⟩
  · obtain ⟨Gi, xs, x0, x1, gm, hpi, m, hI⟩ := pv
    obtain ⟨G3, e23, g3⟩ := grow_up x1 gm.s g2
    obtain ⟨gm3, hp3⟩ := gm.step hpi g3
    have hI3 := mono j Gi G3 σ' g3.g hI
    have x03 := x0.trans g3.g
    refine hg j d σ' G3 hd x03 hI3 x H2 gm3.s (Dn.mono e23 _ nx) _ fun σ2 hc => ?_
    have ln : xs.length = j := by rw [m.length, List.length_map, List.length_range]
    have lt := (List.getElem?_eq_some_iff.mp hd).1
    refine hb j d σ' σ2 G3 hd x03 hI3 hc H2 xs gm3.s gm3.n hp3 (by omega) _ fun σ3 v G4 H4 g4 m4 b4 => ?_
    obtain ⟨gm4, hp4⟩ := gm3.step hp3 g4
    refine ⟨G4, xs ++ [v], x03.trans g4.g, x1.trans (g3.g.trans g4.g), gm4.put, upd_same, ?_, b4⟩
    rw [List.range_succ, List.map_append]
    exact (DnL.mono (g3.g.trans g4.g) _ m).snoc m4
  · obtain ⟨Gi, xs, x0, x1, gm, hpi, m, hI⟩ := pv
    have gr := gm.close hp0 hpi
    have up : Ex Gi (upd Gi p (.lst xs)) := Ex.new gm.n
    exact k σ' (upd Gi p (.lst xs)) H' gr (x0.trans up) (mono _ Gi _ σ' up hI) (.lst upd_same (DnL.mono up _ m))
/-- the same in a def without errors -/
theorem evs_build {c : D} {wi : TI} {g : TG} {i : Nat} {ds : List D} {out : Nat → D} {I : Addr → Nat → Hp → L2.St → Prop} {C : D → Hp → L2.St → L2.St → Prop} (few : ds.length ≤ 90000) (hi : ∀ p, EvI wi (σ.set i (some (.ref p))) G ds) (mono : ∀ p i G1 G2 σ', Ex G1 G2 → I p i G1 σ' → I p i G2 σ')
    (h0 : ∀ p, I p 0 G (σ.set i (some (.ref p))))
    (hg : ∀ p j d σ' G1, ds[j]? = some d → Ex G G1 → I p j G1 σ' → EvG g σ' G1 d fun G2 σ2 => C d G2 σ' σ2)
    (hb : ∀ p j d σ' σ2 G1, ds[j]? = some d → Ex G G1 → I p j G1 σ' → C d G1 σ' σ2 → EvAp p t σ2 G1 (out j) (I p (j + 1)))
    (k : ∀ p σ2 G2, Ex G G2 → I p ds.length G2 σ2 → Dn G2 (.ref p) (.list ((List.range ds.length).map out)) → EvS u σ2 G2 c) :
    EvS (tSeq (tAsg (tLst tNil) (gName i)) (tSeq (tFor wi g t) u)) σ G c := fun H e E q => by
  refine go_set (go_lst (go_nil ⟨Evl.sz_of (by show 0 ≤ 100000; decide), fun p hp => go_for ?_⟩))
  exact build_at (Gm.start (o := .lst []) e hp) hp upd_same few (hi p) (mono p) (h0 p) (hg p) (hb p) fun σ2 G2 H2 gr _ hI n => k p σ2 G2 gr.g hI n H2 gr.s E fun v G3 H3 g3 n3 => q v G3 H3 (gr.trans g3) n3
/-- the same in a def that may raise -/
theorem evx_build {xk : XK} {Cc : Addr} {o : Option D} {wi : TI} {g : TG} {i : Nat} {ds : List D} {out : Nat → D} {I : Addr → Nat → Hp → L2.St → Prop} {C : D → Hp → L2.St → L2.St → Prop} (few : ds.length ≤ 90000) (hi : ∀ p, EvI wi (σ.set i (some (.ref p))) G ds) (mono : ∀ p i G1 G2 σ', Ex G1 G2 → I p i G1 σ' → I p i G2 σ')
    (h0 : ∀ p, I p 0 G (σ.set i (some (.ref p))))
    (hg : ∀ p j d σ' G1, ds[j]? = some d → Ex G G1 → I p j G1 σ' → EvG g σ' G1 d fun G2 σ2 => C d G2 σ' σ2)
    (hb : ∀ p j d σ' σ2 G1, ds[j]? = some d → Ex G G1 → I p j G1 σ' → C d G1 σ' σ2 → EvAp p t σ2 G1 (out j) (I p (j + 1)))
    (k : ∀ p σ2 G2, Ex G G2 → I p ds.length G2 σ2 → Dn G2 (.ref p) (.list ((List.range ds.length).map out)) → EvX xk Cc u σ2 G2 o) :
    EvX xk Cc (tSeq (tAsg (tLst tNil) (gName i)) (tSeq (tFor wi g t) u)) σ G o := fun H e E q bad => by
  refine go_set (go_lst (go_nil ⟨Evl.sz_of (by show 0 ≤ 100000; decide), fun p hp => go_for ?_⟩))
  exact build_at (Gm.start (o := .lst []) e hp) hp upd_same few (hi p) (mono p) (h0 p) (hg p) (hb p) fun σ2 G2 H2 gr _ hI n => (k p σ2 G2 gr.g hI n).go gr q bad
/-- x, p = d, []; a loop that fills p; the rest: in the law's block -/
theorem evl_build2 {wi : TI} {g : TG} {i j : Nat} {ds : List D} {out : Nat → D} {I : V → Addr → Nat → Hp → L2.St → Prop} {C : D → Hp → L2.St → L2.St → Prop} (hx : EvD te σ G d) (few : ds.length ≤ 90000) (hi : ∀ x p G1, Ex G G1 → Dn G1 x d → EvI wi ((σ.set i (some x)).set j (some (.ref p))) G1 ds)
    (mono : ∀ x p i G1 G2 σ', Ex G1 G2 → I x p i G1 σ' → I x p i G2 σ')
    (h0 : ∀ x p G1, Ex G G1 → Dn G1 x d → I x p 0 G1 ((σ.set i (some x)).set j (some (.ref p))))
    (hg : ∀ x p j d σ' G1, ds[j]? = some d → Ex G G1 → I x p j G1 σ' → EvG g σ' G1 d fun G2 σ2 => C d G2 σ' σ2)
    (hb : ∀ x p j d' σ' σ2 G1, ds[j]? = some d' → Ex G G1 → I x p j G1 σ' → C d' G1 σ' σ2 → EvAp p t σ2 G1 (out j) (I x p (j + 1)))
    (k : ∀ x p σ2 G2, Ex G G2 → I x p ds.length G2 σ2 → Dn G2 (.ref p) (.list ((List.range ds.length).map out)) → EvL K r sc u σ2 G2) :
    EvL K r sc (tSeq (tPar i j (tCons te (tCons (tLst tNil) tNil))) (tSeq (tFor wi g t) u)) σ G := fun H st E q => by
  refine go_parS (go_cons (hx H st.s _ fun x G1 H1 g1 n1 => go_cons (go_lst (go_nil ⟨Evl.sz_of (by show 0 ≤ 100000; decide), fun p hp => go_nil ⟨x, .ref p, rfl, go_for ?_⟩⟩))))
  have st1 := st.gr g1
  exact build_at (Gm.start (o := .lst []) g1.s hp) hp upd_same few (hi x p G1 g1.g n1) (mono x p) (h0 x p G1 g1.g n1) (fun j d σ' G2 hd e => hg x p j d σ' G2 hd (g1.g.trans e)) (fun j d' σ' σ2 G2 hd e => hb x p j d' σ' σ2 G2 hd (g1.g.trans e)) fun σ2 G2 H2 gr _ hI n => k x p σ2 G2 (g1.g.trans gr.g) hI n H2 (st1.gr gr) E q
/-- an append, and more behind it -/
theorem eva_appS {i : Nat} {p : Addr} {o : D} {B : Hp → L2.St → Prop} (hs : σ[i]? = some (some (.ref p))) (h : EvD te σ G o) (hu : ∀ G2, Ex G G2 → EvN u σ G2 B) : EvAp p (tSeq (tDrop (tBM K "list" rAppend (tVar i) (tCons te tNil))) u) σ G o B := fun H xs e np hp hz E q => by
  refine go_seq (go_drop (go_bm (go_var hs ⟨.inl ⟨rfl, _, .inl (.inl hp)⟩, go_cons (h H e _ fun v G2 H2 g n => go_nil ?_)⟩)))
  have hp2 : H2 p = some (.lst xs) := g.h _ _ hp
  have np2 : G2 p = none := g.f p np (by rw [hp]; intro z; cases z)
  refine app_at hp2 hz ?_
  dsimp only
  have e2 : Ex G2 (upd H2 p (.lst (xs ++ [v]))) := Ex.mut g.s np2
  refine hu G2 g.g _ e2 E fun σ2 G3 H3 g3 b => ?_
  have hp3 : H3 p = some (.lst (xs ++ [v])) := g3.h _ _ upd_same
  have np3 : G3 p = none := g3.f p np2 (by rw [upd_same]; intro z; cases z)
  have back : upd (upd H3 p (.lst xs)) p (.lst (xs ++ [v])) = H3 := by
    rw [upd_upd]
    funext a
    by_cases ha : a = p
    · subst ha
      rw [upd_same, hp3]
    · rw [upd_ne ha]
  have z := q σ2 v G3 (upd H3 p (.lst xs)) ⟨g.g.trans g3.g, Ex.mut g3.s np3, fun a o' y => ?_, fun a y1 y2 => ?_⟩ (Dn.mono g3.g _ n) b
  · rw [back] at z
    exact z
  · by_cases ha : a = p
    · subst ha
      rw [upd_same, ← hp, y]
    · rw [upd_ne ha]
      exact g3.h a o' (by rw [upd_ne ha]; exact g.h a o' y)
  · by_cases ha : a = p
    · rw [ha]
      exact np3
    · exact g3.f a (g.f a y1 y2) (by
        rw [upd_ne ha]
        exact stiff_up (g.h a) y2)
/-- [draws for x in ds] -/
theorem evr_lc {wi : TI} {g : TG} {vs : List Nat} {ds : List D} {P1 : D → D → Prop} {B : D → Hp → L2.St → Prop} (hi : EvI wi σ G ds) (hz : ds.length ≤ 40000)
    (hg : ∀ d ∈ ds, ∀ G1, Ex G G1 → EvG g (wipe σ vs) G1 d (B d)) (hw : ∀ d G1 σ2, B d G1 σ2 → wipe σ2 vs = wipe σ vs)
    (he : ∀ d ∈ ds, ∀ G1 σ2, Ex G G1 → B d G1 σ2 → EvR K r sc te σ2 G1 (P1 d)) (out : ∀ es, Paired P1 ds es → P (.list es)) :
    EvR K r sc (tLc wi g tYes te vs) σ G P := fun H st Q q => hi H st.s _ fun J G0 H0 g0 w L hL => by
  have st0 := st.gr g0
  have neL := st0.ne hL
  have gq0 := Gq.of st g0
  have fresh : H L = none := Evl.fresh_back g0.h hL
  refine ⟨fun i m H' => m = ds.length - i ∧ i ≤ ds.length ∧ ∃ Gi acc es, Gq K r sc G H Gi H' ∧ Ex G0 Gi ∧ Gi L = none ∧ H' L = some (.lst acc) ∧ DnL Gi acc es ∧ Paired P1 (ds.take i) es,
    ⟨ds.length, by simp, Nat.zero_le _, G0, [], [], ⟨g0.g, st0.loose hL, fun a o ha y => ?_, g0.f⟩, Ex.refl _, Evl.fresh_back st0.s hL, upd_same, .nil, .nil⟩, ?_⟩
  · have z := g0.h a o y
    rw [upd_ne (fun e => by rw [← e, z] at hL; cases hL)]
    exact z
  rintro i m H' ⟨rfl, hi', Gi, acc, es, gq, x1, nL, hL', m, pr⟩
  have wi' := w.mono x1
  by_cases hlt : i < ds.length
  · refine .inr ⟨wi'.go i H' hlt gq.st.s, fun H2 => ∃ Gj acc es, Gq K r sc G H Gj H2 ∧ Ex G0 Gj ∧ Gj L = none ∧ H2 L = some (.lst acc) ∧ DnL Gj acc es ∧ Paired P1 (ds.take (i + 1)) es, fun H2 p => ⟨ds.length - (i + 1), by omega, rfl, hlt, p⟩, fun x H2 y => ?_⟩
    obtain ⟨G2, d, g2, hd, n2⟩ := wi'.yld i H' x H2 hlt gq.st.s y
    have hmem : d ∈ ds := List.mem_of_getElem? hd
    have gq2 := gq.trans st (Gq.of gq.st g2)
    have nL2 : G2 L = none := g2.f L nL (by rw [hL']; intro z; cases z)
    have hL2 := g2.h _ _ hL'
    refine hg d hmem G2 gq2.g x H2 g2.s n2 _ fun σ2 hB => ⟨hw d G2 σ2 hB, ?_⟩
    show te σ2 H2 _
    refine he d hmem G2 σ2 gq2.g hB H2 gq2.st _ fun v e G3 H3 p g3 nv => ?_
    have hL3 : H3 L = some (.lst acc) := g3.h _ _ neL hL2
    have nL3 : G3 L = none := g3.f L nL2 (by rw [hL2]; intro z; cases z)
    have gg := gq2.trans st g3
    have lenA : acc.length = i := by
      have z := pr.length
      rw [List.length_take] at z
      rw [m.length]
      omega
    refine ⟨acc, hL3, Nat.lt_of_lt_of_le (show _ < 100000 by omega) (by decide), G3, acc ++ [v], es ++ [e], ⟨gg.g, gg.st.mut nL3 neL, fun a o ha y => ?_, gg.f⟩, (x1.trans g2.g).trans g3.g, nL3, upd_same, (DnL.mono (g2.g.trans g3.g) _ m).snoc nv, ?_⟩
    · have z := gg.h a o ha y
      rw [upd_ne (fun e => by rw [e, fresh] at y; cases y)]
      exact z
    · rw [take_len hd]
      exact Paired.snoc pr p
  · have ei : i = ds.length := by omega
    subst ei
    refine .inl ⟨wi'.stop H' gq.st.s, ?_⟩
    rw [List.take_length] at pr
    refine q (.ref L) (.list es) (upd Gi L (.lst acc)) H' (out es pr) ⟨gq.g.trans (Ex.new nL), ⟨Ex.lend gq.st.s hL', ?_, gq.st.row, ?_⟩, gq.h, fun a h1 h2 => ?_⟩ (.lst upd_same (DnL.mono (Ex.new nL) _ m))
    · rw [upd_ne (fun e => neL e.symm)]
      exact gq.st.n
    · obtain ⟨ns, z⟩ := gq.st.scr
      exact ⟨ns, sqx (Ex.new nL) z⟩
    · have ne : a ≠ L := fun e => h2 (by rw [e]; exact stf fresh)
      rw [upd_ne ne]
      exact gq.f a h1 h2
theorem flat_rep (v : V) : ∀ n : Nat, (List.replicate n [v]).flatten = List.replicate n v
  | 0 => rfl
  | n + 1 => by
    rw [List.replicate_succ, List.flatten_cons, flat_rep v n, List.replicate_succ]
    rfl
/-- [0] * n and the like -/
theorem evd_rep {x : D} {n : Nat} (h : EvD ta σ G x) (k : EvD tb σ G (.int (n : Nat))) (hz : n ≤ 100000) : EvD (tOp rRep (tLst (tCons ta tNil)) tb) σ G (.list (List.replicate n x)) := fun H e Q q =>
  h H e _ fun v G2 H2 g m => ⟨Evl.sz_of (by show 1 ≤ 100000; decide), fun p hp => by
    have gl := Gr.loose (o := .lst [v]) g.s hp
    refine k.mono g.g _ gl.s _ fun w G3 H3 g3 m3 => ?_
    cases m3
    have hp3 : H3 p = some (.lst [v]) := g3.h _ _ upd_same
    refine ⟨p, _, [v], rfl, rfl, hp3, by omega, by omega, ?_, fun l hl => ?_⟩
    · rw [List.length_singleton, Nat.one_mul, Int.toNat_natCast]
      exact Evl.sz_of hz
    · rw [Int.toNat_natCast, flat_rep]
      have gg : Gr G H G3 H3 := (g.trans gl).trans g3
      have nl := Evl.fresh_back gg.s hl
      refine q (.ref l) (upd G3 l (.lst (List.replicate n v))) _ (gg.trans (Gr.new gg.s hl)) (.lst upd_same ?_)
      have mv := Dn.mono (g3.g.trans (Ex.new (o := HO.lst (List.replicate n v)) nl)) _ m
      have rep : ∀ j, DnL (upd G3 l (.lst (List.replicate n v))) (List.replicate j v) (List.replicate j x) := fun j => by
        induction j with
        | zero => exact .nil
        | succ j ih => exact .cons mv ih
      exact rep n⟩
end
end Sh

set_option Elab.async false
set_option linter.all false
set_option maxRecDepth 100000
set_option maxHeartbeats 4000000
/-! bills: prices, offs -/
namespace Sh
open PySem PySem.Spec L2
open PyProof.Rows hiding St
open Evl (Ex)
open ShW (rSumK)
structure Pr where
  it : Str
  cents : Int
  rate : Int
def Pr.d (p : Pr) : D := .tuple [.str p.it, .int p.cents, .int p.rate]
structure PrOk (p : Pr) : Prop where
  c0 : 0 ≤ p.cents
  c1 : p.cents ≤ 1999
  r0 : 0 ≤ p.rate
  r1 : p.rate ≤ 999
structure PricesOk (its : List Str) (ps : List Pr) : Prop where
  each : ∀ p ∈ ps, PrOk p
  its : ps.map (·.it) = its
theorem zip_same {α : Type} (f g : α → D) : ∀ l : List α, zipD (l.map f) (l.map g) = l.map fun x => .tuple [f x, g x]
  | [] => rfl
  | x :: xs => by
    show PyData.tuple [f x, g x] :: zipD (xs.map f) (xs.map g) = _
    rw [zip_same f g xs]
    rfl
theorem range_get {α β : Type} (l : List α) (f : α → β) (z : β) : (List.range l.length).map (fun j => (l[j]?.map f).getD z) = l.map f := by
  refine List.ext_getElem? fun i => ?_
  rw [List.getElem?_map, List.getElem?_map]
  by_cases h : i < l.length
  · rw [List.getElem?_range h, List.getElem?_eq_getElem h]
    show some ((l[i]?.map f).getD z) = _
    rw [List.getElem?_eq_getElem h]
    rfl
  · rw [List.getElem?_eq_none (by rw [List.length_range]; omega), List.getElem?_eq_none (by omega)]
    rfl
section
variable {P : Program} {w : World} {K : PySem.W.Frag} {mg : Str → Option Value} {base : Heap} {C Cn : Addr}
abbrev s_check_order : Stmt := topS 24
theorem sc_check_order : FnScope ["catalog", "order"] ["catalog", "order"] (defScope s_check_order) := ⟨rfl, rfl, rfl, by decide +kernel, rfl, by decide +kernel, by decide +kernel⟩
def domCheckOrd (ds : List D) (c : D) : Prop := ∃ t o, ds = [Cat.d t, Ord.d o] ∧ OrdOk t.rs t.its o ∧ c = .none
theorem keeps_checkOrd (S : Stands K mg "check_order" s_check_order ["catalog", "order"]) (K_is_order : Keeps P w K mg base CX0 5 "is_order" ["catalog", "value"] (spD domOrder)) : Keeps P w K mg base CX0 6 "check_order" ["catalog", "order"] (spD domCheckOrd) := by
  obtain ⟨f, fd, F, hm, hb⟩ := S
  refine ⟨f, fd, F.ok sc_check_order (fun vs H Q E h => ?_) (fun cdv A outer s H vs Q E hr h => ?_), hm, F.kp, hb⟩
  · obtain ⟨ds, c, G, _, n, ⟨t, o, rfl, _⟩, _⟩ := h
    rw [n.length]
    rfl
  · obtain ⟨ds, c, G, e, n, ⟨t, o, rfl, L, rfl⟩, q⟩ := h
    obtain ⟨v, v1, rfl, n0, n1⟩ := dn2 n
    refine ⟨_, (pss_one (ps_if (pt_not (pt_val (pe_callD K_is_order (hr.mono (by omega)) (pa_cons (pv 0) (pa_cons (pv 1) pa_nil))))) (pss_one ps_never) pss_nil)), ?_⟩
    have k : EvD (tCall (spD domOrder) [] E0 (tCons (tVar 0) (tCons (tVar 1) tNil))) (start ["catalog", "order"] [v, v1]) G (.bool true) := evd_call (ea_cons (evd_at n0) (ea_cons (evd_at n1) ea_nil)) ⟨t, o, rfl, L, rfl⟩
    refine evt_not (b := true) (evt_B k) H e _ fun G2 H2 g => ?_
    exact q .non G2 H2 g .non
abbrev s_is_price : Stmt := topS 36
theorem sc_is_price : FnScope ["item", "value"] ["item", "value"] (defScope s_is_price) := ⟨rfl, rfl, rfl, by decide +kernel, rfl, by decide +kernel, by decide +kernel⟩
def domPrice (ds : List D) (c : D) : Prop := ∃ p, ds = [.str p.it, Pr.d p] ∧ PrOk p ∧ c = .bool true
def GlobI (mg : Str → Option Value) (x : Str) (i : Int) : Prop := ∃ t, mg x = some (.int i t)
theorem keeps_price (MC : GlobI mg "MOST_CENTS" 999999) (MR : GlobI mg "MOST_RATE" 999) (S : Stands K mg "is_price" s_is_price ["item", "value"]) (K_is_row : Keeps P w K mg base CX0 1 "is_row" ["value", "least", "most"] (spD domRow)) (K_is_between : Keeps P w K mg base CX0 1 "is_between" ["value", "low", "high"] (spD domBetween)) :
    Keeps P w K mg base CX0 2 "is_price" ["item", "value"] (spD domPrice) := by
  obtain ⟨tC, cC⟩ := MC
  obtain ⟨tR, cR⟩ := MR
  refine keeps_of S sc_is_price (fun ds c h => ?_) (fun f cdv A outer s H E hr => ⟨_, (pss_cons (ps_if (PW.pt (pw_or (pt_not (pt_val (pe_callD K_is_row (hr.mono (by omega)) (pa_cons (pv 1) (pa_cons pe_int (pa_cons pe_int pa_nil)))))) (pw_or1 (pt_cmpR op_ne (pe_ix ix_tup (pv 1) pe_int (fun _ _ => rfl)) (pv 0) (nomark _))))) (pss_one (ps_ret pe_bl)) pss_nil)
    (pss_one (ps_ret (pe_and (pe_callD K_is_between (hr.mono (by omega)) (pa_cons (pe_ix ix_tup (pv 1) pe_int (fun _ _ => rfl)) (pa_cons pe_int (pa_cons (pe_glob (v := .int 999999) rfl cC ⟨tC, rfl⟩) pa_nil)))) (pe_one (pe_callD K_is_between (hr.mono (by omega)) (pa_cons (pe_ix ix_tup (pv 1) pe_int (fun _ _ => rfl)) (pa_cons pe_int (pa_cons (pe_glob (v := .int 999) rfl cR ⟨tR, rfl⟩) pa_nil))))))))), fun ds c vs G h n => ?_⟩)
  · obtain ⟨p, rfl, _⟩ := h
    rfl
  · obtain ⟨p, rfl, L, rfl⟩ := h
    obtain ⟨v, v1, rfl, n0, n1⟩ := dn2 n
    have c0 := L.c0
    have c1 := L.c1
    refine evs_if (b := false) (evt_is (evt_or (a := false) (b := false) (evt_not (b := true) (evt_B (evd_call (ea_cons (evd_at n1) (ea_cons evd_int (ea_cons evd_int ea_nil))) (row_dom (show (3 : Int) ≤ 3 by decide) (show (3 : Int) ≤ 3 by decide)))))
      (fun _ => evt_test (evd_op (evd_op (evd_at n1) (evd_int (i := ((0 : Nat) : Int))) (r_ixT rfl)) (evd_at n0) (r_ne (b := true) (by show some (decide (p.it = p.it)) = some true; rw [decide_eq_true rfl]))))) rfl) (fun h => nomatch h) (fun _ => ?_)
    exact evs_ret (evd_and (a := true) (evd_call (ea_cons (evd_op (evd_at n1) (evd_int (i := ((1 : Nat) : Int))) (r_ixT rfl)) (ea_cons evd_int (ea_cons (evd_c (.int _)) ea_nil))) (between_dom c0 (by omega)))
      (fun _ => evd_call (ea_cons (evd_op (evd_at n1) (evd_int (i := ((2 : Nat) : Int))) (r_ixT rfl)) (ea_cons evd_int (ea_cons (evd_c (.int _)) ea_nil))) (between_dom L.r0 L.r1)))
abbrev s_check_prices : Stmt := topS 37
theorem sc_check_prices : FnScope ["catalog", "prices", "items", "item", "price"] ["catalog", "prices"] (defScope s_check_prices) := ⟨rfl, rfl, rfl, by decide +kernel, rfl, by decide +kernel, by decide +kernel⟩
def domPrices (ds : List D) (o : Option D) : Prop := ∃ t p, ds = [Cat.d t, p] ∧ t.its.length ≤ 5 ∧ ((∃ ps, p = .tuple (ps.map Pr.d) ∧ PricesOk t.its ps ∧ o = some .none) ∨ (rowD p t.its.length t.its.length = false ∧ o = none))
theorem keeps_prices (B : Bi mg) (er : ErrC K mg "BadPrices" C) (S : Stands K mg "check_prices" s_check_prices ["catalog", "prices"]) (K_is_row : Keeps P w K mg base CX0 1 "is_row" ["value", "least", "most"] (spD domRow)) (K_is_price : Keeps P w K mg base CX0 2 "is_price" ["item", "value"] (spD domPrice)) :
    Keeps P w K mg base (L2N.CX P w) 3 "check_prices" ["catalog", "prices"] (spR C domPrices) := by
  refine keeps_ofR S sc_check_prices (fun ds o h => ?_) (fun f cdv A outer s H E hr => ⟨_, (pss_cons (ps_set (i := 2) sc_check_prices.nd rfl (.inl rfl) (pe_ix ix_tup (pv 0) pe_int (fun _ _ => rfl)))
    (pss_cons (ps_if (pt_not (pt_val (pe_callD K_is_row (hr.mono (by omega)) (pa_cons (pv 1) (pa_cons (pe_callB call_len rfl B.len bi_len (pa_cons (pv 2) pa_nil)) (pa_cons (pe_callB call_len rfl B.len bi_len (pa_cons (pv 2) pa_nil)) pa_nil)))))) (pss_one (ps_raiseC er rfl (L2N.takes_of rfl rfl rfl rfl) rfl)) pss_nil)
    (pss_one (ps_if (pt_not (pt_val (pe_callB (cr_all rfl) rfl B.all bi_all (pa_cons (pe_lc (own := [("item", 3), ("price", 4)]) (g := gTup K 2 (gCons (gName 3) (gCons (gName 4) gNil))) (tt := tYes) rfl sc_check_prices.nd (ShW.pi_zK (k1 := .t) (k2 := .t) B.zip (pa_cons (pv 2) (pa_cons (pv 1) pa_nil))) (blkOk_by (N := ["catalog", "prices", "items", "item", "price"]) (sc := defScope s_check_prices) (by decide +kernel)) (fun _ _ _ _ _ => (pg_tup rfl (pgs_cons (pg_name (i := 3) sc_check_prices.nd rfl (.inl rfl)) (pgs_cons (pg_name (i := 4) sc_check_prices.nd rfl (.inl rfl)) pgs_nil)))) (fun _ _ _ _ _ => pts_nil) (fun _ _ _ _ _ => (pe_callD K_is_price (hr.mono (by omega)) (pa_cons (pv 3) (pa_cons (pv 4) pa_nil))))) pa_nil)))) (pss_one (ps_raiseC er rfl (L2N.takes_of rfl rfl rfl rfl) rfl)) pss_nil)))), fun ds o vs G h n => ?_⟩)
  · obtain ⟨t, p, rfl, _⟩ := h
    rfl
  · obtain ⟨t, p, rfl, few, h⟩ := h
    obtain ⟨v, v1, rfl, n0, n1⟩ := dn2 n
    refine evx_set (d := .tuple (strL t.its)) (evd_op (evd_at n0) (evd_int (i := ((2 : Nat) : Int))) (r_ixT rfl)) (fun v2 G2 x2 n2 => ?_)
    have n1 := Dn.mono x2 _ n1
    have ln : ((strL t.its).length : Int) = t.its.length := by rw [strL_len]
    have row : EvT (tNot (tB (tCall (spD domRow) [] E0 (tCons (tVar 1) (tCons (tCB (rLenD K) (tCons (tVar 2) tNil)) (tCons (tCB (rLenD K) (tCons (tVar 2) tNil)) tNil)))))) ((start ["catalog", "prices", "items", "item", "price"] [v, v1]).set 2 (some v2)) G2 (!rowD p t.its.length t.its.length) :=
      evt_not (evt_B (evd_call (ea_cons (evd_at n1) (ea_cons (evd_cb (ea_cons (evd_at n2) ea_nil) (r_lenT ln)) (ea_cons (evd_cb (ea_cons (evd_at n2) ea_nil) (r_lenT ln)) ea_nil))) ⟨p, _, _, rfl, rfl⟩))
    rcases h with ⟨ps, rfl, L, rfl⟩ | ⟨no, rfl⟩
    · have l1 : ((ps.map Pr.d).length : Int) = t.its.length := by
        rw [← L.its, List.length_map, List.length_map]
      refine evx_if (b := false) (evt_is row ?_) (fun h => nomatch h) (fun _ => ?_)
      · show (!(decide ((t.its.length : Int) ≤ ((ps.map Pr.d).length : Int)) && decide (((ps.map Pr.d).length : Int) ≤ (t.its.length : Int)))) = false
        rw [l1, decide_eq_true (Int.le_refl _)]
        rfl
      · have zs : zipD (strL t.its) (ps.map Pr.d) = ps.map fun p => .tuple [.str p.it, Pr.d p] := by
          rw [← L.its]
          unfold strL
          rw [List.map_map]
          exact zip_same _ _ ps
        have hz : (zipD (strL t.its) (ps.map Pr.d)).length ≤ 40000 := by
          rw [zipD_len, strL_len]
          omega
        refine evx_if (b := false) (evt_not (b := true) (evt_B (evd_cb (ea_cons (evd_is (evd_lcP (r := fun _ => .bool true) (ei_zK (k1 := .t) (k2 := .t) (ea_cons (evd_at n2) (ea_cons (evd_at n1) ea_nil))) hz (fun d hd => ?_) (fun x y => rfl) (fun a b hab x y G3 x3 nx ny => ?_)) (congrArg PyData.list (map_true _))) ea_nil) (r_all (all_true _))))) (fun h => nomatch h) (fun _ => evx_ret (evd_c .non))
        · rw [zs] at hd
          obtain ⟨p, _, rfl⟩ := List.mem_map.mp hd
          exact ⟨_, _, rfl⟩
        · rw [zs] at hab
          obtain ⟨p, hp, e⟩ := List.mem_map.mp hab
          cases e
          exact evd_call (ea_cons (evd_at nx) (ea_cons (evd_at ny) ea_nil)) ⟨p, rfl, L.each p hp, rfl⟩
    · rw [no] at row
      exact evx_if (b := true) row (fun _ => evx_raise) (fun h => nomatch h)
theorem bi_min : bootBuiltins "min" = some (.builtin "min") := by decide +kernel
def offsF (v : Int) (as : List Int) : List Int := if as.sum = 0 then as.map fun _ => 0 else sharedF (min v as.sum) as
structure AmOk (v : Int) (as : List Int) : Prop where
  v0 : 0 ≤ v
  v1 : v ≤ 999999
  l1 : 1 ≤ as.length
  l3 : as.length ≤ 3
  lo : ∀ a ∈ as, 0 ≤ a
  hi : ∀ a ∈ as, a ≤ 20000
theorem AmOk.wk {v : Int} {as : List Int} (h : AmOk v as) (n : as.sum ≠ 0) : WOk as := by
  have := nonneg_sum h.lo
  have := h.l3
  exact ⟨by omega, h.lo, by omega⟩
theorem wOk_to {ws : List Int} (W : WOk ws) (hi : ∀ w ∈ ws, w ≤ 20000) : wOk (.tuple (intL ws)) = true := by
  show (rowD (.tuple (intL ws)) 1 40 && ((intL ws).all amtB && !decide (((intL ws).map intOf).sum = 0))) = true
  have T := W.T
  have l1 : 1 ≤ ws.length := by
    cases ws with
    | nil => cases T
    | cons w ws => exact Nat.le_add_left _ _
  have l2 := W.len
  have len : (intL ws).length = ws.length := List.length_map _
  rw [Bool.and_eq_true, Bool.and_eq_true, Bool.not_eq_true', decide_eq_false_iff_not, intOf_int]
  refine ⟨?_, List.all_eq_true.mpr fun d hd => ?_, by omega⟩
  · show (decide ((1 : Int) ≤ ((intL ws).length : Int)) && decide (((intL ws).length : Int) ≤ 40)) = true
    rw [len, decide_eq_true (by omega), decide_eq_true (by omega)]
    rfl
  · obtain ⟨w, hw, rfl⟩ := List.mem_map.mp hd
    have := W.lo w hw
    have := hi w hw
    show (decide (0 ≤ w) && decide (w ≤ 1000000000000)) = true
    rw [decide_eq_true (by omega), decide_eq_true (by omega)]
    rfl
theorem amt_to {i : Int} (h0 : 0 ≤ i) (h1 : i ≤ 1000000000000) : amtB (.int i) = true := by
  show (decide (0 ≤ i) && decide (i ≤ 1000000000000)) = true
  rw [decide_eq_true h0, decide_eq_true h1]
  rfl
theorem parts_dom {f : Int → List Int → List Int} {a : Int} {ws : List Int} (a0 : 0 ≤ a) (a1 : a ≤ 1000000000000) (W : WOk ws) (hi : ∀ w ∈ ws, w ≤ 20000) : domParts f [.int a, .tuple (intL ws)] (some (.tuple (intL (f a ws)))) := by
  refine ⟨_, _, rfl, (fun es e => nomatch e), (fun es e => ?_), fun _ => ⟨a, ws, rfl, rfl, hi, rfl⟩, fun h => ?_⟩
  · cases e
    have := W.len
    have len : (intL ws).length = ws.length := List.length_map _
    omega
  · rw [amt_to a0 a1, wOk_to W hi] at h
    cases h
abbrev s_offs_of : Stmt := topS 39
theorem sc_offs_of : FnScope ["amounts", "voucher", "total", "_"] ["amounts", "voucher"] (defScope s_offs_of) := ⟨rfl, rfl, rfl, by decide +kernel, rfl, by decide +kernel, by decide +kernel⟩
def domOffs (ds : List D) (c : D) : Prop := ∃ as v, ds = [.list (intL as), .int v] ∧ AmOk v as ∧ c = .tuple (intL (offsF v as))
theorem keeps_offs (B : Bi mg) (S : Stands K mg "offs_of" s_offs_of ["amounts", "voucher"]) (K_shared : Keeps P w K mg base (L2N.CX P w) 3 "shared" ["amount", "weights"] (spR Cn (domParts sharedF))) :
    Keeps P w K mg base CX0 4 "offs_of" ["amounts", "voucher"] (spD domOffs) := by
  refine keeps_of S sc_offs_of (fun ds c h => ?_) (fun f cdv A outer s H E hr => ⟨_, (pss_cons (ps_set (i := 2) sc_offs_of.nd rfl (.inl rfl) (pe_callB (ShW.cr_sumK (k := .l) rfl) rfl B.sum bi_sum (pa_cons (pv 0) pa_nil)))
    (pss_cons (ps_if (pt_cmpR op_eq (pv 2) pe_int (nomark _)) (pss_one (ps_ret (pe_callTy call_tuple_of rfl B.tuple bi_tuple (pa_cons (pe_lc (own := [("_", 3)]) (g := gName 3) (tt := tYes) rfl sc_offs_of.nd (pi_list (pv 0)) (blkOk_by (N := ["amounts", "voucher", "total", "_"]) (sc := defScope s_offs_of) (by decide +kernel)) (fun _ _ _ _ _ => (pg_name (i := 3) sc_offs_of.nd rfl (.inl rfl))) (fun _ _ _ _ _ => pts_nil) (fun _ _ _ _ _ => pe_int)) pa_nil)))) pss_nil)
    (pss_one (ps_ret (pe_callR K_shared (hr.mono (by omega)) takes0N (pa_cons (pe_callB (call_min2 rfl) rfl B.min bi_min (pa_cons (pv 1) (pa_cons (pv 2) pa_nil))) (pa_cons (pe_callTy call_tuple_of rfl B.tuple bi_tuple (pa_cons (pv 0) pa_nil)) pa_nil))))))), fun ds c vs G h n => ?_⟩)
  · obtain ⟨as, v, rfl, _⟩ := h
    rfl
  · obtain ⟨as, z, rfl, L, rfl⟩ := h
    obtain ⟨v, v1, rfl, n0, n1⟩ := dn2 n
    cases n1
    have l3 := L.l3
    have len : (intL as).length = as.length := List.length_map _
    refine evs_set (d := .int as.sum) (evd_cb (ea_cons (evd_at n0) ea_nil) (r_sumK (k := .l) (ns := as) rfl)) (fun v2 G2 x2 n2 => ?_)
    cases n2
    have cI : ∀ {G : Hp} {i : Int}, Dn G (.int i) (.int i) := .int _
    refine evs_if (b := decide (as.sum = 0)) (evt_test (evd_op (evd_at (d := .int as.sum) cI) (evd_int (i := 0)) (r_eq rfl))) (fun h => ?_) (fun h => ?_)
    · have h := of_decide_eq_true h
      refine evs_ret (evd_cb (ea_cons (evd_is (evd_lcN (r := fun _ => .int 0) (ei_list (evd_at n0 x2)) (by omega) (fun x => rfl) (fun d hd y G1 e ny => evd_int)) ?_) ea_nil) r_tupL)
      unfold offsF intL
      rw [if_pos h, List.map_map, List.map_map]
      rfl
    · have h := of_decide_eq_false h
      have W := L.wk h
      have T := W.T
      have v0 := L.v0
      have v1 := L.v1
      refine evs_ret (evd_is (evd_callS (ea_cons (evd_cb (ea_cons (evd_at (d := .int z) cI) (ea_cons (evd_at (d := .int as.sum) cI) ea_nil)) (r_min2 (z := min z as.sum) ?_)) (ea_cons (evd_cb (ea_cons (evd_at n0 x2) ea_nil) r_tupL) ea_nil)) (parts_dom (by omega) (by omega) W L.hi)) ?_)
      · split <;> omega
      · unfold offsF
        rw [if_neg h]
end
end Sh

set_option Elab.async false
set_option linter.all false
set_option maxRecDepth 100000
set_option maxHeartbeats 4000000
/-! bills: a bill -/
namespace Sh
open PySem PySem.Spec L2
open PyProof.Rows hiding St
open Evl (Ex)
open ShW (rSumK)
structure Rw where
  it : Str
  cnt : Int
  net : Int
  tax : Int
def Rw.d (r : Rw) : D := .tuple [.str r.it, .int r.cnt, .int r.net, .int r.tax]
def Rw.sum (r : Rw) : Int := r.net + r.tax
structure Ln where
  it : Str
  cnt : Int
  net : Int
  tax : Int
  off : Int
  due : Int
def Ln.d (l : Ln) : D := .tuple [.str l.it, .int l.cnt, .int l.net, .int l.tax, .int l.off, .int l.due]
def mkLn (r : Rw) (o : Int) : Ln := ⟨r.it, r.cnt, r.net, r.tax, o, r.net + r.tax - o⟩
def priceOf (ps : List Pr) (i : Str) : Pr := (ps.find? fun p => decide (p.it = i)).getD ⟨i, 0, 0⟩
def fstI (x : Wish) : Str := x.its.headD ⟨#[]⟩
def rowOf (ps : List Pr) (x : Wish) : Rw := ⟨fstI x, x.cnt, x.cnt * (priceOf ps (fstI x)).cents, taxZ (x.cnt * (priceOf ps (fstI x)).cents) (priceOf ps (fstI x)).rate⟩
def rowsF (ps : List Pr) (ws : List Wish) : List Rw := ws.map (rowOf ps)
def billF (v : Int) (ps : List Pr) (ws : List Wish) : List Ln := List.zipWith mkLn (rowsF ps ws) (offsF v ((rowsF ps ws).map Rw.sum))
theorem look_pr (f : Pr → D) (x : Str) : ∀ ps : List Pr, lookD (ps.map fun p => (PyData.str p.it, f p)) x = (ps.find? fun p => decide (p.it = x)).map f
  | [] => rfl
  | p :: ps => by
    have ih := look_pr f x ps
    unfold lookD at ih ⊢
    rw [List.map_cons]
    by_cases h : p.it = x
    · rw [List.find?_cons_of_pos (by simpa using h), List.find?_cons_of_pos (by simpa using h)]
      rfl
    · rw [List.find?_cons_of_neg (by simpa using h), List.find?_cons_of_neg (by simpa using h)]
      exact ih
theorem price_at {ps : List Pr} {x : Str} (h : x ∈ ps.map (·.it)) : priceOf ps x ∈ ps ∧ (ps.find? fun p => decide (p.it = x)) = some (priceOf ps x) := by
  unfold priceOf
  cases e : ps.find? fun p => decide (p.it = x) with
  | none =>
    obtain ⟨p, hp, rfl⟩ := List.mem_map.mp h
    have z := List.find?_eq_none.mp e p hp
    simp at z
  | some p => exact ⟨List.mem_of_find?_eq_some e, rfl⟩
theorem fst_at {its : List Str} {x : Wish} (h : WishOk its x) : (strL x.its)[0]? = some (.str (fstI x)) ∧ fstI x ∈ x.its := by
  have l := h.nms.lo
  unfold fstI
  cases e : x.its with
  | nil =>
    rw [e] at l
    exact absurd l (by decide)
  | cons i is => exact ⟨rfl, List.mem_cons_self⟩
theorem tax_le {n r : Int} (n0 : 0 ≤ n) (r0 : 0 ≤ r) (r1 : r ≤ 999) : 0 ≤ taxZ n r ∧ taxZ n r ≤ n := by
  have h1 := Int.mul_nonneg n0 r0
  have h2 : n * r ≤ n * 999 := Int.mul_le_mul_of_nonneg_left r1 n0
  unfold taxZ
  generalize n * r = x at h1 h2
  omega
theorem tax_ok {n r : Int} (n0 : 0 ≤ n) (n1 : n ≤ 1000000) (r0 : 0 ≤ r) (r1 : r ≤ 999) : taxF (.int n) (.int r) = some (.int (taxZ n r)) := by
  have a : amtB (.int n) = true := amt_to n0 (by omega)
  have b : rateB (.int r) = true := by
    show (decide (0 ≤ r) && decide (r ≤ 999)) = true
    rw [decide_eq_true r0, decide_eq_true r1]
    rfl
  show (if amtB (.int n) then (if rateB (.int r) then _ else none) else none) = _
  rw [if_pos a, if_pos b]
theorem noT_int {i : Int} : noT (.int i) := fun es e => nomatch e
structure WishLo (its : List Str) (x : Wish) : Prop where
  ok : WishOk its x
  few : x.cnt ≤ 4
structure RwOk (r : Rw) : Prop where
  nm : nameS r.it = true
  c1 : 1 ≤ r.cnt
  c4 : r.cnt ≤ 4
  n0 : 0 ≤ r.net
  n1 : r.net ≤ 7996
  t0 : 0 ≤ r.tax
  t1 : r.tax ≤ 7996
theorem row_ok {its : List Str} {ps : List Pr} {x : Wish} (L : PricesOk its ps) (h : WishLo its x) : RwOk (rowOf ps x) := by
  obtain ⟨m, _⟩ := price_at (x := fstI x) (ps := ps) (by rw [L.its]; exact h.ok.its _ (fst_at h.ok).2)
  have q := L.each _ m
  have c1 := h.ok.c1
  have c4 := h.few
  have q0 := q.c0
  have q1 := q.c1
  have n0 : 0 ≤ x.cnt * (priceOf ps (fstI x)).cents := Int.mul_nonneg (by omega) q0
  have n1 : x.cnt * (priceOf ps (fstI x)).cents ≤ 7996 := by
    have : x.cnt * (priceOf ps (fstI x)).cents ≤ 4 * 1999 := Int.mul_le_mul c4 q1 q0 (by decide)
    omega
  have tl := tax_le n0 q.r0 q.r1
  exact ⟨h.ok.nms.each _ (fst_at h.ok).2, c1, c4, n0, n1, tl.1, show taxZ _ _ ≤ 7996 by omega⟩
theorem offs_len {v : Int} {as : List Int} : (offsF v as).length = as.length := by
  unfold offsF
  split
  · exact List.length_map _
  · exact shared_len
theorem amounts_ok {v : Int} {rs : List Rw} (v0 : 0 ≤ v) (v1 : v ≤ 9000) (l1 : 1 ≤ rs.length) (l3 : rs.length ≤ 3) (h : ∀ r ∈ rs, RwOk r) : AmOk v (rs.map Rw.sum) where
  v0 := v0
  v1 := by omega
  l1 := by rw [List.length_map]; exact l1
  l3 := by rw [List.length_map]; exact l3
  lo := fun a ha => by
    obtain ⟨r, hr, rfl⟩ := List.mem_map.mp ha
    have := (h r hr).n0
    have := (h r hr).t0
    show 0 ≤ r.net + r.tax
    omega
  hi := fun a ha => by
    obtain ⟨r, hr, rfl⟩ := List.mem_map.mp ha
    have := (h r hr).n1
    have := (h r hr).t1
    show r.net + r.tax ≤ 20000
    omega
theorem EvAp.asg {p : Addr} {σ : L2.St} {G : Hp} {te : TE} {u : TS} {d o : D} {B : Hp → L2.St → Prop} {g : TG} {B' : Hp → L2.St → Prop} (h : EvD te σ G d) (hg : ∀ G2, Ex G G2 → EvG g σ G2 d B') (k : ∀ σ2 G2, Ex G G2 → B' G2 σ2 → EvAp p u σ2 G2 o B) : EvAp p (tSeq (tAsg te g) u) σ G o B := fun H xs e np hp hz E q =>
  h H e _ fun v G2 H2 g' n => hg G2 g'.g v H2 g'.s n _ fun σ2 b => k σ2 G2 g'.g b H2 xs g'.s (g'.f p np (by rw [hp]; intro z; cases z)) (g'.h _ _ hp) hz E fun σ3 v G3 H3 g3 n3 b3 => q σ3 v G3 H3 (g'.trans g3) n3 b3
def keyOf : D → Str
  | .tuple (.str x :: _) => x
  | _ => ⟨#[]⟩
def valOf : D → D
  | .tuple [_, c, r] => .tuple [c, r]
  | _ => .none
def sumOf : D → D
  | .tuple [_, _, .int n, .int t] => .int (n + t)
  | _ => .none
def lineOf : D → D
  | .tuple [.tuple [i, c, .int n, .int t], .int o] => .tuple [i, c, .int n, .int t, .int o, .int (n + t - o)]
  | _ => .none
theorem zip_lines : ∀ (rs : List Rw) (os : List Int), (zipD (rs.map Rw.d) (intL os)).map lineOf = (List.zipWith mkLn rs os).map Ln.d
  | [], _ => rfl
  | _ :: _, [] => rfl
  | r :: rs, o :: os => by
    show lineOf (.tuple [Rw.d r, .int o]) :: (zipD (rs.map Rw.d) (intL os)).map lineOf = Ln.d (mkLn r o) :: (List.zipWith mkLn rs os).map Ln.d
    rw [zip_lines rs os]
    rfl
section
variable {P : Program} {w : World} {K : PySem.W.Frag} {mg : Str → Option Value} {base : Heap} {C Cn : Addr}
abbrev s_bill : Stmt := topS 38
theorem sc_bill : FnScope ["catalog", "prices", "order", "voucher", "prices_of", "rows", "items", "count", "offs", "cents", "rate", "item", "_", "net", "tax", "row", "off"] ["catalog", "prices", "order", "voucher"] (defScope s_bill) := ⟨rfl, rfl, rfl, by decide +kernel, rfl, by decide +kernel, by decide +kernel⟩
def domBill (ds : List D) (o : Option D) : Prop := ∃ t p od v, ds = [Cat.d t, p, Ord.d od, .int v] ∧ CatOk t ∧ OrdOk t.rs t.its od ∧ (∀ x ∈ od.ws, x.cnt ≤ 4) ∧ 0 ≤ v ∧ v ≤ 9000 ∧
  ((∃ ps, p = .tuple (ps.map Pr.d) ∧ PricesOk t.its ps ∧ o = some (.tuple ((billF v ps od.ws).map Ln.d))) ∨ (rowD p t.its.length t.its.length = false ∧ o = none))
theorem keeps_bill (B : Bi mg) (en : ErrC K mg "BadNumber" Cn) (MC : GlobI mg "MOST_CENTS" 999999) (S : Stands K mg "bill" s_bill ["catalog", "prices", "order", "voucher"])
    (K_check_catalog : Keeps P w K mg base CX0 5 "check_catalog" ["catalog"] (spD domCheckCat)) (K_check_prices : Keeps P w K mg base (L2N.CX P w) 3 "check_prices" ["catalog", "prices"] (spR C domPrices))
    (K_check_order : Keeps P w K mg base CX0 6 "check_order" ["catalog", "order"] (spD domCheckOrd)) (K_is_between : Keeps P w K mg base CX0 1 "is_between" ["value", "low", "high"] (spD domBetween))
    (K_taxed : Keeps P w K mg base (L2N.CX P w) 3 "taxed" ["net", "rate"] (spR Cn (dom2 taxF))) (K_offs_of : Keeps P w K mg base CX0 4 "offs_of" ["amounts", "voucher"] (spD domOffs)) :
    Keeps P w K mg base (L2N.CX P w) 7 "bill" ["catalog", "prices", "order", "voucher"] (spR C domBill) := by
  obtain ⟨tC, cC⟩ := MC
  refine keeps_ofR2 S sc_bill (fun ds o h => ?_) (fun f cdv A outer s H E hr => ⟨_, (pss_cons (ps_expr (pe_callD K_check_catalog (hr.mono (by omega)) (pa_cons (pv 0) pa_nil)))
    (pss_cons (ps_expr (pe_callR K_check_prices (hr.mono (by omega)) (L2N.takes_of rfl rfl rfl rfl) (pa_cons (pv 0) (pa_cons (pv 1) pa_nil))))
    (pss_cons (ps_expr (pe_callD K_check_order (hr.mono (by omega)) (pa_cons (pv 0) (pa_cons (pv 2) pa_nil))))
    (pss_cons (ps_if (pt_not (pt_val (pe_callD K_is_between (hr.mono (by omega)) (pa_cons (pv 3) (pa_cons pe_int (pa_cons (pe_glob (v := .int 999999) rfl cC ⟨tC, rfl⟩) pa_nil)))))) (pss_one (ps_raiseC en rfl (L2N.takes_of rfl rfl rfl rfl) rfl)) pss_nil)
    (PSs.nox (pss_cons (ShD.ps_setDc (i := 4) (own := [("item", 11), ("cents", 9), ("rate", 10)]) (g := gTup K 3 (gCons (gName 11) (gCons (gName 9) (gCons (gName 10) gNil)))) (tt := tYes) rfl sc_bill.nd rfl rfl (ShD.sw_dict rfl rfl rfl (by decide +kernel)) (pi_tup (pv 1)) (blkOk_by (N := ["catalog", "prices", "order", "voucher", "prices_of", "rows", "items", "count", "offs", "cents", "rate", "item", "_", "net", "tax", "row", "off"]) (sc := defScope s_bill) (by decide +kernel)) (fun _ _ _ _ _ => (by exact (pg_tup rfl (pgs_cons (pg_name (i := 11) sc_bill.nd rfl (.inl rfl)) (pgs_cons (pg_name (i := 9) sc_bill.nd rfl (.inl rfl)) (pgs_cons (pg_name (i := 10) sc_bill.nd rfl (.inl rfl)) pgs_nil)))))) (fun _ _ _ _ _ => pts_nil) (fun _ _ _ _ _ => (pv 11)) (fun _ _ _ _ _ => (pe_tup (pa_cons (pv 9) (pa_cons (pv 10) pa_nil)))))
    (pss_cons (ps_set (i := 5) sc_bill.nd rfl (.inl rfl) (pe_lst pa_nil))
    (pss_cons (ps_for PassesOwn.never rfl (pi_tup (pe_ix ix_tup (pv 2) pe_int (fun _ _ => rfl))) (pg_tup rfl (pgs_cons (pg_name (i := 6) sc_bill.nd rfl (.inl rfl)) (pgs_cons (pg_name (i := 7) sc_bill.nd rfl (.inl rfl)) pgs_nil)))
      (pss_cons (ps_asg (pe_dget (hu_of hr) (pv 4) (pe_ix ix_tup (pv 6) pe_int (fun _ _ => rfl)) (fun _ _ => rfl)) (pg_tup rfl (pgs_cons (pg_name (i := 9) sc_bill.nd rfl (.inl rfl)) (pgs_cons (pg_name (i := 10) sc_bill.nd rfl (.inl rfl)) pgs_nil))))
    (pss_one (ps_expr (pe_bm PySem.F.plainAttrs_list PySem.F.slot_list_append PySem.F.type_list_append mt_append (pv 5) (pa_cons (pe_tup (pa_cons (pe_ix ix_tup (pv 6) pe_int (fun _ _ => rfl)) (pa_cons (pv 7) (pa_cons (pe_op op_mul (pv 7) (pv 9)) (pa_cons (pe_callR K_taxed (hr.mono (by omega)) takes0N (pa_cons (pe_op op_mul (pv 7) (pv 9)) (pa_cons (pv 10) pa_nil))) pa_nil))))) pa_nil))))))
    (pss_cons (ps_set (i := 8) sc_bill.nd rfl (.inl rfl) (pe_callD K_offs_of (hr.mono (by omega)) (pa_cons (pe_lc (own := [("_", 12), ("_", 12), ("net", 13), ("tax", 14)]) (g := gTup K 4 (gCons (gName 12) (gCons (gName 12) (gCons (gName 13) (gCons (gName 14) gNil))))) (tt := tYes) rfl sc_bill.nd (pi_list (pv 5)) (blkOk_by (N := ["catalog", "prices", "order", "voucher", "prices_of", "rows", "items", "count", "offs", "cents", "rate", "item", "_", "net", "tax", "row", "off"]) (sc := defScope s_bill) (by decide +kernel)) (fun _ _ _ _ _ => (pg_tup rfl (pgs_cons (pg_name (i := 12) sc_bill.nd rfl (.inl rfl)) (pgs_cons (pg_name (i := 12) sc_bill.nd rfl (.inl rfl)) (pgs_cons (pg_name (i := 13) sc_bill.nd rfl (.inl rfl)) (pgs_cons (pg_name (i := 14) sc_bill.nd rfl (.inl rfl)) pgs_nil)))))) (fun _ _ _ _ _ => pts_nil) (fun _ _ _ _ _ => (pe_op op_add (pv 13) (pv 14)))) (pa_cons (pv 3) pa_nil))))
    (pss_one (ps_ret (pe_callTy call_tuple_of rfl B.tuple bi_tuple (pa_cons (pe_lc (own := [("row", 15), ("off", 16)]) (g := gTup K 2 (gCons (gName 15) (gCons (gName 16) gNil))) (tt := tYes) rfl sc_bill.nd (ShW.pi_zK (k1 := .l) (k2 := .t) B.zip (pa_cons (pv 5) (pa_cons (pv 8) pa_nil))) (blkOk_by (N := ["catalog", "prices", "order", "voucher", "prices_of", "rows", "items", "count", "offs", "cents", "rate", "item", "_", "net", "tax", "row", "off"]) (sc := defScope s_bill) (by decide +kernel)) (fun _ _ _ _ _ => (pg_tup rfl (pgs_cons (pg_name (i := 15) sc_bill.nd rfl (.inl rfl)) (pgs_cons (pg_name (i := 16) sc_bill.nd rfl (.inl rfl)) pgs_nil)))) (fun _ _ _ _ _ => pts_nil) (fun _ _ _ _ _ => (pe_op (r := rCatT K) op_catT (pv 15) (pe_tup (pa_cons (pv 16) (pa_cons (pe_op op_sub (pe_op op_add (pe_ix (r := rIxT K) ix_tup (pv 15) pe_int (fun _ _ => rfl)) (pe_ix (r := rIxT K) ix_tup (pv 15) pe_int (fun _ _ => rfl))) (pv 16)) pa_nil)))))) pa_nil))))))))))))), fun ds o vs G h n => ?_⟩)
  · obtain ⟨t, p, od, v, rfl, _⟩ := h
    rfl
  · obtain ⟨t, p, od, z, rfl, T, O, lo, z0, z1, h⟩ := h
    obtain ⟨v, v1, v2, v3, rfl, n0, n1, n2, n3⟩ := dn4 n
    cases n3
    have fewI : t.its.length ≤ 5 := by have := T.its.hi; omega
    refine evx_drop (evd_call (ea_cons (evd_at n0) ea_nil) ⟨t, rfl, T, rfl⟩) (fun G1 x1 => ?_)
    have dP : domPrices [Cat.d t, p] (if o.isSome then some .none else none) := ⟨t, p, rfl, fewI, h.elim (fun ⟨ps, e1, L, e2⟩ => .inl ⟨ps, e1, L, by rw [e2]; rfl⟩) fun ⟨e1, e2⟩ => .inr ⟨e1, by rw [e2]; rfl⟩⟩
    refine evx_dropR (ea_cons (evd_at n0 x1) (ea_cons (evd_at n1 x1) ea_nil)) dP (fun c2 e2 G2 x2 => ?_) (fun e => by
      cases o with
      | none => rfl
      | some c => cases e)
    rcases h with ⟨ps, rfl, L, rfl⟩ | ⟨_, rfl⟩
    · have x12 := x1.trans x2
      refine evx_drop (evd_call (ea_cons (evd_at n0 x12) (ea_cons (evd_at n2 x12) ea_nil)) ⟨t, od, rfl, O, rfl⟩) (fun G3 x3 => ?_)
      have x13 := x12.trans x3
      have cI : ∀ {G : Hp} {i : Int}, Dn G (.int i) (.int i) := .int _
      refine evx_if (b := false) (evt_not (b := true) (evt_B (evd_call (ea_cons (evd_at (d := .int z) cI) (ea_cons evd_int (ea_cons (evd_c (.int _)) ea_nil))) (between_dom z0 (by omega))))) (fun h => nomatch h) (fun _ => ?_)
      have lenP : (ps.map Pr.d).length = ps.length := List.length_map _
      have fewP : ps.length ≤ 5 := by rw [← L.its, List.length_map] at fewI; exact fewI
      have three : ∀ d ∈ ps.map Pr.d, ∃ p ∈ ps, d = Pr.d p := fun d hd => by
        obtain ⟨p, hp, rfl⟩ := List.mem_map.mp hd
        exact ⟨p, hp, rfl⟩
      refine evx_set (evd_dcD (k := keyOf) (rr := valOf) (B := fun d G1 σ2 => ∃ d1 d2 d3 x y u, d = .tuple [d1, d2, d3] ∧ σ2 = (((wipe [some v, some v1, some v2, some (.int z), none, none, none, none, none, none, none, none, none, none, none, none, none] [11, 9, 10]).set 11 (some x)).set 9 (some y)).set 10 (some u) ∧ Dn G1 x d1 ∧ Dn G1 y d2 ∧ Dn G1 u d3)
        (ei_tup (evd_at n1 x13)) (by omega) (fun d hd G4 x4 => ?_) (fun d G4 σ2 ⟨_, _, _, x, y, u, _, e, _⟩ => by rw [e]; rfl) (fun d hd G4 σ2 x4 hB => ?_) (fun d hd G4 σ2 x4 hB => ?_) ?_) (fun v4 G4 x4 n4 => ?_)
      · obtain ⟨p, hp, rfl⟩ := three d hd
        exact fun x H ex n Q q => eg_three x H ex n Q fun σ2 ⟨x, y, u, e, nx, ny, nu⟩ => q σ2 ⟨_, _, _, x, y, u, rfl, e, nx, ny, nu⟩
      · obtain ⟨p, hp, rfl⟩ := three d hd
        obtain ⟨d1, d2, d3, x, y, u, ed, rfl, nx, ny, nu⟩ := hB
        cases ed
        exact evd_at nx
      · obtain ⟨p, hp, rfl⟩ := three d hd
        obtain ⟨d1, d2, d3, x, y, u, ed, rfl, nx, ny, nu⟩ := hB
        cases ed
        exact evd_tup (ea_cons (evd_at ny) (ea_cons (evd_at nu) ea_nil)) (by show 2 ≤ 100000; decide)
      · rw [List.map_map]
        show (ps.map fun p => p.it).Nodup
        rw [L.its]
        exact T.its.nd
      · have n4 : Dn G4 v4 (.dict (ps.map fun p => (.str p.it, .tuple [.int p.cents, .int p.rate]))) := by
          rw [List.map_map] at n4
          exact n4
        have x14 := x13.trans x4
        have lenW : (od.ws.map Wish.d).length = od.ws.length := List.length_map _
        have w1 := O.l1
        have w3 := O.l2
        have wl : ∀ x ∈ od.ws, WishLo t.its x := fun x hx => ⟨O.each x hx, lo x hx⟩
        refine evx_build (ds := od.ws.map Wish.d) (out := fun j => ((od.ws[j]?).map fun x => Rw.d (rowOf ps x)).getD .none) (I := fun p j G1 σ' => ∃ a b c d, σ' = [some v, some v1, some v2, some (.int z), some v4, some (.ref p), a, b, none, c, d, none, none, none, none, none, none])
          (C := fun d G1 σ' σ2 => ∃ d1 d2 x y, d = .tuple [d1, d2] ∧ σ2 = (σ'.set 6 (some x)).set 7 (some y) ∧ Dn G1 x d1 ∧ Dn G1 y d2) (by rw [lenW]; omega) (fun p => ei_tup (evd_op (evd_at n2 x14) (evd_int (i := ((2 : Nat) : Int))) (r_ixT rfl))) (fun _ _ _ _ _ _ h => h) (fun p => ⟨none, none, none, none, rfl⟩)
          (fun p j d σ' G5 hd x5 hI => ?_) (fun p j d σ' σ2 G5 hd x5 hI hC => ?_) (fun p σ2 G5 x5 hI np => ?_)
        · rw [List.getElem?_map] at hd
          cases hx : od.ws[j]? with
          | none => rw [hx] at hd; cases hd
          | some x =>
            rw [hx] at hd
            cases hd
            exact fun x H ex n Q q => eg_pair x H ex n Q fun σ2 ⟨x, y, e, nx, ny⟩ => q σ2 ⟨_, _, x, y, rfl, e, nx, ny⟩
        · rw [List.getElem?_map] at hd
          cases hx : od.ws[j]? with
          | none => rw [hx] at hd; cases hd
          | some x =>
            rw [hx] at hd
            cases hd
            obtain ⟨a, b, c, d, rfl⟩ := hI
            obtain ⟨d1, d2, u1, u2, ed, rfl, m1, m2⟩ := hC
            cases ed
            cases m2
            have hW := wl x (List.mem_of_getElem? hx)
            obtain ⟨f1, f2⟩ := fst_at hW.ok
            obtain ⟨pm, pf⟩ := price_at (ps := ps) (x := fstI x) (by rw [L.its]; exact hW.ok.its _ f2)
            have pk := L.each _ pm
            have rk := row_ok L hW
            refine EvAp.asg (evd_dget (evd_at n4 x5) (evd_op (evd_at m1) (evd_int (i := ((0 : Nat) : Int))) (r_ixT f1)) (by rw [look_pr, pf]; rfl)) (B' := fun G6 σ2 => ∃ y1 y2, σ2 = (([some v, some v1, some v2, some (.int z), some v4, some (.ref p), some u1, some (.int x.cnt), none, c, d, none, none, none, none, none, none] : L2.St).set 9 (some y1)).set 10 (some y2) ∧ Dn G6 y1 (.int (priceOf ps (fstI x)).cents) ∧ Dn G6 y2 (.int (priceOf ps (fstI x)).rate)) (fun G6 x6 => eg_pair) (fun σ2 G6 x6 ⟨y1, y2, es, k1, k2⟩ => ?_)
            subst es
            cases k1
            cases k2
            have q0 := pk.c0
            have q1 := pk.c1
            have mul : EvD (tOp (rI CMul fun i j => .int (i * j)) (tVar 7) (tVar 9)) [some v, some v1, some v2, some (.int z), some v4, some (.ref p), some u1, some (.int x.cnt), none, some (.int (priceOf ps (fstI x)).cents), some (.int (priceOf ps (fstI x)).rate), none, none, none, none, none, none] G6 (.int (x.cnt * (priceOf ps (fstI x)).cents)) :=
              evd_op (evd_at (d := .int x.cnt) cI) (evd_at (d := .int (priceOf ps (fstI x)).cents) cI) (r_I (.inr ⟨by omega, by omega⟩) fun _ => .int _)
            refine eva_app rfl (evd_is (evd_tup (ea_cons (evd_op (evd_at m1 x6) (evd_int (i := ((0 : Nat) : Int))) (r_ixT f1)) (ea_cons (evd_at (d := .int x.cnt) cI) (ea_cons mul (ea_cons (evd_callS (ea_cons mul (ea_cons (evd_at (d := .int (priceOf ps (fstI x)).rate) cI) ea_nil)) ⟨_, _, rfl, noT_int, noT_int, (tax_ok rk.n0 (by have := rk.n1; show (rowOf ps x).net ≤ _; omega) pk.r0 pk.r1).symm⟩) ea_nil)))) (by show 4 ≤ 100000; decide)) ?_) (fun G7 x7 => ⟨_, _, _, _, rfl⟩)
            rfl
        · obtain ⟨a, b, c, dd, rfl⟩ := hI
          rw [lenW, range_get] at np
          have np : Dn G5 (.ref p) (.list ((rowsF ps od.ws).map Rw.d)) := by
            unfold rowsF
            rw [List.map_map]
            exact np
          have ro : ∀ r ∈ rowsF ps od.ws, RwOk r := fun r hr => by
            obtain ⟨x, hx, rfl⟩ := List.mem_map.mp hr
            exact row_ok L (wl x hx)
          have lenR : (rowsF ps od.ws).length = od.ws.length := List.length_map _
          have am := amounts_ok (v := z) (rs := rowsF ps od.ws) z0 z1 (by omega) (by omega) ro
          generalize hrs : rowsF ps od.ws = rs at np ro lenR am
          have hb : billF z ps od.ws = List.zipWith mkLn rs (offsF z (rs.map Rw.sum)) := by unfold billF; rw [hrs]
          rw [hb]
          have lenRd : (rs.map Rw.d).length = rs.length := List.length_map _
          have rowsD : ∀ d ∈ rs.map Rw.d, ∃ r ∈ rs, d = Rw.d r := fun d hd => by
            obtain ⟨r, hr, rfl⟩ := List.mem_map.mp hd
            exact ⟨r, hr, rfl⟩
          refine evx_set (evd_call (ea_cons (evd_is (d' := .list (intL (rs.map Rw.sum))) (evd_lcA (r := sumOf) (B := fun d G1 σ2 => ∃ d1 d2 d3 d4 x y u1 u2, d = .tuple [d1, d2, d3, d4] ∧ σ2 = ((((wipe [some v, some v1, some v2, some (.int z), some v4, some (.ref p), a, b, none, c, dd, none, none, none, none, none, none] [12, 12, 13, 14]).set 12 (some x)).set 12 (some y)).set 13 (some u1)).set 14 (some u2) ∧ Dn G1 x d1 ∧ Dn G1 y d2 ∧ Dn G1 u1 d3 ∧ Dn G1 u2 d4)
            (ei_list (evd_at np)) (by omega) (fun d hd G6 x6 => ?_) (fun d G6 σ2 ⟨_, _, _, _, x, y, u1, u2, _, e, _⟩ => by rw [e]; rfl) (fun d hd G6 σ2 x6 hB => ?_)) ?_) (ea_cons (evd_at (d := .int z) cI) ea_nil)) ⟨_, _, rfl, am, rfl⟩) (fun v8 G6 x6 n8 => ?_)
          · obtain ⟨r, hr, rfl⟩ := rowsD d hd
            exact fun x H ex n Q q => eg_four x H ex n Q fun σ2 ⟨x, y, u1, u2, e, k1, k2, k3, k4⟩ => q σ2 ⟨_, _, _, _, x, y, u1, u2, rfl, e, k1, k2, k3, k4⟩
          · obtain ⟨r, hr, rfl⟩ := rowsD d hd
            obtain ⟨d1, d2, d3, d4, x, y, u1, u2, ed, rfl, k1, k2, k3, k4⟩ := hB
            cases ed
            cases k3
            cases k4
            exact evd_op (evd_at (d := .int r.net) cI) (evd_at (d := .int r.tax) cI) (r_I0 fun _ => .int _)
          · unfold intL
            rw [List.map_map, List.map_map]
            rfl
          · have zl := zip_lines rs (offsF z (rs.map Rw.sum))
            have hz : (zipD (rs.map Rw.d) (intL (offsF z (rs.map Rw.sum)))).length ≤ 40000 := by
              rw [zipD_len, lenRd]
              omega
            have pairs : ∀ d ∈ zipD (rs.map Rw.d) (intL (offsF z (rs.map Rw.sum))), ∃ r o, d = .tuple [Rw.d r, .int o] := fun d hd => by
              unfold zipD at hd
              obtain ⟨i, hi⟩ := List.getElem?_of_mem hd
              unfold intL at hi
              rw [List.getElem?_zipWith, List.getElem?_map, List.getElem?_map] at hi
              cases e1 : rs[i]? with
              | none => rw [e1] at hi; cases hi
              | some r =>
                cases e2 : (offsF z (rs.map Rw.sum))[i]? with
                | none => rw [e1, e2] at hi; cases hi
                | some o =>
                  rw [e1, e2] at hi
                  exact ⟨r, o, (Option.some.inj hi).symm⟩
            refine evx_ret (evd_cb (ea_cons (evd_is (evd_lcP (r := lineOf) (ei_zK (k1 := .l) (k2 := .t) (ea_cons (evd_at np x6) (ea_cons (evd_at n8) ea_nil))) hz (fun d hd => ?_) (fun x y => rfl) (fun a1 b1 hab x y G7 x7 nx ny => ?_)) (congrArg PyData.list zl)) ea_nil) r_tupL)
            · obtain ⟨r, o, rfl⟩ := pairs d hd
              exact ⟨_, _, rfl⟩
            · obtain ⟨r, o, e⟩ := pairs _ hab
              cases e
              cases ny
              refine evd_is (evd_op (evd_at nx) (evd_tup (ea_cons (evd_at (d := .int o) cI) (ea_cons (evd_op (evd_op (evd_op (evd_at nx) (evd_int (i := ((2 : Nat) : Int))) (r_ixT rfl)) (evd_op (evd_at nx) (evd_int (i := ((3 : Nat) : Int))) (r_ixT rfl)) (r_I0 fun _ => .int _)) (evd_at (d := .int o) cI) (r_I0 fun _ => .int _)) ea_nil)) (by show 2 ≤ 100000; decide)) (r_catT (by show 0 < 4; decide) (by show 0 < 2; decide) (by show 4 + 2 ≤ 100000; decide))) rfl
    · cases e2
end
end Sh

set_option Elab.async false
set_option linter.all false
set_option maxRecDepth 100000
set_option maxHeartbeats 4000000
/-! bills: what is a bill, refunds -/
namespace Sh
open PySem PySem.Spec L2
open PyProof.Rows hiding St
open Evl (Ex)
open ShW (rSumK)
structure LnOk (l : Ln) : Prop where
  nm : nameS l.it = true
  c1 : 1 ≤ l.cnt
  c9 : l.cnt ≤ 99
  n0 : 0 ≤ l.net
  n1 : l.net ≤ 1000000000
  t0 : 0 ≤ l.tax
  t1 : l.tax ≤ 1000000000
  o0 : 0 ≤ l.off
  o1 : l.off ≤ l.net + l.tax
  due : l.due = l.net + l.tax - l.off
structure BillOk (ls : List Ln) : Prop where
  l1 : 1 ≤ ls.length
  l3 : ls.length ≤ 3
  each : ∀ l ∈ ls, LnOk l
def Ln.dz (l : Ln) (z : Int) : D := .tuple [.str l.it, .int l.cnt, .int l.net, .int l.tax, .int l.off, .int z]
def BadLineD (x : D) : Prop := rowD x 6 6 = false ∨ ∃ l z, x = l.dz z ∧ LnOk l ∧ z ≠ l.due
def BadBillD (x : D) : Prop := rowD x 1 3 = false ∨ ∃ y, x = .tuple [y] ∧ BadLineD y
def domLine (ds : List D) (c : D) : Prop := ∃ d, ds = [d] ∧ ((∃ l, d = Ln.d l ∧ LnOk l ∧ c = .bool true) ∨ (BadLineD d ∧ c = .bool false))
def domCheckBill (ds : List D) (o : Option D) : Prop := ∃ d, ds = [d] ∧ ((∃ ls, d = .tuple (ls.map Ln.d) ∧ BillOk ls ∧ o = some .none) ∨ (BadBillD d ∧ o = none))
def domTotal (ds : List D) (o : Option D) : Prop := ∃ d, ds = [d] ∧ ((∃ ls, d = .tuple (ls.map Ln.d) ∧ BillOk ls ∧ o = some (.int (ls.map (·.due)).sum)) ∨ (BadBillD d ∧ o = none))
def countsB : List Ln → List Int → Bool
  | l :: ls, c :: cs => (decide (0 ≤ c) && decide (c ≤ l.cnt)) && countsB ls cs
  | _, _ => true
def domCounts (ds : List D) (o : Option D) : Prop := ∃ ls cs, ds = [.tuple (ls.map Ln.d), .tuple (intL cs)] ∧ BillOk ls ∧ cs.length = ls.length ∧ o = unit1 (countsB ls cs)
def addV : List Int → List Int → List Int
  | x :: xs, y :: ys => (x + y) :: addV xs ys
  | _, _ => []
theorem addV_len : ∀ {xs ys : List Int}, xs.length = ys.length → (addV xs ys).length = xs.length
  | [], _, _ => rfl
  | _ :: _, [], h => nomatch h
  | x :: xs, y :: ys, h => congrArg Nat.succ (addV_len (xs := xs) (ys := ys) (Nat.succ.inj h))
def domBoth (ds : List D) (c : D) : Prop := ∃ xs ys, ds = [.tuple (intL xs), .tuple (intL ys)] ∧ xs.length ≤ 1000 ∧ c = .tuple (intL (addV xs ys))
def refF : List Ln → List Int → List Int → List Int
  | l :: ls, b :: bs, m :: ms => (l.due * (b + m) / l.cnt - l.due * b / l.cnt) :: refF ls bs ms
  | _, _, _ => []
structure RefIn (ls : List Ln) (bs ms : List Int) : Prop where
  ok : BillOk ls
  lb : bs.length = ls.length
  lm : ms.length = ls.length
  b : countsB ls bs = true
  m : countsB ls ms = true
def domRefund (ds : List D) (o : Option D) : Prop := ∃ ls bs ms, ds = [.tuple (ls.map Ln.d), .tuple (intL bs), .tuple (intL ms)] ∧ RefIn ls bs ms ∧ o = if countsB ls (addV bs ms) then some (.tuple (intL (refF ls bs ms))) else none
def refsF (ls : List Ln) : List Int → List (List Int) → List (List Int)
  | _, [] => []
  | b, m :: ms => refF ls b m :: refsF ls (addV b m) ms
inductive Fit (ls : List Ln) : List Int → List (List Int) → Prop
  | nil {b : List Int} : Fit ls b []
  | cons {b m : List Int} {ms : List (List Int)} : RefIn ls b m → countsB ls (addV b m) = true → Fit ls (addV b m) ms → Fit ls b (m :: ms)
def rowsD (ms : List (List Int)) : List D := ms.map fun m => .tuple (intL m)
def zerosF (ls : List Ln) : List Int := ls.map fun _ => 0
def domRefunds (ds : List D) (c : D) : Prop := ∃ ls ms, ds = [.tuple (ls.map Ln.d), .tuple (rowsD ms)] ∧ BillOk ls ∧ Fit ls (zerosF ls) ms ∧ ms.length ≤ 1000 ∧ c = .tuple (rowsD (refsF ls (zerosF ls) ms))
theorem fit_at {ls : List Ln} : ∀ {ms : List (List Int)} {b m : List Int} {j : Nat}, Fit ls b ms → ms[j]? = some m → RefIn ls ((ms.take j).foldl addV b) m ∧ countsB ls (addV ((ms.take j).foldl addV b) m) = true ∧ (refsF ls b ms)[j]? = some (refF ls ((ms.take j).foldl addV b) m)
  | [], _, _, _, _, h => by simp at h
  | _ :: _, _, _, 0, .cons h1 h2 _, h => by
    have e := Option.some.inj h
    subst e
    exact ⟨h1, h2, rfl⟩
  | _ :: ms, _, _, j + 1, .cons _ _ h3, h => fit_at (ms := ms) (j := j) h3 h
theorem refs_len (ls : List Ln) : ∀ (ms : List (List Int)) (b : List Int), (refsF ls b ms).length = ms.length
  | [], _ => rfl
  | m :: ms, b => congrArg Nat.succ (refs_len ls ms (addV b m))
def countOf : D → D
  | .tuple [.tuple (_ :: .int n :: _), .int c] => .bool (decide (0 ≤ c) && decide (c ≤ n))
  | _ => .none
theorem zip_counts : ∀ (ls : List Ln) (cs : List Int), ∃ bs : List Bool, (zipD (ls.map Ln.d) (intL cs)).map countOf = boolL bs ∧ bs.all id = countsB ls cs
  | [], _ => ⟨[], rfl, rfl⟩
  | _ :: _, [] => ⟨[], rfl, rfl⟩
  | l :: ls, c :: cs => by
    obtain ⟨bs, e1, e2⟩ := zip_counts ls cs
    refine ⟨(decide (0 ≤ c) && decide (c ≤ l.cnt)) :: bs, ?_, ?_⟩
    · show countOf (.tuple [Ln.d l, .int c]) :: (zipD (ls.map Ln.d) (intL cs)).map countOf = _
      rw [e1]
      rfl
    · rw [List.all_cons, e2]
      rfl
theorem zip_in {α β : Type} {f : α → D} {g : β → D} {xs : List α} {ys : List β} {d : D} (h : d ∈ zipD (xs.map f) (ys.map g)) : ∃ x ∈ xs, ∃ y ∈ ys, d = .tuple [f x, g y] := by
  unfold zipD at h
  obtain ⟨i, hi⟩ := List.getElem?_of_mem h
  rw [List.getElem?_zipWith, List.getElem?_map, List.getElem?_map] at hi
  cases e1 : xs[i]? with
  | none => rw [e1] at hi; cases hi
  | some x =>
    cases e2 : ys[i]? with
    | none => rw [e1, e2] at hi; cases hi
    | some y =>
      rw [e1, e2] at hi
      exact ⟨x, List.mem_of_getElem? e1, y, List.mem_of_getElem? e2, (Option.some.inj hi).symm⟩
def plusOf : D → D
  | .tuple [.int a, .int b] => .int (a + b)
  | _ => .none
theorem zip_plus : ∀ xs ys : List Int, (zipD (intL xs) (intL ys)).map plusOf = intL (addV xs ys)
  | [], _ => rfl
  | _ :: _, [] => rfl
  | x :: xs, y :: ys => by
    show PyData.int (x + y) :: (zipD (intL xs) (intL ys)).map plusOf = _
    rw [zip_plus xs ys]
    rfl
def refOf : D → D
  | .tuple [.tuple [_, .int c, _, _, _, .int due], .int b, .int m] => .int (due * (b + m) / c - due * b / c)
  | _ => .none
theorem zip_refs : ∀ (ls : List Ln) (bs ms : List Int), (zipD3 (ls.map Ln.d) (intL bs) (intL ms)).map refOf = intL (refF ls bs ms)
  | [], _, _ => rfl
  | _ :: _, [], _ => rfl
  | _ :: _, _ :: _, [] => rfl
  | l :: ls, b :: bs, m :: ms => by
    show refOf (.tuple [Ln.d l, .int b, .int m]) :: (zipD3 (ls.map Ln.d) (intL bs) (intL ms)).map refOf = _
    rw [zip_refs ls bs ms]
    rfl
theorem zip3_in : ∀ {ls : List Ln} {bs ms : List Int} {d : D}, d ∈ zipD3 (ls.map Ln.d) (intL bs) (intL ms) → countsB ls bs = true → countsB ls ms = true → ∃ l ∈ ls, ∃ b m : Int, d = .tuple [Ln.d l, .int b, .int m] ∧ 0 ≤ b ∧ b ≤ l.cnt ∧ 0 ≤ m ∧ m ≤ l.cnt
  | [], _, _, _, h, _, _ => nomatch h
  | _ :: _, [], _, _, h, _, _ => nomatch h
  | _ :: _, _ :: _, [], _, h, _, _ => nomatch h
  | l :: ls, b :: bs, m :: ms, d, h, hb, hm => by
    have hb : ((decide (0 ≤ b) && decide (b ≤ l.cnt)) && countsB ls bs) = true := hb
    have hm : ((decide (0 ≤ m) && decide (m ≤ l.cnt)) && countsB ls ms) = true := hm
    rw [Bool.and_eq_true, Bool.and_eq_true, decide_eq_true_eq, decide_eq_true_eq] at hb hm
    rcases List.mem_cons.mp h with rfl | h
    · exact ⟨l, List.mem_cons_self, b, m, rfl, hb.1.1, hb.1.2, hm.1.1, hm.1.2⟩
    · obtain ⟨l', m', r⟩ := zip3_in h hb.2 hm.2
      exact ⟨l', List.mem_cons_of_mem _ m', r⟩
theorem row_no {ds : List D} {lo hi : Int} (h1 : lo ≤ (ds.length : Int)) (h2 : (ds.length : Int) ≤ hi) : rowD (.tuple ds) lo hi = true := by
  show (decide (lo ≤ (ds.length : Int)) && decide ((ds.length : Int) ≤ hi)) = true
  rw [decide_eq_true h1, decide_eq_true h2]
  rfl
section
variable {P : Program} {w : World} {K : PySem.W.Frag} {mg : Str → Option Value} {base : Heap} {Cb Cn : Addr}
abbrev s_is_line : Stmt := topS 41
theorem sc_is_line : FnScope ["value", "item", "count", "net", "tax", "off", "due"] ["value"] (defScope s_is_line) := ⟨rfl, rfl, rfl, by decide +kernel, rfl, by decide +kernel, by decide +kernel⟩
theorem keeps_line (M : GlobI mg "MOST_ON_A_LINE" 1000000000) (S : Stands K mg "is_line" s_is_line ["value"]) (K_is_row : Keeps P w K mg base CX0 1 "is_row" ["value", "least", "most"] (spD domRow)) (K_is_name : Keeps P w K mg base CX0 1 "is_name" ["value"] (spD domName)) (K_is_between : Keeps P w K mg base CX0 1 "is_between" ["value", "low", "high"] (spD domBetween)) :
    Keeps P w K mg base CX0 2 "is_line" ["value"] (spD domLine) := by
  obtain ⟨tM, cM⟩ := M
  refine keeps_of S sc_is_line (fun ds c h => ?_) (fun f cdv A outer s H E hr => ⟨_, (pss_cons (ps_if (pt_not (pt_val (pe_callD K_is_row (hr.mono (by omega)) (pa_cons (pv 0) (pa_cons pe_int (pa_cons pe_int pa_nil)))))) (pss_one (ps_ret pe_bl)) pss_nil)
    (pss_cons (ps_asg (pv 0) (pg_tup rfl (pgs_cons (pg_name (i := 1) sc_is_line.nd rfl (.inl rfl)) (pgs_cons (pg_name (i := 2) sc_is_line.nd rfl (.inl rfl)) (pgs_cons (pg_name (i := 3) sc_is_line.nd rfl (.inl rfl)) (pgs_cons (pg_name (i := 4) sc_is_line.nd rfl (.inl rfl)) (pgs_cons (pg_name (i := 5) sc_is_line.nd rfl (.inl rfl)) (pgs_cons (pg_name (i := 6) sc_is_line.nd rfl (.inl rfl)) pgs_nil))))))))
    (pss_cons (ps_if (PW.pt (pw_or (pt_not (pt_val (pe_callD K_is_name (hr.mono (by omega)) (pa_cons (pv 1) pa_nil)))) (pw_or1 (pt_not (pt_val (pe_callD K_is_between (hr.mono (by omega)) (pa_cons (pv 2) (pa_cons pe_int (pa_cons pe_int pa_nil))))))))) (pss_one (ps_ret pe_bl)) pss_nil)
    (pss_cons (ps_if (PW.pt (pw_or (pt_not (pt_val (pe_callD K_is_between (hr.mono (by omega)) (pa_cons (pv 3) (pa_cons pe_int (pa_cons (pe_glob (v := .int 1000000000) rfl cM ⟨tM, rfl⟩) pa_nil)))))) (pw_or1 (pt_not (pt_val (pe_callD K_is_between (hr.mono (by omega)) (pa_cons (pv 4) (pa_cons pe_int (pa_cons (pe_glob (v := .int 1000000000) rfl cM ⟨tM, rfl⟩) pa_nil))))))))) (pss_one (ps_ret pe_bl)) pss_nil)
    (pss_one (ps_ret (pe_and (pe_callD K_is_between (hr.mono (by omega)) (pa_cons (pv 5) (pa_cons pe_int (pa_cons (pe_op op_add (pv 3) (pv 4)) pa_nil)))) (pe_one (pe_callD K_is_between (hr.mono (by omega)) (pa_cons (pv 6) (pa_cons (pe_op op_sub (pe_op op_add (pv 3) (pv 4)) (pv 5)) (pa_cons (pe_op op_sub (pe_op op_add (pv 3) (pv 4)) (pv 5)) pa_nil)))))))))))), fun ds c vs G h n => ?_⟩)
  · obtain ⟨d, rfl, _⟩ := h
    rfl
  · obtain ⟨d, rfl, h⟩ := h
    obtain ⟨v, rfl, n0⟩ := one_of n
    have h' : (∃ l z, d = Ln.dz l z ∧ LnOk l ∧ c = .bool (decide (l.due ≤ z) && decide (z ≤ l.due))) ∨ (rowD d 6 6 = false ∧ c = .bool false) := by
      rcases h with ⟨l, rfl, L, rfl⟩ | ⟨no | ⟨l, z, rfl, L, ne⟩, rfl⟩
      · refine .inl ⟨l, l.due, rfl, L, ?_⟩
        rw [decide_eq_true (Int.le_refl _)]
        rfl
      · exact .inr ⟨no, rfl⟩
      · refine .inl ⟨l, z, rfl, L, ?_⟩
        by_cases h1 : l.due ≤ z
        · rw [decide_eq_true h1, decide_eq_false (by omega)]
          rfl
        · rw [decide_eq_false h1]
          rfl
    clear h
    rcases h' with ⟨l, z, rfl, L, rfl⟩ | ⟨no, rfl⟩
    · refine evs_if (b := false) (evt_not (b := true) (evt_B (evd_call (ea_cons (evd_at n0) (ea_cons evd_int (ea_cons evd_int ea_nil))) (row_dom (show (6 : Int) ≤ 6 by decide) (show (6 : Int) ≤ 6 by decide))))) (fun h => nomatch h) (fun _ => ?_)
      refine evs_asg (evd_at n0) (fun G2 _ => eg_six) (fun σ2 G2 e2 ⟨a1, a2, a3, a4, a5, a6, es, m1, m2, m3, m4, m5, m6⟩ => ?_)
      subst es
      cases m3
      cases m4
      cases m5
      have cI : ∀ {G : Hp} {i : Int}, Dn G (.int i) (.int i) := .int _
      refine evs_if (b := false) (evt_is (evt_or (a := false) (b := false) (evt_not (b := true) (evt_B (evd_call (ea_cons (evd_at m1) ea_nil) (nameS_dom L.nm)))) (fun _ => evt_not (b := true) (evt_B (evd_call (ea_cons (evd_at m2) (ea_cons evd_int (ea_cons evd_int ea_nil))) (between_dom L.c1 L.c9))))) rfl) (fun h => nomatch h) (fun _ => ?_)
      refine evs_if (b := false) (evt_is (evt_or (a := false) (b := false) (evt_not (b := true) (evt_B (evd_call (ea_cons (evd_at (d := .int l.net) cI) (ea_cons evd_int (ea_cons (evd_c (.int _)) ea_nil))) (between_dom L.n0 L.n1)))) (fun _ => evt_not (b := true) (evt_B (evd_call (ea_cons (evd_at (d := .int l.tax) cI) (ea_cons evd_int (ea_cons (evd_c (.int _)) ea_nil))) (between_dom L.t0 L.t1))))) rfl) (fun h => nomatch h) (fun _ => ?_)
      have sm : ∀ {G3 : Hp}, EvD (tOp (rI0 fun i j => .int (i + j)) (tVar 3) (tVar 4)) [some v, some a1, some a2, some (.int l.net), some (.int l.tax), some (.int l.off), some a6] G3 (.int (l.net + l.tax)) := fun {G3} => evd_op (evd_at (d := .int l.net) cI) (evd_at (d := .int l.tax) cI) (r_I0 fun _ => .int _)
      have df : ∀ {G3 : Hp}, EvD (tOp (rI0 fun i j => .int (i - j)) (tOp (rI0 fun i j => .int (i + j)) (tVar 3) (tVar 4)) (tVar 5)) [some v, some a1, some a2, some (.int l.net), some (.int l.tax), some (.int l.off), some a6] G3 (.int l.due) := fun {G3} => by
        rw [L.due]
        exact evd_op sm (evd_at (d := .int l.off) cI) (r_I0 fun _ => .int _)
      exact evs_ret (evd_is (evd_and (a := true) (evd_call (ea_cons (evd_at (d := .int l.off) cI) (ea_cons evd_int (ea_cons sm ea_nil))) (between_dom L.o0 L.o1)) (fun _ => evd_call (ea_cons (evd_at m6) (ea_cons df (ea_cons df ea_nil))) ⟨_, _, _, rfl, rfl⟩)) rfl)
    · exact evs_if (b := true) (evt_is (evt_not (evt_B (evd_call (ea_cons (evd_at n0) (ea_cons evd_int (ea_cons evd_int ea_nil))) ⟨d, 6, 6, rfl, rfl⟩))) (by rw [no]; rfl)) (fun _ => evs_ret evd_bl) (fun h => nomatch h)
abbrev s_check_bill : Stmt := topS 42
theorem sc_check_bill : FnScope ["lines", "line"] ["lines"] (defScope s_check_bill) := ⟨rfl, rfl, rfl, by decide +kernel, rfl, by decide +kernel, by decide +kernel⟩
theorem keeps_checkBill (B : Bi mg) (eb : ErrC K mg "BadBill" Cb) (S : Stands K mg "check_bill" s_check_bill ["lines"]) (K_is_row : Keeps P w K mg base CX0 1 "is_row" ["value", "least", "most"] (spD domRow)) (K_is_line : Keeps P w K mg base CX0 2 "is_line" ["value"] (spD domLine)) :
    Keeps P w K mg base (L2N.CX P w) 3 "check_bill" ["lines"] (spR Cb domCheckBill) := by
  refine keeps_ofR S sc_check_bill (fun ds c h => ?_) (fun f cdv A outer s H E hr => ⟨_, (pss_one (ps_if (PW.pt (pw_or (pt_not (pt_val (pe_callD K_is_row (hr.mono (by omega)) (pa_cons (pv 0) (pa_cons pe_int (pa_cons pe_int pa_nil)))))) (pw_or1 (pt_not (pt_val (pe_callB (cr_all rfl) rfl B.all bi_all (pa_cons (pe_lc (own := [("line", 1)]) (g := gName 1) (tt := tYes) rfl sc_check_bill.nd (pi_tup (pv 0)) (blkOk_by (N := ["lines", "line"]) (sc := defScope s_check_bill) (by decide +kernel)) (fun _ _ _ _ _ => (pg_name (i := 1) sc_check_bill.nd rfl (.inl rfl))) (fun _ _ _ _ _ => pts_nil) (fun _ _ _ _ _ => (pe_callD K_is_line (hr.mono (by omega)) (pa_cons (pv 1) pa_nil)))) pa_nil))))))) (pss_one (ps_raiseC eb rfl (L2N.takes_of rfl rfl rfl rfl) rfl)) pss_nil)), fun ds o vs G h n => ?_⟩)
  · obtain ⟨d, rfl, _⟩ := h
    rfl
  · obtain ⟨d, rfl, h⟩ := h
    obtain ⟨v, rfl, n0⟩ := one_of n
    have row : ∀ {G2 : Hp}, Ex G G2 → EvT (tNot (tB (tCall (spD domRow) [] E0 (tCons (tVar 0) (tCons (tC (.int 1)) (tCons (tC (.int 3)) tNil)))))) (start ["lines", "line"] [v]) G2 (!rowD d 1 3) := fun x => evt_not (evt_B (evd_call (ea_cons (evd_at n0 x) (ea_cons evd_int (ea_cons evd_int ea_nil))) ⟨d, 1, 3, rfl, rfl⟩))
    rcases h with ⟨ls, rfl, L, rfl⟩ | ⟨no | ⟨y, rfl, by_⟩, rfl⟩
    · have l1 := L.l1
      have l3 := L.l3
      have len : (ls.map Ln.d).length = ls.length := List.length_map _
      have rt : rowD (.tuple (ls.map Ln.d)) 1 3 = true := row_no (by rw [len]; omega) (by rw [len]; omega)
      refine evx_if (b := false) (evt_is (evt_or (a := false) (b := false) (evt_is (row (Ex.refl _)) (by rw [rt]; rfl)) (fun _ => evt_not (b := true) (evt_B (evd_cb (ea_cons (evd_is (evd_lcN (r := fun _ => .bool true) (ei_tup (evd_at n0)) (by omega) (fun x => rfl) (fun d hd y G1 e ny => ?_)) (congrArg PyData.list (map_true _))) ea_nil) (r_all (all_true _)))))) rfl) (fun h => nomatch h) (fun _ => evx_ret (evd_c .non))
      obtain ⟨l, hl, rfl⟩ := List.mem_map.mp hd
      exact evd_call (ea_cons (evd_at ny) ea_nil) ⟨_, rfl, .inl ⟨l, rfl, L.each l hl, rfl⟩⟩
    · refine evx_if (b := true) (evt_is (evt_or (a := true) (b := true) (evt_is (row (Ex.refl _)) (by rw [no]; rfl)) (fun h => nomatch h)) rfl) (fun _ => evx_raise) (fun h => nomatch h)
    · refine evx_if (b := true) (evt_is (evt_or (a := false) (b := true) (evt_is (row (Ex.refl _)) rfl) (fun _ => evt_not (b := false) (evt_B (evd_cb (ea_cons (evd_is (d' := .list (boolL [false])) (evd_lcN (r := fun _ => .bool false) (ei_tup (evd_at n0)) (by show 1 ≤ 40000; decide) (fun x => rfl) (fun d hd y G1 e ny => ?_)) rfl) ea_nil) (r_all (b := false) rfl))))) rfl) (fun _ => evx_raise) (fun h => nomatch h)
      rw [List.mem_singleton.mp hd] at ny
      exact evd_call (ea_cons (evd_at ny) ea_nil) ⟨_, rfl, .inr ⟨by_, rfl⟩⟩
abbrev s_total_of : Stmt := topS 40
theorem sc_total_of : FnScope ["lines", "line"] ["lines"] (defScope s_total_of) := ⟨rfl, rfl, rfl, by decide +kernel, rfl, by decide +kernel, by decide +kernel⟩
theorem keeps_total (B : Bi mg) (S : Stands K mg "total_of" s_total_of ["lines"]) (K_check_bill : Keeps P w K mg base (L2N.CX P w) 3 "check_bill" ["lines"] (spR Cb domCheckBill)) :
    Keeps P w K mg base (L2N.CX P w) 4 "total_of" ["lines"] (spR Cb domTotal) := by
  refine keeps_ofR2 S sc_total_of (fun ds c h => ?_) (fun f cdv A outer s H E hr => ⟨_, (pss_cons (ps_expr (pe_callR K_check_bill (hr.mono (by omega)) (L2N.takes_of rfl rfl rfl rfl) (pa_cons (pv 0) pa_nil)))
    (PSs.nox (pss_one (ps_ret (pe_callB (cr_sum rfl) rfl B.sum bi_sum (pa_cons (pe_lc (own := [("line", 1)]) (g := gName 1) (tt := tYes) rfl sc_total_of.nd (pi_tup (pv 0)) (blkOk_by (N := ["lines", "line"]) (sc := defScope s_total_of) (by decide +kernel)) (fun _ _ _ _ _ => (pg_name (i := 1) sc_total_of.nd rfl (.inl rfl))) (fun _ _ _ _ _ => pts_nil) (fun _ _ _ _ _ => (pe_ix (r := rIxT K) ix_tup (pv 1) pe_int (fun _ _ => rfl)))) pa_nil)))))), fun ds o vs G h n => ?_⟩)
  · obtain ⟨d, rfl, _⟩ := h
    rfl
  · obtain ⟨d, rfl, h⟩ := h
    obtain ⟨v, rfl, n0⟩ := one_of n
    refine evx_dropR (o1 := if o.isSome then some .none else none) (ea_cons (evd_at n0) ea_nil) ⟨d, rfl, h.elim (fun ⟨ls, e1, L, e2⟩ => .inl ⟨ls, e1, L, by rw [e2]; rfl⟩) fun ⟨e1, e2⟩ => .inr ⟨e1, by rw [e2]; rfl⟩⟩ (fun c2 e2 G2 x2 => ?_) (fun e => by
      cases o with
      | none => rfl
      | some c => cases e)
    rcases h with ⟨ls, rfl, L, rfl⟩ | ⟨_, rfl⟩
    · have l3 := L.l3
      have len : (ls.map Ln.d).length = ls.length := List.length_map _
      refine evx_ret (evd_cb (ea_cons (evd_is (d' := .list (intL (ls.map (·.due)))) (evd_lcN (r := fun d => match d with | .tuple [_, _, _, _, _, z] => z | _ => .none) (ei_tup (evd_at n0 x2)) (by omega) (fun x => rfl) (fun d hd y G1 e ny => ?_)) ?_) ea_nil) (r_sum rfl))
      · obtain ⟨l, hl, rfl⟩ := List.mem_map.mp hd
        exact evd_op (evd_at ny) (evd_int (i := ((5 : Nat) : Int))) (r_ixT rfl)
      · unfold intL
        rw [List.map_map, List.map_map]
        rfl
    · cases e2
abbrev s_check_counts : Stmt := topS 43
theorem sc_check_counts : FnScope ["lines", "counts", "line", "count"] ["lines", "counts"] (defScope s_check_counts) := ⟨rfl, rfl, rfl, by decide +kernel, rfl, by decide +kernel, by decide +kernel⟩
theorem keeps_counts (B : Bi mg) (en : ErrC K mg "BadNumber" Cn) (S : Stands K mg "check_counts" s_check_counts ["lines", "counts"]) (K_is_row : Keeps P w K mg base CX0 1 "is_row" ["value", "least", "most"] (spD domRow)) (K_is_between : Keeps P w K mg base CX0 1 "is_between" ["value", "low", "high"] (spD domBetween)) :
    Keeps P w K mg base (L2N.CX P w) 2 "check_counts" ["lines", "counts"] (spR Cn domCounts) := by
  refine keeps_ofR S sc_check_counts (fun ds c h => ?_) (fun f cdv A outer s H E hr => ⟨_, (pss_cons (ps_if (pt_not (pt_val (pe_callD K_is_row (hr.mono (by omega)) (pa_cons (pv 1) (pa_cons (pe_callB call_len rfl B.len bi_len (pa_cons (pv 0) pa_nil)) (pa_cons (pe_callB call_len rfl B.len bi_len (pa_cons (pv 0) pa_nil)) pa_nil)))))) (pss_one (ps_raiseC en rfl (L2N.takes_of rfl rfl rfl rfl) rfl)) pss_nil)
    (pss_one (ps_if (pt_not (pt_val (pe_callB (cr_all rfl) rfl B.all bi_all (pa_cons (pe_lc (own := [("line", 2), ("count", 3)]) (g := gTup K 2 (gCons (gName 2) (gCons (gName 3) gNil))) (tt := tYes) rfl sc_check_counts.nd (ShW.pi_zK (k1 := .t) (k2 := .t) B.zip (pa_cons (pv 0) (pa_cons (pv 1) pa_nil))) (blkOk_by (N := ["lines", "counts", "line", "count"]) (sc := defScope s_check_counts) (by decide +kernel)) (fun _ _ _ _ _ => (pg_tup rfl (pgs_cons (pg_name (i := 2) sc_check_counts.nd rfl (.inl rfl)) (pgs_cons (pg_name (i := 3) sc_check_counts.nd rfl (.inl rfl)) pgs_nil)))) (fun _ _ _ _ _ => pts_nil) (fun _ _ _ _ _ => (pe_callD K_is_between (hr.mono (by omega)) (pa_cons (pv 3) (pa_cons pe_int (pa_cons (pe_ix (r := rIxT K) ix_tup (pv 2) pe_int (fun _ _ => rfl)) pa_nil)))))) pa_nil)))) (pss_one (ps_raiseC en rfl (L2N.takes_of rfl rfl rfl rfl) rfl)) pss_nil))), fun ds o vs G h n => ?_⟩)
  · obtain ⟨ls, cs, rfl, _⟩ := h
    rfl
  · obtain ⟨ls, cs, rfl, L, lc, rfl⟩ := h
    obtain ⟨v, v1, rfl, n0, n1⟩ := dn2 n
    have l3 := L.l3
    have len : (ls.map Ln.d).length = ls.length := List.length_map _
    have lenC : (intL cs).length = cs.length := List.length_map _
    have ln : ((ls.map Ln.d).length : Int) = (ls.length : Nat) := by rw [len]
    refine evx_if (b := false) (evt_not (b := true) (evt_B (evd_call (ea_cons (evd_at n1) (ea_cons (evd_cb (ea_cons (evd_at n0) ea_nil) (r_lenT ln)) (ea_cons (evd_cb (ea_cons (evd_at n0) ea_nil) (r_lenT ln)) ea_nil))) (row_dom (by omega) (by omega))))) (fun h => nomatch h) (fun _ => ?_)
    obtain ⟨bs, eb, ab⟩ := zip_counts ls cs
    have hz : (zipD (ls.map Ln.d) (intL cs)).length ≤ 40000 := by
      rw [zipD_len, len]
      omega
    refine evx_if (b := !countsB ls cs) (evt_not (evt_B (evd_cb (ea_cons (evd_is (evd_lcP (r := countOf) (ei_zK (k1 := .t) (k2 := .t) (ea_cons (evd_at n0) (ea_cons (evd_at n1) ea_nil))) hz (fun d hd => ?_) (fun x y => rfl) (fun a b hab x y G3 x3 nx ny => ?_)) (congrArg PyData.list eb)) ea_nil) (r_all ab)))) (fun hb => ?_) (fun hb => ?_)
    · obtain ⟨l, _, c, _, rfl⟩ := zip_in hd
      exact ⟨_, _, rfl⟩
    · obtain ⟨l, _, c, _, e⟩ := zip_in hab
      cases e
      exact evd_call (ea_cons (evd_at ny) (ea_cons evd_int (ea_cons (evd_op (evd_at nx) (evd_int (i := ((1 : Nat) : Int))) (r_ixT rfl)) ea_nil))) ⟨_, _, _, rfl, rfl⟩
    · rw [Bool.not_eq_true'] at hb
      rw [hb]
      exact evx_raise
    · rw [Bool.not_eq_false'] at hb
      rw [hb]
      exact evx_ret (evd_c .non)
abbrev s_both : Stmt := topS 45
theorem sc_both : FnScope ["one", "other", "first", "second"] ["one", "other"] (defScope s_both) := ⟨rfl, rfl, rfl, by decide +kernel, rfl, by decide +kernel, by decide +kernel⟩
theorem keeps_both (B : Bi mg) (S : Stands K mg "both" s_both ["one", "other"]) : Keeps P w K mg base CX0 1 "both" ["one", "other"] (spD domBoth) := by
  refine keeps_of S sc_both (fun ds c h => ?_) (fun f cdv A outer s H E hr => ⟨_, (pss_one (ps_ret (pe_callTy call_tuple_of rfl B.tuple bi_tuple (pa_cons (pe_lc (own := [("first", 2), ("second", 3)]) (g := gTup K 2 (gCons (gName 2) (gCons (gName 3) gNil))) (tt := tYes) rfl sc_both.nd (ShW.pi_zK (k1 := .t) (k2 := .t) B.zip (pa_cons (pv 0) (pa_cons (pv 1) pa_nil))) (blkOk_by (N := ["one", "other", "first", "second"]) (sc := defScope s_both) (by decide +kernel)) (fun _ _ _ _ _ => (pg_tup rfl (pgs_cons (pg_name (i := 2) sc_both.nd rfl (.inl rfl)) (pgs_cons (pg_name (i := 3) sc_both.nd rfl (.inl rfl)) pgs_nil)))) (fun _ _ _ _ _ => pts_nil) (fun _ _ _ _ _ => (pe_op op_add (pv 2) (pv 3)))) pa_nil)))), fun ds c vs G h n => ?_⟩)
  · obtain ⟨xs, ys, rfl, _⟩ := h
    rfl
  · obtain ⟨xs, ys, rfl, few, rfl⟩ := h
    obtain ⟨v, v1, rfl, n0, n1⟩ := dn2 n
    have lenX : (intL xs).length = xs.length := List.length_map _
    refine evs_ret (evd_cb (ea_cons (evd_is (evd_lcP (r := plusOf) (ei_zK (k1 := .t) (k2 := .t) (ea_cons (evd_at n0) (ea_cons (evd_at n1) ea_nil))) (by rw [zipD_len, lenX]; omega) (fun d hd => ?_) (fun x y => rfl) (fun a b hab x y G3 x3 nx ny => ?_)) (congrArg PyData.list (zip_plus xs ys))) ea_nil) r_tupL)
    · obtain ⟨a, _, b, _, rfl⟩ := zip_in hd
      exact ⟨_, _, rfl⟩
    · obtain ⟨a, _, b, _, e⟩ := zip_in hab
      cases e
      exact evd_op (evd_at nx) (evd_at ny) (r_I0 fun _ => .int _)
abbrev s_refund : Stmt := topS 44
theorem sc_refund : FnScope ["lines", "back", "more", "line", "ahead", "count"] ["lines", "back", "more"] (defScope s_refund) := ⟨rfl, rfl, rfl, by decide +kernel, rfl, by decide +kernel, by decide +kernel⟩
theorem keeps_refund (B : Bi mg) (S : Stands K mg "refund" s_refund ["lines", "back", "more"]) (K_check_bill : Keeps P w K mg base (L2N.CX P w) 3 "check_bill" ["lines"] (spR Cb domCheckBill)) (K_check_counts : Keeps P w K mg base (L2N.CX P w) 2 "check_counts" ["lines", "counts"] (spR Cn domCounts)) (K_both : Keeps P w K mg base CX0 1 "both" ["one", "other"] (spD domBoth)) :
    Keeps P w K mg base (L2N.CX P w) 4 "refund" ["lines", "back", "more"] (spR Cn domRefund) := by
  refine keeps_ofR2 S sc_refund (fun ds c h => ?_) (fun f cdv A outer s H E hr => ⟨_, (pss_cons (ps_expr (pe_callR K_check_bill (hr.mono (by omega)) (L2N.takes_of rfl rfl rfl rfl) (pa_cons (pv 0) pa_nil)))
    (pss_cons (ps_expr (pe_callR K_check_counts (hr.mono (by omega)) (L2N.takes_of rfl rfl rfl rfl) (pa_cons (pv 0) (pa_cons (pv 1) pa_nil))))
    (pss_cons (ps_expr (pe_callR K_check_counts (hr.mono (by omega)) (L2N.takes_of rfl rfl rfl rfl) (pa_cons (pv 0) (pa_cons (pv 2) pa_nil))))
    (pss_cons (ps_expr (pe_callR K_check_counts (hr.mono (by omega)) (L2N.takes_of rfl rfl rfl rfl) (pa_cons (pv 0) (pa_cons (pe_callD K_both (hr.mono (by omega)) (pa_cons (pv 1) (pa_cons (pv 2) pa_nil))) pa_nil))))
    (PSs.nox (pss_one (ps_ret (pe_callTy call_tuple_of rfl B.tuple bi_tuple (pa_cons (pe_lc (own := [("line", 3), ("ahead", 4), ("count", 5)]) (g := gTup K 3 (gCons (gName 3) (gCons (gName 4) (gCons (gName 5) gNil)))) (tt := tYes) rfl sc_refund.nd (ShW.pi_zK3 (k1 := .t) (k2 := .t) (k3 := .t) B.zip (pa_cons (pv 0) (pa_cons (pv 1) (pa_cons (pv 2) pa_nil)))) (blkOk_by (N := ["lines", "back", "more", "line", "ahead", "count"]) (sc := defScope s_refund) (by decide +kernel)) (fun _ _ _ _ _ => (pg_tup rfl (pgs_cons (pg_name (i := 3) sc_refund.nd rfl (.inl rfl)) (pgs_cons (pg_name (i := 4) sc_refund.nd rfl (.inl rfl)) (pgs_cons (pg_name (i := 5) sc_refund.nd rfl (.inl rfl)) pgs_nil))))) (fun _ _ _ _ _ => pts_nil) (fun _ _ _ _ _ => (pe_op op_sub (pe_op op_fdivN (pe_op op_mul (pe_ix (r := rIxT K) ix_tup (pv 3) pe_int (fun _ _ => rfl)) (pe_op op_add (pv 4) (pv 5))) (pe_ix (r := rIxT K) ix_tup (pv 3) pe_int (fun _ _ => rfl))) (pe_op op_fdivN (pe_op op_mul (pe_ix (r := rIxT K) ix_tup (pv 3) pe_int (fun _ _ => rfl)) (pv 4)) (pe_ix (r := rIxT K) ix_tup (pv 3) pe_int (fun _ _ => rfl)))))) pa_nil))))))))), fun ds o vs G h n => ?_⟩)
  · obtain ⟨ls, bs, ms, rfl, _⟩ := h
    rfl
  · obtain ⟨ls, bs, ms, rfl, R, rfl⟩ := h
    obtain ⟨v, v1, v2, rfl, n0, n1, n2⟩ := dn3 n
    have l3 := R.ok.l3
    refine evx_dropS (ea_cons (evd_at n0) ea_nil) ⟨_, rfl, .inl ⟨ls, rfl, R.ok, rfl⟩⟩ (fun G1 x1 => ?_)
    refine evx_dropS (c1 := .none) (ea_cons (evd_at n0 x1) (ea_cons (evd_at n1 x1) ea_nil)) ⟨ls, bs, rfl, R.ok, R.lb, by rw [R.b]; rfl⟩ (fun G2 x2 => ?_)
    have x12 := x1.trans x2
    refine evx_dropS (c1 := .none) (ea_cons (evd_at n0 x12) (ea_cons (evd_at n2 x12) ea_nil)) ⟨ls, ms, rfl, R.ok, R.lm, by rw [R.m]; rfl⟩ (fun G3 x3 => ?_)
    have x13 := x12.trans x3
    refine evx_dropR (ea_cons (evd_at n0 x13) (ea_cons (evd_call (ea_cons (evd_at n1 x13) (ea_cons (evd_at n2 x13) ea_nil)) ⟨bs, ms, rfl, by rw [R.lb]; omega, rfl⟩) ea_nil)) ⟨ls, addV bs ms, rfl, R.ok, by rw [addV_len (R.lb.trans R.lm.symm), R.lb], rfl⟩ (fun c2 e2 G4 x4 => ?_) (fun e => ?_)
    · have a : countsB ls (addV bs ms) = true := by
        cases h : countsB ls (addV bs ms) with
        | true => rfl
        | false => rw [h] at e2; cases e2
      rw [if_pos a]
      have x14 := x13.trans x4
      have hz : (zipD3 (ls.map Ln.d) (intL bs) (intL ms)).length ≤ 40000 := by
        rw [zipD3_len, List.length_map]
        omega
      refine evx_ret (evd_cb (ea_cons (evd_is (evd_lcA (r := refOf) (B := fun d G1 σ2 => ∃ d1 d2 d3 x y u, d = .tuple [d1, d2, d3] ∧ σ2 = (((wipe [some v, some v1, some v2, none, none, none] [3, 4, 5]).set 3 (some x)).set 4 (some y)).set 5 (some u) ∧ Dn G1 x d1 ∧ Dn G1 y d2 ∧ Dn G1 u d3)
        (ei_zK3 (k1 := .t) (k2 := .t) (k3 := .t) (ea_cons (evd_at n0 x14) (ea_cons (evd_at n1 x14) (ea_cons (evd_at n2 x14) ea_nil)))) hz (fun d hd G5 x5 => ?_) (fun d G5 σ2 ⟨_, _, _, x, y, u, _, e, _⟩ => by rw [e]; rfl) (fun d hd G5 σ2 x5 hB => ?_)) (congrArg PyData.list (zip_refs ls bs ms))) ea_nil) r_tupL)
      · obtain ⟨l, _, b, m, rfl, _⟩ := zip3_in hd R.b R.m
        exact fun x H ex n Q q => eg_three x H ex n Q fun σ2 ⟨x, y, u, e, nx, ny, nu⟩ => q σ2 ⟨_, _, _, x, y, u, rfl, e, nx, ny, nu⟩
      · obtain ⟨l, hl, b, m, rfl, b0, b1, m0, m1⟩ := zip3_in hd R.b R.m
        obtain ⟨d1, d2, d3, x, y, u, ed, rfl, nx, ny, nu⟩ := hB
        cases ed
        cases ny
        cases nu
        have L := R.ok.each l hl
        have c1 := L.c1
        have c9 := L.c9
        have cI : ∀ {G : Hp} {i : Int}, Dn G (.int i) (.int i) := .int _
        have due : EvD (tOp (rIxT K) (tVar 3) (tC (.int 5))) [some v, some v1, some v2, some x, some (.int b), some (.int m)] G5 (.int l.due) := evd_op (evd_at nx) (evd_int (i := ((5 : Nat) : Int))) (r_ixT rfl)
        have cnt : EvD (tOp (rIxT K) (tVar 3) (tC (.int 1))) [some v, some v1, some v2, some x, some (.int b), some (.int m)] G5 (.int l.cnt) := evd_op (evd_at nx) (evd_int (i := ((1 : Nat) : Int))) (r_ixT rfl)
        refine evd_is (evd_op (evd_op (evd_op due (evd_op (evd_at (d := .int b) cI) (evd_at (d := .int m) cI) (r_I0 fun _ => .int _)) (r_I (.inr ⟨by omega, by omega⟩) fun _ => .int _)) cnt (r_I ⟨by omega, by omega⟩ fun _ => .int _)) (evd_op (evd_op due (evd_at (d := .int b) cI) (r_I (.inr ⟨by omega, by omega⟩) fun _ => .int _)) cnt (r_I ⟨by omega, by omega⟩ fun _ => .int _)) (r_I0 fun _ => .int _)) ?_
        show PyData.int ((l.due * (b + m)).fdiv l.cnt - (l.due * b).fdiv l.cnt) = .int (l.due * (b + m) / l.cnt - l.due * b / l.cnt)
        rw [Int.fdiv_eq_ediv_of_nonneg _ (by omega), Int.fdiv_eq_ediv_of_nonneg _ (by omega)]
    · have a : countsB ls (addV bs ms) = false := by
        cases h : countsB ls (addV bs ms) with
        | false => rfl
        | true => rw [h] at e; cases e
      rw [a]
      rfl
abbrev s_refunds : Stmt := topS 46
theorem sc_refunds : FnScope ["lines", "rows", "back", "found", "row", "_"] ["lines", "rows"] (defScope s_refunds) := ⟨rfl, rfl, rfl, by decide +kernel, rfl, by decide +kernel, by decide +kernel⟩
theorem keeps_refunds (B : Bi mg) (S : Stands K mg "refunds" s_refunds ["lines", "rows"]) (K_check_bill : Keeps P w K mg base (L2N.CX P w) 3 "check_bill" ["lines"] (spR Cb domCheckBill)) (K_refund : Keeps P w K mg base (L2N.CX P w) 4 "refund" ["lines", "back", "more"] (spR Cn domRefund)) (K_both : Keeps P w K mg base CX0 1 "both" ["one", "other"] (spD domBoth)) :
    Keeps P w K mg base CX0 5 "refunds" ["lines", "rows"] (spD domRefunds) := by
  refine keeps_of S sc_refunds (fun ds c h => ?_) (fun f cdv A outer s H E hr => ⟨_, (pss_cons (ps_expr (pe_callR K_check_bill (hr.mono (by omega)) takes0N (pa_cons (pv 0) pa_nil)))
    (pss_cons (ps_if (pt_not (pt_val (pe_callB call_isi rfl B.isinstance bi_isinstance (pa_cons (pv 1) (pa_cons (pe_ty B.tuple bi_tuple) pa_nil))))) (pss_one ps_never) pss_nil)
    (pss_cons (ps_set (i := 2) sc_refunds.nd rfl (.inl rfl) (pe_callTy call_tuple_of rfl B.tuple bi_tuple (pa_cons (pe_lc (own := [("_", 5)]) (g := gName 5) (tt := tYes) rfl sc_refunds.nd (pi_tup (pv 0)) (blkOk_by (N := ["lines", "rows", "back", "found", "row", "_"]) (sc := defScope s_refunds) (by decide +kernel)) (fun _ _ _ _ _ => (pg_name (i := 5) sc_refunds.nd rfl (.inl rfl))) (fun _ _ _ _ _ => pts_nil) (fun _ _ _ _ _ => pe_int)) pa_nil)))
    (pss_cons (ps_set (i := 3) sc_refunds.nd rfl (.inl rfl) (pe_lst pa_nil))
    (pss_cons (ps_for PassesOwn.never rfl (pi_tup (pv 1)) (pg_name (i := 4) sc_refunds.nd rfl (.inl rfl))
      (pss_cons (ps_expr (pe_bm PySem.F.plainAttrs_list PySem.F.slot_list_append PySem.F.type_list_append mt_append (pv 3) (pa_cons (pe_callR K_refund (hr.mono (by omega)) takes0N (pa_cons (pv 0) (pa_cons (pv 2) (pa_cons (pv 4) pa_nil)))) pa_nil)))
    (pss_one (ps_set (i := 2) sc_refunds.nd rfl (.inl rfl) (pe_callD K_both (hr.mono (by omega)) (pa_cons (pv 2) (pa_cons (pv 4) pa_nil)))))))
    (pss_one (ps_ret (pe_callTy call_tuple_of rfl B.tuple bi_tuple (pa_cons (pv 3) pa_nil))))))))), fun ds c vs G h n => ?_⟩)
  · obtain ⟨ls, ms, rfl, _⟩ := h
    rfl
  · obtain ⟨ls, ms, rfl, L, F, few, rfl⟩ := h
    obtain ⟨v, v1, rfl, n0, n1⟩ := dn2 n
    have l3 := L.l3
    have len : (ls.map Ln.d).length = ls.length := List.length_map _
    have lenM : (rowsD ms).length = ms.length := List.length_map _
    have drop : ∀ {t : TE} {u : TS} {d c : D} {σ : L2.St} {G : Hp}, EvD t σ G d → (∀ G2, Ex G G2 → EvS u σ G2 c) → EvS (tSeq (tDrop t) u) σ G c := fun h k H e E q => h H e _ fun v G2 H2 g _ => k G2 g.g H2 g.s E fun v G3 H3 g3 n3 => q v G3 H3 (g.trans g3) n3
    refine drop (evd_callS (ea_cons (evd_at n0) ea_nil) ⟨_, rfl, .inl ⟨ls, rfl, L, rfl⟩⟩) (fun G1 x1 => ?_)
    refine evs_if (b := false) (evt_not (b := true) (evt_is (evt_B (evd_isi (evd_at n1 x1) (kit_tuple _))) (by decide +kernel : isS "tuple" "tuple" = true))) (fun h => nomatch h) (fun _ => ?_)
    refine evs_set (d := .tuple (intL (zerosF ls))) (evd_cb (ea_cons (evd_is (evd_lcN (r := fun _ => .int 0) (ei_tup (evd_at n0 x1)) (by omega) (fun x => rfl) (fun d hd y G1 e ny => evd_int)) ?_) ea_nil) r_tupL) (fun v2 G2 x2 n2 => ?_)
    · unfold intL zerosF
      rw [List.map_map, List.map_map]
      rfl
    · have x12 := x1.trans x2
      refine evs_build (ds := rowsD ms) (out := fun j => ((ms[j]?).map fun m => PyData.tuple (intL (refF ls ((ms.take j).foldl addV (zerosF ls)) m))).getD .none) (I := fun p j G1 σ' => ∃ vb y, σ' = [some v, some v1, some vb, some (.ref p), y, none] ∧ Dn G1 vb (.tuple (intL ((ms.take j).foldl addV (zerosF ls)))))
        (C := fun d G1 σ' σ2 => ∃ x, σ2 = σ'.set 4 (some x) ∧ Dn G1 x d) (by omega) (fun p => ei_tup (evd_at n1 x12)) (fun p i G1 G2 σ' e ⟨vb, y, e1, m⟩ => ⟨vb, y, e1, Dn.mono e _ m⟩) (fun p => ⟨v2, none, rfl, n2⟩)
        (fun p j d σ' G5 hd x5 hI => eg_name) (fun p j d σ' σ2 G5 hd x5 hI hC => ?_) (fun p σ2 G5 x5 hI np => ?_)
      · unfold rowsD at hd
        rw [List.getElem?_map] at hd
        cases hm : ms[j]? with
        | none => rw [hm] at hd; cases hd
        | some m =>
          rw [hm] at hd
          cases hd
          obtain ⟨vb, y, rfl, nb⟩ := hI
          obtain ⟨x, rfl, nx⟩ := hC
          obtain ⟨R, ca, _⟩ := fit_at F hm
          have n0' := Dn.mono (x12.trans x5) _ n0
          have tk : (ms.take (j + 1)).foldl addV (zerosF ls) = addV ((ms.take j).foldl addV (zerosF ls)) m := by
            rw [take_len hm, List.foldl_append]
            rfl
          rw [tk]
          generalize (ms.take j).foldl addV (zerosF ls) = b at R ca nb
          exact eva_appS rfl (evd_callS (ea_cons (evd_at n0') (ea_cons (evd_at nb) (ea_cons (evd_at nx) ea_nil))) ⟨ls, b, m, rfl, R, by rw [if_pos ca]; rfl⟩) (fun G6 x6 => evn_set1 (evd_call (ea_cons (evd_at nb x6) (ea_cons (evd_at nx x6) ea_nil)) ⟨b, m, rfl, by rw [R.lb]; omega, rfl⟩) (fun u G7 x7 nu => ⟨u, _, rfl, nu⟩))
      · obtain ⟨vb, y, rfl, nb⟩ := hI
        refine evs_ret (evd_cb (ea_cons (evd_is (evd_at np) (congrArg PyData.list ?_)) ea_nil) r_tupL)
        rw [lenM]
        unfold rowsD
        refine List.ext_getElem? fun i => ?_
        rw [List.getElem?_map, List.getElem?_map]
        by_cases hi : i < ms.length
        · obtain ⟨_, _, e⟩ := fit_at F (List.getElem?_eq_getElem hi)
          rw [List.getElem?_range hi, e]
          show some (((ms[i]?).map fun m => PyData.tuple (intL (refF ls ((ms.take i).foldl addV (zerosF ls)) m))).getD .none) = _
          rw [List.getElem?_eq_getElem hi]
          rfl
        · rw [List.getElem?_eq_none (by rw [List.length_range]; omega), List.getElem?_eq_none (by rw [refs_len]; omega)]
          rfl
end
end Sh

set_option Elab.async false
set_option linter.all false
set_option maxRecDepth 100000
set_option maxHeartbeats 4000000
/-! the law's draws -/
namespace Sh
open PySem PySem.Spec L2
open PyProof.Rows hiding St
open Evl (Ex)
section
variable {P : Program} {w : World} {K : PySem.W.Frag} {mg : Str → Option Value} {base : Heap} {σ : L2.St} {H : Hp} {Q : VK} {r : Addr} {l : List V} {k : Nat} {v : V}
theorem ifp {b : Bool} {p q : Prop} (h : b = true → p) (k : b = false → q) : if b = true then p else q := by
  cases b with
  | true => exact h rfl
  | false => exact k rfl
theorem rd (hl : H r = some (.lst l)) (hk : l[k]? = some v) (q : Q v H) (hs : σ[0]? = some (some (.ref r)) := by rfl) : tOp (rIxL K) (tVar 0) (tC (.int (k : Nat))) σ H Q := ⟨_, hs, r, l, (k : Nat), v, rfl, rfl, .inl (.inl hl), atI_nat hk, q⟩
abbrev s__law_taken : Stmt := topS 48
theorem sc__law_taken : FnScope ["row", "many", "cell", "found"] ["row", "many"] (defScope s__law_taken) := ⟨rfl, rfl, rfl, by decide +kernel, rfl, by decide +kernel, by decide +kernel⟩
theorem keeps_taken (B : Bi mg) (S : Stands K mg "_law_taken" s__law_taken ["row", "many"]) : Keeps P w K mg base CX0 1 "_law_taken" ["row", "many"] (spTaken K) := by
  obtain ⟨f, fd, F, hm, hb⟩ := S
  refine ⟨f, fd, F.ok sc__law_taken (fun vs H Q E h => ?_) (fun cdv A outer s H vs Q E hr h => ?_), hm, F.kp, hb⟩
  · obtain ⟨r, sc, G, m, rfl, _⟩ := h
    rfl
  · obtain ⟨r, sc, G, m, rfl, m0, m1, st, q⟩ := h
    refine ⟨_, (pss_cons (ps_if (pt_cmpR op_gt (pe_ix ix_list (pv 0) pe_int (fun _ _ => rfl)) pe_int (nomark _)) (pss_cons (ps_set (i := 3) sc__law_taken.nd rfl (.inl rfl) (pe_op op_modN (pe_callTy call_int1 rfl B.int bi_int (pa_cons (pe_ix ix_list (pv 0) pe_int (fun _ _ => rfl)) pa_nil)) (pv 1)))
    (pss_cons (ps_asg (pe_op op_fdivN (pe_ix ix_list (pv 0) pe_int (fun _ _ => rfl)) (pv 1)) (pg_sub (pv 0) pe_int set_list))
    (pss_one (ps_ret (pv 3))))) pss_nil)
    (pss_cons (ps_asg (pe_op op_add (pe_ix ix_list (pv 0) pe_int (fun _ _ => rfl)) pe_int) (pg_sub (pv 0) pe_int set_list))
    (pss_cons (ps_if (pt_cmpR op_gt (pe_ix ix_list (pv 0) pe_int (fun _ _ => rfl)) (pe_callB call_len rfl B.len bi_len (pa_cons (pe_ix ix_list (pv 0) pe_int (fun _ _ => rfl)) pa_nil)) (nomark _)) (pss_cons (ps_asg (pe_op op_modN (pe_callTy call_int1 rfl B.int bi_int (pa_cons (pe_op op_add (pe_op op_mul (pe_ix ix_list (pv 0) pe_int (fun _ _ => rfl)) pe_int) pe_int) pa_nil)) pe_int) (pg_sub (pv 0) pe_int set_list))
    (pss_one (ps_ret (pe_op op_modN (pe_callTy call_int1 rfl B.int bi_int (pa_cons (pe_op op_fdivN (pe_ix ix_list (pv 0) pe_int (fun _ _ => rfl)) pe_int) pa_nil)) (pv 1))))) pss_nil)
    (pss_cons (ps_set (i := 2) sc__law_taken.nd rfl (.inl rfl) (pe_ix ix_list (pe_ix ix_list (pv 0) pe_int (fun _ _ => rfl)) (pe_op op_sub (pe_ix ix_list (pv 0) pe_int (fun _ _ => rfl)) pe_int) (fun _ _ => rfl)))
    (pss_cons (ps_asg (pe_op op_modN (pe_callTy call_int1 rfl B.int bi_int (pa_cons (pe_op op_add (pe_op op_add (pe_op op_mul (pe_ix ix_list (pv 0) pe_int (fun _ _ => rfl)) pe_int) (pv 2)) pe_int) pa_nil)) pe_int) (pg_sub (pv 0) pe_int set_list))
    (pss_cons (ps_if (pt_cmpR op_ge (pv 2) (pe_op op_pow pe_int pe_int) (nomark _)) (pss_one (ps_asg (pe_op op_fdivN (pv 2) (pv 1)) (pg_sub (pv 0) pe_int set_list))) pss_nil)
    (pss_one (ps_ret (pe_op op_modN (pe_callTy call_int1 rfl B.int bi_int (pa_cons (pv 2) pa_nil)) (pv 1)))))))))), ?_⟩
    obtain ⟨a, b, c, ha, hl⟩ := st.row
    obtain ⟨ns, hsc⟩ := st.scr
    refine rd (k := 3) hl rfl ?_
    refine ⟨_, _, rfl, rfl, _, rfl, ?_⟩
    have m0' : m ≠ 0 := by omega
    have sm : m.natAbs < 1073741824 := by omega
    have fin : ∀ (x : Int) (H2 : Hp), Gq K r sc G H G H2 → Q (.int (x.fmod m)) H2 := fun x H2 g => by
      have h1 := Int.fmod_nonneg_of_pos x m0
      have h2 := Int.fmod_lt_of_pos x m0
      have z := q (x.fmod m).toNat H2 (by omega) g
      rw [show (((x.fmod m).toNat : Nat) : Int) = x.fmod m by omega] at z
      exact z
    refine ifp (fun _ => ?_) (fun _ => ?_)
    · refine rd (k := 3) hl rfl (.inl ⟨_, rfl, _, rfl, _, _, rfl, rfl, m0', ?_⟩)
      refine rd (k := 3) hl rfl ⟨_, rfl, _, _, rfl, rfl, ⟨m0', sm⟩, _, rfl, r, _, 3, 3, rfl, rfl, hl, rfl, _, rfl, ?_⟩
      exact fin c _ (Gq.put st ha)
    · have a1 : (0 : Int) ≤ a + 1 := by omega
      refine rd (k := 1) hl rfl ⟨_, _, rfl, rfl, _, rfl, r, _, 1, 1, rfl, rfl, hl, rfl, ?_⟩
      have g2 : Gq K r sc G H G (upd H r (.lst [.ref sc, .int (a + 1), .int b, .int c])) := Gq.put st a1
      have hl2 : (upd H r (.lst [.ref sc, .int (a + 1), .int b, .int c])) r = some (.lst [.ref sc, .int (a + 1), .int b, .int c]) := upd_same
      have hs2 := sqx g2.st.s hsc
      refine rd (k := 1) hl2 rfl (rd (k := 0) hl2 rfl ⟨_, ns.length, rfl, .inl ⟨_, hs2, (List.length_map _).symm⟩, _, _, rfl, rfl, _, rfl, ?_⟩)
      refine ifp (fun _ => ?_) (fun hle => ?_)
      · refine rd (k := 2) hl2 rfl ⟨_, _, rfl, rfl, .inr ⟨by decide, by decide⟩, _, _, rfl, rfl, .inl ⟨_, rfl, _, _, rfl, rfl, (by decide : (2147483647 : Int) ≠ 0), _, rfl, r, _, 2, 2, rfl, rfl, hl2, rfl, ?_⟩⟩
        refine rd (k := 2) (hl := upd_same) rfl ⟨_, _, rfl, rfl, ⟨by decide, by decide⟩, .inl ⟨_, rfl, _, rfl, _, _, rfl, rfl, m0', ?_⟩⟩
        exact fin _ _ (g2.trans st (Gq.put g2.st a1))
      · have hle' : a + 1 ≤ (ns.length : Int) := by
          have z := of_decide_eq_false hle
          omega
        have lt : a.toNat < ns.length := by omega
        have at1 : atI (ns.map V.int) (a + 1 - 1) = some (.int ns[a.toNat]) := by
          rw [show a + 1 - 1 = ((a.toNat : Nat) : Int) by omega]
          refine atI_nat ?_
          rw [List.getElem?_map, List.getElem?_eq_getElem lt]
          rfl
        generalize ns[a.toNat] = ce at at1
        refine rd (k := 0) hl2 rfl (rd (k := 1) hl2 rfl ⟨_, _, rfl, rfl, sc, _, _, _, rfl, rfl, hs2, at1, ?_⟩)
        refine rd (k := 2) hl2 rfl ⟨_, _, rfl, rfl, .inr ⟨by decide, by decide⟩, _, rfl, _, _, rfl, rfl, _, _, rfl, rfl, .inl ⟨_, rfl, _, _, rfl, rfl, (by decide : (2147483647 : Int) ≠ 0), _, rfl, r, _, 2, 2, rfl, rfl, hl2, rfl, ?_⟩⟩
        refine ⟨_, rfl, _, _, rfl, rfl, ⟨by decide, by decide, by decide⟩, _, _, rfl, rfl, _, rfl, ?_⟩
        refine ifp (fun _ => ?_) (fun _ => ?_)
        · refine ⟨_, rfl, _, rfl, _, _, rfl, rfl, ⟨m0', sm⟩, _, rfl, r, _, 3, 3, rfl, rfl, upd_same, rfl, ?_⟩
          refine ⟨_, rfl, .inl ⟨_, rfl, _, rfl, _, _, rfl, rfl, m0', ?_⟩⟩
          rw [upd_upd]
          exact fin _ _ (g2.trans st (Gq.put g2.st a1))
        · refine ⟨_, rfl, .inl ⟨_, rfl, _, rfl, _, _, rfl, rfl, m0', ?_⟩⟩
          exact fin _ _ (g2.trans st (Gq.put g2.st a1))
abbrev s__law_pick : Stmt := topS 49
theorem sc__law_pick : FnScope ["row", "things"] ["row", "things"] (defScope s__law_pick) := ⟨rfl, rfl, rfl, by decide +kernel, rfl, by decide +kernel, by decide +kernel⟩
theorem keeps_pick (B : Bi mg) (S : Stands K mg "_law_pick" s__law_pick ["row", "things"]) (K__law_taken : Keeps P w K mg base CX0 1 "_law_taken" ["row", "many"] (spTaken K)) : Keeps P w K mg base CX0 2 "_law_pick" ["row", "things"] (spPick K) := by
  obtain ⟨f, fd, F, hm, hb⟩ := S
  refine ⟨f, fd, F.ok sc__law_pick (fun vs H Q E h => ?_) (fun cdv A outer s H vs Q E hr h => ?_), hm, F.kp, hb⟩
  · obtain ⟨r, sc, G, ds, v, rfl, _⟩ := h
    rfl
  · obtain ⟨r, sc, G, ds, v, rfl, st, n, l0, l1, q⟩ := h
    refine ⟨_, (pss_one (ps_ret (pe_ix ix_list (pv 1) (pe_callD K__law_taken (hr.mono (by omega)) (pa_cons (pv 0) (pa_cons (pe_callB call_len rfl B.len bi_len (pa_cons (pv 1) pa_nil)) pa_nil))) (fun _ _ => rfl)))), ?_⟩
    refine ⟨_, rfl, ?_⟩
    refine evr_taken (m := (ds.length : Nat)) rfl (evd_cb (ea_cons (evd_at n) ea_nil) (r_lenL rfl)) (by omega) (by omega) st fun u G2 H2 lt g => ?_
    have n2 := Dn.mono g.g _ n
    cases n2 with
    | lst h1 h2 =>
      obtain ⟨d, hd⟩ : ∃ d, ds[u]? = some d := ⟨_, List.getElem?_eq_getElem (by omega : u < ds.length)⟩
      obtain ⟨x, hx, nx⟩ := h2.at hd
      exact ⟨_, _, _, x, rfl, rfl, .inl (.inl (g.st.s _ _ h1)), atI_nat hx, q x d G2 H2 (List.mem_of_getElem? hd) nx g⟩
end
end Sh

set_option Elab.async false
set_option linter.all false
set_option maxRecDepth 100000
set_option maxHeartbeats 4000000
/-! the law: its catalogs -/
namespace Sh
open PySem PySem.Spec L2
open PyProof.Rows hiding St
open Evl (Ex)
def HS : List Str := [Str.ofString "east", Str.ofString "west", Str.ofString "hill"]
def RS : List Str := [Str.ofString "ra", Str.ofString "rb"]
def IS : List Str := [Str.ofString "tea", Str.ofString "pot", Str.ofString "cup"]
def lkey (l : Lane) : List Str := [l.h, l.r]
def prodF (hs rs : List Str) : List (List Str) := hs.flatMap fun h => rs.map fun r => [h, r]
def nm (k : Nat) : Str := Str.ofString "s" ++ (Str.ofString (toString ((k : Nat) : Int)))
theorem names_HS : ∀ v, v < 3 → (∀ x ∈ HS.take (1 + v), nameS x = true) ∧ (HS.take (1 + v)).Nodup ∧ 1 ≤ (HS.take (1 + v)).length ∧ (HS.take (1 + v)).length ≤ 5 := by decide +kernel
theorem names_RS : ∀ v, v < 2 → (∀ x ∈ RS.take (1 + v), nameS x = true) ∧ (RS.take (1 + v)).Nodup ∧ 1 ≤ (RS.take (1 + v)).length ∧ (RS.take (1 + v)).length ≤ 5 := by decide +kernel
theorem names_IS : ∀ v, v < 3 → (∀ x ∈ IS.take (1 + v), nameS x = true) ∧ (IS.take (1 + v)).Nodup ∧ 1 ≤ (IS.take (1 + v)).length ∧ (IS.take (1 + v)).length ≤ 5 := by decide +kernel
theorem prod_ok : ∀ v, v < 3 → ∀ u, u < 2 → (prodF (HS.take (1 + v)) (RS.take (1 + u))).Nodup ∧ (prodF (HS.take (1 + v)) (RS.take (1 + u))).length ≤ 20 := by decide +kernel
theorem nm_ok : ∀ k, k < 6 → nameS (nm k) = true := by decide +kernel
theorem nm_nd : ∀ n, n < 6 → ((List.range n).map nm).Nodup := by decide +kernel
theorem nm_sz : ∀ k, k < 6 → (Str.ofString "s").length + (Str.ofString (toString ((k : Nat) : Int))).length ≤ sizeLine := by decide +kernel
theorem namesOk_of {xs : List Str} (h : (∀ x ∈ xs, nameS x = true) ∧ xs.Nodup ∧ 1 ≤ xs.length ∧ xs.length ≤ 5) : NamesOk xs 1 5 := ⟨h.1, h.2.1, by have := h.2.2.1; omega, by have := h.2.2.2; omega, by have := h.2.2.2; omega⟩
theorem prod_sub {hs rs : List Str} {i j : Nat} {h : Str} (e : hs[i]? = some h) : List.Sublist (((hs.take i).flatMap fun h => rs.map fun r => [h, r]) ++ (rs.take j).map fun r => [h, r]) (hs.flatMap fun h => rs.map fun r => [h, r]) := by
  have lt : i < hs.length := (List.getElem?_eq_some_iff.mp e).1
  have e1 : hs = hs.take i ++ h :: hs.drop (i + 1) := by
    have z := List.take_append_drop i hs
    rw [List.drop_eq_getElem_cons lt] at z
    have y : hs[i] = h := Option.some.inj ((List.getElem?_eq_getElem lt).symm.trans e)
    rw [y] at z
    exact z.symm
  have e2 : hs.flatMap (fun h => rs.map fun r => [h, r]) = ((hs.take i).flatMap fun h => rs.map fun r => [h, r]) ++ ((rs.map fun r => [h, r]) ++ (hs.drop (i + 1)).flatMap fun h => rs.map fun r => [h, r]) := by
    conv => lhs; rw [e1, List.flatMap_append, List.flatMap_cons]
  rw [e2]
  refine List.Sublist.append (List.Sublist.refl _) ?_
  exact ((List.take_sublist j rs).map _).trans (List.sublist_append_left _ _)
/-- the state while the lanes are made -/
structure Cst (K : PySem.W.Frag) (r sc la lb : Addr) (hs rs : List Str) (G H G0 : Hp) (A : List (List Str)) (Gi H' : Hp) : Prop where
  ex : Ex G0 Gi
  gs : Gs [lb, la, r] G H Gi H'
  row : RowAt r sc H'
  lan : ∃ (xl : List V) (lns : List Lane), H' la = some (.lst xl) ∧ DnL Gi xl (lns.map Lane.d) ∧ (∀ l ∈ lns, LaneOk hs rs l) ∧ List.Sublist (lns.map lkey) A
  sup : H' lb = some (.lst [])
section
variable {K : PySem.W.Frag} {r sc la lb : Addr} {hs rs : List Str} {G H G0 G1 Gi H' G3 H3 : Hp} {A A2 : List (List Str)}
theorem Cst.gr (c : Cst K r sc la lb hs rs G H G0 A Gi H') (b : Gr Gi H' G3 H3) : Cst K r sc la lb hs rs G H G0 A G3 H3 := by
  obtain ⟨xl, lns, h1, h2, h3, h4⟩ := c.lan
  exact ⟨c.ex.trans b.g, c.gs.step b, c.row.gr b, ⟨xl, lns, b.h _ _ h1, DnL.mono b.g _ h2, h3, h4⟩, b.h _ _ c.sup⟩
theorem Cst.gq (c : Cst K r sc la lb hs rs G H G0 A Gi H') (hla : la ≠ r) (hlb : lb ≠ r) (b : Gq K r sc Gi H' G3 H3) : Cst K r sc la lb hs rs G H G0 A G3 H3 := by
  obtain ⟨xl, lns, h1, h2, h3, h4⟩ := c.lan
  exact ⟨c.ex.trans b.g, c.gs.stepQ (by simp) b, b.st.row, ⟨xl, lns, b.h _ _ hla h1, DnL.mono b.g _ h2, h3, h4⟩, b.h _ _ hlb c.sup⟩
theorem Cst.re (c : Cst K r sc la lb hs rs G H G0 A Gi H') (e : Ex G1 Gi) (s : List.Sublist A A2) : Cst K r sc la lb hs rs G H G1 A2 Gi H' := by
  obtain ⟨xl, lns, h1, h2, h3, h4⟩ := c.lan
  exact ⟨e, c.gs, c.row, ⟨xl, lns, h1, h2, h3, h4.trans s⟩, c.sup⟩
theorem Cst.st (c : Cst K r sc la lb hs rs G H G0 A Gi H') (sr : ∃ ns : List Int, SqL K G sc (ns.map V.int)) : RowSt K r sc Gi H' := c.gs.row (by simp) c.row sr
end
/-- .. and the supplies -/
structure Dst (K : PySem.W.Frag) (r sc la lb : Addr) (hs rs its : List Str) (G H G3 : Hp) (A : List (List Str)) (i : Nat) (Gi H' : Hp) : Prop where
  ex : Ex G3 Gi
  gs : Gs [lb, la, r] G H Gi H'
  row : RowAt r sc H'
  lan : ∃ (xl : List V) (lns : List Lane), H' la = some (.lst xl) ∧ DnL Gi xl (lns.map Lane.d) ∧ (∀ l ∈ lns, LaneOk hs rs l) ∧ List.Sublist (lns.map lkey) A
  sup : ∃ (xs : List V) (ss : List Sup), H' lb = some (.lst xs) ∧ DnL Gi xs (ss.map Sup.d) ∧ (∀ s ∈ ss, SupOk hs its s) ∧ ss.map (·.n) = (List.range i).map nm
section
variable {K : PySem.W.Frag} {r sc la lb : Addr} {hs rs its : List Str} {G H G0 Gi H' G3 H3 : Hp} {A : List (List Str)} {i : Nat}
theorem Dst.gr (c : Dst K r sc la lb hs rs its G H G0 A i Gi H') (b : Gr Gi H' G3 H3) : Dst K r sc la lb hs rs its G H G0 A i G3 H3 := by
  obtain ⟨xl, lns, h1, h2, h3, h4⟩ := c.lan
  obtain ⟨xs, ss, k1, k2, k3, k4⟩ := c.sup
  exact ⟨c.ex.trans b.g, c.gs.step b, c.row.gr b, ⟨xl, lns, b.h _ _ h1, DnL.mono b.g _ h2, h3, h4⟩, ⟨xs, ss, b.h _ _ k1, DnL.mono b.g _ k2, k3, k4⟩⟩
theorem Dst.gq (c : Dst K r sc la lb hs rs its G H G0 A i Gi H') (hla : la ≠ r) (hlb : lb ≠ r) (b : Gq K r sc Gi H' G3 H3) : Dst K r sc la lb hs rs its G H G0 A i G3 H3 := by
  obtain ⟨xl, lns, h1, h2, h3, h4⟩ := c.lan
  obtain ⟨xs, ss, k1, k2, k3, k4⟩ := c.sup
  exact ⟨c.ex.trans b.g, c.gs.stepQ (by simp) b, b.st.row, ⟨xl, lns, b.h _ _ hla h1, DnL.mono b.g _ h2, h3, h4⟩, ⟨xs, ss, b.h _ _ hlb k1, DnL.mono b.g _ k2, k3, k4⟩⟩
theorem Dst.st (c : Dst K r sc la lb hs rs its G H G0 A i Gi H') (sr : ∃ ns : List Int, SqL K G sc (ns.map V.int)) : RowSt K r sc Gi H' := c.gs.row (by simp) c.row sr
end
section
variable {P : Program} {w : World} {K : PySem.W.Frag} {mg : Str → Option Value} {base : Heap}
abbrev s__law_catalog : Stmt := topS 51
theorem sc__law_catalog : FnScope ["row", "houses", "regions", "items", "lanes", "supplies", "house", "at", "region", "item", "least"] ["row"] (defScope s__law_catalog) := ⟨rfl, rfl, rfl, by decide +kernel, rfl, by decide +kernel, by decide +kernel⟩
def spCatalog (K : PySem.W.Frag) : Sp := fun vs H Q _ => ∃ r sc G, vs = [.ref r] ∧ RowSt K r sc G H ∧ ∀ v t G2 H2, CatOk t → (∃ u, u < 3 ∧ t.its = IS.take (1 + u)) → Dn G2 v (Cat.d t) → Gq K r sc G H G2 H2 → Q v H2
theorem keeps_catalog (B : Bi mg) (S : Stands K mg "_law_catalog" s__law_catalog ["row"]) (K__law_taken : Keeps P w K mg base CX0 1 "_law_taken" ["row", "many"] (spTaken K)) (K__law_pick : Keeps P w K mg base CX0 2 "_law_pick" ["row", "things"] (spPick K)) :
    Keeps P w K mg base CX0 3 "_law_catalog" ["row"] (spCatalog K) := by
  obtain ⟨f, fd, F, hm, hb⟩ := S
  refine ⟨f, fd, F.ok sc__law_catalog (fun vs H Q E h => ?_) (fun cdv A outer s H vs Q E hr h => ?_), hm, F.kp, hb⟩
  · obtain ⟨r, sc, G, rfl, _⟩ := h
    rfl
  · obtain ⟨r, sc, G, rfl, st, q⟩ := h
    refine ⟨_, (pss_cons (ps_par (i := 1) (j := 2) rfl sc__law_catalog.nd rfl rfl (by decide) rfl rfl (pa_cons (pe_slice sl_tupA (pe_tup (pa_cons pe_str (pa_cons pe_str (pa_cons pe_str pa_nil)))) po_none (po_some (pe_op op_add pe_int (pe_callD K__law_taken (hr.mono (by omega)) (pa_cons (pv 0) (pa_cons pe_int pa_nil)))))) (pa_cons (pe_slice sl_tupA (pe_tup (pa_cons pe_str (pa_cons pe_str pa_nil))) po_none (po_some (pe_op op_add pe_int (pe_callD K__law_taken (hr.mono (by omega)) (pa_cons (pv 0) (pa_cons pe_int pa_nil)))))) pa_nil)) (by rfl))
    (pss_cons (ps_par3 (i := 3) (j := 4) (l := 5) rfl sc__law_catalog.nd rfl rfl rfl (by decide) (by decide) (by decide) rfl rfl rfl (pa_cons (pe_slice sl_tupA (pe_tup (pa_cons pe_str (pa_cons pe_str (pa_cons pe_str pa_nil)))) po_none (po_some (pe_op op_add pe_int (pe_callD K__law_taken (hr.mono (by omega)) (pa_cons (pv 0) (pa_cons pe_int pa_nil)))))) (pa_cons (pe_lst pa_nil) (pa_cons (pe_lst pa_nil) pa_nil))) (by rfl))
    (pss_cons (ps_for PassesOwn.never rfl (pi_tup (pv 1)) (pg_name (i := 6) sc__law_catalog.nd rfl (.inl rfl))
      (pss_one (ps_for PassesOwn.never rfl (pi_tup (pv 2)) (pg_name (i := 8) sc__law_catalog.nd rfl (.inl rfl))
      (pss_one (ps_if (pt_cmpR op_gt (pe_callD K__law_taken (hr.mono (by omega)) (pa_cons (pv 0) (pa_cons pe_int pa_nil))) pe_int (nomark _)) (pss_cons (ps_set (i := 10) sc__law_catalog.nd rfl (.inl rfl) (pe_callD K__law_taken (hr.mono (by omega)) (pa_cons (pv 0) (pa_cons pe_int pa_nil))))
    (pss_one (ps_expr (pe_bm PySem.F.plainAttrs_list PySem.F.slot_list_append PySem.F.type_list_append mt_append (pv 4) (pa_cons (pe_tup (pa_cons (pv 6) (pa_cons (pv 8) (pa_cons (pv 10) (pa_cons (pe_op op_add (pv 10) (pe_callD K__law_taken (hr.mono (by omega)) (pa_cons (pv 0) (pa_cons pe_int pa_nil)))) (pa_cons (pe_callD K__law_taken (hr.mono (by omega)) (pa_cons (pv 0) (pa_cons pe_int pa_nil))) pa_nil)))))) pa_nil))))) pss_nil)))))
    (pss_cons (ps_for PassesOwn.never rfl (pi_range1 rfl B.range (pa_cons (pe_callD K__law_taken (hr.mono (by omega)) (pa_cons (pv 0) (pa_cons pe_int pa_nil))) pa_nil)) (pg_name (i := 7) sc__law_catalog.nd rfl (.inl rfl))
      (pss_cons (ps_par (i := 6) (j := 9) rfl sc__law_catalog.nd rfl rfl (by decide) rfl rfl (pa_cons (pe_callD K__law_pick (hr.mono (by omega)) (pa_cons (pv 0) (pa_cons (pe_callTy call_list_of rfl B.list bi_list (pa_cons (pv 1) pa_nil)) pa_nil))) (pa_cons (pe_callD K__law_pick (hr.mono (by omega)) (pa_cons (pv 0) (pa_cons (pe_callTy call_list_of rfl B.list bi_list (pa_cons (pv 3) pa_nil)) pa_nil))) pa_nil)) (by rfl))
    (pss_one (ps_expr (pe_bm PySem.F.plainAttrs_list PySem.F.slot_list_append PySem.F.type_list_append mt_append (pv 5) (pa_cons (pe_tup (pa_cons (pe_op op_add_str pe_str (pe_callTy call_str_int rfl B.str bi_str (pa_cons (pv 7) pa_nil))) (pa_cons (pv 6) (pa_cons (pv 9) (pa_cons (pe_callD K__law_taken (hr.mono (by omega)) (pa_cons (pv 0) (pa_cons pe_int pa_nil))) (pa_cons (pe_callD K__law_taken (hr.mono (by omega)) (pa_cons (pv 0) (pa_cons pe_int pa_nil))) pa_nil)))))) pa_nil))))))
    (pss_one (ps_ret (pe_tup (pa_cons (pv 1) (pa_cons (pv 2) (pa_cons (pv 3) (pa_cons (pe_callTy call_tuple_of rfl B.tuple bi_tuple (pa_cons (pv 4) pa_nil)) (pa_cons (pe_callTy call_tuple_of rfl B.tuple bi_tuple (pa_cons (pv 5) pa_nil)) pa_nil)))))))))))), ?_⟩
    have sr := st.scr
    have ne_r : ∀ {a : Addr} {H1 : Hp}, RowAt r sc H1 → H1 a = none → a ≠ r := fun w h z => by
      obtain ⟨_, _, _, _, w2⟩ := w
      rw [z, w2] at h
      cases h
    refine evr_sl (xs := HS) (m := 3) rfl (evd_tup (ea_cons evd_str (ea_cons evd_str (ea_cons evd_str ea_nil))) (by show 3 ≤ 100000; decide)) (by decide) (by decide) (by decide) st fun v1 u1 G1 H1 lt1 g1 n1 => ?_
    refine evr_sl (xs := RS) (m := 2) rfl (evd_tup (ea_cons evd_str (ea_cons evd_str ea_nil)) (by show 2 ≤ 100000; decide)) (by decide) (by decide) (by decide) g1.st fun v2 u2 G2 H2 lt2 g2 n2 => ⟨_, _, rfl, ?_⟩
    refine evr_sl (xs := IS) (m := 3) rfl (evd_tup (ea_cons evd_str (ea_cons evd_str (ea_cons evd_str ea_nil))) (by show 3 ≤ 100000; decide)) (by decide) (by decide) (by decide) g2.st fun v3 u3 G3 H3 lt3 g3 n3 => ?_
    refine ⟨Evl.sz_of (by show 0 ≤ 100000; decide), fun la hla => ⟨Evl.sz_of (by show 0 ≤ 100000; decide), fun lb hlb => ⟨_, _, _, rfl, ?_⟩⟩⟩
    have gq := (g1.trans st g2).trans st g3
    have nla : la ≠ r := ne_r gq.st.row hla
    have row4 : RowAt r sc (upd H3 la (.lst [])) := RowAt.put gq.st.row nla
    have nlb : lb ≠ r := ne_r row4 hlb
    have nab : la ≠ lb := fun z => by
      rw [← z, upd_same] at hlb
      cases hlb
    have hlb3 : H3 lb = none := by
      rw [upd_ne (fun z => nab z.symm)] at hlb
      exact hlb
    have old : ∀ {a : Addr}, H3 a = none → H a = none := fun {a} h => by
      cases z : H a with
      | none => rfl
      | some o =>
        have y := gq.h a o (ne_r gq.st.row h) z
        rw [h] at y
        cases y
    have gs : Gs [lb, la, r] G H G3 (upd (upd H3 la (.lst [])) lb (.lst [])) := (gq.gs.new hla).new hlb
    have ok1 := names_HS v1 lt1
    have ok2 := names_RS v2 lt2
    have ok3 := names_IS v3 lt3
    have okp := prod_ok v1 lt1 v2 lt2
    have k1 : Dn G3 u1 (.tuple (strL (HS.take (1 + v1)))) := Dn.mono (g2.g.trans g3.g) _ n1
    have k2 : Dn G3 u2 (.tuple (strL (RS.take (1 + v2)))) := Dn.mono g3.g _ n2
    have k3 : Dn G3 u3 (.tuple (strL (IS.take (1 + v3)))) := n3
    generalize HS.take (1 + v1) = hs at ok1 okp k1
    generalize RS.take (1 + v2) = rs at ok2 okp k2
    generalize hits : IS.take (1 + v3) = its at ok3 k3
    have c0 : Cst K r sc la lb hs rs G H G3 [] G3 (upd (upd H3 la (.lst [])) lb (.lst [])) := ⟨Ex.refl _, gs, RowAt.put row4 nlb, ⟨[], [], by rw [upd_ne nab, upd_same], .nil, fun l hl => (by cases hl), List.Sublist.refl _⟩, upd_same⟩
    have lenh : (strL hs).length = hs.length := List.length_map _
    have lenr : (strL rs).length = rs.length := List.length_map _
    generalize upd (upd H3 la (.lst [])) lb (.lst []) = H5 at c0
    refine for_dataN (G := G3) (ei_tup (evd_at k1)) c0.gs.s (fun G0 _ i σ' H' => ∃ Gi a b c, Cst K r sc la lb hs rs G H G0 ((hs.take i).flatMap fun h => rs.map fun r => [h, r]) Gi H' ∧ Ex G3 G0 ∧ σ' = [some (.ref r), some u1, some u2, some u3, some (.ref la), some (.ref lb), a, none, b, none, c])
      (fun _ _ _ _ _ ⟨Gi, _, _, _, x, _⟩ => x.ex.trans x.gs.s) (fun G0 H0 g0 => ?_) (fun G0 H0 i d x σ' H' G6 H6 g0 hdi pv g6 nx => ?_) (fun G0 H0 σ' H' g0 pv => ?_)
    · exact ⟨G0, none, none, none, (c0.gr g0).re (Ex.refl _) (List.Sublist.refl _), g0.g, rfl⟩
    · obtain ⟨Gi, a, b, c, cs, e30, rfl⟩ := pv
      obtain ⟨h, hh, rfl⟩ := str_at hdi
      have memh := List.mem_of_getElem? hh
      obtain ⟨G7, e67, g7⟩ := grow_up cs.ex cs.gs.s g6
      have cs7 := cs.gr g7
      have ex := dn_str nx
      subst ex
      have k2' : Dn G7 u2 (.tuple (strL rs)) := Dn.mono ((e30.trans cs.ex).trans g7.g) _ k2
      refine for_dataN (G := G7) (σ := [some (.ref r), some u1, some u2, some u3, some (.ref la), some (.ref lb), some (.str h), none, b, none, c]) (ei_tup (evd_at k2')) cs7.gs.s (fun G8 _ j σ' H' => ∃ Gi b c, Cst K r sc la lb hs rs G H G8 (((hs.take i).flatMap fun h => rs.map fun r => [h, r]) ++ (rs.take j).map fun r => [h, r]) Gi H' ∧ Ex G0 G8 ∧ σ' = [some (.ref r), some u1, some u2, some u3, some (.ref la), some (.ref lb), some (.str h), none, b, none, c])
        (fun _ _ _ _ _ ⟨Gi, _, _, x, _⟩ => x.ex.trans x.gs.s) (fun G8 H8 g8 => ?_) (fun G8 H8 j d y σ' H' G9 H9 g8 hdj pv g9 ny => ?_) (fun G8 H8 σ' H' g8 pv => ?_)
      · refine ⟨G8, b, c, (cs7.gr g8).re (Ex.refl _) ?_, cs7.ex.trans g8.g, rfl⟩
        rw [List.take_zero, List.map_nil, List.append_nil]
        exact List.Sublist.refl _
      · obtain ⟨Gj, b2, c2, cj, e08, rfl⟩ := pv
        obtain ⟨rg, hr2, rfl⟩ := str_at hdj
        have memr := List.mem_of_getElem? hr2
        obtain ⟨G10, e9, g10⟩ := grow_up cj.ex cj.gs.s g9
        have cj10 := cj.gr g10
        have ey := dn_str ny
        subst ey
        have tkr : (rs.take (j + 1)).map (fun r => [h, r]) = (rs.take j).map (fun r => [h, r]) ++ [[h, rg]] := by
          rw [take_len hr2, List.map_append]
          rfl
        refine evr_taken (m := 4) rfl evd_int (by decide) (by decide) (cj10.st sr) fun w1 G11 H11 lw1 q1 => ⟨_, _, rfl, rfl, _, rfl, ifp (fun _ => ?_) (fun _ => ?_)⟩
        · have c11 := cj10.gq nla nlb q1
          refine evr_taken (m := 3) rfl evd_int (by decide) (by decide) (c11.st sr) fun w2 G12 H12 lw2 q2 => ?_
          have c12 := c11.gq nla nlb q2
          obtain ⟨xl, lns, hx, nl, each, sub⟩ := c12.lan
          refine ⟨_, rfl, .inl ⟨rfl, _, .inl (.inl hx)⟩, ?_⟩
          refine ⟨_, rfl, _, rfl, _, rfl, _, rfl, ?_⟩
          refine evr_taken (m := 3) rfl evd_int (by decide) (by decide) (c12.st sr) fun w3 G13 H13 lw3 q3 => ⟨_, _, rfl, rfl, ?_⟩
          have c13 := c12.gq nla nlb q3
          refine evr_taken (m := 6) rfl evd_int (by decide) (by decide) (c13.st sr) fun w4 G14 H14 lw4 q4 => ⟨Evl.sz_of (by show 5 ≤ 100000; decide), fun pt hpt => ?_⟩
          have c14 := c13.gq nla nlb q4
          have c15 := c14.gr (Gr.new (o := .tup [.str h, .str rg, .int (w2 : Nat), .int ((w2 : Nat) + (w3 : Nat)), .int (w4 : Nat)]) c14.gs.s hpt)
          obtain ⟨xl2, lns2, hx2, nl2, each2, sub2⟩ := c15.lan
          have few : xl2.length ≤ 20 := by
            have z1 := sub2.length_le
            have z2 := (prod_sub (rs := rs) (j := j) hh).length_le
            have z3 := okp.2
            rw [List.length_map] at z1
            rw [nl2.length, List.length_map]
            unfold prodF at z3
            omega
          refine ⟨la, xl2, _, rfl, rfl, hx2, Nat.lt_of_le_of_lt few (by decide), ?_⟩
          refine ⟨_, _, _, ⟨c15.ex, c15.gs.put (by simp), RowAt.put c15.row nla, ⟨_, lns2 ++ [⟨h, rg, (w2 : Nat), (w2 : Nat) + (w3 : Nat), (w4 : Nat)⟩], upd_same, ?_, fun l hl => ?_, ?_⟩, ?_⟩, e08, rfl⟩
          · rw [List.map_append]
            exact nl2.snoc (.tup upd_same (.cons (.str h) (.cons (.str rg) (.cons (.int _) (.cons (.int _) (.cons (.int _) .nil))))))
          · rcases List.mem_append.mp hl with hl | hl
            · exact each2 l hl
            · rw [List.mem_singleton] at hl
              subst hl
              exact ⟨memh, memr, by show (0 : Int) ≤ (w2 : Nat); omega, by show ((w2 : Nat) : Int) ≤ 9; omega, by show ((w2 : Nat) : Int) ≤ (w2 : Nat) + (w3 : Nat); omega, by show ((w2 : Nat) : Int) + (w3 : Nat) ≤ 9; omega, by show (0 : Int) ≤ (w4 : Nat); omega, by show ((w4 : Nat) : Int) ≤ 99; omega⟩
          · rw [List.map_append, tkr, ← List.append_assoc]
            exact List.Sublist.append sub2 (List.Sublist.refl _)
          · rw [upd_ne (fun z => nab z.symm)]
            exact c15.sup
        · have c11 := cj10.gq nla nlb q1
          refine ⟨G11, _, _, c11.re (c11.ex) ?_, e08, rfl⟩
          rw [tkr, ← List.append_assoc]
          exact List.sublist_append_left _ _
      · obtain ⟨Gj, b2, c2, cj, e08, rfl⟩ := pv
        refine ⟨Gj, _, _, _, cj.re (e08.trans cj.ex) ?_, e30, rfl⟩
        rw [lenr, List.take_length, take_len hh, List.flatMap_append]
        show List.Sublist _ (_ ++ ((rs.map fun r => [h, r]) ++ []))
        rw [List.append_nil]
        exact List.Sublist.refl _
    · obtain ⟨Gi, a, b, c, cs, e30, rfl⟩ := pv
      rw [lenh, List.take_length] at cs
      refine evr_taken (m := 6) rfl evd_int (by decide) (by decide) (cs.st sr) fun n G6 H6 ltn q6 => ?_
      have c6 := cs.gq nla nlb q6
      obtain ⟨xl, lns, hx, nl, each, sub⟩ := c6.lan
      have d6 : Dst K r sc la lb hs rs its G H G3 (prodF hs rs) 0 G6 H6 := ⟨e30.trans c6.ex, c6.gs, c6.row, ⟨xl, lns, hx, nl, each, sub⟩, ⟨[], [], c6.sup, .nil, fun s hs => (by cases hs), rfl⟩⟩
      refine rng_go (n := n) (by omega) (fun i σ' H' => ∃ Gj a6 a7 a9, Dst K r sc la lb hs rs its G H G3 (prodF hs rs) i Gj H' ∧ σ' = [some (.ref r), some u1, some u2, some u3, some (.ref la), some (.ref lb), a6, a7, b, a9, c]) ⟨G6, _, _, _, d6, rfl⟩ (fun i σ' H' lti pv => ?_) (fun σ' H' pv => ?_)
      · obtain ⟨Gj, a6, a7, a9, dj, rfl⟩ := pv
        have i6 : i < 6 := by omega
        have k1' := Dn.mono dj.ex _ k1
        have k3' := Dn.mono dj.ex _ k3
        refine evr_pick (ds := strL hs) rfl (evd_cb (ea_cons (evd_at k1') ea_nil) r_listT) (by have := ok1.2.2.1; omega) (by have := ok1.2.2.2; omega) (dj.st sr) fun w1 d1 G7 H7 hd1 m1 q7 => ?_
        obtain ⟨h, hh, rfl⟩ := List.mem_map.mp hd1
        have e1 := dn_str m1
        subst e1
        have d7 := dj.gq nla nlb q7
        refine evr_pick (ds := strL its) rfl (evd_cb (ea_cons (evd_at (Dn.mono q7.g _ k3')) ea_nil) r_listT) (by unfold strL; rw [List.length_map]; have := ok3.2.2.1; omega) (by unfold strL; rw [List.length_map]; have := ok3.2.2.2; omega) (d7.st sr) fun w2 d2 G8 H8 hd2 m2 q8 => ⟨_, _, rfl, ?_⟩
        obtain ⟨it, hit, rfl⟩ := List.mem_map.mp hd2
        have e2 := dn_str m2
        subst e2
        have d8 := d7.gq nla nlb q8
        obtain ⟨xs0, ss0, hs0, _, _, _⟩ := d8.sup
        refine ⟨_, rfl, .inl ⟨rfl, _, .inl (.inl hs0)⟩, ?_⟩
        have lg : (((i : Nat) : Int)).natAbs.log2 < 1920 := by
          have z : (((i : Nat) : Int)).natAbs < 6 := by omega
          exact Nat.lt_of_le_of_lt (Nat.log2_le_self _) (by omega)
        have sz : ((Str.ofString "s").length + (Str.ofString (toString ((i : Nat) : Int))).length) ≤ sizeLine := nm_sz i i6
        refine ⟨_, rfl, ((i : Nat) : Int), rfl, lg, _, _, rfl, rfl, sz, _, rfl, _, rfl, ?_⟩
        refine evr_taken (m := 6) rfl evd_int (by decide) (by decide) (d8.st sr) fun w3 G9 H9 lw3 q9 => ?_
        have d9 := d8.gq nla nlb q9
        refine evr_taken (m := 6) rfl evd_int (by decide) (by decide) (d9.st sr) fun w4 G10 H10 lw4 q10 => ⟨Evl.sz_of (by show 5 ≤ 100000; decide), fun pt hpt => ?_⟩
        have d10 := d9.gq nla nlb q10
        have d11 := d10.gr (Gr.new (o := .tup [.str (nm i), .str h, .str it, .int (w3 : Nat), .int (w4 : Nat)]) d10.gs.s hpt)
        obtain ⟨xs, ss, hxs, nss, eachs, names⟩ := d11.sup
        have lens : ss.length = i := by
          have z := congrArg List.length names
          rw [List.length_map, List.length_map, List.length_range] at z
          exact z
        refine ⟨lb, xs, _, rfl, rfl, hxs, Nat.lt_of_le_of_lt (show xs.length ≤ 6 by rw [nss.length, List.length_map]; omega) (by decide), ?_⟩
        obtain ⟨xl2, lns2, hx2, nl2, each2, sub2⟩ := d11.lan
        refine ⟨_, _, _, _, ⟨d11.ex, d11.gs.put (by simp), RowAt.put d11.row nlb, ⟨xl2, lns2, by rw [upd_ne nab]; exact hx2, nl2, each2, sub2⟩, ⟨_, ss ++ [⟨nm i, h, it, (w3 : Nat), (w4 : Nat)⟩], upd_same, ?_, fun l hl => ?_, ?_⟩⟩, rfl⟩
        · rw [List.map_append]
          exact nss.snoc (.tup upd_same (.cons (.str _) (.cons (.str h) (.cons (.str it) (.cons (.int _) (.cons (.int _) .nil))))))
        · rcases List.mem_append.mp hl with hl | hl
          · exact eachs l hl
          · rw [List.mem_singleton] at hl
            subst hl
            exact ⟨nm_ok i i6, hh, hit, by show (0 : Int) ≤ (w3 : Nat); omega, by show ((w3 : Nat) : Int) ≤ 60; omega, by show (0 : Int) ≤ (w4 : Nat); omega, by show ((w4 : Nat) : Int) ≤ 99; omega⟩
        · rw [List.map_append, names, List.range_succ, List.map_append]
          rfl
      · obtain ⟨Gj, a6, a7, a9, dj, rfl⟩ := pv
        obtain ⟨xl, lns, hx, nl, each, sub⟩ := dj.lan
        obtain ⟨xs, ss, hxs, nss, eachs, names⟩ := dj.sup
        have hla0 : H la = none := old hla
        have hlb0 : H lb = none := old hlb3
        have t1 := dj.gs.close hlb0 hxs (by simp [nab.symm, nlb])
        have t2 := t1.close hla0 hx (by simp [nla])
        have up1 : Ex Gj (upd Gj lb (.lst xs)) := Ex.new (dj.gs.n lb (by simp))
        have up2 : Ex (upd Gj lb (.lst xs)) (upd (upd Gj lb (.lst xs)) la (.lst xl)) := Ex.new (t1.n la (by simp))
        have ups := up1.trans up2
        have m4 : Dn (upd (upd Gj lb (.lst xs)) la (.lst xl)) (.ref la) (.list (lns.map Lane.d)) := .lst upd_same (DnL.mono ups _ nl)
        have m5 : Dn (upd (upd Gj lb (.lst xs)) la (.lst xl)) (.ref lb) (.list (ss.map Sup.d)) := .lst (by rw [upd_ne (fun z => nab z.symm), upd_same]) (DnL.mono ups _ nss)
        have ups3 : Ex G3 (upd (upd Gj lb (.lst xs)) la (.lst xl)) := dj.ex.trans ups
        have few1 : lns.length ≤ 20 := by
          have z1 := sub.length_le
          rw [List.length_map] at z1
          have := okp.2
          omega
        have few2 : ss.length ≤ 14 := by
          have z := congrArg List.length names
          rw [List.length_map, List.length_map, List.length_range] at z
          omega
        have all : EvD (tTup (tCons (tVar 1) (tCons (tVar 2) (tCons (tVar 3) (tCons (tCB (rTupD K) (tCons (tVar 4) tNil)) (tCons (tCB (rTupD K) (tCons (tVar 5) tNil)) tNil)))))) [some (.ref r), some u1, some u2, some u3, some (.ref la), some (.ref lb), a6, a7, b, a9, c] (upd (upd Gj lb (.lst xs)) la (.lst xl)) (Cat.d ⟨hs, rs, its, lns, ss⟩) :=
          evd_tup (ea_cons (evd_at (Dn.mono ups3 _ k1)) (ea_cons (evd_at (Dn.mono ups3 _ k2)) (ea_cons (evd_at (Dn.mono ups3 _ k3)) (ea_cons (evd_cb (ea_cons (evd_at m4) ea_nil) r_tupL) (ea_cons (evd_cb (ea_cons (evd_at m5) ea_nil) r_tupL) ea_nil))))) (by show 5 ≤ 100000; decide)
        refine all H' t2.s _ fun v G12 H12 g12 n12 => ?_
        refine q v ⟨hs, rs, its, lns, ss⟩ G12 H12 ⟨namesOk_of ok1, namesOk_of ok2, namesOk_of ok3, ⟨each, few1, sub.nodup okp.1⟩, ⟨eachs, few2, ?_⟩⟩ ⟨v3, lt3, hits.symm⟩ n12 ((t2.step g12).q (dj.row.gr g12) sr)
        show (ss.map (·.n)).Nodup
        rw [names]
        exact nm_nd n (by omega)
end
end Sh

set_option Elab.async false
set_option linter.all false
set_option maxRecDepth 100000
set_option maxHeartbeats 4000000
/-! the law: its orders -/
namespace Sh
open PySem PySem.Spec L2
open PyProof.Rows hiding St
open Evl (Ex)
theorem sign_lay : ∀ c ∈ SIG.cps.toList, c < 0x110000 := by decide +kernel
theorem name_lay {x : Str} (h : nameS x = true) : layS x = true := by
  unfold nameS at h
  rw [Bool.and_eq_true, Bool.and_eq_true, Bool.and_eq_true] at h
  have z := List.all_eq_true.mp h.2.2
  show x.cps.all (fun c => decide (c < 0x110000)) = true
  rw [← Array.all_toList, List.all_eq_true]
  intro c hc
  exact decide_eq_true (sign_lay c (of_decide_eq_true (z c hc)))
/-- an order as it is drawn -/
structure DrawnO (o : Ord) : Prop where
  two : o.ws.length ≤ 2
  cnt : ∀ x ∈ o.ws, x.cnt ≤ 4 ∧ x.its.length ≤ 2
  til : o.til ≤ 9
  worth : o.worth ≤ 8
theorem go_or {t u : TT} {σ : L2.St} {H : Hp} {Q : Bool → Hp → Prop} (h : t σ H fun b H1 => if b = true then Q true H1 else u σ H1 Q) : tOr t u σ H Q := h
def spOrder (K : PySem.W.Frag) : Sp := fun vs H Q _ => ∃ r sc G vc t x, vs = [.ref r, vc, .str x] ∧ RowSt K r sc G H ∧ Dn G vc (Cat.d t) ∧ CatOk t ∧ nameS x = true ∧ ∀ v o G2 H2, OrdOk t.rs t.its o → o.n = x → DrawnO o → Dn G2 v (Ord.d o) → Gq K r sc G H G2 H2 → Q v H2
section
variable {P : Program} {w : World} {K : PySem.W.Frag} {mg : Str → Option Value} {base : Heap}
abbrev s__law_order : Stmt := topS 52
theorem sc__law_order : FnScope ["row", "catalog", "name", "wishes", "turn", "items", "first", "chosen"] ["row", "catalog", "name"] (defScope s__law_order) := ⟨rfl, rfl, rfl, by decide +kernel, rfl, by decide +kernel, by decide +kernel⟩
/-- what is drawn of the items -/
theorem law_chosen {r sc li : Addr} {left : List Str} {x : Str} {G H : Hp} {σ : L2.St} {Q : VK} {E E' : XK} (st : RowSt K r sc G H) (hs0 : σ[0]? = some (some (.ref r))) (hs5 : σ[5]? = some (some (.ref li))) (hs6 : σ[6]? = some (some (.str x))) (n : Dn G (.ref li) (.list (strL left))) (hl : ∀ y ∈ left, layS y = true) (few : left.length ≤ 4)
    (q : ∀ v ch G2 H2, (ch = [x] ∨ ∃ y ∈ left, ch = [x, y]) → Dn G2 v (.tuple (strL ch)) → Gq K r sc G H G2 H2 → Q v H2) :
    tIf (tOr (tTest (tOp (rEqD K) (tVar 5) (tLst tNil))) (tTest (tOp (rI0 fun i j => .bl (decide (i > j))) (tCall (spTaken K) [] E (tCons (tVar 0) (tCons (tC (.int 3)) tNil))) (tC (.int 0))))) (tTup (tCons (tVar 6) tNil)) (tTup (tCons (tVar 6) (tCons (tCall (spPick K) [] E' (tCons (tVar 0) (tCons (tVar 5) tNil))) tNil))) σ H Q := by
  refine go_ifE (go_or ?_)
  refine (evt_test (evd_op (evd_at n (Ex.refl _) hs5) (evd_lst ea_nil (by show 0 ≤ 100000; decide)) (r_void left hl)) : EvT _ σ G left.isEmpty) H st.s _ fun G1 H1 g1 => ?_
  have q1 := Gq.of st g1
  have one : ∀ {G2 H2 : Hp}, Gq K r sc G H G2 H2 → tTup (tCons (tVar 6) tNil) σ H2 Q := fun {G2 H2} g =>
    (evd_tup (ea_cons (evd_at (d := .str x) (.str x) (Ex.refl _) hs6) ea_nil) (by show 1 ≤ 100000; decide) : EvD _ σ G2 (.tuple (strL [x]))) H2 g.st.s _ fun v G3 H3 g3 n3 => q v [x] G3 H3 (.inl rfl) n3 (g.trans st (Gq.of g.st g3))
  refine ifp (fun _ => ?_) (fun ne => ?_)
  · show (if true = true then _ else _)
    rw [if_pos rfl]
    exact one q1
  · refine evr_taken (m := 3) hs0 evd_int (by decide) (by decide) q1.st fun u G2 H2 lt q2 => ⟨_, _, rfl, rfl, _, rfl, ?_⟩
    have q12 := q1.trans st q2
    refine ifp (fun _ => one q12) (fun _ => ?_)
    refine go_tup (go_cons (go_var hs6 (go_cons ?_)))
    have lne : 0 < left.length := by
      cases left with
      | nil => cases ne
      | cons y ys => exact Nat.succ_pos _
    refine evr_pick (ds := strL left) hs0 (evd_at (Dn.mono q12.g _ n) (Ex.refl _) hs5) (by rw [strL_len]; exact lne) (by rw [strL_len]; omega) q12.st fun v d G3 H3 hd nd q3 => go_nil ⟨Evl.sz_of (by show 2 ≤ 100000; decide), fun p hp => ?_⟩
    obtain ⟨y, hy, rfl⟩ := List.mem_map.mp hd
    have q13 := q12.trans st q3
    exact q _ [x, y] _ _ (.inr ⟨y, hy, rfl⟩) (.tup upd_same (.cons (.str x) (.cons (Dn.mono (Ex.new (Evl.fresh_back q13.st.s hp)) _ nd) .nil))) (q13.trans st (Gq.of q13.st (Gr.new q13.st.s hp)))
theorem keeps_lawOrder (B : Bi mg) (S : Stands K mg "_law_order" s__law_order ["row", "catalog", "name"]) (K__law_taken : Keeps P w K mg base CX0 1 "_law_taken" ["row", "many"] (spTaken K)) (K__law_pick : Keeps P w K mg base CX0 2 "_law_pick" ["row", "things"] (spPick K)) :
    Keeps P w K mg base CX0 3 "_law_order" ["row", "catalog", "name"] (spOrder K) := by
  obtain ⟨f, fd, F, hm, hb⟩ := S
  refine ⟨f, fd, F.ok sc__law_order (fun vs H Q E h => ?_) (fun cdv A outer s H vs Q E hr h => ?_), hm, F.kp, hb⟩
  · obtain ⟨r, sc, G, vc, t, x, rfl, _⟩ := h
    rfl
  · obtain ⟨r, sc, G, vc, t, x, rfl, st, nc, ok, hx, q⟩ := h
    refine ⟨_, (pss_cons (ps_set (i := 3) sc__law_order.nd rfl (.inl rfl) (pe_lst pa_nil))
    (pss_cons (ps_for PassesOwn.never rfl (pi_range1 rfl B.range (pa_cons (pe_op op_add pe_int (pe_callD K__law_taken (hr.mono (by omega)) (pa_cons (pv 0) (pa_cons pe_int pa_nil)))) pa_nil)) (pg_name (i := 4) sc__law_order.nd rfl (.inl rfl))
      (pss_cons (ps_set (i := 5) sc__law_order.nd rfl (.inl rfl) (pe_callTy call_list_of rfl B.list bi_list (pa_cons (pe_ix ix_tup (pv 1) pe_int (fun _ _ => rfl)) pa_nil)))
    (pss_cons (ps_set (i := 6) sc__law_order.nd rfl (.inl rfl) (pe_bm PySem.F.plainAttrs_list PySem.F.slot_list_pop PySem.F.type_list_pop mt_popAt (pv 5) (pa_cons (pe_callD K__law_taken (hr.mono (by omega)) (pa_cons (pv 0) (pa_cons (pe_callB call_len rfl B.len bi_len (pa_cons (pv 5) pa_nil)) pa_nil))) pa_nil)))
    (pss_cons (ps_set (i := 7) sc__law_order.nd rfl (.inl rfl) (pe_ifExp (PW.pt (pw_or (pt_cmpR (op_eqD hr.units) (pv 5) (pe_lst pa_nil) (nomark _)) (pw_or1 (pt_cmpR op_gt (pe_callD K__law_taken (hr.mono (by omega)) (pa_cons (pv 0) (pa_cons pe_int pa_nil))) pe_int (nomark _))))) (pe_tup (pa_cons (pv 6) pa_nil)) (pe_tup (pa_cons (pv 6) (pa_cons (pe_callD K__law_pick (hr.mono (by omega)) (pa_cons (pv 0) (pa_cons (pv 5) pa_nil))) pa_nil)))))
    (pss_one (ps_expr (pe_bm PySem.F.plainAttrs_list PySem.F.slot_list_append PySem.F.type_list_append mt_append (pv 3) (pa_cons (pe_tup (pa_cons (pv 7) (pa_cons (pe_op op_add pe_int (pe_callD K__law_taken (hr.mono (by omega)) (pa_cons (pv 0) (pa_cons pe_int pa_nil)))) pa_nil))) pa_nil))))))))
    (pss_one (ps_ret (pe_tup (pa_cons (pv 2) (pa_cons (pe_callD K__law_pick (hr.mono (by omega)) (pa_cons (pv 0) (pa_cons (pe_callTy call_list_of rfl B.list bi_list (pa_cons (pe_ix ix_tup (pv 1) pe_int (fun _ _ => rfl)) pa_nil)) pa_nil))) (pa_cons (pe_callTy call_tuple_of rfl B.tuple bi_tuple (pa_cons (pv 3) pa_nil)) (pa_cons (pe_callD K__law_taken (hr.mono (by omega)) (pa_cons (pv 0) (pa_cons pe_int pa_nil))) (pa_cons (pe_callD K__law_taken (hr.mono (by omega)) (pa_cons (pv 0) (pa_cons pe_int pa_nil))) pa_nil)))))))))), ?_⟩
    have sr := st.scr
    have iok := ok.its
    have ihi := iok.hi
    have ilo := iok.lo
    have rhi := ok.rs.hi
    have rlo := ok.rs.lo
    refine go_set (go_lst (go_nil ⟨Evl.sz_of (by show 0 ≤ 100000; decide), fun lw hlw => go_for (go_fr (go_cons (go_op (go_c ?_))))⟩))
    have nlw := st.ne hlw
    have gs0 : Gs [lw, r] G H G (upd H lw (.lst [])) := ((Gq.refl st).gs).new hlw
    have row0 : RowAt r sc (upd H lw (.lst [])) := RowAt.put st.row nlw
    refine evr_taken (m := 2) rfl evd_int (by decide) (by decide) (gs0.row (by simp) row0 sr) fun n G1 H1 ltn q1 => ⟨_, _, rfl, rfl, go_nil ?_⟩
    have gs1 := gs0.stepQ (by simp) q1
    refine rngK_go (n := 1 + n) (by omega) (by omega) (fun i σ' H' => ∃ Gi xs ws a4 a5 a6 a7, Gs [lw, r] G H Gi H' ∧ RowAt r sc H' ∧ H' lw = some (.lst xs) ∧ DnL Gi xs (ws.map Wish.d) ∧ (∀ y ∈ ws, WishOk t.its y ∧ y.cnt ≤ 4 ∧ y.its.length ≤ 2) ∧ ws.length = i ∧ σ' = [some (.ref r), some vc, some (.str x), some (.ref lw), a4, a5, a6, a7])
      ⟨G1, [], [], none, none, none, none, gs1, q1.st.row, q1.h _ _ nlw upd_same, .nil, (fun y hy => by cases hy), rfl, rfl⟩ (fun i σ' H' lti pv => ?_) (fun σ' H' pv => ?_)
    · obtain ⟨Gi, xs, ws, a4, a5, a6, a7, gs, row, hw, nw, each, len, rfl⟩ := pv
      -- the items
      refine go_set (go_cb (go_cons ?_))
      refine (evd_op (evd_at (Dn.mono gs.g _ nc)) (evd_int (i := ((2 : Nat) : Int))) (r_ixT rfl) : EvD _ _ Gi (.tuple (strL t.its))) H' gs.s _ fun v1 G2 H2 g2 n2 => go_nil ?_
      cases n2 with
      | tup ht nt =>
        rename_i a2 us
        have eus := dn_strs nt
        subst eus
        refine ⟨a2, _, rfl, .inr (.inl (rdx g2.s ht)), fun li hli => ?_⟩
        have gs2 := gs.step g2
        have row2 := row.gr g2
        have hw2 := g2.h _ _ hw
        have nl1 : li ≠ lw := gs2.ne hli (by simp)
        have nl2 : li ≠ r := gs2.ne hli (by simp)
        have gs3 : Gs [li, lw, r] G H G2 (upd H2 li (.lst (t.its.map V.str))) := gs2.new hli
        have row3 : RowAt r sc (upd H2 li (.lst (t.its.map V.str))) := RowAt.put row2 nl2
        have fli : H li = none := gs2.fresh hli
        refine go_set (go_bm (go_var rfl ⟨.inl ⟨rfl, _, .inl (.inl upd_same)⟩, go_cons ?_⟩))
        refine evr_takenP (i := 0) (m := (t.its.length : Nat)) rfl (fun Q' q' => pure_len rfl upd_same (by rw [List.length_map]; exact q')) (by omega) (by omega) (gs3.row (by simp) row3 sr) fun v G4 H4 lt4 q4 => go_nil ?_
        obtain ⟨y, hy⟩ : ∃ y, t.its[v]? = some y := ⟨_, List.getElem?_eq_getElem (by omega)⟩
        have hl4 : H4 li = some (.lst (t.its.map V.str)) := q4.h _ _ nl2 upd_same
        have hw4 : H4 lw = some (.lst xs) := q4.h _ _ nlw (by rw [upd_ne (fun z => nl1 z.symm)]; exact hw2)
        refine pop_at hl4 hy (by omega) ?_
        have gs4 := (gs3.stepQ (by simp) q4).put (o := .lst ((t.its.eraseIdx v).map V.str)) (p := li) (by simp)
        have row4 : RowAt r sc (upd H4 li (.lst ((t.its.eraseIdx v).map V.str))) := RowAt.put q4.st.row nl2
        have gs5 := gs4.close fli upd_same (by simp [nl1, nl2])
        have hw5 : (upd H4 li (.lst ((t.its.eraseIdx v).map V.str))) lw = some (.lst xs) := by
          rw [upd_ne (fun z => nl1 z.symm)]
          exact hw4
        have n5 : Dn (upd G4 li (.lst ((t.its.eraseIdx v).map V.str))) (.ref li) (.list (strL (t.its.eraseIdx v))) := .lst upd_same (strs_dn _)
        have up5 : Ex G4 (upd G4 li (.lst ((t.its.eraseIdx v).map V.str))) := Ex.new (gs4.n li (by simp))
        have perm := perm_erase hy
        have sub : ∀ z ∈ t.its.eraseIdx v, z ∈ t.its := fun z hz => perm.mem_iff.mp (List.mem_cons_of_mem _ hz)
        have ndp : (y :: t.its.eraseIdx v).Nodup := perm.nodup_iff.mpr iok.nd
        have lenp : (t.its.eraseIdx v).length + 1 = t.its.length := by
          have z := perm.length_eq
          rw [List.length_cons] at z
          exact z
        have memy : y ∈ t.its := List.mem_of_getElem? hy
        generalize upd H4 li (.lst ((t.its.eraseIdx v).map V.str)) = H5 at gs5 row4 hw5
        generalize upd G4 li (.lst ((t.its.eraseIdx v).map V.str)) = G5 at gs5 n5 up5
        generalize t.its.eraseIdx v = left at gs5 n5 sub ndp lenp
        refine go_set ?_
        refine law_chosen (gs5.row (by simp) row4 sr) rfl rfl rfl n5 (fun z hz => name_lay (iok.each z (sub z hz))) (by omega) fun vch ch G6 H6 hch nch q6 => ?_
        have gs6 := gs5.stepQ (by simp) q6
        have hw6 := q6.h _ _ nlw hw5
        refine go_drop (go_bm (go_var rfl ⟨.inl ⟨rfl, _, .inl (.inl hw6)⟩, go_cons (go_tup (go_cons (go_var rfl (go_cons (go_op (go_c ?_))))))⟩))
        refine evr_taken (m := 4) rfl evd_int (by decide) (by decide) q6.st fun c G7 H7 ltc q7 => ⟨_, _, rfl, rfl, go_nil ⟨Evl.sz_of (by show 2 ≤ 100000; decide), fun pt hpt => go_nil ?_⟩⟩
        have gs7 := gs6.stepQ (by simp) q7
        have g8 := Gr.new (o := .tup [vch, .int (1 + (c : Nat))]) gs7.s hpt
        have gs8 := gs7.step g8
        have hw8 := g8.h _ _ (q7.h _ _ nlw hw6)
        refine app_at hw8 (by rw [nw.length, List.length_map]; omega) ?_
        have okc : WishOk t.its ⟨ch, 1 + (c : Nat)⟩ ∧ (1 + (c : Nat) : Int) ≤ 4 ∧ ch.length ≤ 2 := by
          refine ⟨⟨⟨fun z hz => ?_, ?_, ?_, ?_, ?_⟩, fun z hz => ?_, by show (1 : Int) ≤ 1 + (c : Nat); omega, by show (1 : Int) + (c : Nat) ≤ 99; omega⟩, by omega, ?_⟩
          · rcases hch with rfl | ⟨y2, hy2, rfl⟩
            · rw [List.mem_singleton.mp hz]
              exact iok.each y memy
            · rcases List.mem_cons.mp hz with rfl | hz
              · exact iok.each _ memy
              · rw [List.mem_singleton.mp hz]
                exact iok.each _ (sub _ hy2)
          · rcases hch with rfl | ⟨y2, hy2, rfl⟩
            · show [y].Nodup
              simp
            · have ne : ¬ y = y2 := fun e => (List.nodup_cons.mp ndp).1 (by rw [e]; exact hy2)
              show [y, y2].Nodup
              simp [ne]
          · rcases hch with rfl | ⟨y2, hy2, rfl⟩
            · show (1 : Int) ≤ 1
              decide
            · show (1 : Int) ≤ 2
              decide
          · rcases hch with rfl | ⟨y2, hy2, rfl⟩
            · show (1 : Int) ≤ 3
              decide
            · show (2 : Int) ≤ 3
              decide
          · rcases hch with rfl | ⟨y2, hy2, rfl⟩
            · show 1 < 4000
              decide
            · show 2 < 4000
              decide
          · rcases hch with rfl | ⟨y2, hy2, rfl⟩
            · rw [List.mem_singleton.mp hz]
              exact memy
            · rcases List.mem_cons.mp hz with rfl | hz
              · exact memy
              · rw [List.mem_singleton.mp hz]
                exact sub _ hy2
          · rcases hch with rfl | ⟨y2, hy2, rfl⟩
            · show 1 ≤ 2
              decide
            · show 2 ≤ 2
              decide
        refine ⟨_, _, ws ++ [⟨ch, 1 + (c : Nat)⟩], _, _, _, _, gs8.put (by simp), RowAt.put (RowAt.gr q7.st.row g8) nlw, upd_same, ?_, fun z hz => ?_, ?_, rfl⟩
        · rw [List.map_append]
          refine (DnL.mono ((((g2.g.trans q4.g).trans up5).trans q6.g).trans (q7.g.trans g8.g)) _ nw).snoc ?_
          exact .tup upd_same (.cons (Dn.mono (q7.g.trans g8.g) _ nch) (.cons (.int _) .nil))
        · rcases List.mem_append.mp hz with hz | hz
          · exact each z hz
          · rw [List.mem_singleton.mp hz]
            exact okc
        · rw [List.length_append, len]
          rfl
    · obtain ⟨Gi, xs, ws, a4, a5, a6, a7, gs, row, hw, nw, each, len, rfl⟩ := pv
      have hlw0 : H lw = none := hlw
      have gc := gs.close hlw0 hw (by simp [nlw])
      have stc := gc.row (by simp) row sr
      have up : Ex Gi (upd Gi lw (.lst xs)) := Ex.new (gs.n lw (by simp))
      have dnw : Dn (upd Gi lw (.lst xs)) (.ref lw) (.list (ws.map Wish.d)) := .lst upd_same (DnL.mono up _ nw)
      have ncc : Dn (upd Gi lw (.lst xs)) vc (Cat.d t) := Dn.mono (gs.g.trans up) _ nc
      generalize upd Gi lw (.lst xs) = Gc at gc stc dnw ncc
      dsimp only
      refine go_ret (go_tup (go_cons (go_var rfl (go_cons ?_))))
      refine evr_pick (ds := strL t.rs) rfl (evd_cb (ea_cons (evd_op (evd_at ncc) (evd_int (i := ((1 : Nat) : Int))) (r_ixT rfl)) ea_nil) r_listT) (by rw [strL_len]; omega) (by rw [strL_len]; omega) stc fun vr d G2 H2 hd nd q2 => ?_
      obtain ⟨rg, hrg, rfl⟩ := List.mem_map.mp hd
      refine go_cons ?_
      refine (evd_cb (ea_cons (evd_at (Dn.mono q2.g _ dnw)) ea_nil) r_tupL : EvD _ _ G2 (.tuple (ws.map Wish.d))) H2 q2.st.s _ fun vt G3 H3 g3 n3 => go_cons ?_
      have q3 := Gq.of q2.st g3
      refine evr_taken (m := 10) rfl evd_int (by decide) (by decide) q3.st fun b G4 H4 ltb q4 => go_cons ?_
      refine evr_taken (m := 9) rfl evd_int (by decide) (by decide) q4.st fun wo G5 H5 lto q5 => go_nil ⟨Evl.sz_of (by show 5 ≤ 100000; decide), fun pt hpt => ?_⟩
      have s25 := ((q2.trans stc q3).trans stc q4).trans stc q5
      have gfin := ((gc.stepQ (by simp) s25).step (Gr.new (o := .tup [.str x, vr, vt, .int (b : Nat), .int (wo : Nat)]) q5.st.s hpt)).q (RowAt.gr q5.st.row (Gr.new q5.st.s hpt)) sr
      have un := Ex.new (o := .tup [.str x, vr, vt, .int (b : Nat), .int (wo : Nat)]) (Evl.fresh_back q5.st.s hpt)
      refine q _ ⟨x, rg, ws, (b : Nat), (wo : Nat)⟩ _ _ ⟨hx, hrg, by show 1 ≤ ws.length; omega, by show ws.length ≤ 3; omega, fun y hy => (each y hy).1, by show (0 : Int) ≤ (b : Nat); omega, by show ((b : Nat) : Int) ≤ 60; omega, by show (0 : Int) ≤ (wo : Nat); omega, by show ((wo : Nat) : Int) ≤ 999; omega⟩ rfl ⟨by show ws.length ≤ 2; omega, fun y hy => (each y hy).2, by show ((b : Nat) : Int) ≤ 9; omega, by show ((wo : Nat) : Int) ≤ 8; omega⟩ ?_ gfin
      exact .tup upd_same (.cons (.str x) (.cons (Dn.mono (((g3.g.trans q4.g).trans q5.g).trans un) _ nd) (.cons (Dn.mono ((q4.g.trans q5.g).trans un) _ n3) (.cons (.int _) (.cons (.int _) .nil)))))
end
end Sh

set_option Elab.async false
set_option linter.all false
set_option maxRecDepth 100000
set_option maxHeartbeats 4000000
/-! the law: _law_alike of twice the same -/
namespace Sh
open PySem PySem.Spec L2
open PyProof.Rows hiding St
open Evl (Ex)
section
variable {P : Program} {w : World} {K : PySem.W.Frag} {mg : Str → Option Value} {base : Heap}
/-- rows of rows of numbers and texts -/
def okA : Nat → D → Bool
  | _, .int _ => true
  | _, .str _ => true
  | k + 1, .tuple ds => decide (ds.length ≤ 1000) && ds.all (okA k)
  | _, _ => false
abbrev s__law_alike : Stmt := topS 50
theorem sc__law_alike : FnScope ["found", "due", "k"] ["found", "due"] (defScope s__law_alike) := ⟨rfl, rfl, rfl, by decide +kernel, rfl, by decide +kernel, by decide +kernel⟩
def domAlike (k : Nat) (ds : List D) (c : D) : Prop := ∃ d, ds = [d, d] ∧ okA k d = true ∧ c = .bool true
theorem keeps_never {x : Str} {st : Stmt} {ps : List Str} (S : Stands K mg x st ps) : Keeps P w K mg base CX0 0 x ps (spD fun _ _ => False) := by
  obtain ⟨f, fd, F, hm, hb⟩ := S
  exact ⟨f, fd, ⟨fun _ _ _ _ ⟨_, _, _, _, _, h, _⟩ => h.elim, fun _ _ _ _ _ _ _ _ _ _ _ _ _ ⟨_, _, _, _, _, h, _⟩ => h.elim⟩, hm, F.kp, hb⟩
theorem keeps_alikeS (B : Bi mg) (S : Stands K mg "_law_alike" s__law_alike ["found", "due"]) {k : Nat} {dom : List D → D → Prop} (K__law_alike : Keeps P w K mg base CX0 k "_law_alike" ["found", "due"] (spD dom)) (hd : ∀ ds, okA k (.tuple ds) = true → ∀ d ∈ ds, dom [d, d] (.bool true)) :
    Keeps P w K mg base CX0 (k + 1) "_law_alike" ["found", "due"] (spD (domAlike k)) := by
  refine keeps_of S sc__law_alike (fun ds c h => ?_) (fun f cdv A outer s H E hr => ⟨_, (pss_cons (ps_if (pt_val (pe_callB call_isiT rfl B.isinstance bi_isinstance (pa_cons (pv 1) (pa_cons (pe_tup (pa_cons (pe_ty B.tuple bi_tuple) (pa_cons (pe_ty B.list bi_list) pa_nil))) pa_nil)))) (pss_cons (ps_if (PW.pt (pw_or (pt_not (pt_val (pe_callB call_isiT rfl B.isinstance bi_isinstance (pa_cons (pv 0) (pa_cons (pe_tup (pa_cons (pe_ty B.tuple bi_tuple) (pa_cons (pe_ty B.list bi_list) pa_nil))) pa_nil))))) (pw_or1 (pt_cmpR op_ne (pe_callB call_isi rfl B.isinstance bi_isinstance (pa_cons (pv 0) (pa_cons (pe_ty B.list bi_list) pa_nil))) (pe_callB call_isi rfl B.isinstance bi_isinstance (pa_cons (pv 1) (pa_cons (pe_ty B.list bi_list) pa_nil))) (nomark _))))) (pss_one (ps_ret pe_bl)) pss_nil)
    (pss_cons (ps_if (pt_cmpR op_ne (pe_callB call_len rfl B.len bi_len (pa_cons (pv 0) pa_nil)) (pe_callB call_len rfl B.len bi_len (pa_cons (pv 1) pa_nil)) (nomark _)) (pss_one (ps_ret pe_bl)) pss_nil)
    (pss_one (ps_ret (pe_cmpR (op_eqD hr.units) (pe_lc (own := [("k", 2)]) (g := gName 2) rfl sc__law_alike.nd (pi_range1 rfl B.range (pa_cons (pe_callB call_len rfl B.len bi_len (pa_cons (pv 1) pa_nil)) pa_nil)) (blkOk_by (N := ["found", "due", "k"]) (sc := defScope s__law_alike) (by decide +kernel)) (fun _ _ _ _ _ => (pg_name (i := 2) sc__law_alike.nd rfl (.inl rfl))) (fun _ _ _ _ _ => pts_one (pt_not (pt_val (pe_callD K__law_alike (hr.mono (by omega)) (pa_cons (pe_ix (r := rIxT K) ix_tup (pv 0) (pv 2) (fun _ _ => rfl)) (pa_cons (pe_ix (r := rIxT K) ix_tup (pv 1) (pv 2) (fun _ _ => rfl)) pa_nil)))))) (fun _ _ _ _ _ => (pv 2))) (pe_lst pa_nil) (nomark _)))))) pss_nil)
    (pss_cons (ps_if (PW.pt (pw_or (pt_cmpR op_isN (pv 1) pe_non (nomark _)) (pw_or1 (pt_val (pe_callB call_isi rfl B.isinstance bi_isinstance (pa_cons (pv 1) (pa_cons (pe_ty B.str bi_str) pa_nil))))))) (pss_one (ps_ret (pe_and (pe_cmpR op_eq (pv 0) (pv 1) (nomark _)) (pe_one (pe_cmpR op_eq (pe_callB call_isi rfl B.isinstance bi_isinstance (pa_cons (pv 0) (pa_cons (pe_ty B.str bi_str) pa_nil))) (pe_callB call_isi rfl B.isinstance bi_isinstance (pa_cons (pv 1) (pa_cons (pe_ty B.str bi_str) pa_nil))) (nomark _)))))) pss_nil)
    (pss_one (ps_ret (pe_and (pe_callB call_isi rfl B.isinstance bi_isinstance (pa_cons (pv 0) (pa_cons (pe_ty B.int bi_int) pa_nil))) (pe_and (pe_cmpR op_eq (pe_callB call_isi rfl B.isinstance bi_isinstance (pa_cons (pv 0) (pa_cons (pe_ty B.bool bi_bool) pa_nil))) (pe_callB call_isi rfl B.isinstance bi_isinstance (pa_cons (pv 1) (pa_cons (pe_ty B.bool bi_bool) pa_nil))) (nomark _)) (pe_one (pe_cmpR op_eq (pv 0) (pv 1) (nomark _))))))))), fun ds c vs G h n => ?_⟩)
  · obtain ⟨d, rfl, _⟩ := h
    rfl
  · obtain ⟨d, rfl, ok, rfl⟩ := h
    obtain ⟨v, v1, rfl, n0, n1⟩ := dn2 n
    have two := evt_B (evd_isi2 (K := K) (evd_at (σ := start ["found", "due", "k"] [v, v1]) (i := 1) n1) (kit_tuple d) (kit_list d))
    have twoF := evt_B (evd_isi2 (K := K) (evd_at (σ := start ["found", "due", "k"] [v, v1]) (i := 0) n0) (kit_tuple d) (kit_list d))
    have isT : ∀ T d, isK T d = isS T (tyD d) := fun _ _ => rfl
    cases d with
    | none => cases k <;> cases ok
    | bool b => cases k <;> cases ok
    | list ds => cases k <;> cases ok
    | dict ps => cases k <;> cases ok
    | int i =>
      refine evs_if (b := false) (evt_is two (by decide +kernel : (isS "tuple" "int" || isS "list" "int") = false)) (fun h => nomatch h) (fun _ => ?_)
      refine evs_if (b := false) (evt_or (a := false) (evt_test (evd_op (evd_at n1) evd_non (r_isN (b := false) rfl))) (fun _ => evt_is (evt_B (evd_isi (evd_at n1) (kit_str _))) (by decide +kernel : isS "str" "int" = false))) (fun h => nomatch h) (fun _ => ?_)
      refine evs_ret (evd_is (evd_and (a := true) (evd_is (evd_isi (evd_at n0) (kit_int _)) (congrArg PyData.bool (by decide +kernel : isS "int" "int" = true))) (fun _ => evd_and (a := true) (evd_op (evd_is (evd_isi (evd_at n0) (kit_bool _)) (congrArg PyData.bool (by decide +kernel : isS "bool" "int" = false))) (evd_is (evd_isi (evd_at n1) (kit_bool _)) (congrArg PyData.bool (by decide +kernel : isS "bool" "int" = false))) (r_eq rfl)) (fun _ => evd_op (c := .bool true) (evd_at n0) (evd_at n1) (r_eq ?_)))) rfl)
      show some (decide (i = i)) = some true
      rw [decide_eq_true rfl]
    | str x =>
      refine evs_if (b := false) (evt_is two (by decide +kernel : (isS "tuple" "str" || isS "list" "str") = false)) (fun h => nomatch h) (fun _ => ?_)
      refine evs_if (b := true) (evt_or (a := false) (evt_test (evd_op (evd_at n1) evd_non (r_isN (b := false) rfl))) (fun _ => evt_is (evt_B (evd_isi (evd_at n1) (kit_str _))) (by decide +kernel : isS "str" "str" = true))) (fun _ => ?_) (fun h => nomatch h)
      refine evs_ret (evd_is (evd_and (a := true) (evd_op (evd_at n0) (evd_at n1) (r_eq ?_)) (fun _ => evd_op (evd_is (evd_isi (evd_at n0) (kit_str _)) (congrArg PyData.bool (by decide +kernel : isS "str" "str" = true))) (evd_is (evd_isi (evd_at n1) (kit_str _)) (congrArg PyData.bool (by decide +kernel : isS "str" "str" = true))) (r_eq rfl))) rfl)
      show some (decide (x = x)) = some true
      rw [decide_eq_true rfl]
    | tuple ds =>
      have each := hd ds ok
      have few : ds.length ≤ 1000 := by
        cases k with
        | zero => cases ok
        | succ k =>
          have z : (decide (ds.length ≤ 1000) && ds.all (okA k)) = true := ok
          rw [Bool.and_eq_true] at z
          exact of_decide_eq_true z.1
      refine evs_if (b := true) (evt_is two (by decide +kernel : (isS "tuple" "tuple" || isS "list" "tuple") = true)) (fun _ => ?_) (fun h => nomatch h)
      refine evs_if (b := false) (evt_or (a := false) (b := false) (evt_not (b := true) (evt_is twoF (by decide +kernel : (isS "tuple" "tuple" || isS "list" "tuple") = true))) (fun _ => evt_test (evd_op (evd_is (evd_isi (evd_at n0) (kit_list _)) (congrArg PyData.bool (by decide +kernel : isS "list" "tuple" = false))) (evd_is (evd_isi (evd_at n1) (kit_list _)) (congrArg PyData.bool (by decide +kernel : isS "list" "tuple" = false))) (r_ne (b := true) rfl)))) (fun h => nomatch h) (fun _ => ?_)
      refine evs_if (b := false) (evt_test (evd_op (evd_cb (ea_cons (evd_at n0) ea_nil) (r_lenT rfl)) (evd_cb (ea_cons (evd_at n1) ea_nil) (r_lenT rfl)) (r_ne (b := true) ?_))) (fun h => nomatch h) (fun _ => ?_)
      · show some (decide ((ds.length : Int) = (ds.length : Int))) = some true
        rw [decide_eq_true rfl]
      · refine evs_ret (evd_op (evd_is (d' := .list []) (evd_lcNF (f := fun _ => false) (r := id) (ei_range (n := ds.length) (ea_cons (evd_cb (ea_cons (evd_at n1) ea_nil) (r_lenT rfl)) ea_nil) (by omega)) ?_ (fun x => rfl) (fun d hd y G1 e ny => ?_) (fun _ _ z => nomatch z)) ?_) (evd_lst ea_nil (by show 0 ≤ 100000; decide)) (r_eqD rfl rfl (by decide +kernel) (by decide +kernel) (by decide +kernel)))
        · unfold upTo
          rw [List.length_map, List.length_range]
          omega
        · unfold upTo at hd
          obtain ⟨i, hi, rfl⟩ := List.mem_map.mp hd
          have lt : i < ds.length := List.mem_range.mp hi
          exact evt_not (b := true) (evt_B (evd_call (ea_cons (evd_op (evd_at n0) (evd_at ny) (r_ixT (List.getElem?_eq_getElem lt))) (ea_cons (evd_op (evd_at n1) (evd_at ny) (r_ixT (List.getElem?_eq_getElem lt))) ea_nil)) (each _ (List.getElem_mem lt))))
        · rw [filter_no]
          rfl
/-- on data of depth k -/
theorem keeps_alike (B : Bi mg) (S : Stands K mg "_law_alike" s__law_alike ["found", "due"]) : ∀ k, Keeps P w K mg base CX0 (k + 1) "_law_alike" ["found", "due"] (spD (domAlike k))
  | 0 => keeps_alikeS B S (keeps_never S) (fun ds h => nomatch h)
  | k + 1 => keeps_alikeS B S (keeps_alike B S k) (fun ds h d hd => by
    have z : (decide (ds.length ≤ 1000) && ds.all (okA k)) = true := h
    rw [Bool.and_eq_true, List.all_eq_true] at z
    exact ⟨d, rfl, z.2 d hd, rfl⟩)
end
end Sh

set_option Elab.async false
set_option linter.all false
set_option maxRecDepth 100000
set_option maxHeartbeats 4000000
/-! rows of arguments with draws; lists built with draws -/
namespace Sh
open PySem PySem.Spec L2
open PyProof.Rows hiding St
open Evl (Ex)
section
variable {K : PySem.W.Frag} {σ : L2.St} {G : Hp} {te ta tb : TE} {ar : TA} {t u : TS} {tt : TT} {d e : D} {r sc p : Addr} {P : D → Prop}
def EvRA (K : PySem.W.Frag) (r sc : Addr) (ta : TA) (σ : L2.St) (G : Hp) (P : List D → Prop) : Prop := ∀ H, RowSt K r sc G H → ∀ Q : List V → Hp → Prop, (∀ vs ds G2 H2, P ds → Gq K r sc G H G2 H2 → DnL G2 vs ds → Q vs H2) → ta σ H Q
theorem evra_nil : EvRA K r sc tNil σ G (fun ds => ds = []) := fun H st Q q => q [] [] G H rfl (Gq.refl st) .nil
theorem evra_cons {P1 : D → Prop} {P2 : D → List D → Prop} (h : EvR K r sc te σ G P1) (k : ∀ d G2, P1 d → Ex G G2 → EvRA K r sc ar σ G2 (P2 d)) : EvRA K r sc (tCons te ar) σ G (fun ds => ∃ d es, ds = d :: es ∧ P1 d ∧ P2 d es) := fun H st Q q =>
  h H st _ fun v d G2 H2 p1 g n => k d G2 p1 g.g H2 g.st _ fun vs es G3 H3 p2 g2 n2 => q _ _ G3 H3 ⟨d, es, rfl, p1, p2⟩ (g.trans st g2) (.cons (Dn.mono g2.g _ n) n2)
theorem EvRA.imp {P P' : List D → Prop} (h : EvRA K r sc ar σ G P) (k : ∀ ds, P ds → P' ds) : EvRA K r sc ar σ G P' := fun H st Q q => h H st Q fun v ds G2 H2 p g n => q v ds G2 H2 (k ds p) g n
theorem evr_tup {P : List D → Prop} (h : EvRA K r sc ar σ G P) (hl : ∀ ds, P ds → ds.length ≤ 100000) : EvR K r sc (tTup ar) σ G (fun d => ∃ ds, d = .tuple ds ∧ P ds) := fun H st Q q =>
  h H st _ fun vs ds G2 H2 p g n => ⟨Evl.sz_of (by rw [n.length]; exact hl ds p), fun l hl => q _ (.tuple ds) (upd G2 l (.tup vs)) _ ⟨ds, rfl, p⟩ (g.trans st (Gq.of g.st (Gr.new g.st.s hl))) (.tup upd_same (DnL.mono (Ex.new (Evl.fresh_back g.st.s hl)) ds n))⟩
theorem evr_lst {P : List D → Prop} (h : EvRA K r sc ar σ G P) (hl : ∀ ds, P ds → ds.length ≤ 100000) : EvR K r sc (tLst ar) σ G (fun d => ∃ ds, d = .list ds ∧ P ds) := fun H st Q q =>
  h H st _ fun vs ds G2 H2 p g n => ⟨Evl.sz_of (by rw [n.length]; exact hl ds p), fun l hl => q _ (.list ds) (upd G2 l (.lst vs)) _ ⟨ds, rfl, p⟩ (g.trans st (Gq.of g.st (Gr.new g.st.s hl))) (.lst upd_same (DnL.mono (Ex.new (Evl.fresh_back g.st.s hl)) ds n))⟩
theorem evl_parR {i j : Nat} {P : List D → Prop} (h : EvRA K r sc ar σ G P) (hp : ∀ ds, P ds → ds.length = 2) (k : ∀ x y d e G2, P [d, e] → Ex G G2 → Dn G2 x d → Dn G2 y e → EvL K r sc u ((σ.set i (some x)).set j (some y)) G2) : EvL K r sc (tSeq (tPar i j ar) u) σ G := fun H st E q =>
  go_parS (h H st _ fun vs ds G2 H2 p g n => by
    have l := hp ds p
    match ds, l with
    | [d, e], _ =>
      obtain ⟨x, y, rfl, n1, n2⟩ := two_of n
      exact ⟨x, y, rfl, k x y d e G2 p g.g n1 n2 H2 g.st E q⟩)
theorem EvN.imp {B B' : Hp → L2.St → Prop} (h : EvN t σ G B) (k : ∀ G2 σ2, Ex G G2 → B G2 σ2 → B' G2 σ2) : EvN t σ G B' := fun H e E q => h H e E fun σ2 G2 H2 g b => q σ2 G2 H2 g (k G2 σ2 g.g b)
/-- a block that appends one thing, with draws -/
def EvApR (K : PySem.W.Frag) (r sc p : Addr) (t : TS) (σ : L2.St) (G : Hp) (P : D → Prop) (B : Hp → L2.St → Prop) : Prop := ∀ H xs, RowSt K r sc G H → G p = none → p ≠ r → H p = some (.lst xs) → xs.length ≤ 90000 → ∀ E : Ends, (∀ σ2 v d G2 H2, P d → Gq K r sc G H G2 H2 → Dn G2 v d → B G2 σ2 → E.nx σ2 (upd H2 p (.lst (xs ++ [v])))) → t E σ H
theorem evapr_set {i : Nat} {P1 P : D → Prop} {B : Hp → L2.St → Prop} (h : EvR K r sc te σ G P1) (k : ∀ v d G2, P1 d → Ex G G2 → Dn G2 v d → EvApR K r sc p u (σ.set i (some v)) G2 P B) : EvApR K r sc p (tSeq (tAsg te (gName i)) u) σ G P B := fun H xs st np ne hp hz E q =>
  h H st _ fun v d G2 H2 p1 g n => k v d G2 p1 g.g n H2 xs g.st (g.f p np (by rw [hp]; intro z; cases z)) ne (g.h _ _ ne hp) hz E fun σ2 v2 d2 G3 H3 p2 g2 n2 b => q σ2 v2 d2 G3 H3 p2 (g.trans st g2) n2 b
theorem evapr_app {i : Nat} {P : D → Prop} {B : Hp → L2.St → Prop} (hs : σ[i]? = some (some (.ref p))) (h : EvR K r sc te σ G P) (hb : ∀ G2, Ex G G2 → B G2 σ) : EvApR K r sc p (tDrop (tBM K "list" rAppend (tVar i) (tCons te tNil))) σ G P B := fun H xs st np ne hp hz E q => by
  refine go_drop (go_bm (go_var hs ⟨.inl ⟨rfl, _, .inl (.inl hp)⟩, go_cons (h H st _ fun v d G2 H2 p1 g n => go_nil ?_)⟩))
  exact app_at (g.h _ _ ne hp) hz (q σ v d G2 H2 p1 g n (hb G2 g.g))
theorem buildR_at {wi : TI} {g : TG} {ds : List D} {P : Nat → D → Prop} {I : Nat → Hp → L2.St → Prop} {C : D → Hp → L2.St → L2.St → Prop} {G0 H0 H : Hp} {E : Ends} (gs : Gs [p, r] G0 H0 G H) (ne : p ≠ r) (hp0 : H0 p = none) (hp : H p = some (.lst [])) (row : RowAt r sc H) (sr : ∃ ns : List Int, SqL K G0 sc (ns.map V.int)) (few : ds.length ≤ 90000) (hi : EvI wi σ G ds)
    (mono : ∀ i G1 G2 σ', Ex G1 G2 → I i G1 σ' → I i G2 σ') (h0 : I 0 G σ)
    (hg : ∀ j d σ' G1, ds[j]? = some d → Ex G G1 → I j G1 σ' → EvG g σ' G1 d fun G2 σ2 => C d G2 σ' σ2)
    (hb : ∀ j d σ' σ2 G1, ds[j]? = some d → Ex G G1 → I j G1 σ' → C d G1 σ' σ2 → EvApR K r sc p t σ2 G1 (P j) (I (j + 1)))
    (k : ∀ σ2 G2 H2 es, Gq K r sc G0 H0 G2 H2 → Ex G G2 → es.length = ds.length → (∀ j e, es[j]? = some e → P j e) → I ds.length G2 σ2 → Dn G2 (.ref p) (.list es) → E.nx σ2 H2) : tFor wi g t E σ H := by
  refine for_data (G := G) hi gs.s (fun G1 H1 j σ' H' => ∃ Gi xs es, Ex G Gi ∧ Ex G1 Gi ∧ Gs [p, r] G0 H0 Gi H' ∧ RowAt r sc H' ∧ H' p = some (.lst xs) ∧ DnL Gi xs es ∧ es.length = j ∧ (∀ j e, es[j]? = some e → P j e) ∧ I j Gi σ') (fun G1 H1 j σ' H' ⟨Gi, xs, es, _, x, gm, _⟩ => x.trans gm.s) (fun G1 H1 g1 => ?_) (fun G1 H1 j d x σ' H' G2 H2 g1 hd pv g2 nx => ?_) (fun G1 H1 σ' H' g1 pv => ?_)
  · exact ⟨G1, [], [], g1.g, Ex.refl _, gs.step g1, row.gr g1, g1.h _ _ hp, .nil, rfl, (fun j e h => by simp at h), mono 0 G G1 _ g1.g h0⟩
  · obtain ⟨Gi, xs, es, x0, x1, gm, row, hpi, m, le, each, hI⟩ := pv
    obtain ⟨G3, e23, g3⟩ := grow_up x1 gm.s g2
    have gm3 := gm.step g3
    have row3 := row.gr g3
    have hp3 := g3.h _ _ hpi
    have hI3 := mono j Gi G3 σ' g3.g hI
    have x03 := x0.trans g3.g
    refine hg j d σ' G3 hd x03 hI3 x H2 gm3.s (Dn.mono e23 _ nx) _ fun σ2 hc => ?_
    have ln : xs.length = j := by rw [m.length, le]
    have lt := (List.getElem?_eq_some_iff.mp hd).1
    refine hb j d σ' σ2 G3 hd x03 hI3 hc H2 xs (gm3.row (by simp) row3 sr) (gm3.n p (by simp)) ne hp3 (by omega) _ fun σ3 v dd G4 H4 pd g4 m4 b4 => ?_
    have gm4 := gm3.stepQ (by simp) g4
    refine ⟨G4, xs ++ [v], es ++ [dd], x03.trans g4.g, x1.trans (g3.g.trans g4.g), gm4.put (by simp), RowAt.put g4.at ne, upd_same, (DnL.mono (g3.g.trans g4.g) _ m).snoc m4, by rw [List.length_append, le]; rfl, fun i e h => ?_, b4⟩
    by_cases hi : i < es.length
    · rw [List.getElem?_append_left hi] at h
      exact each i e h
    · have li := (List.getElem?_eq_some_iff.mp h).1
      rw [List.length_append, List.length_singleton] at li
      have ei : i = es.length := by omega
      subst ei
      rw [List.getElem?_append_right (Nat.le_refl _), Nat.sub_self] at h
      cases h
      rw [le]
      exact pd
  · obtain ⟨Gi, xs, es, x0, x1, gm, row, hpi, m, le, each, hI⟩ := pv
    have gm2 : Gs [r] G0 H0 (upd Gi p (.lst xs)) H' := gm.close hp0 hpi (by simp [ne])
    have up : Ex Gi (upd Gi p (.lst xs)) := Ex.new (gm.n p (by simp))
    exact k σ' (upd Gi p (.lst xs)) H' es (gm2.q row sr) (x0.trans up) le each (mono _ Gi _ σ' up hI) (.lst upd_same (DnL.mono up _ m))
theorem DnL.drop {G : Hp} : ∀ {ds : List D} {vs : List V} (j : Nat), DnL G vs ds → DnL G (vs.drop j) (ds.drop j)
  | [], _, j, h => by
    cases h
    simp
    exact .nil
  | d :: ds, _, 0, h => h
  | d :: ds, _, j + 1, h => by
    cases h with
    | cons h1 h2 => exact DnL.drop j h2
/-- t[n:] of a tuple -/
theorem evd_fromT {ds : List D} {n : Nat} (h : EvD te σ G (.tuple ds)) (k : EvD tb σ G (.int (n : Nat))) : EvD (tSl (rSlA K) te (tPart tb) tNoPart) σ G (.tuple (ds.drop n)) := fun H e Q q =>
  h H e _ fun v G2 H2 g m => k.mono g.g H2 g.s _ fun u G3 H3 g2 m2 => by
    cases m2
    have m3 := Dn.mono g2.g _ m
    have gg := g.trans g2
    cases m3 with
    | tup h1 h2 =>
      rename_i a xs
      have len := h2.length
      refine ⟨_, rfl, a, xs, rfl, .inl (rdx gg.s h1), fun hw => ?_, fun hw p hp => ?_⟩
      · rw [HT.sIx_nat] at hw
        refine q _ G3 H3 gg ?_
        by_cases hn : n = 0
        · subst hn
          exact .tup h1 h2
        · have : xs.length = 0 := by omega
          rw [List.drop_of_length_le (by omega)]
          have e1 : ds = [] := List.length_eq_zero_iff.mp (by omega)
          rw [e1] at h2
          exact .tup h1 h2
      · have e1 : cutV xs (some (n : Nat)) none = xs.drop n := by
          unfold cutV
          rw [HT.sIx_none, HT.sIx_nat]
          by_cases hn : n ≤ xs.length
          · rw [Nat.min_eq_left hn, List.take_of_length_le (by rw [List.length_drop]; omega)]
          · rw [Nat.min_eq_right (by omega), Nat.sub_self, List.take_zero, List.drop_of_length_le (by omega)]
        rw [e1]
        exact q _ (upd G3 p (.tup (xs.drop n))) _ (gg.trans (Gr.new gg.s hp)) (.tup upd_same (DnL.mono (Ex.new (Evl.fresh_back gg.s hp)) _ (DnL.drop n h2)))
theorem merge_new : ∀ {more acc : List (Key × V)} {xs ys : List Str}, keysAre more ys → keysAre acc xs → (xs ++ ys).Nodup → mergeK acc more = acc ++ more
  | [], acc, _, _, _, _, _ => (List.append_nil _).symm
  | (k, v) :: more, acc, xs, ys, h1, h2, nd => by
    cases ys with
    | nil => cases h1
    | cons y ys =>
      have e : k = .inr y ∧ more.map (·.1) = ys.map Sum.inr := by
        unfold keysAre at h1
        rw [List.map_cons, List.map_cons] at h1
        exact ⟨(List.cons.inj h1).1, (List.cons.inj h1).2⟩
      obtain ⟨rfl, e2⟩ := e
      have new : y ∉ xs := fun m => (List.nodup_append.mp nd).2.2 y m y List.mem_cons_self rfl
      show mergeK (putK acc (.inr y) v) more = _
      rw [putK_snoc h2 new, merge_new (xs := xs ++ [y]) (ys := ys) e2 (by unfold keysAre at h2 ⊢; rw [List.map_append, List.map_append, h2]; rfl) (by rw [List.append_assoc]; exact nd), List.append_assoc]
      rfl
theorem pairs_dn {G H : Hp} (e : Ex G H) : ∀ {es : List (Str × D)} {vs : List V}, DnL G vs (es.map fun p => .tuple [.str p.1, p.2]) → ∃ (ps : List Addr) (kvs : List (Key × V)), vs = ps.map V.ref ∧ Paired (fun p kv => SqT K H p [kV kv.1, kv.2]) ps kvs ∧ DnK G kvs (es.map fun p => (.str p.1, p.2)) ∧ keysAre kvs (es.map (·.1))
  | [], _, h => by
    cases h
    exact ⟨[], [], rfl, .nil, .nil, rfl⟩
  | p :: es, _, h => by
    cases h with
    | cons h1 h2 =>
      obtain ⟨ps, kvs, rfl, q1, q2, q3⟩ := pairs_dn e h2
      cases h1 with
      | tup g1 m1 =>
        rename_i a us
        obtain ⟨x, y, rfl, n1, n2⟩ := two_of m1
        cases n1
        refine ⟨a :: ps, (.inr p.1, y) :: kvs, rfl, .cons (.inl (rdx e g1)) q1, .cons n2 q2, ?_⟩
        unfold keysAre at q3 ⊢
        rw [List.map_cons, List.map_cons, List.map_cons, q3]
theorem r_dictP {es : List (Str × D)} (nd : (es.map (·.1)).Nodup) : RCD (fun xs H Q => ∃ (a : Addr) (ps : List Addr) (kvs : List (Key × V)), xs = [.ref a] ∧ SqL K H a (ps.map V.ref) ∧ Paired (fun p kv => SqT K H p [kV kv.1, kv.2]) ps kvs ∧
    ∀ p, H p = none → Q (.ref p) (upd H p (.dK (mergeK [] kvs)))) [.list (es.map fun p => .tuple [.str p.1, p.2])] (.dict (es.map fun p => (.str p.1, p.2))) G := fun G1 H vs _ ex h Q q => by
  obtain ⟨v, rfl, n⟩ := one_of h
  cases n with
  | lst h1 h2 =>
    obtain ⟨ps, kvs, rfl, q1, q2, q3⟩ := pairs_dn (K := K) ex h2
    refine ⟨_, ps, kvs, rfl, .inl (.inl (ex _ _ h1)), q1, fun p hp => ?_⟩
    rw [merge_new (acc := []) (xs := []) q3 rfl nd, List.nil_append]
    exact q _ (upd G1 p (.dK kvs)) _ (Gr.new ex hp) (.dct upd_same (DnK.mono (Ex.new (Evl.fresh_back ex hp)) _ q2))
def spLaw (K : PySem.W.Frag) : Sp := fun vs H Q _ => ∃ sc ns, vs = [.ref sc] ∧ SqL K H sc ((ns : List Int).map V.int) ∧ ∀ H2, Q (.bl true) H2
theorem evl_go {t : TS} {H : Hp} {Q : VK} (h : EvL K r sc t σ G) (st : RowSt K r sc G H) (q : ∀ H2, Q (.bl true) H2) : t { nx := fun _ H' => Q .non H', rt := Q } σ H := h H st _ q
end
end Sh

set_option Elab.async false
set_option linter.all false
set_option maxRecDepth 100000
set_option maxHeartbeats 4000000
/-! the law: prices drawn -/
namespace Sh
open PySem PySem.Spec L2
open PyProof.Rows hiding St
open Evl (Ex)
theorem prices_of {its : List Str} : ∀ {es : List D}, es.length = its.length → (∀ (j : Nat) (e : D), es[j]? = some e → ∃ p : Pr, e = Pr.d p ∧ PrOk p ∧ its[j]? = some p.it) → ∃ ps : List Pr, es = ps.map Pr.d ∧ PricesOk its ps := by
  induction its with
  | nil =>
    intro es h _
    rw [List.length_eq_zero_iff.mp h]
    exact ⟨[], rfl, fun p hp => (nomatch hp), rfl⟩
  | cons i its ih =>
    intro es h k
    cases es with
    | nil => cases h
    | cons e es =>
      obtain ⟨p, e1, e2, e3⟩ := k 0 e rfl
      obtain ⟨ps, h1, h2⟩ := ih (es := es) (Nat.succ.inj h) fun j e he => k (j + 1) e he
      have e3 : some i = some p.it := e3
      refine ⟨p :: ps, by rw [h1, e1]; rfl, fun q hq => ?_, ?_⟩
      · rcases List.mem_cons.mp hq with rfl | hq
        · exact e2
        · exact h2.each q hq
      · rw [List.map_cons, h2.its, Option.some.inj e3]
def spPrices (K : PySem.W.Frag) : Sp := fun vs H Q _ => ∃ r sc G vc t, vs = [.ref r, vc] ∧ RowSt K r sc G H ∧ Dn G vc (Cat.d t) ∧ CatOk t ∧ ∀ v ps G2 H2, PricesOk t.its ps → Dn G2 v (.tuple (ps.map Pr.d)) → Gq K r sc G H G2 H2 → Q v H2
section
variable {P : Program} {w : World} {K : PySem.W.Frag} {mg : Str → Option Value} {base : Heap}
abbrev s__law_bill_prices : Stmt := topS 53
theorem sc__law_bill_prices : FnScope ["row", "catalog", "found", "item", "cents"] ["row", "catalog"] (defScope s__law_bill_prices) := ⟨rfl, rfl, rfl, by decide +kernel, rfl, by decide +kernel, by decide +kernel⟩
def ratesL : List D := [(PyData.int 0), (PyData.int 70), (PyData.int 190), (PyData.int 333)]
theorem rates_all : ∀ x ∈ ratesL, ∃ q : Int, x = .int q ∧ 0 ≤ q ∧ q ≤ 999 := fun x hx => by
  unfold ratesL at hx
  simp only [List.mem_cons, List.not_mem_nil, or_false] at hx
  rcases hx with rfl | rfl | rfl | rfl
  all_goals exact ⟨_, rfl, by decide, by decide⟩
theorem keeps_drawPrices (B : Bi mg) (S : Stands K mg "_law_bill_prices" s__law_bill_prices ["row", "catalog"]) (K__law_taken : Keeps P w K mg base CX0 1 "_law_taken" ["row", "many"] (spTaken K)) (K__law_pick : Keeps P w K mg base CX0 2 "_law_pick" ["row", "things"] (spPick K)) :
    Keeps P w K mg base CX0 3 "_law_bill_prices" ["row", "catalog"] (spPrices K) := by
  obtain ⟨f, fd, F, hm, hb⟩ := S
  refine ⟨f, fd, F.ok sc__law_bill_prices (fun vs H Q E h => ?_) (fun cdv A outer s H vs Q E hr h => ?_), hm, F.kp, hb⟩
  · obtain ⟨r, sc, G, vc, t, rfl, _⟩ := h
    rfl
  · obtain ⟨r, sc, G, vc, t, rfl, st, nc, ok, q⟩ := h
    refine ⟨_, (pss_cons (ps_set (i := 2) sc__law_bill_prices.nd rfl (.inl rfl) (pe_lst pa_nil))
    (pss_cons (ps_for PassesOwn.never rfl (pi_tup (pe_ix ix_tup (pv 1) pe_int (fun _ _ => rfl))) (pg_name (i := 3) sc__law_bill_prices.nd rfl (.inl rfl))
      (pss_cons (ps_set (i := 4) sc__law_bill_prices.nd rfl (.inl rfl) (pe_callD K__law_taken (hr.mono (by omega)) (pa_cons (pv 0) (pa_cons (pe_ix ix_list (pe_lst (pa_cons pe_int (pa_cons pe_int pa_nil))) (pe_callD K__law_taken (hr.mono (by omega)) (pa_cons (pv 0) (pa_cons pe_int pa_nil))) (fun _ _ => rfl)) pa_nil))))
    (pss_one (ps_expr (pe_bm PySem.F.plainAttrs_list PySem.F.slot_list_append PySem.F.type_list_append mt_append (pv 2) (pa_cons (pe_tup (pa_cons (pv 3) (pa_cons (pv 4) (pa_cons (pe_callD K__law_pick (hr.mono (by omega)) (pa_cons (pv 0) (pa_cons (pe_lst (pa_cons pe_int (pa_cons pe_int (pa_cons pe_int (pa_cons pe_int pa_nil))))) pa_nil))) pa_nil)))) pa_nil))))))
    (pss_one (ps_ret (pe_callTy call_tuple_of rfl B.tuple bi_tuple (pa_cons (pv 2) pa_nil)))))), ?_⟩
    have hi := ok.its.hi
    refine go_set (go_lst (go_nil ⟨Evl.sz_of (by show 0 ≤ 100000; decide), fun p hp => go_for ?_⟩))
    have ne := st.ne hp
    have gs0 : Gs [p, r] G H G (upd H p (.lst [])) := ((Gq.refl st).gs).new hp
    refine buildR_at (K := K) (sc := sc) (ds := strL t.its) (P := fun j e => ∃ p : Pr, e = Pr.d p ∧ PrOk p ∧ t.its[j]? = some p.it) (I := fun j G1 σ' => ∃ a b, σ' = [some (.ref r), some vc, some (.ref p), a, b]) (C := fun d G1 σ' σ2 => ∃ x, σ2 = σ'.set 3 (some x) ∧ Dn G1 x d) gs0 ne hp upd_same (RowAt.put st.row ne) st.scr (by rw [strL_len]; omega)
      (ei_tup (evd_op (evd_at nc) (evd_int (i := ((2 : Nat) : Int))) (r_ixT rfl))) (fun _ _ _ _ _ h => h) ⟨none, none, rfl⟩ (fun j d σ' G1 hd x1 hI => eg_name) (fun j d σ' σ2 G1 hd x1 hI hC => ?_) (fun σ2 G2 H2 es g x2 le each hI np => ?_)
    · obtain ⟨a, b, rfl⟩ := hI
      obtain ⟨x, rfl, nx⟩ := hC
      obtain ⟨i, hi, rfl⟩ := str_at hd
      cases nx
      refine evapr_set (P1 := fun x => ∃ n : Nat, x = .int (n : Nat) ∧ n < 2000) (evr_tk rfl (evr_op (P1 := fun x => x = .list [.int 5, .int 2000]) (P2 := fun _ x => ∃ n : Nat, x = .int (n : Nat) ∧ n < 2) (evr_d (evd_lst (ea_cons evd_int (ea_cons evd_int ea_nil)) (by show 2 ≤ 100000; decide)) rfl) (fun d G2 p1 x => evr_tk rfl (evr_d evd_int ⟨2, rfl, by decide, by decide, fun v lt => ⟨v, rfl, by omega⟩⟩)) (fun d e p1 p2 G2 => ?_))) (fun v x G2 px x2 n2 => ?_)
      · subst p1
        obtain ⟨n, rfl, lt⟩ := p2
        obtain ⟨m, hm, m0, m1⟩ : ∃ m : Int, ([PyData.int 5, .int 2000] : List D)[n]? = some (.int m) ∧ 0 < m ∧ m ≤ 2000 := by
          match n, lt with
          | 0, _ => exact ⟨_, rfl, by decide, by decide⟩
          | 1, _ => exact ⟨_, rfl, by decide, by decide⟩
        exact ⟨.int m, ⟨m, rfl, m0, by omega, fun v lt => ⟨v, rfl, by omega⟩⟩, r_ixL hm⟩
      · obtain ⟨n, rfl, ltn⟩ := px
        cases n2
        refine evapr_app rfl (EvR.imp (evr_tup (evra_cons (P1 := fun d => d = .str i) (P2 := fun _ ds => ∃ q : Int, ds = [.int (n : Nat), .int q] ∧ 0 ≤ q ∧ q ≤ 999) (evr_d (evd_at (d := .str i) (.str i)) rfl) (fun d G3 p1 x3 => EvRA.imp (evra_cons (P1 := fun d => d = .int (n : Nat)) (P2 := fun _ ds => ∃ q : Int, ds = [.int q] ∧ 0 ≤ q ∧ q ≤ 999) (evr_d (evd_at (d := .int (n : Nat)) (.int _)) rfl) (fun d G4 p2 x4 => EvRA.imp (evra_cons (P2 := fun _ ds => ds = []) (evr_pk rfl (evr_d (evd_lst (ea_cons evd_int (ea_cons evd_int (ea_cons evd_int (ea_cons evd_int ea_nil)))) (by show 4 ≤ 100000; decide)) ⟨ratesL, rfl, by decide, by decide, rates_all⟩)) (fun d G5 p3 x5 => evra_nil)) (fun ds ⟨d, es, e1, ⟨q, e2, q0, q1⟩, e3⟩ => ⟨q, by rw [e1, e2, e3], q0, q1⟩))) (fun ds ⟨d, es, e1, e2, q, e3, q0, q1⟩ => ⟨q, by rw [e1, e2, e3], q0, q1⟩))) (fun ds ⟨d, es, e1, e2, q, e3, _⟩ => by rw [e1, e3]; show 3 ≤ 100000; decide))
          (fun d ⟨ds, e0, d1, es, e1, e2, q, e3, q0, q1⟩ => ⟨⟨i, n, q⟩, by rw [e0, e1, e2, e3]; rfl, ⟨by show (0 : Int) ≤ (n : Nat); omega, by show ((n : Nat) : Int) ≤ 1999; omega, q0, q1⟩, hi⟩)) (fun G3 x3 => ⟨_, _, rfl⟩)
    · obtain ⟨a, b, rfl⟩ := hI
      obtain ⟨ps, e, pok⟩ := prices_of (le.trans (strL_len _)) each
      subst e
      refine go_ret ((evd_cb (ea_cons (evd_at np) ea_nil) r_tupL : EvD _ _ G2 _) H2 g.st.s _ fun v G3 H3 g3 n3 => ?_)
      exact q v ps G3 H3 pok n3 (g.trans st (Gq.of g.st g3))
end
end Sh

set_option Elab.async false
set_option linter.all false
set_option maxRecDepth 100000
set_option maxHeartbeats 4000000
/-! the law: its tries -/
namespace Sh
open PySem PySem.Spec L2
open PyProof.Rows hiding St
open Evl (Ex)
open ShW (rSumK rMinS)
structure LF (G : Hp) (t : Cat) (ps : List Pr) (od : Ord) (ls : List Ln) (vc vp vo vl : V) : Prop where
  tk : CatOk t
  pk : PricesOk t.its ps
  ok : OrdOk t.rs t.its od
  lo : ∀ x ∈ od.ws, x.cnt ≤ 4
  b : BillOk ls
  nc : Dn G vc (Cat.d t)
  np : Dn G vp (.tuple (ps.map Pr.d))
  no : Dn G vo (Ord.d od)
  nl : Dn G vl (.tuple (ls.map Ln.d))
theorem LF.mono {G G2 : Hp} {t : Cat} {ps : List Pr} {od : Ord} {ls : List Ln} {vc vp vo vl : V} (e : Ex G G2) (f : LF G t ps od ls vc vp vo vl) : LF G2 t ps od ls vc vp vo vl :=
  ⟨f.tk, f.pk, f.ok, f.lo, f.b, Dn.mono e _ f.nc, Dn.mono e _ f.np, Dn.mono e _ f.no, Dn.mono e _ f.nl⟩
theorem counts_all : ∀ {ls : List Ln}, (∀ l ∈ ls, LnOk l) → countsB ls (ls.map (·.cnt)) = true
  | [], _ => rfl
  | l :: ls, h => by
    have c1 := (h l List.mem_cons_self).c1
    show ((decide (0 ≤ l.cnt) && decide (l.cnt ≤ l.cnt)) && countsB ls (ls.map (·.cnt))) = true
    rw [counts_all fun x hx => h x (List.mem_cons_of_mem _ hx), decide_eq_true (by omega), decide_eq_true (Int.le_refl _)]
    rfl
theorem counts_ones : ∀ {ls : List Ln}, (∀ l ∈ ls, LnOk l) → countsB ls (List.replicate ls.length 1) = true
  | [], _ => rfl
  | l :: ls, h => by
    have c1 := (h l List.mem_cons_self).c1
    show ((decide (0 ≤ 1) && decide (1 ≤ l.cnt)) && countsB ls (List.replicate ls.length 1)) = true
    rw [counts_ones fun x hx => h x (List.mem_cons_of_mem _ hx), decide_eq_true c1]
    rfl
theorem counts_over {ls : List Ln} (h : 1 ≤ ls.length) : countsB ls (addV (ls.map (·.cnt)) (List.replicate ls.length 1)) = false := by
  cases ls with
  | nil => cases h
  | cons l ls =>
    show ((decide (0 ≤ l.cnt + 1) && decide (l.cnt + 1 ≤ l.cnt)) && _) = false
    rw [decide_eq_false (by omega : ¬ l.cnt + 1 ≤ l.cnt), Bool.and_false, Bool.false_and]
section
variable {P : Program} {w : World} {K : PySem.W.Frag} {mg : Str → Option Value} {base : Heap} {Cn Cb Cp : Addr} {f : Addr} {cdv : Value} {A : Around} {outer : List Env} {s : Shared} {H : Hp} {E : XK}
abbrev s_law : Stmt := topS 54
theorem sc_law : FnScope ["script", "row", "catalog", "prices", "order", "voucher", "lines", "cents", "gross", "items", "count", "line", "less", "left", "rows", "turn", "told", "back", "more", "part", "net", "tax", "at", "e", "so_far", "one", "two"] ["script"] (defScope s_law) := ⟨rfl, rfl, rfl, by decide +kernel, rfl, by decide +kernel, by decide +kernel⟩
abbrev lawX (P : Program) (w : World) (K : PySem.W.Frag) (mg : Str → Option Value) (base : Heap) (f : Addr) (cdv : Value) (A : Around) (outer : List Env) (s : Shared) (H : Hp) (E : XK) : Cx := (cxOf CX0 P w K mg base ["script", "row", "catalog", "prices", "order", "voucher", "lines", "cents", "gross", "items", "count", "line", "less", "left", "rows", "turn", "told", "back", "more", "part", "net", "tax", "at", "e", "so_far", "one", "two"] "law" (defScope s_law) f cdv A outer s H E).nox
theorem law_tries (B : Bi mg) (en : ErrC K mg "BadNumber" Cn) (eb : ErrC K mg "BadBill" Cb) (ep : ErrC K mg "BadPrices" Cp) (hr : Room 8 (A.deeper (envOfC "law" (defScope s_law) s.heap.objs.size f cdv)))
    (K__law_pick : Keeps P w K mg base CX0 2 "_law_pick" ["row", "things"] (spPick K))
    (K_refund : Keeps P w K mg base (L2N.CX P w) 4 "refund" ["lines", "back", "more"] (spR Cn domRefund))
    (K_total_of : Keeps P w K mg base (L2N.CX P w) 4 "total_of" ["lines"] (spR Cb domTotal))
    (K_bill : Keeps P w K mg base (L2N.CX P w) 7 "bill" ["catalog", "prices", "order", "voucher"] (spR Cp domBill)) :
    ∃ tm, PSs (lawX P w K mg base f cdv A outer s H E) ((defBody s_law).drop 15) tm ∧ ∀ (r sc : Addr) (t : Cat) (ps : List Pr) (od : Ord) (ls : List Ln) (vc vp vo vl vb : V) (a0 a5 a7 a8 a9 a10 a11 a12 a13 a14 a15 a16 a18 a19 a20 a21 a22 a23 a24 a25 a26 : Option V) (G : Hp),
      LF G t ps od ls vc vp vo vl → Dn G vb (.tuple (intL (ls.map (·.cnt)))) → EvL K r sc tm [a0, some (.ref r), some vc, some vp, some vo, a5, some vl, a7, a8, a9, a10, a11, a12, a13, a14, a15, a16, some vb, a18, a19, a20, a21, a22, a23, a24, a25, a26] G := by
  refine ⟨_, (pss_cons (L2N.ps_try_as (i := 23) (Wout := fun _ _ _ _ => False) rfl rfl sc_law.nd rfl rfl ⟨rfl, by decide, Or.inl en.g⟩ takes0N
      (fun W pn xe tk _ => (pss_cons (ps_expr (pe_callR K_refund (hr.mono (by omega)) tk (pa_cons (pv 6) (pa_cons (pv 17) (pa_cons (pe_callTy (r := rTupD K) call_tuple_of rfl B.tuple bi_tuple (pa_cons (pe_op op_rep (pe_lst (pa_cons pe_int pa_nil)) (pe_callB (r := rLenD K) call_len rfl B.len bi_len (pa_cons (pv 6) pa_nil))) pa_nil)) pa_nil)))))
    (pss_one (ps_ret pe_bl))))
      (fun a oe cls d pn hz hf => (pss_one (ps_set (i := 13) sc_law.nd rfl (.inl rfl) (pe_lst pa_nil)))))
    (pss_cons (L2N.ps_try_as (i := 23) (Wout := fun _ _ _ _ => False) rfl rfl sc_law.nd rfl rfl ⟨rfl, by decide, Or.inl eb.g⟩ takes0N
      (fun W pn xe tk _ => (pss_cons (ps_expr (pe_callR K_total_of (hr.mono (by omega)) tk (pa_cons (pe_callD K__law_pick (hr.mono (by omega)) (pa_cons (pv 1) (pa_cons (pe_lst (pa_cons pe_non (pa_cons (pe_tup pa_nil) (pa_cons (pe_tup (pa_cons (pe_slice (r := rSlA K) sl_tupA (pe_ix (r := rIxT K) ix_tup (pv 6) pe_int (fun _ _ => rfl)) po_none (po_some pe_int)) pa_nil)) (pa_cons (pe_tup (pa_cons (pe_op (r := rCatT K) op_catT (pe_slice (r := rSlA K) sl_tupA (pe_ix (r := rIxT K) ix_tup (pv 6) pe_int (fun _ _ => rfl)) po_none (po_some pe_int)) (pe_tup (pa_cons (pe_op op_add (pe_ix (r := rIxT K) ix_tup (pe_ix (r := rIxT K) ix_tup (pv 6) pe_int (fun _ _ => rfl)) pe_int (fun _ _ => rfl)) pe_int) pa_nil))) pa_nil)) pa_nil))))) pa_nil))) pa_nil)))
    (pss_one (ps_ret pe_bl))))
      (fun a oe cls d pn hz hf => (pss_one (ps_set (i := 13) sc_law.nd rfl (.inl rfl) (pe_lst pa_nil)))))
    (pss_cons (L2N.ps_try_as (i := 23) (Wout := fun _ _ _ _ => False) rfl rfl sc_law.nd rfl rfl ⟨rfl, by decide, Or.inl ep.g⟩ takes0N
      (fun W pn xe tk _ => (pss_one (ps_expr (pe_callR K_bill (hr.mono (by omega)) tk (pa_cons (pv 2) (pa_cons (pe_callD K__law_pick (hr.mono (by omega)) (pa_cons (pv 1) (pa_cons (pe_lst (pa_cons pe_non (pa_cons (pe_op (r := rCatT K) op_catT (pv 3) (pe_slice (r := rSlA K) sl_tupA (pv 3) po_none (po_some pe_int))) (pa_cons (pe_slice (r := rSlA K) sl_tupA (pv 3) (po_some pe_int) po_none) pa_nil)))) pa_nil))) (pa_cons (pv 4) (pa_cons pe_int pa_nil))))))))
      (fun a oe cls d pn hz hf => (pss_one (ps_ret pe_bl))))
    (pss_one (ps_ret pe_bl))))), fun r sc t ps od ls vc vp vo vl vb a0 a5 a7 a8 a9 a10 a11 a12 a13 a14 a15 a16 a18 a19 a20 a21 a22 a23 a24 a25 a26 G F nb => ?_⟩
  intro H1 st1 D q
  have l1 := F.b.l1
  have l3 := F.b.l3
  have lenL : ((ls.map Ln.d).length : Int) = (ls.length : Nat) := by rw [List.length_map]
  have ones : List.replicate ls.length (PyData.int 1) = intL (List.replicate ls.length 1) := by
    unfold intL
    rw [List.map_replicate]
  refine go_seq (go_seq (go_drop (go_callS ?_)))
  refine (ea_cons (evd_at F.nl) (ea_cons (evd_at nb) (ea_cons (evd_cb (ea_cons (evd_rep (n := ls.length) (evd_int (i := 1)) (evd_cb (ea_cons (evd_at F.nl) ea_nil) (r_lenT lenL)) (by omega)) ea_nil) r_tupL) ea_nil)) : EvA _ _ G _) H1 st1.s _ fun vs G2 H2 g2 n2 => ?_
  rw [ones] at n2
  have R : RefIn ls (ls.map (·.cnt)) (List.replicate ls.length 1) := ⟨F.b, List.length_map _, List.length_replicate, counts_all F.b.each, counts_ones F.b.each⟩
  refine ⟨_, none, G2, g2.s, n2, ⟨ls, _, _, rfl, R, by rw [counts_over l1]; rfl⟩, fun c z => (nomatch z), fun _ H3 x3 => ?_⟩
  refine ⟨true, en.one, fun _ a ha => ?_, (fun z => nomatch z)⟩
  have st2 := st1.gr g2
  have st3 := st2.gr (Gr.grow st2.s x3)
  refine go_set1 (go_lst (go_nil ⟨Evl.sz_of (by show 0 ≤ 100000; decide), fun p hp => ?_⟩))
  have st4 := st3.loose (o := .lst []) hp
  have F2 := F.mono g2.g
  dsimp only
  -- the second try
  obtain ⟨l0, lr, els⟩ : ∃ l0 lr, ls = l0 :: lr := by
    cases ls with
    | nil => cases l1
    | cons l ls => exact ⟨l, ls, rfl⟩
  have ok0 : LnOk l0 := F.b.each l0 (by rw [els]; exact List.mem_cons_self)
  have at0 : (ls.map Ln.d)[0]? = some (.tuple [.str l0.it, .int l0.cnt, .int l0.net, .int l0.tax, .int l0.off, .int l0.due]) := by rw [els]; rfl
  refine go_seq (go_seq (go_drop (go_callS (go_cons ?_))))
  have ln0 : ∀ {σ : L2.St} {G3 : Hp}, Ex G2 G3 → σ[6]? = some (some vl) → EvD (tOp (rIxT K) (tVar 6) (tC (.int 0))) σ G3 (.tuple [.str l0.it, .int l0.cnt, .int l0.net, .int l0.tax, .int l0.off, .int l0.due]) := fun x hs => evd_op (evd_at F2.nl x hs) (evd_int (i := ((0 : Nat) : Int))) (r_ixT at0)
  refine evr_pk (P := BadBillD) rfl (evr_d (evd_lst (ea_cons evd_non (ea_cons (evd_tup ea_nil (by show 0 ≤ 100000; decide)) (ea_cons (evd_tup (ea_cons (evd_cutT (n := 5) (ln0 (Ex.refl _) rfl) evd_int) ea_nil) (by show 1 ≤ 100000; decide))
    (ea_cons (evd_tup (ea_cons (evd_op (evd_cutT (n := 5) (ln0 (Ex.refl _) rfl) evd_int) (evd_tup (ea_cons (evd_op (evd_op (ln0 (Ex.refl _) rfl) (evd_int (i := ((5 : Nat) : Int))) (r_ixT rfl)) evd_int (r_I0 fun _ => .int _)) ea_nil) (by show 1 ≤ 100000; decide)) (r_catT (by show 0 < 5; decide) (by show 0 < 1; decide) (by show 5 + 1 ≤ 100000; decide))) ea_nil) (by show 1 ≤ 100000; decide)) ea_nil)))) (by show 4 ≤ 100000; decide)) ⟨_, rfl, by show 0 < 4; decide, by show 4 ≤ 1000; decide, fun x hx => ?_⟩) _ st4 _ fun v2 x2 G5 H5 px2 g5 n5 => go_nil ?_
  · simp only [List.mem_cons, List.not_mem_nil, or_false] at hx
    rcases hx with rfl | rfl | rfl | rfl
    · exact .inl rfl
    · exact .inl rfl
    · exact .inr ⟨_, rfl, .inl rfl⟩
    · exact .inr ⟨_, rfl, .inr ⟨l0, l0.due + 1, rfl, ok0, by omega⟩⟩
  refine ⟨_, none, G5, g5.st.s, .cons n5 .nil, ⟨x2, rfl, .inr ⟨px2, rfl⟩⟩, fun c z => (nomatch z), fun _ H6 x6 => ?_⟩
  refine ⟨true, eb.one, fun _ a ha => ?_, (fun z => nomatch z)⟩
  have st5 := g5.st
  have st6 := st5.gr (Gr.grow st5.s x6)
  refine go_set1 (go_lst (go_nil ⟨Evl.sz_of (by show 0 ≤ 100000; decide), fun p7 hp7 => ?_⟩))
  have st7 := st6.loose (o := .lst []) hp7
  have F3 := F2.mono g5.g
  dsimp only
  -- the third
  have lenP : (ps.map Pr.d).length = t.its.length := by rw [← F.pk.its, List.length_map, List.length_map]
  have ilo := F.tk.its.lo
  have ihi := F.tk.its.hi
  refine go_seq (go_drop (go_callS (go_cons (go_var rfl (go_cons ?_)))))
  refine evr_pk (P := fun x => rowD x t.its.length t.its.length = false) rfl (evr_d (evd_lst (ea_cons evd_non (ea_cons (evd_op (evd_at F3.np) (evd_cutT (n := 1) (evd_at F3.np) evd_int) (r_catT (by omega) (by rw [List.length_take]; omega) (by rw [List.length_take]; omega))) (ea_cons (evd_fromT (n := 1) (evd_at F3.np) evd_int) ea_nil))) (by show 3 ≤ 100000; decide)) ⟨_, rfl, by show 0 < 3; decide, by show 3 ≤ 1000; decide, fun x hx => ?_⟩) _ st7 _ fun v3 x3 G8 H8 px3 g8 n8 => ?_
  · simp only [List.mem_cons, List.not_mem_nil, or_false] at hx
    rcases hx with rfl | rfl | rfl
    · rfl
    · show (decide ((t.its.length : Int) ≤ (((ps.map Pr.d) ++ (ps.map Pr.d).take 1).length : Int)) && decide ((((ps.map Pr.d) ++ (ps.map Pr.d).take 1).length : Int) ≤ (t.its.length : Int))) = false
      rw [List.length_append, List.length_take, decide_eq_false (by omega : ¬ (((ps.map Pr.d).length + min 1 (ps.map Pr.d).length : Nat) : Int) ≤ (t.its.length : Int)), Bool.and_false]
    · show (decide ((t.its.length : Int) ≤ (((ps.map Pr.d).drop 1).length : Int)) && _) = false
      rw [List.length_drop, decide_eq_false (by omega), Bool.false_and]
  have F4 := F3.mono g8.g
  refine go_cons (go_var rfl (go_cons (go_c (go_nil ?_))))
  refine ⟨_, none, G8, g8.st.s, .cons F4.nc (.cons n8 (.cons F4.no (.cons (.int 0) .nil))), ⟨t, x3, od, 0, rfl, F.tk, F.ok, F.lo, by decide, by decide, .inr ⟨px3, rfl⟩⟩, fun c z => (nomatch z), fun _ H9 x9 => ?_⟩
  refine ⟨true, ep.one, fun _ a ha => ?_, (fun z => nomatch z)⟩
  exact q H9
end
end Sh

set_option Elab.async false
set_option linter.all false
set_option maxRecDepth 100000
set_option maxHeartbeats 4000000
/-! the law: what comes back row by row -/
namespace Sh
open PySem PySem.Spec L2
open PyProof.Rows hiding St
open Evl (Ex)
open ShW (rSumK rMinS)
theorem eqvAll_ints : ∀ xs : List Int, PyData.eqvAll (intL xs) (intL xs) = true
  | [] => rfl
  | x :: xs => by
    show (PyData.eqv (.int x) (.int x) && PyData.eqvAll (intL xs) (intL xs)) = true
    rw [eqvAll_ints xs, Bool.and_true]
    show decide (x = x) = true
    exact decide_eq_true rfl
theorem canLay_ints : ∀ xs : List Int, PyData.canLayAll0 (intL xs) = true
  | [] => rfl
  | x :: xs => by
    show (PyData.canLay0 (.int x) && PyData.canLayAll0 (intL xs)) = true
    rw [canLay_ints xs, Bool.and_true]
    rfl
theorem depth_ints : ∀ xs : List Int, PyData.depthAll (intL xs) = 0
  | [] => rfl
  | x :: xs => by
    show max (PyData.depth (.int x)) (PyData.depthAll (intL xs)) = 0
    rw [depth_ints xs]
    rfl
theorem shaped_intsT (xs : List Int) : SeqAt.shaped (.tuple (intL xs)) = true := by
  show (PyData.canLayAll0 (intL xs) && decide (PyData.depthAll (intL xs) + 1 ≤ 64)) = true
  rw [canLay_ints xs, depth_ints]
  rfl
theorem shaped_intsL (xs : List Int) : SeqAt.shaped (.list (intL xs)) = true := by
  show (PyData.canLayAll0 (intL xs) && decide (PyData.depthAll (intL xs) + 1 ≤ 64)) = true
  rw [canLay_ints xs, depth_ints]
  rfl
theorem r_neT {K : PySem.W.Frag} {G : Hp} (xs : List Int) : R2D (rNeD K) (.tuple (intL xs)) (.tuple (intL xs)) (.bool false) G := r_neD (flat_ints xs) (flat_ints xs) (shaped_intsT xs) (shaped_intsT xs) (by
  show (!PyData.eqvAll (intL xs) (intL xs)) = false
  rw [eqvAll_ints]
  rfl)
theorem r_neL {K : PySem.W.Frag} {G : Hp} (xs : List Int) : R2D (rNeD K) (.list (intL xs)) (.list (intL xs)) (.bool false) G := r_neD (flat_ints xs) (flat_ints xs) (shaped_intsL xs) (shaped_intsL xs) (by
  show (!PyData.eqvAll (intL xs) (intL xs)) = false
  rw [eqvAll_ints]
  rfl)
theorem ref_at : ∀ {ls : List Ln} {bs ms : List Int} {j : Nat} {l : Ln}, bs.length = ls.length → ms.length = ls.length → countsB ls bs = true → countsB ls ms = true → ls[j]? = some l →
    ∃ x y, bs[j]? = some x ∧ ms[j]? = some y ∧ (addV bs ms)[j]? = some (x + y) ∧ (refF ls bs ms)[j]? = some (l.due * (x + y) / l.cnt - l.due * x / l.cnt) ∧ 0 ≤ x ∧ x ≤ l.cnt ∧ 0 ≤ y ∧ y ≤ l.cnt
  | [], _, _, _, _, _, _, _, _, h => by simp at h
  | _ :: _, [], _, _, _, h, _, _, _, _ => nomatch h
  | _ :: _, _ :: _, [], _, _, _, h, _, _, _ => nomatch h
  | l :: ls, b :: bs, m :: ms, j, l', h1, h2, hb, hm, h => by
    have hb : ((decide (0 ≤ b) && decide (b ≤ l.cnt)) && countsB ls bs) = true := hb
    have hm : ((decide (0 ≤ m) && decide (m ≤ l.cnt)) && countsB ls ms) = true := hm
    rw [Bool.and_eq_true, Bool.and_eq_true, decide_eq_true_eq, decide_eq_true_eq] at hb hm
    cases j with
    | zero =>
      cases h
      exact ⟨b, m, rfl, rfl, rfl, rfl, hb.1.1, hb.1.2, hm.1.1, hm.1.2⟩
    | succ j => exact ref_at (ls := ls) (j := j) (Nat.succ.inj h1) (Nat.succ.inj h2) hb.2 hm.2 h
theorem ref_len : ∀ {ls : List Ln} {bs ms : List Int}, bs.length = ls.length → ms.length = ls.length → (refF ls bs ms).length = ls.length
  | [], _, _, _, _ => rfl
  | _ :: _, [], _, h, _ => nomatch h
  | _ :: _, _ :: _, [], _, h => nomatch h
  | l :: ls, b :: bs, m :: ms, h1, h2 => congrArg Nat.succ (ref_len (Nat.succ.inj h1) (Nat.succ.inj h2))
theorem RefIn.at {ls : List Ln} {bs ms : List Int} {j : Nat} {l : Ln} (R : RefIn ls bs ms) (h : ls[j]? = some l) : ∃ x y, bs[j]? = some x ∧ ms[j]? = some y ∧ (addV bs ms)[j]? = some (x + y) ∧ (refF ls bs ms)[j]? = some (l.due * (x + y) / l.cnt - l.due * x / l.cnt) ∧ 0 ≤ x ∧ x ≤ l.cnt ∧ 0 ≤ y ∧ y ≤ l.cnt := ref_at R.lb R.lm R.b R.m h
theorem due_lo {l : Ln} (h : LnOk l) : 0 ≤ l.due := by
  have := h.o1
  have := h.due
  omega
theorem ref_lo {ls : List Ln} {bs ms : List Int} (R : RefIn ls bs ms) : ∀ z ∈ refF ls bs ms, 0 ≤ z := fun z hz => by
  obtain ⟨j, hj⟩ := List.getElem?_of_mem hz
  have lt := (List.getElem?_eq_some_iff.mp hj).1
  rw [ref_len R.lb R.lm] at lt
  obtain ⟨l, hl⟩ : ∃ l, ls[j]? = some l := ⟨_, List.getElem?_eq_getElem lt⟩
  obtain ⟨x, y, _, _, _, e, x0, _, y0, _⟩ := R.at hl
  rw [hj] at e
  have e := Option.some.inj e
  have L := R.ok.each l (List.mem_of_getElem? hl)
  have c1 := L.c1
  have d0 := due_lo L
  have h1 : l.due * x ≤ l.due * (x + y) := Int.mul_le_mul_of_nonneg_left (by omega) d0
  have h2 := Int.ediv_le_ediv (by omega : (0 : Int) < l.cnt) h1
  omega
theorem least : ∀ {xs : List Int}, 0 < xs.length → ∃ z ∈ xs, ∀ y ∈ xs, z ≤ y
  | [x], _ => ⟨x, List.mem_cons_self, fun y hy => by rw [List.mem_singleton.mp hy]; exact Int.le_refl _⟩
  | x :: y :: xs, _ => by
    obtain ⟨z, hz, hm⟩ := least (xs := y :: xs) (Nat.succ_pos _)
    by_cases h : x ≤ z
    · exact ⟨x, List.mem_cons_self, fun u hu => (List.mem_cons.mp hu).elim (fun e => e ▸ Int.le_refl _) fun hu => Int.le_trans h (hm u hu)⟩
    · exact ⟨z, List.mem_cons_of_mem _ hz, fun u hu => (List.mem_cons.mp hu).elim (fun e => by rw [e]; omega) fun hu => hm u hu⟩
/-- what comes back in all, place by place -/
theorem refs_sum {ls : List Ln} {j : Nat} {l : Ln} (h : ls[j]? = some l) : ∀ {ms : List (List Int)} {b : List Int}, Fit ls b ms → b.length = ls.length → ∃ x y, b[j]? = some x ∧ (ms.foldl addV b)[j]? = some y ∧ ((refsF ls b ms).map fun q => q.getD j 0).sum = l.due * y / l.cnt - l.due * x / l.cnt
  | [], b, _, lb => by
    have lt : j < b.length := by
      rw [lb]
      exact (List.getElem?_eq_some_iff.mp h).1
    refine ⟨b[j], b[j], List.getElem?_eq_getElem lt, List.getElem?_eq_getElem lt, ?_⟩
    rw [Int.sub_self]
    rfl
  | m :: ms, b, .cons R ca F, lb => by
    obtain ⟨x, y, e1, e2, e3, e4, _⟩ := R.at h
    obtain ⟨x2, y2, f1, f2, f3⟩ := refs_sum h F (by rw [addV_len (R.lb.trans R.lm.symm), R.lb])
    rw [e3] at f1
    cases f1
    refine ⟨x, y2, e1, f2, ?_⟩
    show ((refF ls b m).getD j 0 + ((refsF ls (addV b m) ms).map fun q => q.getD j 0).sum) = _
    rw [f3, List.getD_eq_getElem?_getD, e4]
    show l.due * (x + y) / l.cnt - l.due * x / l.cnt + (l.due * y2 / l.cnt - l.due * (x + y) / l.cnt) = _
    omega
theorem refs_len2 {ls : List Ln} : ∀ {ms : List (List Int)} {b : List Int}, Fit ls b ms → ∀ q ∈ refsF ls b ms, q.length = ls.length
  | [], _, _, q, h => nomatch h
  | m :: ms, b, .cons R _ F, q, h => by
    rcases List.mem_cons.mp h with rfl | h
    · exact ref_len R.lb R.lm
    · exact refs_len2 F q h
theorem zeros_is : ∀ ls : List Ln, List.replicate ls.length (PyData.int 0) = intL (zerosF ls)
  | [] => rfl
  | l :: ls => by
    rw [List.length_cons, List.replicate_succ, zeros_is ls]
    rfl
section
variable {P : Program} {w : World} {K : PySem.W.Frag} {mg : Str → Option Value} {base : Heap} {Cn Cb Cp : Addr} {f : Addr} {cdv : Value} {A : Around} {outer : List Env} {s : Shared} {H : Hp} {E : XK}
theorem evl_par2 {r sc : Addr} {σ : L2.St} {G : Hp} {ar : TA} {u : TS} {d e : D} {i j : Nat} (h : EvA ar σ G [d, e]) (k : ∀ x y G2, Ex G G2 → Dn G2 x d → Dn G2 y e → EvL K r sc u ((σ.set i (some x)).set j (some y)) G2) : EvL K r sc (tSeq (tPar i j ar) u) σ G := fun H st E q => go_parS (h H st.s _ fun vs G2 H2 g n => by
  obtain ⟨x, y, rfl, n1, n2⟩ := two_of n
  exact ⟨x, y, rfl, k x y G2 g.g n1 n2 H2 (st.gr g) E q⟩)
theorem law_back (B : Bi mg) (hr : Room 8 (A.deeper (envOfC "law" (defScope s_law) s.heap.objs.size f cdv)))
    (K_refund : Keeps P w K mg base (L2N.CX P w) 4 "refund" ["lines", "back", "more"] (spR Cn domRefund))
    (K_refunds : Keeps P w K mg base CX0 5 "refunds" ["lines", "rows"] (spD domRefunds))
    (rest : ∃ tm, PSs (lawX P w K mg base f cdv A outer s H E) ((defBody s_law).drop 15) tm ∧ ∀ (r sc : Addr) (t : Cat) (ps : List Pr) (od : Ord) (ls : List Ln) (vc vp vo vl vb : V) (a0 a5 a7 a8 a9 a10 a11 a12 a13 a14 a15 a16 a18 a19 a20 a21 a22 a23 a24 a25 a26 : Option V) (G : Hp),
      LF G t ps od ls vc vp vo vl → Dn G vb (.tuple (intL (ls.map (·.cnt)))) → EvL K r sc tm [a0, some (.ref r), some vc, some vp, some vo, a5, some vl, a7, a8, a9, a10, a11, a12, a13, a14, a15, a16, some vb, a18, a19, a20, a21, a22, a23, a24, a25, a26] G) :
    ∃ tm, PSs (lawX P w K mg base f cdv A outer s H E) ((defBody s_law).drop 12) tm ∧ ∀ (r sc : Addr) (t : Cat) (ps : List Pr) (od : Ord) (ls : List Ln) (ms : List (List Int)) (vc vp vo vl vr : V) (a0 a5 a7 a8 a9 a10 a11 a12 a13 a15 a16 a17 a18 a19 a20 a21 a22 a23 a24 a25 a26 : Option V) (G : Hp),
      LF G t ps od ls vc vp vo vl → Dn G vr (.list (rowsD ms)) → Fit ls (zerosF ls) ms → ms.length ≤ 1000 → ms.foldl addV (zerosF ls) = ls.map (·.cnt) → EvL K r sc tm [a0, some (.ref r), some vc, some vp, some vo, a5, some vl, a7, a8, a9, a10, a11, a12, a13, some vr, a15, a16, a17, a18, a19, a20, a21, a22, a23, a24, a25, a26] G := by
  obtain ⟨tm, htm, pr⟩ := rest
  refine ⟨_, (pss_cons (ps_asg (pe_tup (pa_cons (pe_callD K_refunds (hr.mono (by omega)) (pa_cons (pv 6) (pa_cons (pe_callTy call_tuple_of rfl B.tuple bi_tuple (pa_cons (pv 14) pa_nil)) pa_nil))) (pa_cons (pe_callTy call_tuple_of rfl B.tuple bi_tuple (pa_cons (pe_op op_rep (pe_lst (pa_cons pe_int pa_nil)) (pe_callB call_len rfl B.len bi_len (pa_cons (pv 6) pa_nil))) pa_nil)) pa_nil))) (pg_tup rfl (pgs_cons (pg_name (i := 16) sc_law.nd rfl (.inr rfl)) (pgs_cons (pg_name (i := 17) sc_law.nd rfl (.inl rfl)) pgs_nil))))
    (pss_cons (ps_for PassesOwn.never rfl (ShW.pi_zK (k1 := .l) (k2 := .t) B.zip (pa_cons (pv 14) (pa_cons (pv 16) pa_nil))) (pg_tup rfl (pgs_cons (pg_name (i := 18) sc_law.nd rfl (.inl rfl)) (pgs_cons (pg_name (i := 19) sc_law.nd rfl (.inl rfl)) pgs_nil)))
      (pss_cons (ps_if (PW.pt (pw_or (pt_cmpR (op_neD hr.units) (pe_callR K_refund (hr.mono (by omega)) takes0N (pa_cons (pv 6) (pa_cons (pv 17) (pa_cons (pv 18) pa_nil)))) (pv 19) (nomark _)) (pw_or1 (pt_cmpR op_lt (pe_callB (ShW.cr_minS (k := .t) rfl) rfl B.min bi_min (pa_cons (pv 19) pa_nil)) pe_int (nomark _))))) (pss_one (ps_ret pe_bl)) pss_nil)
    (pss_cons (ps_set (i := 17) sc_law.nd rfl (.inl rfl) (pe_callTy call_tuple_of rfl B.tuple bi_tuple (pa_cons (pe_lc (own := [("one", 25), ("two", 26)]) (g := gTup K 2 (gCons (gName 25) (gCons (gName 26) gNil))) (tt := tYes) rfl sc_law.nd (ShW.pi_zK (k1 := .t) (k2 := .t) B.zip (pa_cons (pv 17) (pa_cons (pv 18) pa_nil))) (blkOk_by (N := ["script", "row", "catalog", "prices", "order", "voucher", "lines", "cents", "gross", "items", "count", "line", "less", "left", "rows", "turn", "told", "back", "more", "part", "net", "tax", "at", "e", "so_far", "one", "two"]) (sc := defScope s_law) (by decide +kernel)) (fun _ _ _ _ _ => (pg_tup rfl (pgs_cons (pg_name (i := 25) sc_law.nd rfl (.inl rfl)) (pgs_cons (pg_name (i := 26) sc_law.nd rfl (.inl rfl)) pgs_nil)))) (fun _ _ _ _ _ => pts_nil) (fun _ _ _ _ _ => (pe_op op_add (pv 25) (pv 26)))) pa_nil)))
    (pss_one (ps_for PassesOwn.never rfl (ShW.pi_enK (k := .t) B.enumerate (pa_cons (pv 6) pa_nil)) (pg_tup rfl (pgs_cons (pg_name (i := 22) sc_law.nd rfl (.inl rfl)) (pgs_cons (pg_name (i := 11) sc_law.nd rfl (.inl rfl)) pgs_nil)))
      (pss_cons (ps_set (i := 24) sc_law.nd rfl (.inl rfl) (pe_op op_fdivN (pe_op op_mul (pe_ix ix_tup (pv 11) pe_int (fun _ _ => rfl)) (pe_ix ix_tup (pv 17) (pv 22) (fun _ _ => rfl))) (pe_ix ix_tup (pv 11) pe_int (fun _ _ => rfl))))
    (pss_one (ps_if (pt_cmpR op_ne (pe_ix ix_tup (pv 19) (pv 22) (fun _ _ => rfl)) (pe_op op_sub (pv 24) (pe_op op_fdivN (pe_op op_mul (pe_ix ix_tup (pv 11) pe_int (fun _ _ => rfl)) (pe_op op_sub (pe_ix ix_tup (pv 17) (pv 22) (fun _ _ => rfl)) (pe_ix ix_tup (pv 18) (pv 22) (fun _ _ => rfl)))) (pe_ix ix_tup (pv 11) pe_int (fun _ _ => rfl)))) (nomark _)) (pss_one (ps_ret pe_bl)) pss_nil))))))))
    (pss_cons (ps_if (pt_cmpR (op_neD hr.units) (pe_lc (own := [("at", 22)]) (g := gName 22) (tt := tYes) rfl sc_law.nd (pi_range1 rfl B.range (pa_cons (pe_callB call_len rfl B.len bi_len (pa_cons (pv 6) pa_nil)) pa_nil)) (blkOk_by (N := ["script", "row", "catalog", "prices", "order", "voucher", "lines", "cents", "gross", "items", "count", "line", "less", "left", "rows", "turn", "told", "back", "more", "part", "net", "tax", "at", "e", "so_far", "one", "two"]) (sc := defScope s_law) (by decide +kernel)) (fun _ _ _ _ _ => (pg_name (i := 22) sc_law.nd rfl (.inr rfl))) (fun _ _ _ _ _ => pts_nil) (fun _ _ _ _ _ => (pe_callB (r := rSum K) (cr_sum rfl) rfl B.sum bi_sum (pa_cons (by exact (pe_lc (own := [("part", 19)]) (g := gName 19) (tt := tYes) (wi := iTup K (tVar 16)) rfl sc_law.nd (pi_tup (pv 16)) (blkOk_by (by kernel_rfl)) (fun _ _ _ _ _ => (pg_name (i := 19) sc_law.nd rfl (.inl rfl))) (fun _ _ _ _ _ => pts_nil) (fun _ _ _ _ _ => (pe_ix (r := rIxT K) ix_tup (pv 19) (pv 22) (fun _ _ => rfl))))) pa_nil)))) (pe_lc (own := [("line", 11)]) (g := gName 11) (tt := tYes) rfl sc_law.nd (pi_tup (pv 6)) (blkOk_by (N := ["script", "row", "catalog", "prices", "order", "voucher", "lines", "cents", "gross", "items", "count", "line", "less", "left", "rows", "turn", "told", "back", "more", "part", "net", "tax", "at", "e", "so_far", "one", "two"]) (sc := defScope s_law) (by decide +kernel)) (fun _ _ _ _ _ => (pg_name (i := 11) sc_law.nd rfl (.inl rfl))) (fun _ _ _ _ _ => pts_nil) (fun _ _ _ _ _ => (pe_ix (r := rIxT K) ix_tup (pv 11) pe_int (fun _ _ => rfl)))) (nomark _)) (pss_one (ps_ret pe_bl)) pss_nil)
    (by exact htm)))), fun r sc t ps od ls ms vc vp vo vl vr a0 a5 a7 a8 a9 a10 a11 a12 a13 a15 a16 a17 a18 a19 a20 a21 a22 a23 a24 a25 a26 G F nr fit few tot => ?_⟩
  have l1 := F.b.l1
  have l3 := F.b.l3
  have len : (ls.map Ln.d).length = ls.length := List.length_map _
  have lenL : ((ls.map Ln.d).length : Int) = (ls.length : Nat) := by rw [List.length_map]
  have cI : ∀ {G : Hp} {i : Int}, Dn G (.int i) (.int i) := .int _
  have zeros := zeros_is ls
  refine evl_asg (evd_tup (ea_cons (evd_call (ea_cons (evd_at F.nl) (ea_cons (evd_cb (ea_cons (evd_at nr) ea_nil) r_tupL) ea_nil)) ⟨ls, ms, rfl, F.b, fit, few, rfl⟩) (ea_cons (evd_cb (ea_cons (evd_is (evd_rep (n := ls.length) (evd_int (i := 0)) (evd_cb (ea_cons (evd_at F.nl) ea_nil) (r_lenT lenL)) (by omega)) (congrArg PyData.list zeros)) ea_nil) r_tupL) ea_nil)) (by show 2 ≤ 100000; decide)) (fun G2 _ => eg_pair) (fun σ2 G1 x1 ⟨vt, vb, es, nt, nb⟩ => ?_)
  subst es
  have lenM : (rowsD ms).length = ms.length := List.length_map _
  have lenT : (rowsD (refsF ls (zerosF ls) ms)).length = ms.length := by
    unfold rowsD
    rw [List.length_map, refs_len]
  have lenZ : (zipD (rowsD ms) (rowsD (refsF ls (zerosF ls) ms))).length = ms.length := by
    rw [zipD_len, lenM, lenT, Nat.min_self]
  have zat : ∀ {j : Nat} {d : D}, (zipD (rowsD ms) (rowsD (refsF ls (zerosF ls) ms)))[j]? = some d → ∃ m, ms[j]? = some m ∧ d = .tuple [.tuple (intL m), .tuple (intL (refF ls ((ms.take j).foldl addV (zerosF ls)) m))] := fun {j d} h => by
    unfold zipD rowsD at h
    rw [List.getElem?_zipWith, List.getElem?_map, List.getElem?_map] at h
    cases hm : ms[j]? with
    | none => rw [hm] at h; cases h
    | some m =>
      obtain ⟨_, _, e⟩ := fit_at fit hm
      rw [hm, e] at h
      exact ⟨m, rfl, (Option.some.inj h).symm⟩
  refine evl_nx (B := fun G2 σ2 => ∃ vb a11 a18 a19 a22 a24, σ2 = [a0, some (.ref r), some vc, some vp, some vo, a5, some vl, a7, a8, a9, a10, a11, a12, a13, some vr, a15, some vt, some vb, a18, a19, a20, a21, a22, a23, a24, a25, a26] ∧ Dn G2 vb (.tuple (intL ((ms.take ms.length).foldl addV (zerosF ls)))))
    (lenZ ▸ evn_for (I := fun i G2 σ2 => ∃ vb a11 a18 a19 a22 a24, σ2 = [a0, some (.ref r), some vc, some vp, some vo, a5, some vl, a7, a8, a9, a10, a11, a12, a13, some vr, a15, some vt, some vb, a18, a19, a20, a21, a22, a23, a24, a25, a26] ∧ Dn G2 vb (.tuple (intL ((ms.take i).foldl addV (zerosF ls)))))
      (C := fun d G2 σ' σ2 => ∃ d1 d2 x y, d = .tuple [d1, d2] ∧ σ2 = (σ'.set 18 (some x)).set 19 (some y) ∧ Dn G2 x d1 ∧ Dn G2 y d2)
      (ei_zK (k1 := .l) (k2 := .t) (ea_cons (evd_at nr x1) (ea_cons (evd_at nt) ea_nil))) (fun i G1 G2 σ' e ⟨vb, b1, b2, b3, b4, b5, e1, m⟩ => ⟨vb, b1, b2, b3, b4, b5, e1, Dn.mono e _ m⟩) ⟨vb, _, _, _, _, _, rfl, nb⟩ (fun i d σ' G2 hd x2 hI => ?_) (fun i d σ' σ2 G2 hd x2 hI hC => ?_)) (fun σ2 G2 x2 hB => ?_)
  · obtain ⟨m, _, rfl⟩ := zat hd
    exact fun x H ex n Q q => eg_pair x H ex n Q fun σ2 ⟨x, y, e, nx, ny⟩ => q σ2 ⟨_, _, x, y, rfl, e, nx, ny⟩
  · obtain ⟨m, hm, rfl⟩ := zat hd
    obtain ⟨vb, b11, b18, b19, b22, b24, rfl, nb⟩ := hI
    obtain ⟨d1, d2, vm, vp2, ed, rfl, nm, npt⟩ := hC
    cases ed
    obtain ⟨R, ca, _⟩ := fit_at fit hm
    have tk : (ms.take (i + 1)).foldl addV (zerosF ls) = addV ((ms.take i).foldl addV (zerosF ls)) m := by
      rw [take_len hm, List.foldl_append]
      rfl
    rw [tk]
    generalize (ms.take i).foldl addV (zerosF ls) = b at R ca nb npt
    have nl := Dn.mono (x1.trans x2) _ F.nl
    have lenR := ref_len R.lb R.lm
    obtain ⟨z, hz, hmin⟩ := least (xs := refF ls b m) (by omega)
    have z0 := ref_lo R z hz
    refine evn_no (evt_is (evt_or (a := false) (b := false) (evt_test (evd_op (evd_callS (ea_cons (evd_at nl) (ea_cons (evd_at nb) (ea_cons (evd_at nm) ea_nil))) ⟨ls, b, m, rfl, R, (if_pos ca).symm⟩) (evd_at npt) (r_neT _)))
      (fun _ => evt_is (evt_test (evd_op (evd_cb (ea_cons (evd_at npt) ea_nil) (r_minS (k := .t) hz hmin)) (evd_int (i := 0)) (r_I0 fun _ => .bl _))) (decide_eq_false (by omega)))) rfl) (fun G3 x3 => ?_)
    have lb : (intL b).length = ls.length := (List.length_map _).trans R.lb
    refine evn_set (d := .tuple (intL (addV b m))) (evd_cb (ea_cons (evd_is (evd_lcP (r := plusOf) (ei_zK (k1 := .t) (k2 := .t) (ea_cons (evd_at nb x3) (ea_cons (evd_at nm x3) ea_nil))) (by rw [zipD_len]; omega) (fun d hd => ?_) (fun x y => rfl) (fun a1 b1 hab x y G4 x4 nx ny => ?_)) (congrArg PyData.list (zip_plus b m))) ea_nil) r_tupL) (fun vb2 G4 x4 nb2 => ?_)
    · obtain ⟨a, _, b, _, rfl⟩ := zip_in hd
      exact ⟨_, _, rfl⟩
    · obtain ⟨a, _, b, _, e⟩ := zip_in hab
      cases e
      exact evd_op (evd_at nx) (evd_at ny) (r_I0 fun _ => .int _)
    · have x34 := x3.trans x4
      have eat : ∀ {j : Nat} {d : D}, (enumD (ls.map Ln.d))[j]? = some d → ∃ l, ls[j]? = some l ∧ d = .tuple [.int (j : Nat), Ln.d l] := fun {j d} h => by
        unfold enumD at h
        rw [List.getElem?_map, List.getElem?_zipIdx, List.getElem?_map] at h
        cases hl : ls[j]? with
        | none => rw [hl] at h; cases h
        | some l =>
          rw [hl] at h
          have h : PyData.tuple [.int ((0 + j : Nat) : Int), Ln.d l] = d := Option.some.inj h
          rw [Nat.zero_add] at h
          exact ⟨l, rfl, h.symm⟩
      refine (evn_for (I := fun j G5 σ2 => ∃ a11 a22 a24, σ2 = [a0, some (.ref r), some vc, some vp, some vo, a5, some vl, a7, a8, a9, a10, a11, a12, a13, some vr, a15, some vt, some vb2, some vm, some vp2, a20, a21, a22, a23, a24, a25, a26] ∧ Ex G4 G5)
        (C := fun d G5 σ' σ2 => ∃ d1 d2 x y, d = .tuple [d1, d2] ∧ σ2 = (σ'.set 22 (some x)).set 11 (some y) ∧ Dn G5 x d1 ∧ Dn G5 y d2)
        (ei_enK (k := .t) (ea_cons (evd_at nl x34) ea_nil)) (fun i G1 G2 σ' e ⟨b1, b2, b3, e1, m⟩ => ⟨b1, b2, b3, e1, m.trans e⟩) ⟨_, _, _, rfl, Ex.refl _⟩ (fun j d σ' G5 hd x5 hI => ?_) (fun j d σ' σ2 G5 hd x5 hI hC => ?_) : EvN _ _ _ _).imp (fun G5 σ5 x5 ⟨c1, c2, c3, e, x⟩ => ⟨vb2, _, _, _, _, _, e, Dn.mono x _ nb2⟩)
      · obtain ⟨l, _, rfl⟩ := eat hd
        exact fun x H ex n Q q => eg_pair x H ex n Q fun σ2 ⟨x, y, e, nx, ny⟩ => q σ2 ⟨_, _, x, y, rfl, e, nx, ny⟩
      · obtain ⟨l, hl, rfl⟩ := eat hd
        obtain ⟨c1, c2, c3, rfl, x45⟩ := hI
        obtain ⟨d1, d2, vj, vln, ed, rfl, nj, nln⟩ := hC
        cases ed
        cases nj
        obtain ⟨x, y, e1, e2, e3, e4, h0, h1, h2, h3⟩ := R.at hl
        have L := R.ok.each l (List.mem_of_getElem? hl)
        have lc1 := L.c1
        have lc9 := L.c9
        have at_ : ∀ {xs : List Int} {z : Int}, xs[j]? = some z → (intL xs)[j]? = some (.int z) := fun {xs z} h => by
          unfold intL
          rw [List.getElem?_map, h]
          rfl
        have nb2' := Dn.mono x45 _ nb2
        have nm' := Dn.mono (x34.trans x45) _ nm
        have np' := Dn.mono (x34.trans x45) _ npt
        refine evn_set (d := .int (l.due * (x + y) / l.cnt)) (evd_is (evd_op (evd_op (evd_op (evd_at nln) (evd_int (i := ((5 : Nat) : Int))) (r_ixT rfl)) (evd_op (evd_at nb2') (evd_at (d := .int (j : Nat)) cI) (r_ixT (at_ e3))) (r_I (.inr ⟨by omega, by omega⟩) fun _ => .int _)) (evd_op (evd_at nln) (evd_int (i := ((1 : Nat) : Int))) (r_ixT rfl)) (r_I ⟨by omega, by omega⟩ fun _ => .int _)) ?_) (fun vs G6 x6 ns => ?_)
        · show PyData.int ((l.due * (x + y)).fdiv l.cnt) = .int (l.due * (x + y) / l.cnt)
          rw [Int.fdiv_eq_ediv_of_nonneg _ (by omega)]
        · cases ns
          refine evn_no1 (evt_is (evt_test (evd_op (evd_op (evd_at np' x6) (evd_at (d := .int (j : Nat)) cI) (r_ixT (at_ e4))) (evd_is (d' := .int (l.due * (x + y) / l.cnt - l.due * x / l.cnt)) (evd_op (evd_at (d := .int (l.due * (x + y) / l.cnt)) cI) (evd_op (evd_op (evd_op (evd_at nln x6) (evd_int (i := ((5 : Nat) : Int))) (r_ixT rfl)) (evd_op (evd_op (evd_at nb2' x6) (evd_at (d := .int (j : Nat)) cI) (r_ixT (at_ e3))) (evd_op (evd_at nm' x6) (evd_at (d := .int (j : Nat)) cI) (r_ixT (at_ e2))) (r_I0 fun _ => .int _)) (r_I (.inr ⟨by omega, by omega⟩) fun _ => .int _)) (evd_op (evd_at nln x6) (evd_int (i := ((1 : Nat) : Int))) (r_ixT rfl)) (r_I ⟨by omega, by omega⟩ fun _ => .int _)) (r_I0 fun _ => .int _)) ?_) (r_ne (b := true) ?_))) rfl) (fun G7 x7 => ⟨_, _, _, rfl, (x45.trans x6).trans x7⟩)
          · show PyData.int (l.due * (x + y) / l.cnt - (l.due * (x + y - y)).fdiv l.cnt) = _
            rw [Int.fdiv_eq_ediv_of_nonneg _ (by omega), Int.add_sub_cancel]
          · show some (decide (_ = _)) = some true
            rw [decide_eq_true rfl]
  · obtain ⟨vb3, b11, b18, b19, b22, b24, rfl, nb3⟩ := hB
    rw [List.take_length, tot] at nb3
    have x12 := x1.trans x2
    have F2 := F.mono x12
    have nt2 := Dn.mono x2 _ nt
    have lenU : (upTo ls.length).length = ls.length := by
      unfold upTo
      rw [List.length_map, List.length_range]
    have sums : ∀ {j : Nat} {l : Ln}, ls[j]? = some l → ((refsF ls (zerosF ls) ms).map fun q => q.getD j 0).sum = l.due := fun {j l} hl => by
      have lt := (List.getElem?_eq_some_iff.mp hl).1
      obtain ⟨x, y, e1, e2, e3⟩ := refs_sum hl fit (List.length_map _)
      rw [tot, List.getElem?_map, hl] at e2
      cases e2
      unfold zerosF at e1
      rw [List.getElem?_map, hl] at e1
      cases e1
      have c1 := (F.b.each l (List.mem_of_getElem? hl)).c1
      rw [e3]
      show l.due * l.cnt / l.cnt - l.due * 0 / l.cnt = l.due
      rw [Int.mul_zero, Int.zero_ediv, Int.sub_zero, Int.mul_ediv_cancel _ (by omega)]
    refine evl_no (evt_test (evd_op (evd_is (d' := .list (intL (ls.map (·.due)))) (evd_lcN (r := fun d => match d with | .int j => .int ((ls.map (·.due)).getD j.toNat 0) | _ => .none) (ei_range (n := ls.length) (ea_cons (evd_cb (ea_cons (evd_at F2.nl) ea_nil) (r_lenT lenL)) ea_nil) (by omega)) (by omega) (fun x => rfl) (fun d hd y G3 x3 ny => ?_)) ?_)
      (evd_is (d' := .list (intL (ls.map (·.due)))) (evd_lcN (r := fun d => match d with | .tuple [_, _, _, _, _, z] => z | _ => .none) (ei_tup (evd_at F2.nl)) (by omega) (fun x => rfl) (fun d hd y G1 e ny => ?_)) ?_) (r_neL _))) (fun G3 x3 => ?_)
    · unfold upTo at hd
      obtain ⟨j, hj, rfl⟩ := List.mem_map.mp hd
      have lt := List.mem_range.mp hj
      obtain ⟨l, hl⟩ : ∃ l, ls[j]? = some l := ⟨_, List.getElem?_eq_getElem lt⟩
      cases ny
      refine evd_is (evd_cb (ea_cons (evd_is (d' := .list (intL ((refsF ls (zerosF ls) ms).map fun q => q.getD j 0))) (evd_lcN (r := fun d => match d with | .tuple xs => xs.getD j .none | _ => .none) (ei_tup (evd_at nt2 x3)) (by omega) (fun x => rfl) (fun d hd y G4 x4 ny => ?_)) ?_) ea_nil) (r_sum (sums hl))) ?_
      · obtain ⟨q, hq, rfl⟩ := List.mem_map.mp hd
        have lq := refs_len2 fit q hq
        refine evd_op (evd_at ny) (evd_at (d := .int (j : Nat)) cI) (r_ixT ?_)
        have lt2 : j < (intL q).length := by rw [show (intL q).length = q.length from List.length_map _, lq]; exact lt
        rw [List.getElem?_eq_getElem lt2]
        show _ = some ((intL q).getD j .none)
        rw [List.getD_eq_getElem?_getD, List.getElem?_eq_getElem lt2]
        rfl
      · unfold rowsD
        rw [List.map_map]
        unfold intL
        rw [List.map_map]
        refine congrArg PyData.list (List.map_congr_left fun q hq => ?_)
        have lq := refs_len2 fit q hq
        show (intL q).getD j .none = .int (q.getD j 0)
        unfold intL
        rw [List.getD_eq_getElem?_getD, List.getElem?_map, List.getD_eq_getElem?_getD, List.getElem?_eq_getElem (by omega)]
        rfl
      · show PyData.int l.due = .int ((ls.map (·.due)).getD ((j : Nat) : Int).toNat 0)
        rw [Int.toNat_natCast, List.getD_eq_getElem?_getD, List.getElem?_map, hl]
        rfl
    · refine congrArg PyData.list (List.ext_getElem? fun i => ?_)
      unfold upTo intL
      rw [List.map_map, List.getElem?_map, List.getElem?_map]
      by_cases hi : i < ls.length
      · rw [List.getElem?_range hi, List.getElem?_eq_getElem (by rw [List.length_map]; exact hi)]
        show some (PyData.int ((ls.map (·.due)).getD ((i : Nat) : Int).toNat 0)) = _
        rw [Int.toNat_natCast, List.getD_eq_getElem?_getD, List.getElem?_eq_getElem (by rw [List.length_map]; exact hi)]
        rfl
      · rw [List.getElem?_eq_none (by rw [List.length_range]; omega), List.getElem?_eq_none (by rw [List.length_map]; omega)]
        rfl
    · obtain ⟨l, hl, rfl⟩ := List.mem_map.mp hd
      exact evd_op (evd_at ny) (evd_int (i := ((5 : Nat) : Int))) (r_ixT rfl)
    · unfold intL
      rw [List.map_map, List.map_map]
      rfl
    · exact pr r sc t ps od ls vc vp vo vl vb3 _ _ _ _ _ _ _ _ _ _ _ _ _ _ _ _ _ _ _ _ _ G3 (F2.mono x3) (Dn.mono x3 _ nb3)
end
end Sh

set_option Elab.async false
set_option linter.all false
set_option maxRecDepth 100000
set_option maxHeartbeats 4000000
/-! the law: rows drawn -/
namespace Sh
open PySem PySem.Spec L2
open PyProof.Rows hiding St
open Evl (Ex)
open ShW (rSumK rMinS)
def subOk : List Int → List Int → Prop
  | m :: ms, l :: ls => (0 ≤ m ∧ m ≤ l) ∧ subOk ms ls
  | [], [] => True
  | _, _ => False
def subV : List Int → List Int → List Int
  | x :: xs, y :: ys => (x - y) :: subV xs ys
  | _, _ => []
def minusOf : D → D
  | .tuple [.int a, .int b] => .int (a - b)
  | _ => .none
theorem zip_minus : ∀ xs ys : List Int, (zipD (intL xs) (intL ys)).map minusOf = intL (subV xs ys)
  | [], _ => rfl
  | _ :: _, [] => rfl
  | x :: xs, y :: ys => by
    show PyData.int (x - y) :: (zipD (intL xs) (intL ys)).map minusOf = _
    rw [zip_minus xs ys]
    rfl
def Rest : List Ln → List Int → List Int → Prop
  | l :: ls, b :: bs, f :: fs => (0 ≤ b ∧ 0 ≤ f ∧ b + f = l.cnt) ∧ Rest ls bs fs
  | [], [], [] => True
  | _, _, _ => False
theorem rest_step : ∀ {ls : List Ln} {b f m : List Int}, Rest ls b f → subOk m f → Rest ls (addV b m) (subV f m)
  | [], [], [], [], _, _ => trivial
  | l :: ls, b :: bs, f :: fs, m :: ms, ⟨⟨h1, h2, h3⟩, h4⟩, ⟨⟨k1, k2⟩, k3⟩ => ⟨⟨by omega, by omega, by omega⟩, rest_step h4 k3⟩
  | [], [], [], _ :: _, _, h => h.elim
  | _ :: _, _ :: _, _ :: _, [], _, h => h.elim
  | [], _ :: _, _, _, h, _ => h.elim
  | [], [], _ :: _, _, h, _ => h.elim
  | _ :: _, [], _, _, h, _ => h.elim
  | _ :: _, _ :: _, [], _, h, _ => h.elim
theorem rest_ref : ∀ {ls : List Ln} {b f m : List Int}, Rest ls b f → subOk m f → b.length = ls.length ∧ m.length = ls.length ∧ countsB ls b = true ∧ countsB ls m = true ∧ countsB ls (addV b m) = true
  | [], [], [], [], _, _ => ⟨rfl, rfl, rfl, rfl, rfl⟩
  | l :: ls, b :: bs, f :: fs, m :: ms, ⟨⟨h1, h2, h3⟩, h4⟩, ⟨⟨k1, k2⟩, k3⟩ => by
    obtain ⟨e1, e2, e3, e4, e5⟩ := rest_ref h4 k3
    refine ⟨congrArg Nat.succ e1, congrArg Nat.succ e2, ?_, ?_, ?_⟩
    · show ((decide (0 ≤ b) && decide (b ≤ l.cnt)) && countsB ls bs) = true
      rw [e3, decide_eq_true h1, decide_eq_true (by omega)]
      rfl
    · show ((decide (0 ≤ m) && decide (m ≤ l.cnt)) && countsB ls ms) = true
      rw [e4, decide_eq_true k1, decide_eq_true (by omega)]
      rfl
    · show ((decide (0 ≤ b + m) && decide (b + m ≤ l.cnt)) && countsB ls (addV bs ms)) = true
      rw [e5, decide_eq_true (by omega), decide_eq_true (by omega)]
      rfl
  | [], [], [], _ :: _, _, h => h.elim
  | _ :: _, _ :: _, _ :: _, [], _, h => h.elim
  | [], _ :: _, _, _, h, _ => h.elim
  | [], [], _ :: _, _, h, _ => h.elim
  | _ :: _, [], _, _, h, _ => h.elim
  | _ :: _, _ :: _, [], _, h, _ => h.elim
theorem rest_all : ∀ {ls : List Ln} {b f : List Int}, Rest ls b f → subOk f f ∧ subV f f = zerosF ls ∧ f.length = ls.length
  | [], [], [], _ => ⟨trivial, rfl, rfl⟩
  | l :: ls, b :: bs, f :: fs, ⟨⟨h1, h2, h3⟩, h4⟩ => by
    obtain ⟨e1, e2, e3⟩ := rest_all h4
    refine ⟨⟨⟨h2, Int.le_refl _⟩, e1⟩, ?_, congrArg Nat.succ e3⟩
    show (f - f) :: subV fs fs = 0 :: zerosF ls
    rw [e2, Int.sub_self]
  | [], _ :: _, _, h => h.elim
  | [], [], _ :: _, h => h.elim
  | _ :: _, [], _, h => h.elim
  | _ :: _, _ :: _, [], h => h.elim
theorem rest_end : ∀ {ls : List Ln} {b : List Int}, Rest ls b (zerosF ls) → b = ls.map (·.cnt)
  | [], [], _ => rfl
  | l :: ls, b :: bs, ⟨⟨h1, h2, h3⟩, h4⟩ => by
    rw [rest_end h4, List.map_cons, ← h3, Int.add_zero]
  | [], _ :: _, h => h.elim
  | _ :: _, [], h => h.elim
theorem rest_start : ∀ {ls : List Ln}, (∀ l ∈ ls, LnOk l) → Rest ls (zerosF ls) (ls.map (·.cnt))
  | [], _ => trivial
  | l :: ls, h => ⟨⟨Int.le_refl _, by have := (h l List.mem_cons_self).c1; show 0 ≤ l.cnt; omega, Int.zero_add _⟩, rest_start fun x hx => h x (List.mem_cons_of_mem _ hx)⟩
theorem sub_nonneg : ∀ {m f : List Int}, subOk m f → 0 ≤ m.sum
  | [], [], _ => Int.le_refl _
  | m :: ms, f :: fs, ⟨⟨h1, _⟩, h3⟩ => by
    have := sub_nonneg h3
    rw [List.sum_cons]
    omega
  | [], _ :: _, h => h.elim
  | _ :: _, [], h => h.elim
theorem sub_no : ∀ {m f : List Int}, subOk m f → m.sum ≤ 0 → subV f m = f
  | [], [], _, _ => rfl
  | m :: ms, f :: fs, ⟨⟨h1, _⟩, h3⟩, h => by
    have := sub_nonneg h3
    rw [List.sum_cons] at h
    show (f - m) :: subV fs ms = f :: fs
    rw [sub_no h3 (by omega), show f - m = f by omega]
  | [], _ :: _, h, _ => h.elim
  | _ :: _, [], h, _ => h.elim
theorem rest_few : ∀ {ls : List Ln} {b f : List Int}, Rest ls b f → (∀ l ∈ ls, LnOk l) → ∀ x ∈ f, 0 ≤ x ∧ x ≤ 99
  | [], [], [], _, _, x, h => nomatch h
  | l :: ls, b :: bs, f :: fs, ⟨⟨h1, h2, h3⟩, h4⟩, k, x, h => by
    rcases List.mem_cons.mp h with rfl | h
    · have := (k l List.mem_cons_self).c9
      exact ⟨h2, by omega⟩
    · exact rest_few h4 (fun x hx => k x (List.mem_cons_of_mem _ hx)) x h
  | [], _ :: _, _, h, _, _, _ => h.elim
  | [], [], _ :: _, h, _, _, _ => h.elim
  | _ :: _, [], _, h, _, _, _ => h.elim
  | _ :: _, _ :: _, [], h, _, _, _ => h.elim
theorem fit_snoc {ls : List Ln} {m : List Int} : ∀ {ms : List (List Int)} {b : List Int}, Fit ls b ms → RefIn ls (ms.foldl addV b) m → countsB ls (addV (ms.foldl addV b) m) = true → Fit ls b (ms ++ [m])
  | [], _, _, h1, h2 => .cons h1 h2 .nil
  | _ :: _, _, .cons a b c, h1, h2 => .cons a b (fit_snoc c h1 h2)
theorem drawn_sub : ∀ {f : List Int} {es : List D}, Paired (fun d e => ∃ (o : Int) (v : Nat), d = .int o ∧ e = .int (v : Nat) ∧ (v : Int) < o + 1) (intL f) es → ∃ m, es = intL m ∧ subOk m f
  | [], _, .nil => ⟨[], rfl, trivial⟩
  | o :: f, _, .cons ⟨o', v, e1, e2, h⟩ k => by
    cases e1
    subst e2
    obtain ⟨m, rfl, hm⟩ := drawn_sub k
    exact ⟨(v : Int) :: m, rfl, ⟨by omega, by omega⟩, hm⟩
section
variable {P : Program} {w : World} {K : PySem.W.Frag} {mg : Str → Option Value} {base : Heap} {Cn Cb Cp : Addr} {f : Addr} {cdv : Value} {A : Around} {outer : List Env} {s : Shared} {H : Hp} {E : XK}
theorem law_rows (B : Bi mg) (hr : Room 8 (A.deeper (envOfC "law" (defScope s_law) s.heap.objs.size f cdv)))
    (K__law_taken : Keeps P w K mg base CX0 1 "_law_taken" ["row", "many"] (spTaken K))
    (rest : ∃ tm, PSs (lawX P w K mg base f cdv A outer s H E) ((defBody s_law).drop 12) tm ∧ ∀ (r sc : Addr) (t : Cat) (ps : List Pr) (od : Ord) (ls : List Ln) (ms : List (List Int)) (vc vp vo vl vr : V) (a0 a5 a7 a8 a9 a10 a11 a12 a13 a15 a16 a17 a18 a19 a20 a21 a22 a23 a24 a25 a26 : Option V) (G : Hp),
      LF G t ps od ls vc vp vo vl → Dn G vr (.list (rowsD ms)) → Fit ls (zerosF ls) ms → ms.length ≤ 1000 → ms.foldl addV (zerosF ls) = ls.map (·.cnt) → EvL K r sc tm [a0, some (.ref r), some vc, some vp, some vo, a5, some vl, a7, a8, a9, a10, a11, a12, a13, some vr, a15, a16, a17, a18, a19, a20, a21, a22, a23, a24, a25, a26] G) :
    ∃ tm, PSs (lawX P w K mg base f cdv A outer s H E) ((defBody s_law).drop 10) tm ∧ ∀ (r sc : Addr) (t : Cat) (ps : List Pr) (od : Ord) (ls : List Ln) (vc vp vo vl : V) (a0 a5 a7 a8 a9 a10 a11 a12 a13 a14 a15 a16 a17 a18 a19 a20 a21 a22 a23 a24 a25 a26 : Option V) (G : Hp),
      LF G t ps od ls vc vp vo vl → EvL K r sc tm [a0, some (.ref r), some vc, some vp, some vo, a5, some vl, a7, a8, a9, a10, a11, a12, a13, a14, a15, a16, a17, a18, a19, a20, a21, a22, a23, a24, a25, a26] G := by
  obtain ⟨tm, htm, pr⟩ := rest
  refine ⟨_, (pss_cons (ps_par (i := 13) (j := 14) rfl sc_law.nd rfl rfl (by decide) rfl rfl (pa_cons (pe_lc (own := [("line", 11)]) (g := gName 11) (tt := tYes) rfl sc_law.nd (pi_tup (pv 6)) (blkOk_by (N := ["script", "row", "catalog", "prices", "order", "voucher", "lines", "cents", "gross", "items", "count", "line", "less", "left", "rows", "turn", "told", "back", "more", "part", "net", "tax", "at", "e", "so_far", "one", "two"]) (sc := defScope s_law) (by decide +kernel)) (fun _ _ _ _ _ => (pg_name (i := 11) sc_law.nd rfl (.inl rfl))) (fun _ _ _ _ _ => pts_nil) (fun _ _ _ _ _ => (pe_ix (r := rIxT K) ix_tup (pv 11) pe_int (fun _ _ => rfl)))) (pa_cons (pe_lst pa_nil) pa_nil)) (by rfl))
    (pss_cons (ps_for PassesOwn.never rfl (pi_range1 rfl B.range (pa_cons pe_int pa_nil)) (pg_name (i := 15) sc_law.nd rfl (.inl rfl))
      (pss_cons (ps_setLc (i := 18) (own := [("one", 25)]) (g := gName 25) (tt := tYes) rfl sc_law.nd rfl rfl (sw_true rfl rfl rfl (by decide +kernel)) (pi_list (pv 13)) (blkOk_by (N := ["script", "row", "catalog", "prices", "order", "voucher", "lines", "cents", "gross", "items", "count", "line", "less", "left", "rows", "turn", "told", "back", "more", "part", "net", "tax", "at", "e", "so_far", "one", "two"]) (sc := defScope s_law) (by decide +kernel)) (fun _ _ _ _ _ => (pg_name (i := 25) sc_law.nd rfl (.inl rfl))) (fun _ _ _ _ _ => pts_nil) (fun _ _ _ _ _ => (pe_callD K__law_taken (hr.mono (by omega)) (pa_cons (pv 1) (pa_cons (pe_op op_add (pv 25) pe_int) pa_nil)))))
    (pss_cons (ps_if (PW.pt (pw_or (pt_cmpR op_eq (pe_callB (ShW.cr_sumK (k := .l) rfl) rfl B.sum bi_sum (pa_cons (pv 18) pa_nil)) pe_int (nomark _)) (pw_or1 (pt_cmpR op_gt (pv 15) pe_int (nomark _))))) (pss_one (ps_set (i := 18) sc_law.nd rfl (.inl rfl) (pe_callTy call_list_of rfl B.list bi_list (pa_cons (pv 13) pa_nil)))) pss_nil)
    (pss_cons (ps_setLc (i := 13) (own := [("one", 25), ("two", 26)]) (g := gTup K 2 (gCons (gName 25) (gCons (gName 26) gNil))) (tt := tYes) rfl sc_law.nd rfl rfl (sw_true rfl rfl rfl (by decide +kernel)) (ShW.pi_zK (k1 := .l) (k2 := .l) B.zip (pa_cons (pv 13) (pa_cons (pv 18) pa_nil))) (blkOk_by (N := ["script", "row", "catalog", "prices", "order", "voucher", "lines", "cents", "gross", "items", "count", "line", "less", "left", "rows", "turn", "told", "back", "more", "part", "net", "tax", "at", "e", "so_far", "one", "two"]) (sc := defScope s_law) (by decide +kernel)) (fun _ _ _ _ _ => (pg_tup rfl (pgs_cons (pg_name (i := 25) sc_law.nd rfl (.inl rfl)) (pgs_cons (pg_name (i := 26) sc_law.nd rfl (.inl rfl)) pgs_nil)))) (fun _ _ _ _ _ => pts_nil) (fun _ _ _ _ _ => (pe_op op_sub (pv 25) (pv 26))))
    (pss_one (ps_if (pt_cmpR op_gt (pe_callB (ShW.cr_sumK (k := .l) rfl) rfl B.sum bi_sum (pa_cons (pv 18) pa_nil)) pe_int (nomark _)) (pss_one (ps_expr (pe_bm PySem.F.plainAttrs_list PySem.F.slot_list_append PySem.F.type_list_append mt_append (pv 14) (pa_cons (pe_callTy call_tuple_of rfl B.tuple bi_tuple (pa_cons (pv 18) pa_nil)) pa_nil)))) pss_nil))))))
    (by exact htm))), fun r sc t ps od ls vc vp vo vl a0 a5 a7 a8 a9 a10 a11 a12 a13 a14 a15 a16 a17 a18 a19 a20 a21 a22 a23 a24 a25 a26 G F => ?_⟩
  have l3 := F.b.l3
  have len : (ls.map Ln.d).length = ls.length := List.length_map _
  have cI : ∀ {G : Hp} {i : Int}, Dn G (.int i) (.int i) := .int _
  intro H0 st E0 q
  refine go_parS (go_cons ((evd_is (d' := .list (intL (ls.map (·.cnt)))) (evd_lcN (r := fun d => match d with | .tuple (_ :: z :: _) => z | _ => .none) (ei_tup (evd_at F.nl)) (by omega) (fun x => rfl) (fun d hd y G1 e ny => ?_)) ?_ : EvD _ _ G _) H0 st.s _ fun vlf G1 H1 g1 nlf => ?_))
  · obtain ⟨l, hl, rfl⟩ := List.mem_map.mp hd
    exact evd_op (evd_at ny) (evd_int (i := ((1 : Nat) : Int))) (r_ixT rfl)
  · unfold intL
    rw [List.map_map, List.map_map]
    rfl
  · refine go_cons (go_lst (go_nil ⟨Evl.sz_of (by show 0 ≤ 100000; decide), fun p hp => go_nil ⟨vlf, .ref p, rfl, go_for ?_⟩⟩))
    have st1 := st.gr g1
    have ne := st1.ne hp
    have hp0 : H0 p = none := Evl.fresh_back g1.h hp
    have gs0 : Gs [p, r] G H0 G1 (upd H1 p (.lst [])) := ((Gq.of st g1).gs).new hp
    have fresh := gs0.n p (by simp)
    have row0 : RowAt r sc (upd H1 p (.lst [])) := RowAt.put st1.row ne
    refine for_data (ds := upTo 40) (G := G1) (ei_range (n := 40) (ea_cons evd_int ea_nil) (by decide)) gs0.s (fun G2 H2 i σ' H' => ∃ Gi xs ms lf vlf a15 a18, Ex G2 Gi ∧ Gs [p, r] G H0 Gi H' ∧ RowAt r sc H' ∧ H' p = some (.lst xs) ∧ DnL Gi xs (rowsD ms) ∧ Dn Gi vlf (.list (intL lf)) ∧ Rest ls (ms.foldl addV (zerosF ls)) lf ∧ Fit ls (zerosF ls) ms ∧ ms.length ≤ i ∧ (31 < i → lf = zerosF ls) ∧
        σ' = [a0, some (.ref r), some vc, some vp, some vo, a5, some vl, a7, a8, a9, a10, a11, a12, some vlf, some (.ref p), a15, a16, a17, a18, a19, a20, a21, a22, a23, a24, a25, a26]) (fun G2 H2 i σ' H' ⟨Gi, _, _, _, _, _, _, x, gs, _⟩ => x.trans gs.s) (fun G2 H2 g2 => ?_) (fun G2 H2 i d x σ' H' G3 H3 g2 hd pv g3 nx => ?_) (fun G2 H2 σ' H' g2 pv => ?_)
    · have R0 : Rest ls (([] : List (List Int)).foldl addV (zerosF ls)) (ls.map (·.cnt)) := rest_start F.b.each
      exact ⟨G2, [], [], _, vlf, _, _, Ex.refl _, gs0.step g2, row0.gr g2, g2.h _ _ upd_same, .nil, Dn.mono g2.g _ nlf, R0, .nil, Nat.le_refl _, (fun h => absurd h (by decide)), rfl⟩
    · have lt : i < 40 := by
        have z := (List.getElem?_eq_some_iff.mp hd).1
        unfold upTo at z
        rw [List.length_map, List.length_range] at z
        exact z
      unfold upTo at hd
      rw [List.getElem?_map, List.getElem?_range lt] at hd
      cases hd
      cases nx
      obtain ⟨Gi, xs, ms, lf, vlf, a15, a18, x1, gs, row, hpi, mm, nlf, R, fit, few, zz, rfl⟩ := pv
      obtain ⟨G4, e34, g4⟩ := grow_up x1 gs.s g3
      have gs4 := gs.step g4
      have row4 := row.gr g4
      have hp4 := g4.h _ _ hpi
      have lfFew := rest_few R F.b.each
      have lfLen := (rest_all R).2.2
      have lfl : (intL lf).length = lf.length := List.length_map _
      have st4 := gs4.row (by simp) row4 st.scr
      have nlf4 := Dn.mono g4.g _ nlf
      show tSeq _ _ _ _ _
      refine go_set ((evr_lc (P := fun d => ∃ m, d = .list (intL m) ∧ subOk m lf) (P1 := fun d e => ∃ (o : Int) (v : Nat), d = .int o ∧ e = .int (v : Nat) ∧ (v : Int) < o + 1) (B := fun d G5 σ2 => ∃ x, σ2 = (wipe [a0, some (.ref r), some vc, some vp, some vo, a5, some vl, a7, a8, a9, a10, a11, a12, some vlf, some (.ref p), some (.int (i : Nat)), a16, a17, a18, a19, a20, a21, a22, a23, a24, a25, a26] [25]).set 25 (some x) ∧ Dn G5 x d) (ei_list (evd_at nlf4)) (by omega) (fun d hd G5 x5 => eg_name) (fun d G5 σ2 ⟨x, e, _⟩ => by rw [e]; rfl) (fun d hd G5 σ2 x5 hB => ?_) (fun es pe => ?_) : EvR K r sc _ _ G4 _) H3 st4 _ fun vm d G5 H5 ⟨m, ed, sm⟩ g5 nm => ?_)
      · obtain ⟨x, rfl, nx⟩ := hB
        obtain ⟨o, ho, rfl⟩ := List.mem_map.mp hd
        cases nx
        obtain ⟨o0, o9⟩ := lfFew o ho
        exact evr_tk rfl (evr_d (evd_op (evd_at (d := .int o) cI) evd_int (r_I0 fun _ => .int _)) ⟨o + 1, rfl, by omega, by omega, fun v lv => ⟨o, v, rfl, rfl, lv⟩⟩)
      · obtain ⟨m, rfl, hm⟩ := drawn_sub pe
        exact ⟨m, rfl, hm⟩
      · subst ed
        have nlf5 := Dn.mono g5.g _ nlf4
        have gs5 := gs4.stepQ (by simp) g5
        have row5 : RowAt r sc H5 := g5.at
        have hp5 := g5.h _ _ ne hp4
        have sml : (intL m).length = m.length := List.length_map _
        have mLen := (rest_ref R sm).2.1
        refine go_seq ((evn_if (B := fun G6 σ6 => ∃ vm m, σ6 = [a0, some (.ref r), some vc, some vp, some vo, a5, some vl, a7, a8, a9, a10, a11, a12, some vlf, some (.ref p), some (.int (i : Nat)), a16, a17, some vm, a19, a20, a21, a22, a23, a24, a25, a26] ∧ Dn G6 vm (.list (intL m)) ∧ subOk m lf ∧ (30 < i → m = lf)) (b := decide (m.sum = 0) || decide ((i : Int) > 30)) (evt_or (evt_test (evd_op (evd_cb (ea_cons (evd_at nm) ea_nil) (r_sumK (k := .l) (ns := m) rfl)) (evd_int (i := 0)) (r_eq rfl))) (fun _ => evt_test (evd_op (evd_at (d := .int (i : Nat)) cI) evd_int (r_I0 fun _ => .bl _))))
          (fun hb G6 x6 => evn_set1 (evd_cb (ea_cons (evd_at nlf5 x6) ea_nil) r_listL) (fun u G7 x7 nu => ⟨u, lf, rfl, nu, (rest_all R).1, fun _ => rfl⟩)) (fun hb G6 x6 => evn_next ⟨vm, m, rfl, Dn.mono x6 _ nm, sm, fun h => ?_⟩) : EvN _ _ G5 _) H5 gs5.s _ fun σ6 G6 H6 g6 hB => ?_)
        · rw [Bool.or_eq_false_iff] at hb
          exact absurd (of_decide_eq_false hb.2) (by omega)
        · obtain ⟨vm2, m2, rfl, nm2, sm2, all2⟩ := hB
          have m2Len := (rest_ref R sm2).2.1
          have m2l : (intL m2).length = m2.length := List.length_map _
          refine go_set ((evd_is (d' := .list (intL (subV lf m2))) (evd_lcP (r := minusOf) (ei_zK (k1 := .l) (k2 := .l) (ea_cons (evd_at (Dn.mono g6.g _ nlf5)) (ea_cons (evd_at nm2) ea_nil))) (by rw [zipD_len]; omega) (fun d hd => ?_) (fun x y => rfl) (fun a1 b1 hab x y G7 x7 nx ny => ?_)) (congrArg PyData.list (zip_minus lf m2)) : EvD _ _ G6 _) H6 g6.s _ fun vlf2 G7 H7 g7 nlf2 => ?_)
          · obtain ⟨a, _, b, _, rfl⟩ := zip_in hd
            exact ⟨_, _, rfl⟩
          · obtain ⟨a, _, b, _, e⟩ := zip_in hab
            cases e
            exact evd_op (evd_at nx) (evd_at ny) (r_I0 fun _ => .int _)
          · have gs7 := (gs5.step g6).step g7
            have row7 := (row5.gr g6).gr g7
            have hp7 := g7.h _ _ (g6.h _ _ hp5)
            have nm7 := Dn.mono g7.g _ nm2
            have mm7 : DnL G7 xs (rowsD ms) := DnL.mono (((g4.g.trans g5.g).trans g6.g).trans g7.g) _ mm
            have x27 : Ex G2 G7 := (((x1.trans g4.g).trans g5.g).trans g6.g).trans g7.g
            have xl : xs.length = ms.length := by rw [mm7.length]; exact List.length_map _
            have zz' : 31 < i + 1 → subV lf m2 = zerosF ls := fun h => by
              rw [all2 (by omega)]
              exact (rest_all R).2.1
            obtain ⟨rb, rm, rcb, rcm, rca⟩ := rest_ref R sm2
            refine go_if (G := G7) (b := decide (m2.sum > 0)) (evt_test (evd_op (evd_cb (ea_cons (evd_at nm7) ea_nil) (r_sumK (k := .l) (ns := m2) rfl)) (evd_int (i := 0)) (r_I0 fun _ => .bl _))) gs7.s (fun hb G8 H8 g8 => ?_) (fun hb G8 H8 g8 => ?_)
            · refine go_drop (go_bm (go_var rfl ⟨.inl ⟨rfl, _, .inl (.inl (g8.h _ _ hp7))⟩, go_cons ((evd_cb (ea_cons (evd_at nm7 g8.g) ea_nil) r_tupL : EvD _ _ G8 (.tuple (intL m2))) H8 g8.s _ fun vt G9 H9 g9 nt => go_nil (app_at (g9.h _ _ (g8.h _ _ hp7)) (by omega) ?_))⟩))
              have gs9 := (gs7.step g8).step g9
              refine ⟨G9, xs ++ [vt], ms ++ [m2], subV lf m2, vlf2, _, _, (x27.trans g8.g).trans g9.g, gs9.put (by simp), RowAt.put ((row7.gr g8).gr g9) ne, upd_same, ?_, Dn.mono (g8.g.trans g9.g) _ nlf2, ?_, fit_snoc fit ⟨F.b, rb, rm, rcb, rcm⟩ rca, by rw [List.length_append, List.length_singleton]; omega, zz', rfl⟩
              · unfold rowsD
                rw [List.map_append]
                exact (DnL.mono (g8.g.trans g9.g) _ mm7).snoc nt
              · rw [List.foldl_append]
                exact rest_step R sm2
            · have h0 : m2.sum ≤ 0 := by
                have z := of_decide_eq_false hb
                omega
              refine ⟨G8, xs, ms, subV lf m2, vlf2, _, _, x27.trans g8.g, gs7.step g8, row7.gr g8, g8.h _ _ hp7, DnL.mono g8.g _ mm7, Dn.mono g8.g _ nlf2, ?_, fit, by omega, zz', rfl⟩
              rw [sub_no sm2 h0]
              exact R
    · obtain ⟨Gi, xs, ms, lf, vlf, a15, a18, x1, gs, row, hpi, mm, nlf, R, fit, few, zz, rfl⟩ := pv
      have lu : (upTo 40).length = 40 := by
        unfold upTo
        rw [List.length_map, List.length_range]
      rw [lu] at few zz
      have zl := zz (by decide)
      subst zl
      have gm2 : Gs [r] G H0 (upd Gi p (.lst xs)) H' := gs.close hp0 hpi (by simp [ne])
      have gq := gm2.q row st.scr
      have up : Ex Gi (upd Gi p (.lst xs)) := Ex.new (gs.n p (by simp))
      exact pr r sc t ps od ls ms vc vp vo vl (.ref p) _ _ _ _ _ _ _ _ _ _ _ _ _ _ _ _ _ _ _ _ _ (upd Gi p (.lst xs)) (F.mono gq.g) (.lst upd_same (DnL.mono up _ mm)) fit (by omega) (rest_end R) H' gq.st E0 q
end
end Sh

set_option Elab.async false
set_option linter.all false
set_option maxRecDepth 100000
set_option maxHeartbeats 4000000
/-! the law: the lines of the bill -/
namespace Sh
open PySem PySem.Spec L2
open PyProof.Rows hiding St
open Evl (Ex)
open ShW (rSumK rMinS)
section
variable {v : Int} {as : List Int}
theorem part_le (h : SumOk v as) (hv : v ≤ as.sum) {j : Nat} {x : Int} (e : as[j]? = some x) : ∃ o, (sharedF v as)[j]? = some o ∧ 0 ≤ o ∧ o ≤ x := by
  have x0 := h.w0 x (List.mem_of_getElem? e)
  have f0 : 0 ≤ fl v as x := Int.ediv_nonneg (Int.mul_nonneg h.a0 x0) (by have := h.T; omega)
  have h1 : v * x ≤ as.sum * x := Int.mul_le_mul_of_nonneg_right hv x0
  have h2 : fl v as x * as.sum + rst v as x = v * x := by unfold rst; omega
  have r0 := rst_lo h x
  have T := h.T
  obtain ⟨z1, z2⟩ := shared_at (a := v) e
  by_cases c : chosen v as j
  · refine ⟨_, z1 c, by omega, ?_⟩
    have rp := pick_pos h e c
    have h3 : fl v as x * as.sum < x * as.sum := by rw [Int.mul_comm x]; omega
    have := Int.lt_of_mul_lt_mul_right h3 (by omega)
    omega
  · refine ⟨_, z2 c, f0, ?_⟩
    have h3 : fl v as x * as.sum ≤ x * as.sum := by rw [Int.mul_comm x]; omega
    exact Int.le_of_mul_le_mul_right h3 T
theorem off_at (h : AmOk v as) {j : Nat} {x : Int} (e : as[j]? = some x) : ∃ o, (offsF v as)[j]? = some o ∧ 0 ≤ o ∧ o ≤ x := by
  have x0 := h.lo x (List.mem_of_getElem? e)
  unfold offsF
  by_cases z : as.sum = 0
  · rw [if_pos z]
    exact ⟨0, by rw [List.getElem?_map, e]; rfl, Int.le_refl _, x0⟩
  · rw [if_neg z]
    have W := h.wk z
    have T := W.T
    have v0 := h.v0
    exact part_le ⟨by omega, W.lo, T⟩ (by omega) e
theorem offs_sum (h : AmOk v as) : (offsF v as).sum = min v as.sum := by
  have v0 := h.v0
  unfold offsF
  by_cases z : as.sum = 0
  · rw [if_pos z, z]
    have e : (as.map fun _ => (0 : Int)).sum = 0 := by
      clear h z
      induction as with
      | nil => rfl
      | cons a as ih => rw [List.map_cons, List.sum_cons, ih] <;> rfl
    rw [e]
    omega
  · rw [if_neg z]
    have W := h.wk z
    have T := W.T
    exact shared_sum ⟨by omega, W.lo, T⟩
end
theorem zipW_at {α β γ : Type} {f : α → β → γ} {xs : List α} {ys : List β} {j : Nat} {x : α} {y : β} (h1 : xs[j]? = some x) (h2 : ys[j]? = some y) : (List.zipWith f xs ys)[j]? = some (f x y) := by
  rw [List.getElem?_zipWith, h1, h2]
theorem dues_sum : ∀ (rs : List Rw) (os : List Int), os.length = rs.length → ((List.zipWith mkLn rs os).map (·.due)).sum = (rs.map Rw.sum).sum - os.sum
  | [], [], _ => rfl
  | r :: rs, o :: os, h => by
    rw [List.zipWith_cons_cons, List.map_cons, List.sum_cons, dues_sum rs os (Nat.succ.inj h), List.map_cons, List.sum_cons, List.sum_cons]
    show r.net + r.tax - o + _ = r.net + r.tax + _ - _
    omega
  | [], _ :: _, h => nomatch h
  | _ :: _, [], h => nomatch h
theorem offs_map : ∀ (rs : List Rw) (os : List Int), os.length = rs.length → (List.zipWith mkLn rs os).map (·.off) = os
  | [], [], _ => rfl
  | r :: rs, o :: os, h => by
    rw [List.zipWith_cons_cons, List.map_cons, offs_map rs os (Nat.succ.inj h)]
    rfl
  | [], _ :: _, h => nomatch h
  | _ :: _, [], h => nomatch h
structure BF (its : List Str) (ps : List Pr) (ws : List Wish) (z : Int) : Prop where
  p : PricesOk its ps
  w : ∀ x ∈ ws, WishLo its x
  l1 : 1 ≤ ws.length
  l3 : ws.length ≤ 3
  z0 : 0 ≤ z
  z1 : z ≤ 9000
section
variable {its : List Str} {ps : List Pr} {ws : List Wish} {z : Int}
theorem BF.rows (h : BF its ps ws z) : ∀ r ∈ rowsF ps ws, RwOk r := fun r hr => by
  obtain ⟨x, hx, rfl⟩ := List.mem_map.mp hr
  exact row_ok h.p (h.w x hx)
theorem BF.am (h : BF its ps ws z) : AmOk z ((rowsF ps ws).map Rw.sum) := amounts_ok h.z0 h.z1 (by unfold rowsF; rw [List.length_map]; exact h.l1) (by unfold rowsF; rw [List.length_map]; exact h.l3) h.rows
theorem bill_len : (billF z ps ws).length = ws.length := by
  unfold billF
  rw [List.length_zipWith, offs_len, List.length_map]
  unfold rowsF
  rw [List.length_map, Nat.min_self]
theorem BF.at (h : BF its ps ws z) {j : Nat} {x : Wish} (e : ws[j]? = some x) : ∃ o, (billF z ps ws)[j]? = some (mkLn (rowOf ps x) o) ∧ 0 ≤ o ∧ o ≤ (rowOf ps x).net + (rowOf ps x).tax := by
  have e1 : (rowsF ps ws)[j]? = some (rowOf ps x) := by
    unfold rowsF
    rw [List.getElem?_map, e]
    rfl
  have e2 : ((rowsF ps ws).map Rw.sum)[j]? = some (rowOf ps x).sum := by
    rw [List.getElem?_map, e1]
    rfl
  obtain ⟨o, h1, h2, h3⟩ := off_at h.am e2
  exact ⟨o, zipW_at e1 h1, h2, h3⟩
theorem BF.ok (h : BF its ps ws z) : BillOk (billF z ps ws) where
  l1 := by rw [bill_len]; exact h.l1
  l3 := by rw [bill_len]; exact h.l3
  each := fun l hl => by
    obtain ⟨j, hj⟩ := List.getElem?_of_mem hl
    have lt := (List.getElem?_eq_some_iff.mp hj).1
    rw [bill_len] at lt
    obtain ⟨o, e, o0, o1⟩ := h.at (List.getElem?_eq_getElem lt)
    rw [hj] at e
    cases e
    have R := row_ok h.p (h.w _ (List.getElem_mem lt))
    have c4 := R.c4
    have n1 := R.n1
    have t1 := R.t1
    exact ⟨R.nm, R.c1, by show (rowOf ps ws[j]).cnt ≤ 99; omega, R.n0, by show (rowOf ps ws[j]).net ≤ 1000000000; omega, R.t0, by show (rowOf ps ws[j]).tax ≤ 1000000000; omega, o0, o1, rfl⟩
theorem BF.total (h : BF its ps ws z) : ((billF z ps ws).map (·.due)).sum = ((rowsF ps ws).map Rw.sum).sum - min z ((rowsF ps ws).map Rw.sum).sum := by
  unfold billF
  rw [dues_sum _ _ (by rw [offs_len, List.length_map]), offs_sum h.am]
theorem BF.offs : (billF z ps ws).map (·.off) = offsF z ((rowsF ps ws).map Rw.sum) := by
  unfold billF
  exact offs_map _ _ (by rw [offs_len, List.length_map])
end
section
variable {P : Program} {w : World} {K : PySem.W.Frag} {mg : Str → Option Value} {base : Heap} {Cn Cb Cp : Addr} {f : Addr} {cdv : Value} {A : Around} {outer : List Env} {s : Shared} {H : Hp} {E : XK}
theorem law_lines (B : Bi mg) (hr : Room 8 (A.deeper (envOfC "law" (defScope s_law) s.heap.objs.size f cdv)))
    (K__law_alike : Keeps P w K mg base CX0 2 "_law_alike" ["found", "due"] (spD (domAlike 1)))
    (K_taxed : Keeps P w K mg base (L2N.CX P w) 3 "taxed" ["net", "rate"] (spR Cn (dom2 taxF)))
    (K_shared : Keeps P w K mg base (L2N.CX P w) 3 "shared" ["amount", "weights"] (spR Cn (domParts sharedF)))
    (K_total_of : Keeps P w K mg base (L2N.CX P w) 4 "total_of" ["lines"] (spR Cb domTotal))
    (rest : ∃ tm, PSs (lawX P w K mg base f cdv A outer s H E) ((defBody s_law).drop 10) tm ∧ ∀ (r sc : Addr) (t : Cat) (ps : List Pr) (od : Ord) (ls : List Ln) (vc vp vo vl : V) (a0 a5 a7 a8 a9 a10 a11 a12 a13 a14 a15 a16 a17 a18 a19 a20 a21 a22 a23 a24 a25 a26 : Option V) (G : Hp),
      LF G t ps od ls vc vp vo vl → EvL K r sc tm [a0, some (.ref r), some vc, some vp, some vo, a5, some vl, a7, a8, a9, a10, a11, a12, a13, a14, a15, a16, a17, a18, a19, a20, a21, a22, a23, a24, a25, a26] G) :
    ∃ tm, PSs (lawX P w K mg base f cdv A outer s H E) ((defBody s_law).drop 5) tm ∧ ∀ (r sc : Addr) (t : Cat) (ps : List Pr) (od : Ord) (z : Int) (vc vp vo vl : V) (a0 a7 a8 a9 a10 a11 a12 a13 a14 a15 a16 a17 a18 a19 a20 a21 a22 a23 a24 a25 a26 : Option V) (G : Hp),
      LF G t ps od (billF z ps od.ws) vc vp vo vl → BF t.its ps od.ws z → EvL K r sc tm [a0, some (.ref r), some vc, some vp, some vo, some (.int z), some vl, a7, a8, a9, a10, a11, a12, a13, a14, a15, a16, a17, a18, a19, a20, a21, a22, a23, a24, a25, a26] G := by
  obtain ⟨tm, htm, pr⟩ := rest
  refine ⟨_, (pss_cons (ps_par (i := 7) (j := 8) rfl sc_law.nd rfl rfl (by decide) rfl rfl (pa_cons (pe_callTy (call_dictP rfl) rfl B.dict bi_dict (pa_cons (pe_lc (own := [("one", 25)]) (g := gName 25) (tt := tYes) rfl sc_law.nd (pi_tup (pv 3)) (blkOk_by (N := ["script", "row", "catalog", "prices", "order", "voucher", "lines", "cents", "gross", "items", "count", "line", "less", "left", "rows", "turn", "told", "back", "more", "part", "net", "tax", "at", "e", "so_far", "one", "two"]) (sc := defScope s_law) (by decide +kernel)) (fun _ _ _ _ _ => (pg_name (i := 25) sc_law.nd rfl (.inl rfl))) (fun _ _ _ _ _ => pts_nil) (fun _ _ _ _ _ => (pe_tup (pa_cons (pe_ix (r := rIxT K) ix_tup (pv 25) pe_int (fun _ _ => rfl)) (pa_cons (pv 25) pa_nil))))) pa_nil)) (pa_cons (pe_lst pa_nil) pa_nil)) (by rfl))
    (pss_cons (ps_for PassesOwn.never rfl (ShW.pi_zK (k1 := .t) (k2 := .t) B.zip (pa_cons (pe_ix ix_tup (pv 4) pe_int (fun _ _ => rfl)) (pa_cons (pv 6) pa_nil))) (pg_tup rfl (pgs_cons (pg_tup rfl (pgs_cons (pg_name (i := 9) sc_law.nd rfl (.inl rfl)) (pgs_cons (pg_name (i := 10) sc_law.nd rfl (.inl rfl)) pgs_nil))) (pgs_cons (pg_name (i := 11) sc_law.nd rfl (.inl rfl)) pgs_nil)))
      (pss_cons (ps_set (i := 20) sc_law.nd rfl (.inl rfl) (pe_op op_mul (pv 10) (pe_ix ix_tup (pe_dget (hu_of hr) (pv 7) (pe_ix ix_tup (pv 9) pe_int (fun _ _ => rfl)) (fun _ _ => rfl)) pe_int (fun _ _ => rfl))))
    (pss_cons (ps_set (i := 21) sc_law.nd rfl (.inl rfl) (pe_callR K_taxed (hr.mono (by omega)) takes0N (pa_cons (pv 20) (pa_cons (pe_ix ix_tup (pe_dget (hu_of hr) (pv 7) (pe_ix ix_tup (pv 9) pe_int (fun _ _ => rfl)) (fun _ _ => rfl)) pe_int (fun _ _ => rfl)) pa_nil))))
    (pss_cons (ps_expr (pe_bm PySem.F.plainAttrs_list PySem.F.slot_list_append PySem.F.type_list_append mt_append (pv 8) (pa_cons (pe_op op_add (pv 20) (pv 21)) pa_nil)))
    (pss_one (ps_if (PW.pt (pw_or (pt_not (pt_val (pe_callD K__law_alike (hr.mono (by omega)) (pa_cons (pe_slice sl_tupA (pv 11) po_none (po_some pe_int)) (pa_cons (pe_tup (pa_cons (pe_ix ix_tup (pv 9) pe_int (fun _ _ => rfl)) (pa_cons (pv 10) (pa_cons (pv 20) (pa_cons (pv 21) pa_nil))))) pa_nil))))) (pw_or (pt_cmpR op_ne (pe_ix ix_tup (pv 11) pe_int (fun _ _ => rfl)) (pe_op op_sub (pe_op op_add (pv 20) (pv 21)) (pe_ix ix_tup (pv 11) pe_int (fun _ _ => rfl))) (nomark _)) (pw_or1 (pt_cmpR op_lt (pe_ix ix_tup (pv 11) pe_int (fun _ _ => rfl)) pe_int (nomark _)))))) (pss_one (ps_ret pe_bl)) pss_nil))))))
    (pss_cons (ps_set (i := 12) sc_law.nd rfl (.inl rfl) (pe_callB (call_min2 rfl) rfl B.min bi_min (pa_cons (pv 5) (pa_cons (pe_callB (ShW.cr_sumK (k := .l) rfl) rfl B.sum bi_sum (pa_cons (pv 8) pa_nil)) pa_nil))))
    (pss_cons (ps_if (PW.pt (pw_or (pt_cmpR op_ne (pe_callB call_len rfl B.len bi_len (pa_cons (pv 6) pa_nil)) (pe_callB call_len rfl B.len bi_len (pa_cons (pe_ix ix_tup (pv 4) pe_int (fun _ _ => rfl)) pa_nil)) (nomark _)) (pw_or1 (pt_cmpR op_ne (pe_callR K_total_of (hr.mono (by omega)) takes0N (pa_cons (pv 6) pa_nil)) (pe_op op_sub (pe_callB (ShW.cr_sumK (k := .l) rfl) rfl B.sum bi_sum (pa_cons (pv 8) pa_nil)) (pv 12)) (nomark _))))) (pss_one (ps_ret pe_bl)) pss_nil)
    (pss_cons (ps_if (PW.pt (pw_and (pt_cmpR op_gt (pe_callB (ShW.cr_sumK (k := .l) rfl) rfl B.sum bi_sum (pa_cons (pv 8) pa_nil)) pe_int (nomark _)) (pw_and1 (pt_cmpR (op_neD hr.units) (pe_callTy call_tuple_of rfl B.tuple bi_tuple (pa_cons (pe_lc (own := [("line", 11)]) (g := gName 11) (tt := tYes) rfl sc_law.nd (pi_tup (pv 6)) (blkOk_by (N := ["script", "row", "catalog", "prices", "order", "voucher", "lines", "cents", "gross", "items", "count", "line", "less", "left", "rows", "turn", "told", "back", "more", "part", "net", "tax", "at", "e", "so_far", "one", "two"]) (sc := defScope s_law) (by decide +kernel)) (fun _ _ _ _ _ => (pg_name (i := 11) sc_law.nd rfl (.inl rfl))) (fun _ _ _ _ _ => pts_nil) (fun _ _ _ _ _ => (pe_ix (r := rIxT K) ix_tup (pv 11) pe_int (fun _ _ => rfl)))) pa_nil)) (pe_callR K_shared (hr.mono (by omega)) takes0N (pa_cons (pv 12) (pa_cons (pe_callTy call_tuple_of rfl B.tuple bi_tuple (pa_cons (pv 8) pa_nil)) pa_nil))) (nomark _))))) (pss_one (ps_ret pe_bl)) pss_nil)
    (by exact htm)))))), fun r sc t ps od z vc vp vo vl a0 a7 a8 a9 a10 a11 a12 a13 a14 a15 a16 a17 a18 a19 a20 a21 a22 a23 a24 a25 a26 G F b => ?_⟩
  have cI : ∀ {G : Hp} {i : Int}, Dn G (.int i) (.int i) := .int _
  have w1 := b.l1
  have w3 := b.l3
  have lenW : (od.ws.map Wish.d).length = od.ws.length := List.length_map _
  have lenB : (billF z ps od.ws).length = od.ws.length := bill_len
  have lenL : ((billF z ps od.ws).map Ln.d).length = od.ws.length := by rw [List.length_map, lenB]
  have fewP : (ps.map Pr.d).length ≤ 5 := by
    have e := F.tk.its.hi
    rw [← F.pk.its, List.length_map] at e
    rw [List.length_map]
    omega
  have dictE : ps.map (fun p => PyData.tuple [.str p.it, Pr.d p]) = (ps.map fun p => (p.it, Pr.d p)).map fun p => .tuple [.str p.1, p.2] := by rw [List.map_map]; rfl
  have dictK : ((ps.map fun p => (p.it, Pr.d p)).map fun p => ((.str p.1 : D), p.2)) = ps.map fun p => (.str p.it, Pr.d p) := by rw [List.map_map]; rfl
  have nd : ((ps.map fun p => (p.it, Pr.d p)).map (·.1)).Nodup := by
    rw [List.map_map]
    show (ps.map fun p => p.it).Nodup
    rw [F.pk.its]
    exact F.tk.its.nd
  have lenZ : (zipD (od.ws.map Wish.d) ((billF z ps od.ws).map Ln.d)).length = od.ws.length := by rw [zipD_len, lenW, lenL, Nat.min_self]
  have zat : ∀ {j : Nat} {d : D}, (zipD (od.ws.map Wish.d) ((billF z ps od.ws).map Ln.d))[j]? = some d → ∃ x o, od.ws[j]? = some x ∧ d = .tuple [Wish.d x, Ln.d (mkLn (rowOf ps x) o)] ∧ 0 ≤ o ∧ o ≤ (rowOf ps x).net + (rowOf ps x).tax := fun {j d} h => by
    unfold zipD at h
    rw [List.getElem?_zipWith, List.getElem?_map, List.getElem?_map] at h
    cases hx : od.ws[j]? with
    | none => rw [hx] at h; cases h
    | some x =>
      obtain ⟨o, e, o0, o1⟩ := b.at hx
      rw [hx, e] at h
      exact ⟨x, o, rfl, (Option.some.inj h).symm, o0, o1⟩
  refine evl_build2 (ds := zipD (od.ws.map Wish.d) ((billF z ps od.ws).map Ln.d)) (out := fun j => ((od.ws[j]?).map fun x => PyData.int (rowOf ps x).sum).getD .none)
    (I := fun x p j G1 σ' => ∃ a9 a10 a11 a20 a21, σ' = [a0, some (.ref r), some vc, some vp, some vo, some (.int z), some vl, some x, some (.ref p), a9, a10, a11, a12, a13, a14, a15, a16, a17, a18, a19, a20, a21, a22, a23, a24, a25, a26] ∧ Dn G1 x (.dict (ps.map fun p => (.str p.it, Pr.d p))))
    (C := fun d G1 σ' σ2 => ∃ d1 d2 d3 x y u, d = .tuple [.tuple [d1, d2], d3] ∧ σ2 = ((σ'.set 9 (some x)).set 10 (some y)).set 11 (some u) ∧ Dn G1 x d1 ∧ Dn G1 y d2 ∧ Dn G1 u d3)
    (evd_is (d' := .dict (ps.map fun p => (.str p.it, Pr.d p))) (evd_cb (ea_cons (evd_is (evd_lcN (r := fun d => match d with | .tuple (x :: _) => .tuple [x, d] | _ => .none) (ei_tup (evd_at F.np)) (by omega) (fun x => rfl) (fun d hd y G1 e ny => ?_)) ?_) ea_nil) (r_dictP nd)) (congrArg PyData.dict dictK))
    (by omega) (fun x p G1 x1 nx => ei_zK (k1 := .t) (k2 := .t) (ea_cons (evd_op (evd_at F.no x1) (evd_int (i := ((2 : Nat) : Int))) (r_ixT rfl)) (ea_cons (evd_at F.nl x1) ea_nil))) (fun x p i G1 G2 σ' e ⟨b1, b2, b3, b4, b5, e1, m⟩ => ⟨b1, b2, b3, b4, b5, e1, Dn.mono e _ m⟩) (fun x p G1 x1 nx => ⟨_, _, _, _, _, rfl, nx⟩)
    (fun x p j d σ' G1 hd x1 hI => ?_) (fun vx p j d σ' σ2 G1 hd x1 hI hC => ?_) (fun x p σ2 G1 x1 hI np => ?_)
  · obtain ⟨p, hp, rfl⟩ := List.mem_map.mp hd
    exact evd_tup (ea_cons (evd_op (evd_at ny) (evd_int (i := ((0 : Nat) : Int))) (r_ixT rfl)) (ea_cons (evd_at ny) ea_nil)) (by show 2 ≤ 100000; decide)
  · rw [← dictE, List.map_map]
    rfl
  · obtain ⟨w, o, _, rfl, _⟩ := zat hd
    exact fun x H ex n Q q => eg_nest2 x H ex n Q fun σ2 ⟨x, y, u, e, nx, ny, nu⟩ => q σ2 ⟨_, _, _, x, y, u, rfl, e, nx, ny, nu⟩
  · obtain ⟨x, o, hx, rfl, o0, o1⟩ := zat hd
    obtain ⟨b9, b10, b11, b20, b21, rfl, nd7⟩ := hI
    obtain ⟨d1, d2, d3, u1, u2, u3, ed, rfl, m1, m2, m3⟩ := hC
    cases ed
    cases m2
    have hW := b.w x (List.mem_of_getElem? hx)
    obtain ⟨f1, f2⟩ := fst_at hW.ok
    obtain ⟨pm, pf⟩ := price_at (ps := ps) (x := fstI x) (by rw [F.pk.its]; exact hW.ok.its _ f2)
    have pk := F.pk.each _ pm
    have rk := row_ok F.pk hW
    have q0 := pk.c0
    have q1 := pk.c1
    have look : ∀ {G2 : Hp} {σ : L2.St}, Ex G1 G2 → σ[7]? = some (some vx) → σ[9]? = some (some u1) → EvD (tDGet (tVar 7) (tOp (rIxT K) (tVar 9) (tC (.int 0)))) σ G2 (Pr.d (priceOf ps (fstI x))) := fun e h7 h9 => evd_dget (evd_at nd7 e h7) (evd_op (evd_at m1 e h9) (evd_int (i := ((0 : Nat) : Int))) (r_ixT f1)) (by rw [look_pr, pf]; rfl)
    refine eva_set (d := .int (rowOf ps x).net) (evd_op (evd_at (d := .int x.cnt) cI) (evd_op (look (Ex.refl _) rfl rfl) (evd_int (i := ((1 : Nat) : Int))) (r_ixT rfl)) (r_I (.inr ⟨by omega, by omega⟩) fun _ => .int _)) (fun v G2 x2 n2 => ?_)
    cases n2
    refine eva_set (d := .int (rowOf ps x).tax) (evd_callS (ea_cons (evd_at (d := .int (rowOf ps x).net) cI) (ea_cons (evd_op (look x2 rfl rfl) (evd_int (i := ((2 : Nat) : Int))) (r_ixT rfl)) ea_nil)) ⟨_, _, rfl, noT_int, noT_int, (tax_ok rk.n0 (by have := rk.n1; omega) pk.r0 pk.r1).symm⟩) (fun v G3 x3 n3 => ?_)
    cases n3
    have x13 := x2.trans x3
    have gsum : ∀ {G4 : Hp}, EvD (tOp (rI0 fun i j => .int (i + j)) (tVar 20) (tVar 21)) [a0, some (.ref r), some vc, some vp, some vo, some (.int z), some vl, some vx, some (.ref p), some u1, some (.int x.cnt), some u3, a12, a13, a14, a15, a16, a17, a18, a19, some (.int (rowOf ps x).net), some (.int (rowOf ps x).tax), a22, a23, a24, a25, a26] G4 (.int (rowOf ps x).sum) := fun {G4} => evd_op (evd_at (d := .int (rowOf ps x).net) cI) (evd_at (d := .int (rowOf ps x).tax) cI) (r_I0 fun _ => .int _)
    refine eva_appS rfl (evd_is gsum (by rw [hx]; rfl)) (fun G4 x4 => ?_)
    have x14 := x13.trans x4
    have lin : ∀ {k : Nat} {dd : D}, ([.str (fstI x), .int x.cnt, .int (rowOf ps x).net, .int (rowOf ps x).tax, .int o, .int ((rowOf ps x).net + (rowOf ps x).tax - o)] : List D)[k]? = some dd → EvD (tOp (rIxT K) (tVar 11) (tC (.int (k : Nat)))) [a0, some (.ref r), some vc, some vp, some vo, some (.int z), some vl, some vx, some (.ref p), some u1, some (.int x.cnt), some u3, a12, a13, a14, a15, a16, a17, a18, a19, some (.int (rowOf ps x).net), some (.int (rowOf ps x).tax), a22, a23, a24, a25, a26] G4 dd := fun {k dd} h => evd_op (evd_at m3 x14) (evd_int (i := (k : Nat))) (r_ixT h)
    refine evn_no1 (evt_is (evt_or (a := false) (b := false) (evt_not (b := true) (evt_B (evd_call (ea_cons (evd_cutT (n := 4) (evd_at m3 x14) evd_int) (ea_cons (evd_tup (ea_cons (evd_op (evd_at m1 x14) (evd_int (i := ((0 : Nat) : Int))) (r_ixT f1)) (ea_cons (evd_at (d := .int x.cnt) cI) (ea_cons (evd_at (d := .int (rowOf ps x).net) cI) (ea_cons (evd_at (d := .int (rowOf ps x).tax) cI) ea_nil)))) (by show 4 ≤ 100000; decide)) ea_nil)) ⟨_, rfl, rfl, rfl⟩)))
      (fun _ => evt_or (a := false) (b := false) (evt_test (evd_op (lin (k := 5) rfl) (evd_op gsum (lin (k := 4) rfl) (r_I0 fun _ => .int _)) (r_ne (b := true) ?_))) (fun _ => evt_is (evt_test (evd_op (lin (k := 5) rfl) (evd_int (i := 0)) (r_I0 fun _ => .bl _))) (decide_eq_false (by omega))))) rfl) (fun G5 x5 => ⟨_, _, _, _, _, rfl, Dn.mono (x14.trans x5) _ nd7⟩)
    exact congrArg some (decide_eq_true (show (rowOf ps x).net + (rowOf ps x).tax - o = (rowOf ps x).sum - o from rfl))
  · obtain ⟨b9, b10, b11, b20, b21, rfl, nd7⟩ := hI
    rw [lenZ, range_get] at np
    have np : Dn G1 (.ref p) (.list (intL ((rowsF ps od.ws).map Rw.sum))) := by
      unfold rowsF intL
      rw [List.map_map, List.map_map]
      exact np
    have am := b.am
    have tot := b.total
    have ofs := BF.offs (z := z) (ps := ps) (ws := od.ws)
    have bo := b.ok
    have F1 := F.mono x1
    have pos := nonneg_sum am.lo
    have hz0 := b.z0
    generalize hA : (rowsF ps od.ws).map Rw.sum = as at np am tot ofs pos
    generalize hL : billF z ps od.ws = ls at tot ofs bo lenB lenL F1
    refine evl_set (d := .int (min z as.sum)) (evd_cb (ea_cons (evd_at (d := .int z) cI) (ea_cons (evd_cb (ea_cons (evd_at np) ea_nil) (r_sumK (k := .l) (ns := as) rfl)) ea_nil)) (r_min2 (by split <;> omega))) (fun v12 G2 x2 n12 => ?_)
    cases n12
    have F2 := F1.mono x2
    have np2 := Dn.mono x2 _ np
    refine evl_no (evt_is (evt_or (a := false) (b := false) (evt_test (evd_op (evd_cb (ea_cons (evd_at F2.nl) ea_nil) (r_lenT (n := (od.ws.length : Nat)) (by rw [lenL]))) (evd_cb (ea_cons (evd_op (evd_at F2.no) (evd_int (i := ((2 : Nat) : Int))) (r_ixT rfl)) ea_nil) (r_lenT (n := (od.ws.length : Nat)) (by rw [lenW]))) (r_ne (b := true) ?_)))
      (fun _ => evt_test (evd_op (evd_callS (ea_cons (evd_at F2.nl) ea_nil) ⟨_, rfl, .inl ⟨ls, rfl, bo, rfl⟩⟩) (evd_op (evd_cb (ea_cons (evd_at np2) ea_nil) (r_sumK (k := .l) (ns := as) rfl)) (evd_at (d := .int (min z as.sum)) cI) (r_I0 fun _ => .int _)) (r_ne (b := true) ?_)))) rfl) (fun G3 x3 => ?_)
    · show some (decide (_ = _)) = some true
      rw [decide_eq_true rfl]
    · show some (decide (_ = _)) = some true
      rw [tot, decide_eq_true rfl]
    · have F3 := F2.mono x3
      have np3 := Dn.mono x3 _ np2
      refine evl_no (evt_is (evt_and (a := decide (as.sum > 0)) (b := false) (evt_test (evd_op (evd_cb (ea_cons (evd_at np3) ea_nil) (r_sumK (k := .l) (ns := as) rfl)) (evd_int (i := 0)) (r_I0 fun _ => .bl _))) (fun hb => ?_)) (Bool.and_false _)) (fun G4 x4 => ?_)
      · have hb := of_decide_eq_true hb
        have W := am.wk (by omega)
        have z1 := b.z1
        have e1 : offsF z as = sharedF (min z as.sum) as := by
          unfold offsF
          rw [if_neg (by omega)]
        refine evt_test (evd_op (evd_cb (ea_cons (evd_is (d' := .list (intL (sharedF (min z as.sum) as))) (evd_lcN (r := fun d => match d with | .tuple [_, _, _, _, z, _] => z | _ => .none) (ei_tup (evd_at F3.nl)) (by omega) (fun x => rfl) (fun d hd y G5 e ny => ?_)) ?_) ea_nil) r_tupL)
          (evd_callS (ea_cons (evd_at (d := .int (min z as.sum)) cI) (ea_cons (evd_cb (ea_cons (evd_at np3) ea_nil) r_tupL) ea_nil)) (parts_dom (by omega) (by omega) W am.hi)) (r_neT _))
        · obtain ⟨l, hl, rfl⟩ := List.mem_map.mp hd
          exact evd_op (evd_at ny) (evd_int (i := ((4 : Nat) : Int))) (r_ixT rfl)
        · rw [← e1, ← ofs]
          unfold intL
          rw [List.map_map, List.map_map]
          rfl
      · exact pr r sc t ps od ls vc vp vo vl _ _ _ _ _ _ _ _ _ _ _ _ _ _ _ _ _ _ _ _ _ _ G4 (F3.mono x4)
end
end Sh

set_option Elab.async false
set_option linter.all false
set_option maxRecDepth 100000
set_option maxHeartbeats 4000000
/-! the law -/
namespace Sh
open PySem PySem.Spec L2
open PyProof.Rows hiding St
open Evl (Ex)
section
variable {P : Program} {w : World} {K : PySem.W.Frag} {mg : Str → Option Value} {base : Heap} {Cn Cb Cp : Addr}
theorem name_o : nameS "o" = true := by decide +kernel
theorem keeps_law (B : Bi mg) (en : ErrC K mg "BadNumber" Cn) (eb : ErrC K mg "BadBill" Cb) (ep : ErrC K mg "BadPrices" Cp) {f : Addr} {fd : FuncData} (F : Fun K "law" "law" s_law f fd)
    (K__law_taken : Keeps P w K mg base CX0 1 "_law_taken" ["row", "many"] (spTaken K)) (K__law_pick : Keeps P w K mg base CX0 2 "_law_pick" ["row", "things"] (spPick K))
    (K__law_alike : Keeps P w K mg base CX0 2 "_law_alike" ["found", "due"] (spD (domAlike 1)))
    (K__law_catalog : Keeps P w K mg base CX0 3 "_law_catalog" ["row"] (spCatalog K)) (K__law_order : Keeps P w K mg base CX0 3 "_law_order" ["row", "catalog", "name"] (spOrder K)) (K__law_bill_prices : Keeps P w K mg base CX0 3 "_law_bill_prices" ["row", "catalog"] (spPrices K))
    (K_taxed : Keeps P w K mg base (L2N.CX P w) 3 "taxed" ["net", "rate"] (spR Cn (dom2 taxF)))
    (K_shared : Keeps P w K mg base (L2N.CX P w) 3 "shared" ["amount", "weights"] (spR Cn (domParts sharedF)))
    (K_total_of : Keeps P w K mg base (L2N.CX P w) 4 "total_of" ["lines"] (spR Cb domTotal))
    (K_refund : Keeps P w K mg base (L2N.CX P w) 4 "refund" ["lines", "back", "more"] (spR Cn domRefund))
    (K_refunds : Keeps P w K mg base CX0 5 "refunds" ["lines", "rows"] (spD domRefunds))
    (K_bill : Keeps P w K mg base (L2N.CX P w) 7 "bill" ["catalog", "prices", "order", "voucher"] (spR Cp domBill)) : FnOk P w K mg base CX0 9 f fd ["script"] (spLaw K) := by
  refine F.ok sc_law (fun vs H Q E h => ?_) (fun cdv A outer s H vs Q E hr h => ?_)
  · obtain ⟨sc, ns, rfl, _⟩ := h
    rfl
  · obtain ⟨sc, ns, rfl, hsc, q⟩ := h
    obtain ⟨tm, htm, pr⟩ := law_lines (H := H) (outer := outer) (E := E) B hr K__law_alike K_taxed K_shared K_total_of (law_rows B hr K__law_taken (law_back B hr K_refund K_refunds (law_tries B en eb ep hr K__law_pick K_refund K_total_of K_bill)))
    refine ⟨_, (pss_cons (ps_set (i := 1) sc_law.nd rfl (.inr rfl) (pe_lst (pa_cons (pv 0) (pa_cons pe_int (pa_cons pe_int (pa_cons pe_int pa_nil))))))
    (pss_cons (ps_set (i := 2) sc_law.nd rfl (.inl rfl) (pe_callD K__law_catalog (hr.mono (by omega)) (pa_cons (pv 1) pa_nil)))
    (pss_cons (ps_par (i := 3) (j := 4) rfl sc_law.nd rfl rfl (by decide) rfl rfl (pa_cons (pe_callD K__law_bill_prices (hr.mono (by omega)) (pa_cons (pv 1) (pa_cons (pv 2) pa_nil))) (pa_cons (pe_callD K__law_order (hr.mono (by omega)) (pa_cons (pv 1) (pa_cons (pv 2) (pa_cons pe_str pa_nil)))) pa_nil)) (by rfl))
    (pss_cons (ps_set (i := 5) sc_law.nd rfl (.inl rfl) (pe_callD K__law_pick (hr.mono (by omega)) (pa_cons (pv 1) (pa_cons (pe_lst (pa_cons pe_int (pa_cons (pe_callD K__law_taken (hr.mono (by omega)) (pa_cons (pv 1) (pa_cons pe_int pa_nil))) (pa_cons (pe_callD K__law_taken (hr.mono (by omega)) (pa_cons (pv 1) (pa_cons pe_int pa_nil))) pa_nil)))) pa_nil))))
    (pss_cons (ps_set (i := 6) sc_law.nd rfl (.inl rfl) (pe_callR K_bill (hr.mono (by omega)) takes0N (pa_cons (pv 2) (pa_cons (pv 3) (pa_cons (pv 4) (pa_cons (pv 5) pa_nil))))))
    (by exact htm)))))), ?_⟩
    obtain ⟨G0, e0, hs0⟩ : ∃ G0 : Hp, Ex G0 H ∧ SqL K G0 sc (ns.map V.int) := ⟨H, Ex.refl _, hsc⟩
    refine go_set (go_lst (go_cons (go_var rfl (go_cons (go_c (go_cons (go_c (go_cons (go_c (go_nil ⟨Evl.sz_of (by show 4 ≤ 100000; decide), fun r hr0 => ?_⟩))))))))))
    have st0 : RowSt K r sc G0 (upd H r (.lst [.ref sc, .int 0, .int 7210, .int 0])) := ⟨e0.trans (Ex.new hr0), Evl.fresh_back e0 hr0, ⟨0, 7210, 0, by decide, upd_same⟩, ⟨ns, hs0⟩⟩
    refine evl_go ?_ st0 q
    refine evl_setR (P := fun d => ∃ t, d = Cat.d t ∧ CatOk t) (fun H1 st1 Q' q' => ⟨_, rfl, ⟨r, sc, _, rfl, st1, fun v t G2 H2 ok hi n g => q' v _ G2 H2 ⟨t, rfl, ok⟩ g n⟩⟩) (fun vc d G1 pd x1 nc => ?_)
    obtain ⟨t, rfl, tok⟩ := pd
    refine evl_parR (P := fun ds => ∃ ps od, ds = [.tuple (ps.map Pr.d), Ord.d od] ∧ PricesOk t.its ps ∧ OrdOk t.rs t.its od ∧ DrawnO od) (EvRA.imp (evra_cons (P1 := fun d => ∃ ps : List Pr, d = .tuple (ps.map Pr.d) ∧ PricesOk t.its ps) (P2 := fun _ ds => ∃ od, ds = [Ord.d od] ∧ OrdOk t.rs t.its od ∧ DrawnO od)
      (fun H1 st1 Q' q' => ⟨_, rfl, ⟨_, rfl, ⟨r, sc, _, vc, t, rfl, st1, nc, tok, fun v ps G2 H2 ok n g => q' v _ G2 H2 ⟨ps, rfl, ok⟩ g n⟩⟩⟩)
      (fun d G2 _ x2 => EvRA.imp (evra_cons (P1 := fun d => ∃ od, d = Ord.d od ∧ OrdOk t.rs t.its od ∧ DrawnO od) (P2 := fun _ ds => ds = []) (fun H1 st1 Q' q' => ⟨_, rfl, ⟨_, rfl, ⟨r, sc, _, vc, t, "o", rfl, st1, Dn.mono x2 _ nc, tok, name_o, fun v od G2 H2 ok _ dr n g => q' v _ G2 H2 ⟨od, rfl, ok, dr⟩ g n⟩⟩⟩) (fun d G3 _ x3 => evra_nil)) (fun ds ⟨d, es, e1, ⟨od, e2, h1, h2⟩, e3⟩ => ⟨od, by rw [e1, e2, e3], h1, h2⟩)))
      (fun ds ⟨d, es, e1, ⟨ps, e2, h1⟩, od, e3, h2, h3⟩ => ⟨ps, od, by rw [e1, e2, e3], h1, h2, h3⟩)) (fun ds ⟨ps, od, e, _⟩ => by rw [e]; rfl) (fun vp vo d e G2 pd x2 np no => ?_)
    obtain ⟨ps, od, ee, pok, ook, dr⟩ := pd
    cases ee
    refine evl_setR (P := fun d => ∃ z : Int, d = .int z ∧ 0 ≤ z ∧ z ≤ 9000) (evr_pk rfl (EvR.imp (evr_lst (P := fun ds => ∃ a b : Nat, ds = [.int 0, .int (a : Nat), .int (b : Nat)] ∧ a < 50 ∧ b < 9000) (EvRA.imp (evra_cons (P1 := fun d => d = .int 0) (P2 := fun _ ds => ∃ a b : Nat, ds = [.int (a : Nat), .int (b : Nat)] ∧ a < 50 ∧ b < 9000) (evr_d evd_int rfl)
      (fun d G3 _ x3 => EvRA.imp (evra_cons (P1 := fun d => ∃ a : Nat, d = .int (a : Nat) ∧ a < 50) (P2 := fun _ ds => ∃ b : Nat, ds = [.int (b : Nat)] ∧ b < 9000) (evr_tk rfl (evr_d evd_int ⟨50, rfl, by decide, by decide, fun v lt => ⟨v, rfl, by omega⟩⟩))
        (fun d G4 _ x4 => EvRA.imp (evra_cons (P1 := fun d => ∃ b : Nat, d = .int (b : Nat) ∧ b < 9000) (P2 := fun _ ds => ds = []) (evr_tk rfl (evr_d evd_int ⟨9000, rfl, by decide, by decide, fun v lt => ⟨v, rfl, by omega⟩⟩)) (fun d G5 _ x5 => evra_nil)) (fun ds ⟨d, es, e1, ⟨b, e2, h1⟩, e3⟩ => ⟨b, by rw [e1, e2, e3], h1⟩)))
        (fun ds ⟨d, es, e1, ⟨a, e2, h1⟩, b, e3, h2⟩ => ⟨a, b, by rw [e1, e2, e3], h1, h2⟩)))
      (fun ds ⟨d, es, e1, e2, a, b, e3, h1, h2⟩ => ⟨a, b, by rw [e1, e2, e3], h1, h2⟩)) (fun ds ⟨a, b, e, _⟩ => by rw [e]; show 3 ≤ 100000; decide))
      (fun d ⟨ds, e1, a, b, e2, h1, h2⟩ => ⟨ds, e1, by rw [e2]; show 0 < 3; decide, by rw [e2]; show 3 ≤ 1000; decide, fun x hx => by
        rw [e2] at hx
        simp only [List.mem_cons, List.not_mem_nil, or_false] at hx
        rcases hx with rfl | rfl | rfl
        · exact ⟨0, rfl, by decide, by decide⟩
        · exact ⟨_, rfl, by omega, by omega⟩
        · exact ⟨_, rfl, by omega, by omega⟩⟩))) (fun vz d G3 pd x3 nz => ?_)
    obtain ⟨z, rfl, z0, z1⟩ := pd
    cases nz
    have x23 := x2.trans x3
    have np3 := Dn.mono x3 _ np
    have no3 := Dn.mono x3 _ no
    have nc3 := Dn.mono x23 _ nc
    have lo : ∀ x ∈ od.ws, x.cnt ≤ 4 := fun x hx => (dr.cnt x hx).1
    have bf : BF t.its ps od.ws z := ⟨pok, fun x hx => ⟨ook.each x hx, lo x hx⟩, ook.l1, ook.l2, z0, z1⟩
    refine evl_set (evd_callS (ea_cons (evd_at nc3) (ea_cons (evd_at np3) (ea_cons (evd_at no3) (ea_cons (evd_at (d := .int z) (.int z)) ea_nil)))) ⟨t, _, od, z, rfl, tok, ook, lo, z0, z1, .inl ⟨ps, rfl, pok, rfl⟩⟩) (fun vl G4 x4 nl => ?_)
    exact pr r sc t ps od z vc vp vo vl _ _ _ _ _ _ _ _ _ _ _ _ _ _ _ _ _ _ _ _ _ G4 ⟨tok, pok, ook, lo, bf.ok, Dn.mono x4 _ nc3, Dn.mono x4 _ np3, Dn.mono x4 _ no3, nl⟩ bf
end
end Sh

set_option Elab.async false
set_option linter.all false
set_option maxRecDepth 100000
set_option maxHeartbeats 0
/-! the end: what stands in the heap behind the top, and the law -/
namespace Sh
open PySem PySem.Spec PyProof.Rows L2

def df_is_between : He.DefD := ⟨("is_between", none), "is_between", "is_between", defArgs s_is_between, defBody s_is_between, defScope s_is_between, [], []⟩
def df_is_row : He.DefD := ⟨("is_row", none), "is_row", "is_row", defArgs s_is_row, defBody s_is_row, defScope s_is_row, [], []⟩
def df_are_unlike : He.DefD := ⟨("are_unlike", none), "are_unlike", "are_unlike", defArgs s_are_unlike, defBody s_are_unlike, defScope s_are_unlike, [], []⟩
def df_is_name : He.DefD := ⟨("is_name", none), "is_name", "is_name", defArgs s_is_name, defBody s_is_name, defScope s_is_name, [], []⟩
def df_are_names : He.DefD := ⟨("are_names", none), "are_names", "are_names", defArgs s_are_names, defBody s_are_names, defScope s_are_names, [], []⟩
def df_is_lane : He.DefD := ⟨("is_lane", none), "is_lane", "is_lane", defArgs s_is_lane, defBody s_is_lane, defScope s_is_lane, [], []⟩
def df_are_lanes : He.DefD := ⟨("are_lanes", none), "are_lanes", "are_lanes", defArgs s_are_lanes, defBody s_are_lanes, defScope s_are_lanes, [], []⟩
def df_is_supply : He.DefD := ⟨("is_supply", none), "is_supply", "is_supply", defArgs s_is_supply, defBody s_is_supply, defScope s_is_supply, [], []⟩
def df_are_supplies : He.DefD := ⟨("are_supplies", none), "are_supplies", "are_supplies", defArgs s_are_supplies, defBody s_are_supplies, defScope s_are_supplies, [], []⟩
def df_is_catalog : He.DefD := ⟨("is_catalog", none), "is_catalog", "is_catalog", defArgs s_is_catalog, defBody s_is_catalog, defScope s_is_catalog, [], []⟩
def df_check_catalog : He.DefD := ⟨("check_catalog", none), "check_catalog", "check_catalog", defArgs s_check_catalog, defBody s_check_catalog, defScope s_check_catalog, [], []⟩
def df_are_wished : He.DefD := ⟨("are_wished", none), "are_wished", "are_wished", defArgs s_are_wished, defBody s_are_wished, defScope s_are_wished, [], []⟩
def df_is_wish : He.DefD := ⟨("is_wish", none), "is_wish", "is_wish", defArgs s_is_wish, defBody s_is_wish, defScope s_is_wish, [], []⟩
def df_is_order : He.DefD := ⟨("is_order", none), "is_order", "is_order", defArgs s_is_order, defBody s_is_order, defScope s_is_order, [], []⟩
def df_check_order : He.DefD := ⟨("check_order", none), "check_order", "check_order", defArgs s_check_order, defBody s_check_order, defScope s_check_order, [], []⟩
def df_check_amount : He.DefD := ⟨("check_amount", none), "check_amount", "check_amount", defArgs s_check_amount, defBody s_check_amount, defScope s_check_amount, [], []⟩
def df_check_weights : He.DefD := ⟨("check_weights", none), "check_weights", "check_weights", defArgs s_check_weights, defBody s_check_weights, defScope s_check_weights, [], []⟩
def df_check_rate : He.DefD := ⟨("check_rate", none), "check_rate", "check_rate", defArgs s_check_rate, defBody s_check_rate, defScope s_check_rate, [], []⟩
def df_shared : He.DefD := ⟨("shared", none), "shared", "shared", defArgs s_shared, defBody s_shared, defScope s_shared, [], []⟩
def df_taxed : He.DefD := ⟨("taxed", none), "taxed", "taxed", defArgs s_taxed, defBody s_taxed, defScope s_taxed, [], []⟩
def df_is_price : He.DefD := ⟨("is_price", none), "is_price", "is_price", defArgs s_is_price, defBody s_is_price, defScope s_is_price, [], []⟩
def df_check_prices : He.DefD := ⟨("check_prices", none), "check_prices", "check_prices", defArgs s_check_prices, defBody s_check_prices, defScope s_check_prices, [], []⟩
def df_bill : He.DefD := ⟨("bill", none), "bill", "bill", defArgs s_bill, defBody s_bill, defScope s_bill, [], []⟩
def df_offs_of : He.DefD := ⟨("offs_of", none), "offs_of", "offs_of", defArgs s_offs_of, defBody s_offs_of, defScope s_offs_of, [], []⟩
def df_total_of : He.DefD := ⟨("total_of", none), "total_of", "total_of", defArgs s_total_of, defBody s_total_of, defScope s_total_of, [], []⟩
def df_is_line : He.DefD := ⟨("is_line", none), "is_line", "is_line", defArgs s_is_line, defBody s_is_line, defScope s_is_line, [], []⟩
def df_check_bill : He.DefD := ⟨("check_bill", none), "check_bill", "check_bill", defArgs s_check_bill, defBody s_check_bill, defScope s_check_bill, [], []⟩
def df_check_counts : He.DefD := ⟨("check_counts", none), "check_counts", "check_counts", defArgs s_check_counts, defBody s_check_counts, defScope s_check_counts, [], []⟩
def df_refund : He.DefD := ⟨("refund", none), "refund", "refund", defArgs s_refund, defBody s_refund, defScope s_refund, [], []⟩
def df_both : He.DefD := ⟨("both", none), "both", "both", defArgs s_both, defBody s_both, defScope s_both, [], []⟩
def df_refunds : He.DefD := ⟨("refunds", none), "refunds", "refunds", defArgs s_refunds, defBody s_refunds, defScope s_refunds, [], []⟩
def df__law_taken : He.DefD := ⟨("_law_taken", none), "_law_taken", "_law_taken", defArgs s__law_taken, defBody s__law_taken, defScope s__law_taken, [], []⟩
def df__law_pick : He.DefD := ⟨("_law_pick", none), "_law_pick", "_law_pick", defArgs s__law_pick, defBody s__law_pick, defScope s__law_pick, [], []⟩
def df__law_alike : He.DefD := ⟨("_law_alike", none), "_law_alike", "_law_alike", defArgs s__law_alike, defBody s__law_alike, defScope s__law_alike, [], []⟩
def df__law_catalog : He.DefD := ⟨("_law_catalog", none), "_law_catalog", "_law_catalog", defArgs s__law_catalog, defBody s__law_catalog, defScope s__law_catalog, [], []⟩
def df__law_order : He.DefD := ⟨("_law_order", none), "_law_order", "_law_order", defArgs s__law_order, defBody s__law_order, defScope s__law_order, [], []⟩
def df__law_bill_prices : He.DefD := ⟨("_law_bill_prices", none), "_law_bill_prices", "_law_bill_prices", defArgs s__law_bill_prices, defBody s__law_bill_prices, defScope s__law_bill_prices, [], []⟩
def df_law : He.DefD := ⟨("law", none), "law", "law", defArgs s_law, defBody s_law, defScope s_law, [], []⟩
def fnE : List He.DefD := [df_is_between, df_is_row, df_are_unlike, df_is_name, df_are_names, df_is_lane, df_are_lanes, df_is_supply, df_are_supplies, df_is_catalog, df_check_catalog, df_are_wished, df_is_wish, df_is_order, df_check_order, df_check_amount, df_check_weights, df_check_rate, df_shared, df_taxed, df_is_price, df_check_prices, df_bill, df_offs_of, df_total_of, df_is_line, df_check_bill, df_check_counts, df_refund, df_both, df_refunds, df__law_taken, df__law_pick, df__law_alike, df__law_catalog, df__law_order, df__law_bill_prices, df_law]
def faE : List He.Fa := [.free "isinstance", .free "int", .free "bool", .free "str", .free "tuple", .free "list", .free "dict", .free "set", .free "len", .free "all", .free "any", .free "sum", .free "range", .free "zip", .free "min", .free "max", .free "enumerate", .free "sorted", .str "LETTERS" LET, .str "SIGNS" SIG, .int "MOST" 1000000000000, .int "MOST_CENTS" 999999, .int "MOST_RATE" 999, .int "MOST_ON_A_LINE" 1000000000, .glo "BadNumber", .exc "BadNumber", .exm "BadNumber" "BadNumber" true, .glo "BadBill", .exc "BadBill", .exm "BadBill" "BadBill" true, .glo "BadPrices", .exc "BadPrices", .exm "BadPrices" "BadPrices" true, .glo "is_between", .glo "is_row", .glo "are_unlike", .glo "is_name", .glo "are_names", .glo "is_lane", .glo "are_lanes", .glo "is_supply", .glo "are_supplies", .glo "is_catalog", .glo "check_catalog", .glo "are_wished", .glo "is_wish", .glo "is_order", .glo "check_order", .glo "check_amount", .glo "check_weights", .glo "check_rate", .glo "shared", .glo "taxed", .glo "is_price", .glo "check_prices", .glo "bill", .glo "offs_of", .glo "total_of", .glo "is_line", .glo "check_bill", .glo "check_counts", .glo "refund", .glo "both", .glo "refunds", .glo "_law_taken", .glo "_law_pick", .glo "_law_alike", .glo "_law_catalog", .glo "_law_order", .glo "_law_bill_prices", .glo "law"]
abbrev RE : PySem.W.OpenRow := PySem.W.OpenLaw.row PySem.Challenge.rw_surehouse_k10_whole_bills
abbrev hkE : PySem.W.Hook := He.hookD 4 faE fnE
def obE (s : PySem.W.SharedT) : He.AlD := He.obsDG 4 faE fnE (HandSHeadRun.getT s)
theorem obE_eq (s : PySem.W.SharedT) : obE s = hkE.obs s.abs := He.obsDG_eq (HandSHeadRun.getT_eq s)
def namesE : List PySem.Str := ("ShopError" : PySem.Str) :: ("BadCatalog" : PySem.Str) :: ("BadOrder" : PySem.Str) :: ("BadNumber" : PySem.Str) :: ("BadPrices" : PySem.Str) :: ("BadBill" : PySem.Str) :: ("LETTERS" : PySem.Str) :: ("SIGNS" : PySem.Str) :: ("is_between" : PySem.Str) :: ("is_row" : PySem.Str) :: ("are_unlike" : PySem.Str) :: ("is_name" : PySem.Str) :: ("are_names" : PySem.Str) :: ("is_lane" : PySem.Str) :: ("are_lanes" : PySem.Str) :: ("is_supply" : PySem.Str) :: ("are_supplies" : PySem.Str) :: ("is_catalog" : PySem.Str) :: ("check_catalog" : PySem.Str) :: ("are_wished" : PySem.Str) :: ("is_wish" : PySem.Str) :: ("is_order" : PySem.Str) :: ("check_order" : PySem.Str) :: ("MOST" : PySem.Str) :: ("check_amount" : PySem.Str) :: ("check_weights" : PySem.Str) :: ("check_rate" : PySem.Str) :: ("shared" : PySem.Str) :: ("taxed" : PySem.Str) :: ("MOST_CENTS" : PySem.Str) :: ("MOST_RATE" : PySem.Str) :: ("MOST_ON_A_LINE" : PySem.Str) :: ("is_price" : PySem.Str) :: ("check_prices" : PySem.Str) :: ("bill" : PySem.Str) :: ("offs_of" : PySem.Str) :: ("total_of" : PySem.Str) :: ("is_line" : PySem.Str) :: ("check_bill" : PySem.Str) :: ("check_counts" : PySem.Str) :: ("refund" : PySem.Str) :: ("both" : PySem.Str) :: ("refunds" : PySem.Str) :: ("_law_taken" : PySem.Str) :: ("_law_pick" : PySem.Str) :: ("_law_alike" : PySem.Str) :: ("_law_catalog" : PySem.Str) :: ("_law_order" : PySem.Str) :: ("_law_bill_prices" : PySem.Str) :: []
theorem runE (w : World) : HandSHeadRun.RunEq RE (PySem.W.view RE.prog [54]) hkE obE 6000 namesE w := by
  intro os
  kernel_rfl
theorem fun_of {K : PySem.W.Frag} {x : Str} {st : Stmt} {f : Addr} {fd : FuncData} (F : FunD K x x (defArgs st) (defBody st) (defScope st) [] [] f fd) : Fun K x x st f fd := by
  obtain ⟨oc, od, dV, kV, doc, pm, an, cdv, ct, osl, rfl, lk, hcd, hd, _⟩ := F.ex
  rcases hd with ⟨_, e⟩ | ⟨n, _⟩
  · subst e
    exact ⟨⟨oc, od, kV, doc, pm, an, cdv, ct, osl, rfl, lk, hcd⟩, F.kp⟩
  · exact absurd rfl n
theorem stands_of {K : PySem.W.Frag} {mg : Str → Option Value} {x : Str} {st : Stmt} {ps : List Str} {fd : FuncData} (F : FunD K x x (defArgs st) (defBody st) (defScope st) [] [] (He.fAd K (x, none)) fd) (g : mg x = some (.ref (He.ga K x)))
    (h : ∀ (kV doc pm : Value) (an : Option Addr) (cdv ct : Value) (us : List Value), us.length = ps.length → bindArgs (PySem.W.fnOf x x (defArgs st) (defBody st) (defScope st) .none kV doc pm an cdv ct) ⟨us, []⟩ = pure (ps.zip us)) : Stands K mg x st ps := by
  obtain ⟨oc, od, dV, kV, doc, pm, an, cdv, ct, osl, rfl, lk, hcd, hd, _⟩ := F.ex
  rcases hd with ⟨_, e⟩ | ⟨n, _⟩
  · subst e
    have G : Fun K x x st (He.ga K x) (PySem.W.fnOf x x (defArgs st) (defBody st) (defScope st) .none kV doc pm an cdv ct) := ⟨⟨oc, od, kV, doc, pm, an, cdv, ct, osl, rfl, lk, hcd⟩, F.kp⟩
    exact ⟨_, _, G, g, G.binds h⟩
  · exact absurd rfl n
theorem err_of {K : PySem.W.Frag} {mg : Str → Option Value} {x : Str} (g : mg x = some (.ref (He.ga K x))) (e : (He.Fa.exc x).ok K = true) (m : (He.Fa.exm x x true).ok K = true) : ErrC K mg x (He.ga K x) := by
  obtain ⟨h1, h2, h3, h4⟩ := He.exc_ok e
  exact ⟨⟨_, _, _, _, PySem.F.excBase_ValueError, h1⟩, g, h2, h3, h4, He.exm_ok m⟩


theorem factsE {P : Program} {w : World} {K : PySem.W.Frag} {h : Heap} {mg : Str → Option Value} {f : Addr} (X : K.In h) (G : h.Ns mainGlobals mg) (hfa : mg ("law" : Str) = some (.ref f)) (c : He.SaysD faE fnE K) :
    ∃ fd : FuncData, (∀ (s : Shared) (v : Value), BindsTo s fd ⟨[v], []⟩ [("script", v)]) ∧ ∀ base : Heap, K.In base → base.Ns mainGlobals mg → FnOk P w K mg base CX0 9 f fd ["script"] (spLaw K) := by
  have B : Bi mg := ⟨He.free_ok X G (c.fact 0 (f := .free "isinstance") rfl), He.free_ok X G (c.fact 1 (f := .free "int") rfl), He.free_ok X G (c.fact 2 (f := .free "bool") rfl), He.free_ok X G (c.fact 3 (f := .free "str") rfl), He.free_ok X G (c.fact 4 (f := .free "tuple") rfl), He.free_ok X G (c.fact 5 (f := .free "list") rfl), He.free_ok X G (c.fact 6 (f := .free "dict") rfl), He.free_ok X G (c.fact 7 (f := .free "set") rfl), He.free_ok X G (c.fact 8 (f := .free "len") rfl), He.free_ok X G (c.fact 9 (f := .free "all") rfl), He.free_ok X G (c.fact 10 (f := .free "any") rfl), He.free_ok X G (c.fact 11 (f := .free "sum") rfl), He.free_ok X G (c.fact 12 (f := .free "range") rfl), He.free_ok X G (c.fact 13 (f := .free "zip") rfl), He.free_ok X G (c.fact 14 (f := .free "min") rfl), He.free_ok X G (c.fact 15 (f := .free "max") rfl), He.free_ok X G (c.fact 16 (f := .free "enumerate") rfl), He.free_ok X G (c.fact 17 (f := .free "sorted") rfl)⟩
  have tL := He.str_ok X G (c.fact 18 (f := .str "LETTERS" LET) rfl)
  have tS := He.str_ok X G (c.fact 19 (f := .str "SIGNS" SIG) rfl)
  have M := He.int_ok X G (c.fact 20 (f := .int "MOST" 1000000000000) rfl)
  have MC := He.int_ok X G (c.fact 21 (f := .int "MOST_CENTS" 999999) rfl)
  have MR := He.int_ok X G (c.fact 22 (f := .int "MOST_RATE" 999) rfl)
  have ML := He.int_ok X G (c.fact 23 (f := .int "MOST_ON_A_LINE" 1000000000) rfl)
  have en : ErrC K mg "BadNumber" (He.ga K "BadNumber") := err_of (He.glo_ok X G (c.fact 24 (f := .glo "BadNumber") rfl)) (c.fact 25 (f := .exc "BadNumber") rfl) (c.fact 26 (f := .exm "BadNumber" "BadNumber" true) rfl)
  have eb : ErrC K mg "BadBill" (He.ga K "BadBill") := err_of (He.glo_ok X G (c.fact 27 (f := .glo "BadBill") rfl)) (c.fact 28 (f := .exc "BadBill") rfl) (c.fact 29 (f := .exm "BadBill" "BadBill" true) rfl)
  have ep : ErrC K mg "BadPrices" (He.ga K "BadPrices") := err_of (He.glo_ok X G (c.fact 30 (f := .glo "BadPrices") rfl)) (c.fact 31 (f := .exc "BadPrices") rfl) (c.fact 32 (f := .exm "BadPrices" "BadPrices" true) rfl)
  obtain ⟨fd_is_between, F_is_between⟩ := c.def_ 0 (d := df_is_between) rfl
  have S_is_between : Stands K mg "is_between" s_is_between ["value", "low", "high"] := stands_of F_is_between (He.glo_ok X G (c.fact 33 (f := .glo "is_between") rfl)) fun _ _ _ _ _ _ us hl => match us, hl with | [_, _, _], _ => rfl
  obtain ⟨fd_is_row, F_is_row⟩ := c.def_ 1 (d := df_is_row) rfl
  have S_is_row : Stands K mg "is_row" s_is_row ["value", "least", "most"] := stands_of F_is_row (He.glo_ok X G (c.fact 34 (f := .glo "is_row") rfl)) fun _ _ _ _ _ _ us hl => match us, hl with | [_, _, _], _ => rfl
  obtain ⟨fd_are_unlike, F_are_unlike⟩ := c.def_ 2 (d := df_are_unlike) rfl
  have S_are_unlike : Stands K mg "are_unlike" s_are_unlike ["keys"] := stands_of F_are_unlike (He.glo_ok X G (c.fact 35 (f := .glo "are_unlike") rfl)) fun _ _ _ _ _ _ us hl => match us, hl with | [_], _ => rfl
  obtain ⟨fd_is_name, F_is_name⟩ := c.def_ 3 (d := df_is_name) rfl
  have S_is_name : Stands K mg "is_name" s_is_name ["value"] := stands_of F_is_name (He.glo_ok X G (c.fact 36 (f := .glo "is_name") rfl)) fun _ _ _ _ _ _ us hl => match us, hl with | [_], _ => rfl
  obtain ⟨fd_are_names, F_are_names⟩ := c.def_ 4 (d := df_are_names) rfl
  have S_are_names : Stands K mg "are_names" s_are_names ["value", "least", "most"] := stands_of F_are_names (He.glo_ok X G (c.fact 37 (f := .glo "are_names") rfl)) fun _ _ _ _ _ _ us hl => match us, hl with | [_, _, _], _ => rfl
  obtain ⟨fd_is_lane, F_is_lane⟩ := c.def_ 5 (d := df_is_lane) rfl
  have S_is_lane : Stands K mg "is_lane" s_is_lane ["houses", "regions", "value"] := stands_of F_is_lane (He.glo_ok X G (c.fact 38 (f := .glo "is_lane") rfl)) fun _ _ _ _ _ _ us hl => match us, hl with | [_, _, _], _ => rfl
  obtain ⟨fd_are_lanes, F_are_lanes⟩ := c.def_ 6 (d := df_are_lanes) rfl
  have S_are_lanes : Stands K mg "are_lanes" s_are_lanes ["houses", "regions", "value"] := stands_of F_are_lanes (He.glo_ok X G (c.fact 39 (f := .glo "are_lanes") rfl)) fun _ _ _ _ _ _ us hl => match us, hl with | [_, _, _], _ => rfl
  obtain ⟨fd_is_supply, F_is_supply⟩ := c.def_ 7 (d := df_is_supply) rfl
  have S_is_supply : Stands K mg "is_supply" s_is_supply ["houses", "items", "value"] := stands_of F_is_supply (He.glo_ok X G (c.fact 40 (f := .glo "is_supply") rfl)) fun _ _ _ _ _ _ us hl => match us, hl with | [_, _, _], _ => rfl
  obtain ⟨fd_are_supplies, F_are_supplies⟩ := c.def_ 8 (d := df_are_supplies) rfl
  have S_are_supplies : Stands K mg "are_supplies" s_are_supplies ["houses", "items", "value"] := stands_of F_are_supplies (He.glo_ok X G (c.fact 41 (f := .glo "are_supplies") rfl)) fun _ _ _ _ _ _ us hl => match us, hl with | [_, _, _], _ => rfl
  obtain ⟨fd_is_catalog, F_is_catalog⟩ := c.def_ 9 (d := df_is_catalog) rfl
  have S_is_catalog : Stands K mg "is_catalog" s_is_catalog ["value"] := stands_of F_is_catalog (He.glo_ok X G (c.fact 42 (f := .glo "is_catalog") rfl)) fun _ _ _ _ _ _ us hl => match us, hl with | [_], _ => rfl
  obtain ⟨fd_check_catalog, F_check_catalog⟩ := c.def_ 10 (d := df_check_catalog) rfl
  have S_check_catalog : Stands K mg "check_catalog" s_check_catalog ["catalog"] := stands_of F_check_catalog (He.glo_ok X G (c.fact 43 (f := .glo "check_catalog") rfl)) fun _ _ _ _ _ _ us hl => match us, hl with | [_], _ => rfl
  obtain ⟨fd_are_wished, F_are_wished⟩ := c.def_ 11 (d := df_are_wished) rfl
  have S_are_wished : Stands K mg "are_wished" s_are_wished ["catalog", "value"] := stands_of F_are_wished (He.glo_ok X G (c.fact 44 (f := .glo "are_wished") rfl)) fun _ _ _ _ _ _ us hl => match us, hl with | [_, _], _ => rfl
  obtain ⟨fd_is_wish, F_is_wish⟩ := c.def_ 12 (d := df_is_wish) rfl
  have S_is_wish : Stands K mg "is_wish" s_is_wish ["catalog", "value"] := stands_of F_is_wish (He.glo_ok X G (c.fact 45 (f := .glo "is_wish") rfl)) fun _ _ _ _ _ _ us hl => match us, hl with | [_, _], _ => rfl
  obtain ⟨fd_is_order, F_is_order⟩ := c.def_ 13 (d := df_is_order) rfl
  have S_is_order : Stands K mg "is_order" s_is_order ["catalog", "value"] := stands_of F_is_order (He.glo_ok X G (c.fact 46 (f := .glo "is_order") rfl)) fun _ _ _ _ _ _ us hl => match us, hl with | [_, _], _ => rfl
  obtain ⟨fd_check_order, F_check_order⟩ := c.def_ 14 (d := df_check_order) rfl
  have S_check_order : Stands K mg "check_order" s_check_order ["catalog", "order"] := stands_of F_check_order (He.glo_ok X G (c.fact 47 (f := .glo "check_order") rfl)) fun _ _ _ _ _ _ us hl => match us, hl with | [_, _], _ => rfl
  obtain ⟨fd_check_amount, F_check_amount⟩ := c.def_ 15 (d := df_check_amount) rfl
  have S_check_amount : Stands K mg "check_amount" s_check_amount ["amount"] := stands_of F_check_amount (He.glo_ok X G (c.fact 48 (f := .glo "check_amount") rfl)) fun _ _ _ _ _ _ us hl => match us, hl with | [_], _ => rfl
  obtain ⟨fd_check_weights, F_check_weights⟩ := c.def_ 16 (d := df_check_weights) rfl
  have S_check_weights : Stands K mg "check_weights" s_check_weights ["weights"] := stands_of F_check_weights (He.glo_ok X G (c.fact 49 (f := .glo "check_weights") rfl)) fun _ _ _ _ _ _ us hl => match us, hl with | [_], _ => rfl
  obtain ⟨fd_check_rate, F_check_rate⟩ := c.def_ 17 (d := df_check_rate) rfl
  have S_check_rate : Stands K mg "check_rate" s_check_rate ["rate"] := stands_of F_check_rate (He.glo_ok X G (c.fact 50 (f := .glo "check_rate") rfl)) fun _ _ _ _ _ _ us hl => match us, hl with | [_], _ => rfl
  obtain ⟨fd_shared, F_shared⟩ := c.def_ 18 (d := df_shared) rfl
  have S_shared : Stands K mg "shared" s_shared ["amount", "weights"] := stands_of F_shared (He.glo_ok X G (c.fact 51 (f := .glo "shared") rfl)) fun _ _ _ _ _ _ us hl => match us, hl with | [_, _], _ => rfl
  obtain ⟨fd_taxed, F_taxed⟩ := c.def_ 19 (d := df_taxed) rfl
  have S_taxed : Stands K mg "taxed" s_taxed ["net", "rate"] := stands_of F_taxed (He.glo_ok X G (c.fact 52 (f := .glo "taxed") rfl)) fun _ _ _ _ _ _ us hl => match us, hl with | [_, _], _ => rfl
  obtain ⟨fd_is_price, F_is_price⟩ := c.def_ 20 (d := df_is_price) rfl
  have S_is_price : Stands K mg "is_price" s_is_price ["item", "value"] := stands_of F_is_price (He.glo_ok X G (c.fact 53 (f := .glo "is_price") rfl)) fun _ _ _ _ _ _ us hl => match us, hl with | [_, _], _ => rfl
  obtain ⟨fd_check_prices, F_check_prices⟩ := c.def_ 21 (d := df_check_prices) rfl
  have S_check_prices : Stands K mg "check_prices" s_check_prices ["catalog", "prices"] := stands_of F_check_prices (He.glo_ok X G (c.fact 54 (f := .glo "check_prices") rfl)) fun _ _ _ _ _ _ us hl => match us, hl with | [_, _], _ => rfl
  obtain ⟨fd_bill, F_bill⟩ := c.def_ 22 (d := df_bill) rfl
  have S_bill : Stands K mg "bill" s_bill ["catalog", "prices", "order", "voucher"] := stands_of F_bill (He.glo_ok X G (c.fact 55 (f := .glo "bill") rfl)) fun _ _ _ _ _ _ us hl => match us, hl with | [_, _, _, _], _ => rfl
  obtain ⟨fd_offs_of, F_offs_of⟩ := c.def_ 23 (d := df_offs_of) rfl
  have S_offs_of : Stands K mg "offs_of" s_offs_of ["amounts", "voucher"] := stands_of F_offs_of (He.glo_ok X G (c.fact 56 (f := .glo "offs_of") rfl)) fun _ _ _ _ _ _ us hl => match us, hl with | [_, _], _ => rfl
  obtain ⟨fd_total_of, F_total_of⟩ := c.def_ 24 (d := df_total_of) rfl
  have S_total_of : Stands K mg "total_of" s_total_of ["lines"] := stands_of F_total_of (He.glo_ok X G (c.fact 57 (f := .glo "total_of") rfl)) fun _ _ _ _ _ _ us hl => match us, hl with | [_], _ => rfl
  obtain ⟨fd_is_line, F_is_line⟩ := c.def_ 25 (d := df_is_line) rfl
  have S_is_line : Stands K mg "is_line" s_is_line ["value"] := stands_of F_is_line (He.glo_ok X G (c.fact 58 (f := .glo "is_line") rfl)) fun _ _ _ _ _ _ us hl => match us, hl with | [_], _ => rfl
  obtain ⟨fd_check_bill, F_check_bill⟩ := c.def_ 26 (d := df_check_bill) rfl
  have S_check_bill : Stands K mg "check_bill" s_check_bill ["lines"] := stands_of F_check_bill (He.glo_ok X G (c.fact 59 (f := .glo "check_bill") rfl)) fun _ _ _ _ _ _ us hl => match us, hl with | [_], _ => rfl
  obtain ⟨fd_check_counts, F_check_counts⟩ := c.def_ 27 (d := df_check_counts) rfl
  have S_check_counts : Stands K mg "check_counts" s_check_counts ["lines", "counts"] := stands_of F_check_counts (He.glo_ok X G (c.fact 60 (f := .glo "check_counts") rfl)) fun _ _ _ _ _ _ us hl => match us, hl with | [_, _], _ => rfl
  obtain ⟨fd_refund, F_refund⟩ := c.def_ 28 (d := df_refund) rfl
  have S_refund : Stands K mg "refund" s_refund ["lines", "back", "more"] := stands_of F_refund (He.glo_ok X G (c.fact 61 (f := .glo "refund") rfl)) fun _ _ _ _ _ _ us hl => match us, hl with | [_, _, _], _ => rfl
  obtain ⟨fd_both, F_both⟩ := c.def_ 29 (d := df_both) rfl
  have S_both : Stands K mg "both" s_both ["one", "other"] := stands_of F_both (He.glo_ok X G (c.fact 62 (f := .glo "both") rfl)) fun _ _ _ _ _ _ us hl => match us, hl with | [_, _], _ => rfl
  obtain ⟨fd_refunds, F_refunds⟩ := c.def_ 30 (d := df_refunds) rfl
  have S_refunds : Stands K mg "refunds" s_refunds ["lines", "rows"] := stands_of F_refunds (He.glo_ok X G (c.fact 63 (f := .glo "refunds") rfl)) fun _ _ _ _ _ _ us hl => match us, hl with | [_, _], _ => rfl
  obtain ⟨fd__law_taken, F__law_taken⟩ := c.def_ 31 (d := df__law_taken) rfl
  have S__law_taken : Stands K mg "_law_taken" s__law_taken ["row", "many"] := stands_of F__law_taken (He.glo_ok X G (c.fact 64 (f := .glo "_law_taken") rfl)) fun _ _ _ _ _ _ us hl => match us, hl with | [_, _], _ => rfl
  obtain ⟨fd__law_pick, F__law_pick⟩ := c.def_ 32 (d := df__law_pick) rfl
  have S__law_pick : Stands K mg "_law_pick" s__law_pick ["row", "things"] := stands_of F__law_pick (He.glo_ok X G (c.fact 65 (f := .glo "_law_pick") rfl)) fun _ _ _ _ _ _ us hl => match us, hl with | [_, _], _ => rfl
  obtain ⟨fd__law_alike, F__law_alike⟩ := c.def_ 33 (d := df__law_alike) rfl
  have S__law_alike : Stands K mg "_law_alike" s__law_alike ["found", "due"] := stands_of F__law_alike (He.glo_ok X G (c.fact 66 (f := .glo "_law_alike") rfl)) fun _ _ _ _ _ _ us hl => match us, hl with | [_, _], _ => rfl
  obtain ⟨fd__law_catalog, F__law_catalog⟩ := c.def_ 34 (d := df__law_catalog) rfl
  have S__law_catalog : Stands K mg "_law_catalog" s__law_catalog ["row"] := stands_of F__law_catalog (He.glo_ok X G (c.fact 67 (f := .glo "_law_catalog") rfl)) fun _ _ _ _ _ _ us hl => match us, hl with | [_], _ => rfl
  obtain ⟨fd__law_order, F__law_order⟩ := c.def_ 35 (d := df__law_order) rfl
  have S__law_order : Stands K mg "_law_order" s__law_order ["row", "catalog", "name"] := stands_of F__law_order (He.glo_ok X G (c.fact 68 (f := .glo "_law_order") rfl)) fun _ _ _ _ _ _ us hl => match us, hl with | [_, _, _], _ => rfl
  obtain ⟨fd__law_bill_prices, F__law_bill_prices⟩ := c.def_ 36 (d := df__law_bill_prices) rfl
  have S__law_bill_prices : Stands K mg "_law_bill_prices" s__law_bill_prices ["row", "catalog"] := stands_of F__law_bill_prices (He.glo_ok X G (c.fact 69 (f := .glo "_law_bill_prices") rfl)) fun _ _ _ _ _ _ us hl => match us, hl with | [_, _], _ => rfl
  obtain ⟨fd_law, F_law⟩ := c.def_ 37 (d := df_law) rfl
  have S_law : Stands K mg "law" s_law ["script"] := stands_of F_law (He.glo_ok X G (c.fact 70 (f := .glo "law") rfl)) fun _ _ _ _ _ _ us hl => match us, hl with | [_], _ => rfl
  have eL := hfa.symm.trans (He.glo_ok X G (c.fact 70 (f := .glo "law") rfl))
  cases eL
  have bL := FunD.bindsA (ps := ["script"]) F_law fun _ _ _ _ _ _ us hl => match us, hl with | [_], _ => rfl
  refine ⟨fd_law, fun s v => bL s [v] rfl, fun base hK hN => ?_⟩
  have abc : Abc mg := ⟨tL, tS⟩
  have k_between := keeps_between (P := P) (w := w) (base := base) B S_is_between
  have k_row := keeps_row (P := P) (w := w) (base := base) B S_is_row
  have k_unlike := keeps_unlike (P := P) (w := w) (base := base) B S_are_unlike
  have k_name := keeps_name (P := P) (w := w) (base := base) B abc S_is_name
  have k_names := keeps_names B S_are_names k_row k_name k_unlike
  have k_lane := keeps_lane S_is_lane k_row k_between
  have k_lanes := keeps_lanes B S_are_lanes k_row k_lane k_unlike
  have k_sup := keeps_sup S_is_supply k_row k_name k_between
  have k_sups := keeps_sups B S_are_supplies k_row k_sup k_unlike
  have k_isCat := keeps_isCat B S_is_catalog k_row k_names k_lanes k_sups
  have k_checkCat := keeps_checkCat S_check_catalog k_isCat
  have k_wished := keeps_wished B S_are_wished k_names
  have k_wish := keeps_wish S_is_wish k_row k_between k_wished
  have k_order := keeps_order B S_is_order k_row k_name k_between k_wish
  have k_checkOrd := keeps_checkOrd S_check_order k_order
  have k_amount := keeps_amount en M S_check_amount k_between
  have k_rate := keeps_rate en S_check_rate k_between
  have k_weights := keeps_weights B en M S_check_weights k_between k_row
  have k_taxed := keeps_taxed S_taxed k_amount k_rate
  have k_shared := keeps_shared B S_shared k_amount k_weights
  have k_price := keeps_price MC MR S_is_price k_row k_between
  have k_prices := keeps_prices B ep S_check_prices k_row k_price
  have k_offs := keeps_offs B S_offs_of k_shared
  have k_bill := keeps_bill B en MC S_bill k_checkCat k_prices k_checkOrd k_between k_taxed k_offs
  have k_line := keeps_line ML S_is_line k_row k_name k_between
  have k_checkBill := keeps_checkBill B eb S_check_bill k_row k_line
  have k_total := keeps_total B S_total_of k_checkBill
  have k_counts := keeps_counts B en S_check_counts k_row k_between
  have k_both := keeps_both (P := P) (w := w) (base := base) B S_both
  have k_refund := keeps_refund B S_refund k_checkBill k_counts k_both
  have k_refunds := keeps_refunds B S_refunds k_checkBill k_refund k_both
  have k_taken := keeps_taken (P := P) (w := w) (base := base) B S__law_taken
  have k_pick := keeps_pick B S__law_pick k_taken
  have k_alike := keeps_alike (P := P) (w := w) (base := base) B S__law_alike 1
  have k_catalog := keeps_catalog B S__law_catalog k_taken k_pick
  have k_lorder := keeps_lawOrder B S__law_order k_taken k_pick
  have k_lprices := keeps_drawPrices B S__law_bill_prices k_taken k_pick
  exact keeps_law B en eb ep (fun_of F_law) k_taken k_pick k_alike k_catalog k_lorder k_lprices k_taxed k_shared k_total k_refund k_refunds k_bill
end Sh
open PySem PySem.W PySem.Calls PyProof.Rows
theorem PySem.Challenge.cw_surehouse_k10_whole_bills_holds : PySem.Challenge.rw_surehouse_k10_whole_bills.Holds := by
  w_on; o_law
  refine HandSHeadRun.head_any (r := OpenLaw.row PySem.Challenge.rw_surehouse_k10_whole_bills) (q := view (OpenLaw.row PySem.Challenge.rw_surehouse_k10_whole_bills).prog [54]) (H := Sh.hkE) (ob := Sh.obE) (M := 6000) (loose := Sh.namesE) (d := HandSHeadRun.topDef (OpenLaw.row PySem.Challenge.rw_surehouse_k10_whole_bills).prog 54) (kwd := []) Sh.obE_eq
    (by kernel_rfl) (fun s => by kernel_rfl) Sh.runE (by kernel_rfl) (by kernel_rfl) (by kernel_rfl) (by rfl) (by first | assumption | decide +kernel) (by decide +kernel) ⟨rfl, rfl, rfl, rfl, rfl, by decide +kernel⟩ ?hw ?hc
  case hw => w_witness2
  case hc =>
    refine L2.walk_ofE (l := PySem.Challenge.rw_surehouse_k10_whole_bills) (n := 63) (k := 9) (x := "script") (CX := L2.CX0) rfl (by decide) (by kernel_rfl) ⟨rfl, by decide, by decide⟩ ?F (fun _ _ _ _ z => z)
    intro w mg fa h Y G hmg0
    obtain ⟨K, KX, c⟩ := Y
    have hmg : mg ("law" : PySem.Str) = some (.ref fa) := by
      have e : (HandSHeadRun.topDef (OpenLaw.row PySem.Challenge.rw_surehouse_k10_whole_bills).prog 54).name = ("law" : PySem.Str) := by kernel_rfl
      rw [← e]
      exact hmg0
    obtain ⟨fd, hb, hF⟩ := Sh.factsE (P := (PySem.Challenge.rw_surehouse_k10_whole_bills).prog) (w := w) KX G hmg c
    exact ⟨K, fd, Sh.spLaw K, KX, hb, fun H a ns hl _ hS => ⟨a, ns, rfl, hS, fun _ => rfl⟩, hF⟩

