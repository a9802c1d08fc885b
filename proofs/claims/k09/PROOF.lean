import PyProof.Rows.All
import Wide.All
import OpenK.AllK
import Wide.FinOn
import HandS.ForMost
import HandS.ForExc
import HandS.Evl
import HandS.Walk
import HandS.IsInst
import HandS.Flow
import HandS.ExcCtx
import KE.GoesNew
import KE.GoesMore
import KE.GoesZip
import HandS.Iter
import KE.GoesEnum
import KE.KDictZip
import HandS.Zip0
import HandS.SortRule
import HandS.Style
import HandS.TupAny
import HandS.Defaults
import HandS.Head0
import HandS.Head1
import HandS.Head2
import HandS.HeadEnd
import HandS.HeadHook1
import HandS.HeadHook2
import PySem.Challenge.RW_surehouse_k09_whole_sums
set_option Elab.async false
set_option linter.all false
set_option maxRecDepth 100000
set_option maxHeartbeats 4000000
/-! Data that stands still in the heap, and what evaluates to which data. -/
namespace Sh
open PySem PySem.Spec L2
open Evl (Ex)

abbrev D := PyData
theorem rdx {G H : Hp} {a : Addr} {u : HO} (e : Ex G H) (h : Rd G a u) : Rd H a u := h.elim (fun q => .inl (e _ _ q)) fun ⟨o, q⟩ => .inr ⟨o, e _ _ q⟩
mutual
/-- at v stands the data d, all of it tracked in G -/
inductive Dn (G : Hp) : V → D → Prop
  | non : Dn G .non .none
  | bl (b : Bool) : Dn G (.bl b) (.bool b)
  | int (i : Int) : Dn G (.int i) (.int i)
  | str (x : Str) : Dn G (.str x) (.str x)
  | lst {a : Addr} {xs : List V} {ds : List D} : G a = some (.lst xs) → DnL G xs ds → Dn G (.ref a) (.list ds)
  | tup {a : Addr} {xs : List V} {ds : List D} : Rd G a (.tup xs) → DnL G xs ds → Dn G (.ref a) (.tuple ds)
  | dct {a : Addr} {kvs : List (Key × V)} {ps : List (D × D)} : G a = some (.dK kvs) → DnK G kvs ps → Dn G (.ref a) (.dict ps)
inductive DnL (G : Hp) : List V → List D → Prop
  | nil : DnL G [] []
  | cons {v : V} {vs : List V} {d : D} {ds : List D} : Dn G v d → DnL G vs ds → DnL G (v :: vs) (d :: ds)
inductive DnK (G : Hp) : List (Key × V) → List (D × D) → Prop
  | nil : DnK G [] []
  | cons {x : Str} {v : V} {kvs : List (Key × V)} {d : D} {ps : List (D × D)} : Dn G v d → DnK G kvs ps → DnK G ((.inr x, v) :: kvs) ((.str x, d) :: ps)
end

section
variable {G G' : Hp}
mutual
theorem Dn.mono (e : Ex G G') : ∀ (d : D) {v : V}, Dn G v d → Dn G' v d
  | .none, _, h => by cases h; exact .non
  | .bool b, _, h => by cases h; exact .bl b
  | .int i, _, h => by cases h; exact .int i
  | .str x, _, h => by cases h; exact .str x
  | .list ds, _, h => by
    cases h with
    | lst h1 h2 => exact .lst (e _ _ h1) (DnL.mono e ds h2)
  | .tuple ds, _, h => by
    cases h with
    | tup h1 h2 => exact .tup (rdx e h1) (DnL.mono e ds h2)
  | .dict ps, _, h => by
    cases h with
    | dct h1 h2 => exact .dct (e _ _ h1) (DnK.mono e ps h2)
theorem DnL.mono (e : Ex G G') : ∀ (ds : List D) {vs : List V}, DnL G vs ds → DnL G' vs ds
  | [], _, h => by cases h; exact .nil
  | d :: ds, _, h => by
    cases h with
    | cons h1 h2 => exact .cons (Dn.mono e d h1) (DnL.mono e ds h2)
theorem DnK.mono (e : Ex G G') : ∀ (ps : List (D × D)) {kvs : List (Key × V)}, DnK G kvs ps → DnK G' kvs ps
  | [], _, h => by cases h; exact .nil
  | (a, d) :: ps, _, h => by
    cases h with
    | cons h1 h2 => exact .cons (Dn.mono e d h1) (DnK.mono e ps h2)
end
mutual
def flatD : D → Bool
  | .dict _ => false
  | .list ds => flatDs ds
  | .tuple ds => flatDs ds
  | _ => true
def flatDs : List D → Bool
  | [] => true
  | d :: ds => flatD d && flatDs ds
end
mutual
theorem Dn.dp {K : PySem.W.Frag} : ∀ (d : D) {v : V}, flatD d = true → Dn G v d → Dp K G v d
  | .none, _, _, h => by cases h; exact .non
  | .bool b, _, _, h => by cases h; exact .bl b
  | .int i, _, _, h => by cases h; exact .int i
  | .str x, _, _, h => by cases h; exact .str x
  | .list ds, _, f, h => by
    cases h with
    | lst h1 h2 => exact .lst (.inl (.inl h1)) (DnL.dp ds (by unfold flatD at f; exact f) h2)
  | .tuple ds, _, f, h => by
    cases h with
    | tup h1 h2 => exact .tup (.inl h1) (DnL.dp ds (by unfold flatD at f; exact f) h2)
  | .dict ps, _, f, h => by
    unfold flatD at f
    cases f
theorem DnL.dp {K : PySem.W.Frag} : ∀ (ds : List D) {vs : List V}, flatDs ds = true → DnL G vs ds → DpAll K G vs ds
  | [], _, _, h => by cases h; exact .nil
  | d :: ds, _, f, h => by
    unfold flatDs at f
    rw [Bool.and_eq_true] at f
    cases h with
    | cons h1 h2 => exact .cons (Dn.dp d f.1 h1) (DnL.dp ds f.2 h2)
end
theorem DnL.length : ∀ {vs : List V} {ds : List D}, DnL G vs ds → vs.length = ds.length
  | [], [], _ => rfl
  | _ :: _, _ :: _, h => by
    cases h with
    | cons _ h2 => exact congrArg Nat.succ (DnL.length h2)
theorem DnL.at : ∀ {vs : List V} {ds : List D} {i : Nat} {d : D}, DnL G vs ds → ds[i]? = some d → ∃ v, vs[i]? = some v ∧ Dn G v d
  | _, [], i, d, _, e => by simp at e
  | _, d' :: ds, 0, d, h, e => by
    cases h with
    | cons h1 _ =>
      have e' : d' = d := by simpa using e
      subst e'
      exact ⟨_, rfl, h1⟩
  | _, d' :: ds, i + 1, d, h, e => by
    cases h with
    | cons _ h2 =>
      obtain ⟨v, e1, e2⟩ := DnL.at h2 (i := i) (d := d) (by simpa using e)
      exact ⟨v, by simpa using e1, e2⟩
theorem DnL.att : ∀ {vs : List V} {ds : List D} {i : Nat} {v : V}, DnL G vs ds → vs[i]? = some v → ∃ d, ds[i]? = some d ∧ Dn G v d
  | [], _, i, v, _, e => by simp at e
  | v' :: vs, _, 0, v, h, e => by
    cases h with
    | cons h1 _ =>
      have e' : v' = v := by simpa using e
      subst e'
      exact ⟨_, rfl, h1⟩
  | v' :: vs, _, i + 1, v, h, e => by
    cases h with
    | cons _ h2 =>
      obtain ⟨d, e1, e2⟩ := DnL.att h2 (i := i) (v := v) (by simpa using e)
      exact ⟨d, by simpa using e1, e2⟩
theorem DnL.app {vs us : List V} {ds es : List D} (h : DnL G vs ds) (k : DnL G us es) : DnL G (vs ++ us) (ds ++ es) := by
  induction ds generalizing vs with
  | nil => cases h; exact k
  | cons d ds ih =>
    cases h with
    | cons h1 h2 => exact .cons h1 (ih h2)
theorem DnL.snoc {vs : List V} {ds : List D} {v : V} {d : D} (h : DnL G vs ds) (k : Dn G v d) : DnL G (vs ++ [v]) (ds ++ [d]) := h.app (.cons k .nil)
end

/-! ### growth: G what stands still, H the whole heap -/
structure Gr (G H G2 H2 : Hp) : Prop where
  g : Ex G G2
  s : Ex G2 H2
  h : Ex H H2
  f : ∀ a, G a = none → H a ≠ none → G2 a = none
section
variable {G H G2 H2 G3 H3 : Hp}
theorem Gr.refl (e : Ex G H) : Gr G H G H := ⟨Ex.refl _, e, Ex.refl _, fun _ h _ => h⟩
theorem Gr.trans (a : Gr G H G2 H2) (b : Gr G2 H2 G3 H3) : Gr G H G3 H3 :=
  ⟨a.g.trans b.g, b.s, a.h.trans b.h, fun x h1 h2 => b.f x (a.f x h1 h2) fun h3 => by
    cases q : H x with
    | none => exact h2 q
    | some o =>
      have z := a.h x o q
      rw [h3] at z
      cases z⟩
theorem Ex.upd2 {p : Addr} {o : HO} (e : Ex G H) : Ex (upd G p o) (upd H p o) := fun a u q => by
  by_cases h : a = p
  · subst h
    rw [upd_same] at q ⊢
    exact q
  · rw [upd_ne h] at q ⊢
    exact e a u q
theorem Gr.new {p : Addr} {o : HO} (e : Ex G H) (hp : H p = none) : Gr G H (upd G p o) (upd H p o) :=
  ⟨Ex.new (Evl.fresh_back e hp), Ex.upd2 e, Ex.new hp, fun a h1 h2 => by
    have hne : a ≠ p := fun z => h2 (by rw [z]; exact hp)
    rw [upd_ne hne]
    exact h1⟩
/-- a new object that may change: not of what stands still -/
theorem Gr.loose {p : Addr} {o : HO} (e : Ex G H) (hp : H p = none) : Gr G H G (upd H p o) := ⟨Ex.refl _, e.trans (Ex.new hp), Ex.new hp, fun _ h _ => h⟩
theorem Gr.old (a : Gr G H G2 H2) {p : Addr} (h : H2 p = none) : H p = none := Evl.fresh_back a.h h
end

/-! ### what evaluates to which data -/
def EvD (te : TE) (σ : St) (G : Hp) (d : D) : Prop := ∀ H, Ex G H → ∀ Q : VK, (∀ v G2 H2, Gr G H G2 H2 → Dn G2 v d → Q v H2) → te σ H Q
def EvT (tt : TT) (σ : St) (G : Hp) (b : Bool) : Prop := ∀ H, Ex G H → ∀ Q : Bool → Hp → Prop, (∀ G2 H2, Gr G H G2 H2 → Q b H2) → tt σ H Q
def EvA (ta : TA) (σ : St) (G : Hp) (ds : List D) : Prop := ∀ H, Ex G H → ∀ Q : List V → Hp → Prop, (∀ vs G2 H2, Gr G H G2 H2 → DnL G2 vs ds → Q vs H2) → ta σ H Q
section
variable {K : PySem.W.Frag} {σ : St} {G G' : Hp} {ta tb te tc : TE} {t u : TT} {d e : D} {ar : TA}
/-- what stands still may be more -/
theorem grow_up {H G2 H2 : Hp} (e : Ex G G') (h : Ex G' H) (g : Gr G H G2 H2) : ∃ G3, Ex G2 G3 ∧ Gr G' H G3 H2 := by
  refine ⟨fun a => match G2 a with | some o => some o | none => G' a, fun a o q => ?_, ⟨fun a o q => ?_, fun a o q => ?_, g.h, fun a h1 h2 => ?_⟩⟩
  · show (match G2 a with | some o => some o | none => G' a) = some o
    rw [q]
  · show (match G2 a with | some o => some o | none => G' a) = some o
    cases r : G2 a with
    | none => exact q
    | some u =>
      have r1 := g.s a u r
      have r2 := g.h a o (h a o q)
      rw [r1] at r2
      exact r2
  · have q' : (match G2 a with | some o => some o | none => G' a) = some o := q
    cases r : G2 a with
    | none =>
      rw [r] at q'
      exact g.h a o (h a o q')
    | some uu =>
      rw [r] at q'
      cases q'
      exact g.s a o r
  · show (match G2 a with | some o => some o | none => G' a) = none
    have r : G a = none := Evl.fresh_back e h1
    rw [g.f a r h2]
    exact h1
theorem EvD.mono (e : Ex G G') (h : EvD te σ G d) : EvD te σ G' d := fun H x Q q => h H (e.trans x) Q fun v G2 H2 g k => by
  obtain ⟨G3, a, b⟩ := grow_up e x g
  exact q v G3 H2 b (Dn.mono a d k)
theorem EvT.mono {b : Bool} (e : Ex G G') (h : EvT t σ G b) : EvT t σ G' b := fun H x Q q => h H (e.trans x) Q fun G2 H2 g => by
  obtain ⟨G3, a, b⟩ := grow_up e x g
  exact q G3 H2 b
theorem EvA.mono {ds : List D} (e : Ex G G') (h : EvA ar σ G ds) : EvA ar σ G' ds := fun H x Q q => h H (e.trans x) Q fun v G2 H2 g k => by
  obtain ⟨G3, a, b⟩ := grow_up e x g
  exact q v G3 H2 b (DnL.mono a ds k)

/-- the i-th slot holds d -/
def Sl (σ : St) (G : Hp) (i : Nat) (d : D) : Prop := ∃ v, σ[i]? = some (some v) ∧ Dn G v d
theorem Sl.mono {i : Nat} (e : Ex G G') (h : Sl σ G i d) : Sl σ G' i d := let ⟨v, a, b⟩ := h; ⟨v, a, Dn.mono e d b⟩
theorem evd_var {i : Nat} (h : Sl σ G i d) : EvD (tVar i) σ G d := fun H e Q q => let ⟨v, a, b⟩ := h; ⟨v, a, q v G H (Gr.refl e) b⟩
theorem evd_c {v : V} (h : Dn G v d) : EvD (tC v) σ G d := fun H e Q q => q v G H (Gr.refl e) h
theorem evd_int {i : Int} : EvD (tC (.int i)) σ G (.int i) := evd_c (.int i)
theorem evd_str {x : Str} : EvD (tC (.str x)) σ G (.str x) := evd_c (.str x)
theorem evd_bl {b : Bool} : EvD (tC (.bl b)) σ G (.bool b) := evd_c (.bl b)
theorem evd_non : EvD (tC .non) σ G .none := evd_c .non
theorem evd_is {d' : D} (h : EvD te σ G d) (e : d = d') : EvD te σ G d' := e ▸ h
theorem evt_is {b b' : Bool} (h : EvT t σ G b) (e : b = b') : EvT t σ G b' := e ▸ h
theorem ea_nil : EvA tNil σ G [] := fun H e Q q => q [] G H (Gr.refl e) .nil
theorem ea_cons {ds : List D} (h : EvD te σ G d) (k : EvA ar σ G ds) : EvA (tCons te ar) σ G (d :: ds) := fun H e Q q =>
  h H e _ fun v G2 H2 g1 n1 => (k.mono g1.g) H2 g1.s _ fun vs G3 H3 g2 n2 => q _ G3 H3 (g1.trans g2) (.cons (Dn.mono g2.g _ n1) n2)
theorem evd_tup {ds : List D} (h : EvA ar σ G ds) (hl : ds.length ≤ 100000) : EvD (tTup ar) σ G (.tuple ds) := fun H e Q q =>
  h H e _ fun vs G2 H2 g n => ⟨Evl.sz_of (by rw [n.length]; exact hl), fun p hp => q _ (upd G2 p (.tup vs)) _ (g.trans (Gr.new g.s hp)) (.tup (.inl upd_same) (DnL.mono (Ex.new (Evl.fresh_back g.s hp)) ds n))⟩
theorem evd_lst {ds : List D} (h : EvA ar σ G ds) (hl : ds.length ≤ 100000) : EvD (tLst ar) σ G (.list ds) := fun H e Q q =>
  h H e _ fun vs G2 H2 g n => ⟨Evl.sz_of (by rw [n.length]; exact hl), fun p hp => q _ (upd G2 p (.lst vs)) _ (g.trans (Gr.new g.s hp)) (.lst upd_same (DnL.mono (Ex.new (Evl.fresh_back g.s hp)) ds n))⟩

/-! operators -/
/-- r of data: on values that bear d and e it gives a value that bears c -/
def R2D (r : R2) (d e c : D) (G : Hp) : Prop := ∀ G1 H x y, Ex G G1 → Ex G1 H → Dn G1 x d → Dn G1 y e → ∀ Q : VK, (∀ v G2 H2, Gr G1 H G2 H2 → Dn G2 v c → Q v H2) → r x y H Q
theorem evd_op {r : R2} {c : D} (h : EvD ta σ G d) (k : EvD tb σ G e) (hr : R2D r d e c G) : EvD (tOp r ta tb) σ G c := fun H x Q q =>
  h H x _ fun v G2 H2 g1 n1 => (k.mono g1.g) H2 g1.s _ fun w G3 H3 g2 n2 => hr G3 H3 v w (g1.g.trans g2.g) g2.s (Dn.mono g2.g _ n1) n2 Q fun z G4 H4 g3 n3 => q z G4 H4 ((g1.trans g2).trans g3) n3
theorem r_I0 {g : Int → Int → V} {i j : Int} {c : D} (hc : ∀ G, Dn G (g i j) c) : R2D (rI0 g) (.int i) (.int j) c G := fun G1 H x y _ e hx hy Q q => by
  cases hx
  cases hy
  exact ⟨i, j, rfl, rfl, q _ G1 H (Gr.refl e) (hc G1)⟩
theorem r_I {C : Int → Int → Prop} {g : Int → Int → V} {i j : Int} {c : D} (h : C i j) (hc : ∀ G, Dn G (g i j) c) : R2D (rI C g) (.int i) (.int j) c G := fun G1 H x y _ e hx hy Q q => by
  cases hx
  cases hy
  exact ⟨i, j, rfl, rfl, h, q _ G1 H (Gr.refl e) (hc G1)⟩
/-- == of two scalars -/
def scalD : D → D → Option Bool
  | .none, .none => some true
  | .int i, .int j => some (decide (i = j))
  | .str x, .str y => some (decide (x = y))
  | .bool x, .bool y => some (decide (x = y))
  | _, _ => none
theorem r_eq {b : Bool} (h : scalD d e = some b) : R2D rEq d e (.bool b) G := fun G1 H x y _ ex hx hy Q q => by
  have key : scal x y = true ∧ decide (x = y) = b := by
    cases hx <;> cases hy <;> first | cases h | skip
    · exact ⟨rfl, rfl⟩
    · rename_i p p'
      refine ⟨rfl, ?_⟩
      cases p <;> cases p' <;> rfl
    · rename_i p p'
      refine ⟨rfl, ?_⟩
      by_cases z : p = p'
      · subst z; simp
      · simp [z]
    · rename_i p p'
      refine ⟨rfl, ?_⟩
      by_cases z : p = p'
      · subst z; simp
      · simp [z]
  refine ⟨key.1, ?_⟩
  rw [key.2]
  exact q _ G1 H (Gr.refl ex) (.bl b)
theorem r_ne {b : Bool} (h : scalD d e = some b) : R2D rNe d e (.bool (!b)) G := fun G1 H x y _ ex hx hy Q q => by
  have key : scal x y = true ∧ decide (x = y) = b := by
    cases hx <;> cases hy <;> first | cases h | skip
    · exact ⟨rfl, rfl⟩
    · rename_i p p'
      refine ⟨rfl, ?_⟩
      cases p <;> cases p' <;> rfl
    · rename_i p p'
      refine ⟨rfl, ?_⟩
      by_cases z : p = p'
      · subst z; simp
      · simp [z]
    · rename_i p p'
      refine ⟨rfl, ?_⟩
      by_cases z : p = p'
      · subst z; simp
      · simp [z]
  refine ⟨key.1, ?_⟩
  rw [key.2]
  exact q _ G1 H (Gr.refl ex) (.bl (!b))
/-- a chain of two comparisons -/
theorem evd_chain {r r' : R2} {c : D} {b b' : Bool} (h : EvD ta σ G d) (k : EvD tb σ G e) (l : EvD tc σ G c) (hr : R2D r d e (.bool b) G) (hr' : b = true → R2D r' e c (.bool b') G) : EvD (tChain r r' ta tb tc) σ G (.bool (b && b')) := fun H x Q q =>
  h H x _ fun v G2 H2 g1 n1 => (k.mono g1.g) H2 g1.s _ fun w G3 H3 g2 n2 => hr G3 H3 v w (g1.g.trans g2.g) g2.s (Dn.mono g2.g _ n1) n2 _ fun z G4 H4 g3 n3 => by
    cases n3
    refine ⟨b, rfl, ?_⟩
    cases b with
    | true =>
      show tc σ H4 fun w' H5 => r' w w' H5 Q
      exact (l.mono ((g1.g.trans g2.g).trans g3.g)) H4 g3.s _ fun w' G5 H5 g4 n4 => hr' rfl G5 H5 w w' (((g1.g.trans g2.g).trans g3.g).trans g4.g) g4.s (Dn.mono (g3.g.trans g4.g) _ n2) n4 Q fun z G6 H6 g5 n5 => q z G6 H6 ((((g1.trans g2).trans g3).trans g4).trans g5) n5
    | false =>
      show Q (.bl false) H4
      exact q _ G4 H4 ((g1.trans g2).trans g3) (.bl false)

/-! tests -/
theorem evt_test {b : Bool} (h : EvD te σ G (.bool b)) : EvT (tTest te) σ G b := fun H e Q q => h H e _ fun v G2 H2 g n => by
  cases n
  exact ⟨b, rfl, q G2 H2 g⟩
theorem evt_B {b : Bool} (h : EvD te σ G (.bool b)) : EvT (tB te) σ G b := fun H e Q q => h H e _ fun v G2 H2 g n => by
  cases n
  exact ⟨b, rfl, q G2 H2 g⟩
theorem evt_not {b : Bool} (h : EvT t σ G b) : EvT (tNot t) σ G (!b) := fun H e Q q => h H e _ q
theorem evt_and {a b : Bool} (h : EvT t σ G a) (k : a = true → EvT u σ G b) : EvT (tAnd t u) σ G (a && b) := fun H e Q q => h H e _ fun G2 H2 g => by
  cases a with
  | true =>
    show u σ H2 Q
    exact ((k rfl).mono g.g) H2 g.s Q fun G3 H3 g2 => q G3 H3 (g.trans g2)
  | false => exact q G2 H2 g
theorem evt_or {a b : Bool} (h : EvT t σ G a) (k : a = false → EvT u σ G b) : EvT (tOr t u) σ G (a || b) := fun H e Q q => h H e _ fun G2 H2 g => by
  cases a with
  | true => exact q G2 H2 g
  | false =>
    show u σ H2 Q
    exact ((k rfl).mono g.g) H2 g.s Q fun G3 H3 g2 => q G3 H3 (g.trans g2)
theorem evd_and {a b : Bool} (h : EvD ta σ G (.bool a)) (k : a = true → EvD tb σ G (.bool b)) : EvD (tAndV ta tb) σ G (.bool (a && b)) := fun H e Q q => h H e _ fun v G2 H2 g n => by
  cases n
  refine ⟨a, rfl, ?_⟩
  cases a with
  | true =>
    show tb σ H2 Q
    exact ((k rfl).mono g.g) H2 g.s Q fun v G3 H3 g2 n2 => q v G3 H3 (g.trans g2) n2
  | false => exact q _ G2 H2 g (.bl false)
theorem evd_or {a b : Bool} (h : EvD ta σ G (.bool a)) (k : a = false → EvD tb σ G (.bool b)) : EvD (tOrV ta tb) σ G (.bool (a || b)) := fun H e Q q => h H e _ fun v G2 H2 g n => by
  cases n
  refine ⟨a, rfl, ?_⟩
  cases a with
  | true => exact q _ G2 H2 g (.bl true)
  | false =>
    show tb σ H2 Q
    exact ((k rfl).mono g.g) H2 g.s Q fun v G3 H3 g2 n2 => q v G3 H3 (g.trans g2) n2
theorem evd_not {a : Bool} (h : EvD ta σ G (.bool a)) : EvD (tNotV ta) σ G (.bool (!a)) := fun H e Q q => h H e _ fun v G2 H2 g n => by
  cases n
  exact ⟨a, rfl, q _ G2 H2 g (.bl _)⟩
theorem evd_if {b : Bool} (h : EvT t σ G b) (k1 : b = true → EvD ta σ G d) (k2 : b = false → EvD tb σ G d) : EvD (tIf t ta tb) σ G d := fun H e Q q => h H e _ fun G2 H2 g => by
  cases b with
  | true =>
    show ta σ H2 Q
    exact ((k1 rfl).mono g.g) H2 g.s Q fun v G3 H3 g2 n2 => q v G3 H3 (g.trans g2) n2
  | false =>
    show tb σ H2 Q
    exact ((k2 rfl).mono g.g) H2 g.s Q fun v G3 H3 g2 n2 => q v G3 H3 (g.trans g2) n2

/-! calls of built-ins, by data -/
def RCD (r : List V → Hp → VK → Prop) (ds : List D) (c : D) (G : Hp) : Prop := ∀ G1 H vs, Ex G G1 → Ex G1 H → DnL G1 vs ds → ∀ Q : VK, (∀ v G2 H2, Gr G1 H G2 H2 → Dn G2 v c → Q v H2) → r vs H Q
theorem evd_cb {r : List V → Hp → VK → Prop} {ds : List D} {c : D} (h : EvA ar σ G ds) (hr : RCD r ds c G) : EvD (tCB r ar) σ G c := fun H e Q q =>
  h H e _ fun vs G2 H2 g n => hr G2 H2 vs g.g g.s n Q fun v G3 H3 g2 n2 => q v G3 H3 (g.trans g2) n2
theorem one_of {G : Hp} {vs : List V} {d : D} (h : DnL G vs [d]) : ∃ v, vs = [v] ∧ Dn G v d := by
  cases h with
  | cons h1 h2 =>
    cases h2
    exact ⟨_, rfl, h1⟩
theorem two_of {G : Hp} {vs : List V} {d e : D} (h : DnL G vs [d, e]) : ∃ v w, vs = [v, w] ∧ Dn G v d ∧ Dn G w e := by
  cases h with
  | cons h1 h2 =>
    obtain ⟨w, rfl, h3⟩ := one_of h2
    exact ⟨_, _, rfl, h1, h3⟩
end
end Sh

set_option Elab.async false
set_option linter.all false
set_option maxRecDepth 100000
set_option maxHeartbeats 4000000
namespace Sh
open PySem PySem.Spec L2
open Evl (Ex)

def strL (xs : List Str) : List D := xs.map .str
def intL (xs : List Int) : List D := xs.map .int
def boolL (xs : List Bool) : List D := xs.map .bool
theorem dn_strs {G : Hp} : ∀ {xs : List Str} {vs : List V}, DnL G vs (strL xs) → vs = xs.map V.str
  | [], _, h => by cases h; rfl
  | x :: xs, _, h => by
    cases h with
    | cons h1 h2 =>
      cases h1
      rw [dn_strs h2]
      rfl
theorem dn_ints {G : Hp} : ∀ {xs : List Int} {vs : List V}, DnL G vs (intL xs) → vs = xs.map V.int
  | [], _, h => by cases h; rfl
  | x :: xs, _, h => by
    cases h with
    | cons h1 h2 =>
      cases h1
      rw [dn_ints h2]
      rfl
theorem dn_bools {G : Hp} : ∀ {xs : List Bool} {vs : List V}, DnL G vs (boolL xs) → vs = xs.map V.bl
  | [], _, h => by cases h; rfl
  | x :: xs, _, h => by
    cases h with
    | cons h1 h2 =>
      cases h1
      rw [dn_bools h2]
      rfl
theorem strs_dn {G : Hp} : ∀ (xs : List Str), DnL G (xs.map V.str) (strL xs)
  | [] => .nil
  | x :: xs => .cons (.str x) (strs_dn xs)
theorem ints_dn {G : Hp} : ∀ (xs : List Int), DnL G (xs.map V.int) (intL xs)
  | [] => .nil
  | x :: xs => .cons (.int x) (ints_dn xs)
theorem all_flat (xs : List Str) : (xs.map V.str).all flatV = true := by
  induction xs with
  | nil => rfl
  | cons x xs ih => rw [List.map_cons, List.all_cons, ih] <;> rfl
theorem inV_str (x : Str) (xs : List Str) : inV (.str x) (xs.map V.str) = decide (x ∈ xs) := by
  unfold inV
  induction xs with
  | nil => simp
  | cons y ys ih =>
    rw [List.map_cons, List.any_cons, ih]
    show (y == x || decide (x ∈ ys)) = decide (x ∈ y :: ys)
    by_cases h : y = x
    · subst h
      simp
    · have h2 : ¬ x = y := fun e => h e.symm
      simp [h, h2]
/-! names for what the layer writes out -/
abbrev rLenD (K : PySem.W.Frag) : List V → Hp → VK → Prop := fun xs H Q => ∃ x n, xs = [x] ∧ LenV K x H n ∧ Q (.int n) H
abbrev rListD (K : PySem.W.Frag) : List V → Hp → VK → Prop := fun xs H Q => ∃ p ys, xs = [.ref p] ∧ (SqL K H p ys ∨ SqT K H p ys) ∧ ∀ l, H l = none → Q (.ref l) (upd H l (.lst ys))
abbrev rTupD (K : PySem.W.Frag) : List V → Hp → VK → Prop := fun xs H Q => ∃ p ys, xs = [.ref p] ∧ ((SqL K H p ys ∧ ∀ l, H l = none → Q (.ref l) (upd H l (.tup ys))) ∨ (SqT K H p ys ∧ Q (.ref p) H))
section
variable {K : PySem.W.Frag} {σ : L2.St} {G : Hp} {ta tb te tc : TE} {t : TT} {d e : D} {ar : TA}

/-! in, not in -/
theorem r_inT {x : Str} {xs : List Str} {neg : Bool} {b : Bool} (hb : (if neg then !decide (x ∈ xs) else decide (x ∈ xs)) = b) : R2D (rIn K neg) (.str x) (.tuple (strL xs)) (.bool b) G := fun G1 H u v _ ex hx hy Q q => by
  cases hx
  cases hy with
  | tup h1 h2 =>
    have e1 := dn_strs h2
    subst e1
    refine ⟨_, _, rfl, .inr (.inl (rdx ex h1)), rfl, all_flat xs, ?_⟩
    rw [inV_str, hb]
    exact q _ G1 H (Gr.refl ex) (.bl b)
theorem r_inL {x : Str} {xs : List Str} {neg : Bool} {b : Bool} (hb : (if neg then !decide (x ∈ xs) else decide (x ∈ xs)) = b) : R2D (rIn K neg) (.str x) (.list (strL xs)) (.bool b) G := fun G1 H u v _ ex hx hy Q q => by
  cases hx
  cases hy with
  | lst h1 h2 =>
    have e1 := dn_strs h2
    subst e1
    refine ⟨_, _, rfl, .inl (.inl (.inl (ex _ _ h1))), rfl, all_flat xs, ?_⟩
    rw [inV_str, hb]
    exact q _ G1 H (Gr.refl ex) (.bl b)
/-- one sign in a text -/
theorem r_sign {c : Nat} {z : Str} : R2D (fun x y H Q => ∃ (c : Nat) (z : Str), x = .str ⟨#[c]⟩ ∧ y = .str z ∧ Q (.bl (decide (c ∈ z.cps.toList))) H) (.str ⟨#[c]⟩) (.str z) (.bool (decide (c ∈ z.cps.toList))) G := fun G1 H u v _ ex hx hy Q q => by
  cases hx
  cases hy
  exact ⟨c, z, rfl, rfl, q _ G1 H (Gr.refl ex) (.bl _)⟩

/-! isinstance -/
def tyD : D → String
  | .none => "NoneType"
  | .bool _ => "bool"
  | .int _ => "int"
  | .str _ => "str"
  | .list _ => "list"
  | .tuple _ => "tuple"
  | .dict _ => "dict"
theorem tyX_of {G1 H : Hp} {v : V} (ex : Ex G1 H) (n : Dn G1 v d) : TyX K H v (.type (tyD d)) := by
  cases n with
  | non => exact .base .non
  | bl b => exact .base (.bl b)
  | int i => exact .base (.int i)
  | str x => exact .base (.str x)
  | lst h _ => exact .base (.lst (ex _ _ h))
  | tup h _ =>
    rcases rdx ex h with h | ⟨o, h⟩
    · exact .base (.tup h)
    · exact .fTuple h
  | dct h _ => exact .base (.dK (ex _ _ h))
theorem evd_isi {T : String} {b : Bool} (h : EvD te σ G d) (hb : kitB (tyD d) T = some b) : EvD (tCB (rIsi K) (tCons te (tCons (tC (.ty T)) tNil))) σ G (.bool b) := fun H x Q q =>
  h H x _ fun v G2 H2 g n => ⟨v, _, _, _, b, rfl, .ty T, tyX_of g.s n, kit_ty hb, q _ G2 H2 g (.bl b)⟩
/-- isinstance(x, (S, T)) -/
theorem evd_isi2 {S T : String} {a b : Bool} (h : EvD te σ G d) (ha : kitB (tyD d) S = some a) (hb : kitB (tyD d) T = some b) :
    EvD (tCB (rIsiT K) (tCons te (tCons (tTup (tCons (tC (.ty S)) (tCons (tC (.ty T)) tNil))) tNil))) σ G (.bool (a || b)) := fun H x Q q =>
  h H x _ fun v G2 H2 g n => ⟨by show 2 ≤ sizeLine; decide, fun p hp => by
    have ex2 : Ex G2 (upd H2 p (.tup [.ty S, .ty T])) := g.s.trans (Ex.new hp)
    refine ⟨v, p, [.ty S, .ty T], _, [.type S, .type T], a || b, rfl, upd_same, .cons (.ty S) (.cons (.ty T) .nil), tyX_of ex2 n, ?_, ?_⟩
    · refine kitAny_cons (b := a) (kit_ty ha) (fun e => ?_) (fun e => by rw [e]; rfl)
      refine kitAny_cons (b := b) (kit_ty hb) (fun e2 => ?_) (fun e2 => by rw [e2, Bool.or_true])
      rw [e, e2]
      exact kitAny_nil
    · exact q _ G2 _ (g.trans (Gr.loose g.s hp)) (.bl _)⟩

/-! len, all, any, sum, list, tuple -/
theorem r_lenT {ds : List D} {n : Int} (hn : (ds.length : Int) = n) : RCD (fun xs H Q => ∃ x n, xs = [x] ∧ LenV K x H n ∧ Q (.int n) H) [.tuple ds] (.int n) G := fun G1 H vs _ ex h Q q => by
  obtain ⟨v, rfl, n⟩ := one_of h
  cases n with
  | tup h1 h2 =>
    refine ⟨_, _, rfl, .inr ⟨_, .inl (rdx ex h1), rfl⟩, ?_⟩
    rw [h2.length, hn]
    exact q _ G1 H (Gr.refl ex) (.int _)
theorem r_lenL {ds : List D} {n : Int} (hn : (ds.length : Int) = n) : RCD (fun xs H Q => ∃ x n, xs = [x] ∧ LenV K x H n ∧ Q (.int n) H) [.list ds] (.int n) G := fun G1 H vs _ ex h Q q => by
  obtain ⟨v, rfl, n⟩ := one_of h
  cases n with
  | lst h1 h2 =>
    refine ⟨_, _, rfl, .inl ⟨_, .inl (.inl (ex _ _ h1)), rfl⟩, ?_⟩
    rw [h2.length, hn]
    exact q _ G1 H (Gr.refl ex) (.int _)
theorem r_lenS {x : Str} (hz : x.length ≤ 100000) {n : Int} (hn : (x.length : Int) = n) : RCD (fun xs H Q => ∃ x n, xs = [x] ∧ LenV K x H n ∧ Q (.int n) H) [.str x] (.int n) G := fun G1 H vs _ ex h Q q => by
  obtain ⟨v, rfl, n⟩ := one_of h
  cases n
  refine ⟨_, x.length, rfl, ⟨Evl.sz_of hz, rfl⟩, ?_⟩
  rw [hn]
  exact q _ G1 H (Gr.refl ex) (.int _)
theorem r_all {bs : List Bool} {b : Bool} (hb : bs.all id = b) : RCD (rAll K) [.list (boolL bs)] (.bool b) G := fun G1 H vs _ ex h Q q => by
  obtain ⟨v, rfl, n⟩ := one_of h
  cases n with
  | lst h1 h2 =>
    have e1 := dn_bools h2
    subst e1
    refine ⟨_, bs, rfl, .inl (.inl (ex _ _ h1)), ?_⟩
    rw [hb]
    exact q _ G1 H (Gr.refl ex) (.bl _)
theorem r_any {bs : List Bool} {b : Bool} (hb : bs.any id = b) : RCD (rAny K) [.list (boolL bs)] (.bool b) G := fun G1 H vs _ ex h Q q => by
  obtain ⟨v, rfl, n⟩ := one_of h
  cases n with
  | lst h1 h2 =>
    have e1 := dn_bools h2
    subst e1
    refine ⟨_, bs, rfl, .inl (.inl (ex _ _ h1)), ?_⟩
    rw [hb]
    exact q _ G1 H (Gr.refl ex) (.bl _)
theorem r_sum {ns : List Int} {z : Int} (hz : ns.sum = z) : RCD (rSum K) [.list (intL ns)] (.int z) G := fun G1 H vs _ ex h Q q => by
  obtain ⟨v, rfl, n⟩ := one_of h
  cases n with
  | lst h1 h2 =>
    have e1 := dn_ints h2
    subst e1
    refine ⟨_, ns, rfl, .inl (.inl (ex _ _ h1)), ?_⟩
    rw [hz]
    exact q _ G1 H (Gr.refl ex) (.int _)
theorem r_listT {ds : List D} : RCD (fun xs H Q => ∃ p ys, xs = [.ref p] ∧ (SqL K H p ys ∨ SqT K H p ys) ∧ ∀ l, H l = none → Q (.ref l) (upd H l (.lst ys))) [.tuple ds] (.list ds) G := fun G1 H vs _ ex h Q q => by
  obtain ⟨v, rfl, n⟩ := one_of h
  cases n with
  | tup h1 h2 =>
    exact ⟨_, _, rfl, .inr (.inl (rdx ex h1)), fun l hl => q _ (upd G1 l (.lst _)) _ (Gr.new ex hl) (.lst upd_same (DnL.mono (Ex.new (Evl.fresh_back ex hl)) ds h2))⟩
theorem r_listL {ds : List D} : RCD (fun xs H Q => ∃ p ys, xs = [.ref p] ∧ (SqL K H p ys ∨ SqT K H p ys) ∧ ∀ l, H l = none → Q (.ref l) (upd H l (.lst ys))) [.list ds] (.list ds) G := fun G1 H vs _ ex h Q q => by
  obtain ⟨v, rfl, n⟩ := one_of h
  cases n with
  | lst h1 h2 =>
    exact ⟨_, _, rfl, .inl (.inl (.inl (ex _ _ h1))), fun l hl => q _ (upd G1 l (.lst _)) _ (Gr.new ex hl) (.lst upd_same (DnL.mono (Ex.new (Evl.fresh_back ex hl)) ds h2))⟩
theorem r_tupL {ds : List D} : RCD (fun xs H Q => ∃ p ys, xs = [.ref p] ∧ ((SqL K H p ys ∧ ∀ l, H l = none → Q (.ref l) (upd H l (.tup ys))) ∨ (SqT K H p ys ∧ Q (.ref p) H))) [.list ds] (.tuple ds) G := fun G1 H vs _ ex h Q q => by
  obtain ⟨v, rfl, n⟩ := one_of h
  cases n with
  | lst h1 h2 =>
    exact ⟨_, _, rfl, .inl ⟨.inl (.inl (ex _ _ h1)), fun l hl => q _ (upd G1 l (.tup _)) _ (Gr.new ex hl) (.tup (.inl upd_same) (DnL.mono (Ex.new (Evl.fresh_back ex hl)) ds h2))⟩⟩

/-! items -/
theorem r_ixT {ds : List D} {i : Nat} {c : D} (h : ds[i]? = some c) : R2D (rIxT K) (.tuple ds) (.int i) c G := fun G1 H u v _ ex hx hy Q q => by
  cases hy
  cases hx with
  | tup h1 h2 =>
    obtain ⟨w, e1, e2⟩ := h2.at h
    exact ⟨_, _, _, w, rfl, rfl, .inl (rdx ex h1), atI_nat e1, q w G1 H (Gr.refl ex) e2⟩
theorem r_ixL {ds : List D} {i : Nat} {c : D} (h : ds[i]? = some c) : R2D (rIxL K) (.list ds) (.int i) c G := fun G1 H u v _ ex hx hy Q q => by
  cases hy
  cases hx with
  | lst h1 h2 =>
    obtain ⟨w, e1, e2⟩ := h2.at h
    exact ⟨_, _, _, w, rfl, rfl, .inl (.inl (ex _ _ h1)), atI_nat e1, q w G1 H (Gr.refl ex) e2⟩
theorem r_ixS {x : Str} {i : Nat} {c : Nat} (hz : x.length ≤ 100000) (h : x.cps.toList[i]? = some c) : R2D rIxS (.str x) (.int i) (.str ⟨#[c]⟩) G := fun G1 H u v _ ex hx hy Q q => by
  cases hx
  cases hy
  exact ⟨x, i, c, rfl, rfl, Evl.sz_of hz, atI_nat h, q _ G1 H (Gr.refl ex) (.str _)⟩
/-- the four values of a dict's text keys -/
def lookD (ps : List (D × D)) (x : Str) : Option D := (ps.find? fun p => match p.1 with | .str y => decide (y = x) | _ => false).map (·.2)
theorem dnk_val {kvs : List (Key × V)} {ps : List (D × D)} {x : Str} (h : DnK G kvs ps) : (valV kvs (.inr x) = none ∧ lookD ps x = none) ∨ ∃ v d, valV kvs (.inr x) = some v ∧ lookD ps x = some d ∧ Dn G v d := by
  induction ps generalizing kvs with
  | nil =>
    cases h
    exact .inl ⟨rfl, rfl⟩
  | cons p ps ih =>
    cases h with
    | @cons y v kvs' d _ h1 h2 =>
      by_cases hy : y = x
      · subst hy
        refine .inr ⟨v, d, ?_, ?_, h1⟩
        · unfold valV
          rw [List.find?_cons_of_pos (by simp)]
          rfl
        · unfold lookD
          rw [List.find?_cons_of_pos (by simp)]
          rfl
      · have e1 : valV ((Sum.inr y, v) :: kvs') (.inr x) = valV kvs' (.inr x) := by
          unfold valV
          rw [List.find?_cons_of_neg]
          simpa using hy
        have e2 : lookD ((.str y, d) :: ps) x = lookD ps x := by
          unfold lookD
          rw [List.find?_cons_of_neg]
          simpa using hy
        rw [e1, e2]
        exact ih h2
theorem evd_dget {ps : List (D × D)} {x : Str} {c : D} (h : EvD ta σ G (.dict ps)) (k : EvD tb σ G (.str x)) (hl : lookD ps x = some c) : EvD (tDGet ta tb) σ G c := fun H e Q q =>
  h H e _ fun v G2 H2 g n => (k.mono g.g) H2 g.s _ fun w G3 H3 g2 n2 => by
    cases n2
    cases n with
    | dct h1 h2 =>
      rcases dnk_val (x := x) h2 with ⟨_, z⟩ | ⟨u, d', z1, z2, z3⟩
      · rw [hl] at z
        cases z
      · rw [hl] at z2
        cases z2
        refine ⟨_, u, rfl, ?_, q u G3 H3 (g.trans g2) (Dn.mono g2.g _ z3)⟩
        rw [← z1]
        exact DGet.k (k := Sum.inr x) (g2.s _ _ (g2.g _ _ h1))
theorem evd_din {ps : List (D × D)} {x : Str} {b : Bool} (k : EvD tb σ G (.str x)) (h : EvD ta σ G (.dict ps)) (hl : (lookD ps x).isSome = b) : EvD (tDIn tb ta) σ G (.bool b) := fun H e Q q =>
  k H e _ fun w G2 H2 g n => (h.mono g.g) H2 g.s _ fun v G3 H3 g2 n2 => by
    cases n
    cases n2 with
    | dct h1 h2 =>
      rename_i a kvs
      refine ⟨_, valV kvs (.inr x), rfl, DGet.k (k := Sum.inr x) (g2.s _ _ h1), ?_⟩
      have e1 : (valV kvs (.inr x)).isSome = b := by
        rcases dnk_val (x := x) h2 with ⟨z1, z2⟩ | ⟨u, d', z1, z2, _⟩
        · rw [z1, ← hl, z2] <;> rfl
        · rw [z1, ← hl, z2] <;> rfl
      rw [e1]
      exact q _ G3 H3 (g.trans g2) (.bl b)

/-! promises by data -/
/-- what a def of data hands back: dom tells the arguments and the value -/
def spD (dom : List D → D → Prop) : Sp := fun vs H Q _ => ∃ ds c G, Ex G H ∧ DnL G vs ds ∧ dom ds c ∧ ∀ v G2 H2, Gr G H G2 H2 → Dn G2 v c → Q v H2
theorem evd_call {dom : List D → D → Prop} {ds : List D} {c : D} {E : XK} (h : EvA ar σ G ds) (hc : dom ds c) : EvD (tCall (spD dom) [] E ar) σ G c := fun H e Q q =>
  h H e _ fun vs G2 H2 g n => by
    show spD dom (vs ++ []) H2 Q E
    rw [List.append_nil]
    exact ⟨ds, c, G2, g.s, n, hc, fun v G3 H3 g2 n2 => q v G3 H3 (g.trans g2) n2⟩
theorem spD_imp {dom dom' : List D → D → Prop} (h : ∀ ds c, dom' ds c → dom ds c) : ∀ vs H Q E, spD dom' vs H Q E → spD dom vs H Q E := fun _ _ _ _ ⟨ds, c, G, a, b, k, q⟩ => ⟨ds, c, G, a, b, h ds c k, q⟩

/-! walks -/
/-- J goes over the data ds: at each turn a value that bears the next -/
structure WalkD (J : It) (G : Hp) (ds : List D) : Prop where
  go : ∀ i H, i < ds.length → Ex G H → J.go i H
  stop : ∀ H, Ex G H → J.stop ds.length H
  yld : ∀ i H x H', i < ds.length → Ex G H → J.yld i H x H' → ∃ G2 d, Gr G H G2 H' ∧ ds[i]? = some d ∧ Dn G2 x d
def EvI (wi : TI) (σ : L2.St) (G : Hp) (ds : List D) : Prop := ∀ H, Ex G H → ∀ R : It → Hp → Prop, (∀ J G2 H2, Gr G H G2 H2 → WalkD J G2 ds → R J H2) → wi σ H R
theorem WalkD.mono {J : It} {G' : Hp} {ds : List D} (e : Ex G G') (w : WalkD J G ds) : WalkD J G' ds :=
  ⟨fun i H hi x => w.go i H hi (e.trans x), fun H x => w.stop H (e.trans x), fun i H x H' hi k y => by
    obtain ⟨G2, d, g, h1, h2⟩ := w.yld i H x H' hi (e.trans k) y
    obtain ⟨G3, a, b⟩ := grow_up e k g
    exact ⟨G3, d, b, h1, Dn.mono a d h2⟩⟩
theorem walkD_list {a : Addr} {xs : List V} {ds : List D} (h : G a = some (.lst xs)) (n : DnL G xs ds) : WalkD (Itl K a) G ds where
  go := fun i H hi e => by
    have hi' : i < xs.length := by rw [n.length]; exact hi
    exact (walk_list (K := K) (a := a) (xs := xs)).goes i H hi' (.inl (.inl (e _ _ h)))
  stop := fun H e => by
    rw [← n.length]
    exact (walk_list (K := K) (a := a) (xs := xs)).stops H (.inl (.inl (e _ _ h)))
  yld := fun i H x H' hi e y => by
    have hi' : i < xs.length := by rw [n.length]; exact hi
    obtain ⟨rfl, e2⟩ := (walk_list (K := K) (a := a) (xs := xs)).yields i H x H' hi' (.inl (.inl (e _ _ h))) y
    obtain ⟨d, h1, h2⟩ := n.att e2
    exact ⟨G, d, Gr.refl e, h1, h2⟩
theorem walkD_tup {a : Addr} {xs : List V} {ds : List D} (h : Rd G a (.tup xs)) (n : DnL G xs ds) : WalkD (Itt K a) G ds where
  go := fun i H hi e => by
    have hi' : i < xs.length := by rw [n.length]; exact hi
    exact (walk_tup (K := K) (a := a) (xs := xs)).goes i H hi' (.inl (rdx e h))
  stop := fun H e => by
    rw [← n.length]
    exact (walk_tup (K := K) (a := a) (xs := xs)).stops H (.inl (rdx e h))
  yld := fun i H x H' hi e y => by
    have hi' : i < xs.length := by rw [n.length]; exact hi
    obtain ⟨rfl, e2⟩ := (walk_tup (K := K) (a := a) (xs := xs)).yields i H x H' hi' (.inl (rdx e h)) y
    obtain ⟨d, h1, h2⟩ := n.att e2
    exact ⟨G, d, Gr.refl e, h1, h2⟩
theorem ei_list {ds : List D} (h : EvD te σ G (.list ds)) : EvI (iList K te) σ G ds := fun H e R r => h H e _ fun v G2 H2 g n => by
  cases n with
  | lst h1 h2 => exact ⟨_, rfl, ⟨_, .inl (.inl (g.s _ _ h1))⟩, r _ G2 H2 g (walkD_list h1 h2)⟩
theorem ei_tup {ds : List D} (h : EvD te σ G (.tuple ds)) : EvI (iTup K te) σ G ds := fun H e R r => h H e _ fun v G2 H2 g n => by
  cases n with
  | tup h1 h2 => exact ⟨_, rfl, ⟨_, .inl (rdx g.s h1)⟩, r _ G2 H2 g (walkD_tup h1 h2)⟩
def signs (x : Str) : List D := x.cps.toList.map fun c => .str ⟨#[c]⟩
theorem ei_str {x : Str} (h : EvD te σ G (.str x)) : EvI (iStr te) σ G (signs x) := fun H e R r => h H e _ fun v G2 H2 g n => by
  cases n
  refine ⟨x, rfl, r _ G2 H2 g ?_⟩
  have hl : (signs x).length = x.cps.size := by
    unfold signs
    rw [List.length_map, Array.length_toList]
  refine ⟨fun i H hi _ => ?_, fun H _ => ?_, fun i H y H' hi k z => ?_⟩
  · exact (walk_str (z := x)).goes i H (by rw [← hl]; exact hi) trivial
  · rw [hl]
    exact (walk_str (z := x)).stops H trivial
  · obtain ⟨rfl, c, e1, rfl⟩ := (walk_str (z := x)).yields i H y H' (by rw [← hl]; exact hi) trivial z
    refine ⟨G2, .str ⟨#[c]⟩, Gr.refl k, ?_, .str _⟩
    unfold signs
    rw [List.getElem?_map, Array.getElem?_toList, e1]
    rfl
def upTo (n : Nat) : List D := (List.range n).map fun (i : Nat) => .int i
theorem ei_range {n : Nat} (h : EvA ar σ G [.int n]) (hn : n ≤ 1000000) : EvI (iRng1 ar) σ G (upTo n) := fun H e R r => h H e _ fun vs G2 H2 g k0 => by
  obtain ⟨v, rfl, k1⟩ := one_of k0
  cases k1
  refine ⟨n, rfl, by omega, by omega, r _ G2 H2 g ?_⟩
  have hl : (upTo n).length = n := by
    unfold upTo
    rw [List.length_map, List.length_range]
  refine ⟨fun i H hi _ => ?_, fun H _ => ?_, fun i H y H' hi k z => ?_⟩
  · show i < ((n : Int)).toNat
    rw [hl] at hi
    omega
  · show ((n : Int)).toNat ≤ (upTo n).length
    rw [hl]
    omega
  · obtain ⟨rfl, rfl⟩ := z
    rw [hl] at hi
    refine ⟨G2, .int i, Gr.refl k, ?_, ?_⟩
    · unfold upTo
      rw [List.getElem?_map, List.getElem?_range hi]
      rfl
    · rw [Int.zero_add]
      exact .int _

/-! list comprehensions -/
/-- what a target does with a value that bears d: the slots behind it -/
def EvG (g : TG) (σ : L2.St) (G : Hp) (d : D) (B : Hp → L2.St → Prop) : Prop := ∀ x H, Ex G H → Dn G x d → ∀ Q : L2.St → Hp → Prop, (∀ σ2, B G σ2 → Q σ2 H) → g x σ H Q
theorem eg_name {j : Nat} {d : D} : EvG (gName j) σ G d (fun G σ2 => ∃ x, σ2 = σ.set j (some x) ∧ Dn G x d) := fun x H _ n Q q => q _ ⟨x, rfl, n⟩
theorem eg_pair {j k : Nat} {d e : D} : EvG (gTup K 2 (gCons (gName j) (gCons (gName k) gNil))) σ G (.tuple [d, e]) (fun G σ2 => ∃ x y, σ2 = (σ.set j (some x)).set k (some y) ∧ Dn G x d ∧ Dn G y e) := fun x H ex n Q q => by
  cases n with
  | tup h1 h2 =>
    obtain ⟨v, w, rfl, n1, n2⟩ := two_of h2
    exact ⟨_, _, rfl, .inl (rdx ex h1), rfl, v, _, rfl, w, _, rfl, rfl, q _ ⟨v, w, rfl, n1, n2⟩⟩
theorem take_len {α : Type} {l : List α} {i : Nat} {x : α} (h : l[i]? = some x) : l.take (i + 1) = l.take i ++ [x] := by
  rw [List.take_add_one, h]
  rfl
/-- a list that was made just now, still to be changed -/
def EvO (te : TE) (σ : L2.St) (G : Hp) (ds : List D) : Prop := ∀ H, Ex G H → ∀ Q : VK, (∀ p xs G2 H2, Gr G H G2 H2 → H p = none → G2 p = none → H2 p = some (.lst xs) → DnL G2 xs ds → Q (.ref p) H2) → te σ H Q
theorem EvO.toD {ds : List D} (h : EvO te σ G ds) : EvD te σ G (.list ds) := fun H e Q q => h H e Q fun p xs G2 H2 g hp n hp2 m => by
  refine q (.ref p) (upd G2 p (.lst xs)) H2 ⟨g.g.trans (Ex.new n), fun a o z => ?_, g.h, fun a h1 h2 => ?_⟩ (.lst upd_same (DnL.mono (Ex.new n) _ m))
  · by_cases ha : a = p
    · subst ha
      rw [upd_same] at z
      rw [hp2, z]
    · rw [upd_ne ha] at z
      exact g.s a o z
  · have h3 : a ≠ p := fun z => h2 (by rw [z]; exact hp)
    rw [upd_ne h3]
    exact g.f a h1 h2
/-- [r x for x in ds if f x] -/
theorem evo_lc {wi : TI} {g : TG} {vs : List Nat} {ds : List D} {f : D → Bool} {r : D → D} {B : D → Hp → L2.St → Prop} (hi : EvI wi σ G ds) (hz : ds.length ≤ 40000)
    (hg : ∀ d ∈ ds, ∀ G1, Ex G G1 → EvG g (wipe σ vs) G1 d (B d)) (hw : ∀ d G1 σ2, B d G1 σ2 → wipe σ2 vs = wipe σ vs)
    (ht : ∀ d ∈ ds, ∀ G1 σ2, Ex G G1 → B d G1 σ2 → EvT t σ2 G1 (f d))
    (he : ∀ d ∈ ds, f d = true → ∀ G1 σ2, Ex G G1 → B d G1 σ2 → EvD te σ2 G1 (r d)) :
    EvO (tLc wi g t te vs) σ G ((ds.filter f).map r) := fun H e Q q => hi H e _ fun J G0 H0 g0 w D hD => by
  -- what the i turns have made stands in some Gi, without the list at D itself
  refine ⟨fun i m H' => m = ds.length - i ∧ i ≤ ds.length ∧ ∃ Gi acc, Gr G0 H0 Gi H' ∧ Gi D = none ∧ H' D = some (.lst acc) ∧ DnL Gi acc (((ds.take i).filter f).map r),
    ⟨ds.length, by simp, Nat.zero_le _, G0, [], ⟨Ex.refl _, g0.s.trans (Ex.new hD), Ex.new hD, fun _ a _ => a⟩, Evl.fresh_back g0.s hD, upd_same, .nil⟩, ?_⟩
  rintro i m H' ⟨rfl, hi', Gi, acc, gi, hGD, hHD, na⟩
  have wi' := w.mono gi.g
  by_cases hlt : i < ds.length
  · refine .inr ⟨wi'.go i H' hlt gi.s, fun H2 => ∃ Gj acc, Gr G0 H0 Gj H2 ∧ Gj D = none ∧ H2 D = some (.lst acc) ∧ DnL Gj acc (((ds.take (i + 1)).filter f).map r),
      fun H2 p => ⟨ds.length - (i + 1), by omega, rfl, hlt, p⟩, fun x H2 y => ?_⟩
    obtain ⟨G2, d, g2, hd, n2⟩ := wi'.yld i H' x H2 hlt gi.s y
    have hmem : d ∈ ds := List.mem_of_getElem? hd
    have hGD2 : G2 D = none := g2.f D hGD (by rw [hHD]; intro z; cases z)
    have ex2 : Ex G G2 := (g0.g.trans gi.g).trans g2.g
    refine hg d hmem G2 ex2 x H2 g2.s n2 _ fun σ2 hB => ⟨hw d G2 σ2 hB, ?_⟩
    refine ht d hmem G2 σ2 ex2 hB H2 g2.s _ fun G3 H3 g3 => ?_
    have hHD2 := g2.h _ _ hHD
    have hGD3 : G3 D = none := g3.f D hGD2 (by rw [hHD2]; intro z; cases z)
    have hHD3 := g3.h _ _ hHD2
    have gg3 := (gi.trans g2).trans g3
    have na3 : DnL G3 acc (((ds.take i).filter f).map r) := DnL.mono (g2.g.trans g3.g) _ na
    cases hf : f d with
    | false =>
      refine ⟨G3, acc, gg3, hGD3, hHD3, ?_⟩
      rw [take_len hd, List.filter_append, List.filter_cons, if_neg (by rw [hf]; decide)]
      show DnL G3 acc ((((ds.take i).filter f) ++ []).map r)
      rw [List.append_nil]
      exact na3
    | true =>
      show te σ2 H3 _
      refine (he d hmem hf G2 σ2 ex2 hB).mono g3.g H3 g3.s _ fun v G4 H4 g4 n4 => ?_
      have hGD4 : G4 D = none := g4.f D hGD3 (by rw [hHD3]; intro z; cases z)
      have hHD4 := g4.h _ _ hHD3
      have gg4 := gg3.trans g4
      refine ⟨acc, hHD4, ?_, G4, acc ++ [v], ⟨gg4.g, ?_, ?_, gg4.f⟩, hGD4, upd_same, ?_⟩
      · rw [na.length, List.length_map]
        have l1 := List.length_filter_le f (ds.take i)
        rw [List.length_take] at l1
        exact Nat.lt_of_lt_of_le (show _ < 100000 by omega) (by decide)
      · exact Ex.mut gg4.s hGD4
      · exact Ex.mut gg4.h hD
      · rw [take_len hd, List.filter_append, List.filter_cons, if_pos hf, List.map_append]
        exact (DnL.mono g4.g _ na3).snoc n4
  · have ei : i = ds.length := by omega
    subst ei
    refine .inl ⟨wi'.stop H' gi.s, ?_⟩
    rw [List.take_length] at na
    exact q D acc Gi H' (g0.trans ⟨gi.g, gi.s, gi.h, gi.f⟩) (Evl.fresh_back g0.h hD) hGD hHD na
theorem evd_lc {wi : TI} {g : TG} {vs : List Nat} {ds : List D} {f : D → Bool} {r : D → D} {B : D → Hp → L2.St → Prop} (hi : EvI wi σ G ds) (hz : ds.length ≤ 40000)
    (hg : ∀ d ∈ ds, ∀ G1, Ex G G1 → EvG g (wipe σ vs) G1 d (B d)) (hw : ∀ d G1 σ2, B d G1 σ2 → wipe σ2 vs = wipe σ vs)
    (ht : ∀ d ∈ ds, ∀ G1 σ2, Ex G G1 → B d G1 σ2 → EvT t σ2 G1 (f d))
    (he : ∀ d ∈ ds, f d = true → ∀ G1 σ2, Ex G G1 → B d G1 σ2 → EvD te σ2 G1 (r d)) :
    EvD (tLc wi g t te vs) σ G (.list ((ds.filter f).map r)) := EvO.toD (evo_lc hi hz hg hw ht he)
/-- without a test -/
theorem filter_all {α : Type} (l : List α) : l.filter (fun _ => true) = l := by
  induction l with
  | nil => rfl
  | cons x xs ih => rw [List.filter_cons, if_pos rfl, ih]
theorem evt_yes : EvT tYes σ G true := fun H e Q q => q G H (Gr.refl e)
theorem evd_lcA {wi : TI} {g : TG} {vs : List Nat} {ds : List D} {r : D → D} {B : D → Hp → L2.St → Prop} (hi : EvI wi σ G ds) (hz : ds.length ≤ 40000)
    (hg : ∀ d ∈ ds, ∀ G1, Ex G G1 → EvG g (wipe σ vs) G1 d (B d)) (hw : ∀ d G1 σ2, B d G1 σ2 → wipe σ2 vs = wipe σ vs)
    (he : ∀ d ∈ ds, ∀ G1 σ2, Ex G G1 → B d G1 σ2 → EvD te σ2 G1 (r d)) :
    EvD (tLc wi g tYes te vs) σ G (.list (ds.map r)) := by
  have h := evd_lc (t := tYes) (te := te) (f := fun _ => true) (r := r) hi hz hg hw (fun _ _ _ _ _ _ => evt_yes) (fun d hd _ G1 σ2 e b => he d hd G1 σ2 e b)
  rw [filter_all] at h
  exact h
end
end Sh

set_option Elab.async false
set_option linter.all false
set_option maxRecDepth 100000
set_option maxHeartbeats 4000000
namespace Sh
open PySem PySem.Spec L2
open PyProof.Rows hiding St
open Evl (Ex)

/-- a def of the text stands under its name -/
def Stands (K : PySem.W.Frag) (mg : Str → Option Value) (x : Str) (st : Stmt) (ps : List Str) : Prop := ∃ f fd, Fun K x x st f fd ∧ mg x = some (.ref f) ∧ Binds K fd ps []
/-- a def keeps a promise -/
def Keeps (P : Program) (w : World) (K : PySem.W.Frag) (mg : Str → Option Value) (base : Heap) (CX : CXT) (k : Nat) (x : Str) (ps : List Str) (sp : Sp) : Prop :=
  ∃ f fd, FnOk P w K mg base CX k f fd ps sp ∧ mg x = some (.ref f) ∧ PySem.W.keepIn K (.ref f) = true ∧ Binds K fd ps []
/-- the built-ins' names are not bound by the text -/
structure Bi (mg : Str → Option Value) : Prop where
  isinstance : mg "isinstance" = none
  int : mg "int" = none
  bool : mg "bool" = none
  str : mg "str" = none
  tuple : mg "tuple" = none
  list : mg "list" = none
  dict : mg "dict" = none
  set : mg "set" = none
  len : mg "len" = none
  all : mg "all" = none
  any : mg "any" = none
  sum : mg "sum" = none
  range : mg "range" = none
  zip : mg "zip" = none
  min : mg "min" = none
  max : mg "max" = none
  enumerate : mg "enumerate" = none
  sorted : mg "sorted" = none
section
variable {P : Program} {w : World} {K : PySem.W.Frag} {mg : Str → Option Value} {base : Heap} {σ : L2.St} {G : Hp} {te : TE} {t u v : TS} {tt : TT} {c d : D}
/-- the block hands back c -/
def EvS (t : TS) (σ : L2.St) (G : Hp) (c : D) : Prop := ∀ H, Ex G H → ∀ E : Ends, (∀ v G2 H2, Gr G H G2 H2 → Dn G2 v c → E.rt v H2) → t E σ H
theorem evs_ret (h : EvD te σ G c) : EvS (tRet te) σ G c := fun H e E q => h H e _ q
theorem EvS.mono {G' : Hp} (e : Ex G G') (h : EvS t σ G c) : EvS t σ G' c := fun H x E q => h H (e.trans x) E fun v G2 H2 g n => by
  obtain ⟨G3, a, b⟩ := grow_up e x g
  exact q v G3 H2 b (Dn.mono a c n)
/-- if t: .. that hands back; the rest -/
theorem evs_if {b : Bool} (h : EvT tt σ G b) (k1 : b = true → EvS t σ G c) (k2 : b = false → EvS u σ G c) : EvS (tSeq (tIfS tt t tNext) u) σ G c := fun H e E q => h H e _ fun G2 H2 g => by
  cases b with
  | true =>
    show t { E with nx := u E } σ H2
    exact ((k1 rfl).mono g.g) H2 g.s _ fun v G3 H3 g2 n => q v G3 H3 (g.trans g2) n
  | false =>
    show u E σ H2
    exact ((k2 rfl).mono g.g) H2 g.s _ fun v G3 H3 g2 n => q v G3 H3 (g.trans g2) n
/-- x = e; the rest -/
theorem evs_set {i : Nat} (h : EvD te σ G d) (k : ∀ v G2, Ex G G2 → Dn G2 v d → EvS u (σ.set i (some v)) G2 c) : EvS (tSeq (tAsg te (gName i)) u) σ G c := fun H e E q => h H e _ fun v G2 H2 g n =>
  k v G2 g.g n H2 g.s E fun v' G3 H3 g2 n2 => q v' G3 H3 (g.trans g2) n2
/-- a, b, .. = e; the rest -/
theorem evs_asg {g : TG} {B : Hp → L2.St → Prop} (h : EvD te σ G d) (hg : ∀ G2, Ex G G2 → EvG g σ G2 d B) (k : ∀ σ2 G2, Ex G G2 → B G2 σ2 → EvS u σ2 G2 c) : EvS (tSeq (tAsg te g) u) σ G c := fun H e E q => h H e _ fun v G2 H2 g' n =>
  hg G2 g'.g v H2 g'.s n _ fun σ2 b => k σ2 G2 g'.g b H2 g'.s E fun v' G3 H3 g2 n2 => q v' G3 H3 (g'.trans g2) n2
/-- five names at once -/
theorem eg_five {i1 i2 i3 i4 i5 : Nat} {d1 d2 d3 d4 d5 : D} : EvG (gTup K 5 (gCons (gName i1) (gCons (gName i2) (gCons (gName i3) (gCons (gName i4) (gCons (gName i5) gNil)))))) σ G (.tuple [d1, d2, d3, d4, d5])
    (fun G σ2 => ∃ v1 v2 v3 v4 v5, σ2 = ((((σ.set i1 (some v1)).set i2 (some v2)).set i3 (some v3)).set i4 (some v4)).set i5 (some v5) ∧ Dn G v1 d1 ∧ Dn G v2 d2 ∧ Dn G v3 d3 ∧ Dn G v4 d4 ∧ Dn G v5 d5) := fun x H ex n Q q => by
  cases n with
  | tup h1 h2 =>
    cases h2 with
    | cons n1 h2 =>
      cases h2 with
      | cons n2 h2 =>
        cases h2 with
        | cons n3 h2 =>
          cases h2 with
          | cons n4 h2 =>
            cases h2 with
            | cons n5 h2 =>
              cases h2
              exact ⟨_, _, rfl, .inl (rdx ex h1), rfl, _, _, rfl, _, _, rfl, _, _, rfl, _, _, rfl, _, _, rfl, rfl, q _ ⟨_, _, _, _, _, rfl, n1, n2, n3, n4, n5⟩⟩
/-- a for over data: Pv G0 H0 i: behind i turns (G0, H0: where the loop began) -/
theorem for_data {wi : TI} {g : TG} {tb : TS} {ds : List D} {H : Hp} {E : Ends} (hi : EvI wi σ G ds) (e : Ex G H) (Pv : Hp → Hp → Nat → L2.St → Hp → Prop) (hG : ∀ G0 H0 i σ' H', Pv G0 H0 i σ' H' → Ex G0 H')
    (h0 : ∀ G0 H0, Gr G H G0 H0 → Pv G0 H0 0 σ H0)
    (hs : ∀ G0 H0 i d x σ' H' G2 H2, Gr G H G0 H0 → ds[i]? = some d → Pv G0 H0 i σ' H' → Gr G0 H' G2 H2 → Dn G2 x d → g x σ' H2 fun σ2 H3 => tb { E with nx := Pv G0 H0 (i + 1), ct := Pv G0 H0 (i + 1), bk := E.nx } σ2 H3)
    (hd : ∀ G0 H0 σ' H', Gr G H G0 H0 → Pv G0 H0 ds.length σ' H' → E.nx σ' H') : tFor wi g tb E σ H := hi H e _ fun J G0 H0 g0 w => by
  refine ⟨fun i m σ' H' => m = ds.length - i ∧ i ≤ ds.length ∧ Pv G0 H0 i σ' H', ⟨ds.length, by simp, Nat.zero_le _, h0 G0 H0 g0⟩, ?_⟩
  rintro i m σ' H' ⟨rfl, hi', p⟩
  have ex := hG G0 H0 i σ' H' p
  by_cases lt : i < ds.length
  · refine .inr ⟨w.go i H' lt ex, Pv G0 H0 (i + 1), fun σ2 H2 p2 => ⟨ds.length - (i + 1), by omega, rfl, lt, p2⟩, fun x H2 y => ?_⟩
    obtain ⟨G2, d, g2, hd', n⟩ := w.yld i H' x H2 lt ex y
    exact hs G0 H0 i d x σ' H' G2 H2 g0 hd' p g2 n
  · obtain rfl : i = ds.length := by omega
    exact .inl ⟨w.stop H' ex, hd G0 H0 σ' H' g0 p⟩
/-- one name as the target -/
theorem for_dataN {wi : TI} {j : Nat} {tb : TS} {ds : List D} {H : Hp} {E : Ends} (hi : EvI wi σ G ds) (e : Ex G H) (Pv : Hp → Hp → Nat → L2.St → Hp → Prop) (hG : ∀ G0 H0 i σ' H', Pv G0 H0 i σ' H' → Ex G0 H')
    (h0 : ∀ G0 H0, Gr G H G0 H0 → Pv G0 H0 0 σ H0)
    (hs : ∀ G0 H0 i d x σ' H' G2 H2, Gr G H G0 H0 → ds[i]? = some d → Pv G0 H0 i σ' H' → Gr G0 H' G2 H2 → Dn G2 x d → tb { E with nx := Pv G0 H0 (i + 1), ct := Pv G0 H0 (i + 1), bk := E.nx } (σ'.set j (some x)) H2)
    (hd : ∀ G0 H0 σ' H', Gr G H G0 H0 → Pv G0 H0 ds.length σ' H' → E.nx σ' H') : tFor wi (gName j) tb E σ H :=
  for_data (g := gName j) hi e Pv hG h0 hs hd
/-- if t: ..; the rest, with ends of any kind -/
theorem tif_of {t u u2 : TS} {H : Hp} {E : Ends} {b : Bool} (h : EvT tt σ G b) (e : Ex G H) (k1 : b = true → ∀ G2 H2, Gr G H G2 H2 → t { E with nx := u2 E } σ H2) (k2 : b = false → ∀ G2 H2, Gr G H G2 H2 → u { E with nx := u2 E } σ H2) : tSeq (tIfS tt t u) u2 E σ H := h H e _ fun G2 H2 g => by
  cases b with
  | true => exact k1 rfl G2 H2 g
  | false => exact k2 rfl G2 H2 g
/-- what stands still, and one object more that is read meanwhile -/
theorem Ex.lend {H : Hp} {l : Addr} {o : HO} (e : Ex G H) (h : H l = some o) : Ex (upd G l o) H := fun a u q => by
  by_cases z : a = l
  · subst z
    rw [upd_same] at q
    rw [← q]
    exact h
  · rw [upd_ne z] at q
    exact e a u q
/-- a def without errors, by its body -/
theorem keeps_of {x : Str} {st : Stmt} {N ps : List Str} {k : Nat} {dom : List D → D → Prop} (S : Stands K mg x st ps) (sc : FnScope N ps (defScope st)) (hl : ∀ ds c, dom ds c → ds.length = ps.length)
    (body : ∀ (f : Addr) (cdv : Value) (A : Around) (outer : List Env) (s : Shared) (H : Hp) (E : XK), Room k (A.deeper (envOfC x (defScope st) s.heap.objs.size f cdv)) →
      ∃ t, PSs (cxOf CX0 P w K mg base N x (defScope st) f cdv A outer s H E).nox (defBody st) t ∧ ∀ ds c vs G, dom ds c → DnL G vs ds → EvS t (start N vs) G c) :
    Keeps P w K mg base CX0 (k + 1) x ps (spD dom) := by
  obtain ⟨f, fd, F, hm, hb⟩ := S
  refine ⟨f, fd, F.ok sc (fun vs H Q E h => ?_) (fun cdv A outer s H vs Q E hr h => ?_), hm, F.kp, hb⟩
  · obtain ⟨ds, c, G, _, n, hd, _⟩ := h
    rw [n.length]
    exact hl ds c hd
  · obtain ⟨ds, c, G, e, n, hd, q⟩ := h
    obtain ⟨t, ht, hq⟩ := body f cdv A outer s H E hr
    exact ⟨t, ht, hq ds c vs G hd n H e _ q⟩
section
variable {X : Cx} {x : Str} {ps : List Str} {sp : Sp} {CX : CXT} {k : Nat} {E : XK} {e : Expr} {es : List Expr} {ar : TA} {p pos : Pos}
theorem pe_callD (F : Keeps X.prog X.w X.K X.mg X.base CX0 k x ps sp) (hr : Room k X.A) (ha : PA X (e :: es) ar) (hg : Gl X x := by rfl) (hdb : (x == ("__debug__" : Str)) = false := by decide)
    (he : starEach (e :: es) X.env = (false, eval e X.env) :: starEach es X.env := by rfl) (hpl : (backTo pos (starEach es X.env)).any (·.1) = false := by rfl) : PE X (.Call (.Name x p) (e :: es) [] pos) (tCall sp [] E0 ar) := by
  obtain ⟨f, fd, ok, hm, hk, hb⟩ := F
  exact pe_call ok hr hg hm hk hb .nil pass0 ha hdb he hpl
/-- a built-in function by its name, a built-in type's name as a value -/
theorem pe_ty {T : String} (hm : X.mg x = none) (hv : bootBuiltins x = some (.type T)) (hg : Gl X x := by rfl) (hn : x ≠ "__name__" := by decide) (hd : (x == ("__debug__" : Str)) = false := by decide) : PE X (.Name x pos) (tC (.ty T)) := pe_bltn hg hm hv rfl hn hd
end
theorem dn2 {vs : List V} {a b : D} (h : DnL G vs [a, b]) : ∃ u v, vs = [u, v] ∧ Dn G u a ∧ Dn G v b := two_of h
theorem dn3 {vs : List V} {a b c : D} (h : DnL G vs [a, b, c]) : ∃ u v w, vs = [u, v, w] ∧ Dn G u a ∧ Dn G v b ∧ Dn G w c := by
  cases h with
  | cons h1 h2 =>
    obtain ⟨v, w, rfl, h3, h4⟩ := dn2 h2
    exact ⟨_, v, w, rfl, h1, h3, h4⟩
theorem dn4 {vs : List V} {a b c d : D} (h : DnL G vs [a, b, c, d]) : ∃ u v w x, vs = [u, v, w, x] ∧ Dn G u a ∧ Dn G v b ∧ Dn G w c ∧ Dn G x d := by
  cases h with
  | cons h1 h2 =>
    obtain ⟨v, w, x, rfl, h3, h4, h5⟩ := dn3 h2
    exact ⟨_, v, w, x, rfl, h1, h3, h4, h5⟩
/-- the i-th slot, written -/
theorem evd_at {i : Nat} {v : V} {G1 : Hp} (n : Dn G v d) (e : Ex G G1 := by first | exact Ex.refl _ | assumption) (h : σ[i]? = some (some v) := by rfl) : EvD (tVar i) σ G1 d := evd_var ⟨v, h, Dn.mono e d n⟩
/-! comprehensions over names and pairs of names -/
theorem evd_lcN {wi : TI} {vs : List Nat} {ds : List D} {j : Nat} {r : D → D} (hi : EvI wi σ G ds) (hz : ds.length ≤ 40000) (hw : ∀ x, wipe ((wipe σ vs).set j (some x)) vs = wipe σ vs)
    (he : ∀ d ∈ ds, ∀ x G1, Ex G G1 → Dn G1 x d → EvD te ((wipe σ vs).set j (some x)) G1 (r d)) : EvD (tLc wi (gName j) tYes te vs) σ G (.list (ds.map r)) :=
  evd_lcA hi hz (fun d _ G1 _ => eg_name) (fun d G1 σ2 ⟨x, e, _⟩ => by rw [e]; exact hw x) (fun d hd G1 σ2 e ⟨x, e2, n⟩ => by rw [e2]; exact he d hd x G1 e n)
theorem evd_lcNF {wi : TI} {vs : List Nat} {ds : List D} {j : Nat} {f : D → Bool} {r : D → D} (hi : EvI wi σ G ds) (hz : ds.length ≤ 40000) (hw : ∀ x, wipe ((wipe σ vs).set j (some x)) vs = wipe σ vs)
    (ht : ∀ d ∈ ds, ∀ x G1, Ex G G1 → Dn G1 x d → EvT tt ((wipe σ vs).set j (some x)) G1 (f d)) (he : ∀ d ∈ ds, f d = true → ∀ x G1, Ex G G1 → Dn G1 x d → EvD te ((wipe σ vs).set j (some x)) G1 (r d)) :
    EvD (tLc wi (gName j) tt te vs) σ G (.list ((ds.filter f).map r)) :=
  evd_lc hi hz (fun d _ G1 _ => eg_name) (fun d G1 σ2 ⟨x, e, _⟩ => by rw [e]; exact hw x) (fun d hd G1 σ2 e ⟨x, e2, n⟩ => by rw [e2]; exact ht d hd x G1 e n) (fun d hd hf G1 σ2 e ⟨x, e2, n⟩ => by rw [e2]; exact he d hd hf x G1 e n)
theorem evd_lcP {wi : TI} {vs : List Nat} {ds : List D} {i j : Nat} {r : D → D} (hi : EvI wi σ G ds) (hz : ds.length ≤ 40000) (hp : ∀ d ∈ ds, ∃ a b, d = .tuple [a, b]) (hw : ∀ x y, wipe (((wipe σ vs).set i (some x)).set j (some y)) vs = wipe σ vs)
    (he : ∀ a b, PyData.tuple [a, b] ∈ ds → ∀ x y G1, Ex G G1 → Dn G1 x a → Dn G1 y b → EvD te (((wipe σ vs).set i (some x)).set j (some y)) G1 (r (.tuple [a, b]))) :
    EvD (tLc wi (gTup K 2 (gCons (gName i) (gCons (gName j) gNil))) tYes te vs) σ G (.list (ds.map r)) :=
  evd_lcA (B := fun d G1 σ2 => ∃ a b, d = .tuple [a, b] ∧ ∃ x y, σ2 = ((wipe σ vs).set i (some x)).set j (some y) ∧ Dn G1 x a ∧ Dn G1 y b) hi hz
    (fun d hd G1 e x H e1 n Q q => by
      obtain ⟨a, b, rfl⟩ := hp d hd
      exact eg_pair x H e1 n Q fun σ2 h => q σ2 ⟨a, b, rfl, h⟩)
    (fun d G1 σ2 ⟨a, b, _, x, y, e, _⟩ => by rw [e]; exact hw x y)
    (fun d hd G1 σ2 e ⟨a, b, ed, x, y, e2, n1, n2⟩ => by
      subst ed
      rw [e2]
      exact he a b hd x y G1 e n1 n2)
theorem evd_lcPF {wi : TI} {vs : List Nat} {ds : List D} {i j : Nat} {f : D → Bool} {r : D → D} (hi : EvI wi σ G ds) (hz : ds.length ≤ 40000) (hp : ∀ d ∈ ds, ∃ a b, d = .tuple [a, b]) (hw : ∀ x y, wipe (((wipe σ vs).set i (some x)).set j (some y)) vs = wipe σ vs)
    (ht : ∀ a b, PyData.tuple [a, b] ∈ ds → ∀ x y G1, Ex G G1 → Dn G1 x a → Dn G1 y b → EvT tt (((wipe σ vs).set i (some x)).set j (some y)) G1 (f (.tuple [a, b])))
    (he : ∀ a b, PyData.tuple [a, b] ∈ ds → f (.tuple [a, b]) = true → ∀ x y G1, Ex G G1 → Dn G1 x a → Dn G1 y b → EvD te (((wipe σ vs).set i (some x)).set j (some y)) G1 (r (.tuple [a, b]))) :
    EvD (tLc wi (gTup K 2 (gCons (gName i) (gCons (gName j) gNil))) tt te vs) σ G (.list ((ds.filter f).map r)) :=
  evd_lc (B := fun d G1 σ2 => ∃ a b, d = .tuple [a, b] ∧ ∃ x y, σ2 = ((wipe σ vs).set i (some x)).set j (some y) ∧ Dn G1 x a ∧ Dn G1 y b) hi hz
    (fun d hd G1 e x H e1 n Q q => by
      obtain ⟨a, b, rfl⟩ := hp d hd
      exact eg_pair x H e1 n Q fun σ2 h => q σ2 ⟨a, b, rfl, h⟩)
    (fun d G1 σ2 ⟨a, b, _, x, y, e, _⟩ => by rw [e]; exact hw x y)
    (fun d hd G1 σ2 e ⟨a, b, ed, x, y, e2, n1, n2⟩ => by
      subst ed
      rw [e2]
      exact ht a b hd x y G1 e n1 n2)
    (fun d hd hf G1 σ2 e ⟨a, b, ed, x, y, e2, n1, n2⟩ => by
      subst ed
      rw [e2]
      exact he a b hd hf x y G1 e n1 n2)
/-! types by name -/
def isS (T s : String) : Bool := s == T || (s == "bool" && T == "int")
def isK (T : String) (d : D) : Bool := isS T (tyD d)
theorem kit_int (d : D) : kitB (tyD d) "int" = some (isK "int" d) := by
  cases d
  · exact (by decide +kernel : kitB "NoneType" "int" = some (isS "int" "NoneType"))
  · exact (by decide +kernel : kitB "bool" "int" = some (isS "int" "bool"))
  · exact (by decide +kernel : kitB "int" "int" = some (isS "int" "int"))
  · exact (by decide +kernel : kitB "str" "int" = some (isS "int" "str"))
  · exact (by decide +kernel : kitB "list" "int" = some (isS "int" "list"))
  · exact (by decide +kernel : kitB "tuple" "int" = some (isS "int" "tuple"))
  · exact (by decide +kernel : kitB "dict" "int" = some (isS "int" "dict"))
theorem kit_bool (d : D) : kitB (tyD d) "bool" = some (isK "bool" d) := by
  cases d
  · exact (by decide +kernel : kitB "NoneType" "bool" = some (isS "bool" "NoneType"))
  · exact (by decide +kernel : kitB "bool" "bool" = some (isS "bool" "bool"))
  · exact (by decide +kernel : kitB "int" "bool" = some (isS "bool" "int"))
  · exact (by decide +kernel : kitB "str" "bool" = some (isS "bool" "str"))
  · exact (by decide +kernel : kitB "list" "bool" = some (isS "bool" "list"))
  · exact (by decide +kernel : kitB "tuple" "bool" = some (isS "bool" "tuple"))
  · exact (by decide +kernel : kitB "dict" "bool" = some (isS "bool" "dict"))
theorem kit_str (d : D) : kitB (tyD d) "str" = some (isK "str" d) := by
  cases d
  · exact (by decide +kernel : kitB "NoneType" "str" = some (isS "str" "NoneType"))
  · exact (by decide +kernel : kitB "bool" "str" = some (isS "str" "bool"))
  · exact (by decide +kernel : kitB "int" "str" = some (isS "str" "int"))
  · exact (by decide +kernel : kitB "str" "str" = some (isS "str" "str"))
  · exact (by decide +kernel : kitB "list" "str" = some (isS "str" "list"))
  · exact (by decide +kernel : kitB "tuple" "str" = some (isS "str" "tuple"))
  · exact (by decide +kernel : kitB "dict" "str" = some (isS "str" "dict"))
theorem kit_tuple (d : D) : kitB (tyD d) "tuple" = some (isK "tuple" d) := by
  cases d
  · exact (by decide +kernel : kitB "NoneType" "tuple" = some (isS "tuple" "NoneType"))
  · exact (by decide +kernel : kitB "bool" "tuple" = some (isS "tuple" "bool"))
  · exact (by decide +kernel : kitB "int" "tuple" = some (isS "tuple" "int"))
  · exact (by decide +kernel : kitB "str" "tuple" = some (isS "tuple" "str"))
  · exact (by decide +kernel : kitB "list" "tuple" = some (isS "tuple" "list"))
  · exact (by decide +kernel : kitB "tuple" "tuple" = some (isS "tuple" "tuple"))
  · exact (by decide +kernel : kitB "dict" "tuple" = some (isS "tuple" "dict"))
theorem kit_list (d : D) : kitB (tyD d) "list" = some (isK "list" d) := by
  cases d
  · exact (by decide +kernel : kitB "NoneType" "list" = some (isS "list" "NoneType"))
  · exact (by decide +kernel : kitB "bool" "list" = some (isS "list" "bool"))
  · exact (by decide +kernel : kitB "int" "list" = some (isS "list" "int"))
  · exact (by decide +kernel : kitB "str" "list" = some (isS "list" "str"))
  · exact (by decide +kernel : kitB "list" "list" = some (isS "list" "list"))
  · exact (by decide +kernel : kitB "tuple" "list" = some (isS "list" "tuple"))
  · exact (by decide +kernel : kitB "dict" "list" = some (isS "list" "dict"))
theorem bi_isinstance : bootBuiltins "isinstance" = some (.builtin "isinstance") := by decide +kernel
theorem bi_len : bootBuiltins "len" = some (.builtin "len") := by decide +kernel
theorem bi_all : bootBuiltins "all" = some (.builtin "all") := by decide +kernel
theorem bi_any : bootBuiltins "any" = some (.builtin "any") := by decide +kernel
theorem bi_sum : bootBuiltins "sum" = some (.builtin "sum") := by decide +kernel
theorem bi_int : bootBuiltins "int" = some (.type "int") := by decide +kernel
theorem bi_bool : bootBuiltins "bool" = some (.type "bool") := by decide +kernel
theorem bi_str : bootBuiltins "str" = some (.type "str") := by decide +kernel
theorem bi_tuple : bootBuiltins "tuple" = some (.type "tuple") := by decide +kernel
theorem bi_list : bootBuiltins "list" = some (.type "list") := by decide +kernel
theorem bi_dict : bootBuiltins "dict" = some (.type "dict") := by decide +kernel
theorem bi_sorted : bootBuiltins "sorted" = some (.builtin "sorted") := by decide +kernel
theorem bi_max : bootBuiltins "max" = some (.builtin "max") := by decide +kernel
theorem bi_set : bootBuiltins "set" = some (.type "set") := by decide +kernel
end
end Sh

set_option Elab.async false
set_option linter.all false
set_option maxRecDepth 100000
set_option maxHeartbeats 4000000
/-! defs that raise an own error, by data -/
namespace Sh
open PySem PySem.Spec L2
open PyProof.Rows hiding St
open Evl (Ex)
/-- an own error class stands under its name -/
structure ErrC (K : PySem.W.Frag) (mg : Str → Option Value) (x : Str) (C : Addr) : Prop where
  made : ∃ bmB B newId initId, ExcBaseFacts B newId initId bmB ∧ PySem.W.excIn K C bmB newId = true
  g : mg x = some (.ref C)
  k : PySem.W.keepIn K (.ref C) = true
  b : PySem.W.subIn K (.ref C) (.type "BaseException") = some true
  t : PySem.W.typeIn K (.ref C) = some (.type "type")
  one : PySem.W.exmOne K (.ref C) (.ref C) = some true
def tRaiseC (C : Addr) (W : WX) : TS := fun _ σ H => W (.ref C) none σ H
theorem ps_raiseC {X : Cx} {W : WX} {x m : Str} {C : Addr} {j : Nat} {p p2 pos pos' : Pos} (er : ErrC X.K X.mg x C) (hc : X.calm = true) (tk : L2N.Takes X W) (hg : Gl X x) (hdb : (x == ("__debug__" : Str)) = false := by decide) :
    PS X (.Raise (some (.Call (.Name x p) [.Constant (.str m) j p2] [] pos)) none pos') (tRaiseC C W) := by
  obtain ⟨bmB, B, newId, initId, F, q⟩ := er.made
  exact L2N.ps_raise hc tk (L2N.pmk_own F q er.g er.k (raises_own er.b er.t) hg hdb)
/-- a def that may raise, the error's context kept -/
theorem okN {P : Program} {w : World} {K : PySem.W.Frag} {mg : Str → Option Value} {base : Heap} {x qual : Str} {st : Stmt} {f : Addr} {fd : FuncData} {N ps : List Str} {k : Nat} {sp : Sp} (F : Fun K x qual st f fd) (S : FnScope N ps (defScope st)) (len : ∀ vs H Q E, sp vs H Q E → vs.length = ps.length)
    (hbody : ∀ (cdv : Value) (A : Around) (outer : List Env) (s : Shared) (H : Hp) (vs : List V) (Q : VK) (E : XK), Room k (A.deeper (envOfC qual (defScope st) s.heap.objs.size f cdv)) → sp vs H Q E →
      ∃ t, PSs (cxOf (L2N.CX P w) P w K mg base N qual (defScope st) f cdv A outer s H E) (defBody st) t ∧ t { nx := fun _ H' => Q .non H', rt := Q } (start N vs) H) : FnOk P w K mg base (L2N.CX P w) (k + 1) f fd ps sp := by
  obtain ⟨oc, od, kV, doc, pm, an, cdv, ct, osl, rfl, lk, hcd⟩ := F.ex
  exact fn_of lk hcd S len fun A outer s H vs Q E hr hsp => hbody cdv A outer s H vs Q E hr hsp
/-- the error a def leaves by -/
abbrev wOut (E : XK) : WX := fun cls d _ H => E cls d H
/-- what a def hands back, or the error C -/
def spR (C : Addr) (dom : List D → Option D → Prop) : Sp := fun vs H Q E => ∃ ds o G, Ex G H ∧ DnL G vs ds ∧ dom ds o ∧ (∀ c, o = some c → ∀ v G2 H2, Gr G H G2 H2 → Dn G2 v c → Q v H2) ∧ (o = none → ∀ H2, Ex H H2 → E (.ref C) none H2)
theorem dnc {G : Hp} {vs : List V} {d : D} {ds : List D} (h : DnL G vs (d :: ds)) : ∃ v r, vs = v :: r ∧ Dn G v d ∧ DnL G r ds := by
  cases h with
  | cons h1 h2 => exact ⟨_, _, rfl, h1, h2⟩
theorem dnn {G : Hp} {vs : List V} (h : DnL G vs []) : vs = [] := by
  cases h
  rfl
section
variable {P : Program} {w : World} {K : PySem.W.Frag} {mg : Str → Option Value} {base : Heap} {σ : L2.St} {G : Hp} {te : TE} {t u v : TS} {tt : TT} {c d : D} {o : Option D} {xk : XK} {C : Addr} {ar : TA}
/-- the block hands back o's value, or leaves by the error C -/
def EvX (xk : XK) (C : Addr) (t : TS) (σ : L2.St) (G : Hp) (o : Option D) : Prop := ∀ H, Ex G H → ∀ E : Ends, (∀ c, o = some c → ∀ v G2 H2, Gr G H G2 H2 → Dn G2 v c → E.rt v H2) → (o = none → ∀ H2, Ex H H2 → xk (.ref C) none H2) → t E σ H
theorem EvS.x (h : EvS t σ G c) : EvX xk C t σ G (some c) := fun H e E q _ => h H e E fun v G2 H2 g n => q c rfl v G2 H2 g n
theorem EvX.go {H H1 G1 : Hp} {E : Ends} (h : EvX xk C t σ G1 o) (g : Gr G H G1 H1) (q : ∀ c, o = some c → ∀ v G2 H2, Gr G H G2 H2 → Dn G2 v c → E.rt v H2) (b : o = none → ∀ H2, Ex H H2 → xk (.ref C) none H2) : t E σ H1 :=
  h H1 g.s E (fun c e v G3 H3 g2 n => q c e v G3 H3 (g.trans g2) n) fun e H3 x => b e H3 (g.h.trans x)
theorem EvX.mono {G' : Hp} (e : Ex G G') (h : EvX xk C t σ G o) : EvX xk C t σ G' o := fun H x E q b => h H (e.trans x) E (fun c ec v G2 H2 g n => by
  obtain ⟨G3, a, b⟩ := grow_up e x g
  exact q c ec v G3 H2 b (Dn.mono a c n)) b
theorem evx_ret (h : EvD te σ G c) : EvX xk C (tRet te) σ G (some c) := (evs_ret h).x
theorem evx_if {b : Bool} (h : EvT tt σ G b) (k1 : b = true → EvX xk C t σ G o) (k2 : b = false → EvX xk C u σ G o) : EvX xk C (tSeq (tIfS tt t tNext) u) σ G o := fun H e E q bad => h H e _ fun G2 H2 g => by
  cases b with
  | true =>
    show t { E with nx := u E } σ H2
    exact ((k1 rfl).mono g.g).go (E := { E with nx := u E }) g q bad
  | false =>
    show u E σ H2
    exact ((k2 rfl).mono g.g).go g q bad
theorem evx_set {i : Nat} (h : EvD te σ G d) (k : ∀ v G2, Ex G G2 → Dn G2 v d → EvX xk C u (σ.set i (some v)) G2 o) : EvX xk C (tSeq (tAsg te (gName i)) u) σ G o := fun H e E q bad => h H e _ fun v G2 H2 g n =>
  (k v G2 g.g n).go g q bad
theorem evx_drop (h : EvD te σ G d) (k : ∀ G2, Ex G G2 → EvX xk C u σ G2 o) : EvX xk C (tSeq (tDrop te) u) σ G o := fun H e E q bad => h H e _ fun v G2 H2 g n => (k G2 g.g).go g q bad
theorem evx_raise : EvX xk C (tRaiseC C (wOut xk)) σ G none := fun H e E q bad => bad rfl H (Ex.refl _)
/-- a call that may leave by the same error -/
theorem evx_dropR {dom : List D → Option D → Prop} {ds : List D} {o1 : Option D} (h : EvA ar σ G ds) (hc : dom ds o1) (k : ∀ c1, o1 = some c1 → ∀ G2, Ex G G2 → EvX xk C u σ G2 o) (hn : o1 = none → o = none) : EvX xk C (tSeq (tDrop (tCallS (spR C dom) (WE (wOut xk)) ar)) u) σ G o := fun H e E q bad =>
  h H e _ fun vs G2 H2 g n => ⟨ds, o1, G2, g.s, n, hc, fun c1 e1 v G3 H3 g2 _ => (k c1 e1 G3 (g.g.trans g2.g)).go (g.trans g2) q bad, fun e1 H3 x => bad (hn e1) H3 (g.h.trans x)⟩
/-- the body of a def that may raise, by data -/
theorem keeps_ofR {x : Str} {st : Stmt} {N ps : List Str} {k : Nat} {dom : List D → Option D → Prop} (S : Stands K mg x st ps) (sc : FnScope N ps (defScope st)) (hl : ∀ ds o, dom ds o → ds.length = ps.length)
    (body : ∀ (f : Addr) (cdv : Value) (A : Around) (outer : List Env) (s : Shared) (H : Hp) (E : XK), Room k (A.deeper (envOfC x (defScope st) s.heap.objs.size f cdv)) →
      ∃ t, PSs (cxOf (L2N.CX P w) P w K mg base N x (defScope st) f cdv A outer s H E) (defBody st) t ∧ ∀ ds o vs G, dom ds o → DnL G vs ds → EvX E C (tSeq t (tRet (tC .non))) (start N vs) G o) :
    Keeps P w K mg base (L2N.CX P w) (k + 1) x ps (spR C dom) := by
  obtain ⟨f, fd, F, hm, hb⟩ := S
  refine ⟨f, fd, okN F sc (fun vs H Q E h => ?_) (fun cdv A outer s H vs Q E hr h => ?_), hm, F.kp, hb⟩
  · obtain ⟨ds, c, G, _, n, hd, _⟩ := h
    rw [n.length]
    exact hl ds c hd
  · obtain ⟨ds, o, G, e, n, hd, q, bad⟩ := h
    obtain ⟨t, ht, hq⟩ := body f cdv A outer s H E hr
    exact ⟨t, ht, hq ds o vs G hd n H e { nx := fun _ H' => Q .non H', rt := Q } q bad⟩
/-- .. where every way hands back or raises -/
theorem keeps_ofR2 {x : Str} {st : Stmt} {N ps : List Str} {k : Nat} {dom : List D → Option D → Prop} (S : Stands K mg x st ps) (sc : FnScope N ps (defScope st)) (hl : ∀ ds o, dom ds o → ds.length = ps.length)
    (body : ∀ (f : Addr) (cdv : Value) (A : Around) (outer : List Env) (s : Shared) (H : Hp) (E : XK), Room k (A.deeper (envOfC x (defScope st) s.heap.objs.size f cdv)) →
      ∃ t, PSs (cxOf (L2N.CX P w) P w K mg base N x (defScope st) f cdv A outer s H E) (defBody st) t ∧ ∀ ds o vs G, dom ds o → DnL G vs ds → EvX E C t (start N vs) G o) :
    Keeps P w K mg base (L2N.CX P w) (k + 1) x ps (spR C dom) := by
  obtain ⟨f, fd, F, hm, hb⟩ := S
  refine ⟨f, fd, okN F sc (fun vs H Q E h => ?_) (fun cdv A outer s H vs Q E hr h => ?_), hm, F.kp, hb⟩
  · obtain ⟨ds, c, G, _, n, hd, _⟩ := h
    rw [n.length]
    exact hl ds c hd
  · obtain ⟨ds, o, G, e, n, hd, q, bad⟩ := h
    obtain ⟨t, ht, hq⟩ := body f cdv A outer s H E hr
    exact ⟨t, ht, hq ds o vs G hd n H e { nx := fun _ H' => Q .non H', rt := Q } q bad⟩
/-- a call that does not leave by its error here -/
theorem evx_dropS {C1 : Addr} {W : WX} {dom : List D → Option D → Prop} {ds : List D} {c1 : D} (h : EvA ar σ G ds) (hc : dom ds (some c1)) (k : ∀ G2, Ex G G2 → EvX xk C u σ G2 o) : EvX xk C (tSeq (tDrop (tCallS (spR C1 dom) (WE W) ar)) u) σ G o := fun H e E q bad =>
  h H e _ fun vs G2 H2 g n => ⟨ds, some c1, G2, g.s, n, hc, fun c2 e2 v G3 H3 g2 _ => (k G3 (g.g.trans g2.g)).go (g.trans g2) q bad, fun e1 => nomatch e1⟩
section
variable {X : Cx} {x : Str} {ps : List Str} {sp : Sp} {k : Nat} {W : WX} {e : Expr} {es : List Expr} {p pos : Pos}
theorem pe_callR (F : Keeps X.prog X.w X.K X.mg X.base (L2N.CX X.prog X.w) k x ps sp) (hr : Room k X.A) (tk : L2N.Takes X W) (ha : PA X (e :: es) ar) (hg : Gl X x := by rfl) (hdb : (x == ("__debug__" : Str)) = false := by decide)
    (he : starEach (e :: es) X.env = (false, eval e X.env) :: starEach es X.env := by rfl) (hpl : (backTo pos (starEach es X.env)).any (·.1) = false := by rfl) : PE X (.Call (.Name x p) (e :: es) [] pos) (tCallS sp (WE W) ar) := by
  obtain ⟨f, fd, ok, hm, hk, hb⟩ := F
  exact pe_callS ok hr hg hm hk hb (fun σ => L2N.passAt tk σ) ha hdb he hpl
end
end
end Sh

set_option Elab.async false
set_option linter.all false
set_option maxRecDepth 100000
set_option maxHeartbeats 4000000
/-! zip of a tuple and a list -/
namespace ShT
open PySem PySem.Spec PyProof.Rows L2
/-- the tuple at a and the list at b, side by side -/
def ItTL (K : PySem.W.Frag) (a b : Addr) : It where
  go := fun i H => ∃ (xs ys : List V) (x y : V), SqT K H a xs ∧ SqL K H b ys ∧ xs[i]? = some x ∧ ys[i]? = some y
  yld := fun i H v H' => ∃ T x y, v = .ref T ∧ H T = none ∧ H' = upd H T (.tup [x, y]) ∧ (∀ xs, SqT K H a xs → xs[i]? = some x) ∧ ∀ ys, SqL K H b ys → ys[i]? = some y
  stop := fun i H => ∃ xs ys : List V, SqT K H a xs ∧ SqL K H b ys ∧ i = min xs.length ys.length
abbrev tl1 (h : Heap) (a : Addr) : Heap := h.push { cls := .type "tuple_iterator", data := .fields #[.ref a, .int 0 0] }
abbrev tl2 (h : Heap) (a b : Addr) : Heap := (tl1 h a).push { cls := .type "list_iterator", data := .fields #[.ref b, .int 0 0] }
abbrev tl3 (h : Heap) (a b : Addr) : Heap := (tl2 h a b).push { cls := .type "tuple", data := .seq #[.ref h.objs.size, .ref (tl1 h a).objs.size] }
abbrev tl4 (h : Heap) (a b : Addr) : Heap := (tl3 h a b).push { cls := .type "tuple", data := .seq #[.none, .none] }
abbrev tl5 (h : Heap) (a b : Addr) : Heap := (tl4 h a b).push { cls := .type "zip", data := .fields #[.none, .bool false, .bool false, .ref (tl2 h a b).objs.size, .ref (tl3 h a b).objs.size] }
theorem new_zipTL (a b : Addr) (xs ys : Array Value) :
    Meets (Builtin.«zip.__new__» ⟨[.type "zip", .ref a, .ref b], []⟩) (fun _ R s => s.heap.IsTuple a xs ∧ s.heap.IsList b ys ∧ R (.ok (.ret (.ref (tl4 s.heap a b).objs.size))) { s with heap := tl5 s.heap a b }) :=
  .of_wp fun prog w A R s h => by
    obtain ⟨hp, g, d, tk, os⟩ := s
    obtain ⟨q1, q2, h⟩ := h
    have sub := sub_zip
    have u1 : Heap.IsTuple (Shared.heap ⟨hp, g, d, tk, os⟩) a xs := q1
    have u2 : Heap.IsList (Shared.heap ⟨tl1 hp a, g, d, tk, os⟩) b ys := Heap.IsList.push q2 _
    wp_walk using wpAny_pyIter_tuple u1, wpAny_pyIter_list u2
    exact ⟨_, rfl, h⟩
theorem call_zipTL {prog : Program} {w : World} {A : Around} {E : Value → Shared → Prop} {s : Shared} {a b : Addr} {xs ys : Array Value} {Q : Value → Shared → Prop} (h1 : s.heap.IsTuple a xs) (h2 : s.heap.IsList b ys)
    (h : ∀ h', IsZip h' (s.heap.objs.size + 4) (s.heap.objs.size + 2) (s.heap.objs.size + 3) .none → IsPair h' (s.heap.objs.size + 2) (.ref s.heap.objs.size) (.ref (s.heap.objs.size + 1)) →
      IsPair h' (s.heap.objs.size + 3) .none .none → h'.IsTupleIter s.heap.objs.size a 0 → h'.IsListIter (s.heap.objs.size + 1) b 0 → (∀ c o, s.heap.get? c = some o → h'.get? c = some o) → Q (.ref (s.heap.objs.size + 4)) { s with heap := h' }) :
    wpAny (model prog w) A (call (.type "zip") [.ref a, .ref b]) Q E s := by
  refine callType_new PySem.F.called_zip (by decide) (PySem.F.typeCall_zip_2 _ _) (PySem.F.newCall_zip_2 _ _) (fun obj => PySem.F.args_object_init_3 obj _ _) PySem.F.entry_zip_new (new_zipTL a b xs ys) ⟨h1, h2, ?_⟩
  have z1 : (tl1 s.heap a).objs.size = s.heap.objs.size + 1 := Heap.size_push ..
  have z2 : (tl2 s.heap a b).objs.size = s.heap.objs.size + 2 := by rw [Heap.size_push, z1]
  have z3 : (tl3 s.heap a b).objs.size = s.heap.objs.size + 3 := by rw [Heap.size_push, z2]
  have z4 : (tl4 s.heap a b).objs.size = s.heap.objs.size + 4 := by rw [Heap.size_push, z3]
  have g5 : (tl5 s.heap a b).get? (tl4 s.heap a b).objs.size = some _ := Heap.get?_push_size _ rfl
  have g4 : (tl5 s.heap a b).get? (tl3 s.heap a b).objs.size = some _ := Heap.get?_push_of_some _ (Heap.get?_push_size _ rfl)
  have g3 : (tl5 s.heap a b).get? (tl2 s.heap a b).objs.size = some _ := Heap.get?_push_of_some _ (Heap.get?_push_of_some _ (Heap.get?_push_size _ rfl))
  have g2 : (tl5 s.heap a b).get? (tl1 s.heap a).objs.size = some _ := Heap.get?_push_of_some _ (Heap.get?_push_of_some _ (Heap.get?_push_of_some _ (Heap.get?_push_size _ rfl)))
  have g1 : (tl5 s.heap a b).get? s.heap.objs.size = some _ := Heap.get?_push_of_some _ (Heap.get?_push_of_some _ (Heap.get?_push_of_some _ (Heap.get?_push_of_some _ (Heap.get?_push_size _ rfl))))
  show _ ∧ _
  rw [z2, z3, z4] at g5
  rw [z1, z2] at g3
  rw [z3] at g4
  rw [z1] at g2
  rw [z4]
  exact ⟨⟨_, g5, rfl⟩, h _ g5 g3 g4 ⟨_, g1, rfl, rfl⟩ ⟨_, g2, rfl, rfl⟩ fun c o x => Heap.get?_push_of_some _ (Heap.get?_push_of_some _ (Heap.get?_push_of_some _ (Heap.get?_push_of_some _ (Heap.get?_push_of_some _ x))))⟩
theorem turn_zipTL {P : Program} {w : World} {K : PySem.W.Frag} {elts : List Expr} {kk : Nat} {tpos : Pos} {a b z TI TO i1 i2 : Addr} (D : ZipApart z TI TO i1 i2 a b) :
    Turn P w K (.Tuple elts kk tpos) (ItTL K a b) [z, TI, TO, i1, i2] z (fun i h => IsZip h z TI TO .none ∧ IsPair h TI (.ref i1) (.ref i2) ∧ (∃ x y, IsPair h TO x y) ∧ h.IsTupleIter i1 a i ∧ h.IsListIter i2 b i) where
  mem := by simp
  obj := fun i h st c hc => by
    obtain ⟨e0, e1, ⟨x, y, e2⟩, ⟨o3, e3, _, d3⟩, ⟨o4, e4, _, d4⟩⟩ := st
    simp only [List.mem_cons, List.not_mem_nil, or_false] at hc
    rcases hc with rfl | rfl | rfl | rfl | rfl
    · exact ⟨_, e0, fun v q => nomatch q⟩
    · exact ⟨_, e1, fun v q => nomatch q⟩
    · exact ⟨_, e2, fun v q => nomatch q⟩
    · exact ⟨o3, e3, fun v q => by rw [d3] at q; cases q⟩
    · exact ⟨o4, e4, fun v q => by rw [d4] at q; cases q⟩
  keep := fun i h h' st k => by
    obtain ⟨e0, e1, ⟨x, y, e2⟩, e3, e4⟩ := st
    exact ⟨k z (by simp) _ e0, k TI (by simp) _ e1, ⟨x, y, k TO (by simp) _ e2⟩, e3.at fun o q => k i1 (by simp) o q, e4.at fun o q => k i2 (by simp) o q⟩
  item := by
    intro X hP hw hK hc i pins s σ H E I hf st hg
    subst hP hw hK
    obtain ⟨e0, e1, e2, e3, e4⟩ := st
    obtain ⟨xs, ys, x, y, qx, qy, hx, hy⟩ := hg
    obtain ⟨us, ru, p1, _⟩ := I.tuple qx
    obtain ⟨ws, rw', p2, _⟩ := I.list qy
    obtain ⟨u, hu, rx⟩ := ru.get hx
    obtain ⟨v, hv, ry⟩ := rw'.get hy
    have li : i < us.toArray.size := by
      rw [List.size_toArray]
      exact (List.getElem?_eq_some_iff.mp hu).1
    have lj : i < ws.toArray.size := by
      rw [List.size_toArray]
      exact (List.getElem?_eq_some_iff.mp hv).1
    have sep : ZipSep2 z TI TO i1 i2 [i1, a] [i2, b] := ⟨D.TIz, D.TOz, D.TITO, D.TIi1, by simp, by simp [D.i1z.symm, D.l1z.symm], by simp [D.TOi1, D.l1TO.symm], D.TIi2, by simp, by simp [D.i2z.symm, D.l2z.symm], by simp [D.TOi2, D.l2TO.symm], by simp [D.i12, D.l2i1.symm], by simp [D.i12.symm, D.l1i2.symm]⟩
    have hd : X.A.in1.handled = none := I.ok.hd hc
    have W := GoesN.zip2 (elts := elts) (x1 := kk) (pos := tpos) sep (Draws.tuple (prog := X.prog) (w := X.w) hd i1 a D.l1i1 us.toArray) (Draws.list (prog := X.prog) (w := X.w) hd i2 b D.l2i2 ws.toArray)
    refine W.goes i s _ E (by omega) ⟨e0, e1, e2, ⟨e3, p1⟩, ⟨e4, p2.isList⟩⟩ fun T' h' tk hY st' hk htk => ?_
    obtain ⟨T, x1, x2, rfl, hT, a1, a2, hTup⟩ := hY
    obtain ⟨f0, f1, f2, ⟨f3, _⟩, ⟨f4, _⟩⟩ := st'
    have b1 : x1 = u := Option.some.inj (a1.symm.trans (by simpa using hu))
    have b2 : x2 = v := Option.some.inj (a2.symm.trans (by simpa using hv))
    subst b1 b2
    have hk' : ∀ c o, c ∉ [z, TI, TO, i1, i2] → s.heap.get? c = some o → h'.get? c = some o := fun c o hc => hk c o fun q => hc (by
      simp only [List.mem_cons, List.not_mem_nil, or_false] at q ⊢
      rcases q with q | q | q | q <;> simp [q])
    have new : ObjOk X.prog X.w (upd H T (.tup [x, y])) h' T (.tup [x, y]) := ⟨by show 2 ≤ sizeLine; decide, [x1, x2], .cons rx (.cons ry .nil), hTup⟩
    refine ⟨.ref T, upd H T (.tup [x, y]), I.turnedNew (t' := tk) hk' hf hT new, rfl, ⟨T, x, y, rfl, I.hok.fresh hT, rfl, fun l hl => by rw [I.tuple_inj hl qx]; exact hx, fun l hl => by rw [I.list_inj hl qy]; exact hy⟩, ⟨f0, f1, f2, f3, f4⟩, fun c hc => ?_⟩
    have lt : c < s.heap.objs.size := by
      obtain ⟨o3, g3, _⟩ := e3
      obtain ⟨o4, g4, _⟩ := e4
      obtain ⟨_, _, g2⟩ := e2
      simp only [List.mem_cons, List.not_mem_nil, or_false] at hc
      rcases hc with rfl | rfl | rfl | rfl | rfl
      · exact Heap.lt_size e0
      · exact Heap.lt_size e1
      · exact Heap.lt_size g2
      · exact Heap.lt_size g3
      · exact Heap.lt_size g4
    rw [upd_ne (Nat.ne_of_lt (Nat.lt_of_lt_of_le lt hT))]
    exact (hf c hc).1
  done := by
    intro X hP hw hK hc i pins s σ H E I hf st hg
    subst hP hw hK
    obtain ⟨e0, e1, ⟨y1, y2, e2⟩, e3, e4⟩ := st
    obtain ⟨xs, ys, qx, qy, hend⟩ := hg
    obtain ⟨us, ru, p1, _⟩ := I.tuple qx
    obtain ⟨ws, rw', p2, _⟩ := I.list qy
    have sep : ZipSep2 z TI TO i1 i2 [i1, a] [i2, b] := ⟨D.TIz, D.TOz, D.TITO, D.TIi1, by simp, by simp [D.i1z.symm, D.l1z.symm], by simp [D.TOi1, D.l1TO.symm], D.TIi2, by simp, by simp [D.i2z.symm, D.l2z.symm], by simp [D.TOi2, D.l2TO.symm], by simp [D.i12, D.l2i1.symm], by simp [D.i12.symm, D.l1i2.symm]⟩
    have hd : X.A.in1.handled = none := I.ok.hd hc
    have l1 : us.toArray.size = xs.length := by rw [List.size_toArray, ru.length]
    have l2 : ws.toArray.size = ys.length := by rw [List.size_toArray, rw'.length]
    refine wpAny_with_toks (Nat.le_refl s.toks) (wpAny_pyNext_zipD2_end sep (Draws.tuple (prog := X.prog) (w := X.w) hd i1 a D.l1i1 us.toArray) (Draws.list (prog := X.prog) (w := X.w) hd i2 b D.l2i2 ws.toArray) e0 e1 e2 ⟨e3, p1⟩ ⟨e4, p2.isList⟩ (by omega) (by omega) (by omega) fun h' tk hk _ => ⟨rfl, ?_⟩)
    exact I.turnedL (t' := tk) (ch := [z, TI, TO, i1, i2]) (fun c o hc q => hk c o (fun q' => hc (by simp [q'])) (fun q' => hc (by simp [q'])) (fun q' => hc (by simp [q'])) (fun q' => hc (by simp [q'])) q) hf
  self := fun A i s Q E st h => wpAny_pyIter_zip st.1 h

/-- zip(t, xs), t a tuple and xs a list, as a loop's source -/
def iZipTL (K : PySem.W.Frag) (ta : TA) : TI := fun σ H R => ta σ H fun vs H1 => ∃ a b xs ys, vs = [.ref a, .ref b] ∧ SqT K H1 a xs ∧ SqL K H1 b ys ∧ R (ItTL K a b) H1
theorem pi_zipTL {X : Cx} {e e2 : Expr} {ta : TA} {p pos tpos : Pos} {elts : List Expr} {kk : Nat} (hm : X.mg "zip" = none) (ha : PA X [e, e2] ta) (hg : Gl X "zip" := by rfl)
    (hs : starEach [e, e2] X.env = (false, eval e X.env) :: starEach [e2] X.env := by rfl) (hpl : (backTo pos (starEach [e2] X.env)).any (·.1) = false := by rfl) : PI X (.Tuple elts kk tpos) (.Call (.Name "zip" p) [e, e2] [] pos) (iZipTL X.K ta) := by
  refine ⟨fun pins s σ H R I h => ?_⟩
  refine Call_ (ld_blt I hg hm PyProof.Rows.boot_zip (PyProof.Rows.callWith_type1 (thn (ha.run pos pins s σ H _ I h) fun us s1 ⟨vs, H1, I1, r1, a, b, xs, ys, ex, qx, qy, q⟩ => ?_) hs hpl))
  subst ex
  obtain ⟨u1, u2, rfl, r1, r2⟩ := vals2 r1
  cases r1
  cases r2
  obtain ⟨its, rv, p1, _⟩ := I1.tuple qx
  obtain ⟨its2, rv2, p2, _⟩ := I1.list qy
  obtain ⟨o1, ho1, _⟩ := id p1
  refine call_zipTL (show s1.heap.IsTuple a its.toArray from p1) p2.isList fun h' hz hTI hTO h1 h2 hk => wpAny_pyIter_zip hz ?_
  refine ⟨s1.heap.objs.size + 4, [s1.heap.objs.size + 4, s1.heap.objs.size + 2, s1.heap.objs.size + 3, s1.heap.objs.size, s1.heap.objs.size + 1], _, _, H1, rfl, I1.kept (t' := s1.toks) hk, turn_zipTL (PySem.W.ktu_apart s1.heap.objs.size a b (Heap.lt_size ho1) p2.lt), ⟨hz, hTI, ⟨_, _, hTO⟩, h1, h2⟩, fun c hc => ?_, q⟩
  have le : s1.heap.objs.size ≤ c := by
    simp only [List.mem_cons, List.not_mem_nil, or_false] at hc
    rcases hc with rfl | rfl | rfl | rfl | rfl
    · exact Nat.le_add_right _ _
    · exact Nat.le_add_right _ _
    · exact Nat.le_add_right _ _
    · exact Nat.le_refl _
    · exact Nat.le_add_right _ _
  exact I1.fpOk le (I1.hok.fresh le)
end ShT
namespace Sh
open PySem PySem.Spec L2
open Evl (Ex)
/-- side by side -/
def zipD (xs ys : List D) : List D := List.zipWith (fun a b => PyData.tuple [a, b]) xs ys
theorem zipD_at {xs ys : List D} {i : Nat} {a b : D} (h : xs[i]? = some a) (k : ys[i]? = some b) : (zipD xs ys)[i]? = some (.tuple [a, b]) := by
  unfold zipD
  rw [List.getElem?_zipWith, h, k]
theorem zipD_len (xs ys : List D) : (zipD xs ys).length = min xs.length ys.length := List.length_zipWith
section
variable {K : PySem.W.Frag} {σ : L2.St} {G : Hp} {ar : TA}
theorem ei_zipTL {xs ys : List D} (h : EvA ar σ G [.tuple xs, .list ys]) : EvI (ShT.iZipTL K ar) σ G (zipD xs ys) := fun H e R r => h H e _ fun vs G2 H2 g n => by
  obtain ⟨v, w, rfl, n1, n2⟩ := two_of n
  cases n1 with
  | tup h1 m1 =>
    cases n2 with
    | lst h2 m2 =>
      rename_i a us b ws
      refine ⟨_, _, _, _, rfl, .inl (rdx g.s h1), .inl (.inl (g.s _ _ h2)), r _ G2 H2 g ⟨fun i H hi e => ?_, fun H e => ?_, fun i H x H' hi e y => ?_⟩⟩
      · rw [zipD_len, ← m1.length, ← m2.length] at hi
        have l1 : i < us.length := by omega
        have l2 : i < ws.length := by omega
        exact ⟨us, ws, us[i], ws[i], .inl (rdx e h1), .inl (.inl (e _ _ h2)), List.getElem?_eq_getElem l1, List.getElem?_eq_getElem l2⟩
      · exact ⟨us, ws, .inl (rdx e h1), .inl (.inl (e _ _ h2)), by rw [zipD_len, ← m1.length, ← m2.length]⟩
      · obtain ⟨T, x1, x2, rfl, hT, rfl, q1, q2⟩ := y
        obtain ⟨d1, e1, k1⟩ := m1.att (q1 us (.inl (rdx e h1)))
        obtain ⟨d2, e2, k2⟩ := m2.att (q2 ws (.inl (.inl (e _ _ h2))))
        have fr := Ex.new (o := HO.tup [x1, x2]) (Evl.fresh_back e hT)
        exact ⟨upd G2 T (.tup [x1, x2]), _, Gr.new e hT, zipD_at e1 e2, .tup (.inl upd_same) (.cons (Dn.mono fr _ k1) (.cons (Dn.mono fr _ k2) .nil))⟩
theorem ei_zipLL {xs ys : List D} (h : EvA ar σ G [.list xs, .list ys]) : EvI (iZip K ar) σ G (zipD xs ys) := fun H e R r => h H e _ fun vs G2 H2 g n => by
  obtain ⟨v, w, rfl, n1, n2⟩ := two_of n
  cases n1 with
  | lst h1 m1 =>
    cases n2 with
    | lst h2 m2 =>
      rename_i a us b ws
      refine ⟨_, _, _, _, rfl, .inl (.inl (g.s _ _ h1)), .inl (.inl (g.s _ _ h2)), r _ G2 H2 g ⟨fun i H hi e => ?_, fun H e => ?_, fun i H x H' hi e y => ?_⟩⟩
      · rw [zipD_len, ← m1.length, ← m2.length] at hi
        have l1 : i < us.length := by omega
        have l2 : i < ws.length := by omega
        exact ⟨us, ws, us[i], ws[i], .inl (.inl (e _ _ h1)), .inl (.inl (e _ _ h2)), List.getElem?_eq_getElem l1, List.getElem?_eq_getElem l2⟩
      · refine ⟨us, ws, .inl (.inl (e _ _ h1)), .inl (.inl (e _ _ h2)), ?_⟩
        rw [zipD_len, ← m1.length, ← m2.length]
        omega
      · obtain ⟨T, x1, x2, rfl, hT, rfl, q1, q2⟩ := y
        obtain ⟨d1, e1, k1⟩ := m1.att (q1 us (.inl (.inl (e _ _ h1))))
        obtain ⟨d2, e2, k2⟩ := m2.att (q2 ws (.inl (.inl (e _ _ h2))))
        have fr := Ex.new (o := HO.tup [x1, x2]) (Evl.fresh_back e hT)
        exact ⟨upd G2 T (.tup [x1, x2]), _, Gr.new e hT, zipD_at e1 e2, .tup (.inl upd_same) (.cons (Dn.mono fr _ k1) (.cons (Dn.mono fr _ k2) .nil))⟩
end
end Sh

set_option Elab.async false
set_option linter.all false
set_option maxRecDepth 100000
set_option maxHeartbeats 4000000
/-! walks over pairs of pairs: a zip that somebody else draws from -/
namespace ShW
open PySem PySem.Spec PyProof.Rows L2
/-- a zip, whatever it remembers of the tuple it gave out last -/
abbrev Zp (h : Heap) (z TI TO : Addr) (f0 : Value) (f1 : Bool) : Prop := h.get? z = some { cls := .type "zip", dict := none, data := .fields #[f0, .bool f1, .bool false, .ref TI, .ref TO], slots := #[] }
def Fld (v : Value) : Prop := v = .none ∨ ∃ T : Addr, v = rawInt T
def ZOk (h : Heap) (z TI TO : Addr) : Prop := ∃ f0 f1, Fld f0 ∧ Zp h z TI TO f0 f1
section
variable {prog : Program} {w : World} {A : Around} {E : Value → Shared → Prop} {s : Shared} {z TI TO i1 i2 : Addr} {fp1 fp2 : List Addr} {n1 n2 i : Nat} {P1 P2 : Nat → Value → Prop} {St1 St2 : Nat → Heap → Prop} {f0 : Value} {f1 : Bool}
theorem at_field {α : Type} {a : Addr} {o : Obj} {vs : Array Value} {k : Nat} {x : Value} {f : Value → Sem α} {Q : α → Shared → Prop} (ho : s.heap.get? a = some o) (hd : o.data = .fields vs) (hx : vs[k]? = some x) (h : wpAny (model prog w) A (f x) Q E s) : wpAny (model prog w) A (field (.ref a) k >>= f) Q E s :=
  wpAny_bind (wpAny_field ho hd hx h)
theorem at_alive {α : Type} {a : Addr} {f : Option Obj → Sem α} {Q : α → Shared → Prop} (h : wpAny (model prog w) A (f (s.heap.get? a)) Q E s) : wpAny (model prog w) A (loadIfAlive a >>= f) Q E s := fun Γ p hΓ => h Γ p hΓ
theorem is_free {Q : Bool → Shared → Prop} (hz : Zp s.heap z TI TO f0 f1) (hf : Fld f0) (h1 : Q true s) (h2 : ∀ h', Zp h' z TI TO f0 true → Heap.SameBut z s.heap h' → Q false { s with heap := h' }) :
    wpAny (model prog w) A (Builtin.SmallTypes.ownedTupleIsFree (.ref z)) Q E s := by
  unfold Builtin.SmallTypes.ownedTupleIsFree
  rcases hf with e | ⟨T, e⟩
  · subst e
    exact at_field hz rfl (x := .none) rfl (wpAny_pure h1)
  · subst e
    refine at_field hz rfl (x := rawInt T) rfl ?_
    refine at_alive (a := (T : Int).toNat) ?_
    cases hT : s.heap.get? (T : Int).toNat with
    | none => exact wpAny_pure h1
    | some o =>
      refine at_field hz rfl (x := .bool f1) rfl ?_
      cases f1 with
      | true => exact wpAny_pure (h2 s.heap hz (Heap.SameBut.refl _ _))
      | false => exact wpAny_bind (wpAny_setField_rec hz (by simp) fun g z' sb => wpAny_pure (h2 g z' sb))
/-- one pair more -/
theorem draw_item {Q : Value → Shared → Prop} (S : ZipSep2 z TI TO i1 i2 fp1 fp2) (D1 : Draws prog w A i1 fp1 n1 P1 St1) (D2 : Draws prog w A i2 fp2 n2 P2 St2)
    (hz : ZOk s.heap z TI TO) (tI : IsPair s.heap TI (.ref i1) (.ref i2)) (tO : ∃ a b, IsPair s.heap TO a b) (st1 : St1 i s.heap) (st2 : St2 i s.heap) (lt1 : i < n1) (lt2 : i < n2)
    (hQ : ∀ x y h' tk, P1 i x → P2 i y → ZOk h' z TI TO → (∃ a b, IsPair h' TO a b) → St1 (i + 1) h' → St2 (i + 1) h' → IsPair h' s.heap.objs.size x y → h'.objs.size = s.heap.objs.size + 1 →
      (∀ c o, c ∉ [z, TO, i1, i2] → s.heap.get? c = some o → h'.get? c = some o) → Q (.ref s.heap.objs.size) { s with heap := h', toks := tk }) :
    wpAny (model prog w) A (Builtin.«zip.__next__» ⟨[.ref z], []⟩) (fun fin s' => ∃ v, fin = .done (.ret v) ∧ Q v s') E s := by
  obtain ⟨f0, f1, hf, hz⟩ := hz
  obtain ⟨a, b, tO⟩ := tO
  obtain ⟨hp, g, d, tk0, os⟩ := s
  show wpAny _ _ (field (.ref z) 2 >>= _) _ _ _
  refine at_field hz rfl (x := .bool false) rfl ?_
  show wpAny _ _ (field (.ref z) 3 >>= _) _ _ _
  refine at_field hz rfl (x := .ref TI) rfl (wpAny_bind (wpAny_seqItems tI rfl ?_))
  show wpAny _ _ (Builtin.SmallTypes.ownedTupleIsFree (.ref z) >>= _) _ _ _
  refine wpAny_bind (is_free hz hf ?_ fun u0 zu su => ?_)
  · -- its own tuple is free
    simp only [if_true]
    refine wpAny_bind (wpAny_rule (at_field hz rfl (x := .ref TO) rfl (wpAny_bind (wpAny_setField_rec hz (by simp) fun u0 zu su => ?_))))
    replace zu : Zp u0 z TI TO .ellipsis f1 := zu
    replace su : Heap.SameBut z hp u0 := su
    refine wpAny_bind ?_
    simp only [List.zipIdx_cons, List.zipIdx_nil, List.forIn_cons, List.forIn_nil]
    refine wpAny_bind (wpAny_bind (wpAny_onRaise ?_))
    show wpAny _ _ (Builtin.SmallTypes.nextOf (.ref i1) >>= _) _ _ ⟨u0, g, d, tk0, os⟩
    refine wpAny_bind (D1.item i _ _ _ lt1 (D1.over st1 su S.zf1) fun x v1 tk1 hx sx sv => wpAny_pure ?_)
    replace sv : Heap.SameBut i1 u0 v1 := sv
    have to1 : IsPair v1 TO a b := sv.extBut _ _ S.Ti1 (su.extBut _ _ S.TOz tO)
    refine wpAny_bind (wpAny_seqItems (s := ⟨v1, g, d, tk1, os⟩) to1 rfl (wpAny_bind (wpAny_updateSeq_pair (s := ⟨v1, g, d, tk1, os⟩) to1 fun u1 tu s1 => wpAny_bind (wpAny_letGo (wpAny_pure ?_)))))
    replace tu : IsPair u1 TO x b := tu
    replace s1 : Heap.SameBut TO v1 u1 := s1
    refine wpAny_bind (wpAny_bind (wpAny_onRaise ?_))
    show wpAny _ _ (Builtin.SmallTypes.nextOf (.ref i2) >>= _) _ _ ⟨u1, g, d, tk1, os⟩
    refine wpAny_bind (D2.item i _ _ _ lt2 (D2.over (D2.over (D2.over st2 su S.zf2) sv S.sep1_2) s1 S.Tf2) fun y v2 tk2 hy sy sw => wpAny_pure ?_)
    replace sw : Heap.SameBut i2 u1 v2 := sw
    have to2 : IsPair v2 TO x b := sw.extBut _ _ S.Ti2 tu
    refine wpAny_bind (wpAny_seqItems (s := ⟨v2, g, d, tk2, os⟩) to2 rfl (wpAny_bind (wpAny_updateSeq_pair (s := ⟨v2, g, d, tk2, os⟩) to2 fun u2 tu2 s2 => wpAny_bind (wpAny_letGo (wpAny_pure (wpAny_pure ?_))))))
    replace tu2 : IsPair u2 TO x y := tu2
    replace s2 : Heap.SameBut TO v2 u2 := s2
    refine wpAny_bind (wpAny_seqItems (s := ⟨u2, g, d, tk2, os⟩) tu2 rfl (wpAny_bind (wpAny_newTuple ?_)))
    have sz : u2.objs.size = hp.objs.size := by rw [s2.1, sw.1, s1.1, sv.1, su.1]
    have z2 : Zp u2 z TI TO .ellipsis f1 := s2.extBut _ _ S.TOz.symm (sw.extBut _ _ S.zi2 (s1.extBut _ _ S.TOz.symm (sv.extBut _ _ S.zi1 zu)))
    have lt : z < u2.objs.size := Heap.lt_size z2
    have kk : ∀ c o, c ∉ [z, TO, i1, i2] → hp.get? c = some o → u2.get? c = some o := fun c o hc q => by
      simp only [List.mem_cons, List.not_mem_nil, or_false, not_or] at hc
      exact s2.extBut _ _ hc.2.1 (sw.extBut _ _ hc.2.2.2 (s1.extBut _ _ hc.2.1 (sv.extBut _ _ hc.2.2.1 (su.extBut _ _ hc.1 q))))
    show wpAny _ _ (Builtin.SmallTypes.ownedTupleHandOut (.ref z) (.ref u2.objs.size) >>= _) _ _ ⟨u2.push { cls := .type "tuple", data := .seq #[x, y] }, g, d, tk2, os⟩
    refine wpAny_bind ?_
    unfold Builtin.SmallTypes.ownedTupleHandOut
    have z3 : Zp (u2.push { cls := .type "tuple", data := .seq #[x, y] }) z TI TO .ellipsis f1 := Heap.get?_push_of_some _ z2
    refine wpAny_bind (wpAny_setField_rec z3 (by simp) fun u3 z4 s3 => ?_)
    replace z4 : Zp u3 z TI TO (rawInt u2.objs.size) f1 := z4
    refine wpAny_setField_rec z4 (by simp) fun u4 z5 s4 => wpAny_pure ⟨_, rfl, ?_⟩
    replace z5 : Zp u4 z TI TO (rawInt u2.objs.size) false := z5
    replace s3 : Heap.SameBut z (u2.push { cls := .type "tuple", data := .seq #[x, y] }) u3 := s3
    replace s4 : Heap.SameBut z u3 u4 := s4
    have up : ∀ c o, c ≠ z → u2.get? c = some o → u4.get? c = some o := fun c o hc q => s4.extBut _ _ hc (s3.extBut _ _ hc (Heap.get?_push_of_some _ q))
    have new : IsPair u4 u2.objs.size x y := s4.extBut _ _ (Nat.ne_of_gt lt) (s3.extBut _ _ (Nat.ne_of_gt lt) (Heap.get?_push_size _ rfl))
    have big : u4.objs.size = u2.objs.size + 1 := by rw [s4.1, s3.1, Heap.size_push]
    show Q (.ref u2.objs.size) ⟨u4, g, d, tk2, os⟩
    rw [sz] at new big z5 ⊢
    have n1 : St1 (i + 1) u4 := D1.frame _ _ _ (D1.over (D1.over (D1.over sx s1 S.Tf1) sw S.sep2_1) s2 S.Tf1) fun c hc o q => up c o (fun e => S.zf1 (e ▸ hc)) q
    have n2 : St2 (i + 1) u4 := D2.frame _ _ _ (D2.over sy s2 S.Tf2) fun c hc o q => up c o (fun e => S.zf2 (e ▸ hc)) q
    exact hQ x y u4 tk2 hx hy ⟨_, _, .inr ⟨_, rfl⟩, z5⟩ ⟨x, y, up _ _ S.TOz tu2⟩ n1 n2 new big fun c o hc q => up c o (fun e => hc (by simp [e])) (kk c o hc q)
  · -- it is out: another one
    replace su : Heap.SameBut z hp u0 := su
    simp only [Bool.false_eq_true, if_false]
    refine wpAny_bind ?_
    rw [← Array.forIn_toList]
    simp only [List.forIn_cons, List.forIn_nil]
    refine wpAny_bind (wpAny_bind (wpAny_holding ?_))
    show wpAny _ _ (Builtin.SmallTypes.nextOf (.ref i1) >>= _) _ _ ⟨u0, g, d, tk0, os⟩
    refine wpAny_bind (D1.item i _ _ _ lt1 (D1.over st1 su S.zf1) fun x v1 tk1 hx sx sv => wpAny_pure (wpAny_pure ?_))
    replace sv : Heap.SameBut i1 u0 v1 := sv
    refine wpAny_bind (wpAny_bind (wpAny_holding ?_))
    show wpAny _ _ (Builtin.SmallTypes.nextOf (.ref i2) >>= _) _ _ ⟨v1, g, d, tk1, os⟩
    refine wpAny_bind (D2.item i _ _ _ lt2 (D2.over (D2.over st2 su S.zf2) sv S.sep1_2) fun y v2 tk2 hy sy sw => wpAny_pure (wpAny_pure (wpAny_pure ?_)))
    replace sw : Heap.SameBut i2 v1 v2 := sw
    show wpAny _ _ (newTuple [x, y] >>= _) _ _ ⟨v2, g, d, tk2, os⟩
    refine wpAny_bind (wpAny_newTuple (wpAny_pure ⟨_, rfl, ?_⟩))
    have sz : v2.objs.size = hp.objs.size := by rw [sw.1, sv.1, su.1]
    have z2 : Zp v2 z TI TO f0 true := sw.extBut _ _ S.zi2 (sv.extBut _ _ S.zi1 zu)
    have up : ∀ c o, v2.get? c = some o → (v2.push { cls := .type "tuple", data := .seq #[x, y] }).get? c = some o := fun c o q => Heap.get?_push_of_some _ q
    have new : IsPair (v2.push { cls := .type "tuple", data := .seq #[x, y] }) v2.objs.size x y := Heap.get?_push_size _ rfl
    have big : (v2.push { cls := .type "tuple", data := .seq #[x, y] }).objs.size = v2.objs.size + 1 := Heap.size_push ..
    show Q (.ref v2.objs.size) ⟨v2.push { cls := .type "tuple", data := .seq #[x, y] }, g, d, tk2, os⟩
    rw [sz] at new big ⊢
    refine hQ x y _ tk2 hx hy ⟨f0, true, hf, up _ _ z2⟩ ⟨a, b, up _ _ (sw.extBut _ _ S.Ti2 (sv.extBut _ _ S.Ti1 (su.extBut _ _ S.TOz tO)))⟩ (D1.frame _ _ _ (D1.over sx sw S.sep2_1) fun c hc o q => up c o q) (D2.frame _ _ _ sy fun c hc o q => up c o q) new big fun c o hc q => up c o ?_
    simp only [List.mem_cons, List.not_mem_nil, or_false, not_or] at hc
    exact sw.extBut _ _ hc.2.2.2 (sv.extBut _ _ hc.2.2.1 (su.extBut _ _ hc.1 q))
/-- and none -/
theorem draw_end {Q : PySem.Fin → Shared → Prop} (S : ZipSep2 z TI TO i1 i2 fp1 fp2) (D1 : Draws prog w A i1 fp1 n1 P1 St1) (D2 : Draws prog w A i2 fp2 n2 P2 St2)
    (hz : ZOk s.heap z TI TO) (tI : IsPair s.heap TI (.ref i1) (.ref i2)) (tO : ∃ a b, IsPair s.heap TO a b) (st1 : St1 i s.heap) (st2 : St2 i s.heap) (le1 : i ≤ n1) (le2 : i ≤ n2) (hend : i = n1 ∨ i = n2)
    (hE : ∀ h' tk e, (∀ c o, c ∉ [z, TO, i1, i2] → s.heap.get? c = some o → h'.get? c = some o) → (∃ o, h'.get? e = some o ∧ o.cls = .type "StopIteration") → E (.ref e) { s with heap := h', toks := tk }) :
    wpAny (model prog w) A (Builtin.«zip.__next__» ⟨[.ref z], []⟩) Q E s := by
  obtain ⟨f0, f1, hf, hz⟩ := hz
  obtain ⟨a, b, tO⟩ := tO
  obtain ⟨hp, g, d, tk0, os⟩ := s
  show wpAny _ _ (field (.ref z) 2 >>= _) _ _ _
  refine at_field hz rfl (x := .bool false) rfl ?_
  show wpAny _ _ (field (.ref z) 3 >>= _) _ _ _
  refine at_field hz rfl (x := .ref TI) rfl (wpAny_bind (wpAny_seqItems tI rfl ?_))
  show wpAny _ _ (Builtin.SmallTypes.ownedTupleIsFree (.ref z) >>= _) _ _ _
  have far : ∀ {c : Addr}, c ∉ [z, TO, i1, i2] → c ≠ z ∧ c ≠ TO ∧ c ≠ i1 ∧ c ≠ i2 := fun hc => by
    simp only [List.mem_cons, List.not_mem_nil, or_false, not_or] at hc
    exact hc
  refine wpAny_bind (is_free hz hf ?_ fun u0 zu su => ?_)
  · simp only [if_true]
    refine wpAny_bind (wpAny_rule (at_field hz rfl (x := .ref TO) rfl (wpAny_bind (wpAny_setField_rec hz (by simp) fun u0 zu su => ?_))))
    replace zu : Zp u0 z TI TO .ellipsis f1 := zu
    replace su : Heap.SameBut z hp u0 := su
    refine wpAny_bind ?_
    simp only [List.zipIdx_cons, List.zipIdx_nil, List.forIn_cons, List.forIn_nil]
    refine wpAny_bind (wpAny_bind (wpAny_onRaise ?_))
    show wpAny _ _ (Builtin.SmallTypes.nextOf (.ref i1) >>= _) _ _ ⟨u0, g, d, tk0, os⟩
    -- how it is told: the zip's own field is cleared
    have told : ∀ (v : Heap) (tk : Nat) (e : Addr), Zp v z TI TO .ellipsis f1 → (∀ c o, c ∉ [z, TO, i1, i2] → hp.get? c = some o → v.get? c = some o) → (∃ o, v.get? e = some o ∧ o.cls = .type "StopIteration") →
        wpAny (model prog w) A (setField (.ref z) 0 .none) (fun _ s'' => E (.ref e) s'') E ⟨v, g, d, tk, os⟩ := fun v tk e zv kv ⟨o, ho, hc⟩ => by
      have ne : e ≠ z := fun q => by
        subst q
        rw [zv] at ho
        cases ho
        simp at hc
      refine wpAny_setField_rec (s := ⟨v, g, d, tk, os⟩) zv (by simp) fun v' _ sv => ?_
      replace sv : Heap.SameBut z v v' := sv
      exact hE v' tk e (fun c o hc q => sv.extBut _ _ (far hc).1 (kv c o hc q)) ⟨o, sv.extBut _ _ ne ho, hc⟩
    by_cases lt1 : i < n1
    · refine wpAny_bind (D1.item i _ _ _ lt1 (D1.over st1 su S.zf1) fun x v1 tk1 hx sx sv => wpAny_pure ?_)
      replace sv : Heap.SameBut i1 u0 v1 := sv
      have to1 : IsPair v1 TO a b := sv.extBut _ _ S.Ti1 (su.extBut _ _ S.TOz tO)
      refine wpAny_bind (wpAny_seqItems (s := ⟨v1, g, d, tk1, os⟩) to1 rfl (wpAny_bind (wpAny_updateSeq_pair (s := ⟨v1, g, d, tk1, os⟩) to1 fun u1 tu s1 => wpAny_bind (wpAny_letGo (wpAny_pure ?_)))))
      replace s1 : Heap.SameBut TO v1 u1 := s1
      have e2 : i = n2 := by omega
      refine wpAny_bind (wpAny_bind (wpAny_onRaise ?_))
      show wpAny _ _ (Builtin.SmallTypes.nextOf (.ref i2) >>= _) _ _ ⟨u1, g, d, tk1, os⟩
      have sy : St2 n2 u1 := e2 ▸ D2.over (D2.over (D2.over st2 su S.zf2) sv S.sep1_2) s1 S.Tf2
      refine wpAny_bind (D2.done ⟨u1, g, d, tk1, os⟩ _ _ sy fun v e sw he => told v tk1 e ?_ (fun c o hc q => ?_) he)
      · exact sw _ _ S.zi2 (s1.extBut _ _ S.TOz.symm (sv.extBut _ _ S.zi1 zu))
      · exact sw _ _ (far hc).2.2.2 (s1.extBut _ _ (far hc).2.1 (sv.extBut _ _ (far hc).2.2.1 (su.extBut _ _ (far hc).1 q)))
    · have e1 : i = n1 := by omega
      refine wpAny_bind (D1.done ⟨u0, g, d, tk0, os⟩ _ _ (e1 ▸ D1.over st1 su S.zf1) fun v e sw he => told v tk0 e (sw _ _ S.zi1 zu) (fun c o hc q => sw _ _ (far hc).2.2.1 (su.extBut _ _ (far hc).1 q)) he)
  · replace su : Heap.SameBut z hp u0 := su
    simp only [Bool.false_eq_true, if_false]
    refine wpAny_bind ?_
    rw [← Array.forIn_toList]
    simp only [List.forIn_cons, List.forIn_nil]
    refine wpAny_bind (wpAny_bind (wpAny_holding ?_))
    show wpAny _ _ (Builtin.SmallTypes.nextOf (.ref i1) >>= _) _ _ ⟨u0, g, d, tk0, os⟩
    by_cases lt1 : i < n1
    · refine wpAny_bind (D1.item i _ _ _ lt1 (D1.over st1 su S.zf1) fun x v1 tk1 hx sx sv => wpAny_pure (wpAny_pure ?_))
      replace sv : Heap.SameBut i1 u0 v1 := sv
      have e2 : i = n2 := by omega
      refine wpAny_bind (wpAny_bind (wpAny_holding ?_))
      show wpAny _ _ (Builtin.SmallTypes.nextOf (.ref i2) >>= _) _ _ ⟨v1, g, d, tk1, os⟩
      refine wpAny_bind (D2.done ⟨v1, g, d, tk1, os⟩ _ _ (e2 ▸ D2.over (D2.over st2 su S.zf2) sv S.sep1_2) fun v e sw he => hE v tk1 e (fun c o hc q => ?_) he)
      exact sw _ _ (far hc).2.2.2 (sv.extBut _ _ (far hc).2.2.1 (su.extBut _ _ (far hc).1 q))
    · have e1 : i = n1 := by omega
      exact wpAny_bind (D1.done ⟨u0, g, d, tk0, os⟩ _ _ (e1 ▸ D1.over st1 su S.zf1) fun v e sw he => hE v tk0 e (fun c o hc q => sw _ _ (far hc).2.2.1 (su.extBut _ _ (far hc).1 q)) he)
/-- its next, asked by another iterator -/
theorem nextOf_zip {Q : Value → Shared → Prop} (hz : ZOk s.heap z TI TO) (h : wpAny (model prog w) A.in1 (Builtin.«zip.__next__» ⟨[.ref z], []⟩) (fun fin s' => ∃ v, fin = .done (.ret v) ∧ Q v s') E s) : wpAny (model prog w) A (Builtin.SmallTypes.nextOf (.ref z)) Q E s := by
  obtain ⟨f0, f1, _, hz⟩ := hz
  have ty : s.TypeIs (.ref z) "zip" := ⟨_, hz, rfl⟩
  unfold Builtin.SmallTypes.nextOf
  exact wpAny_bind (wpAny_callSpecial?_slot (name := Str.ofString "__next__") ty PySem.F.slot_zip_next (wpAny_call_entry PySem.F.slot_zip_next ty PySem.F.entry_zip_next (wpAny_mono h (fun fin s' ⟨v, e, q⟩ => ⟨v, e, wpAny_pure q⟩) fun _ _ q => q) (PySem.F.args_zip_next_1 _)))
end
end ShW

set_option Elab.async false
set_option linter.all false
set_option maxRecDepth 100000
set_option maxHeartbeats 4000000
/-! lists and tuples alike: enumerate, zip, enumerate of a zip -/
namespace ShW
open PySem PySem.Spec PyProof.Rows L2
inductive Kd | t | l
def itN : Kd → String
  | .t => "tuple_iterator"
  | .l => "list_iterator"
def IterK (h : Heap) (k : Kd) (it a : Addr) (i : Nat) : Prop := ∃ o, h.get? it = some o ∧ o.cls = .type (itN k) ∧ o.data = .fields #[.ref a, .int i 0]
def SeqK (h : Heap) : Kd → Addr → Array Value → Prop
  | .t, a, xs => h.IsTuple a xs
  | .l, a, xs => h.IsList a xs
def SqK (K : PySem.W.Frag) : Kd → Hp → Addr → List V → Prop
  | .t, H, a, xs => SqT K H a xs
  | .l, H, a, xs => SqL K H a xs
section
variable {prog : Program} {w : World} {A : Around} {E : Value → Shared → Prop} {s : Shared} {k k1 k2 : Kd} {a b it : Addr} {xs ys : Array Value}
theorem SeqK.push {h : Heap} {o : Obj} (x : SeqK h k a xs) : SeqK (h.push o) k a xs := by
  cases k with
  | t => obtain ⟨u, e, r⟩ := x; exact ⟨u, Heap.get?_push_of_some _ e, r⟩
  | l => obtain ⟨u, e, r⟩ := x; exact ⟨u, Heap.get?_push_of_some _ e, r⟩
theorem SeqK.lt {h : Heap} (x : SeqK h k a xs) : a < h.objs.size := by
  cases k with
  | t => obtain ⟨u, e, r⟩ := x; exact Heap.lt_size e
  | l => obtain ⟨u, e, r⟩ := x; exact Heap.lt_size e
theorem IterK.keep {h h' : Heap} {i : Nat} (x : IterK h k it a i) (e : ∀ o, h.get? it = some o → h'.get? it = some o) : IterK h' k it a i := by
  obtain ⟨u, e1, r⟩ := x
  exact ⟨u, e u e1, r⟩
theorem drawsK (hh : A.handled = none) (hne : a ≠ it) : Draws prog w A it [it, a] xs.size (fun i v => xs[i]? = some v) (fun i h => IterK h k it a i ∧ SeqK h k a xs) := by
  cases k with
  | t => exact Draws.tuple hh it a hne xs
  | l => exact Draws.list hh it a hne xs
theorem iterK {Q : Value → Shared → Prop} (h : SeqK s.heap k a xs) (q : Q (.ref s.heap.objs.size) { s with heap := s.heap.push { cls := .type (itN k), data := .fields #[.ref a, .int 0 0] } }) : wpAny (model prog w) A (pyIter (.ref a)) Q E s := by
  cases k with
  | t => exact wpAny_pyIter_tuple h q
  | l => exact wpAny_pyIter_list h q
/-- what stands in the text's H stands so in the heap -/
theorem SqK.at {X : Cx} {pins : List (Addr × Obj)} {σ : L2.St} {H : Hp} {vs : List V} (I : Inv X pins σ H s) (h : SqK X.K k H a vs) : ∃ us : List Value, Vals vs us ∧ SeqK s.heap k a us.toArray := by
  cases k with
  | t =>
    obtain ⟨us, r, p, _⟩ := I.tuple h
    exact ⟨us, r, p⟩
  | l =>
    obtain ⟨us, r, p, _⟩ := I.list h
    exact ⟨us, r, p.isList⟩
theorem SqK.one {X : Cx} {pins : List (Addr × Obj)} {σ : L2.St} {H : Hp} {vs us : List V} (I : Inv X pins σ H s) (h : SqK X.K k H a vs) (h2 : SqK X.K k H a us) : vs = us := by
  cases k with
  | t => exact I.tuple_inj h h2
  | l => exact I.list_inj h h2

/-! ### zip -/
abbrev zq1 (h : Heap) (k1 : Kd) (a : Addr) : Heap := h.push { cls := .type (itN k1), data := .fields #[.ref a, .int 0 0] }
abbrev zq2 (h : Heap) (k1 k2 : Kd) (a b : Addr) : Heap := (zq1 h k1 a).push { cls := .type (itN k2), data := .fields #[.ref b, .int 0 0] }
abbrev zq3 (h : Heap) (k1 k2 : Kd) (a b : Addr) : Heap := (zq2 h k1 k2 a b).push { cls := .type "tuple", data := .seq #[.ref h.objs.size, .ref (zq1 h k1 a).objs.size] }
abbrev zq4 (h : Heap) (k1 k2 : Kd) (a b : Addr) : Heap := (zq3 h k1 k2 a b).push { cls := .type "tuple", data := .seq #[.none, .none] }
abbrev zq5 (h : Heap) (k1 k2 : Kd) (a b : Addr) : Heap := (zq4 h k1 k2 a b).push { cls := .type "zip", data := .fields #[.none, .bool false, .bool false, .ref (zq2 h k1 k2 a b).objs.size, .ref (zq3 h k1 k2 a b).objs.size] }
theorem new_zipK : Meets (Builtin.«zip.__new__» ⟨[.type "zip", .ref a, .ref b], []⟩) (fun _ R s => SeqK s.heap k1 a xs ∧ SeqK s.heap k2 b ys ∧ R (.ok (.ret (.ref (zq4 s.heap k1 k2 a b).objs.size))) { s with heap := zq5 s.heap k1 k2 a b }) :=
  .of_wp fun prog w A R s h => by
    obtain ⟨hp, g, d, tk, os⟩ := s
    obtain ⟨q1, q2, h⟩ := h
    have sub := sub_zip
    have u1 : SeqK (Shared.heap ⟨hp, g, d, tk, os⟩) k1 a xs := q1
    have u2 : SeqK (Shared.heap ⟨zq1 hp k1 a, g, d, tk, os⟩) k2 b ys := SeqK.push q2
    wp_walk using iterK u1, iterK u2
    exact ⟨_, rfl, h⟩
/-- a zip as it was made: at N + 4, its cells from N on -/
structure NewZip (h' : Heap) (k1 k2 : Kd) (a b : Addr) (N : Nat) : Prop where
  z : Zp h' (N + 4) (N + 2) (N + 3) .none false
  tI : IsPair h' (N + 2) (.ref N) (.ref (N + 1))
  tO : IsPair h' (N + 3) .none .none
  i1 : IterK h' k1 N a 0
  i2 : IterK h' k2 (N + 1) b 0
  sz : h'.objs.size = N + 5
theorem call_zipK {Q : Value → Shared → Prop} (h1 : SeqK s.heap k1 a xs) (h2 : SeqK s.heap k2 b ys) (h : ∀ h', NewZip h' k1 k2 a b s.heap.objs.size → (∀ c o, s.heap.get? c = some o → h'.get? c = some o) → Q (.ref (s.heap.objs.size + 4)) { s with heap := h' }) :
    wpAny (model prog w) A (call (.type "zip") [.ref a, .ref b]) Q E s := by
  refine callType_new PySem.F.called_zip (by decide) (PySem.F.typeCall_zip_2 _ _) (PySem.F.newCall_zip_2 _ _) (fun obj => PySem.F.args_object_init_3 obj _ _) PySem.F.entry_zip_new (new_zipK (k1 := k1) (k2 := k2)) ⟨h1, h2, ?_⟩
  have s1 : (zq1 s.heap k1 a).objs.size = s.heap.objs.size + 1 := Heap.size_push ..
  have s2 : (zq2 s.heap k1 k2 a b).objs.size = s.heap.objs.size + 2 := by rw [Heap.size_push, s1]
  have s3 : (zq3 s.heap k1 k2 a b).objs.size = s.heap.objs.size + 3 := by rw [Heap.size_push, s2]
  have s4 : (zq4 s.heap k1 k2 a b).objs.size = s.heap.objs.size + 4 := by rw [Heap.size_push, s3]
  have s5 : (zq5 s.heap k1 k2 a b).objs.size = s.heap.objs.size + 5 := by rw [Heap.size_push, s4]
  have up : ∀ {h : Heap} {o o' : Obj} {c : Addr}, h.get? c = some o → (h.push o').get? c = some o := fun q => Heap.get?_push_of_some _ q
  have e5 : (zq5 s.heap k1 k2 a b).get? (zq4 s.heap k1 k2 a b).objs.size = some _ := Heap.get?_push_size _ rfl
  have e4 : (zq5 s.heap k1 k2 a b).get? (zq3 s.heap k1 k2 a b).objs.size = some _ := up (Heap.get?_push_size _ rfl)
  have e3 : (zq5 s.heap k1 k2 a b).get? (zq2 s.heap k1 k2 a b).objs.size = some _ := up (up (Heap.get?_push_size _ rfl))
  have e2 : (zq5 s.heap k1 k2 a b).get? (zq1 s.heap k1 a).objs.size = some _ := up (up (up (Heap.get?_push_size _ rfl)))
  have e1 : (zq5 s.heap k1 k2 a b).get? s.heap.objs.size = some _ := up (up (up (up (Heap.get?_push_size _ rfl))))
  show _ ∧ _
  rw [s2, s3, s4] at e5
  rw [s1, s2] at e3
  rw [s3] at e4
  rw [s1] at e2
  rw [s4]
  exact ⟨⟨_, e5, rfl⟩, h _ ⟨e5, e3, e4, ⟨_, e1, rfl, rfl⟩, ⟨_, e2, rfl, rfl⟩, s5⟩ fun c o q => up (up (up (up (up q))))⟩

/-! ### enumerate -/
end
end ShW

set_option Elab.async false
set_option linter.all false
set_option maxRecDepth 100000
set_option maxHeartbeats 4000000
/-! enumerate: of a list, a tuple, a zip -/
namespace ShW
open PySem PySem.Spec PyProof.Rows L2
section
variable {prog : Program} {w : World} {A : Around} {E : Value → Shared → Prop} {s : Shared} {k k1 k2 : Kd} {a b it e z TI TO : Addr} {xs ys : Array Value}
abbrev enumO (it : Addr) : Obj := { cls := .type "enumerate", data := .fields #[.none, .bool false, .ref it, rawInt 0, .none, .none] }
theorem new_enumK : Meets (Builtin.«enumerate.__new__» ⟨[.type "enumerate", .ref a], []⟩) (fun _ R s => SeqK s.heap k a xs ∧ R (.ok (.ret (.ref (zq1 s.heap k a).objs.size))) { s with heap := (zq1 s.heap k a).push (enumO s.heap.objs.size) }) :=
  .of_wp fun prog w A R s h => by
    obtain ⟨hp, g, d, tk, os⟩ := s
    obtain ⟨q, h⟩ := h
    have sub := sub_enumerate
    have u : SeqK (Shared.heap ⟨hp, g, d, tk, os⟩) k a xs := q
    wp_walk
    refine wpAny_stack_any fun above => wpAny_pure ?_
    split
    · next c _ _ _ _ _ =>
      cases (c == Value.type "enumerate") <;> (wp_walk using iterK u; exact ⟨_, rfl, h⟩)
    · wp_walk using iterK u
      exact ⟨_, rfl, h⟩
theorem iterZ {Q : Value → Shared → Prop} {f0 : Value} {f1 : Bool} (hz : Zp s.heap z TI TO f0 f1) (h : Q (.ref z) s) : wpAny (model prog w) A (pyIter (.ref z)) Q E s := by
  have ty : s.TypeIs (.ref z) "zip" := ⟨_, hz, rfl⟩
  refine wpAny_pyIter_slot ty PySem.F.slot_zip_iter (wpAny_call_entry PySem.F.slot_zip_iter ty PySem.F.entry_zip_iter (?_ : wpAny _ _ (ret (.ref z)) _ _ s) (PySem.F.args_zip_iter_1 _))
  exact wpAny_pure ⟨_, rfl, "zip", _, ty, PySem.F.slot_zip_next.lookup, h⟩
theorem new_enumZ : Meets (Builtin.«enumerate.__new__» ⟨[.type "enumerate", .ref z], []⟩) (fun _ R s => Zp s.heap z TI TO .none false ∧ R (.ok (.ret (.ref s.heap.objs.size))) { s with heap := s.heap.push (enumO z) }) :=
  .of_wp fun prog w A R s h => by
    obtain ⟨hp, g, d, tk, os⟩ := s
    obtain ⟨q, h⟩ := h
    have sub := sub_enumerate
    have u : Zp (Shared.heap ⟨hp, g, d, tk, os⟩) z TI TO .none false := q
    wp_walk
    refine wpAny_stack_any fun above => wpAny_pure ?_
    split
    · next c _ _ _ _ _ =>
      cases (c == Value.type "enumerate") <;> (wp_walk using iterZ u; exact ⟨_, rfl, h⟩)
    · wp_walk using iterZ u
      exact ⟨_, rfl, h⟩
theorem call_enumK {Q : Value → Shared → Prop} (h1 : SeqK s.heap k a xs) (h : ∀ h', IsEnum h' (s.heap.objs.size + 1) s.heap.objs.size 0 .none → IterK h' k s.heap.objs.size a 0 → (∀ c o, s.heap.get? c = some o → h'.get? c = some o) → Q (.ref (s.heap.objs.size + 1)) { s with heap := h' }) :
    wpAny (model prog w) A (call (.type "enumerate") [.ref a]) Q E s := by
  refine callType_new PySem.F.called_enumerate (by decide) (PySem.F.typeCall_enumerate_1 _) (PySem.F.newCall_enumerate_1 _) (fun obj => PySem.F.args_object_init_2 obj _) PySem.F.entry_enumerate_new (new_enumK (k := k)) ⟨h1, ?_⟩
  have s1 : (zq1 s.heap k a).objs.size = s.heap.objs.size + 1 := Heap.size_push ..
  have e1 : ((zq1 s.heap k a).push (enumO s.heap.objs.size)).get? (zq1 s.heap k a).objs.size = some _ := Heap.get?_push_size _ rfl
  have e0 : ((zq1 s.heap k a).push (enumO s.heap.objs.size)).get? s.heap.objs.size = some _ := Heap.get?_push_of_some _ (Heap.get?_push_size _ rfl)
  show _ ∧ _
  rw [s1] at e1 ⊢
  exact ⟨⟨_, e1, rfl⟩, h _ e1 ⟨_, e0, rfl, rfl⟩ fun c o q => Heap.get?_push_of_some _ (Heap.get?_push_of_some _ q)⟩
theorem call_enumZ {Q : Value → Shared → Prop} (h1 : Zp s.heap z TI TO .none false) (h : ∀ h', IsEnum h' s.heap.objs.size z 0 .none → (∀ c o, s.heap.get? c = some o → h'.get? c = some o) → Q (.ref s.heap.objs.size) { s with heap := h' }) :
    wpAny (model prog w) A (call (.type "enumerate") [.ref z]) Q E s := by
  refine callType_new PySem.F.called_enumerate (by decide) (PySem.F.typeCall_enumerate_1 _) (PySem.F.newCall_enumerate_1 _) (fun obj => PySem.F.args_object_init_2 obj _) PySem.F.entry_enumerate_new (new_enumZ (TI := TI) (TO := TO)) ⟨h1, ?_⟩
  have e0 : (s.heap.push (enumO z)).get? s.heap.objs.size = some _ := Heap.get?_push_size _ rfl
  exact ⟨⟨_, e0, rfl⟩, h _ e0 fun c o q => Heap.get?_push_of_some _ q⟩
/-- the next number beside whatever the source gives -/
theorem enum_item {c : Int} {old : Value} {Q : Value → Shared → Prop} {Y : Value → Heap → Prop} (he : IsEnum s.heap e it c old)
    (src : ∀ R : Value → Shared → Prop, (∀ x h' tk, Y x h' → IsEnum h' e it c old → R x { s with heap := h', toks := tk }) → wpAny (model prog w) A (Builtin.SmallTypes.nextOf (.ref it)) R E s)
    (hQ : ∀ x h1 h' tk, Y x h1 → IsEnumOut h' e it (c + 1) x h1.objs.size → IsPair h' h1.objs.size (.int c tk) x → (∀ b o, b ≠ e → h1.get? b = some o → h'.get? b = some o) → Q (.ref h1.objs.size) { s with heap := h', toks := tk + 1 }) :
    wpAny (model prog w) A (Builtin.«enumerate.__next__» ⟨[.ref e], []⟩) (fun fin s' => ∃ v, fin = .done (.ret v) ∧ Q v s') E s := by
  show wpAny _ _ (field (.ref e) 2 >>= _) _ _ _
  refine at_field he rfl (x := .ref it) rfl (wpAny_bind (src _ fun x h1 tk hY e1 => ?_))
  obtain ⟨hp, g, d, tk0, os⟩ := s
  show wpAny _ _ (field (.ref e) 3 >>= _) _ _ ⟨h1, g, d, tk, os⟩
  refine at_field e1 rfl (x := rawInt c) rfl ?_
  show wpAny _ _ (field (.ref e) 4 >>= _) _ _ ⟨h1, g, d, tk, os⟩
  refine at_field e1 rfl (x := .none) rfl ?_
  show wpAny _ _ (mkInt c >>= _) _ _ ⟨h1, g, d, tk, os⟩
  refine wpAny_bind (wpAny_mkInt ?_)
  show wpAny _ _ (setField (.ref e) 3 (rawInt (c + 1)) >>= _) _ _ ⟨h1, g, d, tk + 1, os⟩
  refine wpAny_bind (wpAny_setField_rec e1 (by simp) fun h2 e2 s2 => ?_)
  replace s2 : Heap.SameBut e h1 h2 := s2
  replace e2 : IsEnum h2 e it (c + 1) old := e2
  show wpAny _ _ (setField (.ref e) 4 .none >>= _) _ _ ⟨h2, g, d, tk + 1, os⟩
  refine wpAny_bind (wpAny_setField_rec e2 (by simp) fun h3 e3 s3 => ?_)
  replace s3 : Heap.SameBut e h2 h3 := s3
  replace e3 : IsEnum h3 e it (c + 1) old := e3
  show wpAny _ _ (newTuple [.int c tk, x] >>= _) _ _ ⟨h3, g, d, tk + 1, os⟩
  refine wpAny_bind (wpAny_newTuple ?_)
  have sz : h3.objs.size = h1.objs.size := by rw [s3.1, s2.1]
  have lt : e < h1.objs.size := Heap.lt_size e1
  obtain ⟨h4, q4⟩ : ∃ h4, h4 = h3.push { cls := .type "tuple", data := .seq #[.int c tk, x] } := ⟨_, rfl⟩
  have e4 : IsEnum h4 e it (c + 1) old := by rw [q4]; exact Heap.get?_push_of_some _ e3
  have t4 : IsPair h4 h1.objs.size (.int c tk) x := by rw [q4, ← sz]; exact Heap.get?_push_size _ rfl
  have k4 : ∀ b o, b ≠ e → h1.get? b = some o → h4.get? b = some o := fun b o hb q => by
    rw [q4]
    exact Heap.get?_push_of_some _ (s3.extBut b o hb (s2.extBut b o hb q))
  show wpAny _ _ (Builtin.SmallTypes.ownedTupleIsFree (.ref e) >>= _) _ _ ⟨h3.push { cls := .type "tuple", data := .seq #[.int c tk, x] }, g, d, tk + 1, os⟩
  rw [← q4, sz]
  refine wpAny_bind ?_
  unfold Builtin.SmallTypes.ownedTupleIsFree
  refine at_field e4 rfl (x := .none) rfl (wpAny_pure ?_)
  simp only [if_true]
  refine wpAny_bind (wpAny_rule (at_field e4 rfl (x := old) rfl (wpAny_bind (wpAny_setField_rec e4 (by simp) fun h5 e5 s5 => ?_))))
  replace s5 : Heap.SameBut e h4 h5 := s5
  replace e5 : IsEnum h5 e it (c + 1) x := e5
  show wpAny _ _ (Builtin.SmallTypes.ownedTupleHandOut (.ref e) (.ref h1.objs.size) >>= _) _ _ ⟨h5, g, d, tk + 1, os⟩
  refine wpAny_bind ?_
  unfold Builtin.SmallTypes.ownedTupleHandOut
  refine wpAny_bind (wpAny_setField_rec e5 (by simp) fun h6 e6 s6 => ?_)
  replace s6 : Heap.SameBut e h5 h6 := s6
  replace e6 : IsEnumOut h6 e it (c + 1) x h1.objs.size := e6
  refine wpAny_setField_rec e6 (by simp) fun h7 e7 s7 => ?_
  replace s7 : Heap.SameBut e h6 h7 := s7
  replace e7 : IsEnumOut h7 e it (c + 1) x h1.objs.size := e7
  have up : ∀ b o, b ≠ e → h4.get? b = some o → h7.get? b = some o := fun b o hb q => s7.extBut b o hb (s6.extBut b o hb (s5.extBut b o hb q))
  exact wpAny_bind (wpAny_letGo (wpAny_pure ⟨_, rfl, hQ x h1 h7 tk hY e7 (up _ _ (Nat.ne_of_gt lt) t4) fun b o hb q => up b o hb (k4 b o hb q)⟩))
/-- no next: the source has none -/
theorem enum_end {c : Int} {old : Value} {Q : PySem.Fin → Shared → Prop} (he : IsEnum s.heap e it c old) (src : ∀ R : Value → Shared → Prop, wpAny (model prog w) A (Builtin.SmallTypes.nextOf (.ref it)) R E s) :
    wpAny (model prog w) A (Builtin.«enumerate.__next__» ⟨[.ref e], []⟩) Q E s := by
  show wpAny _ _ (field (.ref e) 2 >>= _) _ _ _
  exact at_field he rfl (x := .ref it) rfl (wpAny_bind (src _))
/-- pyNext of an enumerate -/
theorem next_enum {c : Int} {old : Value} {Q : Option Value → Shared → Prop} (he : IsEnum s.heap e it c old) (h : wpAny (model prog w) A.in1 (Builtin.«enumerate.__next__» ⟨[.ref e], []⟩) (fun fin s' => ∃ v, fin = .done (.ret v) ∧ Q (some v) s') (fun _ _ => False) s) : wpAny (model prog w) A (pyNext (.ref e)) Q E s := by
  have ty : s.TypeIs (.ref e) "enumerate" := ⟨_, he, rfl⟩
  unfold pyNext
  exact wpAny_bind (wpAny_attempt (wpAny_callSpecial?_slot (name := Str.ofString "__next__") ty PySem.F.slot_enumerate_next (wpAny_call_entry PySem.F.slot_enumerate_next ty PySem.F.entry_enumerate_next (wpAny_mono h (fun fin s' ⟨v, e, q⟩ => ⟨v, e, wpAny_pure q⟩) fun _ _ q => q.elim) (PySem.F.args_enumerate_next_1 _))))
theorem next_enum_end {c : Int} {old : Value} {Q : Option Value → Shared → Prop} (he : IsEnum s.heap e it c old) (h : wpAny (model prog w) A.in1 (Builtin.«enumerate.__next__» ⟨[.ref e], []⟩) (fun _ _ => False) (fun x s' => (∃ a o, x = .ref a ∧ s'.heap.get? a = some o ∧ o.cls = .type "StopIteration") ∧ Q none s') s) : wpAny (model prog w) A (pyNext (.ref e)) Q E s := by
  have ty : s.TypeIs (.ref e) "enumerate" := ⟨_, he, rfl⟩
  unfold pyNext
  refine wpAny_bind (wpAny_attempt (wpAny_callSpecial?_slot (name := Str.ofString "__next__") ty PySem.F.slot_enumerate_next (wpAny_call_entry PySem.F.slot_enumerate_next ty PySem.F.entry_enumerate_next (wpAny_mono h (fun fin s' q => q.elim) fun x s' ⟨⟨a, o, e1, e2, e3⟩, q⟩ => ?_) (PySem.F.args_enumerate_next_1 _))))
  subst e1
  exact wpAny_bind (wpAny_isInstance (T := "StopIteration") (b := true) ⟨o, e2, e3⟩ isSubtype_stop (wpAny_pure q))
end
end ShW

set_option Elab.async false
set_option linter.all false
set_option maxRecDepth 100000
set_option maxHeartbeats 4000000
/-! what enumerate draws from, and its turns -/
namespace ShW
open PySem PySem.Spec PyProof.Rows L2
/-- an iterator that another one draws from -/
structure Src (P : Program) (w : World) (K : PySem.W.Frag) (J : It) (fp : List Addr) (it : Addr) (tn : Nat → Heap → Prop) : Prop where
  mem : it ∈ fp
  obj : ∀ i h, tn i h → ∀ b ∈ fp, ∃ o, h.get? b = some o ∧ ∀ v, o.data ≠ .cell v
  keep : ∀ i h h', tn i h → (∀ b ∈ fp, ∀ o, h.get? b = some o → h'.get? b = some o) → tn i h'
  item : ∀ (X : Cx), X.prog = P → X.w = w → X.K = K → X.calm = true → ∀ (i : Nat) (pins : List (Addr × Obj)) (s : Shared) (σ : L2.St) (H : Hp) (R : Value → Shared → Prop) (E : Value → Shared → Prop), Inv X pins σ H s → (∀ b ∈ fp, FpOk X pins H b) → tn i s.heap → J.go i H →
    (∀ u x H' h' tk, Inv X pins σ H' { s with heap := h', toks := tk } → RelV x u → J.yld i H x H' → tn (i + 1) h' → (∀ b, b < s.heap.objs.size → H b = none → H' b = none) → (∀ b o, b ∉ fp → s.heap.get? b = some o → h'.get? b = some o) → R u { s with heap := h', toks := tk }) →
    wpAny (model P w) X.A.in1 (Builtin.SmallTypes.nextOf (.ref it)) R E s
  done : ∀ (X : Cx), X.prog = P → X.w = w → X.K = K → X.calm = true → ∀ (i : Nat) (pins : List (Addr × Obj)) (s : Shared) (σ : L2.St) (H : Hp) (R : Value → Shared → Prop), Inv X pins σ H s → (∀ b ∈ fp, FpOk X pins H b) → tn i s.heap → J.stop i H →
    wpAny (model P w) X.A.in1 (Builtin.SmallTypes.nextOf (.ref it)) R (fun x s' => (∃ a o, x = .ref a ∧ s'.heap.get? a = some o ∧ o.cls = .type "StopIteration") ∧ Inv X pins σ H s') s
section
variable {P : Program} {w : World} {K : PySem.W.Frag} {k k1 k2 : Kd} {a b it e z TI TO i1 i2 : Addr}
/-- the things at a, one by one -/
def ItK (K : PySem.W.Frag) (k : Kd) (a : Addr) : It where
  go := fun i H => ∃ (xs : List V) (x : V), SqK K k H a xs ∧ xs[i]? = some x
  yld := fun i H x H' => H' = H ∧ ∀ xs, SqK K k H a xs → xs[i]? = some x
  stop := fun i H => ∃ xs : List V, SqK K k H a xs ∧ i = xs.length
theorem srcK : Src P w K (ItK K k a) [it] it (fun i h => IterK h k it a i ∧ a ≠ it) where
  mem := by simp
  obj := fun i h ⟨⟨o, e1, _, e2⟩, _⟩ b hb => by
    rw [List.mem_singleton.mp hb]
    exact ⟨o, e1, fun v q => by rw [e2] at q; cases q⟩
  keep := fun i h h' ⟨x, ne⟩ q => ⟨x.keep fun o e => q it (by simp) o e, ne⟩
  item := by
    intro X hP hw hK hc i pins s σ H R E I hf ⟨st, ne⟩ ⟨xs, x, q1, q2⟩ h
    subst hP hw hK
    obtain ⟨us, r, p⟩ := SqK.at I q1
    obtain ⟨u, hu, ru⟩ := r.get q2
    have lt : i < us.toArray.size := by
      rw [List.size_toArray]
      exact (List.getElem?_eq_some_iff.mp hu).1
    refine (drawsK (k := k) (prog := X.prog) (w := X.w) (A := X.A.in1) (I.ok.hd hc) ne (xs := us.toArray)).item i s R E lt ⟨st, p⟩ fun y h' tk hy st' sb => ?_
    have ey : y = u := Option.some.inj (hy.symm.trans (by simpa using hu))
    subst ey
    have I' : Inv X pins σ H { s with heap := h', toks := tk } := I.turnedL (ch := [it]) (fun c o hc q => sb.extBut c o (fun z => hc (by simp [z])) q) hf
    exact h y x H h' tk I' ru ⟨rfl, fun ys hy => by rw [SqK.one I hy q1]; exact q2⟩ ⟨st'.1, ne⟩ (fun c _ z => z) fun c o hc q => sb.extBut c o (fun z => hc (by simp [z])) q
  done := by
    intro X hP hw hK hc i pins s σ H R I hf ⟨st, ne⟩ ⟨xs, q1, q2⟩
    subst hP hw hK
    obtain ⟨us, r, p⟩ := SqK.at I q1
    have e : us.toArray.size = i := by rw [List.size_toArray, q2, r.length]
    refine (drawsK (k := k) (prog := X.prog) (w := X.w) (A := X.A.in1) (I.ok.hd hc) ne (xs := us.toArray)).done s R _ ⟨by rw [e]; exact st, p⟩ fun h' x sb ⟨o, e1, e2⟩ => ⟨⟨x, o, rfl, e1, e2⟩, ?_⟩
    exact I.turnedL (t' := s.toks) (ch := [it]) (fun c o hc q => sb c o (fun z => hc (by simp [z])) q) hf
/-- the things at a and b, side by side, each pair a new tuple -/
def ItZ (K : PySem.W.Frag) (k1 k2 : Kd) (a b : Addr) : It where
  go := fun i H => ∃ (xs ys : List V) (x y : V), SqK K k1 H a xs ∧ SqK K k2 H b ys ∧ xs[i]? = some x ∧ ys[i]? = some y
  yld := fun i H v H' => ∃ T x y, v = .ref T ∧ H T = none ∧ H' = upd H T (.tup [x, y]) ∧ (∀ xs, SqK K k1 H a xs → xs[i]? = some x) ∧ ∀ ys, SqK K k2 H b ys → ys[i]? = some y
  stop := fun i H => ∃ xs ys : List V, SqK K k1 H a xs ∧ SqK K k2 H b ys ∧ i = min xs.length ys.length
/-- a zip's cells lie apart -/
structure Apart (z TI TO i1 i2 a b : Addr) : Prop where
  s : ZipSep2 z TI TO i1 i2 [i1, a] [i2, b]
  a1 : a ≠ i1
  b2 : b ≠ i2
theorem apart_new {N a b : Nat} (h1 : a < N) (h2 : b < N) : Apart (N + 4) (N + 2) (N + 3) N (N + 1) a b := by
  have ne : ∀ {x y : Nat}, x ≠ y → (x : Addr) ≠ y := fun h => h
  have ni : ∀ {x y v : Nat}, x ≠ y → x ≠ v → (x : Addr) ∉ [y, v] := fun h1 h2 h => by
    rcases List.mem_cons.mp h with h | h
    · exact h1 h
    · exact h2 (List.mem_singleton.mp h)
  exact ⟨⟨ne (by omega), ne (by omega), ne (by omega), ne (by omega), List.mem_cons_self, ni (by omega) (by omega), ni (by omega) (by omega), ne (by omega), List.mem_cons_self, ni (by omega) (by omega), ni (by omega) (by omega), ni (by omega) (by omega), ni (by omega) (by omega)⟩, ne (by omega), ne (by omega)⟩
theorem srcZ : Src P w K (ItZ K k1 k2 a b) [z, TI, TO, i1, i2] z (fun i h => ZOk h z TI TO ∧ IsPair h TI (.ref i1) (.ref i2) ∧ (∃ x y, IsPair h TO x y) ∧ IterK h k1 i1 a i ∧ IterK h k2 i2 b i ∧ Apart z TI TO i1 i2 a b) where
  mem := by simp
  obj := fun i h ⟨⟨f0, f1, _, e0⟩, e1, ⟨x, y, e2⟩, ⟨o3, e3, _, d3⟩, ⟨o4, e4, _, d4⟩, _⟩ c hc => by
    simp only [List.mem_cons, List.not_mem_nil, or_false] at hc
    rcases hc with rfl | rfl | rfl | rfl | rfl
    · exact ⟨_, e0, fun v q => nomatch q⟩
    · exact ⟨_, e1, fun v q => nomatch q⟩
    · exact ⟨_, e2, fun v q => nomatch q⟩
    · exact ⟨o3, e3, fun v q => by rw [d3] at q; cases q⟩
    · exact ⟨o4, e4, fun v q => by rw [d4] at q; cases q⟩
  keep := fun i h h' ⟨⟨f0, f1, ef, e0⟩, e1, ⟨x, y, e2⟩, e3, e4, D⟩ q => ⟨⟨f0, f1, ef, q z (by simp) _ e0⟩, q TI (by simp) _ e1, ⟨x, y, q TO (by simp) _ e2⟩, e3.keep fun o u => q i1 (by simp) o u, e4.keep fun o u => q i2 (by simp) o u, D⟩
  item := by
    intro X hP hw hK hc i pins s σ H R E I hf ⟨e0, e1, e2, e3, e4, D⟩ ⟨xs, ys, x, y, qx, qy, hx, hy⟩ h
    subst hP hw hK
    obtain ⟨us, r1, p1⟩ := SqK.at I qx
    obtain ⟨vs, r2, p2⟩ := SqK.at I qy
    obtain ⟨u, hu, ru⟩ := r1.get hx
    obtain ⟨v, hv, rv⟩ := r2.get hy
    have l1 : i < us.toArray.size := by
      rw [List.size_toArray]
      exact (List.getElem?_eq_some_iff.mp hu).1
    have l2 : i < vs.toArray.size := by
      rw [List.size_toArray]
      exact (List.getElem?_eq_some_iff.mp hv).1
    refine nextOf_zip e0 (draw_item (i := i) D.s (drawsK (k := k1) (I.ok.hd hc) D.a1 (xs := us.toArray)) (drawsK (k := k2) (I.ok.hd hc) D.b2 (xs := vs.toArray)) e0 e1 e2 ⟨e3, p1⟩ ⟨e4, p2⟩ l1 l2 fun x1 x2 h' tk hx1 hx2 z' tO' s1 s2 new big kp => ?_)
    have b1 : x1 = u := Option.some.inj (hx1.symm.trans (by simpa using hu))
    have b2 : x2 = v := Option.some.inj (hx2.symm.trans (by simpa using hv))
    subst b1 b2
    have kp' : ∀ c o, c ∉ [z, TI, TO, i1, i2] → s.heap.get? c = some o → h'.get? c = some o := fun c o hc => kp c o fun q => hc (by
      simp only [List.mem_cons, List.not_mem_nil, or_false] at q ⊢
      rcases q with q | q | q | q <;> simp [q])
    have ok : ObjOk X.prog X.w (upd H s.heap.objs.size (.tup [x, y])) h' s.heap.objs.size (.tup [x, y]) := ⟨by show 2 ≤ sizeLine; decide, [x1, x2], .cons ru (.cons rv .nil), ⟨_, new, rfl, _, rfl⟩⟩
    have nTI : TI ∉ [z, TO, i1, i2] := by
      simp only [List.mem_cons, List.not_mem_nil, or_false, not_or]
      exact ⟨D.s.TIz, D.s.TITO, D.s.TIi1, D.s.TIi2⟩
    exact h (.ref s.heap.objs.size) (.ref s.heap.objs.size) (upd H s.heap.objs.size (.tup [x, y])) h' tk (I.turnedNew (t' := tk) kp' hf (Nat.le_refl _) ok) rfl
      ⟨_, x, y, rfl, I.hok.fresh (Nat.le_refl _), rfl, fun l hl => by rw [SqK.one I hl qx]; exact hx, fun l hl => by rw [SqK.one I hl qy]; exact hy⟩
      ⟨z', kp _ _ nTI e1, tO', s1.1, s2.1, D⟩ (fun c lt hn => by rw [upd_ne (Nat.ne_of_lt lt)]; exact hn) kp'
  done := by
    intro X hP hw hK hc i pins s σ H R I hf ⟨e0, e1, e2, e3, e4, D⟩ ⟨xs, ys, qx, qy, hend⟩
    subst hP hw hK
    obtain ⟨us, r1, p1⟩ := SqK.at I qx
    obtain ⟨vs, r2, p2⟩ := SqK.at I qy
    have l1 : us.toArray.size = xs.length := by rw [List.size_toArray, r1.length]
    have l2 : vs.toArray.size = ys.length := by rw [List.size_toArray, r2.length]
    refine nextOf_zip e0 (draw_end (i := i) D.s (drawsK (k := k1) (I.ok.hd hc) D.a1 (xs := us.toArray)) (drawsK (k := k2) (I.ok.hd hc) D.b2 (xs := vs.toArray)) e0 e1 e2 ⟨e3, p1⟩ ⟨e4, p2⟩ (by omega) (by omega) (by omega) fun h' tk x kp ⟨o, q1, q2⟩ => ⟨⟨x, o, rfl, q1, q2⟩, ?_⟩)
    exact I.turnedL (t' := tk) (ch := [z, TI, TO, i1, i2]) (fun c o hc q => kp c o (fun y => hc (by
      simp only [List.mem_cons, List.not_mem_nil, or_false] at y ⊢
      rcases y with y | y | y | y <;> simp [y])) q) hf
/-- numbered -/
def ItE (J : It) : It where
  go := J.go
  yld := fun i H v H' => ∃ T x H1, J.yld i H x H1 ∧ v = .ref T ∧ H1 T = none ∧ H' = upd H1 T (.tup [.int (i : Nat), x])
  stop := J.stop
theorem turn_enumS {J : It} {fp : List Addr} {tn : Nat → Heap → Prop} {elts : List Expr} {kk : Nat} {tpos : Pos} (S : Src P w K J fp it tn) (ne : e ∉ fp) :
    Turn P w K (.Tuple elts kk tpos) (ItE J) (e :: fp) e (fun i h => (∃ old, IsEnum h e it ((i : Nat) : Int) old) ∧ tn i h) where
  mem := by simp
  obj := fun i h ⟨⟨old, he⟩, st⟩ b hb => by
    rcases List.mem_cons.mp hb with rfl | hb
    · exact ⟨_, he, fun v q => nomatch q⟩
    · exact S.obj i h st b hb
  keep := fun i h h' ⟨⟨old, he⟩, st⟩ q => ⟨⟨old, q e (by simp) _ he⟩, S.keep i h h' st fun b hb o u => q b (List.mem_cons_of_mem _ hb) o u⟩
  item := by
    intro X hP hw hK hc i pins s σ H E I hf ⟨⟨old, he⟩, st⟩ hg
    have lte : e < s.heap.objs.size := Heap.lt_size he
    have hff : ∀ b ∈ fp, FpOk X pins H b := fun b hb => hf b (List.mem_cons_of_mem _ hb)
    refine next_enum he (enum_item (Y := fun u h' => ∃ x H' tk, Inv X pins σ H' { s with heap := h', toks := tk } ∧ RelV x u ∧ J.yld i H x H' ∧ tn (i + 1) h' ∧ (∀ b, b < s.heap.objs.size → H b = none → H' b = none) ∧ ∀ b o, b ∉ fp → s.heap.get? b = some o → h'.get? b = some o) he (fun R hR => ?_) fun u h1 h' tk hY out new kp => ?_)
    · exact S.item X hP hw hK hc i pins s σ H R _ I hff st hg fun u x H' h' tk a1 a2 a3 a4 a5 a6 => hR u h' tk ⟨x, H', tk, a1, a2, a3, a4, a5, a6⟩ (a6 e _ ne he)
    · obtain ⟨x, H1, tk1, I1, ru, hy, st1, fr, kp1⟩ := hY
      have e1 := kp1 e _ ne he
      have lt1 : e < h1.objs.size := Heap.lt_size e1
      refine ⟨_, rfl, wpAny_letOwnedTupleGo_enum (s := { s with heap := h', toks := tk + 1 }) out fun h2 e2 sb => ?_⟩
      have new2 : h2.get? h1.objs.size = some { cls := .type "tuple", data := .seq #[.int (i : Nat) tk, u] } := (sb.2 _ (Nat.ne_of_gt lt1)).trans new
      have kp2 : ∀ b o, b ∉ [e] → h1.get? b = some o → h2.get? b = some o := fun b o hb q => (sb.2 b fun z => hb (by simp [z])).trans (kp b o (fun z => hb (by simp [z])) q)
      have ok : ObjOk X.prog X.w (upd H1 h1.objs.size (.tup [.int (i : Nat), x])) h2 h1.objs.size (.tup [.int (i : Nat), x]) := ⟨by show 2 ≤ sizeLine; decide, [.int (i : Nat) tk, u], .cons ⟨_, rfl⟩ (.cons ru .nil), ⟨_, new2, rfl, _, rfl⟩⟩
      have fe : FpOk X pins H1 e := ⟨fr e lte (hf e (by simp)).1, (hf e (by simp)).2⟩
      have I2 : Inv X pins σ (upd H1 h1.objs.size (.tup [.int (i : Nat), x])) { s with heap := h2, toks := tk + 1 } := I1.turnedNew (t' := tk + 1) (ch := [e]) kp2 (fun b hb => by rw [List.mem_singleton.mp hb]; exact fe) (Nat.le_refl _) ok
      refine ⟨.ref h1.objs.size, _, I2, rfl, ⟨_, x, H1, hy, rfl, I1.hok.fresh (Nat.le_refl _), rfl⟩, ⟨⟨u, ?_⟩, ?_⟩, fun b hb => ?_⟩
      · rw [show ((i + 1 : Nat) : Int) = (i : Int) + 1 by omega]
        exact e2
      · exact S.keep _ _ _ st1 fun b hb o q => kp2 b o (fun z => ne (by rw [← List.mem_singleton.mp z]; exact hb)) q
      · have lb : b < h1.objs.size := by
          rcases List.mem_cons.mp hb with rfl | hb
          · exact lt1
          · obtain ⟨o, q, _⟩ := S.obj _ _ st1 b hb
            exact Heap.lt_size q
        rw [upd_ne (Nat.ne_of_lt lb)]
        refine fr b ?_ (hf b hb).1
        rcases List.mem_cons.mp hb with rfl | hb
        · exact lte
        · obtain ⟨o, q, _⟩ := S.obj _ _ st b hb
          exact Heap.lt_size q
  done := by
    intro X hP hw hK hc i pins s σ H E I hf ⟨⟨old, he⟩, st⟩ hg
    exact next_enum_end he (enum_end he fun R => wpAny_mono (S.done X hP hw hK hc i pins s σ H R I (fun b hb => hf b (List.mem_cons_of_mem _ hb)) st hg) (fun _ _ z => z) fun x s' ⟨h1, h2⟩ => ⟨h1, rfl, h2⟩)
  self := fun A i s Q E st h => let ⟨⟨_, he⟩, _⟩ := st; wpAny_pyIter_enum he h
end
end ShW

set_option Elab.async false
set_option linter.all false
set_option maxRecDepth 100000
set_option maxHeartbeats 4000000
/-! the loops' sources by their text, and by data -/
namespace ShW
open PySem PySem.Spec PyProof.Rows L2
section
variable {prog : Program} {w : World} {A : Around} {E : Value → Shared → Prop} {s : Shared} {P : Program} {K : PySem.W.Frag} {k k1 k2 : Kd} {a b it e z TI TO i1 i2 : Addr}
theorem next_zip {Q : Option Value → Shared → Prop} (hz : ZOk s.heap z TI TO) (h : wpAny (model prog w) A.in1 (Builtin.«zip.__next__» ⟨[.ref z], []⟩) (fun fin s' => ∃ v, fin = .done (.ret v) ∧ Q (some v) s') (fun _ _ => False) s) : wpAny (model prog w) A (pyNext (.ref z)) Q E s := by
  obtain ⟨f0, f1, _, hz⟩ := hz
  have ty : s.TypeIs (.ref z) "zip" := ⟨_, hz, rfl⟩
  unfold pyNext
  exact wpAny_bind (wpAny_attempt (wpAny_callSpecial?_slot (name := Str.ofString "__next__") ty PySem.F.slot_zip_next (wpAny_call_entry PySem.F.slot_zip_next ty PySem.F.entry_zip_next (wpAny_mono h (fun fin s' ⟨v, e, q⟩ => ⟨v, e, wpAny_pure q⟩) fun _ _ q => q.elim) (PySem.F.args_zip_next_1 _))))
theorem next_zip_end {Q : Option Value → Shared → Prop} (hz : ZOk s.heap z TI TO) (h : wpAny (model prog w) A.in1 (Builtin.«zip.__next__» ⟨[.ref z], []⟩) (fun _ _ => False) (fun x s' => (∃ a o, x = .ref a ∧ s'.heap.get? a = some o ∧ o.cls = .type "StopIteration") ∧ Q none s') s) : wpAny (model prog w) A (pyNext (.ref z)) Q E s := by
  obtain ⟨f0, f1, _, hz⟩ := hz
  have ty : s.TypeIs (.ref z) "zip" := ⟨_, hz, rfl⟩
  unfold pyNext
  refine wpAny_bind (wpAny_attempt (wpAny_callSpecial?_slot (name := Str.ofString "__next__") ty PySem.F.slot_zip_next (wpAny_call_entry PySem.F.slot_zip_next ty PySem.F.entry_zip_next (wpAny_mono h (fun fin s' q => q.elim) fun x s' ⟨⟨a, o, e1, e2, e3⟩, q⟩ => ?_) (PySem.F.args_zip_next_1 _))))
  subst e1
  exact wpAny_bind (wpAny_isInstance (T := "StopIteration") (b := true) ⟨o, e2, e3⟩ isSubtype_stop (wpAny_pure q))
theorem letgo_zip {elts : List Expr} {kk : Nat} {tpos : Pos} {T : Addr} {Q : Unit → Shared → Prop} (hz : ZOk s.heap z TI TO) (h : ∀ h', ZOk h' z TI TO → Heap.SameBut z s.heap h' → Q () { s with heap := h' }) : wpAny (model prog w) A (letOwnedTupleGo (.Tuple elts kk tpos) (.ref z) (.ref T)) Q E s := by
  obtain ⟨f0, f1, ef, hz⟩ := hz
  unfold letOwnedTupleGo
  refine wpAny_bind (wpAny_load hz ?_)
  show wpAny _ _ (if _ then _ else _) _ _ s
  split
  · refine wpAny_bind (wpAny_rule (wpAny_setField_rec hz (by simp) fun h' z' sb => ?_))
    exact h h' ⟨.none, f1, .inl rfl, z'⟩ sb
  · exact wpAny_pure (h s.heap ⟨f0, f1, ef, hz⟩ (Heap.SameBut.refl _ _))
theorem turn_zipK {elts : List Expr} {kk : Nat} {tpos : Pos} :
    Turn P w K (.Tuple elts kk tpos) (ItZ K k1 k2 a b) [z, TI, TO, i1, i2] z (fun i h => ZOk h z TI TO ∧ IsPair h TI (.ref i1) (.ref i2) ∧ (∃ x y, IsPair h TO x y) ∧ IterK h k1 i1 a i ∧ IterK h k2 i2 b i ∧ Apart z TI TO i1 i2 a b) where
  mem := by simp
  obj := (srcZ (P := P) (w := w) (K := K) (k1 := k1) (k2 := k2)).obj
  keep := (srcZ (P := P) (w := w) (K := K) (k1 := k1) (k2 := k2)).keep
  item := by
    intro X hP hw hK hc i pins s σ H E I hf ⟨e0, e1, e2, e3, e4, D⟩ ⟨xs, ys, x, y, qx, qy, hx, hy⟩
    subst hP hw hK
    obtain ⟨us, r1, p1⟩ := SqK.at I qx
    obtain ⟨vs, r2, p2⟩ := SqK.at I qy
    obtain ⟨u, hu, ru⟩ := r1.get hx
    obtain ⟨v, hv, rv⟩ := r2.get hy
    have l1 : i < us.toArray.size := by
      rw [List.size_toArray]
      exact (List.getElem?_eq_some_iff.mp hu).1
    have l2 : i < vs.toArray.size := by
      rw [List.size_toArray]
      exact (List.getElem?_eq_some_iff.mp hv).1
    have hd : X.A.in1.handled = none := I.ok.hd hc
    refine next_zip e0 (draw_item (i := i) D.s (drawsK (k := k1) hd D.a1 (xs := us.toArray)) (drawsK (k := k2) hd D.b2 (xs := vs.toArray)) e0 e1 e2 ⟨e3, p1⟩ ⟨e4, p2⟩ l1 l2 fun x1 x2 h1 tk hx1 hx2 z1 tO1 s1 s2 new big kp => ?_)
    have b1 : x1 = u := Option.some.inj (hx1.symm.trans (by simpa using hu))
    have b2 : x2 = v := Option.some.inj (hx2.symm.trans (by simpa using hv))
    subst b1 b2
    refine ⟨_, rfl, letgo_zip (s := { s with heap := h1, toks := tk }) z1 fun h' z' sb => ?_⟩
    replace sb : Heap.SameBut z h1 h' := sb
    have far : ∀ {c}, c ∉ [z, TI, TO, i1, i2] → c ≠ z ∧ c ∉ [z, TO, i1, i2] := fun {c} hc => by
      simp only [List.mem_cons, List.not_mem_nil, or_false, not_or] at hc ⊢
      exact ⟨hc.1, hc.1, hc.2.2.1, hc.2.2.2.1, hc.2.2.2.2⟩
    have kp' : ∀ c o, c ∉ [z, TI, TO, i1, i2] → s.heap.get? c = some o → h'.get? c = some o := fun c o hc q => sb.extBut c o (far hc).1 (kp c o (far hc).2 q)
    have nTI : TI ∉ [z, TO, i1, i2] := by
      simp only [List.mem_cons, List.not_mem_nil, or_false, not_or]
      exact ⟨D.s.TIz, D.s.TITO, D.s.TIi1, D.s.TIi2⟩
    have lz : z < s.heap.objs.size := by
      obtain ⟨_, _, _, q⟩ := e0
      exact Heap.lt_size q
    have new' := sb.extBut _ _ (Nat.ne_of_gt lz) new
    have ok : ObjOk X.prog X.w (upd H s.heap.objs.size (.tup [x, y])) h' s.heap.objs.size (.tup [x, y]) := ⟨by show 2 ≤ sizeLine; decide, [x1, x2], .cons ru (.cons rv .nil), ⟨_, new', rfl, _, rfl⟩⟩
    obtain ⟨p, q, tO⟩ := tO1
    refine ⟨.ref s.heap.objs.size, upd H s.heap.objs.size (.tup [x, y]), I.turnedNew (t' := tk) kp' hf (Nat.le_refl _) ok, rfl, ⟨_, x, y, rfl, I.hok.fresh (Nat.le_refl _), rfl, fun l hl => by rw [SqK.one I hl qx]; exact hx, fun l hl => by rw [SqK.one I hl qy]; exact hy⟩,
      ⟨z', sb.extBut _ _ D.s.TIz (kp _ _ nTI e1), ⟨p, q, sb.extBut _ _ D.s.TOz tO⟩, s1.1.keep fun o => sb.extBut _ o D.s.zi1.symm, s2.1.keep fun o => sb.extBut _ o D.s.zi2.symm, D⟩, fun c hc => ?_⟩
    obtain ⟨o, q, _⟩ := (srcZ (P := X.prog) (w := X.w) (K := X.K) (k1 := k1) (k2 := k2)).obj i s.heap ⟨e0, e1, e2, e3, e4, D⟩ c hc
    rw [upd_ne (Nat.ne_of_lt (Heap.lt_size q))]
    exact (hf c hc).1
  done := by
    intro X hP hw hK hc i pins s σ H E I hf ⟨e0, e1, e2, e3, e4, D⟩ ⟨xs, ys, qx, qy, hend⟩
    subst hP hw hK
    obtain ⟨us, r1, p1⟩ := SqK.at I qx
    obtain ⟨vs, r2, p2⟩ := SqK.at I qy
    have l1 : us.toArray.size = xs.length := by rw [List.size_toArray, r1.length]
    have l2 : vs.toArray.size = ys.length := by rw [List.size_toArray, r2.length]
    have hd : X.A.in1.handled = none := I.ok.hd hc
    refine next_zip_end e0 (draw_end (i := i) D.s (drawsK (k := k1) hd D.a1 (xs := us.toArray)) (drawsK (k := k2) hd D.b2 (xs := vs.toArray)) e0 e1 e2 ⟨e3, p1⟩ ⟨e4, p2⟩ (by omega) (by omega) (by omega) fun h' tk x kp ⟨o, q1, q2⟩ => ⟨⟨x, o, rfl, q1, q2⟩, rfl, ?_⟩)
    exact I.turnedL (t' := tk) (ch := [z, TI, TO, i1, i2]) (fun c o hc q => kp c o (fun y => hc (by
      simp only [List.mem_cons, List.not_mem_nil, or_false] at y ⊢
      rcases y with y | y | y | y <;> simp [y])) q) hf
  self := fun A i s Q E ⟨⟨_, _, _, q⟩, _⟩ h => iterZ q h
end
section
variable {X : Cx} {e e2 : Expr} {ta : TA} {p p2 pos pos2 tpos : Pos} {elts : List Expr} {kk : Nat} {k k1 k2 : Kd}
def iEnK (K : PySem.W.Frag) (k : Kd) (ta : TA) : TI := fun σ H R => ta σ H fun vs H1 => ∃ a xs, vs = [.ref a] ∧ SqK K k H1 a xs ∧ R (ItE (ItK K k a)) H1
def iZK (K : PySem.W.Frag) (k1 k2 : Kd) (ta : TA) : TI := fun σ H R => ta σ H fun vs H1 => ∃ a b xs ys, vs = [.ref a, .ref b] ∧ SqK K k1 H1 a xs ∧ SqK K k2 H1 b ys ∧ R (ItZ K k1 k2 a b) H1
def iEnZ (K : PySem.W.Frag) (k1 k2 : Kd) (ta : TA) : TI := fun σ H R => ta σ H fun vs H1 => ∃ a b xs ys, vs = [.ref a, .ref b] ∧ SqK K k1 H1 a xs ∧ SqK K k2 H1 b ys ∧ R (ItE (ItZ K k1 k2 a b)) H1
theorem pi_enK (hm : X.mg "enumerate" = none) (ha : PA X [e] ta) (hg : Gl X "enumerate" := by rfl) (hs : starEach [e] X.env = [(false, eval e X.env)] := by rfl) : PI X (.Tuple elts kk tpos) (.Call (.Name "enumerate" p) [e] [] pos) (iEnK X.K k ta) := by
  refine ⟨fun pins s σ H R I h => ?_⟩
  refine Call_ (ld_blt I hg hm boot_enumerate (PyProof.Rows.callWith_type1 (thn (ha.run pos pins s σ H _ I h) fun us s1 ⟨vs, H1, I1, r1, a, xs, ex, hq, q⟩ => ?_) hs rfl))
  subst ex
  rw [Vals.ref1 r1]
  obtain ⟨its, rv, p1⟩ := SqK.at I1 hq
  refine call_enumK p1 fun h' he hit kp => wpAny_pyIter_enum he ?_
  have lt := p1.lt
  refine ⟨s1.heap.objs.size + 1, [s1.heap.objs.size + 1, s1.heap.objs.size], _, _, H1, rfl, I1.kept (t' := s1.toks) kp, turn_enumS (srcK (it := s1.heap.objs.size) (k := k)) (by simp), ⟨⟨.none, he⟩, hit, Nat.ne_of_lt lt⟩, fun b hb => ?_, q⟩
  have le : s1.heap.objs.size ≤ b := by
    simp only [List.mem_cons, List.not_mem_nil, or_false] at hb
    rcases hb with rfl | rfl
    · exact Nat.le_add_right _ _
    · exact Nat.le_refl _
  exact I1.fpOk le (I1.hok.fresh le)
theorem zip_le {N c : Nat} (hc : c ∈ [N + 4, N + 2, N + 3, N, N + 1]) : N ≤ c := by
  simp only [List.mem_cons, List.not_mem_nil, or_false] at hc
  omega
theorem pi_zK (hm : X.mg "zip" = none) (ha : PA X [e, e2] ta) (hg : Gl X "zip" := by rfl) (hs : starEach [e, e2] X.env = (false, eval e X.env) :: starEach [e2] X.env := by rfl) (hpl : (backTo pos (starEach [e2] X.env)).any (·.1) = false := by rfl) :
    PI X (.Tuple elts kk tpos) (.Call (.Name "zip" p) [e, e2] [] pos) (iZK X.K k1 k2 ta) := by
  refine ⟨fun pins s σ H R I h => ?_⟩
  refine Call_ (ld_blt I hg hm PyProof.Rows.boot_zip (PyProof.Rows.callWith_type1 (thn (ha.run pos pins s σ H _ I h) fun us s1 ⟨vs, H1, I1, r1, a, b, xs, ys, ex, qx, qy, q⟩ => ?_) hs hpl))
  subst ex
  obtain ⟨u1, u2, rfl, r1, r2⟩ := vals2 r1
  cases r1
  cases r2
  obtain ⟨us, _, p1⟩ := SqK.at I1 qx
  obtain ⟨vs, _, p2⟩ := SqK.at I1 qy
  refine call_zipK p1 p2 fun h' z kp => iterZ z.z ?_
  exact ⟨s1.heap.objs.size + 4, [s1.heap.objs.size + 4, s1.heap.objs.size + 2, s1.heap.objs.size + 3, s1.heap.objs.size, s1.heap.objs.size + 1], _, _, H1, rfl, I1.kept (t' := s1.toks) kp, turn_zipK, ⟨⟨_, _, .inl rfl, z.z⟩, z.tI, ⟨_, _, z.tO⟩, z.i1, z.i2, apart_new p1.lt p2.lt⟩, fun c hc => I1.fpOk (zip_le hc) (I1.hok.fresh (zip_le hc)), q⟩
theorem pi_enZ (hm : X.mg "enumerate" = none) (hm2 : X.mg "zip" = none) (ha : PA X [e, e2] ta) (hg : Gl X "enumerate" := by rfl) (hg2 : Gl X "zip" := by rfl) (hs : starEach [e, e2] X.env = (false, eval e X.env) :: starEach [e2] X.env := by rfl) (hpl : (backTo pos2 (starEach [e2] X.env)).any (·.1) = false := by rfl)
    (hs1 : starEach [.Call (.Name "zip" p2) [e, e2] [] pos2] X.env = [(false, eval (.Call (.Name "zip" p2) [e, e2] [] pos2) X.env)] := by rfl) :
    PI X (.Tuple elts kk tpos) (.Call (.Name "enumerate" p) [.Call (.Name "zip" p2) [e, e2] [] pos2] [] pos) (iEnZ X.K k1 k2 ta) := by
  refine ⟨fun pins s σ H R I h => ?_⟩
  refine Call_ (ld_blt I hg hm boot_enumerate (PyProof.Rows.callWith_type1 ?_ hs1 rfl))
  rw [hs1]
  show wpAny _ _ (spliced ((false, eval (.Call (.Name "zip" p2) [e, e2] [] pos2) X.env) :: backTo pos [])) _ _ s
  refine Calls.spliced_cons ?_
  refine Call_ (ld_blt I hg2 hm2 PyProof.Rows.boot_zip (PyProof.Rows.callWith_type1 (thn (ha.run pos2 pins s σ H _ I h) fun us s1 ⟨vs, H1, I1, r1, a, b, xs, ys, ex, qx, qy, q⟩ => ?_) hs hpl))
  subst ex
  obtain ⟨u1, u2, rfl, r1, r2⟩ := vals2 r1
  cases r1
  cases r2
  obtain ⟨us, _, p1⟩ := SqK.at I1 qx
  obtain ⟨vs, _, p2⟩ := SqK.at I1 qy
  refine call_zipK p1 p2 fun h1 z kp => Calls.spliced_nil (call_enumZ (s := { s1 with heap := h1 }) z.z fun h2 he kp2 => wpAny_pyIter_enum he ?_)
  replace he : IsEnum h2 h1.objs.size (s1.heap.objs.size + 4) 0 .none := he
  replace kp2 : ∀ c o, h1.get? c = some o → h2.get? c = some o := kp2
  rw [z.sz] at he
  have up : ∀ {k : Kd} {it a : Addr} {i : Nat}, IterK h1 k it a i → IterK h2 k it a i := fun x => x.keep fun o e => kp2 _ o e
  show PIE X pins σ _ _ (.ref h1.objs.size) _
  rw [z.sz]
  refine ⟨s1.heap.objs.size + 5, [s1.heap.objs.size + 5, s1.heap.objs.size + 4, s1.heap.objs.size + 2, s1.heap.objs.size + 3, s1.heap.objs.size, s1.heap.objs.size + 1], _, _, H1, rfl, I1.kept (t' := s1.toks) fun c o x => kp2 _ _ (kp c o x), turn_enumS (srcZ (k1 := k1) (k2 := k2) (z := s1.heap.objs.size + 4) (TI := s1.heap.objs.size + 2) (TO := s1.heap.objs.size + 3) (i1 := s1.heap.objs.size) (i2 := s1.heap.objs.size + 1)) (fun m => ?_), ⟨⟨.none, he⟩, ⟨_, _, .inl rfl, kp2 _ _ z.z⟩, kp2 _ _ z.tI, ⟨_, _, kp2 _ _ z.tO⟩, up z.i1, up z.i2, apart_new p1.lt p2.lt⟩, fun c hc => ?_, q⟩
  · simp only [List.mem_cons, List.not_mem_nil, or_false] at m
    have m' : ∀ {x y : Nat}, (x : Addr) = y → x = y := fun h => h
    rcases m with m | m | m | m | m <;> · have := m' m; omega
  · have le : s1.heap.objs.size ≤ c := by
      rcases List.mem_cons.mp hc with rfl | hc
      · exact Nat.le_add_right _ _
      · exact zip_le hc
    exact I1.fpOk le (I1.hok.fresh le)
end
end ShW

set_option Elab.async false
set_option linter.all false
set_option maxRecDepth 100000
set_option maxHeartbeats 4000000
/-! the loops' sources, by data -/
namespace Sh
open PySem PySem.Spec L2
open Evl (Ex)
open ShW (Kd SqK ItK ItZ ItE iEnK iZK iEnZ)
def seqD : Kd → List D → D
  | .t, ds => .tuple ds
  | .l, ds => .list ds
/-- numbered -/
def enumD (ds : List D) : List D := ds.zipIdx.map fun p => .tuple [.int (p.2 : Nat), p.1]
theorem enumD_len (ds : List D) : (enumD ds).length = ds.length := by
  unfold enumD
  rw [List.length_map, List.length_zipIdx]
theorem enumD_at {ds : List D} {i : Nat} {d : D} (h : ds[i]? = some d) : (enumD ds)[i]? = some (.tuple [.int (i : Nat), d]) := by
  unfold enumD
  rw [List.getElem?_map, List.getElem?_zipIdx, h]
  show some (PyData.tuple [.int ((0 + i : Nat) : Int), d]) = _
  rw [Nat.zero_add]
section
variable {K : PySem.W.Frag} {σ : L2.St} {G : Hp} {ar : TA} {k k1 k2 : Kd}
theorem sq_of {G2 H : Hp} {v : V} {ds : List D} (n : Dn G2 v (seqD k ds)) (e : Ex G2 H) : ∃ a xs, v = .ref a ∧ SqK K k H a xs ∧ DnL G2 xs ds ∧ ∀ H', Ex G2 H' → SqK K k H' a xs := by
  cases k with
  | t =>
    cases n with
    | tup h1 h2 => exact ⟨_, _, rfl, .inl (rdx e h1), h2, fun H' e' => .inl (rdx e' h1)⟩
  | l =>
    cases n with
    | lst h1 h2 => exact ⟨_, _, rfl, .inl (.inl (e _ _ h1)), h2, fun H' e' => .inl (.inl (e' _ _ h1))⟩
theorem sq_one {H : Hp} {a : Addr} {xs ys : List V} {J : Prop} (f : (∀ ys : List V, SqK K k H a ys → J)) (h : SqK K k H a xs) : J := f xs h
theorem walk_K {a : Addr} {xs : List V} {ds : List D} (h : ∀ H', Ex G H' → SqK K k H' a xs) (n : DnL G xs ds) : WalkD (ItK K k a) G ds where
  go := fun i H hi e => by
    have lt : i < xs.length := by rw [n.length]; exact hi
    exact ⟨xs, xs[i], h H e, List.getElem?_eq_getElem lt⟩
  stop := fun H e => ⟨xs, h H e, n.length.symm⟩
  yld := fun i H x H' hi e ⟨e1, e2⟩ => by
    subst e1
    obtain ⟨d, h1, h2⟩ := n.att (e2 xs (h H' e))
    exact ⟨G, d, Gr.refl e, h1, h2⟩
theorem walk_Z {a b : Addr} {xs ys : List V} {ds es : List D} (h : ∀ H', Ex G H' → SqK K k1 H' a xs) (n : DnL G xs ds) (h2 : ∀ H', Ex G H' → SqK K k2 H' b ys) (n2 : DnL G ys es) : WalkD (ItZ K k1 k2 a b) G (zipD ds es) where
  go := fun i H hi e => by
    rw [zipD_len, ← n.length, ← n2.length] at hi
    have l1 : i < xs.length := by omega
    have l2 : i < ys.length := by omega
    exact ⟨xs, ys, xs[i], ys[i], h H e, h2 H e, List.getElem?_eq_getElem l1, List.getElem?_eq_getElem l2⟩
  stop := fun H e => ⟨xs, ys, h H e, h2 H e, by rw [zipD_len, ← n.length, ← n2.length]⟩
  yld := fun i H v H' hi e ⟨T, x, y, e1, hT, e2, q1, q2⟩ => by
    subst e1 e2
    obtain ⟨d1, e1, m1⟩ := n.att (q1 xs (h H e))
    obtain ⟨d2, e2, m2⟩ := n2.att (q2 ys (h2 H e))
    have fr := Ex.new (o := HO.tup [x, y]) (Evl.fresh_back e hT)
    exact ⟨upd G T (.tup [x, y]), _, Gr.new e hT, zipD_at e1 e2, .tup (.inl upd_same) (.cons (Dn.mono fr _ m1) (.cons (Dn.mono fr _ m2) .nil))⟩
theorem walk_E {J : It} {ds : List D} (w : WalkD J G ds) : WalkD (ItE J) G (enumD ds) where
  go := fun i H hi e => w.go i H (by rw [enumD_len] at hi; exact hi) e
  stop := fun H e => by
    rw [enumD_len]
    exact w.stop H e
  yld := fun i H v H' hi e ⟨T, x, H1, y, e1, hT, e2⟩ => by
    subst e1 e2
    rw [enumD_len] at hi
    obtain ⟨G2, d, g, h1, h2⟩ := w.yld i H x H1 hi e y
    have fr := Ex.new (o := HO.tup [.int (i : Nat), x]) (Evl.fresh_back g.s hT)
    exact ⟨upd G2 T (.tup [.int (i : Nat), x]), _, g.trans (Gr.new g.s hT), enumD_at h1, .tup (.inl upd_same) (.cons (.int _) (.cons (Dn.mono fr _ h2) .nil))⟩
theorem ei_enK {ds : List D} (h : EvA ar σ G [seqD k ds]) : EvI (iEnK K k ar) σ G (enumD ds) := fun H e R r => h H e _ fun vs G2 H2 g n => by
  obtain ⟨v, rfl, n1⟩ := one_of n
  obtain ⟨a, xs, rfl, q, m, st⟩ := sq_of n1 g.s
  exact ⟨a, xs, rfl, q, r _ G2 H2 g (walk_E (walk_K st m))⟩
theorem ei_zK {ds es : List D} (h : EvA ar σ G [seqD k1 ds, seqD k2 es]) : EvI (iZK K k1 k2 ar) σ G (zipD ds es) := fun H e R r => h H e _ fun vs G2 H2 g n => by
  obtain ⟨v, w, rfl, n1, n2⟩ := two_of n
  obtain ⟨a, xs, rfl, q, m, st⟩ := sq_of n1 g.s
  obtain ⟨b, ys, rfl, q2, m2, st2⟩ := sq_of n2 g.s
  exact ⟨a, b, xs, ys, rfl, q, q2, r _ G2 H2 g (walk_Z st m st2 m2)⟩
theorem ei_enZ {ds es : List D} (h : EvA ar σ G [seqD k1 ds, seqD k2 es]) : EvI (iEnZ K k1 k2 ar) σ G (enumD (zipD ds es)) := fun H e R r => h H e _ fun vs G2 H2 g n => by
  obtain ⟨v, w, rfl, n1, n2⟩ := two_of n
  obtain ⟨a, xs, rfl, q, m, st⟩ := sq_of n1 g.s
  obtain ⟨b, ys, rfl, q2, m2, st2⟩ := sq_of n2 g.s
  exact ⟨a, b, xs, ys, rfl, q, q2, r _ G2 H2 g (walk_E (walk_Z st m st2 m2))⟩
end
end Sh

set_option Elab.async false
set_option linter.all false
set_option maxRecDepth 100000
set_option maxHeartbeats 4000000
/-! one object that changes, beside what stands still -/
namespace Sh
open PySem PySem.Spec L2
open Evl (Ex)
def del (G : Hp) (p : Addr) : Hp := fun a => if a = p then none else G a
theorem del_same {G : Hp} {p : Addr} : del G p p = none := by
  unfold del
  rw [if_pos rfl]
theorem del_ne {G : Hp} {p a : Addr} (h : a ≠ p) : del G p a = G a := by
  unfold del
  rw [if_neg h]
/-- growth but for the object at p, which is not of what stands still -/
structure Gm (p : Addr) (G H G2 H2 : Hp) : Prop where
  g : Ex G G2
  s : Ex G2 H2
  h : ∀ a o, a ≠ p → H a = some o → H2 a = some o
  f : ∀ a, G a = none → H a ≠ none → G2 a = none
  n : G2 p = none
section
variable {p : Addr} {G H G2 H2 G3 H3 : Hp} {o : HO}
theorem Gm.start (e : Ex G H) (hp : H p = none) : Gm p G H G (upd H p o) := ⟨Ex.refl _, e.trans (Ex.new hp), fun a u ha q => (by
  rw [upd_ne ha]
  exact q), fun _ h _ => h, Evl.fresh_back e hp⟩
theorem Gm.step (a : Gm p G H G2 H2) (hp : H2 p = some o) (b : Gr G2 H2 G3 H3) : Gm p G H G3 H3 ∧ H3 p = some o := by
  have ne : H2 p ≠ none := fun z => by
    rw [hp] at z
    cases z
  refine ⟨⟨a.g.trans b.g, b.s, fun x u hx q => b.h _ _ (a.h x u hx q), fun x h1 h2 => ?_, b.f p a.n ne⟩, b.h _ _ hp⟩
  by_cases hx : x = p
  · subst hx
    exact b.f x a.n ne
  · refine b.f x (a.f x h1 h2) fun z => ?_
    cases q : H x with
    | none => exact h2 q
    | some u =>
      have z2 := a.h x u hx q
      rw [z] at z2
      cases z2
theorem Gm.put (a : Gm p G H G2 H2) : Gm p G H G2 (upd H2 p o) := ⟨a.g, Ex.mut a.s a.n, fun x u hx q => (by
  rw [upd_ne hx]
  exact a.h x u hx q), a.f, a.n⟩
/-- what it has become stands still now -/
theorem Gm.close (a : Gm p G H G2 H2) (hp : H p = none) (h2 : H2 p = some o) : Gr G H (upd G2 p o) H2 := ⟨a.g.trans (Ex.new a.n), Ex.lend a.s h2, fun x u q => a.h x u (fun z => by
  rw [z, hp] at q
  cases q) q, fun x h1 h3 => by
  have hx : x ≠ p := fun z => h3 (by rw [z]; exact hp)
  rw [upd_ne hx]
  exact a.f x h1 h3⟩
theorem Gm.drop (a : Gm p G H G2 H2) (hp : H p = none) : Gr G H G2 H2 := ⟨a.g, a.s, fun x u q => a.h x u (fun z => by
  rw [z, hp] at q
  cases q) q, a.f⟩
theorem Gr.unlend (n : G p = none) (b : Gr (upd G p o) H G3 H3) : Gr G H (del G3 p) H3 := ⟨fun a u q => by
  have ha : a ≠ p := fun z => by
    rw [z, n] at q
    cases q
  rw [del_ne ha]
  exact b.g a u (by rw [upd_ne ha]; exact q), fun a u q => by
  by_cases ha : a = p
  · rw [ha, del_same] at q
    cases q
  · rw [del_ne ha] at q
    exact b.s a u q, b.h, fun a h1 h2 => by
  by_cases ha : a = p
  · rw [ha]
    exact del_same
  · rw [del_ne ha]
    exact b.f a (by rw [upd_ne ha]; exact h1) h2⟩
mutual
theorem Dn.undk {kvs : List (Key × V)} (e : G p = some (.dK kvs)) : ∀ (d : D) {v : V}, flatD d = true → Dn G v d → Dn (del G p) v d
  | .none, _, _, h => by cases h; exact .non
  | .bool b, _, _, h => by cases h; exact .bl b
  | .int i, _, _, h => by cases h; exact .int i
  | .str x, _, _, h => by cases h; exact .str x
  | .list ds, _, f, h => by
    cases h with
    | @lst a _ _ h1 h2 =>
      have ha : a ≠ p := fun z => by
        rw [z, e] at h1
        cases h1
      exact .lst (by rw [del_ne ha]; exact h1) (DnL.undk e ds (by unfold flatD at f; exact f) h2)
  | .tuple ds, _, f, h => by
    cases h with
    | @tup a _ _ h1 h2 =>
      have ha : a ≠ p := fun z => by
        rcases h1 with h1 | ⟨o, h1⟩
        · rw [z, e] at h1
          cases h1
        · rw [z, e] at h1
          cases h1
      exact .tup (by unfold Rd at h1 ⊢; rw [del_ne ha]; exact h1) (DnL.undk e ds (by unfold flatD at f; exact f) h2)
  | .dict ps, _, f, h => by
    unfold flatD at f
    cases f
theorem DnL.undk {kvs : List (Key × V)} (e : G p = some (.dK kvs)) : ∀ (ds : List D) {vs : List V}, flatDs ds = true → DnL G vs ds → DnL (del G p) vs ds
  | [], _, _, h => by cases h; exact .nil
  | d :: ds, _, f, h => by
    unfold flatDs at f
    rw [Bool.and_eq_true] at f
    cases h with
    | cons h1 h2 => exact .cons (Dn.undk e d f.1 h1) (DnL.undk e ds f.2 h2)
end
theorem flat_ints : ∀ (xs : List Int), flatDs (intL xs) = true
  | [] => rfl
  | x :: xs => by
    show (flatD (.int x) && flatDs (intL xs)) = true
    rw [flat_ints xs]
    rfl
theorem DnK.snoc {kvs : List (Key × V)} {ps : List (D × D)} {x : Str} {v : V} {d : D} (h : DnK G kvs ps) (n : Dn G v d) : DnK G (kvs ++ [(.inr x, v)]) (ps ++ [(.str x, d)]) := by
  induction ps generalizing kvs with
  | nil =>
    cases h
    exact .cons n .nil
  | cons q ps ih =>
    cases h with
    | cons h1 h2 => exact .cons h1 (ih h2)
theorem DnK.len {kvs : List (Key × V)} {ps : List (D × D)} (h : DnK G kvs ps) : kvs.length = ps.length := by
  induction ps generalizing kvs with
  | nil =>
    cases h
    rfl
  | cons q ps ih =>
    cases h with
    | cons h1 h2 =>
      rw [List.length_cons, List.length_cons, ih h2]
/-- a key that is not there yet -/
theorem putK_new {kvs : List (Key × V)} {ps : List (D × D)} {x : Str} {v : V} (h : DnK G kvs ps) (n : lookD ps x = none) : putK kvs (.inr x) v = kvs ++ [(.inr x, v)] := by
  have z : (kvs.any fun kv => decide (kv.1 = (Sum.inr x : Key))) = false := by
    induction ps generalizing kvs with
    | nil =>
      cases h
      rfl
    | cons q ps ih =>
      cases h with
      | @cons y u kvs' d _ h1 h2 =>
        by_cases hy : y = x
        · subst hy
          unfold lookD at n
          rw [List.find?_cons_of_pos (by simp)] at n
          cases n
        · have n2 : lookD ps x = none := by
            unfold lookD at n ⊢
            rw [List.find?_cons_of_neg (by simpa using hy)] at n
            exact n
          rw [List.any_cons, ih h2 n2, Bool.or_false]
          simpa using hy
  unfold putK
  rw [if_neg (by rw [z]; decide)]
end
end Sh

set_option Elab.async false
set_option linter.all false
set_option maxRecDepth 100000
set_option maxHeartbeats 4000000
/-! sorted lists of pairs of ints; an item of a list, written in place -/
namespace Sh
open PySem PySem.Spec PyProof.Rows L2
open Evl (Ex)
/-- sorted(xs), xs of pairs of ints, whatever holds them -/
def rSortedR (K : PySem.W.Frag) : List V → Hp → VK → Prop := fun vs H Q => ∃ (a : Addr) (xs : List V) (k : V → Int × Int), vs = [V.ref a] ∧ SqL K H a xs ∧ (∀ x ∈ xs, ∃ t, x = V.ref t ∧ SqT K H t [.int (k x).1, .int (k x).2]) ∧
  ∀ ys p, SrtO.Srtd (ltP k) ys → SrtO.Stb (ltP k) ys xs → H p = none → Q (.ref p) (upd H p (.lst ys))
theorem cr_sortedR {X : Cx} : CallR X (.builtin "sorted") (rSortedR X.K) := by
  intro pins s σ H vs us Q I r h
  obtain ⟨a, xs, k, rfl, hs, hx, q⟩ := h
  obtain ⟨its, rv, hl, hz⟩ := I.list hs
  obtain ⟨u, rfl, ru⟩ := vals1 r
  obtain rfl : u = Value.ref a := ru
  obtain ⟨e1, e2⟩ := refs_back rv fun x m => (hx x m).imp fun _ z => z.1
  have mem : ∀ {t : Addr}, Value.ref t ∈ its → V.ref t ∈ xs := fun hv => by rw [e1]; exact List.mem_map.mpr ⟨_, hv, rfl⟩
  refine SrtO.sorted_pairsO (k := fun u => k (backV u)) hl.isList (by rw [← rv.length]; exact hz) (fun v hv => ?_) fun h' d out h1 h2 kp hd hn => ?_
  · obtain ⟨t, rfl⟩ := e2 v hv
    obtain ⟨t', et, ht⟩ := hx _ (mem hv)
    cases et
    obtain ⟨us, r2, ⟨o, ho, hc, n, hd⟩, _⟩ := I.tuple ht
    obtain ⟨u1, u2, rfl, ⟨t1, rfl⟩, ⟨t2, rfl⟩⟩ := vals2 r2
    exact ⟨t, o, t1, t2, n, rfl, ho, hc, hd⟩
  · have h3 : ∀ u ∈ out, ∃ a, u = Value.ref a := fun u hu => e2 u (h2.perm.mem_iff.mp hu)
    obtain ⟨n, hn⟩ := hn
    have hb : SrtO.Stb (ltP k) (out.map backV) xs := e1 ▸ SrtO.Stb.map (ltP_swo k) backV h2
    exact ⟨.ref d, upd H d (.lst (out.map backV)), I.laid (t' := s.toks) kp hd ⟨by rw [hb.len]; exact hz, out, n, vals_back h3, hn⟩, rfl, q _ d (SrtO.srtd_map h1) hb (I.hok.fresh hd)⟩
/-- xs[i], read ahead of xs[i] += .. -/
theorem pget_list {X : Cx} : PGet X (rIxL X.K) := by
  intro pins s σ H o i ov iv Q I ro ri h
  obtain ⟨p, xs, k, z, rfl, rfl, hq, he, q⟩ := h
  cases ro
  obtain ⟨t, rfl⟩ := ri
  obtain ⟨its, r, pl, _⟩ := I.list hq
  obtain ⟨j, b1, b2, b3, b4, b5⟩ := atI_get he
  obtain ⟨w, ew, rw'⟩ := r.get b2
  have len := r.length
  have big := line63
  have fin : EP X pins σ Q w s := ⟨z, H, I, rw', q⟩
  by_cases low : 0 ≤ k
  · have at1 : k.toNat = j := by
      rw [seqIndex_of low b5] at b1
      exact Option.some.inj b1
    exact wpAny_getItem_list pl.isList low (by omega) (by rw [at1]; simpa using ew) fin
  · have at1 : (k + (its.toArray.size : Int)).toNat = j := by
      rw [seqIndex_neg (by omega) b4] at b1
      rw [List.size_toArray, ← len]
      exact Option.some.inj b1
    exact wpAny_getItem_list_neg pl.isList (by omega) (by rw [List.size_toArray] <;> omega) (by omega) (by rw [at1]; simpa using ew) fin
end Sh
namespace ShW
open PySem PySem.Spec PyProof.Rows L2
theorem preSum_at (ns : List Int) : ∀ n, n ≤ ns.length → preSum (fun i => ns.getD i 0) n = (ns.take n).sum
  | 0, _ => rfl
  | n + 1, h => by
    have at1 : ns[n]? = some ns[n] := List.getElem?_eq_getElem h
    show preSum (fun i => ns.getD i 0) n + ns.getD n 0 = _
    rw [preSum_at ns n (by omega), List.take_succ, at1, List.getD_eq_getElem?_getD, at1, List.sum_append]
    simp
theorem ints_at {ns : List Int} {us : List Value} (r : Vals (ns.map V.int) us) {i : Nat} {v : Value} (h : us[i]? = some v) : ∃ t, v = .int (ns.getD i 0) t := by
  induction ns generalizing us i with
  | nil =>
    cases r
    simp at h
  | cons n ns ih =>
    cases r with
    | cons r1 r2 =>
      cases i with
      | zero =>
        obtain ⟨t, e⟩ := r1
        have e' : v = _ := (by simpa using h.symm)
        exact ⟨t, by rw [e', e] <;> rfl⟩
      | succ i => exact ih r2 (by simpa using h)
/-- sum(x), x a list or a tuple of ints -/
def rSumK (K : PySem.W.Frag) (k : Kd) : List V → Hp → VK → Prop := fun vs H Q => ∃ (a : Addr) (ns : List Int), vs = [V.ref a] ∧ SqK K k H a (ns.map V.int) ∧ Q (.int ns.sum) H
theorem walksK {prog : Program} {w : World} {A : Around} {k : Kd} {it a : Addr} {xs : Array Value} (hh : A.handled = none) (hne : a ≠ it) : Walks prog w A it [it, a] [it] xs.size (fun i v => xs[i]? = some v) (fun i h => IterK h k it a i ∧ SeqK h k a xs) := by
  cases k with
  | t => exact Walks.tuple hh it a hne xs
  | l => exact Walks.list hh it a hne xs
theorem cr_sumK {X : Cx} {k : Kd} (hc : X.calm = true) : CallR X (.builtin "sum") (rSumK X.K k) := by
  intro pins s σ H vs us Q I r h
  obtain ⟨a, ns, rfl, hs, q⟩ := h
  obtain ⟨its, rv, p⟩ := SqK.at I hs
  rw [Vals.ref1 r]
  have lt := p.lt
  have len : its.length = ns.length := by rw [← rv.length, List.length_map]
  refine call_sum_walkG (iterK p ⟨s.heap.objs.size, [s.heap.objs.size, a], [s.heap.objs.size], its.toArray.size, _, _, fun i => ns.getD i 0, rfl, walksK (I.ok.hd hc) (Nat.ne_of_lt lt), ⟨⟨_, Heap.get?_push_size _ rfl, rfl, rfl⟩, p.push⟩, fun b hb => ?_, fun i v hv => ints_at rv (by simpa using hv), fun h' tk t' kp => ?_⟩)
  · show b < (s.heap.push _).objs.size
    rw [Heap.size_push]
    rcases List.mem_cons.mp hb with rfl | hb
    · exact Nat.lt_succ_self _
    · rw [List.mem_singleton.mp hb]
      exact Nat.lt_succ_of_lt lt
  · have kp' : ∀ b u, s.heap.get? b = some u → h'.get? b = some u := fun b u e => kp b u (fun m => Nat.ne_of_lt (Heap.lt_size e) (List.mem_singleton.mp m)) (Heap.get?_push_of_some _ e)
    have e : preSum (fun i => ns.getD i 0) its.toArray.size = ns.sum := by rw [List.size_toArray, len, preSum_at ns _ (Nat.le_refl _), List.take_length]
    rw [e]
    exact ⟨.int _, H, I.kept (t' := tk) kp', ⟨_, rfl⟩, q⟩
end ShW
namespace Sh
open PySem PySem.Spec L2
open Evl (Ex)
open ShW (Kd SqK rSumK)
section
variable {K : PySem.W.Frag} {σ : L2.St} {G : Hp} {te : TE} {ar : TA}
theorem r_sumK {k : Kd} {ns : List Int} {z : Int} (hz : ns.sum = z) : RCD (rSumK K k) [seqD k (intL ns)] (.int z) G := fun G1 H vs _ ex h Q q => by
  obtain ⟨v, rfl, n⟩ := one_of h
  obtain ⟨a, xs, rfl, sq, m, _⟩ := sq_of n ex
  have e1 := dn_ints m
  subst e1
  refine ⟨a, ns, rfl, sq, ?_⟩
  rw [hz]
  exact q _ G1 H (Gr.refl ex) (.int _)
/-- xs[:n], a new list -/
theorem evo_cut {ds : List D} {n : Nat} {tb : TE} (h : EvD te σ G (.list ds)) (k : EvD tb σ G (.int (n : Nat))) : EvO (tSl (rSlL K) te tNoPart (tPart tb)) σ G (ds.take n) := fun H e Q q =>
  h H e _ fun v G2 H2 g m => k.mono g.g H2 g.s _ fun u G3 H3 g2 m2 => by
    cases m2
    have m3 := Dn.mono g2.g _ m
    cases m3 with
    | lst h1 h2 =>
      rename_i a xs
      refine ⟨_, rfl, a, xs, rfl, .inl (.inl (g2.s _ _ h1)), fun p hp => ?_⟩
      have gg := g.trans g2
      have e1 : cutV xs none (some (n : Nat)) = xs.take n := by
        unfold cutV
        rw [HT.sIx_none, HT.sIx_nat, List.drop_zero, Nat.sub_zero]
        by_cases hn : n ≤ xs.length
        · rw [Nat.min_eq_left hn]
        · rw [Nat.min_eq_right (by omega), List.take_length, List.take_of_length_le (by omega)]
      rw [e1]
      refine q p _ G3 _ ⟨gg.g, gg.s.trans (Ex.new hp), gg.h.trans (Ex.new hp), gg.f⟩ (gg.old hp) (Evl.fresh_back gg.s hp) upd_same ?_
      have : ∀ {vs : List V} {es : List D} (j : Nat), DnL G3 vs es → DnL G3 (vs.take j) (es.take j) := fun {vs es} j => by
        induction es generalizing vs j with
        | nil => intro z; cases z; simp; exact .nil
        | cons d es ih =>
          intro z
          cases z with
          | cons z1 z2 =>
            cases j with
            | zero => exact .nil
            | succ j => exact .cons z1 (ih j z2)
      exact this n h2
end
/-! what stands still without p: data of tuples and scalars does not lean on a list or a dict at p -/
mutual
def tupD : D → Bool
  | .dict _ => false
  | .list _ => false
  | .tuple ds => tupDs ds
  | _ => true
def tupDs : List D → Bool
  | [] => true
  | d :: ds => tupD d && tupDs ds
end
section
variable {G : Hp} {p : Addr}
mutual
theorem Dn.unp (np : ∀ ys, ¬ Rd G p (.tup ys)) : ∀ (d : D) {v : V}, tupD d = true → Dn G v d → Dn (del G p) v d
  | .none, _, _, h => by cases h; exact .non
  | .bool b, _, _, h => by cases h; exact .bl b
  | .int i, _, _, h => by cases h; exact .int i
  | .str x, _, _, h => by cases h; exact .str x
  | .list ds, _, f, h => by
    unfold tupD at f
    cases f
  | .dict ps, _, f, h => by
    unfold tupD at f
    cases f
  | .tuple ds, _, f, h => by
    cases h with
    | @tup a _ _ h1 h2 =>
      have ha : a ≠ p := fun z => np _ (by rw [← z]; exact h1)
      exact .tup (by unfold Rd at h1 ⊢; rw [del_ne ha]; exact h1) (DnL.unp np ds (by unfold tupD at f; exact f) h2)
theorem DnL.unp (np : ∀ ys, ¬ Rd G p (.tup ys)) : ∀ (ds : List D) {vs : List V}, tupDs ds = true → DnL G vs ds → DnL (del G p) vs ds
  | [], _, _, h => by cases h; exact .nil
  | d :: ds, _, f, h => by
    unfold tupDs at f
    rw [Bool.and_eq_true] at f
    cases h with
    | cons h1 h2 => exact .cons (Dn.unp np d f.1 h1) (DnL.unp np ds f.2 h2)
end
theorem no_tup {o : HO} (h : G p = some o) (ht : ∀ ys, o ≠ .tup ys) (hf : ∀ u ys, o ≠ .frz u (.tup ys)) : ∀ ys, ¬ Rd G p (.tup ys) := fun ys z => by
  rcases z with z | ⟨u, z⟩
  · rw [h] at z
    exact ht ys (Option.some.inj z)
  · rw [h] at z
    exact hf u ys (Option.some.inj z)
end
section
variable {K : PySem.W.Frag} {σ : L2.St} {G : Hp} {te : TE} {ar : TA} {d : D} {p : Addr} {o : HO}
/-- an expression that reads the changing object at p -/
theorem EvD.lent {H : Hp} {Q : VK} (h : EvD te σ (upd G p o) d) (e : Ex G H) (n : G p = none) (hp : H p = some o) (ht : ∀ ys, o ≠ .tup ys) (hf : ∀ u ys, o ≠ .frz u (.tup ys)) (f : tupD d = true) (q : ∀ v G2 H2, Gr G H G2 H2 → Dn G2 v d → Q v H2) : te σ H Q :=
  h H (Ex.lend e hp) Q fun v G2 H2 g m => q v (del G2 p) H2 (Gr.unlend n g) (m.unp (no_tup (g.g _ _ upd_same) ht hf) d f)
theorem EvO.lent {ds : List D} {H : Hp} {Q : VK} (h : EvO te σ (upd G p o) ds) (e : Ex G H) (n : G p = none) (hp : H p = some o) (ht : ∀ ys, o ≠ .tup ys) (hf : ∀ u ys, o ≠ .frz u (.tup ys)) (f : tupDs ds = true) (q : ∀ l xs G2 H2, Gr G H G2 H2 → H l = none → G2 l = none → H2 l = some (.lst xs) → DnL G2 xs ds → Q (.ref l) H2) : te σ H Q :=
  h H (Ex.lend e hp) Q fun l xs G2 H2 g hl nl h2 m => q l xs (del G2 p) H2 (Gr.unlend n g) hl (by
    by_cases z : l = p
    · rw [z]
      exact del_same
    · rw [del_ne z]
      exact nl) h2 (DnL.unp (no_tup (g.g _ _ upd_same) ht hf) ds f m)
theorem EvT.lent {tt : TT} {b : Bool} {H : Hp} {Q : Bool → Hp → Prop} (h : EvT tt σ (upd G p o) b) (e : Ex G H) (n : G p = none) (hp : H p = some o) (q : ∀ G2 H2, Gr G H G2 H2 → Q b H2) : tt σ H Q :=
  h H (Ex.lend e hp) Q fun G2 H2 g => q (del G2 p) H2 (Gr.unlend n g)
def pairZ (q : Int × Int) : D := .tuple [.int q.1, .int q.2]
theorem pair_dn {G : Hp} {v : V} {q : Int × Int} (h : Dn G v (pairZ q)) : ∃ t, v = .ref t ∧ Rd G t (.tup [.int q.1, .int q.2]) := by
  cases h with
  | tup h1 h2 =>
    obtain ⟨u, w, rfl, n1, n2⟩ := two_of h2
    cases n1
    cases n2
    exact ⟨_, rfl, h1⟩
theorem pair_one {G : Hp} {v : V} {q r : Int × Int} (h : Dn G v (pairZ q)) (k : Dn G v (pairZ r)) : q = r := by
  obtain ⟨t, rfl, h1⟩ := pair_dn h
  obtain ⟨t', e, h2⟩ := pair_dn k
  cases e
  have e2 : (HO.tup [V.int q.1, V.int q.2]) = .tup [.int r.1, .int r.2] := by
    rcases h1 with h1 | ⟨o, h1⟩ <;> rcases h2 with h2 | ⟨o', h2⟩
    · rw [h1] at h2
      exact Option.some.inj h2
    · rw [h1] at h2
      exact nomatch Option.some.inj h2
    · rw [h1] at h2
      exact nomatch Option.some.inj h2
    · rw [h1] at h2
      injection h2 with h2
      injection h2
  injection e2 with e2
  injection e2 with e3 e4
  injection e4 with e4
  injection e3 with e3
  injection e4 with e4
  exact Prod.ext e3 e4
theorem pairs_back {G : Hp} (k : V → Int × Int) : ∀ {ys : List V}, (∀ y ∈ ys, Dn G y (pairZ (k y))) → DnL G ys ((ys.map k).map pairZ)
  | [], _ => .nil
  | y :: ys, h => .cons (h y List.mem_cons_self) (pairs_back k fun z hz => h z (List.mem_cons_of_mem _ hz))
theorem pairs_map {G : Hp} (k : V → Int × Int) : ∀ {xs : List V} {ps : List (Int × Int)}, (∀ x q, Dn G x (pairZ q) → k x = q) → DnL G xs (ps.map pairZ) → xs.map k = ps
  | _, [], _, h => by cases h; rfl
  | _, q :: ps, hk, h => by
    cases h with
    | cons h1 h2 => rw [List.map_cons, hk _ _ h1, pairs_map k hk h2]
def lexLe (p q : Int × Int) : Prop := p.1 < q.1 ∨ (p.1 = q.1 ∧ p.2 ≤ q.2)
/-- sorted(xs), xs of pairs of ints -/
theorem ev_sorted {ps : List (Int × Int)} (h : EvA ar σ G [.list (ps.map pairZ)]) {H : Hp} {Q : VK} (e : Ex G H) (q : ∀ (qs : List (Int × Int)) l xs G2 H2, qs.Perm ps → qs.Pairwise lexLe → Gr G H G2 H2 → H l = none → G2 l = none → H2 l = some (.lst xs) → DnL G2 xs (qs.map pairZ) → Q (.ref l) H2) : tCB (rSortedR K) ar σ H Q := h H e _ fun vs G2 H2 g n => by
  obtain ⟨v, rfl, n1⟩ := one_of n
  cases n1 with
  | lst h1 h2 =>
    rename_i a xs
    classical
    let k : V → Int × Int := fun x => if z : ∃ q, Dn G2 x (pairZ q) then Classical.choose z else (0, 0)
    have kq : ∀ x q, Dn G2 x (pairZ q) → k x = q := fun x q m => by
      have z : ∃ q, Dn G2 x (pairZ q) := ⟨q, m⟩
      have e1 : k x = Classical.choose z := dif_pos z
      rw [e1]
      exact pair_one (Classical.choose_spec z) m
    have each : ∀ {us : List V} {rs : List (Int × Int)}, DnL G2 us (rs.map pairZ) → ∀ x ∈ us, Dn G2 x (pairZ (k x)) := fun {us rs} => by
      induction rs generalizing us with
      | nil =>
        intro z
        cases z
        exact fun x hx => by cases hx
      | cons r rs ih =>
        intro z
        cases z with
        | cons z1 z2 =>
          intro x hx
          rcases List.mem_cons.mp hx with rfl | hx
          · rw [kq _ _ z1]
            exact z1
          · exact ih z2 x hx
    have fine := each h2
    refine ⟨a, xs, k, rfl, .inl (.inl (g.s _ _ h1)), fun x hx => ?_, fun ys l hs hb hl => ?_⟩
    · obtain ⟨t, e1, e2⟩ := pair_dn (fine x hx)
      exact ⟨t, e1, .inl (rdx g.s e2)⟩
    · refine q (ys.map k) l ys G2 _ ?_ ?_ ⟨g.g, g.s.trans (Ex.new hl), g.h.trans (Ex.new hl), g.f⟩ (g.old hl) (Evl.fresh_back g.s hl) upd_same (pairs_back k fun y hy => fine y (hb.perm.mem_iff.mp hy))
      · have z := hb.perm.map k
        rw [pairs_map k kq h2] at z
        exact z
      · refine List.pairwise_map.mpr (hs.imp fun {x y} z => ?_)
        have z := SrtO.lexB_no.mp z
        show (k x).1 < (k y).1 ∨ _
        omega
end
end Sh

set_option Elab.async false
set_option linter.all false
set_option maxRecDepth 100000
set_option maxHeartbeats 4000000
/-! steps of a reading, each under the head it has -/
namespace Sh
open PySem PySem.Spec L2
open Evl (Ex)
theorem Gr.grow {G H H2 : Hp} (e : Ex G H) (x : Ex H H2) : Gr G H G H2 := ⟨Ex.refl _, e.trans x, x, fun _ h _ => h⟩
section
variable {σ : L2.St} {H : Hp} {K : PySem.W.Frag}
theorem go_set {te : TE} {i : Nat} {u : TS} {D : Ends} (h : te σ H fun v H2 => u D (σ.set i (some v)) H2) : tSeq (tAsg te (gName i)) u D σ H := h
theorem go_set1 {te : TE} {i : Nat} {D : Ends} (h : te σ H fun v H2 => D.nx (σ.set i (some v)) H2) : tAsg te (gName i) D σ H := h
theorem go_asg {te : TE} {g : TG} {u : TS} {D : Ends} (h : te σ H fun v H2 => g v σ H2 fun σ2 H3 => u D σ2 H3) : tSeq (tAsg te g) u D σ H := h
theorem go_seq {t u : TS} {D : Ends} (h : t { D with nx := u D } σ H) : tSeq t u D σ H := h
theorem go_drop {te : TE} {D : Ends} (h : te σ H fun _ H2 => D.nx σ H2) : tDrop te D σ H := h
theorem go_dropS {te : TE} {u : TS} {D : Ends} (h : te σ H fun _ H2 => u D σ H2) : tSeq (tDrop te) u D σ H := h
theorem go_ret {te : TE} {D : Ends} (h : te σ H D.rt) : tRet te D σ H := h
theorem go_callS {sp : Sp} {E : L2.St → XK} {t : TA} {Q : VK} (h : t σ H fun vs H1 => sp vs H1 Q (E σ)) : tCallS sp E t σ H Q := h
theorem go_cons {te : TE} {t : TA} {Q : List V → Hp → Prop} (h : te σ H fun v H1 => t σ H1 fun vs H2 => Q (v :: vs) H2) : tCons te t σ H Q := h
theorem go_nil {Q : List V → Hp → Prop} (h : Q [] H) : tNil σ H Q := h
theorem go_var {i : Nat} {Q : VK} {v : V} (hs : σ[i]? = some (some v)) (h : Q v H) : tVar i σ H Q := ⟨v, hs, h⟩
theorem go_c {v : V} {Q : VK} (h : Q v H) : tC v σ H Q := h
theorem go_for {wi : TI} {g : TG} {tb u : TS} {D : Ends} (h : tFor wi g tb { D with nx := u D } σ H) : tSeq (tFor wi g tb) u D σ H := h
theorem go_cb {r : List V → Hp → VK → Prop} {ar : TA} {Q : VK} (h : ar σ H fun vs H1 => r vs H1 Q) : tCB r ar σ H Q := h
theorem go_op {r : R2} {ta tb : TE} {Q : VK} (h : ta σ H fun x H1 => tb σ H1 fun y H2 => r x y H2 Q) : tOp r ta tb σ H Q := h
theorem go_tup {ar : TA} {Q : VK} (h : ar σ H fun vs H1 => vs.length ≤ sizeLine ∧ ∀ p, H1 p = none → Q (.ref p) (upd H1 p (.tup vs))) : tTup ar σ H Q := h
theorem go_lst {ar : TA} {Q : VK} (h : ar σ H fun vs H1 => vs.length ≤ sizeLine ∧ ∀ p, H1 p = none → Q (.ref p) (upd H1 p (.lst vs))) : tLst ar σ H Q := h
theorem go_par {i j : Nat} {ta : TA} {D : Ends} (h : ta σ H fun vs H1 => ∃ v w, vs = [v, w] ∧ D.nx ((σ.set i (some v)).set j (some w)) H1) : tPar i j ta D σ H := h
theorem go_parS {i j : Nat} {ta : TA} {u : TS} {D : Ends} (h : ta σ H fun vs H1 => ∃ v w, vs = [v, w] ∧ u D ((σ.set i (some v)).set j (some w)) H1) : tSeq (tPar i j ta) u D σ H := h
theorem go_bm {T : String} {r : V → List V → Hp → VK → Prop} {to : TE} {t : TA} {Q : VK} (h : to σ H fun x H1 => tyV K T x H1 ∧ t σ H1 fun xs H2 => r x xs H2 Q) : tBM K T r to t σ H Q := h
theorem go_aug {i : Nat} {te : TE} {ti : TIp} {D : Ends} {x : V} (hs : σ[i]? = some (some x)) (h : te σ H fun y H1 => ti x y H1 fun z H2 => D.nx (σ.set i (some z)) H2) : tAug i te ti D σ H := ⟨x, hs, h⟩
theorem go_augS {i : Nat} {te : TE} {ti : TIp} {u : TS} {D : Ends} {x : V} (hs : σ[i]? = some (some x)) (h : te σ H fun y H1 => ti x y H1 fun z H2 => u D (σ.set i (some z)) H2) : tSeq (tAug i te ti) u D σ H := ⟨x, hs, h⟩
theorem go_if {tt : TT} {t u : TS} {D : Ends} {G : Hp} {b : Bool} (h : EvT tt σ G b) (e : Ex G H) (k1 : b = true → ∀ G2 H2, Gr G H G2 H2 → t D σ H2) (k2 : b = false → ∀ G2 H2, Gr G H G2 H2 → u D σ H2) : tIfS tt t u D σ H := h H e _ fun G2 H2 g => by
  cases b with
  | true => exact k1 rfl G2 H2 g
  | false => exact k2 rfl G2 H2 g
theorem app_at {Q : VK} {p : Addr} {xs : List V} {v : V} (hp : H p = some (.lst xs)) (hz : xs.length ≤ 90000) (q : Q .non (upd H p (.lst (xs ++ [v])))) : rAppend (.ref p) [v] H Q :=
  ⟨p, xs, v, rfl, rfl, hp, Nat.lt_of_le_of_lt hz (by decide), q⟩
/-- tuple(xs), xs the changing list at p -/
theorem tup_at {Q : VK} {p : Addr} {xs : List V} (hp : H p = some (.lst xs)) (q : ∀ l, H l = none → Q (.ref l) (upd H l (.tup xs))) : rTupD K [.ref p] H Q := ⟨p, xs, rfl, .inl ⟨.inl (.inl hp), q⟩⟩
theorem sq_lst {p : Addr} {xs : List V} (hp : H p = some (.lst xs)) : SqL K H p xs := .inl (.inl hp)
end
/-! a for over what its source comes to just here -/
section
variable {σ : L2.St} {G : Hp} {K : PySem.W.Frag} {te : TE} {tt : TT}
def SrcAt (wi : TI) (σ : L2.St) (G H : Hp) (ds : List D) : Prop := ∀ R : It → Hp → Prop, (∀ J G2 H2, Gr G H G2 H2 → WalkD J G2 ds → R J H2) → wi σ H R
theorem for_at {wi : TI} {g : TG} {tb : TS} {ds : List D} {H : Hp} {E : Ends} (hi : SrcAt wi σ G H ds) (Pv : Hp → Hp → Nat → L2.St → Hp → Prop) (hG : ∀ G0 H0 i σ' H', Pv G0 H0 i σ' H' → Ex G0 H')
    (h0 : ∀ G0 H0, Gr G H G0 H0 → Pv G0 H0 0 σ H0)
    (hs : ∀ G0 H0 i d x σ' H' G2 H2, Gr G H G0 H0 → ds[i]? = some d → Pv G0 H0 i σ' H' → Gr G0 H' G2 H2 → Dn G2 x d → g x σ' H2 fun σ2 H3 => tb { E with nx := Pv G0 H0 (i + 1), ct := Pv G0 H0 (i + 1), bk := E.nx } σ2 H3)
    (hd : ∀ G0 H0 σ' H', Gr G H G0 H0 → Pv G0 H0 ds.length σ' H' → E.nx σ' H') : tFor wi g tb E σ H := hi _ fun J G0 H0 g0 w => by
  refine ⟨fun i m σ' H' => m = ds.length - i ∧ i ≤ ds.length ∧ Pv G0 H0 i σ' H', ⟨ds.length, by simp, Nat.zero_le _, h0 G0 H0 g0⟩, ?_⟩
  rintro i m σ' H' ⟨rfl, hi', p⟩
  have ex := hG G0 H0 i σ' H' p
  by_cases lt : i < ds.length
  · refine .inr ⟨w.go i H' lt ex, Pv G0 H0 (i + 1), fun σ2 H2 p2 => ⟨ds.length - (i + 1), by omega, rfl, lt, p2⟩, fun x H2 y => ?_⟩
    obtain ⟨G2, d, g2, hd', n⟩ := w.yld i H' x H2 lt ex y
    exact hs G0 H0 i d x σ' H' G2 H2 g0 hd' p g2 n
  · obtain rfl : i = ds.length := by omega
    exact .inl ⟨w.stop H' ex, hd G0 H0 σ' H' g0 p⟩
/-- a list made just now, of data that does not lean on what changes -/
theorem src_own {H : Hp} {ds : List D} (h : ∀ Q : VK, (∀ l xs G2 H2, Gr G H G2 H2 → H l = none → G2 l = none → H2 l = some (.lst xs) → DnL G2 xs ds → Q (.ref l) H2) → te σ H Q) : SrcAt (iList K te) σ G H ds := fun R r => h _ fun l xs G2 H2 g hl nl h2 m =>
  ⟨l, rfl, ⟨_, .inl (.inl h2)⟩, r _ (upd G2 l (.lst xs)) H2 ⟨g.g.trans (Ex.new nl), Ex.lend g.s h2, g.h, fun a h1 h3 => by
    have ne : a ≠ l := fun z => h3 (by rw [z]; exact hl)
    rw [upd_ne ne]
    exact g.f a h1 h3⟩ (walkD_list upd_same (DnL.mono (Ex.new nl) _ m))⟩
theorem evo_lcA {wi : TI} {g : TG} {vs : List Nat} {ds : List D} {r : D → D} {B : D → Hp → L2.St → Prop} (hi : EvI wi σ G ds) (hz : ds.length ≤ 40000)
    (hg : ∀ d ∈ ds, ∀ G1, Ex G G1 → EvG g (wipe σ vs) G1 d (B d)) (hw : ∀ d G1 σ2, B d G1 σ2 → wipe σ2 vs = wipe σ vs)
    (he : ∀ d ∈ ds, ∀ G1 σ2, Ex G G1 → B d G1 σ2 → EvD te σ2 G1 (r d)) : EvO (tLc wi g tYes te vs) σ G (ds.map r) := by
  have h := evo_lc (t := tYes) (te := te) (f := fun _ => true) (r := r) hi hz hg hw (fun _ _ _ _ _ _ => evt_yes) (fun d hd _ G1 σ2 e b => he d hd G1 σ2 e b)
  rw [filter_all] at h
  exact h
theorem evo_lcN {wi : TI} {vs : List Nat} {ds : List D} {j : Nat} {r : D → D} (hi : EvI wi σ G ds) (hz : ds.length ≤ 40000) (hw : ∀ x, wipe ((wipe σ vs).set j (some x)) vs = wipe σ vs)
    (he : ∀ d ∈ ds, ∀ x G1, Ex G G1 → Dn G1 x d → EvD te ((wipe σ vs).set j (some x)) G1 (r d)) : EvO (tLc wi (gName j) tYes te vs) σ G (ds.map r) :=
  evo_lcA hi hz (fun d _ G1 _ => eg_name) (fun d G1 σ2 ⟨x, e, _⟩ => by rw [e]; exact hw x) (fun d hd G1 σ2 e ⟨x, e2, n⟩ => by rw [e2]; exact he d hd x G1 e n)
theorem EvO.is {ds ds' : List D} (h : EvO te σ G ds) (e : ds = ds') : EvO te σ G ds' := e ▸ h
/-- a, (b, c) -/
theorem eg_nest {i j k : Nat} {a b c : D} : EvG (gTup K 2 (gCons (gName i) (gCons (gTup K 2 (gCons (gName j) (gCons (gName k) gNil))) gNil))) σ G (.tuple [a, .tuple [b, c]]) (fun G σ2 => ∃ x y z, σ2 = ((σ.set i (some x)).set j (some y)).set k (some z) ∧ Dn G x a ∧ Dn G y b ∧ Dn G z c) := fun v H ex n Q q => by
  cases n with
  | tup h1 h2 =>
    obtain ⟨x, u, rfl, n1, n2⟩ := two_of h2
    cases n2 with
    | tup h3 h4 =>
      obtain ⟨y, z, rfl, n3, n4⟩ := two_of h4
      exact ⟨_, _, rfl, .inl (rdx ex h1), rfl, x, _, rfl, _, _, rfl, ⟨_, _, rfl, .inl (rdx ex h3), rfl, y, _, rfl, z, _, rfl, rfl, rfl, q _ ⟨x, y, z, rfl, n1, n3, n4⟩⟩⟩
theorem evd_lc3 {wi : TI} {vs : List Nat} {ds : List D} {i j k : Nat} {r : D → D} (hi : EvI wi σ G ds) (hz : ds.length ≤ 40000) (hp : ∀ d ∈ ds, ∃ a b c, d = .tuple [a, .tuple [b, c]])
    (hw : ∀ x y z, wipe ((((wipe σ vs).set i (some x)).set j (some y)).set k (some z)) vs = wipe σ vs)
    (he : ∀ a b c, PyData.tuple [a, .tuple [b, c]] ∈ ds → ∀ x y z G1, Ex G G1 → Dn G1 x a → Dn G1 y b → Dn G1 z c → EvD te ((((wipe σ vs).set i (some x)).set j (some y)).set k (some z)) G1 (r (.tuple [a, .tuple [b, c]]))) :
    EvD (tLc wi (gTup K 2 (gCons (gName i) (gCons (gTup K 2 (gCons (gName j) (gCons (gName k) gNil))) gNil))) tYes te vs) σ G (.list (ds.map r)) :=
  evd_lcA (B := fun d G1 σ2 => ∃ a b c, d = .tuple [a, .tuple [b, c]] ∧ ∃ x y z, σ2 = (((wipe σ vs).set i (some x)).set j (some y)).set k (some z) ∧ Dn G1 x a ∧ Dn G1 y b ∧ Dn G1 z c) hi hz
    (fun d hd G1 e x H e1 n Q q => by
      obtain ⟨a, b, c, rfl⟩ := hp d hd
      exact eg_nest x H e1 n Q fun σ2 h => q σ2 ⟨a, b, c, rfl, h⟩)
    (fun d G1 σ2 ⟨a, b, c, _, x, y, z, e, _⟩ => by rw [e]; exact hw x y z)
    (fun d hd G1 σ2 e ⟨a, b, c, ed, x, y, z, e2, n1, n2, n3⟩ => by
      subst ed
      rw [e2]
      exact he a b c hd x y z G1 e n1 n2 n3)
theorem evd_neg {i : Int} (h : EvD te σ G (.int i)) : EvD (tUn (rU fun i => .int (-i)) te) σ G (.int (-i)) := fun H e Q q => h H e _ fun v G2 H2 g n => by
  cases n
  exact ⟨i, rfl, q _ G2 H2 g (.int _)⟩
theorem Gm.ofGr {p : Addr} {H G2 H2 : Hp} (g : Gr G H G2 H2) (n : G2 p = none) : Gm p G H G2 H2 := ⟨g.g, g.s, fun a o _ q => g.h a o q, g.f, n⟩
/-- xs[i] += e, xs the changing list of ints at p -/
theorem go_bumpL {i j : Nat} {te : TE} {D : Ends} {H : Hp} {p : Addr} {xs : List Int} {k : Nat} {x y : Int} (hs : σ[i]? = some (some (.ref p))) (hj : σ[j]? = some (some (.int (k : Nat)))) (hp : H p = some (.lst (xs.map V.int))) (hx : xs[k]? = some x) (he : ∀ Q : VK, Q (.int y) H → te σ H Q)
    (q : D.nx σ (upd H p (.lst ((xs.set k (x + y)).map V.int)))) : tAugS (tVar i) (tVar j) te (rIxL K) (ipI fun i j => i + j) rSetL D σ H := by
  have lt : k < xs.length := (List.getElem?_eq_some_iff.mp hx).1
  refine ⟨_, hs, _, hj, p, _, _, _, rfl, rfl, sq_lst hp, atI_nat (by rw [List.getElem?_map, hx]; rfl), he _ ⟨_, _, rfl, rfl, p, _, _, k, rfl, rfl, hp, ?_, ?_⟩⟩
  · unfold ixN
    rw [List.length_map, if_pos (by omega), if_pos (by omega)]
    rfl
  · rw [show (xs.map V.int).set k (.int (x + y)) = (xs.set k (x + y)).map V.int by rw [List.map_set]]
    exact q
end
end Sh

set_option Elab.async false
set_option linter.all false
set_option maxRecDepth 100000
set_option maxHeartbeats 4000000
/-! the row of draws; what an expression with draws may come to; the law's block -/
namespace Sh
open PySem PySem.Spec L2
open PyProof.Rows hiding St
open Evl (Ex)
theorem sqx {K : PySem.W.Frag} {G H : Hp} {a : Addr} {xs : List V} (e : Ex G H) (h : SqL K G a xs) : SqL K H a xs := h.elim (fun q => .inl (rdx e q)) .inr
/-- the row of draws stands at r, over the script at sc -/
structure RowSt (K : PySem.W.Frag) (r sc : Addr) (G H : Hp) : Prop where
  s : Ex G H
  n : G r = none
  row : ∃ a b c : Int, 0 ≤ a ∧ H r = some (.lst [.ref sc, .int a, .int b, .int c])
  scr : ∃ ns : List Int, SqL K G sc (ns.map V.int)
/-- growth, and draws made -/
structure Gq (K : PySem.W.Frag) (r sc : Addr) (G H G2 H2 : Hp) : Prop where
  g : Ex G G2
  st : RowSt K r sc G2 H2
  h : ∀ a o, a ≠ r → H a = some o → H2 a = some o
  f : ∀ a, G a = none → H a ≠ none → G2 a = none
section
variable {K : PySem.W.Frag} {r sc : Addr} {G H G2 H2 G3 H3 : Hp}
theorem Gq.refl (s : RowSt K r sc G H) : Gq K r sc G H G H := ⟨Ex.refl _, s, fun _ _ _ h => h, fun _ h _ => h⟩
theorem Gq.of (s : RowSt K r sc G H) (b : Gr G H G2 H2) : Gq K r sc G H G2 H2 := by
  obtain ⟨a, bb, c, h1, h2⟩ := s.row
  obtain ⟨ns, h3⟩ := s.scr
  exact ⟨b.g, ⟨b.s, b.f r s.n (by rw [h2]; intro z; cases z), ⟨a, bb, c, h1, b.h _ _ h2⟩, ⟨ns, sqx b.g h3⟩⟩, fun a o _ q => b.h _ _ q, b.f⟩
theorem RowSt.gr (s : RowSt K r sc G H) (b : Gr G H G2 H2) : RowSt K r sc G2 H2 := (Gq.of s b).st
theorem Gq.trans (s : RowSt K r sc G H) (a : Gq K r sc G H G2 H2) (b : Gq K r sc G2 H2 G3 H3) : Gq K r sc G H G3 H3 := ⟨a.g.trans b.g, b.st, fun x o hx q => b.h x o hx (a.h x o hx q), fun x h1 h2 => by
  by_cases hx : x = r
  · rw [hx]
    exact b.st.n
  · refine b.f x (a.f x h1 h2) fun z => ?_
    cases q : H x with
    | none => exact h2 q
    | some u =>
      have z2 := a.h x u hx q
      rw [z] at z2
      cases z2⟩
/-- the row alone is written -/
theorem RowSt.put (s : RowSt K r sc G H) {a b c : Int} (h : 0 ≤ a) : RowSt K r sc G (upd H r (.lst [.ref sc, .int a, .int b, .int c])) := ⟨Ex.mut s.s s.n, s.n, ⟨a, b, c, h, upd_same⟩, s.scr⟩
theorem Gq.put (s : RowSt K r sc G H) {a b c : Int} (h : 0 ≤ a) : Gq K r sc G H G (upd H r (.lst [.ref sc, .int a, .int b, .int c])) := ⟨Ex.refl _, s.put h, fun x o hx q => by
  rw [upd_ne hx]
  exact q, fun _ h _ => h⟩
end
def spTaken (K : PySem.W.Frag) : Sp := fun vs H Q _ => ∃ r sc G m, vs = [.ref r, .int m] ∧ 0 < m ∧ m ≤ 1000000 ∧ RowSt K r sc G H ∧ ∀ (v : Nat) H2, (v : Int) < m → Gq K r sc G H G H2 → Q (.int v) H2
def spPick (K : PySem.W.Frag) : Sp := fun vs H Q _ => ∃ r sc G ds v, vs = [.ref r, v] ∧ RowSt K r sc G H ∧ Dn G v (.list ds) ∧ 0 < ds.length ∧ ds.length ≤ 1000 ∧ ∀ u d G2 H2, d ∈ ds → Dn G2 u d → Gq K r sc G H G2 H2 → Q u H2
/-- with draws, te comes to some data of which P holds -/
def EvR (K : PySem.W.Frag) (r sc : Addr) (te : TE) (σ : L2.St) (G : Hp) (P : D → Prop) : Prop := ∀ H, RowSt K r sc G H → ∀ Q : VK, (∀ v d G2 H2, P d → Gq K r sc G H G2 H2 → Dn G2 v d → Q v H2) → te σ H Q
/-- from here the law hands back True -/
def EvL (K : PySem.W.Frag) (r sc : Addr) (t : TS) (σ : L2.St) (G : Hp) : Prop := ∀ H, RowSt K r sc G H → ∀ E : Ends, (∀ H2, E.rt (.bl true) H2) → t E σ H
section
variable {K : PySem.W.Frag} {r sc : Addr} {σ : L2.St} {G : Hp} {te ta tb : TE} {t u : TS} {tt : TT} {d : D} {P : D → Prop}
theorem evr_d (h : EvD te σ G d) (p : P d) : EvR K r sc te σ G P := fun H st Q q => h H st.s _ fun v G2 H2 g n => q v d G2 H2 p (Gq.of st g) n
theorem EvR.imp {P' : D → Prop} (h : EvR K r sc te σ G P) (k : ∀ d, P d → P' d) : EvR K r sc te σ G P' := fun H st Q q => h H st Q fun v d G2 H2 p g n => q v d G2 H2 (k d p) g n
theorem evr_tk {i : Nat} {E : XK} (hs : σ[i]? = some (some (.ref r))) (h : EvR K r sc te σ G fun d => ∃ m : Int, d = .int m ∧ 0 < m ∧ m ≤ 1000000 ∧ ∀ v : Nat, (v : Int) < m → P (.int (v : Nat))) : EvR K r sc (tCall (spTaken K) [] E (tCons (tVar i) (tCons te tNil))) σ G P := fun H st Q q =>
  ⟨_, hs, h H st _ fun v d G2 H2 ⟨m, ed, m0, m1, p⟩ g n => by
    subst ed
    cases n
    exact ⟨r, sc, G2, m, rfl, m0, m1, g.st, fun v H3 lt g2 => q (.int (v : Nat)) _ G2 H3 (p v lt) (g.trans st g2) (.int _)⟩⟩
theorem evr_pk {i : Nat} {E : XK} (hs : σ[i]? = some (some (.ref r))) (h : EvR K r sc te σ G fun d => ∃ ds, d = .list ds ∧ 0 < ds.length ∧ ds.length ≤ 1000 ∧ ∀ x ∈ ds, P x) : EvR K r sc (tCall (spPick K) [] E (tCons (tVar i) (tCons te tNil))) σ G P := fun H st Q q =>
  ⟨_, hs, h H st _ fun v d G2 H2 ⟨ds, ed, l0, l1, p⟩ g n => by
    subst ed
    exact ⟨r, sc, G2, ds, v, rfl, g.st, n, l0, l1, fun u x G3 H3 hx nx g2 => q u x G3 H3 (p x hx) (g.trans st g2) nx⟩⟩
theorem evr_op {rr : R2} {P1 : D → Prop} {P2 : D → D → Prop} (h : EvR K r sc ta σ G P1) (k : ∀ d G2, P1 d → Ex G G2 → EvR K r sc tb σ G2 (P2 d)) (hr : ∀ d e, P1 d → P2 d e → ∀ G2, ∃ c, P c ∧ R2D rr d e c G2) : EvR K r sc (tOp rr ta tb) σ G P := fun H st Q q =>
  h H st _ fun v d G2 H2 p1 g n => k d G2 p1 g.g H2 g.st _ fun w e G3 H3 p2 g2 n2 => by
    obtain ⟨c, pc, rc⟩ := hr d e p1 p2 G3
    exact rc G3 H3 v w (Ex.refl _) g2.st.s (Dn.mono g2.g _ n) n2 Q fun z G4 H4 g3 n3 => q z c G4 H4 pc ((g.trans st g2).trans st (Gq.of g2.st g3)) n3
theorem evr_cb1 {rr : List V → Hp → VK → Prop} {P1 : D → Prop} (h : EvR K r sc te σ G P1) (hr : ∀ d, P1 d → ∀ G2, ∃ c, P c ∧ RCD rr [d] c G2) : EvR K r sc (tCB rr (tCons te tNil)) σ G P := fun H st Q q =>
  h H st _ fun v d G2 H2 p1 g n => by
    obtain ⟨c, pc, rc⟩ := hr d p1 G2
    exact rc G2 H2 [v] (Ex.refl _) g.st.s (.cons n .nil) Q fun z G3 H3 g2 n2 => q z c G3 H3 pc (g.trans st (Gq.of g.st g2)) n2
theorem evl_set {i : Nat} (h : EvD te σ G d) (k : ∀ v G2, Ex G G2 → Dn G2 v d → EvL K r sc u (σ.set i (some v)) G2) : EvL K r sc (tSeq (tAsg te (gName i)) u) σ G := fun H st E q => h H st.s _ fun v G2 H2 g n => k v G2 g.g n H2 (st.gr g) E q
theorem evl_setR {i : Nat} (h : EvR K r sc te σ G P) (k : ∀ v d G2, P d → Ex G G2 → Dn G2 v d → EvL K r sc u (σ.set i (some v)) G2) : EvL K r sc (tSeq (tAsg te (gName i)) u) σ G := fun H st E q => h H st _ fun v d G2 H2 p g n => k v d G2 p g.g n H2 g.st E q
theorem evl_asg {g : TG} {B : Hp → L2.St → Prop} (h : EvD te σ G d) (hg : ∀ G2, Ex G G2 → EvG g σ G2 d B) (k : ∀ σ2 G2, Ex G G2 → B G2 σ2 → EvL K r sc u σ2 G2) : EvL K r sc (tSeq (tAsg te g) u) σ G := fun H st E q => h H st.s _ fun v G2 H2 g' n =>
  hg G2 g'.g v H2 g'.s n _ fun σ2 b => k σ2 G2 g'.g b H2 (st.gr g') E q
theorem evl_if {v : TS} {b : Bool} (h : EvT tt σ G b) (k1 : b = true → ∀ G2, Ex G G2 → EvL K r sc (tSeq t u) σ G2) (k2 : b = false → ∀ G2, Ex G G2 → EvL K r sc u σ G2) : EvL K r sc (tSeq (tIfS tt t tNext) u) σ G := fun H st E q => h H st.s _ fun G2 H2 g => by
  cases b with
  | true => exact k1 rfl G2 g.g H2 (st.gr g) E q
  | false => exact k2 rfl G2 g.g H2 (st.gr g) E q
/-- a test that is false here -/
theorem evl_no (h : EvT tt σ G false) (k : ∀ G2, Ex G G2 → EvL K r sc u σ G2) : EvL K r sc (tSeq (tIfS tt t tNext) u) σ G := fun H st E q => h H st.s _ fun G2 H2 g => k G2 g.g H2 (st.gr g) E q
theorem evl_ret (h : EvD te σ G (.bool true)) : EvL K r sc (tRet te) σ G := fun H st E q => h H st.s _ fun v G2 H2 g n => by
  cases n
  exact q H2
/-- a block that goes through, leaving slots of which B holds -/
def EvN (t : TS) (σ : L2.St) (G : Hp) (B : Hp → L2.St → Prop) : Prop := ∀ H, Ex G H → ∀ E : Ends, (∀ σ2 G2 H2, Gr G H G2 H2 → B G2 σ2 → E.nx σ2 H2) → t E σ H
theorem evl_nx {B : Hp → L2.St → Prop} (h : EvN t σ G B) (k : ∀ σ2 G2, Ex G G2 → B G2 σ2 → EvL K r sc u σ2 G2) : EvL K r sc (tSeq t u) σ G := fun H st E q => h H st.s _ fun σ2 G2 H2 g b => k σ2 G2 g.g b H2 (st.gr g) E q
theorem evn_seq {B B' : Hp → L2.St → Prop} (h : EvN t σ G B) (k : ∀ σ2 G2, Ex G G2 → B G2 σ2 → EvN u σ2 G2 B') : EvN (tSeq t u) σ G B' := fun H e E q => h H e _ fun σ2 G2 H2 g b => k σ2 G2 g.g b H2 g.s E fun σ3 G3 H3 g2 b2 => q σ3 G3 H3 (g.trans g2) b2
theorem evn_set {i : Nat} {B : Hp → L2.St → Prop} (h : EvD te σ G d) (k : ∀ v G2, Ex G G2 → Dn G2 v d → EvN u (σ.set i (some v)) G2 B) : EvN (tSeq (tAsg te (gName i)) u) σ G B := fun H e E q => h H e _ fun v G2 H2 g n => k v G2 g.g n H2 g.s E fun σ3 G3 H3 g2 b2 => q σ3 G3 H3 (g.trans g2) b2
theorem evn_set1 {i : Nat} {B : Hp → L2.St → Prop} (h : EvD te σ G d) (k : ∀ v G2, Ex G G2 → Dn G2 v d → B G2 (σ.set i (some v))) : EvN (tAsg te (gName i)) σ G B := fun H e E q => h H e _ fun v G2 H2 g n => q _ G2 H2 g (k v G2 g.g n)
theorem evn_no {B : Hp → L2.St → Prop} (h : EvT tt σ G false) (k : ∀ G2, Ex G G2 → EvN u σ G2 B) : EvN (tSeq (tIfS tt t tNext) u) σ G B := fun H e E q => h H e _ fun G2 H2 g => k G2 g.g H2 g.s E fun σ3 G3 H3 g2 b2 => q σ3 G3 H3 (g.trans g2) b2
theorem evn_no1 {B : Hp → L2.St → Prop} (h : EvT tt σ G false) (k : ∀ G2, Ex G G2 → B G2 σ) : EvN (tIfS tt t tNext) σ G B := fun H e E q => h H e _ fun G2 H2 g => q σ G2 H2 g (k G2 g.g)
theorem evn_aug {i : Nat} {ti : TIp} {B : Hp → L2.St → Prop} {x y z : Int} (hs : σ[i]? = some (some (.int x))) (h : EvD te σ G (.int y)) (hz : ∀ H (Q : VK), Q (.int z) H → ti (.int x) (.int y) H Q) (k : ∀ G2, Ex G G2 → EvN u (σ.set i (some (.int z))) G2 B) : EvN (tSeq (tAug i te ti) u) σ G B := fun H e E q =>
  ⟨_, hs, h H e _ fun v G2 H2 g n => by
    cases n
    exact hz H2 _ (k G2 g.g H2 g.s E fun σ3 G3 H3 g2 b2 => q σ3 G3 H3 (g.trans g2) b2)⟩
theorem evn_if {B : Hp → L2.St → Prop} {v : TS} {b : Bool} (h : EvT tt σ G b) (k1 : b = true → ∀ G2, Ex G G2 → EvN t σ G2 B) (k2 : b = false → ∀ G2, Ex G G2 → EvN v σ G2 B) : EvN (tIfS tt t v) σ G B := fun H e E q => h H e _ fun G2 H2 g => by
  cases b with
  | true => exact k1 rfl G2 g.g H2 g.s E fun σ3 G3 H3 g2 b2 => q σ3 G3 H3 (g.trans g2) b2
  | false => exact k2 rfl G2 g.g H2 g.s E fun σ3 G3 H3 g2 b2 => q σ3 G3 H3 (g.trans g2) b2
theorem evn_next {B : Hp → L2.St → Prop} (h : B G σ) : EvN tNext σ G B := fun H e E q => q σ G H (Gr.refl e) h
/-- for x in data: .., the slots' invariant I, which what stands still may outgrow -/
theorem evn_for {wi : TI} {g : TG} {ds : List D} {I : Nat → Hp → L2.St → Prop} {C : D → Hp → L2.St → L2.St → Prop} (hi : EvI wi σ G ds) (mono : ∀ i G1 G2 σ', Ex G1 G2 → I i G1 σ' → I i G2 σ') (h0 : I 0 G σ)
    (hg : ∀ i d σ' G1, ds[i]? = some d → Ex G G1 → I i G1 σ' → EvG g σ' G1 d fun G2 σ2 => C d G2 σ' σ2)
    (hb : ∀ i d σ' σ2 G1, ds[i]? = some d → Ex G G1 → I i G1 σ' → C d G1 σ' σ2 → EvN t σ2 G1 (I (i + 1))) : EvN (tFor wi g t) σ G (I ds.length) := fun H e E q =>
  for_data hi e (fun G0 H0 i σ' H' => ∃ Gi, Gr G0 H0 Gi H' ∧ I i Gi σ') (fun G0 H0 i σ' H' ⟨Gi, g, _⟩ => g.g.trans g.s) (fun G0 H0 g0 => ⟨G0, Gr.refl g0.s, mono 0 G G0 σ g0.g h0⟩)
    (fun G0 H0 i d x σ' H' G2 H2 g0 hd ⟨Gi, gi, hI⟩ g2 nx => by
      obtain ⟨G3, e23, g3⟩ := grow_up gi.g gi.s g2
      have gg := gi.trans g3
      have hI3 := mono i Gi G3 σ' g3.g hI
      refine hg i d σ' G3 hd (g0.g.trans gg.g) hI3 x H2 gg.s (Dn.mono e23 _ nx) _ fun σ2 hc => ?_
      have done := hb i d σ' σ2 G3 hd (g0.g.trans gg.g) hI3 hc
      exact done H2 gg.s _ fun σ3 G4 H4 g4 b4 => ⟨G4, gg.trans g4, b4⟩)
    (fun G0 H0 σ' H' g0 ⟨Gi, gi, hI⟩ => q σ' Gi H' (g0.trans gi) hI)
end
end Sh

set_option Elab.async false
set_option linter.all false
set_option maxRecDepth 100000
set_option maxHeartbeats 4000000
/-! comprehensions with draws; lists that a loop of the law builds -/
namespace Sh
open PySem PySem.Spec L2
open PyProof.Rows hiding St
open Evl (Ex)
section
variable {σ : L2.St} {H : Hp}
theorem go_lcr {ar : TA} {g : TG} {tt : TT} {te : TE} {vs' : List Nat} {Q : VK} (h : ar σ H fun vs H1 => ∃ k : Int, vs = [.int k] ∧ -(2 ^ 62) ≤ k ∧ k < 2 ^ 62 ∧ ∀ D, H1 D = none → ∃ W : Nat → Nat → Hp → Prop, (∃ m, W 0 m (upd H1 D (.lst []))) ∧ ∀ i m H, W i m H →
  ((Itr 0 k.toNat).stop i H ∧ Q (.ref D) H) ∨ ((Itr 0 k.toNat).go i H ∧ ∃ Nx : Hp → Prop, (∀ H', Nx H' → ∃ m', m' < m ∧ W (i + 1) m' H') ∧ ∀ x H', (Itr 0 k.toNat).yld i H x H' → g x (wipe σ vs') H' fun σ2 H2 => wipe σ2 vs' = wipe σ vs' ∧ tt σ2 H2 fun b H3 =>
    if b = true then te σ2 H3 fun y H4 => ∃ acc, H4 D = some (.lst acc) ∧ acc.length < sizeLine ∧ Nx (upd H4 D (.lst (acc ++ [y]))) else Nx H3)) : tLc (iRng1 ar) g tt te vs' σ H Q := h
theorem lcR_go {n : Nat} {k0 : Int} (hk : k0 = (n : Nat)) (hn : n ≤ 1000000) {H1 : Hp} {Q : Addr → Hp → Prop} {te : TE} {vs' : List Nat} {j : Nat} (hw : ∀ x, wipe ((wipe σ vs').set j (some x)) vs' = wipe σ vs')
    (h : ∀ D, H1 D = none → ∃ W : Nat → Hp → Prop, W 0 (upd H1 D (.lst [])) ∧ (∀ i H', i < n → W i H' → te ((wipe σ vs').set j (some (.int (i : Nat)))) H' fun y H4 => ∃ acc, H4 D = some (.lst acc) ∧ acc.length < sizeLine ∧ W (i + 1) (upd H4 D (.lst (acc ++ [y])))) ∧ ∀ H', W n H' → Q D H') :
    ∃ k : Int, [V.int k0] = [.int k] ∧ -(2 ^ 62) ≤ k ∧ k < 2 ^ 62 ∧ ∀ D, H1 D = none → ∃ W : Nat → Nat → Hp → Prop, (∃ m, W 0 m (upd H1 D (.lst []))) ∧ ∀ i m H, W i m H →
  ((Itr 0 k.toNat).stop i H ∧ Q D H) ∨ ((Itr 0 k.toNat).go i H ∧ ∃ Nx : Hp → Prop, (∀ H', Nx H' → ∃ m', m' < m ∧ W (i + 1) m' H') ∧ ∀ x H', (Itr 0 k.toNat).yld i H x H' → gName j x (wipe σ vs') H' fun σ2 H2 => wipe σ2 vs' = wipe σ vs' ∧ tYes σ2 H2 fun b H3 =>
    if b = true then te σ2 H3 fun y H4 => ∃ acc, H4 D = some (.lst acc) ∧ acc.length < sizeLine ∧ Nx (upd H4 D (.lst (acc ++ [y]))) else Nx H3) := by
  subst hk
  refine ⟨(n : Nat), rfl, by omega, by omega, fun D hD => ?_⟩
  obtain ⟨W, w0, ws, wd⟩ := h D hD
  refine ⟨fun i m H' => m = n - i ∧ i ≤ n ∧ W i H', ⟨n, by simp, Nat.zero_le _, w0⟩, ?_⟩
  rintro i m H' ⟨rfl, hi, p⟩
  by_cases lt : i < n
  · refine .inr ⟨?_, W (i + 1), fun H2 p2 => ⟨n - (i + 1), by omega, rfl, lt, p2⟩, fun x H2 y => ?_⟩
    · show i < ((n : Nat) : Int).toNat
      omega
    · obtain ⟨rfl, rfl⟩ := y
      refine ⟨hw _, ?_⟩
      have z := ws i H2 lt p
      show te ((wipe σ vs').set j (some (.int (0 + (i : Nat))))) H2 _
      rw [Int.zero_add]
      exact z
  · obtain rfl : i = n := by omega
    refine .inl ⟨?_, wd H' p⟩
    show ((i : Nat) : Int).toNat ≤ i
    omega
end
section
variable {K : PySem.W.Frag} {r sc : Addr} {σ : L2.St} {G : Hp} {te ta tb tn : TE} {t u : TS} {tt : TT} {d : D} {P : D → Prop}
/-- a new object, not the row -/
theorem RowSt.loose {H : Hp} {p : Addr} {o : HO} (s : RowSt K r sc G H) (hp : H p = none) : RowSt K r sc G (upd H p o) := by
  obtain ⟨a, b, c, h1, h2⟩ := s.row
  exact ⟨s.s.trans (Ex.new hp), s.n, ⟨a, b, c, h1, by
    rw [upd_ne (fun z => by rw [z, hp] at h2; cases h2)]
    exact h2⟩, s.scr⟩
theorem RowSt.ne {H : Hp} {p : Addr} (s : RowSt K r sc G H) (hp : H p = none) : p ≠ r := fun z => by
  obtain ⟨a, b, c, h1, h2⟩ := s.row
  rw [← z, hp] at h2
  cases h2
theorem RowSt.mut {H : Hp} {p : Addr} {o : HO} (s : RowSt K r sc G H) (hn : G p = none) (ne : p ≠ r) : RowSt K r sc G (upd H p o) := by
  obtain ⟨a, b, c, h1, h2⟩ := s.row
  exact ⟨Ex.mut s.s hn, s.n, ⟨a, b, c, h1, by rw [upd_ne (fun z => ne z.symm)]; exact h2⟩, s.scr⟩
/-- [te for j in range(n)], with draws -/
theorem evr_lcR {j : Nat} {vs : List Nat} {N : Nat → Prop} {P1 : D → Prop} (h : EvR K r sc tn σ G fun d => ∃ n : Nat, d = .int (n : Nat) ∧ n ≤ 1000 ∧ N n) (hw : ∀ x, wipe ((wipe σ vs).set j (some x)) vs = wipe σ vs)
    (he : ∀ (i : Nat) G1, Ex G G1 → EvR K r sc te ((wipe σ vs).set j (some (.int (i : Nat)))) G1 P1) (out : ∀ n ds, N n → ds.length = n → (∀ d ∈ ds, P1 d) → P (.list ds)) :
    EvR K r sc (tLc (iRng1 (tCons tn tNil)) (gName j) tYes te vs) σ G P := fun H st Q q => by
  refine go_lcr (go_cons (h H st _ fun v d G1 H1 ⟨n, ed, n1, nn⟩ g1 n0 => go_nil ?_))
  subst ed
  cases n0
  refine lcR_go (n := n) rfl (by omega) hw fun L hL => ?_
  have neL := g1.st.ne hL
  refine ⟨fun i H' => ∃ Gi acc ds, Gq K r sc G H Gi H' ∧ Ex G1 Gi ∧ Gi L = none ∧ H' L = some (.lst acc) ∧ DnL Gi acc ds ∧ ds.length = i ∧ ∀ d ∈ ds, P1 d, ⟨G1, [], [], ⟨g1.g, g1.st.loose hL, fun a o ha q => ?_, g1.f⟩, Ex.refl _, Evl.fresh_back g1.st.s hL, upd_same, .nil, rfl, fun d hd => (by cases hd)⟩, fun i H' lt ⟨Gi, acc, ds, gq, x1, nL, hL', m, len, each⟩ => ?_, fun H' ⟨Gi, acc, ds, gq, x1, nL, hL', m, len, each⟩ => ?_⟩
  · have z := g1.h a o ha q
    rw [upd_ne (fun e => by rw [← e, z] at hL; cases hL)]
    exact z
  · refine he i Gi (g1.g.trans x1) H' gq.st _ fun v d G2 H2 p g2 nv => ?_
    have hL2 : H2 L = some (.lst acc) := g2.h _ _ neL hL'
    have nL2 : G2 L = none := g2.f L nL (by rw [hL']; intro z; cases z)
    have gg := gq.trans st g2
    have lenA : acc.length = ds.length := m.length
    refine ⟨acc, hL2, Nat.lt_of_le_of_lt (show _ ≤ 1000 by omega) (by decide), G2, acc ++ [v], ds ++ [d], ⟨gg.g, gg.st.mut nL2 neL, fun a o ha q => ?_, gg.f⟩, x1.trans g2.g, nL2, upd_same, (DnL.mono g2.g _ m).snoc nv, by rw [List.length_append, len]; rfl, fun y hy => ?_⟩
    · have z := gg.h a o ha q
      rw [upd_ne (fun e => ?_)]
      · exact z
      · have y : H L = none := by
          cases c : H L with
          | none => rfl
          | some u =>
            have y := g1.h L u neL c
            rw [hL] at y
            cases y
        rw [e, y] at q
        cases q
    · rcases List.mem_append.mp hy with hy | hy
      · exact each y hy
      · rw [List.mem_singleton.mp hy]
        exact p
  · have fresh : H L = none := by
      cases c : H L with
      | none => rfl
      | some u =>
        have y := g1.h L u neL c
        rw [hL] at y
        cases y
    refine q (.ref L) (.list ds) (upd Gi L (.lst acc)) H' (out n ds nn len each) ⟨gq.g.trans (Ex.new nL), ⟨Ex.lend gq.st.s hL', ?_, gq.st.row, ?_⟩, gq.h, fun a h1 h2 => ?_⟩ (.lst upd_same (DnL.mono (Ex.new nL) _ m))
    · rw [upd_ne (fun e => neL e.symm)]
      exact gq.st.n
    · obtain ⟨ns, z⟩ := gq.st.scr
      exact ⟨ns, sqx (Ex.new nL) z⟩
    · have ne : a ≠ L := fun e => h2 (by rw [e]; exact fresh)
      rw [upd_ne ne]
      exact gq.f a h1 h2
/-- a block that appends one thing to the list at p -/
def EvAp (p : Addr) (t : TS) (σ : L2.St) (G : Hp) (o : D) (B : Hp → L2.St → Prop) : Prop := ∀ H xs, Ex G H → G p = none → H p = some (.lst xs) → xs.length ≤ 90000 → ∀ E : Ends, (∀ σ2 v G2 H2, Gr G H G2 H2 → Dn G2 v o → B G2 σ2 → E.nx σ2 (upd H2 p (.lst (xs ++ [v])))) → t E σ H
variable {p : Addr} {o : D} {B : Hp → L2.St → Prop}
theorem eva_app {i : Nat} (hs : σ[i]? = some (some (.ref p))) (h : EvD te σ G o) (hb : ∀ G2, Ex G G2 → B G2 σ) : EvAp p (tDrop (tBM K "list" rAppend (tVar i) (tCons te tNil))) σ G o B := fun H xs e n hp hz E q =>
  go_drop (go_bm (go_var hs ⟨.inl ⟨rfl, _, sq_lst hp⟩, go_cons (h H e _ fun v G2 H2 g m => go_nil (app_at (g.h _ _ hp) hz (q σ v G2 H2 g m (hb G2 g.g))))⟩))
theorem eva_set {i : Nat} (h : EvD te σ G d) (k : ∀ v G2, Ex G G2 → Dn G2 v d → EvAp p u (σ.set i (some v)) G2 o B) : EvAp p (tSeq (tAsg te (gName i)) u) σ G o B := fun H xs e n hp hz E q => h H e _ fun v G2 H2 g m =>
  k v G2 g.g m H2 xs g.s (g.f p n (by rw [hp]; intro z; cases z)) (g.h _ _ hp) hz E fun σ2 v2 G3 H3 g2 m2 b => q σ2 v2 G3 H3 (g.trans g2) m2 b
theorem eva_no (h : EvT tt σ G false) (k : ∀ G2, Ex G G2 → EvAp p u σ G2 o B) : EvAp p (tSeq (tIfS tt t tNext) u) σ G o B := fun H xs e n hp hz E q => h H e _ fun G2 H2 g =>
  k G2 g.g H2 xs g.s (g.f p n (by rw [hp]; intro z; cases z)) (g.h _ _ hp) hz E fun σ2 v2 G3 H3 g2 m2 b => q σ2 v2 G3 H3 (g.trans g2) m2 b
/-- xs = []; for x in data: .. xs.append(..) -/
theorem evl_build {wi : TI} {g : TG} {i : Nat} {ds : List D} {out : Nat → D} {I : Addr → Nat → Hp → L2.St → Prop} {C : D → Hp → L2.St → L2.St → Prop} (few : ds.length ≤ 90000) (hi : ∀ p, EvI wi (σ.set i (some (.ref p))) G ds) (mono : ∀ p i G1 G2 σ', Ex G1 G2 → I p i G1 σ' → I p i G2 σ')
    (h0 : ∀ p, I p 0 G (σ.set i (some (.ref p))))
    (hg : ∀ p j d σ' G1, ds[j]? = some d → Ex G G1 → I p j G1 σ' → EvG g σ' G1 d fun G2 σ2 => C d G2 σ' σ2)
    (hb : ∀ p j d σ' σ2 G1, ds[j]? = some d → Ex G G1 → I p j G1 σ' → C d G1 σ' σ2 → EvAp p t σ2 G1 (out j) (I p (j + 1)))
    (k : ∀ p σ2 G2, Ex G G2 → I p ds.length G2 σ2 → Dn G2 (.ref p) (.list ((List.range ds.length).map out)) → EvL K r sc u σ2 G2) :
    EvL K r sc (tSeq (tAsg (tLst tNil) (gName i)) (tSeq (tFor wi g t) u)) σ G := fun H st E q => by
  refine go_set (go_lst (go_nil ⟨Evl.sz_of (by show 0 ≤ 100000; decide), fun p hp => go_for ?_⟩))
  have ne := st.ne hp
  have gm0 := Gm.start (o := .lst []) st.s hp
  refine for_data (G := G) (hi p) gm0.s (fun G0 H0 j σ' H' => ∃ Gi xs, Ex G0 Gi ∧ Gm p G H Gi H' ∧ H' p = some (.lst xs) ∧ DnL Gi xs ((List.range j).map out) ∧ I p j Gi σ') (fun G0 H0 j σ' H' ⟨Gi, xs, x, gm, _⟩ => x.trans gm.s) (fun G0 H0 g0 => ?_) (fun G0 H0 j d x σ' H' G2 H2 g0 hd pv g2 nx => ?_) (fun G0 H0 σ' H' g0 pv => ?_)
  · obtain ⟨gm1, h1⟩ := gm0.step upd_same g0
    exact ⟨G0, [], Ex.refl _, gm1, h1, .nil, mono p 0 G G0 _ g0.g (h0 p)⟩
  · obtain ⟨Gi, xs, x1, gm, hpi, m, hI⟩ := pv
    obtain ⟨G3, e23, g3⟩ := grow_up x1 gm.s g2
    obtain ⟨gm3, hp3⟩ := gm.step hpi g3
    have hI3 := mono p j Gi G3 σ' g3.g hI
    refine hg p j d σ' G3 hd gm3.g hI3 x H2 gm3.s (Dn.mono e23 _ nx) _ fun σ2 hc => ?_
    have ln : xs.length = j := by rw [m.length, List.length_map, List.length_range]
    have lt := (List.getElem?_eq_some_iff.mp hd).1
    refine hb p j d σ' σ2 G3 hd gm3.g hI3 hc H2 xs gm3.s gm3.n hp3 (by omega) _ fun σ3 v G4 H4 g4 m4 b4 => ?_
    obtain ⟨gm4, hp4⟩ := gm3.step hp3 g4
    refine ⟨G4, xs ++ [v], x1.trans (g3.g.trans g4.g), gm4.put, upd_same, ?_, b4⟩
    rw [List.range_succ, List.map_append]
    exact (DnL.mono (g3.g.trans g4.g) _ m).snoc m4
  · obtain ⟨Gi, xs, x1, gm, hpi, m, hI⟩ := pv
    have gr := gm.close hp hpi
    have up : Ex Gi (upd Gi p (.lst xs)) := Ex.new gm.n
    exact k p σ' (upd Gi p (.lst xs)) gr.g (mono p _ Gi _ σ' up hI) (.lst upd_same (DnL.mono up _ m)) H' (st.gr gr) E q
end
theorem evr_taken {σ : L2.St} {G : Hp} {i : Nat} {K : PySem.W.Frag} {r sc : Addr} {te : TE} {m : Int} {E : XK} (hs : σ[i]? = some (some (.ref r))) (h : EvD te σ G (.int m)) (m0 : 0 < m) (m1 : m ≤ 1000000) (st : RowSt K r sc G H) (q : ∀ (v : Nat) G2 H2, (v : Int) < m → Gq K r sc G H G2 H2 → Q (.int v) H2) : tCall (spTaken K) [] E (tCons (tVar i) (tCons te tNil)) σ H Q :=
  ⟨_, hs, h H st.s _ fun v G2 H2 g n => by
    cases n
    have g1 := Gq.of st g
    exact ⟨r, sc, G2, m, rfl, m0, m1, g1.st, fun v H3 lt g2 => q v G2 H3 lt (g1.trans st g2)⟩⟩
/-- a pick, at Q -/
theorem evr_pick {σ : L2.St} {G : Hp} {i : Nat} {K : PySem.W.Frag} {r sc : Addr} {te : TE} {ds : List D} {E : XK} (hs : σ[i]? = some (some (.ref r))) (h : EvD te σ G (.list ds)) (l0 : 0 < ds.length) (l1 : ds.length ≤ 1000) (st : RowSt K r sc G H) (q : ∀ u d G2 H2, d ∈ ds → Dn G2 u d → Gq K r sc G H G2 H2 → Q u H2) : tCall (spPick K) [] E (tCons (tVar i) (tCons te tNil)) σ H Q :=
  ⟨_, hs, h H st.s _ fun v G2 H2 g n => by
    have g1 := Gq.of st g
    exact ⟨r, sc, G2, ds, v, rfl, g1.st, n, l0, l1, fun u d G3 H3 hd nd g2 => q u d G3 H3 hd nd (g1.trans st g2)⟩⟩
theorem takes0N {X : Cx} : L2N.Takes X (fun _ _ _ _ => False) := fun _ _ x => by
  obtain ⟨_, _, _, _, _, _, _, _, _, _, _, _, _, _, _, _, z⟩ := x
  exact z.elim
theorem evd_callS {σ : L2.St} {G : Hp} {ar : TA} {C : Addr} {W : WX} {dom : List D → Option D → Prop} {ds : List D} {c : D} (h : EvA ar σ G ds) (hc : dom ds (some c)) : EvD (tCallS (spR C dom) (WE W) ar) σ G c := fun H e Q q =>
  h H e _ fun vs G2 H2 g n => ⟨ds, some c, G2, g.s, n, hc, (fun c1 e1 v G3 H3 g2 n2 => by
    cases e1
    exact q v G3 H3 (g.trans g2) n2), fun z => nomatch z⟩
section
variable {K : PySem.W.Frag} {r sc : Addr} {σ : L2.St} {G : Hp} {ar : TA} {u : TS} {d e f : D}
theorem evl_par3 {i j l : Nat} (h : EvA ar σ G [d, e, f]) (k : ∀ x y z G2, Ex G G2 → Dn G2 x d → Dn G2 y e → Dn G2 z f → EvL K r sc u (((σ.set i (some x)).set j (some y)).set l (some z)) G2) : EvL K r sc (tSeq (tPar3 i j l ar) u) σ G := fun H st E q => h H st.s _ fun vs G2 H2 g n => by
  obtain ⟨x, r1, rfl, n1, n⟩ := dnc n
  obtain ⟨y, r2, rfl, n2, n⟩ := dnc n
  obtain ⟨z, r3, rfl, n3, n⟩ := dnc n
  obtain rfl := dnn n
  exact ⟨x, y, z, rfl, k x y z G2 g.g n1 n2 n3 H2 (st.gr g) E q⟩
end
end Sh

set_option Elab.async false
set_option linter.all false
set_option maxRecDepth 100000
set_option maxHeartbeats 4000000
/-! more rules by data -/
namespace Sh
open PySem PySem.Spec L2
open PyProof.Rows hiding St
open Evl (Ex)
section
variable {K : PySem.W.Frag} {σ : L2.St} {G : Hp} {te ta tb : TE} {d e : D}
theorem r_catT {ds es : List D} (h1 : 0 < ds.length) (h2 : 0 < es.length) (hz : ds.length + es.length ≤ 100000) : R2D (rCatT K) (.tuple ds) (.tuple es) (.tuple (ds ++ es)) G := fun G1 H x y _ ex hx hy Q q => by
  cases hx with
  | tup a1 a2 =>
    cases hy with
    | tup b1 b2 =>
      have l1 := a2.length
      have l2 := b2.length
      refine ⟨_, _, _, _, rfl, rfl, .inl (rdx ex a1), .inl (rdx ex b1), fun z => ?_, Evl.sz_of (by omega), fun z => ?_, fun _ p hp => ?_⟩
      · rw [z] at l1
        simp at l1
        omega
      · rw [z] at l2
        simp at l2
        omega
      · exact q _ (upd G1 p (.tup _)) _ (Gr.new ex hp) (.tup (.inl upd_same) (DnL.mono (Ex.new (Evl.fresh_back ex hp)) _ (a2.app b2)))
theorem inV_int (x : Int) (xs : List Int) : inV (.int x) (xs.map V.int) = decide (x ∈ xs) := by
  unfold inV
  induction xs with
  | nil => simp
  | cons y ys ih =>
    rw [List.map_cons, List.any_cons, ih]
    show (decide (y = x) || decide (x ∈ ys)) = decide (x ∈ y :: ys)
    by_cases h : y = x
    · subst h
      simp
    · have h2 : ¬ x = y := fun e => h e.symm
      simp [h, h2]
theorem flat_ofInts (xs : List Int) : (xs.map V.int).all flatV = true := by
  induction xs with
  | nil => rfl
  | cons x xs ih => rw [List.map_cons, List.all_cons, ih] <;> rfl
theorem r_inI {x : Int} {xs : List Int} {neg : Bool} {b : Bool} (hb : (if neg then !decide (x ∈ xs) else decide (x ∈ xs)) = b) : R2D (rIn K neg) (.int x) (.list (intL xs)) (.bool b) G := fun G1 H u v _ ex hx hy Q q => by
  cases hx
  cases hy with
  | lst h1 h2 =>
    have e1 := dn_ints h2
    subst e1
    refine ⟨_, _, rfl, .inl (.inl (.inl (ex _ _ h1))), rfl, flat_ofInts xs, ?_⟩
    rw [inV_int, hb]
    exact q _ G1 H (Gr.refl ex) (.bl b)
theorem DnL.take {G : Hp} : ∀ {ds : List D} {vs : List V} (j : Nat), DnL G vs ds → DnL G (vs.take j) (ds.take j)
  | [], _, j, h => by
    cases h
    simp
    exact .nil
  | d :: ds, _, 0, h => by
    cases h
    exact .nil
  | d :: ds, _, j + 1, h => by
    cases h with
    | cons h1 h2 => exact .cons h1 (DnL.take j h2)
/-- t[:n] of a tuple -/
theorem evd_cutT {ds : List D} {n : Nat} (h : EvD te σ G (.tuple ds)) (k : EvD tb σ G (.int (n : Nat))) : EvD (tSl (rSlA K) te tNoPart (tPart tb)) σ G (.tuple (ds.take n)) := fun H e Q q =>
  h H e _ fun v G2 H2 g m => k.mono g.g H2 g.s _ fun u G3 H3 g2 m2 => by
    cases m2
    have m3 := Dn.mono g2.g _ m
    have gg := g.trans g2
    cases m3 with
    | tup h1 h2 =>
      rename_i a xs
      have len := h2.length
      refine ⟨_, rfl, a, xs, rfl, .inl (rdx gg.s h1), fun hw => ?_, fun hw p hp => ?_⟩
      · rw [HT.sIx_nat] at hw
        refine q _ G3 H3 gg ?_
        rw [List.take_of_length_le (by omega)]
        exact .tup h1 h2
      · have e1 : cutV xs none (some (n : Nat)) = xs.take n := by
          unfold cutV
          rw [HT.sIx_none, HT.sIx_nat, List.drop_zero, Nat.sub_zero]
          by_cases hn : n ≤ xs.length
          · rw [Nat.min_eq_left hn]
          · rw [Nat.min_eq_right (by omega), List.take_length, List.take_of_length_le (by omega)]
        rw [e1]
        exact q _ (upd G3 p (.tup (xs.take n))) _ (gg.trans (Gr.new gg.s hp)) (.tup (.inl upd_same) (DnL.mono (Ex.new (Evl.fresh_back gg.s hp)) _ (DnL.take n h2)))
theorem eg_three {i1 i2 i3 : Nat} {d1 d2 d3 : D} : EvG (gTup K 3 (gCons (gName i1) (gCons (gName i2) (gCons (gName i3) gNil)))) σ G (.tuple [d1, d2, d3])
    (fun G σ2 => ∃ v1 v2 v3, σ2 = ((σ.set i1 (some v1)).set i2 (some v2)).set i3 (some v3) ∧ Dn G v1 d1 ∧ Dn G v2 d2 ∧ Dn G v3 d3) := fun x H ex n Q q => by
  cases n with
  | tup h1 h2 =>
    obtain ⟨v1, r1, rfl, n1, h2⟩ := dnc h2
    obtain ⟨v2, r2, rfl, n2, h2⟩ := dnc h2
    obtain ⟨v3, r3, rfl, n3, h2⟩ := dnc h2
    obtain rfl := dnn h2
    exact ⟨_, _, rfl, .inl (rdx ex h1), rfl, _, _, rfl, _, _, rfl, _, _, rfl, rfl, q _ ⟨_, _, _, rfl, n1, n2, n3⟩⟩
end
end Sh

namespace Sh
open PySem L2
def topS (i : Nat) : Stmt := PySem.Challenge.pw_surehouse_k09_whole_sums.main.body.getD i (.Pass ⟨0, 0, 0, 0⟩)
end Sh

set_option Elab.async false
set_option linter.all false
set_option maxRecDepth 100000
set_option maxHeartbeats 4000000
namespace Sh
open PySem PySem.Spec L2
open PyProof.Rows hiding St
open Evl (Ex)
/-! ### is_between, is_row -/
abbrev s_is_between : Stmt := topS 4
theorem sc_is_between : FnScope ["value", "low", "high"] ["value", "low", "high"] (defScope s_is_between) := ⟨rfl, rfl, rfl, by decide +kernel, rfl, by decide +kernel, by decide +kernel⟩
abbrev s_is_row : Stmt := topS 5
theorem sc_is_row : FnScope ["value", "least", "most"] ["value", "least", "most"] (defScope s_is_row) := ⟨rfl, rfl, rfl, by decide +kernel, rfl, by decide +kernel, by decide +kernel⟩
def betweenD : D → Int → Int → Bool
  | .int i, lo, hi => decide (lo ≤ i) && decide (i ≤ hi)
  | _, _, _ => false
def domBetween (ds : List D) (c : D) : Prop := ∃ d lo hi, ds = [d, .int lo, .int hi] ∧ c = .bool (betweenD d lo hi)
/-- a tuple of least to most things -/
def rowD : D → Int → Int → Bool
  | .tuple ds, lo, hi => decide (lo ≤ (ds.length : Int)) && decide ((ds.length : Int) ≤ hi)
  | _, _, _ => false
def domRow (ds : List D) (c : D) : Prop := ∃ d lo hi, ds = [d, .int lo, .int hi] ∧ c = .bool (rowD d lo hi)
section
variable {P : Program} {w : World} {K : PySem.W.Frag} {mg : Str → Option Value} {base : Heap}
theorem keeps_between (B : Bi mg) (S : Stands K mg "is_between" s_is_between ["value", "low", "high"]) : Keeps P w K mg base CX0 1 "is_between" ["value", "low", "high"] (spD domBetween) := by
  refine keeps_of S sc_is_between (fun ds c h => ?_) (fun f cdv A outer s H E hr => ⟨_, (pss_one (ps_ret (pe_and (pe_callB call_isi rfl B.isinstance bi_isinstance (pa_cons (pv 0) (pa_cons (pe_ty B.int bi_int) pa_nil))) (pe_and (pe_not (pe_callB call_isi rfl B.isinstance bi_isinstance (pa_cons (pv 0) (pa_cons (pe_ty B.bool bi_bool) pa_nil)))) (pe_one (pe_chain op_le op_le (pv 1) (pv 0) (pv 2))))))), fun ds c vs G h n => ?_⟩)
  · obtain ⟨d, lo, hi, rfl, _⟩ := h
    rfl
  · obtain ⟨d, lo, hi, rfl, rfl⟩ := h
    obtain ⟨v, v1, v2, rfl, n0, n1, n2⟩ := dn3 n
    refine evs_ret (evd_is (evd_and (b := betweenD d lo hi) (evd_isi (evd_at n0) (kit_int d)) (fun h1 => evd_is (evd_and (b := betweenD d lo hi) (evd_not (evd_isi (evd_at n0) (kit_bool d))) (fun h2 => ?_)) ?_)) ?_)
    · cases d with
      | int i => exact evd_chain (evd_at n1) (evd_at n0) (evd_at n2) (r_I0 fun _ => .bl _) (fun _ => r_I0 fun _ => .bl _)
      | bool b => exact absurd (show false = true from h2) Bool.false_ne_true
      | _ => exact absurd (show false = true from h1) Bool.false_ne_true
    · cases d <;> rfl
    · cases d <;> rfl
theorem keeps_row (B : Bi mg) (S : Stands K mg "is_row" s_is_row ["value", "least", "most"]) : Keeps P w K mg base CX0 1 "is_row" ["value", "least", "most"] (spD domRow) := by
  refine keeps_of S sc_is_row (fun ds c h => ?_) (fun f cdv A outer s H E hr => ⟨_, (pss_one (ps_ret (pe_and (pe_callB call_isi rfl B.isinstance bi_isinstance (pa_cons (pv 0) (pa_cons (pe_ty B.tuple bi_tuple) pa_nil))) (pe_one (pe_chain op_le op_le (pv 1) (pe_callB call_len rfl B.len bi_len (pa_cons (pv 0) pa_nil)) (pv 2)))))), fun ds c vs G h n => ?_⟩)
  · obtain ⟨d, lo, hi, rfl, _⟩ := h
    rfl
  · obtain ⟨d, lo, hi, rfl, rfl⟩ := h
    obtain ⟨v, v1, v2, rfl, n0, n1, n2⟩ := dn3 n
    refine evs_ret (evd_is (evd_and (b := rowD d lo hi) (evd_isi (evd_at n0) (kit_tuple d)) (fun h1 => ?_)) ?_)
    · cases d with
      | tuple ds => exact evd_chain (evd_at n1) (evd_cb (ea_cons (evd_at n0) ea_nil) (r_lenT rfl)) (evd_at n2) (r_I0 fun _ => .bl _) (fun _ => r_I0 fun _ => .bl _)
      | _ => exact absurd (show false = true from h1) Bool.false_ne_true
    · cases d <;> rfl
end
end Sh

set_option Elab.async false
set_option linter.all false
/-! the mathematics of sums: parts by rests, parts by steps -/
namespace Sh
/-! sums -/
theorem perm_sum {α : Type} {f : α → Int} {l m : List α} (h : l.Perm m) : (l.map f).sum = (m.map f).sum := by
  induction h with
  | nil => rfl
  | cons x _ ih => rw [List.map_cons, List.map_cons, List.sum_cons, List.sum_cons, ih]
  | swap x y l => rw [List.map_cons, List.map_cons, List.map_cons, List.map_cons, List.sum_cons, List.sum_cons, List.sum_cons, List.sum_cons]; omega
  | trans _ _ h1 h2 => rw [h1, h2]
theorem sum_nonneg {α : Type} {f : α → Int} : ∀ {l : List α}, (∀ x ∈ l, 0 ≤ f x) → 0 ≤ (l.map f).sum
  | [], _ => Int.le_refl _
  | x :: l, h => by
    rw [List.map_cons, List.sum_cons]
    have h1 := h x List.mem_cons_self
    have h2 := sum_nonneg (l := l) fun y hy => h y (List.mem_cons_of_mem _ hy)
    omega
theorem sum_most {α : Type} {f : α → Int} {T : Int} : ∀ {l : List α}, (∀ x ∈ l, f x ≤ T) → (l.map f).sum ≤ (l.length : Int) * T
  | [], _ => by simp
  | x :: l, h => by
    rw [List.map_cons, List.sum_cons, List.length_cons]
    have h1 := h x List.mem_cons_self
    have h2 := sum_most (l := l) fun y hy => h y (List.mem_cons_of_mem _ hy)
    have e : ((l.length + 1 : Nat) : Int) * T = (l.length : Int) * T + T := by rw [Int.natCast_add, Int.add_mul]; simp
    omega
theorem sum_zero {α : Type} {f : α → Int} : ∀ {l : List α}, (∀ x ∈ l, f x = 0) → (l.map f).sum = 0
  | [], _ => rfl
  | x :: l, h => by
    rw [List.map_cons, List.sum_cons, h x List.mem_cons_self, sum_zero (l := l) fun y hy => h y (List.mem_cons_of_mem _ hy)]
    rfl
theorem sum_lin {α : Type} (f g : α → Int) (T : Int) : ∀ l : List α, (l.map fun x => f x - g x * T).sum = (l.map f).sum - (l.map g).sum * T
  | [] => by simp
  | x :: l => by
    simp only [List.map_cons, List.sum_cons]
    rw [sum_lin f g T l, Int.add_mul]
    omega
theorem sum_mul (a : Int) : ∀ l : List Int, (l.map fun w => a * w).sum = a * l.sum
  | [] => by simp
  | x :: l => by
    simp only [List.map_cons, List.sum_cons]
    rw [sum_mul a l, Int.mul_add]
/-! sorted by rests -/
def lexB2 (p q : Int × Int) : Bool := decide (p.1 < q.1) || (decide (p.1 = q.1) && decide (p.2 ≤ q.2))
theorem lexB2_iff {p q : Int × Int} : lexB2 p q = true ↔ lexLe p q := by
  unfold lexB2 lexLe
  simp only [Bool.or_eq_true, Bool.and_eq_true, decide_eq_true_eq]
def sortZ (ps : List (Int × Int)) : List (Int × Int) := ps.mergeSort lexB2
theorem sortZ_perm (ps : List (Int × Int)) : (sortZ ps).Perm ps := List.mergeSort_perm ps lexB2
theorem sortZ_le (ps : List (Int × Int)) : (sortZ ps).Pairwise lexLe := by
  refine (List.pairwise_mergeSort (le := lexB2) (fun a b c h1 h2 => ?_) (fun a b => ?_) ps).imp fun h => lexB2_iff.mp h
  · rw [lexB2_iff] at h1 h2 ⊢
    unfold lexLe at *
    omega
  · rw [Bool.or_eq_true, lexB2_iff, lexB2_iff]
    unfold lexLe
    omega
theorem sorted_is {ps qs : List (Int × Int)} (h : qs.Perm ps) (k : qs.Pairwise lexLe) : qs = sortZ ps :=
  List.Perm.eq_of_pairwise (fun a b _ _ h1 h2 => by
    unfold lexLe at h1 h2
    exact Prod.ext (by omega) (by omega)) k (sortZ_le ps) (h.trans (sortZ_perm ps).symm)
section
variable (a : Int) (ws : List Int)
def fl (w : Int) : Int := a * w / ws.sum
def rst (w : Int) : Int := a * w - fl a ws w * ws.sum
def floors : List Int := ws.map (fl a ws)
def restsF : List (Int × Int) := ws.zipIdx.map fun p => (-(rst a ws p.1), (p.2 : Int))
def kF : Int := a - (floors a ws).sum
def pickF : List (Int × Int) := (sortZ (restsF a ws)).take (kF a ws).toNat
def bump (l : List Int) (i : Nat) : List Int := l.set i (l.getD i 0 + 1)
def sharedF : List Int := (pickF a ws).foldl (fun l q => bump l q.2.toNat) (floors a ws)
def chosen (i : Nat) : Prop := (i : Int) ∈ (pickF a ws).map (·.2)
end
theorem bump_len (l : List Int) (i : Nat) : (bump l i).length = l.length := List.length_set
theorem bump_at (l : List Int) (i j : Nat) : (bump l i)[j]? = if i = j then (l[j]?).map (· + 1) else l[j]? := by
  unfold bump
  rw [List.getElem?_set]
  by_cases h : i = j
  · subst h
    rw [if_pos rfl, if_pos rfl]
    by_cases lt : i < l.length
    · rw [if_pos lt, List.getD_eq_getElem?_getD, List.getElem?_eq_getElem lt]
      rfl
    · rw [if_neg lt, List.getElem?_eq_none (by omega)]
      rfl
  · rw [if_neg h, if_neg h]
theorem bump_sum {l : List Int} {i : Nat} (h : i < l.length) : (bump l i).sum = l.sum + 1 := by
  unfold bump
  induction l generalizing i with
  | nil => simp at h
  | cons x l ih =>
    cases i with
    | zero =>
      simp only [List.set_cons_zero, List.sum_cons, List.getD_cons_zero]
      omega
    | succ i =>
      simp only [List.set_cons_succ, List.sum_cons, List.getD_cons_succ]
      rw [ih (by simpa using h)]
      omega
theorem bumps_len (qs : List (Int × Int)) : ∀ l : List Int, (qs.foldl (fun l q => bump l q.2.toNat) l).length = l.length := by
  induction qs with
  | nil => exact fun l => rfl
  | cons q qs ih => exact fun l => by rw [List.foldl_cons, ih, bump_len]
theorem bumps_sum {n : Nat} (qs : List (Int × Int)) : ∀ l : List Int, l.length = n → (∀ q ∈ qs, q.2.toNat < n) → (qs.foldl (fun l q => bump l q.2.toNat) l).sum = l.sum + qs.length := by
  induction qs with
  | nil => exact fun l _ _ => by simp
  | cons q qs ih =>
    intro l hl h
    rw [List.foldl_cons, ih _ (by rw [bump_len, hl]) fun r hr => h r (List.mem_cons_of_mem _ hr), bump_sum (by rw [hl]; exact h q List.mem_cons_self), List.length_cons]
    omega
theorem bumps_at (qs : List (Int × Int)) (j : Nat) : ∀ l : List Int, (∀ q ∈ qs, 0 ≤ q.2) → (qs.map (·.2)).Nodup → ∀ x, l[j]? = some x →
    ((j : Int) ∈ qs.map (·.2) → (qs.foldl (fun l q => bump l q.2.toNat) l)[j]? = some (x + 1)) ∧ ((j : Int) ∉ qs.map (·.2) → (qs.foldl (fun l q => bump l q.2.toNat) l)[j]? = some x) := by
  induction qs with
  | nil => exact fun l _ _ x e => ⟨fun h => (by cases h), fun _ => e⟩
  | cons q qs ih =>
    intro l hn nd x e
    rw [List.map_cons, List.nodup_cons] at nd
    have hq := hn q List.mem_cons_self
    have hn' := fun r hr => hn r (List.mem_cons_of_mem _ hr)
    by_cases h : q.2.toNat = j
    · have eq : q.2 = (j : Int) := by omega
      have e1 : (bump l q.2.toNat)[j]? = some (x + 1) := by rw [bump_at, if_pos h, e] <;> rfl
      obtain ⟨_, z⟩ := ih _ hn' nd.2 _ e1
      refine ⟨fun _ => ?_, fun k => ?_⟩
      · rw [List.foldl_cons]
        exact z (by rw [← eq]; exact nd.1)
      · exact absurd (by rw [List.map_cons, eq]; exact List.mem_cons_self) k
    · have ne : q.2 ≠ (j : Int) := by omega
      have e1 : (bump l q.2.toNat)[j]? = some x := by rw [bump_at, if_neg h, e]
      obtain ⟨z1, z2⟩ := ih _ hn' nd.2 _ e1
      refine ⟨fun k => ?_, fun k => ?_⟩
      · rw [List.foldl_cons]
        rw [List.map_cons] at k
        rcases List.mem_cons.mp k with k | k
        · exact absurd k.symm ne
        · exact z1 k
      · rw [List.foldl_cons]
        exact z2 fun m => k (List.mem_cons_of_mem _ m)
/-- what is asked of an amount and weights -/
structure SumOk (a : Int) (ws : List Int) : Prop where
  a0 : 0 ≤ a
  w0 : ∀ w ∈ ws, 0 ≤ w
  T : 0 < ws.sum
section
variable {a : Int} {ws : List Int}
theorem rst_lo (h : SumOk a ws) (w : Int) : 0 ≤ rst a ws w := by
  unfold rst fl
  have := Int.ediv_mul_le (a * w) (b := ws.sum) (by have := h.T; omega)
  omega
theorem rst_hi (h : SumOk a ws) (w : Int) : rst a ws w < ws.sum := by
  unfold rst fl
  have := Int.lt_ediv_add_one_mul_self (a * w) h.T
  rw [Int.add_mul] at this
  omega
theorem rst_mod (w : Int) : a * w % ws.sum = rst a ws w := by
  unfold rst fl
  rw [Int.emod_def, Int.mul_comm ws.sum]
theorem rests_sum : ((restsF a ws).map fun q => -q.1).sum = ws.sum * kF a ws := by
  unfold restsF kF floors
  rw [List.map_map]
  have e1 : ((fun q : Int × Int => -q.1) ∘ fun p : Int × Nat => (-(rst a ws p.1), (p.2 : Int))) = (rst a ws) ∘ (fun p : Int × Nat => p.1) := by
    funext p
    show - -(rst a ws p.1) = rst a ws p.1
    omega
  rw [e1, ← List.map_map, List.zipIdx_map_fst]
  have e2 := sum_lin (fun w => a * w) (fl a ws) ws.sum ws
  have e3 : ws.map (rst a ws) = ws.map fun w => a * w - fl a ws w * ws.sum := rfl
  rw [e3, e2, sum_mul, Int.mul_sub, Int.mul_comm ws.sum a, Int.mul_comm ws.sum]
theorem rests_len : (restsF a ws).length = ws.length := by
  unfold restsF
  rw [List.length_map, List.length_zipIdx]
theorem rests_mem {q : Int × Int} (h : q ∈ restsF a ws) : ∃ (i : Nat) (w : Int), ws[i]? = some w ∧ q = (-(rst a ws w), ((i : Nat) : Int)) := by
  unfold restsF at h
  obtain ⟨⟨w, i⟩, h1, rfl⟩ := List.mem_map.mp h
  have := List.mem_zipIdx_iff_getElem?.mp h1
  exact ⟨i, w, this, rfl⟩
theorem rests_at {i : Nat} {w : Int} (h : ws[i]? = some w) : (-(rst a ws w), (i : Int)) ∈ restsF a ws := by
  unfold restsF
  exact List.mem_map.mpr ⟨(w, i), List.mem_zipIdx_iff_getElem?.mpr h, rfl⟩
theorem rests_nd : ((restsF a ws).map (·.2)).Nodup := by
  unfold restsF
  rw [List.map_map]
  have e : ((fun q : Int × Int => q.2) ∘ fun p : Int × Nat => (-(rst a ws p.1), (p.2 : Int))) = (fun n : Nat => (n : Int)) ∘ (fun p : Int × Nat => p.2) := rfl
  rw [e, ← List.map_map, List.zipIdx_map_snd]
  refine List.Pairwise.map _ (fun x y h z => h (by have : (x : Int) = y := z; omega)) List.nodup_range'
theorem k_lo (h : SumOk a ws) : 0 ≤ kF a ws := by
  have e := rests_sum (a := a) (ws := ws)
  have s : 0 ≤ ((restsF a ws).map fun q => -q.1).sum := sum_nonneg fun q hq => by
    obtain ⟨i, w, _, rfl⟩ := rests_mem hq
    have := rst_lo h w
    show 0 ≤ - -(rst a ws w)
    omega
  rw [e] at s
  have T := h.T
  by_cases c : 0 ≤ kF a ws
  · exact c
  · have : ws.sum * kF a ws < 0 := Int.mul_neg_of_pos_of_neg T (by omega)
    omega
theorem k_hi (h : SumOk a ws) : kF a ws ≤ ws.length := by
  have e := rests_sum (a := a) (ws := ws)
  have s : ((restsF a ws).map fun q => -q.1).sum ≤ ((restsF a ws).length : Int) * ws.sum := sum_most fun q hq => by
    obtain ⟨i, w, _, rfl⟩ := rests_mem hq
    have := rst_hi h w
    show - -(rst a ws w) ≤ _
    omega
  rw [e, rests_len, Int.mul_comm (ws.length : Int)] at s
  exact Int.le_of_mul_le_mul_left s h.T
theorem pick_sub {q : Int × Int} (h : q ∈ pickF a ws) : q ∈ restsF a ws := (sortZ_perm _).mem_iff.mp (List.mem_of_mem_take h)
theorem pick_nd : ((pickF a ws).map (·.2)).Nodup := by
  unfold pickF
  rw [List.map_take]
  exact ((sortZ_perm (restsF a ws)).map (·.2)).nodup_iff.mpr rests_nd |>.sublist (List.take_sublist _ _)
theorem pick_len (h : SumOk a ws) : ((pickF a ws).length : Int) = kF a ws := by
  unfold pickF
  rw [List.length_take, (sortZ_perm _).length_eq, rests_len]
  have := k_lo h
  have := k_hi h
  omega
theorem pick_at {q : Int × Int} (h : q ∈ pickF a ws) : 0 ≤ q.2 ∧ q.2.toNat < ws.length := by
  obtain ⟨i, w, h1, rfl⟩ := rests_mem (pick_sub h)
  have := (List.getElem?_eq_some_iff.mp h1).1
  exact ⟨Int.natCast_nonneg i, by show ((i : Int)).toNat < ws.length; omega⟩
theorem floors_len : (floors a ws).length = ws.length := List.length_map _
theorem shared_len : (sharedF a ws).length = ws.length := by
  unfold sharedF
  rw [bumps_len]
  exact List.length_map _
theorem shared_sum (h : SumOk a ws) : (sharedF a ws).sum = a := by
  unfold sharedF
  rw [bumps_sum (n := ws.length) _ _ floors_len fun q hq => (pick_at hq).2, pick_len h]
  unfold kF
  omega
theorem shared_at {i : Nat} {w : Int} (e : ws[i]? = some w) : (chosen a ws i → (sharedF a ws)[i]? = some (fl a ws w + 1)) ∧ (¬ chosen a ws i → (sharedF a ws)[i]? = some (fl a ws w)) := by
  unfold sharedF chosen
  refine bumps_at (pickF a ws) i (floors a ws) (fun q hq => (pick_at hq).1) pick_nd _ ?_
  unfold floors
  rw [List.getElem?_map, e]
  rfl
theorem chosen_mem {i : Nat} {w : Int} (e : ws[i]? = some w) : chosen a ws i ↔ (-(rst a ws w), (i : Int)) ∈ pickF a ws := by
  unfold chosen
  constructor
  · intro h
    obtain ⟨q, h1, h2⟩ := List.mem_map.mp h
    obtain ⟨j, v, h3, rfl⟩ := rests_mem (pick_sub h1)
    have : (j : Int) = i := h2
    have : j = i := by omega
    subst this
    rw [e] at h3
    cases h3
    exact h1
  · intro h
    exact List.mem_map.mpr ⟨_, h, rfl⟩
/-- the greatest rests, first ones first -/
theorem pick_order {i j : Nat} {v w : Int} (hi : ws[i]? = some v) (hj : ws[j]? = some w) (ni : ¬ chosen a ws i) (cj : chosen a ws j) : ¬ (rst a ws v > rst a ws w ∨ (rst a ws v = rst a ws w ∧ i < j)) := by
  rw [chosen_mem hi] at ni
  rw [chosen_mem hj] at cj
  have mi : (-(rst a ws v), (i : Int)) ∈ sortZ (restsF a ws) := (sortZ_perm _).mem_iff.mpr (rests_at hi)
  rw [← List.take_append_drop (kF a ws).toNat (sortZ (restsF a ws))] at mi
  have di : (-(rst a ws v), (i : Int)) ∈ (sortZ (restsF a ws)).drop (kF a ws).toNat := by
    rcases List.mem_append.mp mi with m | m
    · exact absurd m ni
    · exact m
  have p := sortZ_le (restsF a ws)
  rw [← List.take_append_drop (kF a ws).toNat (sortZ (restsF a ws)), List.pairwise_append] at p
  have z := p.2.2 _ cj _ di
  unfold lexLe at z
  have z : -(rst a ws w) < -(rst a ws v) ∨ (-(rst a ws w) = -(rst a ws v) ∧ (j : Int) ≤ i) := z
  omega
/-- none of them is 0 -/
theorem pick_pos (h : SumOk a ws) {i : Nat} {w : Int} (e : ws[i]? = some w) (c : chosen a ws i) : rst a ws w ≠ 0 := fun z => by
  rw [chosen_mem e] at c
  unfold pickF at c
  obtain ⟨n, hn, en⟩ := List.mem_take_iff_getElem.mp c
  have lt : n < (kF a ws).toNat := by omega
  have lt2 : n < (sortZ (restsF a ws)).length := by omega
  have sp : sortZ (restsF a ws) = (sortZ (restsF a ws)).take n ++ (sortZ (restsF a ws)).drop n := (List.take_append_drop _ _).symm
  have p := sortZ_le (restsF a ws)
  have dz : ∀ q ∈ (sortZ (restsF a ws)).drop n, -q.1 = 0 := fun q hq => by
    rw [List.drop_eq_getElem_cons lt2, en] at hq
    have p2 := p.sublist (List.drop_sublist n _)
    rw [List.drop_eq_getElem_cons lt2, en, List.pairwise_cons] at p2
    have lo : ∀ q ∈ sortZ (restsF a ws), q.1 ≤ 0 := fun q hq => by
      obtain ⟨j, v, _, rfl⟩ := rests_mem ((sortZ_perm _).mem_iff.mp hq)
      have := rst_lo h v
      show -(rst a ws v) ≤ 0
      omega
    rcases List.mem_cons.mp hq with rfl | hq
    · show - -(rst a ws w) = 0
      omega
    · have y := p2.1 q hq
      have y : -(rst a ws w) < q.1 ∨ (-(rst a ws w) = q.1 ∧ _) := y
      have l := lo q (List.mem_of_mem_drop (i := n + 1) hq)
      omega
  have s1 : ((sortZ (restsF a ws)).map fun q => -q.1).sum = ws.sum * kF a ws := by rw [perm_sum (sortZ_perm _), rests_sum]
  rw [sp, List.map_append, List.sum_append, sum_zero dz] at s1
  have s2 : (((sortZ (restsF a ws)).take n).map fun q => -q.1).sum ≤ (((sortZ (restsF a ws)).take n).length : Int) * ws.sum := sum_most fun q hq => by
    obtain ⟨j, v, _, rfl⟩ := rests_mem ((sortZ_perm _).mem_iff.mp (List.mem_of_mem_take hq))
    have := rst_hi h v
    show - -(rst a ws v) ≤ _
    omega
  rw [List.length_take, Nat.min_eq_left (by omega)] at s2
  have T := h.T
  have s3 : (n : Int) * ws.sum < kF a ws * ws.sum := Int.mul_lt_mul_of_pos_right (by omega) T
  rw [Int.mul_comm (kF a ws)] at s3
  omega
end
/-! by steps -/
section
variable (a : Int) (ws : List Int)
def upS (i : Nat) : Int := a * (ws.take i).sum / ws.sum
def stepF : List Int := (List.range ws.length).map fun i => upS a ws (i + 1) - upS a ws i
end
theorem steps_sum {a : Int} {ws : List Int} : ∀ k, k ≤ ws.length → ((stepF a ws).take k).sum = upS a ws k
  | 0, _ => by
    unfold upS
    simp
  | k + 1, h => by
    have e : (stepF a ws)[k]? = some (upS a ws (k + 1) - upS a ws k) := by
      unfold stepF
      rw [List.getElem?_map, List.getElem?_range (by omega)]
      rfl
    rw [List.take_add_one, e, List.sum_append, steps_sum k (by omega)]
    simp
    omega
theorem steps_len {a : Int} {ws : List Int} : (stepF a ws).length = ws.length := by
  unfold stepF
  rw [List.length_map, List.length_range]
theorem steps_all {a : Int} {ws : List Int} (h : 0 < ws.sum) : (stepF a ws).sum = a := by
  have z := steps_sum (a := a) (ws := ws) ws.length (Nat.le_refl _)
  rw [← steps_len (a := a), List.take_length] at z
  rw [z]
  unfold upS
  rw [steps_len, List.take_length]
  exact Int.mul_ediv_cancel _ (by omega)
end Sh

set_option Elab.async false
set_option linter.all false
set_option maxRecDepth 100000
set_option maxHeartbeats 4000000
/-! sums: the checks, taxed, net_of -/
namespace Sh
open PySem PySem.Spec L2
open PyProof.Rows hiding St
open Evl (Ex)
open ShW (rSumK)
abbrev MOST : Int := 1000000000000
def Most (mg : Str → Option Value) : Prop := ∃ t, mg "MOST" = some (.int 1000000000000 t)
def amtB (d : D) : Bool := betweenD d 0 MOST
def rateB (d : D) : Bool := betweenD d 0 999
def intOf : D → Int
  | .int i => i
  | _ => 0
def wOk : D → Bool
  | .tuple es => rowD (.tuple es) 1 40 && (es.all amtB && !decide ((es.map intOf).sum = 0))
  | _ => false
theorem amt_int {d : D} (h : amtB d = true) : ∃ i, d = .int i ∧ 0 ≤ i ∧ i ≤ MOST := by
  cases d with
  | int i =>
    have z : (decide (0 ≤ i) && decide (i ≤ MOST)) = true := h
    rw [Bool.and_eq_true, decide_eq_true_eq, decide_eq_true_eq] at z
    exact ⟨i, rfl, z⟩
  | _ => cases h
theorem rate_int {d : D} (h : rateB d = true) : ∃ i, d = .int i ∧ 0 ≤ i ∧ i ≤ 999 := by
  cases d with
  | int i =>
    have z : (decide (0 ≤ i) && decide (i ≤ 999)) = true := h
    rw [Bool.and_eq_true, decide_eq_true_eq, decide_eq_true_eq] at z
    exact ⟨i, rfl, z⟩
  | _ => cases h
theorem all_ints : ∀ {es : List D}, es.all amtB = true → es = intL (es.map intOf)
  | [], _ => rfl
  | d :: es, h => by
    rw [List.all_cons, Bool.and_eq_true] at h
    obtain ⟨i, rfl, _⟩ := amt_int h.1
    show PyData.int i :: es = .int i :: intL (es.map intOf)
    rw [← all_ints h.2]
def unit1 (b : Bool) : Option D := if b then some .none else none
def dom1 (f : D → Bool) (ds : List D) (o : Option D) : Prop := ∃ d, ds = [d] ∧ (∀ es, d = .tuple es → es.length ≤ 1000) ∧ o = unit1 (f d)
section
variable {P : Program} {w : World} {K : PySem.W.Frag} {mg : Str → Option Value} {base : Heap} {C : Addr}
abbrev s_check_amount : Stmt := topS 8
theorem sc_check_amount : FnScope ["amount"] ["amount"] (defScope s_check_amount) := ⟨rfl, rfl, rfl, by decide +kernel, rfl, by decide +kernel, by decide +kernel⟩
theorem keeps_amount (er : ErrC K mg "BadNumber" C) (M : Most mg) (S : Stands K mg "check_amount" s_check_amount ["amount"]) (K_is_between : Keeps P w K mg base CX0 1 "is_between" ["value", "low", "high"] (spD domBetween)) :
    Keeps P w K mg base (L2N.CX P w) 2 "check_amount" ["amount"] (spR C (dom1 amtB)) := by
  obtain ⟨tM, cM⟩ := M
  refine keeps_ofR S sc_check_amount (fun ds c h => ?_) (fun f cdv A outer s H E hr => ⟨_, (pss_one (ps_if (pt_not (pt_val (pe_callD K_is_between (hr.mono (by omega)) (pa_cons (pv 0) (pa_cons pe_int (pa_cons (pe_glob (v := .int 1000000000000) rfl cM ⟨tM, rfl⟩) pa_nil)))))) (pss_one (ps_raiseC er rfl (L2N.takes_of rfl rfl rfl rfl) rfl)) pss_nil)), fun ds c vs G h n => ?_⟩)
  · obtain ⟨d, rfl, _⟩ := h
    rfl
  · obtain ⟨d, rfl, _, rfl⟩ := h
    obtain ⟨v, rfl, n0⟩ := one_of n
    have t1 := evt_not (evt_B (evd_call (E := E0) (ea_cons (evd_at (σ := start ["amount"] [v]) (i := 0) n0) (ea_cons (evd_int (i := 0)) (ea_cons (evd_int (i := MOST)) ea_nil))) (show domBetween [d, .int 0, .int MOST] (.bool (amtB d)) from ⟨d, 0, MOST, rfl, rfl⟩)))
    cases hb : amtB d with
    | true =>
      rw [hb] at t1
      exact evx_if (b := false) t1 (fun z => nomatch z) (fun _ => evx_ret (evd_c .non))
    | false =>
      rw [hb] at t1
      exact evx_if (b := true) t1 (fun _ => evx_raise) (fun z => nomatch z)
abbrev s_check_rate : Stmt := topS 10
theorem sc_check_rate : FnScope ["rate"] ["rate"] (defScope s_check_rate) := ⟨rfl, rfl, rfl, by decide +kernel, rfl, by decide +kernel, by decide +kernel⟩
theorem keeps_rate (er : ErrC K mg "BadNumber" C) (S : Stands K mg "check_rate" s_check_rate ["rate"]) (K_is_between : Keeps P w K mg base CX0 1 "is_between" ["value", "low", "high"] (spD domBetween)) :
    Keeps P w K mg base (L2N.CX P w) 2 "check_rate" ["rate"] (spR C (dom1 rateB)) := by
  refine keeps_ofR S sc_check_rate (fun ds c h => ?_) (fun f cdv A outer s H E hr => ⟨_, (pss_one (ps_if (pt_not (pt_val (pe_callD K_is_between (hr.mono (by omega)) (pa_cons (pv 0) (pa_cons pe_int (pa_cons pe_int pa_nil)))))) (pss_one (ps_raiseC er rfl (L2N.takes_of rfl rfl rfl rfl) rfl)) pss_nil)), fun ds c vs G h n => ?_⟩)
  · obtain ⟨d, rfl, _⟩ := h
    rfl
  · obtain ⟨d, rfl, _, rfl⟩ := h
    obtain ⟨v, rfl, n0⟩ := one_of n
    have t1 := evt_not (evt_B (evd_call (E := E0) (ea_cons (evd_at (σ := start ["rate"] [v]) (i := 0) n0) (ea_cons (evd_int (i := 0)) (ea_cons (evd_int (i := 999)) ea_nil))) (show domBetween [d, .int 0, .int 999] (.bool (rateB d)) from ⟨d, 0, 999, rfl, rfl⟩)))
    cases hb : rateB d with
    | true =>
      rw [hb] at t1
      exact evx_if (b := false) t1 (fun z => nomatch z) (fun _ => evx_ret (evd_c .non))
    | false =>
      rw [hb] at t1
      exact evx_if (b := true) t1 (fun _ => evx_raise) (fun z => nomatch z)
abbrev s_check_weights : Stmt := topS 9
theorem sc_check_weights : FnScope ["weights", "weight"] ["weights"] (defScope s_check_weights) := ⟨rfl, rfl, rfl, by decide +kernel, rfl, by decide +kernel, by decide +kernel⟩
theorem keeps_weights (B : Bi mg) (er : ErrC K mg "BadNumber" C) (M : Most mg) (S : Stands K mg "check_weights" s_check_weights ["weights"]) (K_is_between : Keeps P w K mg base CX0 1 "is_between" ["value", "low", "high"] (spD domBetween)) (K_is_row : Keeps P w K mg base CX0 1 "is_row" ["value", "least", "most"] (spD domRow)) :
    Keeps P w K mg base (L2N.CX P w) 2 "check_weights" ["weights"] (spR C (dom1 wOk)) := by
  obtain ⟨tM, cM⟩ := M
  refine keeps_ofR S sc_check_weights (fun ds c h => ?_) (fun f cdv A outer s H E hr => ⟨_, (pss_one (ps_if (PW.pt (pw_or (pt_not (pt_val (pe_callD K_is_row (hr.mono (by omega)) (pa_cons (pv 0) (pa_cons pe_int (pa_cons pe_int pa_nil)))))) (pw_or (pt_not (pt_val (pe_callB (cr_all rfl) rfl B.all bi_all (pa_cons (pe_lc (own := [("weight", 1)]) (g := gName 1) (tt := tYes) rfl sc_check_weights.nd (pi_tup (pv 0)) (blkOk_by (N := ["weights", "weight"]) (sc := defScope s_check_weights) (by decide +kernel)) (fun _ _ _ _ _ => (pg_name (i := 1) sc_check_weights.nd rfl (.inl rfl))) (fun _ _ _ _ _ => pts_nil) (fun _ _ _ _ _ => (pe_callD K_is_between (hr.mono (by omega)) (pa_cons (pv 1) (pa_cons pe_int (pa_cons (pe_glob (v := .int 1000000000000) rfl cM ⟨tM, rfl⟩) pa_nil)))))) pa_nil)))) (pw_or1 (pt_cmpR op_eq (pe_callB (ShW.cr_sumK (k := .t) rfl) rfl B.sum bi_sum (pa_cons (pv 0) pa_nil)) pe_int (nomark _)))))) (pss_one (ps_raiseC er rfl (L2N.takes_of rfl rfl rfl rfl) rfl)) pss_nil)), fun ds c vs G h n => ?_⟩)
  · obtain ⟨d, rfl, _⟩ := h
    rfl
  · obtain ⟨d, rfl, few, rfl⟩ := h
    obtain ⟨v, rfl, n0⟩ := one_of n
    refine evx_if (b := !wOk d) (evt_is (evt_or (a := !rowD d 1 40) (evt_not (evt_B (evd_call (E := E0) (ea_cons (evd_at n0) (ea_cons (evd_int (i := 1)) (ea_cons (evd_int (i := 40)) ea_nil))) ⟨d, 1, 40, rfl, rfl⟩))) (b := !wOk d) (fun hrow => ?_)) ?_) (fun hb => ?_) (fun hb => ?_)
    · rw [Bool.not_eq_false'] at hrow
      cases d with
      | tuple es =>
        have few := few es rfl
        have hw : wOk (.tuple es) = (es.all amtB && !decide ((es.map intOf).sum = 0)) := by
          show (rowD (.tuple es) 1 40 && _) = _
          rw [hrow, Bool.true_and]
        rw [hw, Bool.not_and, Bool.not_not]
        refine evt_or (evt_not (evt_B (evd_cb (ea_cons (evd_is (d' := .list (boolL (es.map amtB))) (evd_lcN (r := fun d => .bool (amtB d)) (ei_tup (evd_at n0)) (by omega) (fun x => rfl) (fun d hd y G1 e1 ny => ?_)) ?_) ea_nil) (r_all (b := es.all amtB) ?_)))) (fun hall => ?_)
        · exact evd_call (ea_cons (evd_at ny) (ea_cons (evd_int (i := 0)) (ea_cons (evd_int (i := MOST)) ea_nil))) ⟨d, 0, MOST, rfl, rfl⟩
        · unfold boolL
          rw [List.map_map]
          rfl
        · rw [List.all_map]
          rfl
        · rw [Bool.not_eq_false'] at hall
          have ei := all_ints hall
          have n0' : Dn G v (.tuple (intL (es.map intOf))) := by
            rw [← ei]
            exact n0
          exact evt_test (evd_op (evd_cb (ea_cons (evd_at n0') ea_nil) (r_sumK (k := .t) (ns := es.map intOf) rfl)) evd_int (r_eq rfl))
      | _ => cases hrow
    · cases d with
      | tuple es =>
        show (!rowD (.tuple es) 1 40 || !(rowD (.tuple es) 1 40 && _)) = !(rowD (.tuple es) 1 40 && _)
        cases rowD (.tuple es) 1 40 <;> rfl
      | _ => rfl
    · rw [Bool.not_eq_true'] at hb
      rw [hb]
      exact evx_raise
    · rw [Bool.not_eq_false'] at hb
      rw [hb]
      exact evx_ret (evd_c .non)
def taxZ (n r : Int) : Int := (n * r + 500) / 1000
def taxF : D → D → Option D
  | .int n, .int r => if amtB (.int n) then (if rateB (.int r) then some (.int (taxZ n r)) else none) else none
  | _, _ => none
def netZ (g r : Int) : Int := (1000 * g + 499) / (1000 + r)
def netF : D → D → Option D
  | .int n, .int r => if amtB (.int n) then (if rateB (.int r) then some (.int (netZ n r)) else none) else none
  | _, _ => none
def noT (d : D) : Prop := ∀ es, d = .tuple es → es.length ≤ 1000
def dom2 (f : D → D → Option D) (ds : List D) (o : Option D) : Prop := ∃ d e, ds = [d, e] ∧ noT d ∧ noT e ∧ o = f d e
abbrev s_taxed : Stmt := topS 13
theorem sc_taxed : FnScope ["net", "rate"] ["net", "rate"] (defScope s_taxed) := ⟨rfl, rfl, rfl, by decide +kernel, rfl, by decide +kernel, by decide +kernel⟩
theorem keeps_taxed (S : Stands K mg "taxed" s_taxed ["net", "rate"]) (K_check_amount : Keeps P w K mg base (L2N.CX P w) 2 "check_amount" ["amount"] (spR C (dom1 amtB))) (K_check_rate : Keeps P w K mg base (L2N.CX P w) 2 "check_rate" ["rate"] (spR C (dom1 rateB))) :
    Keeps P w K mg base (L2N.CX P w) 3 "taxed" ["net", "rate"] (spR C (dom2 taxF)) := by
  refine keeps_ofR2 S sc_taxed (fun ds c h => ?_) (fun f cdv A outer s H E hr => ⟨_, (pss_cons (ps_expr (pe_callR K_check_amount (hr.mono (by decide)) (L2N.takes_of rfl rfl rfl rfl) (pa_cons (pv 0) pa_nil)))
    (pss_cons (ps_expr (pe_callR K_check_rate (hr.mono (by decide)) (L2N.takes_of rfl rfl rfl rfl) (pa_cons (pv 1) pa_nil)))
    (pss_one (ps_ret (pe_op op_fdivN (pe_op op_add (pe_op op_mul (pv 0) (pv 1)) pe_int) pe_int))))), fun ds c vs G h n => ?_⟩)
  · obtain ⟨d, e, rfl, _⟩ := h
    rfl
  · obtain ⟨d, e, rfl, t1, t2, rfl⟩ := h
    obtain ⟨v, v1, rfl, n0, n1⟩ := two_of n
    refine evx_dropR (o1 := unit1 (amtB d)) (ea_cons (evd_at n0) ea_nil) ⟨d, rfl, t1, rfl⟩ (fun c1 e1 G1 x1 => ?_) (fun e1 => ?_)
    · have a : amtB d = true := by
        cases h : amtB d with
        | true => rfl
        | false => rw [h] at e1; cases e1
      obtain ⟨i, rfl, i0, i1⟩ := amt_int a
      refine evx_dropR (o1 := unit1 (rateB e)) (ea_cons (evd_at n1 x1) ea_nil) ⟨e, rfl, t2, rfl⟩ (fun c2 e2 G2 x2 => ?_) (fun e2 => ?_)
      · have b : rateB e = true := by
          cases h : rateB e with
          | true => rfl
          | false => rw [h] at e2; cases e2
        obtain ⟨j, rfl, j0, j1⟩ := rate_int b
        have eo : taxF (.int i) (.int j) = some (.int (taxZ i j)) := by
          show (if amtB (.int i) then (if rateB (.int j) then _ else none) else none) = _
          rw [if_pos a, if_pos b]
        rw [eo]
        have x12 := x1.trans x2
        refine evx_ret (evd_is (evd_op (evd_op (evd_op (evd_at n0 x12) (evd_at n1 x12) (r_I (.inr ⟨by omega, by omega⟩) fun _ => .int _)) evd_int (r_I0 fun _ => .int _)) evd_int (r_I ⟨by decide, by decide⟩ fun _ => .int _)) ?_)
        show PyData.int ((i * j + 500).fdiv 1000) = .int (taxZ i j)
        rw [Int.fdiv_eq_ediv_of_nonneg _ (by decide)]
        rfl
      · have b : rateB e = false := by
          cases h : rateB e with
          | false => rfl
          | true => rw [h] at e2; cases e2
        cases e with
        | int j =>
          show (if amtB (.int i) then (if rateB (.int j) then _ else none) else none) = none
          rw [if_pos a, if_neg (by rw [b]; decide)]
        | _ => rfl
    · have a : amtB d = false := by
        cases h : amtB d with
        | false => rfl
        | true => rw [h] at e1; cases e1
      cases d with
      | int i =>
        cases e with
        | int j =>
          show (if amtB (.int i) then (if rateB (.int j) then _ else none) else none) = none
          rw [if_neg (by rw [a]; decide)]
        | _ => rfl
      | _ => rfl
abbrev s_net_of : Stmt := topS 14
theorem sc_net_of : FnScope ["gross", "rate"] ["gross", "rate"] (defScope s_net_of) := ⟨rfl, rfl, rfl, by decide +kernel, rfl, by decide +kernel, by decide +kernel⟩
theorem keeps_net (S : Stands K mg "net_of" s_net_of ["gross", "rate"]) (K_check_amount : Keeps P w K mg base (L2N.CX P w) 2 "check_amount" ["amount"] (spR C (dom1 amtB))) (K_check_rate : Keeps P w K mg base (L2N.CX P w) 2 "check_rate" ["rate"] (spR C (dom1 rateB))) :
    Keeps P w K mg base (L2N.CX P w) 3 "net_of" ["gross", "rate"] (spR C (dom2 fun d e => match d, e with | .int n, .int r => if amtB (.int n) && rateB (.int r) then some (.int (netZ n r)) else none | _, _ => none)) := by
  refine keeps_ofR2 S sc_net_of (fun ds c h => ?_) (fun f cdv A outer s H E hr => ⟨_, (pss_cons (ps_expr (pe_callR K_check_amount (hr.mono (by decide)) (L2N.takes_of rfl rfl rfl rfl) (pa_cons (pv 0) pa_nil)))
    (pss_cons (ps_expr (pe_callR K_check_rate (hr.mono (by decide)) (L2N.takes_of rfl rfl rfl rfl) (pa_cons (pv 1) pa_nil)))
    (pss_one (ps_ret (pe_op op_fdivN (pe_op op_add (pe_op op_mul pe_int (pv 0)) pe_int) (pe_op op_add pe_int (pv 1))))))), fun ds c vs G h n => ?_⟩)
  · obtain ⟨d, e, rfl, _⟩ := h
    rfl
  · obtain ⟨d, e, rfl, t1, t2, rfl⟩ := h
    obtain ⟨v, v1, rfl, n0, n1⟩ := two_of n
    refine evx_dropR (o1 := unit1 (amtB d)) (ea_cons (evd_at n0) ea_nil) ⟨d, rfl, t1, rfl⟩ (fun c1 e1 G1 x1 => ?_) (fun e1 => ?_)
    · have a : amtB d = true := by
        cases h : amtB d with
        | true => rfl
        | false => rw [h] at e1; cases e1
      obtain ⟨i, rfl, i0, i1⟩ := amt_int a
      refine evx_dropR (o1 := unit1 (rateB e)) (ea_cons (evd_at n1 x1) ea_nil) ⟨e, rfl, t2, rfl⟩ (fun c2 e2 G2 x2 => ?_) (fun e2 => ?_)
      · have b : rateB e = true := by
          cases h : rateB e with
          | true => rfl
          | false => rw [h] at e2; cases e2
        obtain ⟨j, rfl, j0, j1⟩ := rate_int b
        show EvX _ _ _ _ _ (if amtB (.int i) && rateB (.int j) then some (.int (netZ i j)) else none)
        rw [a, b, if_pos (by decide)]
        have x12 := x1.trans x2
        refine evx_ret (evd_is (evd_op (evd_op (evd_op evd_int (evd_at n0 x12) (r_I (.inl ⟨by decide, by decide⟩) fun _ => .int _)) evd_int (r_I0 fun _ => .int _)) (evd_op evd_int (evd_at n1 x12) (r_I0 fun _ => .int _)) (r_I ⟨by omega, by omega⟩ fun _ => .int _)) ?_)
        show PyData.int ((1000 * i + 499).fdiv (1000 + j)) = .int (netZ i j)
        rw [Int.fdiv_eq_ediv_of_nonneg _ (by omega)]
        rfl
      · have b : rateB e = false := by
          cases h : rateB e with
          | false => rfl
          | true => rw [h] at e2; cases e2
        cases e with
        | int j =>
          show (if amtB (.int i) && rateB (.int j) then _ else none) = none
          rw [b, Bool.and_false, if_neg (by decide)]
        | _ => rfl
    · have a : amtB d = false := by
        cases h : amtB d with
        | false => rfl
        | true => rw [h] at e1; cases e1
      cases d with
      | int i =>
        cases e with
        | int j =>
          show (if amtB (.int i) && rateB (.int j) then _ else none) = none
          rw [a, Bool.false_and, if_neg (by decide)]
        | _ => rfl
      | _ => rfl
end
end Sh

set_option Elab.async false
set_option linter.all false
set_option maxRecDepth 100000
set_option maxHeartbeats 4000000
/-! sums: stepped -/
namespace Sh
open PySem PySem.Spec L2
open PyProof.Rows hiding St
open Evl (Ex)
open ShW (rSumK)
/-- parts of an amount by weights: as f tells, or the error -/
def domParts (f : Int → List Int → List Int) (ds : List D) (o : Option D) : Prop := ∃ d e, ds = [d, e] ∧ noT d ∧ noT e ∧
  ((amtB d && wOk e) = true → ∃ a ws, d = .int a ∧ e = .tuple (intL ws) ∧ (∀ w ∈ ws, w ≤ 1000) ∧ o = some (.tuple (intL (f a ws)))) ∧ ((amtB d && wOk e) = false → o = none)
structure WOk (ws : List Int) : Prop where
  len : ws.length ≤ 40
  lo : ∀ w ∈ ws, 0 ≤ w
  T : 0 < ws.sum
theorem nonneg_sum : ∀ {ws : List Int}, (∀ w ∈ ws, 0 ≤ w) → 0 ≤ ws.sum
  | [], _ => Int.le_refl _
  | w :: ws, h => by
    rw [List.sum_cons]
    have h1 := h w List.mem_cons_self
    have h2 := nonneg_sum (ws := ws) fun x hx => h x (List.mem_cons_of_mem _ hx)
    omega
theorem intOf_int (ws : List Int) : (intL ws).map intOf = ws := by
  unfold intL
  rw [List.map_map]
  exact List.map_id _
theorem wOk_of {ws : List Int} (h : wOk (.tuple (intL ws)) = true) : WOk ws := by
  have h : (rowD (.tuple (intL ws)) 1 40 && ((intL ws).all amtB && !decide (((intL ws).map intOf).sum = 0))) = true := h
  rw [Bool.and_eq_true, Bool.and_eq_true, Bool.not_eq_true', decide_eq_false_iff_not, intOf_int] at h
  obtain ⟨h1, h2, h3⟩ := h
  have h1 : (decide (1 ≤ ((intL ws).length : Int)) && decide (((intL ws).length : Int) ≤ 40)) = true := h1
  rw [Bool.and_eq_true, decide_eq_true_eq, decide_eq_true_eq] at h1
  have len : (intL ws).length = ws.length := List.length_map _
  have lo : ∀ w ∈ ws, 0 ≤ w := fun w hw => by
    have z := List.all_eq_true.mp h2 (.int w) (List.mem_map.mpr ⟨w, hw, rfl⟩)
    obtain ⟨i, e, i0, _⟩ := amt_int z
    cases e
    exact i0
  have := nonneg_sum lo
  exact ⟨by omega, lo, by omega⟩
theorem sum_big {ws : List Int} (h : WOk ws) (m : ∀ w ∈ ws, w ≤ 1000) : ws.sum ≤ 40000 := by
  have z := sum_most (f := fun w : Int => w) (T := 1000) (l := ws) m
  rw [List.map_id'] at z
  have := h.len
  omega
theorem take_sum_lo {ws : List Int} (h : WOk ws) (i : Nat) : 0 ≤ (ws.take i).sum := nonneg_sum fun w hw => h.lo w (List.mem_of_mem_take hw)
section
variable {P : Program} {w : World} {K : PySem.W.Frag} {mg : Str → Option Value} {base : Heap} {C : Addr}
theorem two_checks {xk : XK} {σ : L2.St} {G : Hp} {d e : D} {v v1 : V} {o : Option D} {u : TS} {i j : Nat} (n0 : Dn G v d) (n1 : Dn G v1 e) (hi : σ[i]? = some (some v)) (hj : σ[j]? = some (some v1)) (t1 : noT d) (t2 : noT e) (no : (amtB d && wOk e) = false → o = none)
    (k : (amtB d && wOk e) = true → ∀ G2, Ex G G2 → EvX xk C u σ G2 o) :
    EvX xk C (tSeq (tDrop (tCallS (spR C (dom1 amtB)) (WE (wOut xk)) (tCons (tVar i) tNil))) (tSeq (tDrop (tCallS (spR C (dom1 wOk)) (WE (wOut xk)) (tCons (tVar j) tNil))) u)) σ G o := by
  refine evx_dropR (o1 := unit1 (amtB d)) (ea_cons (evd_at n0 (Ex.refl _) hi) ea_nil) ⟨d, rfl, t1, rfl⟩ (fun c1 e1 G1 x1 => ?_) (fun e1 => ?_)
  · have a : amtB d = true := by
      cases h : amtB d with
      | true => rfl
      | false => rw [h] at e1; cases e1
    refine evx_dropR (o1 := unit1 (wOk e)) (ea_cons (evd_at n1 x1 hj) ea_nil) ⟨e, rfl, t2, rfl⟩ (fun c2 e2 G2 x2 => ?_) (fun e2 => ?_)
    · have b : wOk e = true := by
        cases h : wOk e with
        | true => rfl
        | false => rw [h] at e2; cases e2
      exact k (by rw [a, b]; rfl) G2 (x1.trans x2)
    · have b : wOk e = false := by
        cases h : wOk e with
        | false => rfl
        | true => rw [h] at e2; cases e2
      exact no (by rw [b, Bool.and_false])
  · have a : amtB d = false := by
      cases h : amtB d with
      | false => rfl
      | true => rw [h] at e1; cases e1
    exact no (by rw [a, Bool.false_and])
abbrev s_stepped : Stmt := topS 12
theorem sc_stepped : FnScope ["amount", "weights", "total", "parts", "weight_so_far", "given", "weight", "part"] ["amount", "weights"] (defScope s_stepped) := ⟨rfl, rfl, rfl, by decide +kernel, rfl, by decide +kernel, by decide +kernel⟩
theorem keeps_stepped (B : Bi mg) (S : Stands K mg "stepped" s_stepped ["amount", "weights"]) (K_check_amount : Keeps P w K mg base (L2N.CX P w) 2 "check_amount" ["amount"] (spR C (dom1 amtB))) (K_check_weights : Keeps P w K mg base (L2N.CX P w) 2 "check_weights" ["weights"] (spR C (dom1 wOk))) :
    Keeps P w K mg base (L2N.CX P w) 3 "stepped" ["amount", "weights"] (spR C (domParts stepF)) := by
  refine keeps_ofR2 S sc_stepped (fun ds c h => ?_) (fun f cdv A outer s H E hr => ⟨_, (pss_cons (ps_expr (pe_callR K_check_amount (hr.mono (by decide)) (L2N.takes_of rfl rfl rfl rfl) (pa_cons (pv 0) pa_nil)))
    (pss_cons (ps_expr (pe_callR K_check_weights (hr.mono (by decide)) (L2N.takes_of rfl rfl rfl rfl) (pa_cons (pv 1) pa_nil)))
    (PSs.nox (pss_cons (ps_set (i := 2) sc_stepped.nd rfl (.inl rfl) (pe_callB (ShW.cr_sumK (k := .t) rfl) rfl B.sum bi_sum (pa_cons (pv 1) pa_nil)))
    (pss_cons (ps_set (i := 3) sc_stepped.nd rfl (.inl rfl) (pe_lst pa_nil))
    (pss_cons (ps_set (i := 4) sc_stepped.nd rfl (.inl rfl) pe_int)
    (pss_cons (ps_set (i := 5) sc_stepped.nd rfl (.inl rfl) pe_int)
    (pss_cons (ps_for PassesOwn.never rfl (pi_tup (pv 1)) (pg_name (i := 6) sc_stepped.nd rfl (.inl rfl))
      (pss_cons (ps_aug (i := 4) sc_stepped.nd rfl (.inl rfl) (pv 6) ip_add)
    (pss_cons (ps_set (i := 7) sc_stepped.nd rfl (.inl rfl) (pe_op op_sub (pe_op op_fdivN (pe_op op_mul (pv 0) (pv 4)) (pv 2)) (pv 5)))
    (pss_cons (ps_expr (pe_bm PySem.F.plainAttrs_list PySem.F.slot_list_append PySem.F.type_list_append mt_append (pv 3) (pa_cons (pv 7) pa_nil)))
    (pss_one (ps_aug (i := 5) sc_stepped.nd rfl (.inl rfl) (pv 7) ip_add))))))
    (pss_one (ps_ret (pe_callTy call_tuple_of rfl B.tuple bi_tuple (pa_cons (pv 3) pa_nil)))))))))))), fun ds c vs G h n => ?_⟩)
  · obtain ⟨d, e, rfl, _⟩ := h
    rfl
  · obtain ⟨d, e, rfl, t1, t2, yes, no⟩ := h
    obtain ⟨v, v1, rfl, n0, n1⟩ := two_of n
    refine two_checks n0 n1 rfl rfl t1 t2 no (fun h G2 x2 => ?_)
    obtain ⟨a, ws, rfl, rfl, small, rfl⟩ := yes h
    rw [Bool.and_eq_true] at h
    obtain ⟨_, e0, a0, a1⟩ := amt_int h.1
    cases e0
    have W := wOk_of h.2
    have big := sum_big W small
    have T := W.T
    have hM : MOST = 1000000000000 := rfl
    cases n0
    refine evx_set (evd_cb (ea_cons (evd_at n1 x2) ea_nil) (r_sumK (k := .t) (ns := ws) rfl)) (fun v2 G3 x3 n2 => ?_)
    cases n2
    intro H0 e0 E1 q bad
    have n1' : Dn G3 v1 (.tuple (intL ws)) := Dn.mono (x2.trans x3) _ n1
    refine go_set (go_lst (go_nil ⟨Evl.sz_of (by show 0 ≤ 100000; decide), fun p hp => go_set (go_c (go_set (go_c (go_for ?_))))⟩))
    have gm0 := Gm.start (o := .lst []) e0 hp
    have len : (intL ws).length = ws.length := List.length_map _
    refine for_dataN (G := G3) (ei_tup (evd_at n1')) gm0.s (fun G1 H1 i σ' H' => ∃ Gi y z, Ex G1 Gi ∧ Gm p G3 H0 Gi H' ∧ H' p = some (.lst (((stepF a ws).take i).map V.int)) ∧ σ' = [some (.int a), some v1, some (.int ws.sum), some (.ref p), some (.int (ws.take i).sum), some (.int (upS a ws i)), y, z])
      (fun _ _ _ _ _ ⟨Gi, _, _, x, gm, _⟩ => x.trans gm.s) (fun G1 H1 g1 => ?_) (fun G1 H1 i d x σ' H' G2 H2 g1 hdi pv g2 nx => ?_) (fun G1 H1 σ' H' g1 pv => ?_)
    · obtain ⟨gm1, h1⟩ := gm0.step upd_same g1
      refine ⟨G1, none, none, Ex.refl _, gm1, h1, ?_⟩
      have z : upS a ws 0 = 0 := by
        unfold upS
        rw [List.take_zero]
        simp
      rw [z]
      rfl
    · obtain ⟨Gi, y, z, x1, gm, hpi, rfl⟩ := pv
      obtain ⟨gm2, hp2⟩ := gm.step hpi (Gr.grow gm.s g2.h)
      unfold intL at hdi
      rw [List.getElem?_map] at hdi
      cases hix : ws[i]? with
      | none =>
        rw [hix] at hdi
        cases hdi
      | some wi =>
        rw [hix] at hdi
        cases hdi
        cases nx
        have up : (ws.take (i + 1)).sum = (ws.take i).sum + wi := by
          rw [take_len hix, List.sum_append]
          simp
        refine go_augS rfl (go_var rfl ⟨_, _, rfl, rfl, ?_⟩)
        refine go_set (go_op (go_op (go_op (go_var rfl (go_var rfl ⟨_, _, rfl, rfl, .inl ⟨by omega, by omega⟩, go_var rfl ⟨_, _, rfl, rfl, ⟨by omega, by omega⟩, go_var rfl ⟨_, _, rfl, rfl, ?_⟩⟩⟩)))))
        have fd : (a * ((ws.take i).sum + wi)).fdiv ws.sum = upS a ws (i + 1) := by
          rw [Int.fdiv_eq_ediv_of_nonneg _ (by omega), ← up]
          rfl
        rw [fd]
        have at1 : (stepF a ws)[i]? = some (upS a ws (i + 1) - upS a ws i) := by
          unfold stepF
          rw [List.getElem?_map, List.getElem?_range (List.getElem?_eq_some_iff.mp hix).1]
          rfl
        refine go_seq (go_drop (go_bm (go_var rfl ⟨.inl ⟨rfl, _, sq_lst hp2⟩, go_cons (go_var rfl (go_nil (app_at hp2 ?_ ?_)))⟩)))
        · rw [List.length_map, List.length_take]
          have := steps_len (a := a) (ws := ws)
          have := W.len
          omega
        · refine go_aug rfl (go_var rfl ⟨_, _, rfl, rfl, ?_⟩)
          refine ⟨Gi, some (.int wi), some (.int (upS a ws (i + 1) - upS a ws i)), x1, gm2.put, ?_, ?_⟩
          · rw [upd_same, take_len at1, List.map_append]
            rfl
          · have e1 : upS a ws i + (upS a ws (i + 1) - upS a ws i) = upS a ws (i + 1) := by omega
            show [some (V.int a), some v1, some (.int ws.sum), some (.ref p), some (.int ((ws.take i).sum + wi)), some (.int (upS a ws i + (upS a ws (i + 1) - upS a ws i))), some (.int wi), some (.int (upS a ws (i + 1) - upS a ws i))] = _
            rw [e1, up]
    · obtain ⟨Gi, y, z, x1, gm, hpi, rfl⟩ := pv
      rw [len, ← steps_len (a := a), List.take_length] at hpi
      refine go_ret (go_cb (go_cons (go_var rfl (go_nil (tup_at hpi fun l hl => ?_)))))
      have g3 := gm.drop hp
      have g4 := g3.trans (Gr.new (o := .tup ((stepF a ws).map V.int)) g3.s hl)
      exact q _ rfl _ _ _ g4 (.tup (.inl upd_same) (ints_dn _))
end
end Sh

set_option Elab.async false
set_option linter.all false
set_option maxRecDepth 100000
set_option maxHeartbeats 4000000
/-! sums: shared -/
namespace Sh
open PySem PySem.Spec L2
open PyProof.Rows hiding St
open Evl (Ex)
open ShW (rSumK)
section
variable {P : Program} {w : World} {K : PySem.W.Frag} {mg : Str → Option Value} {base : Heap} {C : Addr}
abbrev s_shared : Stmt := topS 11
theorem sc_shared : FnScope ["amount", "weights", "total", "parts", "by_rest", "_", "place", "weight", "part"] ["amount", "weights"] (defScope s_shared) := ⟨rfl, rfl, rfl, by decide +kernel, rfl, by decide +kernel, by decide +kernel⟩
def floD (a T : Int) : D → D
  | .int w => .int (a * w / T)
  | _ => .none
def rowD2 (a T : Int) : D → D
  | .tuple [.int i, .tuple [.int w, .int f]] => .tuple [.int (-(a * w - f * T)), .int i]
  | _ => .none
theorem rows_are (a : Int) (ws : List Int) : ((enumD (zipD (intL ws) (intL (floors a ws)))).map (rowD2 a ws.sum)) = (restsF a ws).map pairZ := by
  refine List.ext_getElem? fun i => ?_
  unfold restsF
  rw [List.getElem?_map, List.getElem?_map, List.getElem?_map, List.getElem?_zipIdx]
  unfold enumD
  rw [List.getElem?_map, List.getElem?_zipIdx]
  unfold zipD intL floors
  rw [List.getElem?_zipWith, List.getElem?_map, List.getElem?_map, List.getElem?_map]
  cases ws[i]? with
  | none => rfl
  | some v => rfl
theorem keeps_shared (B : Bi mg) (S : Stands K mg "shared" s_shared ["amount", "weights"]) (K_check_amount : Keeps P w K mg base (L2N.CX P w) 2 "check_amount" ["amount"] (spR C (dom1 amtB))) (K_check_weights : Keeps P w K mg base (L2N.CX P w) 2 "check_weights" ["weights"] (spR C (dom1 wOk))) :
    Keeps P w K mg base (L2N.CX P w) 3 "shared" ["amount", "weights"] (spR C (domParts sharedF)) := by
  refine keeps_ofR2 S sc_shared (fun ds c h => ?_) (fun f cdv A outer s H E hr => ⟨_, (pss_cons (ps_expr (pe_callR K_check_amount (hr.mono (by decide)) (L2N.takes_of rfl rfl rfl rfl) (pa_cons (pv 0) pa_nil)))
    (pss_cons (ps_expr (pe_callR K_check_weights (hr.mono (by decide)) (L2N.takes_of rfl rfl rfl rfl) (pa_cons (pv 1) pa_nil)))
    (PSs.nox (pss_cons (ps_set (i := 2) sc_shared.nd rfl (.inr rfl) (pe_callB (ShW.cr_sumK (k := .t) rfl) rfl B.sum bi_sum (pa_cons (pv 1) pa_nil)))
    (pss_cons (ps_setLc (i := 3) (own := [("weight", 7)]) (g := gName 7) (tt := tYes) rfl sc_shared.nd rfl rfl (sw_true rfl rfl rfl (by decide +kernel)) (pi_tup (pv 1)) (blkOk_by (N := ["amount", "weights", "total", "parts", "by_rest", "_", "place", "weight", "part"]) (sc := defScope s_shared) (by decide +kernel)) (fun _ _ _ _ _ => (pg_name (i := 7) sc_shared.nd rfl (.inl rfl))) (fun _ _ _ _ _ => pts_nil) (fun _ _ _ _ _ => (pe_op op_fdivN (pe_op op_mul (pv 0) (pv 7)) (pv 2))))
    (pss_cons (ps_set (i := 4) sc_shared.nd rfl (.inl rfl) (pe_callB cr_sortedR rfl B.sorted bi_sorted (pa_cons (pe_lc (own := [("place", 6), ("weight", 7), ("part", 8)]) (g := gTup K 2 (gCons (gName 6) (gCons (gTup K 2 (gCons (gName 7) (gCons (gName 8) gNil))) gNil))) (tt := tYes) rfl sc_shared.nd (ShW.pi_enZ (k1 := .t) (k2 := .l) B.enumerate B.zip (pa_cons (pv 1) (pa_cons (pv 3) pa_nil))) (blkOk_by (N := ["amount", "weights", "total", "parts", "by_rest", "_", "place", "weight", "part"]) (sc := defScope s_shared) (by decide +kernel)) (fun _ _ _ _ _ => by exact (pg_tup rfl (pgs_cons (pg_name (i := 6) sc_shared.nd rfl (.inl rfl)) (pgs_cons (pg_tup rfl (pgs_cons (pg_name (i := 7) sc_shared.nd rfl (.inl rfl)) (pgs_cons (pg_name (i := 8) sc_shared.nd rfl (.inl rfl)) pgs_nil))) pgs_nil)))) (fun _ _ _ _ _ => pts_nil) (fun _ _ _ _ _ => (pe_tup (pa_cons (pe_un un_neg (pe_op op_sub (pe_op op_mul (pv 0) (pv 7)) (pe_op op_mul (pv 8) (pv 2)))) (pa_cons (pv 6) pa_nil))))) pa_nil)))
    (pss_cons (ps_for PassesOwn.never rfl (pi_list (pe_slice sl_list (pv 4) po_none (po_some (pe_op op_sub (pv 0) (pe_callB (ShW.cr_sumK (k := .l) rfl) rfl B.sum bi_sum (pa_cons (pv 3) pa_nil)))))) (pg_tup rfl (pgs_cons (pg_name (i := 5) sc_shared.nd rfl (.inl rfl)) (pgs_cons (pg_name (i := 6) sc_shared.nd rfl (.inl rfl)) pgs_nil)))
      (pss_one (ps_augS (pv 3) (pv 6) pget_list pe_int ip_add set_list)))
    (pss_one (ps_ret (pe_callTy call_tuple_of rfl B.tuple bi_tuple (pa_cons (pv 3) pa_nil))))))))))), fun ds c vs G h n => ?_⟩)
  · obtain ⟨d, e, rfl, _⟩ := h
    rfl
  · obtain ⟨d, e, rfl, t1, t2, yes, no⟩ := h
    obtain ⟨v, v1, rfl, n0, n1⟩ := two_of n
    refine two_checks n0 n1 rfl rfl t1 t2 no (fun h G2 x2 => ?_)
    obtain ⟨a, ws, rfl, rfl, small, rfl⟩ := yes h
    rw [Bool.and_eq_true] at h
    obtain ⟨_, e0, a0, a1⟩ := amt_int h.1
    cases e0
    have W := wOk_of h.2
    have big := sum_big W small
    have T := W.T
    have hM : MOST = 1000000000000 := rfl
    have len40 := W.len
    have lenW : (intL ws).length = ws.length := List.length_map _
    have ok : SumOk a ws := ⟨a0, W.lo, T⟩
    cases n0
    refine evx_set (evd_cb (ea_cons (evd_at n1 x2) ea_nil) (r_sumK (k := .t) (ns := ws) rfl)) (fun v2 G3 x3 n2 => ?_)
    cases n2
    intro H0 e0 E1 q bad
    have n1' : Dn G3 v1 (.tuple (intL ws)) := Dn.mono (x2.trans x3) _ n1
    have c0 : ∀ {G : Hp} {i : Int}, Dn G (.int i) (.int i) := .int _
    -- the floors
    refine go_set ((evo_lcN (G := G3) (r := floD a ws.sum) (ei_tup (evd_at n1')) (by rw [lenW]; omega) (fun x => rfl) (fun d hd x G4 x4 nx => ?_)).is (ds' := intL (floors a ws)) ?_ H0 e0 _ fun p xs G4 H4 g4 hp np h4 m4 => ?_)
    · obtain ⟨w, hw, rfl⟩ := List.mem_map.mp hd
      have := W.lo w hw
      have := small w hw
      refine evd_is (evd_op (evd_op (evd_at (d := .int a) c0) (evd_at nx) (r_I (.inl ⟨by omega, by omega⟩) fun _ => .int _)) (evd_at (d := .int ws.sum) c0) (r_I ⟨by omega, by omega⟩ fun _ => .int _)) ?_
      show PyData.int ((a * w).fdiv ws.sum) = .int (a * w / ws.sum)
      rw [Int.fdiv_eq_ediv_of_nonneg _ (by omega)]
    · unfold intL floors
      rw [List.map_map, List.map_map]
      rfl
    · have exs := dn_ints m4
      subst exs
      have gm4 := Gm.ofGr g4 np
      have lists : ∀ ys, (HO.lst ((floors a ws).map V.int)) ≠ .tup ys := fun ys z => nomatch z
      have lists2 : ∀ u ys, (HO.lst ((floors a ws).map V.int)) ≠ .frz u (.tup ys) := fun u ys z => nomatch z
      have lenF : (floors a ws).length = ws.length := floors_len
      -- sorted by rests
      have n1p : Dn (upd G4 p (.lst ((floors a ws).map V.int))) v1 (.tuple (intL ws)) := Dn.mono (g4.g.trans (Ex.new np)) _ n1'
      have np4 : Dn (upd G4 p (.lst ((floors a ws).map V.int))) (.ref p) (.list (intL (floors a ws))) := .lst upd_same (ints_dn _)
      have rowsIn : ∀ {b c d : D}, PyData.tuple [b, .tuple [c, d]] ∈ enumD (zipD (intL ws) (intL (floors a ws))) → ∃ (i : Nat) (w : Int), ws[i]? = some w ∧ b = .int (i : Nat) ∧ c = .int w ∧ d = .int (fl a ws w) := fun {b c d} h => by
        obtain ⟨i, hi⟩ := List.getElem?_of_mem h
        unfold enumD at hi
        rw [List.getElem?_map, List.getElem?_zipIdx] at hi
        unfold zipD intL floors at hi
        rw [List.getElem?_zipWith, List.getElem?_map, List.getElem?_map, List.getElem?_map] at hi
        cases hw : ws[i]? with
        | none =>
          rw [hw] at hi
          cases hi
        | some v =>
          rw [hw] at hi
          have hi : PyData.tuple [.int ((0 + i : Nat) : Int), .tuple [.int v, .int (fl a ws v)]] = .tuple [b, .tuple [c, d]] := Option.some.inj hi
          rw [Nat.zero_add] at hi
          cases hi
          exact ⟨i, v, hw, rfl, rfl, rfl⟩
      have rows3 : ∀ d ∈ enumD (zipD (intL ws) (intL (floors a ws))), ∃ a b c, d = .tuple [a, .tuple [b, c]] := fun d hd => by
        unfold enumD zipD at hd
        obtain ⟨⟨x, i⟩, hx, rfl⟩ := List.mem_map.mp hd
        have hx := List.mem_zipIdx_iff_getElem?.mp hx
        rw [List.getElem?_zipWith] at hx
        cases e1 : (intL ws)[i]? with
        | none => rw [e1] at hx; cases hx
        | some y =>
          cases e2 : (intL (floors a ws))[i]? with
          | none => rw [e1, e2] at hx; cases hx
          | some z =>
            rw [e1, e2] at hx
            exact ⟨_, y, z, by rw [← Option.some.inj hx]⟩
      have lenE : (enumD (zipD (intL ws) (intL (floors a ws)))).length ≤ 40000 := by
        rw [enumD_len, zipD_len, lenW]
        omega
      refine go_set (ev_sorted (G := upd G4 p (.lst ((floors a ws).map V.int))) (ps := restsF a ws) (ea_cons (evd_is (d' := .list ((restsF a ws).map pairZ)) (evd_lc3 (r := rowD2 a ws.sum) (ei_enZ (k1 := .t) (k2 := .l) (ea_cons (evd_at n1p) (ea_cons (evd_at np4) ea_nil))) lenE rows3 (fun x y z => rfl) (fun b c d hbcd x y z G5 x5 nx ny nz => ?_)) (congrArg PyData.list (rows_are a ws))) ea_nil) (Ex.lend g4.s h4) fun qs l ys G5 H5 perm srt g5 hl nl h5 m5 => ?_)
      · obtain ⟨i, w, hi, rfl, rfl, rfl⟩ := rowsIn hbcd
        have hw := List.mem_of_getElem? hi
        have := W.lo w hw
        have := small w hw
        cases nx
        cases ny
        cases nz
        have f0 : 0 ≤ fl a ws w := Int.ediv_nonneg (Int.mul_nonneg a0 (by omega)) (by omega)
        refine evd_tup (ea_cons (d := .int (-(a * w - fl a ws w * ws.sum))) (evd_neg (evd_op (evd_op (evd_at (d := .int a) c0) (evd_at (d := .int w) c0) (r_I (.inl ⟨by omega, by omega⟩) fun _ => .int _)) (evd_op (evd_at (d := .int (fl a ws w)) c0) (evd_at (d := .int ws.sum) c0) (r_I (.inr ⟨by omega, by omega⟩) fun _ => .int _)) (r_I0 fun _ => .int _))) (ea_cons (evd_at (d := .int (i : Nat)) c0) ea_nil)) (by show 2 ≤ 100000; decide)
      · have eqs := sorted_is perm srt
        subst eqs
        have ne : l ≠ p := fun z => by
          rw [z, h4] at hl
          cases hl
        have g5' := Gr.unlend np g5
        have m5' := DnL.unp (no_tup (g5.g _ _ upd_same) lists lists2) ((sortZ (restsF a ws)).map pairZ) (by
          have : ∀ qs : List (Int × Int), tupDs (qs.map pairZ) = true := fun qs => by
            induction qs with
            | nil => rfl
            | cons q qs ih =>
              show (tupD (pairZ q) && tupDs (qs.map pairZ)) = true
              rw [ih]
              rfl
          exact this _) m5
        have nl' : (del G5 p) l = none := by
          rw [del_ne ne]
          exact nl
        -- by_rest stands still now
        have g6 : Gr G4 H4 (upd (del G5 p) l (.lst ys)) H5 := ⟨g5'.g.trans (Ex.new nl'), Ex.lend g5'.s h5, g5'.h, fun b h1 h2 => by
          have hb : b ≠ l := fun z => h2 (by rw [z]; exact hl)
          rw [upd_ne hb]
          exact g5'.f b h1 h2⟩
        have n4 : Dn (upd (del G5 p) l (.lst ys)) (.ref l) (.list ((sortZ (restsF a ws)).map pairZ)) := .lst upd_same (DnL.mono (Ex.new nl') _ m5')
        generalize upd (del G5 p) l (.lst ys) = G6 at g6 n4
        obtain ⟨gm6, hp6⟩ := gm4.step h4 g6
        have kl := k_lo ok
        have tups : ∀ qs : List (Int × Int), tupDs (qs.map pairZ) = true := fun qs => by
          induction qs with
          | nil => rfl
          | cons q qs ih =>
            show (tupD (pairZ q) && tupDs (qs.map pairZ)) = true
            rw [ih]
            rfl
        have pkl : (pickF a ws).map pairZ = ((sortZ (restsF a ws)).map pairZ).take (kF a ws).toNat := by
          unfold pickF
          rw [List.map_take]
        -- the walk over the first ones
        refine go_for (for_at (G := G6) (ds := (pickF a ws).map pairZ) (src_own fun Q' q' => ?_) (fun G1 H1 i σ' H' => ∃ Gi y z, Ex G1 Gi ∧ Gm p G3 H0 Gi H' ∧ H' p = some (.lst ((((pickF a ws).take i).foldl (fun l q => bump l q.2.toNat) (floors a ws)).map V.int)) ∧ σ' = [some (.int a), some v1, some (.int ws.sum), some (.ref p), some (.ref l), y, z, none, none])
          (fun _ _ _ _ _ ⟨Gi, _, _, x, gm, _⟩ => x.trans gm.s) (fun G1 H1 g1 => ?_) (fun G1 H1 i d x σ' H' G2 H2 g1 hdi pv g2 nx => ?_) (fun G1 H1 σ' H' g1 pv => ?_))
        · have n4p : Dn (upd G6 p (.lst ((floors a ws).map V.int))) (.ref l) (.list ((sortZ (restsF a ws)).map pairZ)) := Dn.mono (Ex.new gm6.n) _ n4
          have np6 : Dn (upd G6 p (.lst ((floors a ws).map V.int))) (.ref p) (.list (intL (floors a ws))) := .lst upd_same (ints_dn _)
          have cnt : EvD (tOp (rI0 fun i j => .int (i - j)) (tVar 0) (tCB (rSumK K .l) (tCons (tVar 3) tNil))) [some (.int a), some v1, some (.int ws.sum), some (.ref p), some (.ref l), none, none, none, none] (upd G6 p (.lst ((floors a ws).map V.int))) (.int ((kF a ws).toNat : Nat)) := by
            refine evd_is (evd_op (evd_at (d := .int a) c0) (evd_cb (ea_cons (evd_at np6) ea_nil) (r_sumK (k := .l) (ns := floors a ws) rfl)) (r_I0 fun _ => .int _)) ?_
            show PyData.int (a - (floors a ws).sum) = .int ((kF a ws).toNat : Nat)
            rw [show (((kF a ws).toNat : Nat) : Int) = kF a ws by omega]
            rfl
          refine EvO.lent (evo_cut (evd_at n4p) cnt) gm6.s gm6.n hp6 lists lists2 ?_ fun l2 xs2 G7 H7 g7 hl2 nl2 h7 m7 => q' l2 xs2 G7 H7 g7 hl2 nl2 h7 ?_
          · rw [← pkl]
            exact tups _
          · rw [pkl]
            exact m7
        · obtain ⟨gm7, hp7⟩ := gm6.step hp6 g1
          exact ⟨G1, none, none, Ex.refl _, gm7, hp7, rfl⟩
        · obtain ⟨Gi, y, z, x1, gm, hpi, rfl⟩ := pv
          obtain ⟨gm2, hp2⟩ := gm.step hpi (Gr.grow gm.s g2.h)
          rw [List.getElem?_map] at hdi
          cases hix : (pickF a ws)[i]? with
          | none =>
            rw [hix] at hdi
            cases hdi
          | some qi =>
            rw [hix] at hdi
            cases hdi
            refine eg_pair x H2 g2.s nx _ fun σ2 ⟨y1, z1, es, ny, nz⟩ => ?_
            subst es
            cases nz
            have mem : qi ∈ pickF a ws := List.mem_of_getElem? hix
            obtain ⟨p0, p1⟩ := pick_at mem
            have eqi : qi.2 = ((qi.2.toNat : Nat) : Int) := by omega
            have lenB : (((pickF a ws).take i).foldl (fun l q => bump l q.2.toNat) (floors a ws)).length = ws.length := by rw [bumps_len, lenF]
            rw [eqi]
            have nxt : ((pickF a ws).take (i + 1)).foldl (fun l q => bump l q.2.toNat) (floors a ws) = bump (((pickF a ws).take i).foldl (fun l q => bump l q.2.toNat) (floors a ws)) qi.2.toNat := by
              rw [take_len hix, List.foldl_append]
              rfl
            generalize ((pickF a ws).take i).foldl (fun l q => bump l q.2.toNat) (floors a ws) = cur at hp2 lenB nxt
            have lt : qi.2.toNat < cur.length := by omega
            refine go_bumpL (k := qi.2.toNat) (x := cur[qi.2.toNat]) (y := 1) rfl rfl hp2 (List.getElem?_eq_getElem lt) (fun Q q => q) ?_
            refine ⟨Gi, some y1, some (.int ((qi.2.toNat : Nat) : Int)), x1, gm2.put, ?_, rfl⟩
            rw [upd_same, nxt]
            unfold bump
            rw [List.getD_eq_getElem?_getD, List.getElem?_eq_getElem lt]
            rfl
        · obtain ⟨Gi, y, z, x1, gm, hpi, rfl⟩ := pv
          rw [List.length_map, List.take_length] at hpi
          refine go_ret (go_cb (go_cons (go_var rfl (go_nil (tup_at hpi fun l2 hl2 => ?_)))))
          have g3 := gm.drop hp
          have g4 := g3.trans (Gr.new (o := .tup ((sharedF a ws).map V.int)) g3.s hl2)
          exact q _ rfl _ _ _ g4 (.tup (.inl upd_same) (ints_dn _))
end
end Sh

set_option Elab.async false
set_option linter.all false
set_option maxRecDepth 100000
set_option maxHeartbeats 4000000
/-! the law's draws -/
namespace Sh
open PySem PySem.Spec L2
open PyProof.Rows hiding St
open Evl (Ex)
section
variable {P : Program} {w : World} {K : PySem.W.Frag} {mg : Str → Option Value} {base : Heap} {σ : L2.St} {H : Hp} {Q : VK} {r : Addr} {l : List V} {k : Nat} {v : V}
theorem ifp {b : Bool} {p q : Prop} (h : b = true → p) (k : b = false → q) : if b = true then p else q := by
  cases b with
  | true => exact h rfl
  | false => exact k rfl
theorem rd (hl : H r = some (.lst l)) (hk : l[k]? = some v) (q : Q v H) (hs : σ[0]? = some (some (.ref r)) := by rfl) : tOp (rIxL K) (tVar 0) (tC (.int (k : Nat))) σ H Q := ⟨_, hs, r, l, (k : Nat), v, rfl, rfl, .inl (.inl hl), atI_nat hk, q⟩
abbrev s__law_taken : Stmt := topS 16
theorem sc__law_taken : FnScope ["row", "many", "cell", "found"] ["row", "many"] (defScope s__law_taken) := ⟨rfl, rfl, rfl, by decide +kernel, rfl, by decide +kernel, by decide +kernel⟩
theorem keeps_taken (B : Bi mg) (S : Stands K mg "_law_taken" s__law_taken ["row", "many"]) : Keeps P w K mg base CX0 1 "_law_taken" ["row", "many"] (spTaken K) := by
  obtain ⟨f, fd, F, hm, hb⟩ := S
  refine ⟨f, fd, F.ok sc__law_taken (fun vs H Q E h => ?_) (fun cdv A outer s H vs Q E hr h => ?_), hm, F.kp, hb⟩
  · obtain ⟨r, sc, G, m, rfl, _⟩ := h
    rfl
  · obtain ⟨r, sc, G, m, rfl, m0, m1, st, q⟩ := h
    refine ⟨_, (pss_cons (ps_if (pt_cmpR op_gt (pe_ix ix_list (pv 0) pe_int (fun _ _ => rfl)) pe_int (nomark _)) (pss_cons (ps_set (i := 3) sc__law_taken.nd rfl (.inl rfl) (pe_op op_modN (pe_callTy call_int1 rfl B.int bi_int (pa_cons (pe_ix ix_list (pv 0) pe_int (fun _ _ => rfl)) pa_nil)) (pv 1)))
    (pss_cons (ps_asg (pe_op op_fdivN (pe_ix ix_list (pv 0) pe_int (fun _ _ => rfl)) (pv 1)) (pg_sub (pv 0) pe_int set_list))
    (pss_one (ps_ret (pv 3))))) pss_nil)
    (pss_cons (ps_asg (pe_op op_add (pe_ix ix_list (pv 0) pe_int (fun _ _ => rfl)) pe_int) (pg_sub (pv 0) pe_int set_list))
    (pss_cons (ps_if (pt_cmpR op_gt (pe_ix ix_list (pv 0) pe_int (fun _ _ => rfl)) (pe_callB call_len rfl B.len bi_len (pa_cons (pe_ix ix_list (pv 0) pe_int (fun _ _ => rfl)) pa_nil)) (nomark _)) (pss_cons (ps_asg (pe_op op_modN (pe_callTy call_int1 rfl B.int bi_int (pa_cons (pe_op op_add (pe_op op_mul (pe_ix ix_list (pv 0) pe_int (fun _ _ => rfl)) pe_int) pe_int) pa_nil)) pe_int) (pg_sub (pv 0) pe_int set_list))
    (pss_one (ps_ret (pe_op op_modN (pe_callTy call_int1 rfl B.int bi_int (pa_cons (pe_op op_fdivN (pe_ix ix_list (pv 0) pe_int (fun _ _ => rfl)) pe_int) pa_nil)) (pv 1))))) pss_nil)
    (pss_cons (ps_set (i := 2) sc__law_taken.nd rfl (.inl rfl) (pe_ix ix_list (pe_ix ix_list (pv 0) pe_int (fun _ _ => rfl)) (pe_op op_sub (pe_ix ix_list (pv 0) pe_int (fun _ _ => rfl)) pe_int) (fun _ _ => rfl)))
    (pss_cons (ps_asg (pe_op op_modN (pe_callTy call_int1 rfl B.int bi_int (pa_cons (pe_op op_add (pe_op op_add (pe_op op_mul (pe_ix ix_list (pv 0) pe_int (fun _ _ => rfl)) pe_int) (pv 2)) pe_int) pa_nil)) pe_int) (pg_sub (pv 0) pe_int set_list))
    (pss_cons (ps_if (pt_cmpR op_ge (pv 2) (pe_op op_pow pe_int pe_int) (nomark _)) (pss_one (ps_asg (pe_op op_fdivN (pv 2) (pv 1)) (pg_sub (pv 0) pe_int set_list))) pss_nil)
    (pss_one (ps_ret (pe_op op_modN (pe_callTy call_int1 rfl B.int bi_int (pa_cons (pv 2) pa_nil)) (pv 1)))))))))), ?_⟩
    obtain ⟨a, b, c, ha, hl⟩ := st.row
    obtain ⟨ns, hsc⟩ := st.scr
    refine rd (k := 3) hl rfl ?_
    refine ⟨_, _, rfl, rfl, _, rfl, ?_⟩
    have m0' : m ≠ 0 := by omega
    have sm : m.natAbs < 1073741824 := by omega
    have fin : ∀ (x : Int) (H2 : Hp), Gq K r sc G H G H2 → Q (.int (x.fmod m)) H2 := fun x H2 g => by
      have h1 := Int.fmod_nonneg_of_pos x m0
      have h2 := Int.fmod_lt_of_pos x m0
      have z := q (x.fmod m).toNat H2 (by omega) g
      rw [show (((x.fmod m).toNat : Nat) : Int) = x.fmod m by omega] at z
      exact z
    refine ifp (fun _ => ?_) (fun _ => ?_)
    · refine rd (k := 3) hl rfl (.inl ⟨_, rfl, _, rfl, _, _, rfl, rfl, m0', ?_⟩)
      refine rd (k := 3) hl rfl ⟨_, rfl, _, _, rfl, rfl, ⟨m0', sm⟩, _, rfl, r, _, 3, 3, rfl, rfl, hl, rfl, _, rfl, ?_⟩
      exact fin c _ (Gq.put st ha)
    · have a1 : (0 : Int) ≤ a + 1 := by omega
      refine rd (k := 1) hl rfl ⟨_, _, rfl, rfl, _, rfl, r, _, 1, 1, rfl, rfl, hl, rfl, ?_⟩
      have g2 : Gq K r sc G H G (upd H r (.lst [.ref sc, .int (a + 1), .int b, .int c])) := Gq.put st a1
      have hl2 : (upd H r (.lst [.ref sc, .int (a + 1), .int b, .int c])) r = some (.lst [.ref sc, .int (a + 1), .int b, .int c]) := upd_same
      have hs2 := sqx g2.st.s hsc
      refine rd (k := 1) hl2 rfl (rd (k := 0) hl2 rfl ⟨_, ns.length, rfl, .inl ⟨_, hs2, (List.length_map _).symm⟩, _, _, rfl, rfl, _, rfl, ?_⟩)
      refine ifp (fun _ => ?_) (fun hle => ?_)
      · refine rd (k := 2) hl2 rfl ⟨_, _, rfl, rfl, .inr ⟨by decide, by decide⟩, _, _, rfl, rfl, .inl ⟨_, rfl, _, _, rfl, rfl, (by decide : (2147483647 : Int) ≠ 0), _, rfl, r, _, 2, 2, rfl, rfl, hl2, rfl, ?_⟩⟩
        refine rd (k := 2) (hl := upd_same) rfl ⟨_, _, rfl, rfl, ⟨by decide, by decide⟩, .inl ⟨_, rfl, _, rfl, _, _, rfl, rfl, m0', ?_⟩⟩
        exact fin _ _ (g2.trans st (Gq.put g2.st a1))
      · have hle' : a + 1 ≤ (ns.length : Int) := by
          have z := of_decide_eq_false hle
          omega
        have lt : a.toNat < ns.length := by omega
        have at1 : atI (ns.map V.int) (a + 1 - 1) = some (.int ns[a.toNat]) := by
          rw [show a + 1 - 1 = ((a.toNat : Nat) : Int) by omega]
          refine atI_nat ?_
          rw [List.getElem?_map, List.getElem?_eq_getElem lt]
          rfl
        generalize ns[a.toNat] = ce at at1
        refine rd (k := 0) hl2 rfl (rd (k := 1) hl2 rfl ⟨_, _, rfl, rfl, sc, _, _, _, rfl, rfl, hs2, at1, ?_⟩)
        refine rd (k := 2) hl2 rfl ⟨_, _, rfl, rfl, .inr ⟨by decide, by decide⟩, _, rfl, _, _, rfl, rfl, _, _, rfl, rfl, .inl ⟨_, rfl, _, _, rfl, rfl, (by decide : (2147483647 : Int) ≠ 0), _, rfl, r, _, 2, 2, rfl, rfl, hl2, rfl, ?_⟩⟩
        refine ⟨_, rfl, _, _, rfl, rfl, ⟨by decide, by decide, by decide⟩, _, _, rfl, rfl, _, rfl, ?_⟩
        refine ifp (fun _ => ?_) (fun _ => ?_)
        · refine ⟨_, rfl, _, rfl, _, _, rfl, rfl, ⟨m0', sm⟩, _, rfl, r, _, 3, 3, rfl, rfl, upd_same, rfl, ?_⟩
          refine ⟨_, rfl, .inl ⟨_, rfl, _, rfl, _, _, rfl, rfl, m0', ?_⟩⟩
          rw [upd_upd]
          exact fin _ _ (g2.trans st (Gq.put g2.st a1))
        · refine ⟨_, rfl, .inl ⟨_, rfl, _, rfl, _, _, rfl, rfl, m0', ?_⟩⟩
          exact fin _ _ (g2.trans st (Gq.put g2.st a1))
abbrev s__law_pick : Stmt := topS 17
theorem sc__law_pick : FnScope ["row", "things"] ["row", "things"] (defScope s__law_pick) := ⟨rfl, rfl, rfl, by decide +kernel, rfl, by decide +kernel, by decide +kernel⟩
theorem keeps_pick (B : Bi mg) (S : Stands K mg "_law_pick" s__law_pick ["row", "things"]) (K__law_taken : Keeps P w K mg base CX0 1 "_law_taken" ["row", "many"] (spTaken K)) : Keeps P w K mg base CX0 2 "_law_pick" ["row", "things"] (spPick K) := by
  obtain ⟨f, fd, F, hm, hb⟩ := S
  refine ⟨f, fd, F.ok sc__law_pick (fun vs H Q E h => ?_) (fun cdv A outer s H vs Q E hr h => ?_), hm, F.kp, hb⟩
  · obtain ⟨r, sc, G, ds, v, rfl, _⟩ := h
    rfl
  · obtain ⟨r, sc, G, ds, v, rfl, st, n, l0, l1, q⟩ := h
    refine ⟨_, (pss_one (ps_ret (pe_ix ix_list (pv 1) (pe_callD K__law_taken (hr.mono (by omega)) (pa_cons (pv 0) (pa_cons (pe_callB call_len rfl B.len bi_len (pa_cons (pv 1) pa_nil)) pa_nil))) (fun _ _ => rfl)))), ?_⟩
    refine ⟨_, rfl, ?_⟩
    refine evr_taken (m := (ds.length : Nat)) rfl (evd_cb (ea_cons (evd_at n) ea_nil) (r_lenL rfl)) (by omega) (by omega) st fun u G2 H2 lt g => ?_
    have n2 := Dn.mono g.g _ n
    cases n2 with
    | lst h1 h2 =>
      obtain ⟨d, hd⟩ : ∃ d, ds[u]? = some d := ⟨_, List.getElem?_eq_getElem (by omega : u < ds.length)⟩
      obtain ⟨x, hx, nx⟩ := h2.at hd
      exact ⟨_, _, _, x, rfl, rfl, .inl (.inl (g.st.s _ _ h1)), atI_nat hx, q x d G2 H2 (List.mem_of_getElem? hd) nx g⟩
end
end Sh

set_option Elab.async false
set_option linter.all false
set_option maxRecDepth 100000
set_option maxHeartbeats 4000000
/-! the law: its last statements -/
namespace Sh
open PySem PySem.Spec L2
open PyProof.Rows hiding St
open Evl (Ex)
open ShW (rSumK)
/-- two arguments that make no parts -/
def WrongP (x : D) : Prop := ∃ d e, x = .tuple [d, e] ∧ noT d ∧ noT e ∧ (amtB d && wOk e) = false
def wrongL : List D := [(PyData.tuple [(PyData.int (-1)), (PyData.tuple [(PyData.int 1)])]), (PyData.tuple [(PyData.int 1), (PyData.tuple [])]), (PyData.tuple [(PyData.int 1), (PyData.tuple [(PyData.int 0), (PyData.int 0)])]), (PyData.tuple [(PyData.int 1), (PyData.tuple [(PyData.int 1), (PyData.bool true)])]), (PyData.tuple [(PyData.bool true), (PyData.tuple [(PyData.int 1)])]), (PyData.tuple [(PyData.int 1), (PyData.list [(PyData.int 1)])])]
theorem noT_of {d : D} (h : ∀ es, d = .tuple es → es.length ≤ 1000) : noT d := h
theorem wrong_all : ∀ x ∈ wrongL, WrongP x := fun x hx => by
  unfold wrongL at hx
  simp only [List.mem_cons, List.not_mem_nil, or_false] at hx
  rcases hx with rfl | rfl | rfl | rfl | rfl | rfl
  all_goals refine ⟨_, _, rfl, fun es e => ?_, fun es e => ?_, by decide +kernel⟩
  all_goals first | (cases e; done) | (cases e; decide)
def rateL : List D := [(PyData.int (-1)), (PyData.int 1000), PyData.none, (PyData.bool true)]
theorem rate_all : ∀ x ∈ rateL, rateB x = false ∧ noT x ∧ ∀ j, x = .int j → True := fun x hx => by
  unfold rateL at hx
  simp only [List.mem_cons, List.not_mem_nil, or_false] at hx
  rcases hx with rfl | rfl | rfl | rfl
  all_goals exact ⟨by decide +kernel, (fun es e => nomatch e), fun _ _ => trivial⟩
section
variable {P : Program} {w : World} {K : PySem.W.Frag} {mg : Str → Option Value} {base : Heap} {C : Addr} {f : Addr} {cdv : Value} {A : Around} {outer : List Env} {s : Shared} {H : Hp} {E : XK}
abbrev s_law : Stmt := topS 18
theorem sc_law : FnScope ["script", "row", "amount", "weights", "whole", "parts", "steps", "rests", "at", "weight", "rest", "more", "so_far", "rate", "tax", "net", "wrong", "floor", "other", "extra", "place", "e", "turn"] ["script"] (defScope s_law) := ⟨rfl, rfl, rfl, by decide +kernel, rfl, by decide +kernel, by decide +kernel⟩
abbrev lawX (P : Program) (w : World) (K : PySem.W.Frag) (mg : Str → Option Value) (base : Heap) (f : Addr) (cdv : Value) (A : Around) (outer : List Env) (s : Shared) (H : Hp) (E : XK) : Cx := (cxOf CX0 P w K mg base ["script", "row", "amount", "weights", "whole", "parts", "steps", "rests", "at", "weight", "rest", "more", "so_far", "rate", "tax", "net", "wrong", "floor", "other", "extra", "place", "e", "turn"] "law" (defScope s_law) f cdv A outer s H E).nox
theorem law_try (B : Bi mg) (er : ErrC K mg "BadNumber" C) (hr : Room 3 (A.deeper (envOfC "law" (defScope s_law) s.heap.objs.size f cdv)))
    (K__law_pick : Keeps P w K mg base CX0 2 "_law_pick" ["row", "things"] (spPick K))
    (K_shared : Keeps P w K mg base (L2N.CX P w) 3 "shared" ["amount", "weights"] (spR C (domParts sharedF)))
    (K_taxed : Keeps P w K mg base (L2N.CX P w) 3 "taxed" ["net", "rate"] (spR C (dom2 taxF))) :
    ∃ tm, PSs (lawX P w K mg base f cdv A outer s H E) ((defBody s_law).drop 16) tm ∧ ∀ (r sc : Addr) (a0 a2 a3 a4 a5 a6 a7 a8 a9 a10 a11 a12 a13 a14 a15 a16 a17 a18 a19 a20 a21 a22 : Option V) (G : Hp),
      EvL K r sc tm [a0, some (.ref r), a2, a3, a4, a5, a6, a7, a8, a9, a10, a11, a12, a13, a14, a15, a16, a17, a18, a19, a20, a21, a22] G := by
  refine ⟨_, (pss_cons (ps_set (i := 16) sc_law.nd rfl (.inl rfl) (pe_callD K__law_pick (hr.mono (by omega)) (pa_cons (pv 1) (pa_cons (pe_lst (pa_cons (pe_tup (pa_cons (pe_un un_neg pe_int) (pa_cons (pe_tup (pa_cons pe_int pa_nil)) pa_nil))) (pa_cons (pe_tup (pa_cons pe_int (pa_cons (pe_tup pa_nil) pa_nil))) (pa_cons (pe_tup (pa_cons pe_int (pa_cons (pe_tup (pa_cons pe_int (pa_cons pe_int pa_nil))) pa_nil))) (pa_cons (pe_tup (pa_cons pe_int (pa_cons (pe_tup (pa_cons pe_int (pa_cons pe_bl pa_nil))) pa_nil))) (pa_cons (pe_tup (pa_cons pe_bl (pa_cons (pe_tup (pa_cons pe_int pa_nil)) pa_nil))) (pa_cons (pe_tup (pa_cons pe_int (pa_cons (pe_lst (pa_cons pe_int pa_nil)) pa_nil))) pa_nil))))))) pa_nil))))
    (pss_cons (L2N.ps_try_as (i := 21) (Wout := fun _ _ _ _ => False) rfl rfl sc_law.nd rfl rfl ⟨rfl, by decide, Or.inl er.g⟩ takes0N
      (fun W pn xe tk _ => (pss_cons (ps_expr (pe_callR K_shared (hr.mono (by omega)) tk (pa_cons (pe_ix (r := rIxT K) ix_tup (pv 16) pe_int (fun _ _ => rfl)) (pa_cons (pe_ix (r := rIxT K) ix_tup (pv 16) pe_int (fun _ _ => rfl)) pa_nil))))
    (pss_one (ps_ret pe_bl))))
      (fun a oe cls d pn hz hf => (pss_one (ps_set (i := 15) sc_law.nd rfl (.inl rfl) pe_int))))
    (pss_cons (L2N.ps_try_as (i := 21) (Wout := fun _ _ _ _ => False) rfl rfl sc_law.nd rfl rfl ⟨rfl, by decide, Or.inl er.g⟩ takes0N
      (fun W pn xe tk _ => (pss_one (ps_expr (pe_callR K_taxed (hr.mono (by omega)) tk (pa_cons pe_int (pa_cons (pe_callD K__law_pick (hr.mono (by omega)) (pa_cons (pv 1) (pa_cons (pe_lst (pa_cons (pe_un un_neg pe_int) (pa_cons pe_int (pa_cons pe_non (pa_cons pe_bl pa_nil))))) pa_nil))) pa_nil))))))
      (fun a oe cls d pn hz hf => (pss_one (ps_ret pe_bl))))
    (pss_one (ps_ret pe_bl))))), fun r sc a0 a2 a3 a4 a5 a6 a7 a8 a9 a10 a11 a12 a13 a14 a15 a16 a17 a18 a19 a20 a21 a22 G => ?_⟩
  refine evl_setR (P := WrongP) (evr_pk rfl (evr_d (evd_lst (ea_cons (evd_tup (ea_cons (evd_neg evd_int) (ea_cons (evd_tup (ea_cons evd_int ea_nil) (by show 1 ≤ 100000; decide)) ea_nil)) (by show 2 ≤ 100000; decide)) (ea_cons (evd_tup (ea_cons evd_int (ea_cons (evd_tup ea_nil (by show 0 ≤ 100000; decide)) ea_nil)) (by show 2 ≤ 100000; decide)) (ea_cons (evd_tup (ea_cons evd_int (ea_cons (evd_tup (ea_cons evd_int (ea_cons evd_int ea_nil)) (by show 2 ≤ 100000; decide)) ea_nil)) (by show 2 ≤ 100000; decide)) (ea_cons (evd_tup (ea_cons evd_int (ea_cons (evd_tup (ea_cons evd_int (ea_cons evd_bl ea_nil)) (by show 2 ≤ 100000; decide)) ea_nil)) (by show 2 ≤ 100000; decide)) (ea_cons (evd_tup (ea_cons evd_bl (ea_cons (evd_tup (ea_cons evd_int ea_nil) (by show 1 ≤ 100000; decide)) ea_nil)) (by show 2 ≤ 100000; decide)) (ea_cons (evd_tup (ea_cons evd_int (ea_cons (evd_lst (ea_cons evd_int ea_nil) (by show 1 ≤ 100000; decide)) ea_nil)) (by show 2 ≤ 100000; decide)) ea_nil)))))) (by show 6 ≤ 100000; decide)) ⟨wrongL, rfl, by decide, by decide, wrong_all⟩)) (fun v x G1 px x1 n1 => ?_)
  obtain ⟨d, e, rfl, t1, t2, no⟩ := px
  intro H1 st1 D q
  refine go_seq (go_seq (go_drop (go_callS (go_cons ?_))))
  refine (evd_op (evd_at n1) (evd_int (i := ((0 : Nat) : Int))) (r_ixT rfl) : EvD _ _ G1 d) H1 st1.s _ fun u1 G2 H2 g2 m1 => ?_
  refine go_cons ?_
  refine (evd_op (evd_at (Dn.mono g2.g _ n1)) (evd_int (i := ((1 : Nat) : Int))) (r_ixT rfl) : EvD _ _ G2 e) H2 g2.s _ fun u2 G3 H3 g3 m2 => go_nil ?_
  have st3 := (st1.gr g2).gr g3
  refine ⟨_, none, G3, g3.s, .cons (Dn.mono g3.g _ m1) (.cons m2 .nil), ⟨d, e, rfl, t1, t2, fun z => absurd (no.symm.trans z) Bool.false_ne_true, fun _ => rfl⟩, fun c z => (nomatch z), fun _ H4 x4 => ?_⟩
  refine ⟨true, er.one, fun _ a ha => ?_, (fun z => nomatch z)⟩
  have st4 := st3.gr (Gr.grow st3.s x4)
  refine go_set1 (go_c ?_)
  dsimp only
  refine go_seq (go_drop (go_callS (go_cons (go_c (go_cons ?_)))))
  refine evr_pk (P := fun x => rateB x = false ∧ noT x ∧ ∀ j, x = .int j → True) rfl (evr_d (evd_lst (ea_cons (evd_neg evd_int) (ea_cons evd_int (ea_cons evd_non (ea_cons evd_bl ea_nil)))) (by show 4 ≤ 100000; decide)) ⟨rateL, rfl, by decide, by decide, rate_all⟩) H4 st4 _ fun v2 x2 G5 H5 px2 g5 n2 => go_nil ?_
  refine ⟨_, none, G5, g5.st.s, .cons (.int 1) (.cons n2 .nil), ⟨.int 1, x2, rfl, (fun es e => nomatch e), px2.2.1, ?_⟩, fun c z => (nomatch z), fun _ H6 x6 => ?_⟩
  · cases x2 with
    | int j =>
      show none = (if amtB (.int 1) then (if rateB (.int j) then _ else none) else none)
      rw [px2.1]
      rfl
    | _ => rfl
  · refine ⟨true, er.one, fun _ a ha => ?_, (fun z => nomatch z)⟩
    exact q H6
end
end Sh

set_option Elab.async false
set_option linter.all false
set_option maxRecDepth 100000
set_option maxHeartbeats 4000000
/-! the law: taxed and net -/
namespace Sh
open PySem PySem.Spec L2
open PyProof.Rows hiding St
open Evl (Ex)
open ShW (rSumK)
theorem tax_ok {n r : Int} (n0 : 0 ≤ n) (n1 : n ≤ 1000000) (r0 : 0 ≤ r) (r1 : r ≤ 999) : taxF (.int n) (.int r) = some (.int (taxZ n r)) := by
  have a : amtB (.int n) = true := by
    show (decide (0 ≤ n) && decide (n ≤ 1000000000000)) = true
    rw [decide_eq_true n0, decide_eq_true (by omega)]
    rfl
  have b : rateB (.int r) = true := by
    show (decide (0 ≤ r) && decide (r ≤ 999)) = true
    rw [decide_eq_true r0, decide_eq_true r1]
    rfl
  show (if amtB (.int n) then (if rateB (.int r) then _ else none) else none) = _
  rw [if_pos a, if_pos b]
theorem net_ok {n r : Int} (n0 : 0 ≤ n) (n1 : n ≤ 1000000) (r0 : 0 ≤ r) (r1 : r ≤ 999) : (match (PyData.int n), (PyData.int r) with | .int n, .int r => if amtB (.int n) && rateB (.int r) then some (PyData.int (netZ n r)) else none | _, _ => none) = some (.int (netZ n r)) := by
  have a : amtB (.int n) = true := by
    show (decide (0 ≤ n) && decide (n ≤ 1000000000000)) = true
    rw [decide_eq_true n0, decide_eq_true (by omega)]
    rfl
  have b : rateB (.int r) = true := by
    show (decide (0 ≤ r) && decide (r ≤ 999)) = true
    rw [decide_eq_true r0, decide_eq_true r1]
    rfl
  show (if amtB (.int n) && rateB (.int r) then _ else none) = _
  rw [a, b]
  rfl
theorem noT_int {i : Int} : noT (.int i) := fun es e => nomatch e
theorem tax_lo {n r : Int} : ¬ (2 * n * r - 1000 ≥ 2000 * taxZ n r) := by
  unfold taxZ
  rw [Int.mul_assoc]
  generalize n * r = x
  omega
theorem tax_hi {n r : Int} : ¬ (2 * n * r + 1000 < 2000 * taxZ n r) := by
  unfold taxZ
  rw [Int.mul_assoc]
  generalize n * r = x
  omega
theorem div_of {x b q : Int} (hb : 0 < b) (h1 : q * b ≤ x) (h2 : x < (q + 1) * b) : x / b = q := by
  have e1 : q ≤ x / b := (Int.le_ediv_iff_mul_le hb).mpr h1
  have e2 : x / b < q + 1 := (Int.ediv_lt_iff_lt_mul hb).mpr h2
  omega
theorem net_fits {g r : Int} (r0 : 0 ≤ r) : netZ g r + taxZ (netZ g r) r ≤ g := by
  have h := Int.ediv_mul_le (1000 * g + 499) (b := 1000 + r) (by omega)
  unfold taxZ
  unfold netZ
  generalize (1000 * g + 499) / (1000 + r) = q at h
  rw [Int.mul_add] at h
  generalize q * r = x at h
  omega
theorem net_most {g r : Int} (r0 : 0 ≤ r) : ¬ (netZ g r + 1 + taxZ (netZ g r + 1) r ≤ g) := by
  have h := Int.lt_ediv_add_one_mul_self (1000 * g + 499) (b := 1000 + r) (by omega)
  unfold taxZ
  unfold netZ
  generalize (1000 * g + 499) / (1000 + r) = q at h
  rw [Int.mul_add] at h
  generalize (q + 1) * r = x at h
  omega
theorem net_lo {g r : Int} (g0 : 0 ≤ g) (r0 : 0 ≤ r) : 0 ≤ netZ g r := Int.ediv_nonneg (by omega) (by omega)
theorem net_hi {g r : Int} (g0 : 0 ≤ g) (r0 : 0 ≤ r) : netZ g r ≤ g := by
  have h := net_fits (g := g) r0
  have h2 : 0 ≤ taxZ (netZ g r) r := by
    unfold taxZ
    have := Int.mul_nonneg (net_lo g0 r0) r0
    exact Int.ediv_nonneg (by omega) (by omega)
  omega
def ratesL : List D := [(PyData.int 0), (PyData.int 1), (PyData.int 70), (PyData.int 190), (PyData.int 333), (PyData.int 999)]
theorem rates_all : ∀ x ∈ ratesL, ∃ q : Int, x = .int q ∧ 0 ≤ q ∧ q ≤ 999 := fun x hx => by
  unfold ratesL at hx
  simp only [List.mem_cons, List.not_mem_nil, or_false] at hx
  rcases hx with rfl | rfl | rfl | rfl | rfl | rfl
  all_goals exact ⟨_, rfl, by decide, by decide⟩
theorem or3 {a b c : Bool} (h1 : a = false) (h2 : b = false) (h3 : c = false) : (a || (b || c)) = false := by
  rw [h1, h2, h3]
  rfl
section
variable {P : Program} {w : World} {K : PySem.W.Frag} {mg : Str → Option Value} {base : Heap} {C : Addr} {f : Addr} {cdv : Value} {A : Around} {outer : List Env} {s : Shared} {H : Hp} {E : XK}
theorem law_rate (B : Bi mg) (hr : Room 3 (A.deeper (envOfC "law" (defScope s_law) s.heap.objs.size f cdv)))
    (K__law_pick : Keeps P w K mg base CX0 2 "_law_pick" ["row", "things"] (spPick K))
    (K_taxed : Keeps P w K mg base (L2N.CX P w) 3 "taxed" ["net", "rate"] (spR C (dom2 taxF)))
    (K_net_of : Keeps P w K mg base (L2N.CX P w) 3 "net_of" ["gross", "rate"] (spR C (dom2 fun d e => match d, e with | .int n, .int r => if amtB (.int n) && rateB (.int r) then some (.int (netZ n r)) else none | _, _ => none)))
    (rest : ∃ tm, PSs (lawX P w K mg base f cdv A outer s H E) ((defBody s_law).drop 16) tm ∧ ∀ (r sc : Addr) (a0 a2 a3 a4 a5 a6 a7 a8 a9 a10 a11 a12 a13 a14 a15 a16 a17 a18 a19 a20 a21 a22 : Option V) (G : Hp),
      EvL K r sc tm [a0, some (.ref r), a2, a3, a4, a5, a6, a7, a8, a9, a10, a11, a12, a13, a14, a15, a16, a17, a18, a19, a20, a21, a22] G) :
    ∃ tm, PSs (lawX P w K mg base f cdv A outer s H E) ((defBody s_law).drop 11) tm ∧ ∀ (r sc : Addr) (a : Int) (a0 a3 a4 a5 a6 a7 a8 a9 a10 a11 a12 a13 a14 a15 a16 a17 a18 a19 a20 a21 a22 : Option V) (G : Hp), 0 ≤ a → a ≤ 999999 →
      EvL K r sc tm [a0, some (.ref r), some (.int a), a3, a4, a5, a6, a7, a8, a9, a10, a11, a12, a13, a14, a15, a16, a17, a18, a19, a20, a21, a22] G := by
  obtain ⟨tm, htm, pr⟩ := rest
  refine ⟨_, (pss_cons (ps_set (i := 13) sc_law.nd rfl (.inl rfl) (pe_callD K__law_pick (hr.mono (by omega)) (pa_cons (pv 1) (pa_cons (pe_lst (pa_cons pe_int (pa_cons pe_int (pa_cons pe_int (pa_cons pe_int (pa_cons pe_int (pa_cons pe_int pa_nil))))))) pa_nil))))
    (pss_cons (ps_set (i := 14) sc_law.nd rfl (.inl rfl) (pe_callR K_taxed (hr.mono (by omega)) takes0N (pa_cons (pv 2) (pa_cons (pv 13) pa_nil))))
    (pss_cons (ps_if (PW.pt (pw_or (pt_cmpR op_ge (pe_op op_sub (pe_op op_mul (pe_op op_mul pe_int (pv 2)) (pv 13)) pe_int) (pe_op op_mul pe_int (pv 14)) (nomark _)) (pw_or (pt_cmpR op_lt (pe_op op_add (pe_op op_mul (pe_op op_mul pe_int (pv 2)) (pv 13)) pe_int) (pe_op op_mul pe_int (pv 14)) (nomark _)) (pw_or1 (pt_val (pe_callB call_isi rfl B.isinstance bi_isinstance (pa_cons (pv 14) (pa_cons (pe_ty B.bool bi_bool) pa_nil)))))))) (pss_one (ps_ret pe_bl)) pss_nil)
    (pss_cons (ps_set (i := 15) sc_law.nd rfl (.inl rfl) (pe_callR K_net_of (hr.mono (by omega)) takes0N (pa_cons (pv 2) (pa_cons (pv 13) pa_nil))))
    (pss_cons (ps_if (PW.pt (pw_or (pt_cmpR op_gt (pe_op op_add (pv 15) (pe_callR K_taxed (hr.mono (by omega)) takes0N (pa_cons (pv 15) (pa_cons (pv 13) pa_nil)))) (pv 2) (nomark _)) (pw_or (pt_cmpR op_le (pe_op op_add (pe_op op_add (pv 15) pe_int) (pe_callR K_taxed (hr.mono (by omega)) takes0N (pa_cons (pe_op op_add (pv 15) pe_int) (pa_cons (pv 13) pa_nil)))) (pv 2) (nomark _)) (pw_or1 (pt_cmpR op_lt (pv 15) pe_int (nomark _)))))) (pss_one (ps_ret pe_bl)) pss_nil)
    (by exact htm)))))), fun r sc a a0 a3 a4 a5 a6 a7 a8 a9 a10 a11 a12 a13 a14 a15 a16 a17 a18 a19 a20 a21 a22 G h0 h1 => ?_⟩
  refine evl_setR (P := fun x => ∃ q : Int, x = .int q ∧ 0 ≤ q ∧ q ≤ 999) (evr_pk rfl (evr_d (evd_lst (ea_cons evd_int (ea_cons evd_int (ea_cons evd_int (ea_cons evd_int (ea_cons evd_int (ea_cons evd_int ea_nil)))))) (by show 6 ≤ 100000; decide)) ⟨ratesL, rfl, by decide, by decide, rates_all⟩)) (fun v x G1 px x1 n1 => ?_)
  obtain ⟨q, rfl, q0, q1⟩ := px
  cases n1
  have cI : ∀ {G : Hp} {i : Int}, Dn G (.int i) (.int i) := .int _
  refine evl_set (d := .int (taxZ a q)) (evd_callS (ea_cons (evd_at (d := .int a) cI) (ea_cons (evd_at (d := .int q) cI) ea_nil)) ⟨.int a, .int q, rfl, noT_int, noT_int, (tax_ok h0 (by omega) q0 q1).symm⟩) (fun v2 G2 x2 n2 => ?_)
  cases n2
  refine evl_no (evt_is (evt_or (evt_test (evd_op (evd_op (evd_op (evd_op evd_int (evd_at (d := .int a) cI) (r_I (.inl ⟨by decide, by decide⟩) fun _ => .int _)) (evd_at (d := .int q) cI) (r_I (.inr ⟨by omega, by omega⟩) fun _ => .int _)) evd_int (r_I0 fun _ => .int _)) (evd_op evd_int (evd_at (d := .int (taxZ a q)) cI) (r_I (.inl ⟨by decide, by decide⟩) fun _ => .int _)) (r_I0 fun _ => .bl _)))
    (fun _ => evt_or (evt_test (evd_op (evd_op (evd_op (evd_op evd_int (evd_at (d := .int a) cI) (r_I (.inl ⟨by decide, by decide⟩) fun _ => .int _)) (evd_at (d := .int q) cI) (r_I (.inr ⟨by omega, by omega⟩) fun _ => .int _)) evd_int (r_I0 fun _ => .int _)) (evd_op evd_int (evd_at (d := .int (taxZ a q)) cI) (r_I (.inl ⟨by decide, by decide⟩) fun _ => .int _)) (r_I0 fun _ => .bl _)))
      (fun _ => evt_B (evd_isi (evd_at (d := .int (taxZ a q)) cI) (kit_bool _))))) (or3 (decide_eq_false tax_lo) (decide_eq_false tax_hi) rfl)) (fun G3 x3 => ?_)
  refine evl_set (d := .int (netZ a q)) (evd_callS (ea_cons (evd_at (d := .int a) cI) (ea_cons (evd_at (d := .int q) cI) ea_nil)) ⟨.int a, .int q, rfl, noT_int, noT_int, (net_ok h0 (by omega) q0 q1).symm⟩) (fun v4 G4 x4 n4 => ?_)
  cases n4
  have m0 := net_lo h0 q0
  have m1 := net_hi h0 q0
  refine evl_no (evt_is (evt_or (evt_test (evd_op (evd_op (evd_at (d := .int (netZ a q)) cI) (evd_callS (ea_cons (evd_at (d := .int (netZ a q)) cI) (ea_cons (evd_at (d := .int q) cI) ea_nil)) ⟨.int (netZ a q), .int q, rfl, noT_int, noT_int, (tax_ok m0 (by omega) q0 q1).symm⟩) (r_I0 fun _ => .int _)) (evd_at (d := .int a) cI) (r_I0 fun _ => .bl _)))
    (fun _ => evt_or (evt_test (evd_op (evd_op (evd_op (evd_at (d := .int (netZ a q)) cI) evd_int (r_I0 fun _ => .int _)) (evd_callS (ea_cons (evd_op (evd_at (d := .int (netZ a q)) cI) evd_int (r_I0 fun _ => .int _)) (ea_cons (evd_at (d := .int q) cI) ea_nil)) ⟨.int (netZ a q + 1), .int q, rfl, noT_int, noT_int, (tax_ok (by omega) (by omega) q0 q1).symm⟩) (r_I0 fun _ => .int _)) (evd_at (d := .int a) cI) (r_I0 fun _ => .bl _)))
      (fun _ => evt_test (evd_op (evd_at (d := .int (netZ a q)) cI) evd_int (r_I0 fun _ => .bl _))))) (or3 (decide_eq_false (Int.not_lt.mpr (net_fits q0))) (decide_eq_false (net_most q0)) (decide_eq_false (by omega)))) (fun G5 x5 => ?_)
  exact pr _ _ _ _ _ _ _ _ _ _ _ _ _ _ _ _ _ _ _ _ _ _ _ _ _
end
end Sh

set_option Elab.async false
set_option linter.all false
set_option maxRecDepth 100000
set_option maxHeartbeats 4000000
/-! the law: its loops -/
namespace Sh
open PySem PySem.Spec L2
open PyProof.Rows hiding St
open Evl (Ex)
open ShW (rSumK)
section
variable (a : Int) (ws : List Int)
def moreZ (j : Nat) : Int := (sharedF a ws).getD j 0 - fl a ws (ws.getD j 0)
def restZ (j : Nat) : Int := rst a ws (ws.getD j 0)
def outZ (j : Nat) : D := .tuple [.int (restZ a ws j), .int (moreZ a ws j), .int (j : Nat)]
end
section
variable {a : Int} {ws : List Int}
theorem getD_of {l : List Int} {j : Nat} {x : Int} (h : l[j]? = some x) : l.getD j 0 = x := by
  rw [List.getD_eq_getElem?_getD, h]
  rfl
theorem more_of {j : Nat} {v : Int} (h : ws[j]? = some v) : (chosen a ws j → moreZ a ws j = 1) ∧ (¬ chosen a ws j → moreZ a ws j = 0) := by
  unfold moreZ
  rw [getD_of h]
  obtain ⟨z1, z2⟩ := shared_at (a := a) h
  exact ⟨fun c => by rw [getD_of (z1 c)]; omega, fun c => by rw [getD_of (z2 c)]; omega⟩
theorem rest_of {j : Nat} {v : Int} (h : ws[j]? = some v) : restZ a ws j = rst a ws v := by
  unfold restZ
  rw [getD_of h]
theorem pair_ok {i j : Nat} {v w : Int} (hi : ws[i]? = some v) (hj : ws[j]? = some w) :
    (decide (moreZ a ws i < moreZ a ws j) && (decide (restZ a ws i > restZ a ws j) || (decide (restZ a ws i = restZ a ws j) && decide ((i : Int) < j)))) = false := by
  by_cases ci : chosen a ws i
  · have e1 := (more_of hi).1 ci
    by_cases cj : chosen a ws j
    · have e2 := (more_of hj).1 cj
      rw [e1, e2]
      rfl
    · have e2 := (more_of hj).2 cj
      rw [e1, e2]
      rfl
  · by_cases cj : chosen a ws j
    · have z := pick_order hi hj ci cj
      rw [rest_of hi, rest_of hj]
      have y : (decide (rst a ws v > rst a ws w) || (decide (rst a ws v = rst a ws w) && decide ((i : Int) < j))) = false := by
        rw [Bool.or_eq_false_iff, Bool.and_eq_false_iff, decide_eq_false_iff_not, decide_eq_false_iff_not, decide_eq_false_iff_not]
        omega
      rw [y, Bool.and_false]
    · have e1 := (more_of hi).2 ci
      have e2 := (more_of hj).2 cj
      rw [e1, e2]
      rfl
theorem one_ok (h : SumOk a ws) {i : Nat} {v : Int} (hi : ws[i]? = some v) : (decide (moreZ a ws i = 1) && decide (restZ a ws i = 0)) = false := by
  by_cases ci : chosen a ws i
  · have z := pick_pos h hi ci
    rw [rest_of hi, decide_eq_false z, Bool.and_false]
  · rw [(more_of hi).2 ci]
    rfl
theorem part_in {i : Nat} {v x : Int} (hi : ws[i]? = some v) (hx : (sharedF a ws)[i]? = some x) : x ∈ [fl a ws v, fl a ws v + 1] := by
  obtain ⟨z1, z2⟩ := shared_at (a := a) hi
  by_cases c : chosen a ws i
  · rw [z1 c] at hx
    cases hx
    exact List.mem_cons_of_mem _ List.mem_cons_self
  · rw [z2 c] at hx
    cases hx
    exact List.mem_cons_self
theorem step_sums {j : Nat} (lt : j < ws.length) : ((stepF a ws).take (j + 1)).sum = a * (ws.take (j + 1)).sum / ws.sum := by
  rw [steps_sum _ (by omega)]
  rfl
end
section
variable {P : Program} {w : World} {K : PySem.W.Frag} {mg : Str → Option Value} {base : Heap} {C : Addr} {f : Addr} {cdv : Value} {A : Around} {outer : List Env} {s : Shared} {H : Hp} {E : XK}
theorem law_loops (B : Bi mg) (hr : Room 3 (A.deeper (envOfC "law" (defScope s_law) s.heap.objs.size f cdv)))
    (rest : ∃ tm, PSs (lawX P w K mg base f cdv A outer s H E) ((defBody s_law).drop 11) tm ∧ ∀ (r sc : Addr) (a : Int) (a0 a3 a4 a5 a6 a7 a8 a9 a10 a11 a12 a13 a14 a15 a16 a17 a18 a19 a20 a21 a22 : Option V) (G : Hp), 0 ≤ a → a ≤ 999999 →
      EvL K r sc tm [a0, some (.ref r), some (.int a), a3, a4, a5, a6, a7, a8, a9, a10, a11, a12, a13, a14, a15, a16, a17, a18, a19, a20, a21, a22] G) :
    ∃ tm, PSs (lawX P w K mg base f cdv A outer s H E) ((defBody s_law).drop 6) tm ∧ ∀ (r sc : Addr) (a : Int) (ws : List Int) (v3 v5 v6 : V) (a0 a7 a8 a9 a10 a11 a12 a13 a14 a15 a16 a17 a18 a19 a20 a21 a22 : Option V) (G : Hp), 0 ≤ a → a ≤ 999999 → WOk ws → (∀ x ∈ ws, x ≤ 1000) → Dn G v3 (.tuple (intL ws)) → Dn G v5 (.tuple (intL (sharedF a ws))) → Dn G v6 (.tuple (intL (stepF a ws))) →
      EvL K r sc tm [a0, some (.ref r), some (.int a), some v3, some (.int ws.sum), some v5, some v6, a7, a8, a9, a10, a11, a12, a13, a14, a15, a16, a17, a18, a19, a20, a21, a22] G := by
  obtain ⟨tm, htm, pr⟩ := rest
  refine ⟨_, (pss_cons (ps_set (i := 7) sc_law.nd rfl (.inl rfl) (pe_lst pa_nil))
    (pss_cons (ps_for PassesOwn.never rfl (ShW.pi_enK (k := .t) B.enumerate (pa_cons (pv 3) pa_nil)) (pg_tup rfl (pgs_cons (pg_name (i := 8) sc_law.nd rfl (.inl rfl)) (pgs_cons (pg_name (i := 9) sc_law.nd rfl (.inl rfl)) pgs_nil)))
      (pss_cons (ps_set (i := 17) sc_law.nd rfl (.inl rfl) (pe_op op_fdivN (pe_op op_mul (pv 2) (pv 9)) (pv 4)))
    (pss_cons (ps_if (PW.pt (pw_or (pt_val (pe_callB call_isi rfl B.isinstance bi_isinstance (pa_cons (pe_ix ix_tup (pv 5) (pv 8) (fun _ _ => rfl)) (pa_cons (pe_ty B.bool bi_bool) pa_nil)))) (pw_or1 (pt_cmpR op_notIn_seq (pe_ix ix_tup (pv 5) (pv 8) (fun _ _ => rfl)) (pe_lst (pa_cons (pv 17) (pa_cons (pe_op op_add (pv 17) pe_int) pa_nil))) (by rfl))))) (pss_one (ps_ret pe_bl)) pss_nil)
    (pss_one (ps_expr (pe_bm PySem.F.plainAttrs_list PySem.F.slot_list_append PySem.F.type_list_append mt_append (pv 7) (pa_cons (pe_tup (pa_cons (pe_op op_modN (pe_op op_mul (pv 2) (pv 9)) (pv 4)) (pa_cons (pe_op op_sub (pe_ix ix_tup (pv 5) (pv 8) (fun _ _ => rfl)) (pv 17)) (pa_cons (pv 8) pa_nil)))) pa_nil)))))))
    (pss_cons (ps_for PassesOwn.never rfl (pi_list (pv 7)) (pg_tup rfl (pgs_cons (pg_name (i := 10) sc_law.nd rfl (.inl rfl)) (pgs_cons (pg_name (i := 11) sc_law.nd rfl (.inl rfl)) (pgs_cons (pg_name (i := 8) sc_law.nd rfl (.inl rfl)) pgs_nil))))
      (pss_cons (ps_for PassesOwn.never rfl (pi_list (pv 7)) (pg_tup rfl (pgs_cons (pg_name (i := 18) sc_law.nd rfl (.inl rfl)) (pgs_cons (pg_name (i := 19) sc_law.nd rfl (.inl rfl)) (pgs_cons (pg_name (i := 20) sc_law.nd rfl (.inl rfl)) pgs_nil))))
      (pss_one (ps_if (PW.pt (pw_and (pt_cmpR op_lt (pv 11) (pv 19) (nomark _)) (pw_and1 (PW.pt (pw_or (pt_cmpR op_gt (pv 10) (pv 18) (nomark _)) (pw_or1 (PW.pt (pw_and (pt_cmpR op_eq (pv 10) (pv 18) (nomark _)) (pw_and1 (pt_cmpR op_lt (pv 8) (pv 20) (nomark _))))))))))) (pss_one (ps_ret pe_bl)) pss_nil)))
    (pss_one (ps_if (PW.pt (pw_and (pt_cmpR op_eq (pv 11) pe_int (nomark _)) (pw_and1 (pt_cmpR op_eq (pv 10) pe_int (nomark _))))) (pss_one (ps_ret pe_bl)) pss_nil))))
    (pss_cons (ps_set (i := 12) sc_law.nd rfl (.inl rfl) pe_int)
    (pss_cons (ps_for PassesOwn.never rfl (pi_range1 rfl B.range (pa_cons (pe_callB call_len rfl B.len bi_len (pa_cons (pv 3) pa_nil)) pa_nil)) (pg_name (i := 8) sc_law.nd rfl (.inl rfl))
      (pss_cons (ps_set (i := 12) sc_law.nd rfl (.inl rfl) (pe_op op_add (pv 12) (pe_ix ix_tup (pv 3) (pv 8) (fun _ _ => rfl))))
    (pss_one (ps_if (pt_cmpR op_ne (pe_callB (ShW.cr_sumK (k := .t) rfl) rfl B.sum bi_sum (pa_cons (pe_slice sl_tupA (pv 6) po_none (po_some (pe_op op_add (pv 8) pe_int))) pa_nil)) (pe_op op_fdivN (pe_op op_mul (pv 2) (pv 12)) (pv 4)) (nomark _)) (pss_one (ps_ret pe_bl)) pss_nil))))
    (by exact htm)))))), fun r sc a ws v3 v5 v6 a0 a7 a8 a9 a10 a11 a12 a13 a14 a15 a16 a17 a18 a19 a20 a21 a22 G h0 h1 W small n3 n5 n6 => ?_⟩
  have cI : ∀ {G : Hp} {i : Int}, Dn G (.int i) (.int i) := .int _
  have len40 := W.len
  have T := W.T
  have big := sum_big W small
  have ok : SumOk a ws := ⟨h0, W.lo, T⟩
  have lenE : (enumD (intL ws)).length = ws.length := by rw [enumD_len]; exact List.length_map _
  have atE : ∀ {j : Nat} {d : D}, (enumD (intL ws))[j]? = some d → ∃ v, ws[j]? = some v ∧ d = .tuple [.int (j : Nat), .int v] := fun {j d} h => by
    unfold enumD intL at h
    rw [List.getElem?_map, List.getElem?_zipIdx, List.getElem?_map] at h
    cases hv : ws[j]? with
    | none => rw [hv] at h; cases h
    | some v =>
      rw [hv] at h
      have h : PyData.tuple [.int ((0 + j : Nat) : Int), .int v] = d := Option.some.inj h
      rw [Nat.zero_add] at h
      exact ⟨v, rfl, h.symm⟩
  have partAt : ∀ {j : Nat} {v : Int}, ws[j]? = some v → ∃ x, (sharedF a ws)[j]? = some x := fun {j v} h => ⟨_, List.getElem?_eq_getElem (by rw [shared_len]; exact (List.getElem?_eq_some_iff.mp h).1)⟩
  -- the rests
  refine evl_build (ds := enumD (intL ws)) (out := outZ a ws) (I := fun p j G1 σ' => ∃ x y z, σ' = [a0, some (.ref r), some (.int a), some v3, some (.int ws.sum), some v5, some v6, some (.ref p), x, y, a10, a11, a12, a13, a14, a15, a16, z, a18, a19, a20, a21, a22])
    (C := fun d G1 σ' σ2 => ∃ d1 e1 x y, d = .tuple [d1, e1] ∧ σ2 = (σ'.set 8 (some x)).set 9 (some y) ∧ Dn G1 x d1 ∧ Dn G1 y e1) (by rw [lenE]; omega) (fun p => ei_enK (k := .t) (ea_cons (evd_at n3) ea_nil)) (fun _ _ _ _ _ _ h => h) (fun p => ⟨a8, a9, a17, rfl⟩)
    (fun p j d σ' G1 hd x1 hI => ?_) (fun p j d σ' σ2 G1 hd x1 hI hC => ?_) (fun p σ2 G1 x1 hI np => ?_)
  · obtain ⟨v, hv, rfl⟩ := atE hd
    exact fun x H ex n Q q => eg_pair x H ex n Q fun σ2 ⟨x, y, e, nx, ny⟩ => q σ2 ⟨_, _, x, y, rfl, e, nx, ny⟩
  · obtain ⟨v, hv, rfl⟩ := atE hd
    obtain ⟨b1, b2, b3, rfl⟩ := hI
    obtain ⟨d1, e1, x, y, ed, rfl, nx, ny⟩ := hC
    cases ed
    cases nx
    cases ny
    obtain ⟨px, hpx⟩ := partAt hv
    have v0 := W.lo v (List.mem_of_getElem? hv)
    have v1 := small v (List.mem_of_getElem? hv)
    have pAt : (intL (sharedF a ws))[j]? = some (.int px) := by
      unfold intL
      rw [List.getElem?_map, hpx]
      rfl
    have prod : ∀ {σ : L2.St} {G2 : Hp}, σ[2]? = some (some (.int a)) → σ[9]? = some (some (.int v)) → EvD (tOp (rI CMul fun i j => .int (i * j)) (tVar 2) (tVar 9)) σ G2 (.int (a * v)) := fun s2 s9 =>
      evd_op (evd_at (d := .int a) cI (Ex.refl _) s2) (evd_at (d := .int v) cI (Ex.refl _) s9) (r_I (.inr ⟨by omega, by omega⟩) fun _ => .int _)
    refine eva_set (d := .int (fl a ws v)) (evd_is (evd_op (prod rfl rfl) (evd_at (d := .int ws.sum) cI) (r_I ⟨by omega, by omega⟩ fun _ => .int _)) ?_) (fun u G2 x2 nu => ?_)
    · show PyData.int ((a * v).fdiv ws.sum) = .int (a * v / ws.sum)
      rw [Int.fdiv_eq_ediv_of_nonneg _ (by omega)]
    · cases nu
      have n5' : Dn G2 v5 (.tuple (intL (sharedF a ws))) := Dn.mono (x1.trans x2) _ n5
      have nth : ∀ {G3 : Hp}, Ex G2 G3 → EvD (tOp (rIxT K) (tVar 5) (tVar 8)) [a0, some (.ref r), some (.int a), some v3, some (.int ws.sum), some v5, some v6, some (.ref p), some (.int (j : Nat)), some (.int v), a10, a11, a12, a13, a14, a15, a16, some (.int (fl a ws v)), a18, a19, a20, a21, a22] G3 (.int px) := fun x3 =>
        evd_op (evd_at n5' x3) (evd_at (d := .int (j : Nat)) cI) (r_ixT pAt)
      refine eva_no (evt_is (evt_or (evt_B (evd_isi (nth (Ex.refl _)) (kit_bool _))) (fun _ => evt_test (evd_op (nth (Ex.refl _)) (evd_lst (ea_cons (evd_at (d := .int (fl a ws v)) cI) (ea_cons (evd_op (evd_at (d := .int (fl a ws v)) cI) evd_int (r_I0 fun _ => .int _)) ea_nil)) (by show 2 ≤ 100000; decide)) (r_inI (xs := [fl a ws v, fl a ws v + 1]) (neg := true) rfl)))) ?_) (fun G3 x3 => ?_)
      · show (false || !decide (px ∈ [fl a ws v, fl a ws v + 1])) = false
        rw [decide_eq_true (part_in hv hpx)]
        rfl
      · refine eva_app rfl (evd_is (evd_tup (ea_cons (evd_op (prod rfl rfl) (evd_at (d := .int ws.sum) cI) (r_I (show ws.sum ≠ 0 by omega) fun _ => .int _)) (ea_cons (evd_op (nth x3) (evd_at (d := .int (fl a ws v)) cI) (r_I0 fun _ => .int _)) (ea_cons (evd_at (d := .int (j : Nat)) cI) ea_nil))) (by show 3 ≤ 100000; decide)) ?_) (fun G4 x4 => ⟨_, _, _, rfl⟩)
        show PyData.tuple [.int ((a * v).fmod ws.sum), .int (px - fl a ws v), .int (j : Nat)] = outZ a ws j
        unfold outZ moreZ
        rw [rest_of hv, getD_of hpx, getD_of hv, Int.fmod_eq_emod_of_nonneg _ (by omega), rst_mod]
  · obtain ⟨b1, b2, b3, rfl⟩ := hI
    rw [lenE] at np
    have outs : ∀ {j : Nat} {d : D}, ((List.range ws.length).map (outZ a ws))[j]? = some d → (∃ v, ws[j]? = some v) ∧ d = outZ a ws j := fun {j d} h => by
      have lt : j < ws.length := by
        have z := (List.getElem?_eq_some_iff.mp h).1
        rw [List.length_map, List.length_range] at z
        exact z
      rw [List.getElem?_map, List.getElem?_range lt] at h
      exact ⟨⟨_, List.getElem?_eq_getElem lt⟩, (Option.some.inj h).symm⟩
    refine evl_nx (B := fun G2 σ2 => ∃ x8 x10 x11 x18 x19 x20, σ2 = [a0, some (.ref r), some (.int a), some v3, some (.int ws.sum), some v5, some v6, some (.ref p), x8, b2, x10, x11, a12, a13, a14, a15, a16, b3, x18, x19, x20, a21, a22])
      (evn_for (I := fun i G2 σ2 => ∃ x8 x10 x11 x18 x19 x20, σ2 = [a0, some (.ref r), some (.int a), some v3, some (.int ws.sum), some v5, some v6, some (.ref p), x8, b2, x10, x11, a12, a13, a14, a15, a16, b3, x18, x19, x20, a21, a22])
        (C := fun d G2 σ' σ2 => ∃ d1 d2 d3 x y z, d = .tuple [d1, d2, d3] ∧ σ2 = ((σ'.set 10 (some x)).set 11 (some y)).set 8 (some z) ∧ Dn G2 x d1 ∧ Dn G2 y d2 ∧ Dn G2 z d3)
        (ei_list (evd_at np)) (fun _ _ _ _ _ h => h) ⟨_, _, _, _, _, _, rfl⟩ (fun i d σ' G2 hd x2 hI => ?_) (fun i d σ' σ2 G2 hd x2 hI hC => ?_)) (fun σ2 G2 x2 hB => ?_)
    · obtain ⟨_, rfl⟩ := outs hd
      exact fun x H ex n Q q => eg_three x H ex n Q fun σ2 ⟨x, y, z, e, nx, ny, nz⟩ => q σ2 ⟨_, _, _, x, y, z, rfl, e, nx, ny, nz⟩
    · obtain ⟨⟨v, hv⟩, rfl⟩ := outs hd
      obtain ⟨c8, c10, c11, c18, c19, c20, rfl⟩ := hI
      obtain ⟨d1, d2, d3, x, y, z, ed, rfl, nx, ny, nz⟩ := hC
      cases ed
      cases nx
      cases ny
      cases nz
      refine evn_seq (B := fun G2 σ2 => ∃ x18 x19 x20, σ2 = [a0, some (.ref r), some (.int a), some v3, some (.int ws.sum), some v5, some v6, some (.ref p), some (.int (i : Nat)), b2, some (.int (restZ a ws i)), some (.int (moreZ a ws i)), a12, a13, a14, a15, a16, b3, x18, x19, x20, a21, a22])
        (evn_for (I := fun _ G2 σ2 => ∃ x18 x19 x20, σ2 = [a0, some (.ref r), some (.int a), some v3, some (.int ws.sum), some v5, some v6, some (.ref p), some (.int (i : Nat)), b2, some (.int (restZ a ws i)), some (.int (moreZ a ws i)), a12, a13, a14, a15, a16, b3, x18, x19, x20, a21, a22])
          (C := fun d G2 σ' σ2 => ∃ d1 d2 d3 x y z, d = .tuple [d1, d2, d3] ∧ σ2 = ((σ'.set 18 (some x)).set 19 (some y)).set 20 (some z) ∧ Dn G2 x d1 ∧ Dn G2 y d2 ∧ Dn G2 z d3)
          (ei_list (evd_at np x2)) (fun _ _ _ _ _ h => h) ⟨_, _, _, rfl⟩ (fun j d σ' G3 hd3 x3 hI => ?_) (fun j d σ' σ2 G3 hd3 x3 hI hC => ?_)) (fun σ2 G3 x3 hB => ?_)
      · obtain ⟨_, rfl⟩ := outs hd3
        exact fun x H ex n Q q => eg_three x H ex n Q fun σ2 ⟨x, y, z, e, nx, ny, nz⟩ => q σ2 ⟨_, _, _, x, y, z, rfl, e, nx, ny, nz⟩
      · obtain ⟨⟨w, hw⟩, rfl⟩ := outs hd3
        obtain ⟨e18, e19, e20, rfl⟩ := hI
        obtain ⟨d1, d2, d3, x, y, z, ed, rfl, nx, ny, nz⟩ := hC
        cases ed
        cases nx
        cases ny
        cases nz
        refine evn_no1 (evt_is (evt_and (evt_test (evd_op (evd_at (d := .int (moreZ a ws i)) cI) (evd_at (d := .int (moreZ a ws j)) cI) (r_I0 fun _ => .bl _))) (fun _ => evt_or (evt_test (evd_op (evd_at (d := .int (restZ a ws i)) cI) (evd_at (d := .int (restZ a ws j)) cI) (r_I0 fun _ => .bl _)))
          (fun _ => evt_and (evt_test (evd_op (evd_at (d := .int (restZ a ws i)) cI) (evd_at (d := .int (restZ a ws j)) cI) (r_eq rfl))) (fun _ => evt_test (evd_op (evd_at (d := .int (i : Nat)) cI) (evd_at (d := .int (j : Nat)) cI) (r_I0 fun _ => .bl _)))))) (pair_ok hv hw)) (fun G4 x4 => ⟨_, _, _, rfl⟩)
      · obtain ⟨e18, e19, e20, rfl⟩ := hB
        exact evn_no1 (evt_is (evt_and (evt_test (evd_op (evd_at (d := .int (moreZ a ws i)) cI) evd_int (r_eq rfl))) (fun _ => evt_test (evd_op (evd_at (d := .int (restZ a ws i)) cI) evd_int (r_eq rfl)))) (one_ok ok hv)) (fun G4 x4 => ⟨_, _, _, _, _, _, rfl⟩)
    · obtain ⟨c8, c10, c11, c18, c19, c20, rfl⟩ := hB
      refine evl_set evd_int (fun v12 G3 x3 n12 => ?_)
      cases n12
      have e03 := (x1.trans x2).trans x3
      have lenU : (upTo ws.length).length = ws.length := by
        unfold upTo
        rw [List.length_map, List.length_range]
      have lenI : ((intL ws).length : Int) = (ws.length : Nat) := by
        unfold intL
        rw [List.length_map]
      refine evl_nx (B := fun G2 σ2 => ∃ x8, σ2 = [a0, some (.ref r), some (.int a), some v3, some (.int ws.sum), some v5, some v6, some (.ref p), x8, b2, c10, c11, some (.int (ws.take (upTo ws.length).length).sum), a13, a14, a15, a16, b3, c18, c19, c20, a21, a22])
        (evn_for (ds := upTo ws.length) (I := fun i G2 σ2 => ∃ x8, σ2 = [a0, some (.ref r), some (.int a), some v3, some (.int ws.sum), some v5, some v6, some (.ref p), x8, b2, c10, c11, some (.int (ws.take i).sum), a13, a14, a15, a16, b3, c18, c19, c20, a21, a22])
          (C := fun d G2 σ' σ2 => ∃ x, σ2 = σ'.set 8 (some x) ∧ Dn G2 x d)
          (ei_range (ea_cons (evd_cb (ea_cons (evd_at (i := 3) n3 e03) ea_nil) (r_lenT lenI)) ea_nil) (by omega)) (fun _ _ _ _ _ h => h) ⟨_, rfl⟩ (fun i d σ' G4 hd x4 hI => eg_name) (fun i d σ' σ2 G4 hd x4 hI hC => ?_)) (fun σ2 G4 x4 hB => ?_)
      · have lt : i < ws.length := by
          have z := (List.getElem?_eq_some_iff.mp hd).1
          rw [lenU] at z
          exact z
        unfold upTo at hd
        rw [List.getElem?_map, List.getElem?_range lt] at hd
        cases hd
        obtain ⟨e8, rfl⟩ := hI
        obtain ⟨x, rfl, nx⟩ := hC
        cases nx
        obtain ⟨v, hv⟩ : ∃ v, ws[i]? = some v := ⟨_, List.getElem?_eq_getElem lt⟩
        have wAt : (intL ws)[i]? = some (.int v) := by
          unfold intL
          rw [List.getElem?_map, hv]
          rfl
        have up : (ws.take (i + 1)).sum = (ws.take i).sum + v := by
          rw [take_len hv, List.sum_append]
          simp
        have e04 := e03.trans x4
        refine evn_set (d := .int (ws.take (i + 1)).sum) (evd_is (evd_op (evd_at (d := .int (ws.take i).sum) cI) (evd_op (evd_at n3 e04) (evd_at (d := .int (i : Nat)) cI) (r_ixT wAt)) (r_I0 fun _ => .int _)) (by rw [up])) (fun u G5 x5 nu => ?_)
        cases nu
        have e05 := e04.trans x5
        refine evn_no1 (evt_is (evt_test (evd_op (evd_cb (ea_cons (evd_is (d' := seqD .t (intL ((stepF a ws).take (i + 1)))) (evd_cutT (n := i + 1) (evd_at n6 e05) (evd_is (evd_op (evd_at (d := .int (i : Nat)) cI) evd_int (r_I0 fun _ => .int _)) rfl)) ?_) ea_nil) (r_sumK (k := .t) (ns := (stepF a ws).take (i + 1)) rfl))
          (evd_is (evd_op (evd_op (evd_at (d := .int a) cI) (evd_at (d := .int (ws.take (i + 1)).sum) cI) (r_I (.inl ⟨by omega, by omega⟩) fun _ => .int _)) (evd_at (d := .int ws.sum) cI) (r_I ⟨by omega, by omega⟩ fun _ => .int _)) (show PyData.int ((a * (ws.take (i + 1)).sum).fdiv ws.sum) = .int (a * (ws.take (i + 1)).sum / ws.sum) by rw [Int.fdiv_eq_ediv_of_nonneg _ (by omega)])) (r_ne rfl))) ?_) (fun G6 x6 => ⟨_, rfl⟩)
        · show PyData.tuple ((intL (stepF a ws)).take (i + 1)) = .tuple (intL ((stepF a ws).take (i + 1)))
          unfold intL
          rw [List.map_take]
        · rw [step_sums lt, decide_eq_true rfl]
          rfl
      · obtain ⟨e8, rfl⟩ := hB
        exact pr r sc a _ _ _ _ _ _ _ _ _ _ _ _ _ _ _ _ _ _ _ _ _ _ h0 h1
end
end Sh

set_option Elab.async false
set_option linter.all false
set_option maxRecDepth 100000
set_option maxHeartbeats 4000000
/-! the law, whole -/
namespace Sh
open PySem PySem.Spec L2
open PyProof.Rows hiding St
open Evl (Ex)
open ShW (rSumK)
/-- weights as they are drawn -/
structure Drawn (ws : List Int) : Prop where
  l1 : 1 ≤ ws.length
  l2 : ws.length ≤ 7
  lo : ∀ w ∈ ws, 0 ≤ w
  hi : ∀ w ∈ ws, w ≤ 49
theorem Drawn.one {ws : List Int} (h : Drawn ws) : ∀ w ∈ ws, w ≤ 1000 := fun w hw => by
  have := h.hi w hw
  omega
theorem drawn_all {ds : List D} (h : ∀ d ∈ ds, ∃ i : Nat, d = .int (i : Nat) ∧ i ≤ 49) : ∃ ws : List Int, ds = intL ws ∧ (∀ w ∈ ws, 0 ≤ w) ∧ ∀ w ∈ ws, w ≤ 49 := by
  induction ds with
  | nil => exact ⟨[], rfl, fun w hw => (by cases hw), fun w hw => (by cases hw)⟩
  | cons d ds ih =>
    obtain ⟨ws, e, h1, h2⟩ := ih fun x hx => h x (List.mem_cons_of_mem _ hx)
    obtain ⟨i, ei, hi⟩ := h d List.mem_cons_self
    refine ⟨(i : Int) :: ws, by rw [e, ei]; rfl, fun w hw => ?_, fun w hw => ?_⟩
    · rcases List.mem_cons.mp hw with rfl | hw
      · omega
      · exact h1 w hw
    · rcases List.mem_cons.mp hw with rfl | hw
      · omega
      · exact h2 w hw
theorem wOk_is {ws : List Int} (l : ws.length ≤ 40) (h : ∀ w ∈ ws, 0 ≤ w) (s : ∀ w ∈ ws, w ≤ 1000) (T : 0 < ws.sum) : wOk (.tuple (intL ws)) = true := by
  show (rowD (.tuple (intL ws)) 1 40 && ((intL ws).all amtB && !decide (((intL ws).map intOf).sum = 0))) = true
  have len : (intL ws).length = ws.length := List.length_map _
  have l1 : 1 ≤ ws.length := by
    cases ws with
    | nil => simp at T
    | cons => simp
  have e1 : rowD (.tuple (intL ws)) 1 40 = true := by
    show (decide (1 ≤ ((intL ws).length : Int)) && decide (((intL ws).length : Int) ≤ 40)) = true
    rw [len, decide_eq_true (by omega), decide_eq_true (by omega)]
    rfl
  have e2 : (intL ws).all amtB = true := List.all_eq_true.mpr fun d hd => by
    obtain ⟨w, hw, rfl⟩ := List.mem_map.mp hd
    have := h w hw
    have := s w hw
    show (decide (0 ≤ w) && decide (w ≤ 1000000000000)) = true
    rw [decide_eq_true (by omega), decide_eq_true (by omega)]
    rfl
  rw [e1, e2, intOf_int, decide_eq_false (by omega)]
  rfl
theorem amt_is {a : Int} (h0 : 0 ≤ a) (h1 : a ≤ 999999) : amtB (.int a) = true := by
  show (decide (0 ≤ a) && decide (a ≤ 1000000000000)) = true
  rw [decide_eq_true h0, decide_eq_true (by omega)]
  rfl
theorem parts_dom {fn : Int → List Int → List Int} {a : Int} {ws : List Int} (h0 : 0 ≤ a) (h1 : a ≤ 999999) (l : ws.length ≤ 40) (h : ∀ w ∈ ws, 0 ≤ w) (s : ∀ w ∈ ws, w ≤ 1000) (T : 0 < ws.sum) : domParts fn [.int a, .tuple (intL ws)] (some (.tuple (intL (fn a ws)))) := by
  refine ⟨_, _, rfl, noT_int, fun es e => ?_, fun _ => ⟨a, ws, rfl, rfl, s, rfl⟩, fun z => ?_⟩
  · cases e
    have len : (intL ws).length = ws.length := List.length_map _
    omega
  · rw [amt_is h0 h1, wOk_is l h s T] at z
    cases z
theorem or4 {a b c d : Bool} (h1 : a = false) (h2 : b = false) (h3 : c = false) (h4 : d = false) : (a || (b || (c || d))) = false := by
  rw [h1, h2, h3, h4]
  rfl
theorem evl_go {K : PySem.W.Frag} {r sc : Addr} {t : TS} {σ : L2.St} {G H : Hp} {E : Ends} (h : EvL K r sc t σ G) (st : RowSt K r sc G H) (q : ∀ H2, E.rt (.bl true) H2) : t E σ H := h H st E q
section
variable {P : Program} {w : World} {K : PySem.W.Frag} {mg : Str → Option Value} {base : Heap} {C : Addr}
section
variable {f : Addr} {cdv : Value} {A : Around} {outer : List Env} {s : Shared} {H : Hp} {E : XK}
theorem law_parts (B : Bi mg) (hr : Room 3 (A.deeper (envOfC "law" (defScope s_law) s.heap.objs.size f cdv)))
    (K_shared : Keeps P w K mg base (L2N.CX P w) 3 "shared" ["amount", "weights"] (spR C (domParts sharedF)))
    (K_stepped : Keeps P w K mg base (L2N.CX P w) 3 "stepped" ["amount", "weights"] (spR C (domParts stepF)))
    (rest : ∃ tm, PSs (lawX P w K mg base f cdv A outer s H E) ((defBody s_law).drop 6) tm ∧ ∀ (r sc : Addr) (a : Int) (ws : List Int) (v3 v5 v6 : V) (a0 a7 a8 a9 a10 a11 a12 a13 a14 a15 a16 a17 a18 a19 a20 a21 a22 : Option V) (G : Hp), 0 ≤ a → a ≤ 999999 → WOk ws → (∀ x ∈ ws, x ≤ 1000) → Dn G v3 (.tuple (intL ws)) → Dn G v5 (.tuple (intL (sharedF a ws))) → Dn G v6 (.tuple (intL (stepF a ws))) →
      EvL K r sc tm [a0, some (.ref r), some (.int a), some v3, some (.int ws.sum), some v5, some v6, a7, a8, a9, a10, a11, a12, a13, a14, a15, a16, a17, a18, a19, a20, a21, a22] G) :
    ∃ tm, PSs (lawX P w K mg base f cdv A outer s H E) ((defBody s_law).drop 4) tm ∧ ∀ (r sc : Addr) (a : Int) (ws : List Int) (v3 : V) (a0 : Option V) (G : Hp), 0 ≤ a → a ≤ 999999 → Drawn ws → 0 < ws.sum → Dn G v3 (.tuple (intL ws)) →
      EvL K r sc tm [a0, some (.ref r), some (.int a), some v3, none, none, none, none, none, none, none, none, none, none, none, none, none, none, none, none, none, none, none] G := by
  obtain ⟨tm, htm, pr⟩ := rest
  refine ⟨_, (pss_cons (ps_par3 (i := 4) (j := 5) (l := 6) rfl sc_law.nd rfl rfl rfl (by decide) (by decide) (by decide) rfl rfl rfl (pa_cons (pe_callB (ShW.cr_sumK (k := .t) rfl) rfl B.sum bi_sum (pa_cons (pv 3) pa_nil)) (pa_cons (pe_callR K_shared (hr.mono (by omega)) takes0N (pa_cons (pv 2) (pa_cons (pv 3) pa_nil))) (pa_cons (pe_callR K_stepped (hr.mono (by omega)) takes0N (pa_cons (pv 2) (pa_cons (pv 3) pa_nil))) pa_nil))) (by rfl))
    (pss_cons (ps_if (PW.pt (pw_or (pt_cmpR op_ne (pe_callB (ShW.cr_sumK (k := .t) rfl) rfl B.sum bi_sum (pa_cons (pv 5) pa_nil)) (pv 2) (nomark _)) (pw_or (pt_cmpR op_ne (pe_callB (ShW.cr_sumK (k := .t) rfl) rfl B.sum bi_sum (pa_cons (pv 6) pa_nil)) (pv 2) (nomark _)) (pw_or (pt_cmpR op_ne (pe_callB call_len rfl B.len bi_len (pa_cons (pv 5) pa_nil)) (pe_callB call_len rfl B.len bi_len (pa_cons (pv 3) pa_nil)) (nomark _)) (pw_or1 (pt_cmpR op_ne (pe_callB call_len rfl B.len bi_len (pa_cons (pv 6) pa_nil)) (pe_callB call_len rfl B.len bi_len (pa_cons (pv 3) pa_nil)) (nomark _))))))) (pss_one (ps_ret pe_bl)) pss_nil)
    (by exact htm))), fun r sc a ws v3 a0 G h0 h1 W T n3 => ?_⟩
  have cI : ∀ {G : Hp} {i : Int}, Dn G (.int i) (.int i) := .int _
  have l2 := W.l2
  have ok : SumOk a ws := ⟨h0, W.lo, T⟩
  have len : ∀ xs : List Int, (intL xs).length = xs.length := fun xs => List.length_map _
  refine evl_par3 (d := .int ws.sum) (ea_cons (evd_cb (ea_cons (evd_at n3) ea_nil) (r_sumK (k := .t) (ns := ws) rfl)) (ea_cons (evd_callS (ea_cons (evd_at (d := .int a) cI) (ea_cons (evd_at n3) ea_nil)) (parts_dom (fn := sharedF) h0 h1 (by omega) W.lo W.one T)) (ea_cons (evd_callS (ea_cons (evd_at (d := .int a) cI) (ea_cons (evd_at n3) ea_nil)) (parts_dom (fn := stepF) h0 h1 (by omega) W.lo W.one T)) ea_nil)))
    (fun x y z G2 x2 n4 n5 n6 => ?_)
  cases n4
  refine evl_no (evt_is (evt_or (evt_test (evd_op (evd_cb (ea_cons (evd_at n5) ea_nil) (r_sumK (k := .t) (ns := sharedF a ws) (z := a) (shared_sum ok))) (evd_at (d := .int a) cI) (r_ne rfl)))
    (fun _ => evt_or (evt_test (evd_op (evd_cb (ea_cons (evd_at n6) ea_nil) (r_sumK (k := .t) (ns := stepF a ws) (z := a) (steps_all T))) (evd_at (d := .int a) cI) (r_ne rfl)))
      (fun _ => evt_or (evt_test (evd_op (evd_cb (ea_cons (evd_at n5) ea_nil) (r_lenT (n := (ws.length : Nat)) (by rw [len, shared_len]))) (evd_cb (ea_cons (evd_at n3 x2) ea_nil) (r_lenT (n := (ws.length : Nat)) (by rw [len]))) (r_ne rfl)))
        (fun _ => evt_test (evd_op (evd_cb (ea_cons (evd_at n6) ea_nil) (r_lenT (n := (ws.length : Nat)) (by rw [len, steps_len]))) (evd_cb (ea_cons (evd_at n3 x2) ea_nil) (r_lenT (n := (ws.length : Nat)) (by rw [len]))) (r_ne rfl))))))
    (or4 (by rw [decide_eq_true rfl]; rfl) (by rw [decide_eq_true rfl]; rfl) (by rw [decide_eq_true rfl]; rfl) (by rw [decide_eq_true rfl]; rfl))) (fun G3 x3 => ?_)
  have wk : WOk ws := ⟨by omega, W.lo, T⟩
  exact pr r sc a ws v3 _ _ a0 _ _ _ _ _ _ _ _ _ _ _ _ _ _ _ _ G3 h0 h1 wk W.one (Dn.mono (x2.trans x3) _ n3) (Dn.mono x3 _ n5) (Dn.mono x3 _ n6)
end
def spLaw (K : PySem.W.Frag) : Sp := fun vs H Q _ => ∃ sc ns, vs = [.ref sc] ∧ SqL K H sc ((ns : List Int).map V.int) ∧ ∀ H2, Q (.bl true) H2
theorem keeps_law (B : Bi mg) (er : ErrC K mg "BadNumber" C) {f : Addr} {fd : FuncData} (F : Fun K "law" "law" s_law f fd)
    (K__law_taken : Keeps P w K mg base CX0 1 "_law_taken" ["row", "many"] (spTaken K)) (K__law_pick : Keeps P w K mg base CX0 2 "_law_pick" ["row", "things"] (spPick K))
    (K_shared : Keeps P w K mg base (L2N.CX P w) 3 "shared" ["amount", "weights"] (spR C (domParts sharedF)))
    (K_stepped : Keeps P w K mg base (L2N.CX P w) 3 "stepped" ["amount", "weights"] (spR C (domParts stepF)))
    (K_taxed : Keeps P w K mg base (L2N.CX P w) 3 "taxed" ["net", "rate"] (spR C (dom2 taxF)))
    (K_net_of : Keeps P w K mg base (L2N.CX P w) 3 "net_of" ["gross", "rate"] (spR C (dom2 fun d e => match d, e with | .int n, .int r => if amtB (.int n) && rateB (.int r) then some (.int (netZ n r)) else none | _, _ => none))) :
    FnOk P w K mg base CX0 4 f fd ["script"] (spLaw K) := by
  refine F.ok sc_law (fun vs H Q E h => ?_) (fun cdv A outer s H vs Q E hr h => ?_)
  · obtain ⟨sc, ns, rfl, _⟩ := h
    rfl
  · obtain ⟨sc, ns, rfl, hsc, q⟩ := h
    obtain ⟨tm, htm, pr⟩ := law_parts (H := H) (outer := outer) (E := E) B hr K_shared K_stepped (law_loops B hr (law_rate B hr K__law_pick K_taxed K_net_of (law_try B er hr K__law_pick K_shared K_taxed)))
    refine ⟨_, (pss_cons (ps_set (i := 1) sc_law.nd rfl (.inr rfl) (pe_lst (pa_cons (pv 0) (pa_cons pe_int (pa_cons pe_int (pa_cons pe_int pa_nil))))))
    (pss_cons (ps_set (i := 2) sc_law.nd rfl (.inl rfl) (pe_callD K__law_taken (hr.mono (by omega)) (pa_cons (pv 1) (pa_cons (pe_ix ix_list (pe_lst (pa_cons pe_int (pa_cons pe_int (pa_cons pe_int pa_nil)))) (pe_callD K__law_taken (hr.mono (by omega)) (pa_cons (pv 1) (pa_cons pe_int pa_nil))) (fun _ _ => rfl)) pa_nil))))
    (pss_cons (ps_set (i := 3) sc_law.nd rfl (.inl rfl) (pe_callTy call_tuple_of rfl B.tuple bi_tuple (pa_cons (pe_lc (own := [("turn", 22)]) (g := gName 22) (tt := tYes) rfl sc_law.nd (pi_range1 rfl B.range (pa_cons (pe_op op_add pe_int (pe_callD K__law_taken (hr.mono (by omega)) (pa_cons (pv 1) (pa_cons pe_int pa_nil)))) pa_nil)) (blkOk_by (N := ["script", "row", "amount", "weights", "whole", "parts", "steps", "rests", "at", "weight", "rest", "more", "so_far", "rate", "tax", "net", "wrong", "floor", "other", "extra", "place", "e", "turn"]) (sc := defScope s_law) (by decide +kernel)) (fun _ _ _ _ _ => (pg_name (i := 22) sc_law.nd rfl (.inl rfl))) (fun _ _ _ _ _ => pts_nil) (fun _ _ _ _ _ => (pe_callD K__law_taken (hr.mono (by omega)) (pa_cons (pv 1) (pa_cons (pe_ix (r := rIxL K) ix_list (pe_lst (pa_cons pe_int (pa_cons pe_int pa_nil))) (pe_callD K__law_taken (hr.mono (by omega)) (pa_cons (pv 1) (pa_cons pe_int pa_nil))) (fun _ _ => rfl)) pa_nil))))) pa_nil)))
    (pss_cons (ps_if (pt_cmpR op_eq (pe_callB (ShW.cr_sumK (k := .t) rfl) rfl B.sum bi_sum (pa_cons (pv 3) pa_nil)) pe_int (nomark _)) (pss_one (ps_set (i := 3) sc_law.nd rfl (.inl rfl) (pe_op op_catT (pv 3) (pe_tup (pa_cons pe_int pa_nil))))) pss_nil)
    (by exact htm))))), ?_⟩
    obtain ⟨G0, e0, hs0⟩ : ∃ G0 : Hp, Ex G0 H ∧ SqL K G0 sc (ns.map V.int) := ⟨H, Ex.refl _, hsc⟩
    refine go_set (go_lst (go_cons (go_var rfl (go_cons (go_c (go_cons (go_c (go_cons (go_c (go_nil ⟨Evl.sz_of (by show 4 ≤ 100000; decide), fun r hr0 => ?_⟩))))))))))
    have st0 : RowSt K r sc G0 (upd H r (.lst [.ref sc, .int 0, .int 7209, .int 0])) := ⟨e0.trans (Ex.new hr0), Evl.fresh_back e0 hr0, ⟨0, 7209, 0, by decide, upd_same⟩, ⟨ns, hs0⟩⟩
    refine evl_go ?_ st0 q
    refine evl_setR (P := fun x => ∃ n : Nat, x = .int (n : Nat) ∧ (n : Int) ≤ 999999) (evr_tk rfl (evr_op (P1 := fun x => x = .list [.int 4, .int 100, .int 1000000]) (P2 := fun _ x => ∃ n : Nat, x = .int (n : Nat) ∧ n < 3) (evr_d (evd_lst (ea_cons evd_int (ea_cons evd_int (ea_cons evd_int ea_nil))) (by show 3 ≤ 100000; decide)) rfl) (fun d G2 p1 x => evr_tk rfl (evr_d evd_int ⟨3, rfl, by decide, by decide, fun v lt => ⟨v, rfl, by omega⟩⟩)) (fun d e p1 p2 G2 => ?_))) (fun v x G1 px x1 n1 => ?_)
    · subst p1
      obtain ⟨n, rfl, lt⟩ := p2
      obtain ⟨m, hm, m0, m1⟩ : ∃ m : Int, ([PyData.int 4, .int 100, .int 1000000] : List D)[n]? = some (.int m) ∧ 0 < m ∧ m ≤ 1000000 := by
        match n, lt with
        | 0, _ => exact ⟨_, rfl, by decide, by decide⟩
        | 1, _ => exact ⟨_, rfl, by decide, by decide⟩
        | 2, _ => exact ⟨_, rfl, by decide, by decide⟩
      exact ⟨.int m, ⟨m, rfl, m0, m1, fun v lt => ⟨v, rfl, by omega⟩⟩, r_ixL hm⟩
    · obtain ⟨a, rfl, a1⟩ := px
      cases n1
      refine evl_setR (P := fun x => ∃ ws, x = .tuple (intL ws) ∧ 1 ≤ ws.length ∧ ws.length ≤ 6 ∧ (∀ w ∈ ws, 0 ≤ w) ∧ ∀ w ∈ ws, w ≤ 49) (evr_cb1 (P1 := fun x => ∃ ws, x = .list (intL ws) ∧ 1 ≤ ws.length ∧ ws.length ≤ 6 ∧ (∀ w ∈ ws, 0 ≤ w) ∧ ∀ w ∈ ws, w ≤ 49)
        (evr_lcR (N := fun n => 1 ≤ n ∧ n ≤ 6) (P1 := fun x => ∃ i : Nat, x = .int (i : Nat) ∧ i ≤ 49) (evr_op (P1 := fun x => x = .int 1) (P2 := fun _ x => ∃ n : Nat, x = .int (n : Nat) ∧ n < 6) (evr_d evd_int rfl) (fun d G2 p1 x => evr_tk rfl (evr_d evd_int ⟨6, rfl, by decide, by decide, fun v lt => ⟨v, rfl, by omega⟩⟩)) (fun d e p1 p2 G2 => ?_)) (fun x => rfl)
          (fun i G2 x2 => evr_tk rfl (evr_op (P1 := fun x => x = .list [.int 3, .int 50]) (P2 := fun _ x => ∃ n : Nat, x = .int (n : Nat) ∧ n < 2) (evr_d (evd_lst (ea_cons evd_int (ea_cons evd_int ea_nil)) (by show 2 ≤ 100000; decide)) rfl) (fun d G3 p1 x => evr_tk rfl (evr_d evd_int ⟨2, rfl, by decide, by decide, fun v lt => ⟨v, rfl, by omega⟩⟩)) (fun d e p1 p2 G3 => ?_)))
          (fun n ds nn ln each => ?_))
        (fun d pd G2 => ?_)) (fun v x G2 px x2 n2 => ?_)
      · subst p1
        obtain ⟨n, rfl, lt⟩ := p2
        exact ⟨.int (1 + n), ⟨1 + n, by rw [Int.natCast_add]; rfl, by omega, by omega, by omega⟩, r_I0 fun _ => .int _⟩
      · subst p1
        obtain ⟨n, rfl, lt⟩ := p2
        obtain ⟨m, hm, m0, m1⟩ : ∃ m : Int, ([PyData.int 3, .int 50] : List D)[n]? = some (.int m) ∧ 0 < m ∧ m ≤ 50 := by
          match n, lt with
          | 0, _ => exact ⟨_, rfl, by decide, by decide⟩
          | 1, _ => exact ⟨_, rfl, by decide, by decide⟩
        exact ⟨.int m, ⟨m, rfl, m0, by omega, fun v lt => ⟨v, rfl, by omega⟩⟩, r_ixL hm⟩
      · obtain ⟨ws, e, w0, w1⟩ := drawn_all each
        subst e
        have len : (intL ws).length = ws.length := List.length_map _
        exact ⟨ws, rfl, by omega, by omega, w0, w1⟩
      · obtain ⟨ws, rfl, h⟩ := pd
        exact ⟨_, ⟨ws, rfl, h⟩, r_tupL⟩
      · obtain ⟨ws, rfl, l1, l2, w0, w1⟩ := px
        have len : (intL ws).length = ws.length := List.length_map _
        have a0 : (0 : Int) ≤ (a : Nat) := by omega
        refine evl_if (v := tNext) (b := decide (ws.sum = 0)) (evt_test (evd_op (evd_cb (ea_cons (evd_at n2) ea_nil) (r_sumK (k := .t) (ns := ws) rfl)) evd_int (r_eq rfl))) (fun z G3 x3 => ?_) (fun z G3 x3 => ?_)
        · have z := of_decide_eq_true z
          refine evl_set (d := .tuple (intL (ws ++ [1]))) (evd_is (evd_op (evd_at n2 x3) (evd_tup (ea_cons (evd_int (i := 1)) ea_nil) (by show 1 ≤ 100000; decide)) (r_catT (by rw [len]; omega) (by show 0 < 1; decide) (by rw [len]; show ws.length + 1 ≤ 100000; omega))) ?_) (fun v2 G4 x4 n4 => ?_)
          · show PyData.tuple (intL ws ++ [.int 1]) = .tuple (intL (ws ++ [1]))
            unfold intL
            rw [List.map_append]
            rfl
          · refine pr r sc a (ws ++ [1]) v2 _ G4 a0 a1 ⟨?_, ?_, fun w hw => ?_, fun w hw => ?_⟩ ?_ n4
            · rw [List.length_append]
              omega
            · rw [List.length_append]
              show ws.length + 1 ≤ 7
              omega
            · rcases List.mem_append.mp hw with hw | hw
              · exact w0 w hw
              · rw [List.mem_singleton.mp hw]
                decide
            · rcases List.mem_append.mp hw with hw | hw
              · exact w1 w hw
              · rw [List.mem_singleton.mp hw]
                decide
            · rw [List.sum_append, z]
              decide
        · have z := of_decide_eq_false z
          have := nonneg_sum w0
          exact pr r sc a ws v _ G3 a0 a1 ⟨l1, by omega, w0, w1⟩ (by omega) (Dn.mono x3 _ n2)
end
end Sh

set_option Elab.async false
set_option linter.all false
set_option maxRecDepth 100000
set_option maxHeartbeats 0
/-! the end: what stands in the heap behind the top, and the law -/
namespace Sh
open PySem PySem.Spec PyProof.Rows L2

def df_is_between : He.DefD := ⟨("is_between", none), "is_between", "is_between", defArgs s_is_between, defBody s_is_between, defScope s_is_between, [], []⟩
def df_is_row : He.DefD := ⟨("is_row", none), "is_row", "is_row", defArgs s_is_row, defBody s_is_row, defScope s_is_row, [], []⟩
def df_check_amount : He.DefD := ⟨("check_amount", none), "check_amount", "check_amount", defArgs s_check_amount, defBody s_check_amount, defScope s_check_amount, [], []⟩
def df_check_weights : He.DefD := ⟨("check_weights", none), "check_weights", "check_weights", defArgs s_check_weights, defBody s_check_weights, defScope s_check_weights, [], []⟩
def df_check_rate : He.DefD := ⟨("check_rate", none), "check_rate", "check_rate", defArgs s_check_rate, defBody s_check_rate, defScope s_check_rate, [], []⟩
def df_shared : He.DefD := ⟨("shared", none), "shared", "shared", defArgs s_shared, defBody s_shared, defScope s_shared, [], []⟩
def df_stepped : He.DefD := ⟨("stepped", none), "stepped", "stepped", defArgs s_stepped, defBody s_stepped, defScope s_stepped, [], []⟩
def df_taxed : He.DefD := ⟨("taxed", none), "taxed", "taxed", defArgs s_taxed, defBody s_taxed, defScope s_taxed, [], []⟩
def df_net_of : He.DefD := ⟨("net_of", none), "net_of", "net_of", defArgs s_net_of, defBody s_net_of, defScope s_net_of, [], []⟩
def df__law_taken : He.DefD := ⟨("_law_taken", none), "_law_taken", "_law_taken", defArgs s__law_taken, defBody s__law_taken, defScope s__law_taken, [], []⟩
def df__law_pick : He.DefD := ⟨("_law_pick", none), "_law_pick", "_law_pick", defArgs s__law_pick, defBody s__law_pick, defScope s__law_pick, [], []⟩
def df_law : He.DefD := ⟨("law", none), "law", "law", defArgs s_law, defBody s_law, defScope s_law, [], []⟩
def fnE : List He.DefD := [df_is_between, df_is_row, df_check_amount, df_check_weights, df_check_rate, df_shared, df_stepped, df_taxed, df_net_of, df__law_taken, df__law_pick, df_law]
def faE : List He.Fa := [.free "isinstance", .free "int", .free "bool", .free "str", .free "tuple", .free "list", .free "dict", .free "set", .free "len", .free "all", .free "any", .free "sum", .free "range", .free "zip", .free "min", .free "max", .free "enumerate", .free "sorted", .int "MOST" 1000000000000, .glo "BadNumber", .exc "BadNumber", .exm "BadNumber" "BadNumber" true, .glo "is_between", .glo "is_row", .glo "check_amount", .glo "check_weights", .glo "check_rate", .glo "shared", .glo "stepped", .glo "taxed", .glo "net_of", .glo "_law_taken", .glo "_law_pick", .glo "law"]
abbrev RE : PySem.W.OpenRow := PySem.W.OpenLaw.row PySem.Challenge.rw_surehouse_k09_whole_sums
abbrev hkE : PySem.W.Hook := He.hookD 4 faE fnE
def obE (s : PySem.W.SharedT) : He.AlD := He.obsDG 4 faE fnE (HandSHeadRun.getT s)
theorem obE_eq (s : PySem.W.SharedT) : obE s = hkE.obs s.abs := He.obsDG_eq (HandSHeadRun.getT_eq s)
def namesE : List PySem.Str := ["ShopError", "BadNumber", "is_between", "is_row", "MOST", "check_amount", "check_weights", "check_rate", "shared", "stepped", "taxed", "net_of", "_law_taken", "_law_pick"]
theorem runE (w : World) : HandSHeadRun.RunEq RE (PySem.W.view RE.prog [18]) hkE obE 6000 namesE w := by
  intro os
  kernel_rfl
theorem fun_of {K : PySem.W.Frag} {x : Str} {st : Stmt} {f : Addr} {fd : FuncData} (F : FunD K x x (defArgs st) (defBody st) (defScope st) [] [] f fd) : Fun K x x st f fd := by
  obtain ⟨oc, od, dV, kV, doc, pm, an, cdv, ct, osl, rfl, lk, hcd, hd, _⟩ := F.ex
  rcases hd with ⟨_, e⟩ | ⟨n, _⟩
  · subst e
    exact ⟨⟨oc, od, kV, doc, pm, an, cdv, ct, osl, rfl, lk, hcd⟩, F.kp⟩
  · exact absurd rfl n
theorem stands_of {K : PySem.W.Frag} {mg : Str → Option Value} {x : Str} {st : Stmt} {ps : List Str} {fd : FuncData} (F : FunD K x x (defArgs st) (defBody st) (defScope st) [] [] (He.fAd K (x, none)) fd) (g : mg x = some (.ref (He.ga K x)))
    (h : ∀ (kV doc pm : Value) (an : Option Addr) (cdv ct : Value) (us : List Value), us.length = ps.length → bindArgs (PySem.W.fnOf x x (defArgs st) (defBody st) (defScope st) .none kV doc pm an cdv ct) ⟨us, []⟩ = pure (ps.zip us)) : Stands K mg x st ps := by
  obtain ⟨oc, od, dV, kV, doc, pm, an, cdv, ct, osl, rfl, lk, hcd, hd, _⟩ := F.ex
  rcases hd with ⟨_, e⟩ | ⟨n, _⟩
  · subst e
    have G : Fun K x x st (He.ga K x) (PySem.W.fnOf x x (defArgs st) (defBody st) (defScope st) .none kV doc pm an cdv ct) := ⟨⟨oc, od, kV, doc, pm, an, cdv, ct, osl, rfl, lk, hcd⟩, F.kp⟩
    exact ⟨_, _, G, g, G.binds h⟩
  · exact absurd rfl n
theorem err_of {K : PySem.W.Frag} {mg : Str → Option Value} {x : Str} (g : mg x = some (.ref (He.ga K x))) (e : (He.Fa.exc x).ok K = true) (m : (He.Fa.exm x x true).ok K = true) : ErrC K mg x (He.ga K x) := by
  obtain ⟨h1, h2, h3, h4⟩ := He.exc_ok e
  exact ⟨⟨_, _, _, _, PySem.F.excBase_ValueError, h1⟩, g, h2, h3, h4, He.exm_ok m⟩


theorem factsE {P : Program} {w : World} {K : PySem.W.Frag} {h : Heap} {mg : Str → Option Value} {f : Addr} (X : K.In h) (G : h.Ns mainGlobals mg) (hfa : mg ("law" : Str) = some (.ref f)) (c : He.SaysD faE fnE K) :
    ∃ fd : FuncData, (∀ (s : Shared) (v : Value), BindsTo s fd ⟨[v], []⟩ [("script", v)]) ∧ ∀ base : Heap, K.In base → base.Ns mainGlobals mg → FnOk P w K mg base CX0 4 f fd ["script"] (spLaw K) := by
  have B : Bi mg := ⟨He.free_ok X G (c.fact 0 (f := .free "isinstance") rfl), He.free_ok X G (c.fact 1 (f := .free "int") rfl), He.free_ok X G (c.fact 2 (f := .free "bool") rfl), He.free_ok X G (c.fact 3 (f := .free "str") rfl), He.free_ok X G (c.fact 4 (f := .free "tuple") rfl), He.free_ok X G (c.fact 5 (f := .free "list") rfl), He.free_ok X G (c.fact 6 (f := .free "dict") rfl), He.free_ok X G (c.fact 7 (f := .free "set") rfl), He.free_ok X G (c.fact 8 (f := .free "len") rfl), He.free_ok X G (c.fact 9 (f := .free "all") rfl), He.free_ok X G (c.fact 10 (f := .free "any") rfl), He.free_ok X G (c.fact 11 (f := .free "sum") rfl), He.free_ok X G (c.fact 12 (f := .free "range") rfl), He.free_ok X G (c.fact 13 (f := .free "zip") rfl), He.free_ok X G (c.fact 14 (f := .free "min") rfl), He.free_ok X G (c.fact 15 (f := .free "max") rfl), He.free_ok X G (c.fact 16 (f := .free "enumerate") rfl), He.free_ok X G (c.fact 17 (f := .free "sorted") rfl)⟩
  have M := He.int_ok X G (c.fact 18 (f := .int "MOST" 1000000000000) rfl)
  have er : ErrC K mg "BadNumber" (He.ga K "BadNumber") := err_of (He.glo_ok X G (c.fact 19 (f := .glo "BadNumber") rfl)) (c.fact 20 (f := .exc "BadNumber") rfl) (c.fact 21 (f := .exm "BadNumber" "BadNumber" true) rfl)
  obtain ⟨fd_is_between, F_is_between⟩ := c.def_ 0 (d := df_is_between) rfl
  have S_is_between : Stands K mg "is_between" s_is_between ["value", "low", "high"] := stands_of F_is_between (He.glo_ok X G (c.fact 22 (f := .glo "is_between") rfl)) fun _ _ _ _ _ _ us hl => match us, hl with | [_, _, _], _ => rfl
  obtain ⟨fd_is_row, F_is_row⟩ := c.def_ 1 (d := df_is_row) rfl
  have S_is_row : Stands K mg "is_row" s_is_row ["value", "least", "most"] := stands_of F_is_row (He.glo_ok X G (c.fact 23 (f := .glo "is_row") rfl)) fun _ _ _ _ _ _ us hl => match us, hl with | [_, _, _], _ => rfl
  obtain ⟨fd_check_amount, F_check_amount⟩ := c.def_ 2 (d := df_check_amount) rfl
  have S_check_amount : Stands K mg "check_amount" s_check_amount ["amount"] := stands_of F_check_amount (He.glo_ok X G (c.fact 24 (f := .glo "check_amount") rfl)) fun _ _ _ _ _ _ us hl => match us, hl with | [_], _ => rfl
  obtain ⟨fd_check_weights, F_check_weights⟩ := c.def_ 3 (d := df_check_weights) rfl
  have S_check_weights : Stands K mg "check_weights" s_check_weights ["weights"] := stands_of F_check_weights (He.glo_ok X G (c.fact 25 (f := .glo "check_weights") rfl)) fun _ _ _ _ _ _ us hl => match us, hl with | [_], _ => rfl
  obtain ⟨fd_check_rate, F_check_rate⟩ := c.def_ 4 (d := df_check_rate) rfl
  have S_check_rate : Stands K mg "check_rate" s_check_rate ["rate"] := stands_of F_check_rate (He.glo_ok X G (c.fact 26 (f := .glo "check_rate") rfl)) fun _ _ _ _ _ _ us hl => match us, hl with | [_], _ => rfl
  obtain ⟨fd_shared, F_shared⟩ := c.def_ 5 (d := df_shared) rfl
  have S_shared : Stands K mg "shared" s_shared ["amount", "weights"] := stands_of F_shared (He.glo_ok X G (c.fact 27 (f := .glo "shared") rfl)) fun _ _ _ _ _ _ us hl => match us, hl with | [_, _], _ => rfl
  obtain ⟨fd_stepped, F_stepped⟩ := c.def_ 6 (d := df_stepped) rfl
  have S_stepped : Stands K mg "stepped" s_stepped ["amount", "weights"] := stands_of F_stepped (He.glo_ok X G (c.fact 28 (f := .glo "stepped") rfl)) fun _ _ _ _ _ _ us hl => match us, hl with | [_, _], _ => rfl
  obtain ⟨fd_taxed, F_taxed⟩ := c.def_ 7 (d := df_taxed) rfl
  have S_taxed : Stands K mg "taxed" s_taxed ["net", "rate"] := stands_of F_taxed (He.glo_ok X G (c.fact 29 (f := .glo "taxed") rfl)) fun _ _ _ _ _ _ us hl => match us, hl with | [_, _], _ => rfl
  obtain ⟨fd_net_of, F_net_of⟩ := c.def_ 8 (d := df_net_of) rfl
  have S_net_of : Stands K mg "net_of" s_net_of ["gross", "rate"] := stands_of F_net_of (He.glo_ok X G (c.fact 30 (f := .glo "net_of") rfl)) fun _ _ _ _ _ _ us hl => match us, hl with | [_, _], _ => rfl
  obtain ⟨fd__law_taken, F__law_taken⟩ := c.def_ 9 (d := df__law_taken) rfl
  have S__law_taken : Stands K mg "_law_taken" s__law_taken ["row", "many"] := stands_of F__law_taken (He.glo_ok X G (c.fact 31 (f := .glo "_law_taken") rfl)) fun _ _ _ _ _ _ us hl => match us, hl with | [_, _], _ => rfl
  obtain ⟨fd__law_pick, F__law_pick⟩ := c.def_ 10 (d := df__law_pick) rfl
  have S__law_pick : Stands K mg "_law_pick" s__law_pick ["row", "things"] := stands_of F__law_pick (He.glo_ok X G (c.fact 32 (f := .glo "_law_pick") rfl)) fun _ _ _ _ _ _ us hl => match us, hl with | [_, _], _ => rfl
  obtain ⟨fd_law, F_law⟩ := c.def_ 11 (d := df_law) rfl
  have S_law : Stands K mg "law" s_law ["script"] := stands_of F_law (He.glo_ok X G (c.fact 33 (f := .glo "law") rfl)) fun _ _ _ _ _ _ us hl => match us, hl with | [_], _ => rfl
  have eL := hfa.symm.trans (He.glo_ok X G (c.fact 33 (f := .glo "law") rfl))
  cases eL
  have bL := FunD.bindsA (ps := ["script"]) F_law fun _ _ _ _ _ _ us hl => match us, hl with | [_], _ => rfl
  refine ⟨fd_law, fun s v => bL s [v] rfl, fun base hK hN => ?_⟩
  have k_between := keeps_between (P := P) (w := w) (base := base) B S_is_between
  have k_row := keeps_row (P := P) (w := w) (base := base) B S_is_row
  have k_amount := keeps_amount er M S_check_amount k_between
  have k_rate := keeps_rate er S_check_rate k_between
  have k_weights := keeps_weights B er M S_check_weights k_between k_row
  have k_taxed := keeps_taxed S_taxed k_amount k_rate
  have k_net := keeps_net S_net_of k_amount k_rate
  have k_stepped := keeps_stepped B S_stepped k_amount k_weights
  have k_shared := keeps_shared B S_shared k_amount k_weights
  have k_taken := keeps_taken (P := P) (w := w) (base := base) B S__law_taken
  have k_pick := keeps_pick B S__law_pick k_taken
  exact keeps_law B er (fun_of F_law) k_taken k_pick k_shared k_stepped k_taxed k_net
end Sh
open PySem PySem.W PySem.Calls PyProof.Rows
theorem PySem.Challenge.cw_surehouse_k09_whole_sums_holds : PySem.Challenge.rw_surehouse_k09_whole_sums.Holds := by
  w_on; o_law
  refine HandSHeadRun.head_any (r := OpenLaw.row PySem.Challenge.rw_surehouse_k09_whole_sums) (q := view (OpenLaw.row PySem.Challenge.rw_surehouse_k09_whole_sums).prog [18]) (H := Sh.hkE) (ob := Sh.obE) (M := 6000) (loose := Sh.namesE) (d := HandSHeadRun.topDef (OpenLaw.row PySem.Challenge.rw_surehouse_k09_whole_sums).prog 18) (kwd := []) Sh.obE_eq
    (by kernel_rfl) (fun s => by kernel_rfl) Sh.runE (by kernel_rfl) (by kernel_rfl) (by kernel_rfl) (by rfl) (by first | assumption | decide +kernel) (by decide +kernel) ⟨rfl, rfl, rfl, rfl, rfl, by decide +kernel⟩ ?hw ?hc
  case hw => w_witness2
  case hc =>
    refine L2.walk_ofE (l := PySem.Challenge.rw_surehouse_k09_whole_sums) (n := 63) (k := 4) (x := "script") (CX := L2.CX0) rfl (by decide) (by kernel_rfl) ⟨rfl, by decide, by decide⟩ ?F (fun _ _ _ _ z => z)
    intro w mg fa h Y G hmg0
    obtain ⟨K, KX, c⟩ := Y
    have hmg : mg ("law" : PySem.Str) = some (.ref fa) := by
      have e : (HandSHeadRun.topDef (OpenLaw.row PySem.Challenge.rw_surehouse_k09_whole_sums).prog 18).name = ("law" : PySem.Str) := by kernel_rfl
      rw [← e]
      exact hmg0
    obtain ⟨fd, hb, hF⟩ := Sh.factsE (P := (PySem.Challenge.rw_surehouse_k09_whole_sums).prog) (w := w) KX G hmg c
    exact ⟨K, fd, Sh.spLaw K, KX, hb, fun H a ns hl _ hS => ⟨a, ns, rfl, hS, fun _ => rfl⟩, hF⟩

