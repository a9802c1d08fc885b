import PyProof.Rows.All
import Wide.All
import OpenK.AllK
import Wide.FinOn
import HandS.ForMost
import HandS.ForExc
import HandS.Evl
import HandS.Walk
import HandS.IsInst
import HandS.Flow
import HandS.TupSets
import HandS.Strs
import HandS.SetFor
import KE.GoesNew
import KE.GoesMore
import KE.GoesZip
import HandS.Iter
import HandS.ExcCtx
import KE.KDictPairs
import HandS.HotCalls
import HandS.TupAny
import HandS.Style
import HandS.Defaults
import HandS.Head0
import HandS.Head1
import HandS.Head2
import HandS.HeadEnd
import HandS.HeadHook1
import HandS.HeadHook2
import PySem.Challenge.RW_surehouse_k08_whole_bundles
set_option Elab.async false
set_option linter.all false
set_option maxRecDepth 100000
set_option maxHeartbeats 4000000
/-! Data that stands still in the heap, and what evaluates to which data. -/
namespace Sh
open PySem PySem.Spec L2
open Evl (Ex)

abbrev D := PyData
theorem rdx {G H : Hp} {a : Addr} {u : HO} (e : Ex G H) (h : Rd G a u) : Rd H a u := h.elim (fun q => .inl (e _ _ q)) fun ⟨o, q⟩ => .inr ⟨o, e _ _ q⟩
mutual
/-- at v stands the data d, all of it tracked in G -/
inductive Dn (G : Hp) : V → D → Prop
  | non : Dn G .non .none
  | bl (b : Bool) : Dn G (.bl b) (.bool b)
  | int (i : Int) : Dn G (.int i) (.int i)
  | str (x : Str) : Dn G (.str x) (.str x)
  | lst {a : Addr} {xs : List V} {ds : List D} : G a = some (.lst xs) → DnL G xs ds → Dn G (.ref a) (.list ds)
  | tup {a : Addr} {xs : List V} {ds : List D} : Rd G a (.tup xs) → DnL G xs ds → Dn G (.ref a) (.tuple ds)
  | dct {a : Addr} {kvs : List (Key × V)} {ps : List (D × D)} : G a = some (.dK kvs) → DnK G kvs ps → Dn G (.ref a) (.dict ps)
inductive DnL (G : Hp) : List V → List D → Prop
  | nil : DnL G [] []
  | cons {v : V} {vs : List V} {d : D} {ds : List D} : Dn G v d → DnL G vs ds → DnL G (v :: vs) (d :: ds)
inductive DnK (G : Hp) : List (Key × V) → List (D × D) → Prop
  | nil : DnK G [] []
  | cons {x : Str} {v : V} {kvs : List (Key × V)} {d : D} {ps : List (D × D)} : Dn G v d → DnK G kvs ps → DnK G ((.inr x, v) :: kvs) ((.str x, d) :: ps)
end

section
variable {G G' : Hp}
mutual
theorem Dn.mono (e : Ex G G') : ∀ (d : D) {v : V}, Dn G v d → Dn G' v d
  | .none, _, h => by cases h; exact .non
  | .bool b, _, h => by cases h; exact .bl b
  | .int i, _, h => by cases h; exact .int i
  | .str x, _, h => by cases h; exact .str x
  | .list ds, _, h => by
    cases h with
    | lst h1 h2 => exact .lst (e _ _ h1) (DnL.mono e ds h2)
  | .tuple ds, _, h => by
    cases h with
    | tup h1 h2 => exact .tup (rdx e h1) (DnL.mono e ds h2)
  | .dict ps, _, h => by
    cases h with
    | dct h1 h2 => exact .dct (e _ _ h1) (DnK.mono e ps h2)
theorem DnL.mono (e : Ex G G') : ∀ (ds : List D) {vs : List V}, DnL G vs ds → DnL G' vs ds
  | [], _, h => by cases h; exact .nil
  | d :: ds, _, h => by
    cases h with
    | cons h1 h2 => exact .cons (Dn.mono e d h1) (DnL.mono e ds h2)
theorem DnK.mono (e : Ex G G') : ∀ (ps : List (D × D)) {kvs : List (Key × V)}, DnK G kvs ps → DnK G' kvs ps
  | [], _, h => by cases h; exact .nil
  | (a, d) :: ps, _, h => by
    cases h with
    | cons h1 h2 => exact .cons (Dn.mono e d h1) (DnK.mono e ps h2)
end
mutual
def flatD : D → Bool
  | .dict _ => false
  | .list ds => flatDs ds
  | .tuple ds => flatDs ds
  | _ => true
def flatDs : List D → Bool
  | [] => true
  | d :: ds => flatD d && flatDs ds
end
mutual
theorem Dn.dp {K : PySem.W.Frag} : ∀ (d : D) {v : V}, flatD d = true → Dn G v d → Dp K G v d
  | .none, _, _, h => by cases h; exact .non
  | .bool b, _, _, h => by cases h; exact .bl b
  | .int i, _, _, h => by cases h; exact .int i
  | .str x, _, _, h => by cases h; exact .str x
  | .list ds, _, f, h => by
    cases h with
    | lst h1 h2 => exact .lst (.inl (.inl h1)) (DnL.dp ds (by unfold flatD at f; exact f) h2)
  | .tuple ds, _, f, h => by
    cases h with
    | tup h1 h2 => exact .tup (.inl h1) (DnL.dp ds (by unfold flatD at f; exact f) h2)
  | .dict ps, _, f, h => by
    unfold flatD at f
    cases f
theorem DnL.dp {K : PySem.W.Frag} : ∀ (ds : List D) {vs : List V}, flatDs ds = true → DnL G vs ds → DpAll K G vs ds
  | [], _, _, h => by cases h; exact .nil
  | d :: ds, _, f, h => by
    unfold flatDs at f
    rw [Bool.and_eq_true] at f
    cases h with
    | cons h1 h2 => exact .cons (Dn.dp d f.1 h1) (DnL.dp ds f.2 h2)
end
theorem DnL.length : ∀ {vs : List V} {ds : List D}, DnL G vs ds → vs.length = ds.length
  | [], [], _ => rfl
  | _ :: _, _ :: _, h => by
    cases h with
    | cons _ h2 => exact congrArg Nat.succ (DnL.length h2)
theorem DnL.at : ∀ {vs : List V} {ds : List D} {i : Nat} {d : D}, DnL G vs ds → ds[i]? = some d → ∃ v, vs[i]? = some v ∧ Dn G v d
  | _, [], i, d, _, e => by simp at e
  | _, d' :: ds, 0, d, h, e => by
    cases h with
    | cons h1 _ =>
      have e' : d' = d := by simpa using e
      subst e'
      exact ⟨_, rfl, h1⟩
  | _, d' :: ds, i + 1, d, h, e => by
    cases h with
    | cons _ h2 =>
      obtain ⟨v, e1, e2⟩ := DnL.at h2 (i := i) (d := d) (by simpa using e)
      exact ⟨v, by simpa using e1, e2⟩
theorem DnL.att : ∀ {vs : List V} {ds : List D} {i : Nat} {v : V}, DnL G vs ds → vs[i]? = some v → ∃ d, ds[i]? = some d ∧ Dn G v d
  | [], _, i, v, _, e => by simp at e
  | v' :: vs, _, 0, v, h, e => by
    cases h with
    | cons h1 _ =>
      have e' : v' = v := by simpa using e
      subst e'
      exact ⟨_, rfl, h1⟩
  | v' :: vs, _, i + 1, v, h, e => by
    cases h with
    | cons _ h2 =>
      obtain ⟨d, e1, e2⟩ := DnL.att h2 (i := i) (v := v) (by simpa using e)
      exact ⟨d, by simpa using e1, e2⟩
theorem DnL.app {vs us : List V} {ds es : List D} (h : DnL G vs ds) (k : DnL G us es) : DnL G (vs ++ us) (ds ++ es) := by
  induction ds generalizing vs with
  | nil => cases h; exact k
  | cons d ds ih =>
    cases h with
    | cons h1 h2 => exact .cons h1 (ih h2)
theorem DnL.snoc {vs : List V} {ds : List D} {v : V} {d : D} (h : DnL G vs ds) (k : Dn G v d) : DnL G (vs ++ [v]) (ds ++ [d]) := h.app (.cons k .nil)
end

/-! ### growth: G what stands still, H the whole heap -/
structure Gr (G H G2 H2 : Hp) : Prop where
  g : Ex G G2
  s : Ex G2 H2
  h : Ex H H2
  f : ∀ a, G a = none → H a ≠ none → G2 a = none
section
variable {G H G2 H2 G3 H3 : Hp}
theorem Gr.refl (e : Ex G H) : Gr G H G H := ⟨Ex.refl _, e, Ex.refl _, fun _ h _ => h⟩
theorem Gr.trans (a : Gr G H G2 H2) (b : Gr G2 H2 G3 H3) : Gr G H G3 H3 :=
  ⟨a.g.trans b.g, b.s, a.h.trans b.h, fun x h1 h2 => b.f x (a.f x h1 h2) fun h3 => by
    cases q : H x with
    | none => exact h2 q
    | some o =>
      have z := a.h x o q
      rw [h3] at z
      cases z⟩
theorem Ex.upd2 {p : Addr} {o : HO} (e : Ex G H) : Ex (upd G p o) (upd H p o) := fun a u q => by
  by_cases h : a = p
  · subst h
    rw [upd_same] at q ⊢
    exact q
  · rw [upd_ne h] at q ⊢
    exact e a u q
theorem Gr.new {p : Addr} {o : HO} (e : Ex G H) (hp : H p = none) : Gr G H (upd G p o) (upd H p o) :=
  ⟨Ex.new (Evl.fresh_back e hp), Ex.upd2 e, Ex.new hp, fun a h1 h2 => by
    have hne : a ≠ p := fun z => h2 (by rw [z]; exact hp)
    rw [upd_ne hne]
    exact h1⟩
/-- a new object that may change: not of what stands still -/
theorem Gr.loose {p : Addr} {o : HO} (e : Ex G H) (hp : H p = none) : Gr G H G (upd H p o) := ⟨Ex.refl _, e.trans (Ex.new hp), Ex.new hp, fun _ h _ => h⟩
theorem Gr.old (a : Gr G H G2 H2) {p : Addr} (h : H2 p = none) : H p = none := Evl.fresh_back a.h h
end

/-! ### what evaluates to which data -/
def EvD (te : TE) (σ : St) (G : Hp) (d : D) : Prop := ∀ H, Ex G H → ∀ Q : VK, (∀ v G2 H2, Gr G H G2 H2 → Dn G2 v d → Q v H2) → te σ H Q
def EvT (tt : TT) (σ : St) (G : Hp) (b : Bool) : Prop := ∀ H, Ex G H → ∀ Q : Bool → Hp → Prop, (∀ G2 H2, Gr G H G2 H2 → Q b H2) → tt σ H Q
def EvA (ta : TA) (σ : St) (G : Hp) (ds : List D) : Prop := ∀ H, Ex G H → ∀ Q : List V → Hp → Prop, (∀ vs G2 H2, Gr G H G2 H2 → DnL G2 vs ds → Q vs H2) → ta σ H Q
section
variable {K : PySem.W.Frag} {σ : St} {G G' : Hp} {ta tb te tc : TE} {t u : TT} {d e : D} {ar : TA}
/-- what stands still may be more -/
theorem grow_up {H G2 H2 : Hp} (e : Ex G G') (h : Ex G' H) (g : Gr G H G2 H2) : ∃ G3, Ex G2 G3 ∧ Gr G' H G3 H2 := by
  refine ⟨fun a => match G2 a with | some o => some o | none => G' a, fun a o q => ?_, ⟨fun a o q => ?_, fun a o q => ?_, g.h, fun a h1 h2 => ?_⟩⟩
  · show (match G2 a with | some o => some o | none => G' a) = some o
    rw [q]
  · show (match G2 a with | some o => some o | none => G' a) = some o
    cases r : G2 a with
    | none => exact q
    | some u =>
      have r1 := g.s a u r
      have r2 := g.h a o (h a o q)
      rw [r1] at r2
      exact r2
  · have q' : (match G2 a with | some o => some o | none => G' a) = some o := q
    cases r : G2 a with
    | none =>
      rw [r] at q'
      exact g.h a o (h a o q')
    | some uu =>
      rw [r] at q'
      cases q'
      exact g.s a o r
  · show (match G2 a with | some o => some o | none => G' a) = none
    have r : G a = none := Evl.fresh_back e h1
    rw [g.f a r h2]
    exact h1
theorem EvD.mono (e : Ex G G') (h : EvD te σ G d) : EvD te σ G' d := fun H x Q q => h H (e.trans x) Q fun v G2 H2 g k => by
  obtain ⟨G3, a, b⟩ := grow_up e x g
  exact q v G3 H2 b (Dn.mono a d k)
theorem EvT.mono {b : Bool} (e : Ex G G') (h : EvT t σ G b) : EvT t σ G' b := fun H x Q q => h H (e.trans x) Q fun G2 H2 g => by
  obtain ⟨G3, a, b⟩ := grow_up e x g
  exact q G3 H2 b
theorem EvA.mono {ds : List D} (e : Ex G G') (h : EvA ar σ G ds) : EvA ar σ G' ds := fun H x Q q => h H (e.trans x) Q fun v G2 H2 g k => by
  obtain ⟨G3, a, b⟩ := grow_up e x g
  exact q v G3 H2 b (DnL.mono a ds k)

/-- the i-th slot holds d -/
def Sl (σ : St) (G : Hp) (i : Nat) (d : D) : Prop := ∃ v, σ[i]? = some (some v) ∧ Dn G v d
theorem Sl.mono {i : Nat} (e : Ex G G') (h : Sl σ G i d) : Sl σ G' i d := let ⟨v, a, b⟩ := h; ⟨v, a, Dn.mono e d b⟩
theorem evd_var {i : Nat} (h : Sl σ G i d) : EvD (tVar i) σ G d := fun H e Q q => let ⟨v, a, b⟩ := h; ⟨v, a, q v G H (Gr.refl e) b⟩
theorem evd_c {v : V} (h : Dn G v d) : EvD (tC v) σ G d := fun H e Q q => q v G H (Gr.refl e) h
theorem evd_int {i : Int} : EvD (tC (.int i)) σ G (.int i) := evd_c (.int i)
theorem evd_str {x : Str} : EvD (tC (.str x)) σ G (.str x) := evd_c (.str x)
theorem evd_bl {b : Bool} : EvD (tC (.bl b)) σ G (.bool b) := evd_c (.bl b)
theorem evd_non : EvD (tC .non) σ G .none := evd_c .non
theorem evd_is {d' : D} (h : EvD te σ G d) (e : d = d') : EvD te σ G d' := e ▸ h
theorem evt_is {b b' : Bool} (h : EvT t σ G b) (e : b = b') : EvT t σ G b' := e ▸ h
theorem ea_nil : EvA tNil σ G [] := fun H e Q q => q [] G H (Gr.refl e) .nil
theorem ea_cons {ds : List D} (h : EvD te σ G d) (k : EvA ar σ G ds) : EvA (tCons te ar) σ G (d :: ds) := fun H e Q q =>
  h H e _ fun v G2 H2 g1 n1 => (k.mono g1.g) H2 g1.s _ fun vs G3 H3 g2 n2 => q _ G3 H3 (g1.trans g2) (.cons (Dn.mono g2.g _ n1) n2)
theorem evd_tup {ds : List D} (h : EvA ar σ G ds) (hl : ds.length ≤ 100000) : EvD (tTup ar) σ G (.tuple ds) := fun H e Q q =>
  h H e _ fun vs G2 H2 g n => ⟨Evl.sz_of (by rw [n.length]; exact hl), fun p hp => q _ (upd G2 p (.tup vs)) _ (g.trans (Gr.new g.s hp)) (.tup (.inl upd_same) (DnL.mono (Ex.new (Evl.fresh_back g.s hp)) ds n))⟩
theorem evd_lst {ds : List D} (h : EvA ar σ G ds) (hl : ds.length ≤ 100000) : EvD (tLst ar) σ G (.list ds) := fun H e Q q =>
  h H e _ fun vs G2 H2 g n => ⟨Evl.sz_of (by rw [n.length]; exact hl), fun p hp => q _ (upd G2 p (.lst vs)) _ (g.trans (Gr.new g.s hp)) (.lst upd_same (DnL.mono (Ex.new (Evl.fresh_back g.s hp)) ds n))⟩

/-! operators -/
/-- r of data: on values that bear d and e it gives a value that bears c -/
def R2D (r : R2) (d e c : D) (G : Hp) : Prop := ∀ G1 H x y, Ex G G1 → Ex G1 H → Dn G1 x d → Dn G1 y e → ∀ Q : VK, (∀ v G2 H2, Gr G1 H G2 H2 → Dn G2 v c → Q v H2) → r x y H Q
theorem evd_op {r : R2} {c : D} (h : EvD ta σ G d) (k : EvD tb σ G e) (hr : R2D r d e c G) : EvD (tOp r ta tb) σ G c := fun H x Q q =>
  h H x _ fun v G2 H2 g1 n1 => (k.mono g1.g) H2 g1.s _ fun w G3 H3 g2 n2 => hr G3 H3 v w (g1.g.trans g2.g) g2.s (Dn.mono g2.g _ n1) n2 Q fun z G4 H4 g3 n3 => q z G4 H4 ((g1.trans g2).trans g3) n3
theorem r_I0 {g : Int → Int → V} {i j : Int} {c : D} (hc : ∀ G, Dn G (g i j) c) : R2D (rI0 g) (.int i) (.int j) c G := fun G1 H x y _ e hx hy Q q => by
  cases hx
  cases hy
  exact ⟨i, j, rfl, rfl, q _ G1 H (Gr.refl e) (hc G1)⟩
theorem r_I {C : Int → Int → Prop} {g : Int → Int → V} {i j : Int} {c : D} (h : C i j) (hc : ∀ G, Dn G (g i j) c) : R2D (rI C g) (.int i) (.int j) c G := fun G1 H x y _ e hx hy Q q => by
  cases hx
  cases hy
  exact ⟨i, j, rfl, rfl, h, q _ G1 H (Gr.refl e) (hc G1)⟩
/-- == of two scalars -/
def scalD : D → D → Option Bool
  | .none, .none => some true
  | .int i, .int j => some (decide (i = j))
  | .str x, .str y => some (decide (x = y))
  | .bool x, .bool y => some (decide (x = y))
  | _, _ => none
theorem r_eq {b : Bool} (h : scalD d e = some b) : R2D rEq d e (.bool b) G := fun G1 H x y _ ex hx hy Q q => by
  have key : scal x y = true ∧ decide (x = y) = b := by
    cases hx <;> cases hy <;> first | cases h | skip
    · exact ⟨rfl, rfl⟩
    · rename_i p p'
      refine ⟨rfl, ?_⟩
      cases p <;> cases p' <;> rfl
    · rename_i p p'
      refine ⟨rfl, ?_⟩
      by_cases z : p = p'
      · subst z; simp
      · simp [z]
    · rename_i p p'
      refine ⟨rfl, ?_⟩
      by_cases z : p = p'
      · subst z; simp
      · simp [z]
  refine ⟨key.1, ?_⟩
  rw [key.2]
  exact q _ G1 H (Gr.refl ex) (.bl b)
theorem r_ne {b : Bool} (h : scalD d e = some b) : R2D rNe d e (.bool (!b)) G := fun G1 H x y _ ex hx hy Q q => by
  have key : scal x y = true ∧ decide (x = y) = b := by
    cases hx <;> cases hy <;> first | cases h | skip
    · exact ⟨rfl, rfl⟩
    · rename_i p p'
      refine ⟨rfl, ?_⟩
      cases p <;> cases p' <;> rfl
    · rename_i p p'
      refine ⟨rfl, ?_⟩
      by_cases z : p = p'
      · subst z; simp
      · simp [z]
    · rename_i p p'
      refine ⟨rfl, ?_⟩
      by_cases z : p = p'
      · subst z; simp
      · simp [z]
  refine ⟨key.1, ?_⟩
  rw [key.2]
  exact q _ G1 H (Gr.refl ex) (.bl (!b))
/-- a chain of two comparisons -/
theorem evd_chain {r r' : R2} {c : D} {b b' : Bool} (h : EvD ta σ G d) (k : EvD tb σ G e) (l : EvD tc σ G c) (hr : R2D r d e (.bool b) G) (hr' : b = true → R2D r' e c (.bool b') G) : EvD (tChain r r' ta tb tc) σ G (.bool (b && b')) := fun H x Q q =>
  h H x _ fun v G2 H2 g1 n1 => (k.mono g1.g) H2 g1.s _ fun w G3 H3 g2 n2 => hr G3 H3 v w (g1.g.trans g2.g) g2.s (Dn.mono g2.g _ n1) n2 _ fun z G4 H4 g3 n3 => by
    cases n3
    refine ⟨b, rfl, ?_⟩
    cases b with
    | true =>
      show tc σ H4 fun w' H5 => r' w w' H5 Q
      exact (l.mono ((g1.g.trans g2.g).trans g3.g)) H4 g3.s _ fun w' G5 H5 g4 n4 => hr' rfl G5 H5 w w' (((g1.g.trans g2.g).trans g3.g).trans g4.g) g4.s (Dn.mono (g3.g.trans g4.g) _ n2) n4 Q fun z G6 H6 g5 n5 => q z G6 H6 ((((g1.trans g2).trans g3).trans g4).trans g5) n5
    | false =>
      show Q (.bl false) H4
      exact q _ G4 H4 ((g1.trans g2).trans g3) (.bl false)

/-! tests -/
theorem evt_test {b : Bool} (h : EvD te σ G (.bool b)) : EvT (tTest te) σ G b := fun H e Q q => h H e _ fun v G2 H2 g n => by
  cases n
  exact ⟨b, rfl, q G2 H2 g⟩
theorem evt_B {b : Bool} (h : EvD te σ G (.bool b)) : EvT (tB te) σ G b := fun H e Q q => h H e _ fun v G2 H2 g n => by
  cases n
  exact ⟨b, rfl, q G2 H2 g⟩
theorem evt_not {b : Bool} (h : EvT t σ G b) : EvT (tNot t) σ G (!b) := fun H e Q q => h H e _ q
theorem evt_and {a b : Bool} (h : EvT t σ G a) (k : a = true → EvT u σ G b) : EvT (tAnd t u) σ G (a && b) := fun H e Q q => h H e _ fun G2 H2 g => by
  cases a with
  | true =>
    show u σ H2 Q
    exact ((k rfl).mono g.g) H2 g.s Q fun G3 H3 g2 => q G3 H3 (g.trans g2)
  | false => exact q G2 H2 g
theorem evt_or {a b : Bool} (h : EvT t σ G a) (k : a = false → EvT u σ G b) : EvT (tOr t u) σ G (a || b) := fun H e Q q => h H e _ fun G2 H2 g => by
  cases a with
  | true => exact q G2 H2 g
  | false =>
    show u σ H2 Q
    exact ((k rfl).mono g.g) H2 g.s Q fun G3 H3 g2 => q G3 H3 (g.trans g2)
theorem evd_and {a b : Bool} (h : EvD ta σ G (.bool a)) (k : a = true → EvD tb σ G (.bool b)) : EvD (tAndV ta tb) σ G (.bool (a && b)) := fun H e Q q => h H e _ fun v G2 H2 g n => by
  cases n
  refine ⟨a, rfl, ?_⟩
  cases a with
  | true =>
    show tb σ H2 Q
    exact ((k rfl).mono g.g) H2 g.s Q fun v G3 H3 g2 n2 => q v G3 H3 (g.trans g2) n2
  | false => exact q _ G2 H2 g (.bl false)
theorem evd_or {a b : Bool} (h : EvD ta σ G (.bool a)) (k : a = false → EvD tb σ G (.bool b)) : EvD (tOrV ta tb) σ G (.bool (a || b)) := fun H e Q q => h H e _ fun v G2 H2 g n => by
  cases n
  refine ⟨a, rfl, ?_⟩
  cases a with
  | true => exact q _ G2 H2 g (.bl true)
  | false =>
    show tb σ H2 Q
    exact ((k rfl).mono g.g) H2 g.s Q fun v G3 H3 g2 n2 => q v G3 H3 (g.trans g2) n2
theorem evd_not {a : Bool} (h : EvD ta σ G (.bool a)) : EvD (tNotV ta) σ G (.bool (!a)) := fun H e Q q => h H e _ fun v G2 H2 g n => by
  cases n
  exact ⟨a, rfl, q _ G2 H2 g (.bl _)⟩
theorem evd_if {b : Bool} (h : EvT t σ G b) (k1 : b = true → EvD ta σ G d) (k2 : b = false → EvD tb σ G d) : EvD (tIf t ta tb) σ G d := fun H e Q q => h H e _ fun G2 H2 g => by
  cases b with
  | true =>
    show ta σ H2 Q
    exact ((k1 rfl).mono g.g) H2 g.s Q fun v G3 H3 g2 n2 => q v G3 H3 (g.trans g2) n2
  | false =>
    show tb σ H2 Q
    exact ((k2 rfl).mono g.g) H2 g.s Q fun v G3 H3 g2 n2 => q v G3 H3 (g.trans g2) n2

/-! calls of built-ins, by data -/
def RCD (r : List V → Hp → VK → Prop) (ds : List D) (c : D) (G : Hp) : Prop := ∀ G1 H vs, Ex G G1 → Ex G1 H → DnL G1 vs ds → ∀ Q : VK, (∀ v G2 H2, Gr G1 H G2 H2 → Dn G2 v c → Q v H2) → r vs H Q
theorem evd_cb {r : List V → Hp → VK → Prop} {ds : List D} {c : D} (h : EvA ar σ G ds) (hr : RCD r ds c G) : EvD (tCB r ar) σ G c := fun H e Q q =>
  h H e _ fun vs G2 H2 g n => hr G2 H2 vs g.g g.s n Q fun v G3 H3 g2 n2 => q v G3 H3 (g.trans g2) n2
theorem one_of {G : Hp} {vs : List V} {d : D} (h : DnL G vs [d]) : ∃ v, vs = [v] ∧ Dn G v d := by
  cases h with
  | cons h1 h2 =>
    cases h2
    exact ⟨_, rfl, h1⟩
theorem two_of {G : Hp} {vs : List V} {d e : D} (h : DnL G vs [d, e]) : ∃ v w, vs = [v, w] ∧ Dn G v d ∧ Dn G w e := by
  cases h with
  | cons h1 h2 =>
    obtain ⟨w, rfl, h3⟩ := one_of h2
    exact ⟨_, _, rfl, h1, h3⟩
end
end Sh

set_option Elab.async false
set_option linter.all false
set_option maxRecDepth 100000
set_option maxHeartbeats 4000000
namespace Sh
open PySem PySem.Spec L2
open Evl (Ex)

def strL (xs : List Str) : List D := xs.map .str
def intL (xs : List Int) : List D := xs.map .int
def boolL (xs : List Bool) : List D := xs.map .bool
theorem dn_strs {G : Hp} : ∀ {xs : List Str} {vs : List V}, DnL G vs (strL xs) → vs = xs.map V.str
  | [], _, h => by cases h; rfl
  | x :: xs, _, h => by
    cases h with
    | cons h1 h2 =>
      cases h1
      rw [dn_strs h2]
      rfl
theorem dn_ints {G : Hp} : ∀ {xs : List Int} {vs : List V}, DnL G vs (intL xs) → vs = xs.map V.int
  | [], _, h => by cases h; rfl
  | x :: xs, _, h => by
    cases h with
    | cons h1 h2 =>
      cases h1
      rw [dn_ints h2]
      rfl
theorem dn_bools {G : Hp} : ∀ {xs : List Bool} {vs : List V}, DnL G vs (boolL xs) → vs = xs.map V.bl
  | [], _, h => by cases h; rfl
  | x :: xs, _, h => by
    cases h with
    | cons h1 h2 =>
      cases h1
      rw [dn_bools h2]
      rfl
theorem strs_dn {G : Hp} : ∀ (xs : List Str), DnL G (xs.map V.str) (strL xs)
  | [] => .nil
  | x :: xs => .cons (.str x) (strs_dn xs)
theorem ints_dn {G : Hp} : ∀ (xs : List Int), DnL G (xs.map V.int) (intL xs)
  | [] => .nil
  | x :: xs => .cons (.int x) (ints_dn xs)
theorem all_flat (xs : List Str) : (xs.map V.str).all flatV = true := by
  induction xs with
  | nil => rfl
  | cons x xs ih => rw [List.map_cons, List.all_cons, ih] <;> rfl
theorem inV_str (x : Str) (xs : List Str) : inV (.str x) (xs.map V.str) = decide (x ∈ xs) := by
  unfold inV
  induction xs with
  | nil => simp
  | cons y ys ih =>
    rw [List.map_cons, List.any_cons, ih]
    show (y == x || decide (x ∈ ys)) = decide (x ∈ y :: ys)
    by_cases h : y = x
    · subst h
      simp
    · have h2 : ¬ x = y := fun e => h e.symm
      simp [h, h2]
/-! names for what the layer writes out -/
abbrev rLenD (K : PySem.W.Frag) : List V → Hp → VK → Prop := fun xs H Q => ∃ x n, xs = [x] ∧ LenV K x H n ∧ Q (.int n) H
abbrev rListD (K : PySem.W.Frag) : List V → Hp → VK → Prop := fun xs H Q => ∃ p ys, xs = [.ref p] ∧ (SqL K H p ys ∨ SqT K H p ys) ∧ ∀ l, H l = none → Q (.ref l) (upd H l (.lst ys))
abbrev rTupD (K : PySem.W.Frag) : List V → Hp → VK → Prop := fun xs H Q => ∃ p ys, xs = [.ref p] ∧ ((SqL K H p ys ∧ ∀ l, H l = none → Q (.ref l) (upd H l (.tup ys))) ∨ (SqT K H p ys ∧ Q (.ref p) H))
section
variable {K : PySem.W.Frag} {σ : L2.St} {G : Hp} {ta tb te tc : TE} {t : TT} {d e : D} {ar : TA}

/-! in, not in -/
theorem r_inT {x : Str} {xs : List Str} {neg : Bool} {b : Bool} (hb : (if neg then !decide (x ∈ xs) else decide (x ∈ xs)) = b) : R2D (rIn K neg) (.str x) (.tuple (strL xs)) (.bool b) G := fun G1 H u v _ ex hx hy Q q => by
  cases hx
  cases hy with
  | tup h1 h2 =>
    have e1 := dn_strs h2
    subst e1
    refine ⟨_, _, rfl, .inr (.inl (rdx ex h1)), rfl, all_flat xs, ?_⟩
    rw [inV_str, hb]
    exact q _ G1 H (Gr.refl ex) (.bl b)
theorem r_inL {x : Str} {xs : List Str} {neg : Bool} {b : Bool} (hb : (if neg then !decide (x ∈ xs) else decide (x ∈ xs)) = b) : R2D (rIn K neg) (.str x) (.list (strL xs)) (.bool b) G := fun G1 H u v _ ex hx hy Q q => by
  cases hx
  cases hy with
  | lst h1 h2 =>
    have e1 := dn_strs h2
    subst e1
    refine ⟨_, _, rfl, .inl (.inl (.inl (ex _ _ h1))), rfl, all_flat xs, ?_⟩
    rw [inV_str, hb]
    exact q _ G1 H (Gr.refl ex) (.bl b)
/-- one sign in a text -/
theorem r_sign {c : Nat} {z : Str} : R2D (fun x y H Q => ∃ (c : Nat) (z : Str), x = .str ⟨#[c]⟩ ∧ y = .str z ∧ Q (.bl (decide (c ∈ z.cps.toList))) H) (.str ⟨#[c]⟩) (.str z) (.bool (decide (c ∈ z.cps.toList))) G := fun G1 H u v _ ex hx hy Q q => by
  cases hx
  cases hy
  exact ⟨c, z, rfl, rfl, q _ G1 H (Gr.refl ex) (.bl _)⟩

/-! isinstance -/
def tyD : D → String
  | .none => "NoneType"
  | .bool _ => "bool"
  | .int _ => "int"
  | .str _ => "str"
  | .list _ => "list"
  | .tuple _ => "tuple"
  | .dict _ => "dict"
theorem tyX_of {G1 H : Hp} {v : V} (ex : Ex G1 H) (n : Dn G1 v d) : TyX K H v (.type (tyD d)) := by
  cases n with
  | non => exact .base .non
  | bl b => exact .base (.bl b)
  | int i => exact .base (.int i)
  | str x => exact .base (.str x)
  | lst h _ => exact .base (.lst (ex _ _ h))
  | tup h _ =>
    rcases rdx ex h with h | ⟨o, h⟩
    · exact .base (.tup h)
    · exact .fTuple h
  | dct h _ => exact .base (.dK (ex _ _ h))
theorem evd_isi {T : String} {b : Bool} (h : EvD te σ G d) (hb : kitB (tyD d) T = some b) : EvD (tCB (rIsi K) (tCons te (tCons (tC (.ty T)) tNil))) σ G (.bool b) := fun H x Q q =>
  h H x _ fun v G2 H2 g n => ⟨v, _, _, _, b, rfl, .ty T, tyX_of g.s n, kit_ty hb, q _ G2 H2 g (.bl b)⟩
/-- isinstance(x, (S, T)) -/
theorem evd_isi2 {S T : String} {a b : Bool} (h : EvD te σ G d) (ha : kitB (tyD d) S = some a) (hb : kitB (tyD d) T = some b) :
    EvD (tCB (rIsiT K) (tCons te (tCons (tTup (tCons (tC (.ty S)) (tCons (tC (.ty T)) tNil))) tNil))) σ G (.bool (a || b)) := fun H x Q q =>
  h H x _ fun v G2 H2 g n => ⟨by show 2 ≤ sizeLine; decide, fun p hp => by
    have ex2 : Ex G2 (upd H2 p (.tup [.ty S, .ty T])) := g.s.trans (Ex.new hp)
    refine ⟨v, p, [.ty S, .ty T], _, [.type S, .type T], a || b, rfl, upd_same, .cons (.ty S) (.cons (.ty T) .nil), tyX_of ex2 n, ?_, ?_⟩
    · refine kitAny_cons (b := a) (kit_ty ha) (fun e => ?_) (fun e => by rw [e]; rfl)
      refine kitAny_cons (b := b) (kit_ty hb) (fun e2 => ?_) (fun e2 => by rw [e2, Bool.or_true])
      rw [e, e2]
      exact kitAny_nil
    · exact q _ G2 _ (g.trans (Gr.loose g.s hp)) (.bl _)⟩

/-! len, all, any, sum, list, tuple -/
theorem r_lenT {ds : List D} {n : Int} (hn : (ds.length : Int) = n) : RCD (fun xs H Q => ∃ x n, xs = [x] ∧ LenV K x H n ∧ Q (.int n) H) [.tuple ds] (.int n) G := fun G1 H vs _ ex h Q q => by
  obtain ⟨v, rfl, n⟩ := one_of h
  cases n with
  | tup h1 h2 =>
    refine ⟨_, _, rfl, .inr ⟨_, .inl (rdx ex h1), rfl⟩, ?_⟩
    rw [h2.length, hn]
    exact q _ G1 H (Gr.refl ex) (.int _)
theorem r_lenL {ds : List D} {n : Int} (hn : (ds.length : Int) = n) : RCD (fun xs H Q => ∃ x n, xs = [x] ∧ LenV K x H n ∧ Q (.int n) H) [.list ds] (.int n) G := fun G1 H vs _ ex h Q q => by
  obtain ⟨v, rfl, n⟩ := one_of h
  cases n with
  | lst h1 h2 =>
    refine ⟨_, _, rfl, .inl ⟨_, .inl (.inl (ex _ _ h1)), rfl⟩, ?_⟩
    rw [h2.length, hn]
    exact q _ G1 H (Gr.refl ex) (.int _)
theorem r_lenS {x : Str} (hz : x.length ≤ 100000) {n : Int} (hn : (x.length : Int) = n) : RCD (fun xs H Q => ∃ x n, xs = [x] ∧ LenV K x H n ∧ Q (.int n) H) [.str x] (.int n) G := fun G1 H vs _ ex h Q q => by
  obtain ⟨v, rfl, n⟩ := one_of h
  cases n
  refine ⟨_, x.length, rfl, ⟨Evl.sz_of hz, rfl⟩, ?_⟩
  rw [hn]
  exact q _ G1 H (Gr.refl ex) (.int _)
theorem r_all {bs : List Bool} {b : Bool} (hb : bs.all id = b) : RCD (rAll K) [.list (boolL bs)] (.bool b) G := fun G1 H vs _ ex h Q q => by
  obtain ⟨v, rfl, n⟩ := one_of h
  cases n with
  | lst h1 h2 =>
    have e1 := dn_bools h2
    subst e1
    refine ⟨_, bs, rfl, .inl (.inl (ex _ _ h1)), ?_⟩
    rw [hb]
    exact q _ G1 H (Gr.refl ex) (.bl _)
theorem r_any {bs : List Bool} {b : Bool} (hb : bs.any id = b) : RCD (rAny K) [.list (boolL bs)] (.bool b) G := fun G1 H vs _ ex h Q q => by
  obtain ⟨v, rfl, n⟩ := one_of h
  cases n with
  | lst h1 h2 =>
    have e1 := dn_bools h2
    subst e1
    refine ⟨_, bs, rfl, .inl (.inl (ex _ _ h1)), ?_⟩
    rw [hb]
    exact q _ G1 H (Gr.refl ex) (.bl _)
theorem r_sum {ns : List Int} {z : Int} (hz : ns.sum = z) : RCD (rSum K) [.list (intL ns)] (.int z) G := fun G1 H vs _ ex h Q q => by
  obtain ⟨v, rfl, n⟩ := one_of h
  cases n with
  | lst h1 h2 =>
    have e1 := dn_ints h2
    subst e1
    refine ⟨_, ns, rfl, .inl (.inl (ex _ _ h1)), ?_⟩
    rw [hz]
    exact q _ G1 H (Gr.refl ex) (.int _)
theorem r_listT {ds : List D} : RCD (fun xs H Q => ∃ p ys, xs = [.ref p] ∧ (SqL K H p ys ∨ SqT K H p ys) ∧ ∀ l, H l = none → Q (.ref l) (upd H l (.lst ys))) [.tuple ds] (.list ds) G := fun G1 H vs _ ex h Q q => by
  obtain ⟨v, rfl, n⟩ := one_of h
  cases n with
  | tup h1 h2 =>
    exact ⟨_, _, rfl, .inr (.inl (rdx ex h1)), fun l hl => q _ (upd G1 l (.lst _)) _ (Gr.new ex hl) (.lst upd_same (DnL.mono (Ex.new (Evl.fresh_back ex hl)) ds h2))⟩
theorem r_listL {ds : List D} : RCD (fun xs H Q => ∃ p ys, xs = [.ref p] ∧ (SqL K H p ys ∨ SqT K H p ys) ∧ ∀ l, H l = none → Q (.ref l) (upd H l (.lst ys))) [.list ds] (.list ds) G := fun G1 H vs _ ex h Q q => by
  obtain ⟨v, rfl, n⟩ := one_of h
  cases n with
  | lst h1 h2 =>
    exact ⟨_, _, rfl, .inl (.inl (.inl (ex _ _ h1))), fun l hl => q _ (upd G1 l (.lst _)) _ (Gr.new ex hl) (.lst upd_same (DnL.mono (Ex.new (Evl.fresh_back ex hl)) ds h2))⟩
theorem r_tupL {ds : List D} : RCD (fun xs H Q => ∃ p ys, xs = [.ref p] ∧ ((SqL K H p ys ∧ ∀ l, H l = none → Q (.ref l) (upd H l (.tup ys))) ∨ (SqT K H p ys ∧ Q (.ref p) H))) [.list ds] (.tuple ds) G := fun G1 H vs _ ex h Q q => by
  obtain ⟨v, rfl, n⟩ := one_of h
  cases n with
  | lst h1 h2 =>
    exact ⟨_, _, rfl, .inl ⟨.inl (.inl (ex _ _ h1)), fun l hl => q _ (upd G1 l (.tup _)) _ (Gr.new ex hl) (.tup (.inl upd_same) (DnL.mono (Ex.new (Evl.fresh_back ex hl)) ds h2))⟩⟩

/-! items -/
theorem r_ixT {ds : List D} {i : Nat} {c : D} (h : ds[i]? = some c) : R2D (rIxT K) (.tuple ds) (.int i) c G := fun G1 H u v _ ex hx hy Q q => by
  cases hy
  cases hx with
  | tup h1 h2 =>
    obtain ⟨w, e1, e2⟩ := h2.at h
    exact ⟨_, _, _, w, rfl, rfl, .inl (rdx ex h1), atI_nat e1, q w G1 H (Gr.refl ex) e2⟩
theorem r_ixL {ds : List D} {i : Nat} {c : D} (h : ds[i]? = some c) : R2D (rIxL K) (.list ds) (.int i) c G := fun G1 H u v _ ex hx hy Q q => by
  cases hy
  cases hx with
  | lst h1 h2 =>
    obtain ⟨w, e1, e2⟩ := h2.at h
    exact ⟨_, _, _, w, rfl, rfl, .inl (.inl (ex _ _ h1)), atI_nat e1, q w G1 H (Gr.refl ex) e2⟩
theorem r_ixS {x : Str} {i : Nat} {c : Nat} (hz : x.length ≤ 100000) (h : x.cps.toList[i]? = some c) : R2D rIxS (.str x) (.int i) (.str ⟨#[c]⟩) G := fun G1 H u v _ ex hx hy Q q => by
  cases hx
  cases hy
  exact ⟨x, i, c, rfl, rfl, Evl.sz_of hz, atI_nat h, q _ G1 H (Gr.refl ex) (.str _)⟩
/-- the four values of a dict's text keys -/
def lookD (ps : List (D × D)) (x : Str) : Option D := (ps.find? fun p => match p.1 with | .str y => decide (y = x) | _ => false).map (·.2)
theorem dnk_val {kvs : List (Key × V)} {ps : List (D × D)} {x : Str} (h : DnK G kvs ps) : (valV kvs (.inr x) = none ∧ lookD ps x = none) ∨ ∃ v d, valV kvs (.inr x) = some v ∧ lookD ps x = some d ∧ Dn G v d := by
  induction ps generalizing kvs with
  | nil =>
    cases h
    exact .inl ⟨rfl, rfl⟩
  | cons p ps ih =>
    cases h with
    | @cons y v kvs' d _ h1 h2 =>
      by_cases hy : y = x
      · subst hy
        refine .inr ⟨v, d, ?_, ?_, h1⟩
        · unfold valV
          rw [List.find?_cons_of_pos (by simp)]
          rfl
        · unfold lookD
          rw [List.find?_cons_of_pos (by simp)]
          rfl
      · have e1 : valV ((Sum.inr y, v) :: kvs') (.inr x) = valV kvs' (.inr x) := by
          unfold valV
          rw [List.find?_cons_of_neg]
          simpa using hy
        have e2 : lookD ((.str y, d) :: ps) x = lookD ps x := by
          unfold lookD
          rw [List.find?_cons_of_neg]
          simpa using hy
        rw [e1, e2]
        exact ih h2
theorem evd_dget {ps : List (D × D)} {x : Str} {c : D} (h : EvD ta σ G (.dict ps)) (k : EvD tb σ G (.str x)) (hl : lookD ps x = some c) : EvD (tDGet ta tb) σ G c := fun H e Q q =>
  h H e _ fun v G2 H2 g n => (k.mono g.g) H2 g.s _ fun w G3 H3 g2 n2 => by
    cases n2
    cases n with
    | dct h1 h2 =>
      rcases dnk_val (x := x) h2 with ⟨_, z⟩ | ⟨u, d', z1, z2, z3⟩
      · rw [hl] at z
        cases z
      · rw [hl] at z2
        cases z2
        refine ⟨_, u, rfl, ?_, q u G3 H3 (g.trans g2) (Dn.mono g2.g _ z3)⟩
        rw [← z1]
        exact DGet.k (k := Sum.inr x) (g2.s _ _ (g2.g _ _ h1))
theorem evd_din {ps : List (D × D)} {x : Str} {b : Bool} (k : EvD tb σ G (.str x)) (h : EvD ta σ G (.dict ps)) (hl : (lookD ps x).isSome = b) : EvD (tDIn tb ta) σ G (.bool b) := fun H e Q q =>
  k H e _ fun w G2 H2 g n => (h.mono g.g) H2 g.s _ fun v G3 H3 g2 n2 => by
    cases n
    cases n2 with
    | dct h1 h2 =>
      rename_i a kvs
      refine ⟨_, valV kvs (.inr x), rfl, DGet.k (k := Sum.inr x) (g2.s _ _ h1), ?_⟩
      have e1 : (valV kvs (.inr x)).isSome = b := by
        rcases dnk_val (x := x) h2 with ⟨z1, z2⟩ | ⟨u, d', z1, z2, _⟩
        · rw [z1, ← hl, z2] <;> rfl
        · rw [z1, ← hl, z2] <;> rfl
      rw [e1]
      exact q _ G3 H3 (g.trans g2) (.bl b)

/-! promises by data -/
/-- what a def of data hands back: dom tells the arguments and the value -/
def spD (dom : List D → D → Prop) : Sp := fun vs H Q _ => ∃ ds c G, Ex G H ∧ DnL G vs ds ∧ dom ds c ∧ ∀ v G2 H2, Gr G H G2 H2 → Dn G2 v c → Q v H2
theorem evd_call {dom : List D → D → Prop} {ds : List D} {c : D} {E : XK} (h : EvA ar σ G ds) (hc : dom ds c) : EvD (tCall (spD dom) [] E ar) σ G c := fun H e Q q =>
  h H e _ fun vs G2 H2 g n => by
    show spD dom (vs ++ []) H2 Q E
    rw [List.append_nil]
    exact ⟨ds, c, G2, g.s, n, hc, fun v G3 H3 g2 n2 => q v G3 H3 (g.trans g2) n2⟩
theorem spD_imp {dom dom' : List D → D → Prop} (h : ∀ ds c, dom' ds c → dom ds c) : ∀ vs H Q E, spD dom' vs H Q E → spD dom vs H Q E := fun _ _ _ _ ⟨ds, c, G, a, b, k, q⟩ => ⟨ds, c, G, a, b, h ds c k, q⟩

/-! walks -/
/-- J goes over the data ds: at each turn a value that bears the next -/
structure WalkD (J : It) (G : Hp) (ds : List D) : Prop where
  go : ∀ i H, i < ds.length → Ex G H → J.go i H
  stop : ∀ H, Ex G H → J.stop ds.length H
  yld : ∀ i H x H', i < ds.length → Ex G H → J.yld i H x H' → ∃ G2 d, Gr G H G2 H' ∧ ds[i]? = some d ∧ Dn G2 x d
def EvI (wi : TI) (σ : L2.St) (G : Hp) (ds : List D) : Prop := ∀ H, Ex G H → ∀ R : It → Hp → Prop, (∀ J G2 H2, Gr G H G2 H2 → WalkD J G2 ds → R J H2) → wi σ H R
theorem WalkD.mono {J : It} {G' : Hp} {ds : List D} (e : Ex G G') (w : WalkD J G ds) : WalkD J G' ds :=
  ⟨fun i H hi x => w.go i H hi (e.trans x), fun H x => w.stop H (e.trans x), fun i H x H' hi k y => by
    obtain ⟨G2, d, g, h1, h2⟩ := w.yld i H x H' hi (e.trans k) y
    obtain ⟨G3, a, b⟩ := grow_up e k g
    exact ⟨G3, d, b, h1, Dn.mono a d h2⟩⟩
theorem walkD_list {a : Addr} {xs : List V} {ds : List D} (h : G a = some (.lst xs)) (n : DnL G xs ds) : WalkD (Itl K a) G ds where
  go := fun i H hi e => by
    have hi' : i < xs.length := by rw [n.length]; exact hi
    exact (walk_list (K := K) (a := a) (xs := xs)).goes i H hi' (.inl (.inl (e _ _ h)))
  stop := fun H e => by
    rw [← n.length]
    exact (walk_list (K := K) (a := a) (xs := xs)).stops H (.inl (.inl (e _ _ h)))
  yld := fun i H x H' hi e y => by
    have hi' : i < xs.length := by rw [n.length]; exact hi
    obtain ⟨rfl, e2⟩ := (walk_list (K := K) (a := a) (xs := xs)).yields i H x H' hi' (.inl (.inl (e _ _ h))) y
    obtain ⟨d, h1, h2⟩ := n.att e2
    exact ⟨G, d, Gr.refl e, h1, h2⟩
theorem walkD_tup {a : Addr} {xs : List V} {ds : List D} (h : Rd G a (.tup xs)) (n : DnL G xs ds) : WalkD (Itt K a) G ds where
  go := fun i H hi e => by
    have hi' : i < xs.length := by rw [n.length]; exact hi
    exact (walk_tup (K := K) (a := a) (xs := xs)).goes i H hi' (.inl (rdx e h))
  stop := fun H e => by
    rw [← n.length]
    exact (walk_tup (K := K) (a := a) (xs := xs)).stops H (.inl (rdx e h))
  yld := fun i H x H' hi e y => by
    have hi' : i < xs.length := by rw [n.length]; exact hi
    obtain ⟨rfl, e2⟩ := (walk_tup (K := K) (a := a) (xs := xs)).yields i H x H' hi' (.inl (rdx e h)) y
    obtain ⟨d, h1, h2⟩ := n.att e2
    exact ⟨G, d, Gr.refl e, h1, h2⟩
theorem ei_list {ds : List D} (h : EvD te σ G (.list ds)) : EvI (iList K te) σ G ds := fun H e R r => h H e _ fun v G2 H2 g n => by
  cases n with
  | lst h1 h2 => exact ⟨_, rfl, ⟨_, .inl (.inl (g.s _ _ h1))⟩, r _ G2 H2 g (walkD_list h1 h2)⟩
theorem ei_tup {ds : List D} (h : EvD te σ G (.tuple ds)) : EvI (iTup K te) σ G ds := fun H e R r => h H e _ fun v G2 H2 g n => by
  cases n with
  | tup h1 h2 => exact ⟨_, rfl, ⟨_, .inl (rdx g.s h1)⟩, r _ G2 H2 g (walkD_tup h1 h2)⟩
def signs (x : Str) : List D := x.cps.toList.map fun c => .str ⟨#[c]⟩
theorem ei_str {x : Str} (h : EvD te σ G (.str x)) : EvI (iStr te) σ G (signs x) := fun H e R r => h H e _ fun v G2 H2 g n => by
  cases n
  refine ⟨x, rfl, r _ G2 H2 g ?_⟩
  have hl : (signs x).length = x.cps.size := by
    unfold signs
    rw [List.length_map, Array.length_toList]
  refine ⟨fun i H hi _ => ?_, fun H _ => ?_, fun i H y H' hi k z => ?_⟩
  · exact (walk_str (z := x)).goes i H (by rw [← hl]; exact hi) trivial
  · rw [hl]
    exact (walk_str (z := x)).stops H trivial
  · obtain ⟨rfl, c, e1, rfl⟩ := (walk_str (z := x)).yields i H y H' (by rw [← hl]; exact hi) trivial z
    refine ⟨G2, .str ⟨#[c]⟩, Gr.refl k, ?_, .str _⟩
    unfold signs
    rw [List.getElem?_map, Array.getElem?_toList, e1]
    rfl
def upTo (n : Nat) : List D := (List.range n).map fun (i : Nat) => .int i
theorem ei_range {n : Nat} (h : EvA ar σ G [.int n]) (hn : n ≤ 1000000) : EvI (iRng1 ar) σ G (upTo n) := fun H e R r => h H e _ fun vs G2 H2 g k0 => by
  obtain ⟨v, rfl, k1⟩ := one_of k0
  cases k1
  refine ⟨n, rfl, by omega, by omega, r _ G2 H2 g ?_⟩
  have hl : (upTo n).length = n := by
    unfold upTo
    rw [List.length_map, List.length_range]
  refine ⟨fun i H hi _ => ?_, fun H _ => ?_, fun i H y H' hi k z => ?_⟩
  · show i < ((n : Int)).toNat
    rw [hl] at hi
    omega
  · show ((n : Int)).toNat ≤ (upTo n).length
    rw [hl]
    omega
  · obtain ⟨rfl, rfl⟩ := z
    rw [hl] at hi
    refine ⟨G2, .int i, Gr.refl k, ?_, ?_⟩
    · unfold upTo
      rw [List.getElem?_map, List.getElem?_range hi]
      rfl
    · rw [Int.zero_add]
      exact .int _

/-! list comprehensions -/
/-- what a target does with a value that bears d: the slots behind it -/
def EvG (g : TG) (σ : L2.St) (G : Hp) (d : D) (B : Hp → L2.St → Prop) : Prop := ∀ x H, Ex G H → Dn G x d → ∀ Q : L2.St → Hp → Prop, (∀ σ2, B G σ2 → Q σ2 H) → g x σ H Q
theorem eg_name {j : Nat} {d : D} : EvG (gName j) σ G d (fun G σ2 => ∃ x, σ2 = σ.set j (some x) ∧ Dn G x d) := fun x H _ n Q q => q _ ⟨x, rfl, n⟩
theorem eg_pair {j k : Nat} {d e : D} : EvG (gTup K 2 (gCons (gName j) (gCons (gName k) gNil))) σ G (.tuple [d, e]) (fun G σ2 => ∃ x y, σ2 = (σ.set j (some x)).set k (some y) ∧ Dn G x d ∧ Dn G y e) := fun x H ex n Q q => by
  cases n with
  | tup h1 h2 =>
    obtain ⟨v, w, rfl, n1, n2⟩ := two_of h2
    exact ⟨_, _, rfl, .inl (rdx ex h1), rfl, v, _, rfl, w, _, rfl, rfl, q _ ⟨v, w, rfl, n1, n2⟩⟩
theorem take_len {α : Type} {l : List α} {i : Nat} {x : α} (h : l[i]? = some x) : l.take (i + 1) = l.take i ++ [x] := by
  rw [List.take_add_one, h]
  rfl
/-- [r x for x in ds if f x] -/
theorem evd_lc {wi : TI} {g : TG} {vs : List Nat} {ds : List D} {f : D → Bool} {r : D → D} {B : D → Hp → L2.St → Prop} (hi : EvI wi σ G ds) (hz : ds.length ≤ 40000)
    (hg : ∀ d ∈ ds, ∀ G1, Ex G G1 → EvG g (wipe σ vs) G1 d (B d)) (hw : ∀ d G1 σ2, B d G1 σ2 → wipe σ2 vs = wipe σ vs)
    (ht : ∀ d ∈ ds, ∀ G1 σ2, Ex G G1 → B d G1 σ2 → EvT t σ2 G1 (f d))
    (he : ∀ d ∈ ds, f d = true → ∀ G1 σ2, Ex G G1 → B d G1 σ2 → EvD te σ2 G1 (r d)) :
    EvD (tLc wi g t te vs) σ G (.list ((ds.filter f).map r)) := fun H e Q q => hi H e _ fun J G0 H0 g0 w D hD => by
  -- what the i turns have made stands in some Gi, without the list at D itself
  refine ⟨fun i m H' => m = ds.length - i ∧ i ≤ ds.length ∧ ∃ Gi acc, Gr G0 H0 Gi H' ∧ Gi D = none ∧ H' D = some (.lst acc) ∧ DnL Gi acc (((ds.take i).filter f).map r),
    ⟨ds.length, by simp, Nat.zero_le _, G0, [], ⟨Ex.refl _, g0.s.trans (Ex.new hD), Ex.new hD, fun _ a _ => a⟩, Evl.fresh_back g0.s hD, upd_same, .nil⟩, ?_⟩
  rintro i m H' ⟨rfl, hi', Gi, acc, gi, hGD, hHD, na⟩
  have wi' := w.mono gi.g
  by_cases hlt : i < ds.length
  · refine .inr ⟨wi'.go i H' hlt gi.s, fun H2 => ∃ Gj acc, Gr G0 H0 Gj H2 ∧ Gj D = none ∧ H2 D = some (.lst acc) ∧ DnL Gj acc (((ds.take (i + 1)).filter f).map r),
      fun H2 p => ⟨ds.length - (i + 1), by omega, rfl, hlt, p⟩, fun x H2 y => ?_⟩
    obtain ⟨G2, d, g2, hd, n2⟩ := wi'.yld i H' x H2 hlt gi.s y
    have hmem : d ∈ ds := List.mem_of_getElem? hd
    have hGD2 : G2 D = none := g2.f D hGD (by rw [hHD]; intro z; cases z)
    have ex2 : Ex G G2 := (g0.g.trans gi.g).trans g2.g
    refine hg d hmem G2 ex2 x H2 g2.s n2 _ fun σ2 hB => ⟨hw d G2 σ2 hB, ?_⟩
    refine ht d hmem G2 σ2 ex2 hB H2 g2.s _ fun G3 H3 g3 => ?_
    have hHD2 := g2.h _ _ hHD
    have hGD3 : G3 D = none := g3.f D hGD2 (by rw [hHD2]; intro z; cases z)
    have hHD3 := g3.h _ _ hHD2
    have gg3 := (gi.trans g2).trans g3
    have na3 : DnL G3 acc (((ds.take i).filter f).map r) := DnL.mono (g2.g.trans g3.g) _ na
    cases hf : f d with
    | false =>
      refine ⟨G3, acc, gg3, hGD3, hHD3, ?_⟩
      rw [take_len hd, List.filter_append, List.filter_cons, if_neg (by rw [hf]; decide)]
      show DnL G3 acc ((((ds.take i).filter f) ++ []).map r)
      rw [List.append_nil]
      exact na3
    | true =>
      show te σ2 H3 _
      refine (he d hmem hf G2 σ2 ex2 hB).mono g3.g H3 g3.s _ fun v G4 H4 g4 n4 => ?_
      have hGD4 : G4 D = none := g4.f D hGD3 (by rw [hHD3]; intro z; cases z)
      have hHD4 := g4.h _ _ hHD3
      have gg4 := gg3.trans g4
      refine ⟨acc, hHD4, ?_, G4, acc ++ [v], ⟨gg4.g, ?_, ?_, gg4.f⟩, hGD4, upd_same, ?_⟩
      · rw [na.length, List.length_map]
        have l1 := List.length_filter_le f (ds.take i)
        rw [List.length_take] at l1
        exact Nat.lt_of_lt_of_le (show _ < 100000 by omega) (by decide)
      · exact Ex.mut gg4.s hGD4
      · exact Ex.mut gg4.h hD
      · rw [take_len hd, List.filter_append, List.filter_cons, if_pos hf, List.map_append]
        exact (DnL.mono g4.g _ na3).snoc n4
  · have ei : i = ds.length := by omega
    subst ei
    refine .inl ⟨wi'.stop H' gi.s, ?_⟩
    rw [List.take_length] at na
    refine q (.ref D) (upd Gi D (.lst acc)) H' ⟨(g0.g.trans gi.g).trans (Ex.new hGD), ?_, g0.h.trans gi.h, fun a h1 h2 => ?_⟩ (.lst upd_same (DnL.mono (Ex.new hGD) _ na))
    · intro a o z
      by_cases ha : a = D
      · subst ha
        rw [upd_same] at z
        rw [hHD, z]
      · rw [upd_ne ha] at z
        exact gi.s a o z
    · have h3 : a ≠ D := fun z => h2 (by rw [z]; exact Evl.fresh_back g0.h hD)
      rw [upd_ne h3]
      exact gi.f a (g0.f a h1 h2) fun z => h2 (Evl.fresh_back g0.h z)
/-- without a test -/
theorem filter_all {α : Type} (l : List α) : l.filter (fun _ => true) = l := by
  induction l with
  | nil => rfl
  | cons x xs ih => rw [List.filter_cons, if_pos rfl, ih]
theorem evt_yes : EvT tYes σ G true := fun H e Q q => q G H (Gr.refl e)
theorem evd_lcA {wi : TI} {g : TG} {vs : List Nat} {ds : List D} {r : D → D} {B : D → Hp → L2.St → Prop} (hi : EvI wi σ G ds) (hz : ds.length ≤ 40000)
    (hg : ∀ d ∈ ds, ∀ G1, Ex G G1 → EvG g (wipe σ vs) G1 d (B d)) (hw : ∀ d G1 σ2, B d G1 σ2 → wipe σ2 vs = wipe σ vs)
    (he : ∀ d ∈ ds, ∀ G1 σ2, Ex G G1 → B d G1 σ2 → EvD te σ2 G1 (r d)) :
    EvD (tLc wi g tYes te vs) σ G (.list (ds.map r)) := by
  have h := evd_lc (t := tYes) (te := te) (f := fun _ => true) (r := r) hi hz hg hw (fun _ _ _ _ _ _ => evt_yes) (fun d hd _ G1 σ2 e b => he d hd G1 σ2 e b)
  rw [filter_all] at h
  exact h
end
end Sh

set_option Elab.async false
set_option linter.all false
set_option maxRecDepth 100000
set_option maxHeartbeats 4000000
namespace Sh
open PySem PySem.Spec L2
open PyProof.Rows hiding St
open Evl (Ex)

/-- a def of the text stands under its name -/
def Stands (K : PySem.W.Frag) (mg : Str → Option Value) (x : Str) (st : Stmt) (ps : List Str) : Prop := ∃ f fd, Fun K x x st f fd ∧ mg x = some (.ref f) ∧ Binds K fd ps []
/-- a def keeps a promise -/
def Keeps (P : Program) (w : World) (K : PySem.W.Frag) (mg : Str → Option Value) (base : Heap) (CX : CXT) (k : Nat) (x : Str) (ps : List Str) (sp : Sp) : Prop :=
  ∃ f fd, FnOk P w K mg base CX k f fd ps sp ∧ mg x = some (.ref f) ∧ PySem.W.keepIn K (.ref f) = true ∧ Binds K fd ps []
/-- the built-ins' names are not bound by the text -/
structure Bi (mg : Str → Option Value) : Prop where
  isinstance : mg "isinstance" = none
  int : mg "int" = none
  bool : mg "bool" = none
  str : mg "str" = none
  tuple : mg "tuple" = none
  list : mg "list" = none
  dict : mg "dict" = none
  set : mg "set" = none
  len : mg "len" = none
  all : mg "all" = none
  any : mg "any" = none
  sum : mg "sum" = none
  range : mg "range" = none
  zip : mg "zip" = none
  min : mg "min" = none
section
variable {P : Program} {w : World} {K : PySem.W.Frag} {mg : Str → Option Value} {base : Heap} {σ : L2.St} {G : Hp} {te : TE} {t u v : TS} {tt : TT} {c d : D}
/-- the block hands back c -/
def EvS (t : TS) (σ : L2.St) (G : Hp) (c : D) : Prop := ∀ H, Ex G H → ∀ E : Ends, (∀ v G2 H2, Gr G H G2 H2 → Dn G2 v c → E.rt v H2) → t E σ H
theorem evs_ret (h : EvD te σ G c) : EvS (tRet te) σ G c := fun H e E q => h H e _ q
theorem EvS.mono {G' : Hp} (e : Ex G G') (h : EvS t σ G c) : EvS t σ G' c := fun H x E q => h H (e.trans x) E fun v G2 H2 g n => by
  obtain ⟨G3, a, b⟩ := grow_up e x g
  exact q v G3 H2 b (Dn.mono a c n)
/-- if t: .. that hands back; the rest -/
theorem evs_if {b : Bool} (h : EvT tt σ G b) (k1 : b = true → EvS t σ G c) (k2 : b = false → EvS u σ G c) : EvS (tSeq (tIfS tt t tNext) u) σ G c := fun H e E q => h H e _ fun G2 H2 g => by
  cases b with
  | true =>
    show t { E with nx := u E } σ H2
    exact ((k1 rfl).mono g.g) H2 g.s _ fun v G3 H3 g2 n => q v G3 H3 (g.trans g2) n
  | false =>
    show u E σ H2
    exact ((k2 rfl).mono g.g) H2 g.s _ fun v G3 H3 g2 n => q v G3 H3 (g.trans g2) n
/-- x = e; the rest -/
theorem evs_set {i : Nat} (h : EvD te σ G d) (k : ∀ v G2, Ex G G2 → Dn G2 v d → EvS u (σ.set i (some v)) G2 c) : EvS (tSeq (tAsg te (gName i)) u) σ G c := fun H e E q => h H e _ fun v G2 H2 g n =>
  k v G2 g.g n H2 g.s E fun v' G3 H3 g2 n2 => q v' G3 H3 (g.trans g2) n2
/-- a, b, .. = e; the rest -/
theorem evs_asg {g : TG} {B : Hp → L2.St → Prop} (h : EvD te σ G d) (hg : ∀ G2, Ex G G2 → EvG g σ G2 d B) (k : ∀ σ2 G2, Ex G G2 → B G2 σ2 → EvS u σ2 G2 c) : EvS (tSeq (tAsg te g) u) σ G c := fun H e E q => h H e _ fun v G2 H2 g' n =>
  hg G2 g'.g v H2 g'.s n _ fun σ2 b => k σ2 G2 g'.g b H2 g'.s E fun v' G3 H3 g2 n2 => q v' G3 H3 (g'.trans g2) n2
/-- five names at once -/
theorem eg_five {i1 i2 i3 i4 i5 : Nat} {d1 d2 d3 d4 d5 : D} : EvG (gTup K 5 (gCons (gName i1) (gCons (gName i2) (gCons (gName i3) (gCons (gName i4) (gCons (gName i5) gNil)))))) σ G (.tuple [d1, d2, d3, d4, d5])
    (fun G σ2 => ∃ v1 v2 v3 v4 v5, σ2 = ((((σ.set i1 (some v1)).set i2 (some v2)).set i3 (some v3)).set i4 (some v4)).set i5 (some v5) ∧ Dn G v1 d1 ∧ Dn G v2 d2 ∧ Dn G v3 d3 ∧ Dn G v4 d4 ∧ Dn G v5 d5) := fun x H ex n Q q => by
  cases n with
  | tup h1 h2 =>
    cases h2 with
    | cons n1 h2 =>
      cases h2 with
      | cons n2 h2 =>
        cases h2 with
        | cons n3 h2 =>
          cases h2 with
          | cons n4 h2 =>
            cases h2 with
            | cons n5 h2 =>
              cases h2
              exact ⟨_, _, rfl, .inl (rdx ex h1), rfl, _, _, rfl, _, _, rfl, _, _, rfl, _, _, rfl, _, _, rfl, rfl, q _ ⟨_, _, _, _, _, rfl, n1, n2, n3, n4, n5⟩⟩
/-- a for over data: Pv G0 H0 i: behind i turns (G0, H0: where the loop began) -/
theorem for_data {wi : TI} {g : TG} {tb : TS} {ds : List D} {H : Hp} {E : Ends} (hi : EvI wi σ G ds) (e : Ex G H) (Pv : Hp → Hp → Nat → L2.St → Hp → Prop) (hG : ∀ G0 H0 i σ' H', Pv G0 H0 i σ' H' → Ex G0 H')
    (h0 : ∀ G0 H0, Gr G H G0 H0 → Pv G0 H0 0 σ H0)
    (hs : ∀ G0 H0 i d x σ' H' G2 H2, Gr G H G0 H0 → ds[i]? = some d → Pv G0 H0 i σ' H' → Gr G0 H' G2 H2 → Dn G2 x d → g x σ' H2 fun σ2 H3 => tb { E with nx := Pv G0 H0 (i + 1), ct := Pv G0 H0 (i + 1), bk := E.nx } σ2 H3)
    (hd : ∀ G0 H0 σ' H', Gr G H G0 H0 → Pv G0 H0 ds.length σ' H' → E.nx σ' H') : tFor wi g tb E σ H := hi H e _ fun J G0 H0 g0 w => by
  refine ⟨fun i m σ' H' => m = ds.length - i ∧ i ≤ ds.length ∧ Pv G0 H0 i σ' H', ⟨ds.length, by simp, Nat.zero_le _, h0 G0 H0 g0⟩, ?_⟩
  rintro i m σ' H' ⟨rfl, hi', p⟩
  have ex := hG G0 H0 i σ' H' p
  by_cases lt : i < ds.length
  · refine .inr ⟨w.go i H' lt ex, Pv G0 H0 (i + 1), fun σ2 H2 p2 => ⟨ds.length - (i + 1), by omega, rfl, lt, p2⟩, fun x H2 y => ?_⟩
    obtain ⟨G2, d, g2, hd', n⟩ := w.yld i H' x H2 lt ex y
    exact hs G0 H0 i d x σ' H' G2 H2 g0 hd' p g2 n
  · obtain rfl : i = ds.length := by omega
    exact .inl ⟨w.stop H' ex, hd G0 H0 σ' H' g0 p⟩
/-- one name as the target -/
theorem for_dataN {wi : TI} {j : Nat} {tb : TS} {ds : List D} {H : Hp} {E : Ends} (hi : EvI wi σ G ds) (e : Ex G H) (Pv : Hp → Hp → Nat → L2.St → Hp → Prop) (hG : ∀ G0 H0 i σ' H', Pv G0 H0 i σ' H' → Ex G0 H')
    (h0 : ∀ G0 H0, Gr G H G0 H0 → Pv G0 H0 0 σ H0)
    (hs : ∀ G0 H0 i d x σ' H' G2 H2, Gr G H G0 H0 → ds[i]? = some d → Pv G0 H0 i σ' H' → Gr G0 H' G2 H2 → Dn G2 x d → tb { E with nx := Pv G0 H0 (i + 1), ct := Pv G0 H0 (i + 1), bk := E.nx } (σ'.set j (some x)) H2)
    (hd : ∀ G0 H0 σ' H', Gr G H G0 H0 → Pv G0 H0 ds.length σ' H' → E.nx σ' H') : tFor wi (gName j) tb E σ H :=
  for_data (g := gName j) hi e Pv hG h0 hs hd
/-- if t: ..; the rest, with ends of any kind -/
theorem tif_of {t u u2 : TS} {H : Hp} {E : Ends} {b : Bool} (h : EvT tt σ G b) (e : Ex G H) (k1 : b = true → ∀ G2 H2, Gr G H G2 H2 → t { E with nx := u2 E } σ H2) (k2 : b = false → ∀ G2 H2, Gr G H G2 H2 → u { E with nx := u2 E } σ H2) : tSeq (tIfS tt t u) u2 E σ H := h H e _ fun G2 H2 g => by
  cases b with
  | true => exact k1 rfl G2 H2 g
  | false => exact k2 rfl G2 H2 g
/-- what stands still, and one object more that is read meanwhile -/
theorem Ex.lend {H : Hp} {l : Addr} {o : HO} (e : Ex G H) (h : H l = some o) : Ex (upd G l o) H := fun a u q => by
  by_cases z : a = l
  · subst z
    rw [upd_same] at q
    rw [← q]
    exact h
  · rw [upd_ne z] at q
    exact e a u q
/-- a def without errors, by its body -/
theorem keeps_of {x : Str} {st : Stmt} {N ps : List Str} {k : Nat} {dom : List D → D → Prop} (S : Stands K mg x st ps) (sc : FnScope N ps (defScope st)) (hl : ∀ ds c, dom ds c → ds.length = ps.length)
    (body : ∀ (f : Addr) (cdv : Value) (A : Around) (outer : List Env) (s : Shared) (H : Hp) (E : XK), Room k (A.deeper (envOfC x (defScope st) s.heap.objs.size f cdv)) →
      ∃ t, PSs (cxOf CX0 P w K mg base N x (defScope st) f cdv A outer s H E).nox (defBody st) t ∧ ∀ ds c vs G, dom ds c → DnL G vs ds → EvS t (start N vs) G c) :
    Keeps P w K mg base CX0 (k + 1) x ps (spD dom) := by
  obtain ⟨f, fd, F, hm, hb⟩ := S
  refine ⟨f, fd, F.ok sc (fun vs H Q E h => ?_) (fun cdv A outer s H vs Q E hr h => ?_), hm, F.kp, hb⟩
  · obtain ⟨ds, c, G, _, n, hd, _⟩ := h
    rw [n.length]
    exact hl ds c hd
  · obtain ⟨ds, c, G, e, n, hd, q⟩ := h
    obtain ⟨t, ht, hq⟩ := body f cdv A outer s H E hr
    exact ⟨t, ht, hq ds c vs G hd n H e _ q⟩
section
variable {X : Cx} {x : Str} {ps : List Str} {sp : Sp} {CX : CXT} {k : Nat} {E : XK} {e : Expr} {es : List Expr} {ar : TA} {p pos : Pos}
theorem pe_callD (F : Keeps X.prog X.w X.K X.mg X.base CX0 k x ps sp) (hr : Room k X.A) (ha : PA X (e :: es) ar) (hg : Gl X x := by rfl) (hdb : (x == ("__debug__" : Str)) = false := by decide)
    (he : starEach (e :: es) X.env = (false, eval e X.env) :: starEach es X.env := by rfl) (hpl : (backTo pos (starEach es X.env)).any (·.1) = false := by rfl) : PE X (.Call (.Name x p) (e :: es) [] pos) (tCall sp [] E0 ar) := by
  obtain ⟨f, fd, ok, hm, hk, hb⟩ := F
  exact pe_call ok hr hg hm hk hb .nil pass0 ha hdb he hpl
/-- a built-in function by its name, a built-in type's name as a value -/
theorem pe_ty {T : String} (hm : X.mg x = none) (hv : bootBuiltins x = some (.type T)) (hg : Gl X x := by rfl) (hn : x ≠ "__name__" := by decide) (hd : (x == ("__debug__" : Str)) = false := by decide) : PE X (.Name x pos) (tC (.ty T)) := pe_bltn hg hm hv rfl hn hd
end
theorem dn2 {vs : List V} {a b : D} (h : DnL G vs [a, b]) : ∃ u v, vs = [u, v] ∧ Dn G u a ∧ Dn G v b := two_of h
theorem dn3 {vs : List V} {a b c : D} (h : DnL G vs [a, b, c]) : ∃ u v w, vs = [u, v, w] ∧ Dn G u a ∧ Dn G v b ∧ Dn G w c := by
  cases h with
  | cons h1 h2 =>
    obtain ⟨v, w, rfl, h3, h4⟩ := dn2 h2
    exact ⟨_, v, w, rfl, h1, h3, h4⟩
theorem dn4 {vs : List V} {a b c d : D} (h : DnL G vs [a, b, c, d]) : ∃ u v w x, vs = [u, v, w, x] ∧ Dn G u a ∧ Dn G v b ∧ Dn G w c ∧ Dn G x d := by
  cases h with
  | cons h1 h2 =>
    obtain ⟨v, w, x, rfl, h3, h4, h5⟩ := dn3 h2
    exact ⟨_, v, w, x, rfl, h1, h3, h4, h5⟩
/-- the i-th slot, written -/
theorem evd_at {i : Nat} {v : V} {G1 : Hp} (n : Dn G v d) (e : Ex G G1 := by first | exact Ex.refl _ | assumption) (h : σ[i]? = some (some v) := by rfl) : EvD (tVar i) σ G1 d := evd_var ⟨v, h, Dn.mono e d n⟩
/-! comprehensions over names and pairs of names -/
theorem evd_lcN {wi : TI} {vs : List Nat} {ds : List D} {j : Nat} {r : D → D} (hi : EvI wi σ G ds) (hz : ds.length ≤ 40000) (hw : ∀ x, wipe ((wipe σ vs).set j (some x)) vs = wipe σ vs)
    (he : ∀ d ∈ ds, ∀ x G1, Ex G G1 → Dn G1 x d → EvD te ((wipe σ vs).set j (some x)) G1 (r d)) : EvD (tLc wi (gName j) tYes te vs) σ G (.list (ds.map r)) :=
  evd_lcA hi hz (fun d _ G1 _ => eg_name) (fun d G1 σ2 ⟨x, e, _⟩ => by rw [e]; exact hw x) (fun d hd G1 σ2 e ⟨x, e2, n⟩ => by rw [e2]; exact he d hd x G1 e n)
theorem evd_lcNF {wi : TI} {vs : List Nat} {ds : List D} {j : Nat} {f : D → Bool} {r : D → D} (hi : EvI wi σ G ds) (hz : ds.length ≤ 40000) (hw : ∀ x, wipe ((wipe σ vs).set j (some x)) vs = wipe σ vs)
    (ht : ∀ d ∈ ds, ∀ x G1, Ex G G1 → Dn G1 x d → EvT tt ((wipe σ vs).set j (some x)) G1 (f d)) (he : ∀ d ∈ ds, f d = true → ∀ x G1, Ex G G1 → Dn G1 x d → EvD te ((wipe σ vs).set j (some x)) G1 (r d)) :
    EvD (tLc wi (gName j) tt te vs) σ G (.list ((ds.filter f).map r)) :=
  evd_lc hi hz (fun d _ G1 _ => eg_name) (fun d G1 σ2 ⟨x, e, _⟩ => by rw [e]; exact hw x) (fun d hd G1 σ2 e ⟨x, e2, n⟩ => by rw [e2]; exact ht d hd x G1 e n) (fun d hd hf G1 σ2 e ⟨x, e2, n⟩ => by rw [e2]; exact he d hd hf x G1 e n)
theorem evd_lcP {wi : TI} {vs : List Nat} {ds : List D} {i j : Nat} {r : D → D} (hi : EvI wi σ G ds) (hz : ds.length ≤ 40000) (hp : ∀ d ∈ ds, ∃ a b, d = .tuple [a, b]) (hw : ∀ x y, wipe (((wipe σ vs).set i (some x)).set j (some y)) vs = wipe σ vs)
    (he : ∀ a b, PyData.tuple [a, b] ∈ ds → ∀ x y G1, Ex G G1 → Dn G1 x a → Dn G1 y b → EvD te (((wipe σ vs).set i (some x)).set j (some y)) G1 (r (.tuple [a, b]))) :
    EvD (tLc wi (gTup K 2 (gCons (gName i) (gCons (gName j) gNil))) tYes te vs) σ G (.list (ds.map r)) :=
  evd_lcA (B := fun d G1 σ2 => ∃ a b, d = .tuple [a, b] ∧ ∃ x y, σ2 = ((wipe σ vs).set i (some x)).set j (some y) ∧ Dn G1 x a ∧ Dn G1 y b) hi hz
    (fun d hd G1 e x H e1 n Q q => by
      obtain ⟨a, b, rfl⟩ := hp d hd
      exact eg_pair x H e1 n Q fun σ2 h => q σ2 ⟨a, b, rfl, h⟩)
    (fun d G1 σ2 ⟨a, b, _, x, y, e, _⟩ => by rw [e]; exact hw x y)
    (fun d hd G1 σ2 e ⟨a, b, ed, x, y, e2, n1, n2⟩ => by
      subst ed
      rw [e2]
      exact he a b hd x y G1 e n1 n2)
theorem evd_lcPF {wi : TI} {vs : List Nat} {ds : List D} {i j : Nat} {f : D → Bool} {r : D → D} (hi : EvI wi σ G ds) (hz : ds.length ≤ 40000) (hp : ∀ d ∈ ds, ∃ a b, d = .tuple [a, b]) (hw : ∀ x y, wipe (((wipe σ vs).set i (some x)).set j (some y)) vs = wipe σ vs)
    (ht : ∀ a b, PyData.tuple [a, b] ∈ ds → ∀ x y G1, Ex G G1 → Dn G1 x a → Dn G1 y b → EvT tt (((wipe σ vs).set i (some x)).set j (some y)) G1 (f (.tuple [a, b])))
    (he : ∀ a b, PyData.tuple [a, b] ∈ ds → f (.tuple [a, b]) = true → ∀ x y G1, Ex G G1 → Dn G1 x a → Dn G1 y b → EvD te (((wipe σ vs).set i (some x)).set j (some y)) G1 (r (.tuple [a, b]))) :
    EvD (tLc wi (gTup K 2 (gCons (gName i) (gCons (gName j) gNil))) tt te vs) σ G (.list ((ds.filter f).map r)) :=
  evd_lc (B := fun d G1 σ2 => ∃ a b, d = .tuple [a, b] ∧ ∃ x y, σ2 = ((wipe σ vs).set i (some x)).set j (some y) ∧ Dn G1 x a ∧ Dn G1 y b) hi hz
    (fun d hd G1 e x H e1 n Q q => by
      obtain ⟨a, b, rfl⟩ := hp d hd
      exact eg_pair x H e1 n Q fun σ2 h => q σ2 ⟨a, b, rfl, h⟩)
    (fun d G1 σ2 ⟨a, b, _, x, y, e, _⟩ => by rw [e]; exact hw x y)
    (fun d hd G1 σ2 e ⟨a, b, ed, x, y, e2, n1, n2⟩ => by
      subst ed
      rw [e2]
      exact ht a b hd x y G1 e n1 n2)
    (fun d hd hf G1 σ2 e ⟨a, b, ed, x, y, e2, n1, n2⟩ => by
      subst ed
      rw [e2]
      exact he a b hd hf x y G1 e n1 n2)
/-! types by name -/
def isS (T s : String) : Bool := s == T || (s == "bool" && T == "int")
def isK (T : String) (d : D) : Bool := isS T (tyD d)
theorem kit_int (d : D) : kitB (tyD d) "int" = some (isK "int" d) := by
  cases d
  · exact (by decide +kernel : kitB "NoneType" "int" = some (isS "int" "NoneType"))
  · exact (by decide +kernel : kitB "bool" "int" = some (isS "int" "bool"))
  · exact (by decide +kernel : kitB "int" "int" = some (isS "int" "int"))
  · exact (by decide +kernel : kitB "str" "int" = some (isS "int" "str"))
  · exact (by decide +kernel : kitB "list" "int" = some (isS "int" "list"))
  · exact (by decide +kernel : kitB "tuple" "int" = some (isS "int" "tuple"))
  · exact (by decide +kernel : kitB "dict" "int" = some (isS "int" "dict"))
theorem kit_bool (d : D) : kitB (tyD d) "bool" = some (isK "bool" d) := by
  cases d
  · exact (by decide +kernel : kitB "NoneType" "bool" = some (isS "bool" "NoneType"))
  · exact (by decide +kernel : kitB "bool" "bool" = some (isS "bool" "bool"))
  · exact (by decide +kernel : kitB "int" "bool" = some (isS "bool" "int"))
  · exact (by decide +kernel : kitB "str" "bool" = some (isS "bool" "str"))
  · exact (by decide +kernel : kitB "list" "bool" = some (isS "bool" "list"))
  · exact (by decide +kernel : kitB "tuple" "bool" = some (isS "bool" "tuple"))
  · exact (by decide +kernel : kitB "dict" "bool" = some (isS "bool" "dict"))
theorem kit_str (d : D) : kitB (tyD d) "str" = some (isK "str" d) := by
  cases d
  · exact (by decide +kernel : kitB "NoneType" "str" = some (isS "str" "NoneType"))
  · exact (by decide +kernel : kitB "bool" "str" = some (isS "str" "bool"))
  · exact (by decide +kernel : kitB "int" "str" = some (isS "str" "int"))
  · exact (by decide +kernel : kitB "str" "str" = some (isS "str" "str"))
  · exact (by decide +kernel : kitB "list" "str" = some (isS "str" "list"))
  · exact (by decide +kernel : kitB "tuple" "str" = some (isS "str" "tuple"))
  · exact (by decide +kernel : kitB "dict" "str" = some (isS "str" "dict"))
theorem kit_tuple (d : D) : kitB (tyD d) "tuple" = some (isK "tuple" d) := by
  cases d
  · exact (by decide +kernel : kitB "NoneType" "tuple" = some (isS "tuple" "NoneType"))
  · exact (by decide +kernel : kitB "bool" "tuple" = some (isS "tuple" "bool"))
  · exact (by decide +kernel : kitB "int" "tuple" = some (isS "tuple" "int"))
  · exact (by decide +kernel : kitB "str" "tuple" = some (isS "tuple" "str"))
  · exact (by decide +kernel : kitB "list" "tuple" = some (isS "tuple" "list"))
  · exact (by decide +kernel : kitB "tuple" "tuple" = some (isS "tuple" "tuple"))
  · exact (by decide +kernel : kitB "dict" "tuple" = some (isS "tuple" "dict"))
theorem kit_list (d : D) : kitB (tyD d) "list" = some (isK "list" d) := by
  cases d
  · exact (by decide +kernel : kitB "NoneType" "list" = some (isS "list" "NoneType"))
  · exact (by decide +kernel : kitB "bool" "list" = some (isS "list" "bool"))
  · exact (by decide +kernel : kitB "int" "list" = some (isS "list" "int"))
  · exact (by decide +kernel : kitB "str" "list" = some (isS "list" "str"))
  · exact (by decide +kernel : kitB "list" "list" = some (isS "list" "list"))
  · exact (by decide +kernel : kitB "tuple" "list" = some (isS "list" "tuple"))
  · exact (by decide +kernel : kitB "dict" "list" = some (isS "list" "dict"))
theorem bi_isinstance : bootBuiltins "isinstance" = some (.builtin "isinstance") := by decide +kernel
theorem bi_len : bootBuiltins "len" = some (.builtin "len") := by decide +kernel
theorem bi_all : bootBuiltins "all" = some (.builtin "all") := by decide +kernel
theorem bi_any : bootBuiltins "any" = some (.builtin "any") := by decide +kernel
theorem bi_sum : bootBuiltins "sum" = some (.builtin "sum") := by decide +kernel
theorem bi_int : bootBuiltins "int" = some (.type "int") := by decide +kernel
theorem bi_bool : bootBuiltins "bool" = some (.type "bool") := by decide +kernel
theorem bi_str : bootBuiltins "str" = some (.type "str") := by decide +kernel
theorem bi_tuple : bootBuiltins "tuple" = some (.type "tuple") := by decide +kernel
theorem bi_list : bootBuiltins "list" = some (.type "list") := by decide +kernel
theorem bi_dict : bootBuiltins "dict" = some (.type "dict") := by decide +kernel
theorem bi_set : bootBuiltins "set" = some (.type "set") := by decide +kernel
end
end Sh

set_option Elab.async false
set_option linter.all false
set_option maxRecDepth 100000
set_option maxHeartbeats 4000000
/-! len(set(xs)): a set filled from a list or a tuple, whatever its keys; unlike texts, unlike tuples of texts. -/
namespace ShT
open PySem PySem.Spec PyProof.Rows L2
/-- how a set at S takes the items: Iv tells of the set behind i items -/
structure Fills (P : Program) (w : World) (S : Addr) (n : Nat) (Pv : Nat → Value → Prop) (h0 : Heap) (Iv : Nat → Heap → Prop) : Prop where
  keep : ∀ i h h', Iv i h → (∀ o, h.get? S = some o → h'.get? S = some o) → Iv i h'
  step : ∀ (i : Nat) (v : Value) (A : Around) (E : Value → Shared → Prop) (s : Shared), A.units < cLine → i < n → Pv i v → Iv i s.heap → (∀ b o, h0.get? b = some o → s.heap.get? b = some o) → ∀ Q : Bool → Shared → Prop,
    (∀ b h' tk, Heap.SameBut S s.heap h' → s.toks ≤ tk → Iv (i + 1) h' → Q b { s with heap := h', toks := tk }) → wpAny (model P w) A (setAdd S v) Q E s
abbrev freshSet (w : World) : Obj := { cls := .type "set", dict := none, data := .set #[] 0 (.fresh 0 0 (!w.params.followText "set-order")) }
section
variable {P : Program} {w : World} {A : Around} {E : Value → Shared → Prop} {s : Shared}
theorem fill_loop {I : Addr} {fp wr : List Addr} {G : Array GenState → Array GenState → Prop} {n : Nat} {Pv : Nat → Value → Prop} {St : Nat → Shared → Prop} {R : Result → Shared → Prop} {S : Addr} {h0 : Heap} {Iv : Nat → Heap → Prop}
    (W : WalksS P w A.in1 I fp wr G n Pv St) (Fi : Fills P w S n Pv h0 Iv) (hSf : S ∉ fp) (hS0 : h0.get? S = none) (hw0 : ∀ b ∈ wr, h0.get? b = none) (hu : A.in1.units < cLine) :
    ∀ (left done : Nat) (s : Shared), n - done = left → done ≤ n → St done s → (∀ b o, h0.get? b = some o → s.heap.get? b = some o) → Iv done s.heap →
      (∀ s', Moved (S :: wr) G s s' → Iv n s'.heap → (∀ b o, h0.get? b = some o → s'.heap.get? b = some o) → R (.ok (.ret .none)) s') →
      codeAny (model P w) A (.builtin "set.update.loop" ⟨[.ref S, .ref I], []⟩) R s := by
  have apart : S ∉ wr := fun h => hSf (W.sub _ h)
  have wide : ∀ b ∈ wr, b ∈ S :: wr := fun b hb => List.mem_cons_of_mem _ hb
  have stays : ∀ {s s' : Shared}, Moved wr G s s' → (∀ b o, h0.get? b = some o → s.heap.get? b = some o) → ∀ b o, h0.get? b = some o → s'.heap.get? b = some o := fun m k b o e =>
    m.heap b o (fun z => by rw [hw0 b z] at e; cases e) (k b o e)
  intro left
  induction left with
  | zero =>
    intro done s e1 e2 st k iv fin
    obtain rfl : done = n := by omega
    refine codeAny_builtin F.entry_set_update_loop ?_
    rw [Around.under_plainId F.plain_set_update_loop _]
    refine wpAny_bind (W.done s _ _ st fun s' m => ?_)
    exact wpAny_pure (fin s' (m.mono wide) (Fi.keep _ _ _ iv fun o z => m.heap S o apart z) (stays m k))
  | succ left ih =>
    intro done s e1 e2 st k iv fin
    have lt : done < n := by omega
    refine codeAny_builtin F.entry_set_update_loop ?_
    rw [Around.under_plainId F.plain_set_update_loop _]
    refine wpAny_bind (W.item done s _ _ lt st fun v s1 pv st1 m => ?_)
    have k1 := stays m k
    refine wpAny_bind (wpAny_holding ?_)
    refine Fi.step done v A.in1 _ s1 hu lt pv (Fi.keep _ _ _ iv fun o z => m.heap S o apart z) k1 _ fun b h' tk sb ht iv2 => ?_
    have k2 : ∀ b o, h0.get? b = some o → h'.get? b = some o := fun b o z => (sb.2 b (fun y => by rw [y, hS0] at z; cases z)).trans (k1 b o z)
    refine wpAny_pure ⟨plainId_quiet F.plain_set_update_loop _, ih (done + 1) _ (by omega) lt (W.frame _ s1 _ _ st1 ht fun b hb o z => ?_) k2 iv2 fun s2 m2 iv3 k3 => fin s2 (Moved.trans W.gtrans ((m.mono wide).then_heap ht fun b o hb z => ?_) m2) iv3 k3⟩
    · rw [sb.2 b (fun y : b = S => hSf (by rw [← y]; exact hb))]
      exact z
    · rw [sb.2 b (fun y : b = S => hb (by rw [y]; exact List.mem_cons_self))]
      exact z

set_option maxHeartbeats 8000000 in
theorem call_set_list {l : Addr} {items : Array Value} {Iv : Nat → Heap → Prop} {Q : Value → Shared → Prop} (hh : A.handled = none) (hl : s.heap.IsList l items) (hu : A.units + 3 < cLine)
    (Fi : Fills P w s.heap.objs.size items.size (fun i v => items[i]? = some v) s.heap Iv) (first : ∀ h : Heap, h.get? s.heap.objs.size = some (freshSet w) → Iv 0 h)
    (fin : ∀ (h' : Heap) (tk : Nat), Iv items.size h' → (∀ b o, s.heap.get? b = some o → h'.get? b = some o) → Q (.ref s.heap.objs.size) { s with heap := h', toks := tk }) :
    wpAny (model P w) A (call (.type "set") [.ref l]) Q E s := by
  obtain ⟨c0, tl0, mro0⟩ := F.called_set.mro
  have mk0 := F.called_set.made
  have sb0 := F.called_set.sub
  have nt0 := F.called_set.notType
  have cc0 := F.called_set.canCreate
  have tc0 := F.typeCall_set_1 (.ref l)
  have gone : ∀ b, s.heap.objs.size ≤ b → s.heap.get? b = none := fun b hb => by
    cases z : s.heap.get? b with
    | none => rfl
    | some o => exact absurd (Nat.lt_of_lt_of_le (Heap.lt_size z) hb) (Nat.lt_irrefl _)
  refine wpAny_call (codeAny_of_tree ?_)
  show wpAny _ _ (callAny (.type "set") _) _ _ _
  refine wpAny_pure ⟨Code.quiet_builtin _ (by decide +kernel), codeAny_builtin F.entry_type_call ?_⟩
  rw [Around.under_plain (weight_type_call_type "set" [.ref l] []) rfl]
  repeat (any_goals (first | assumption | wp_step))
  refine codeAny_mono (code_set_led1 (.ref l) (E := E) (Q₁ := fun v t => v = .ref s.heap.objs.size ∧ t = { s with heap := s.heap.push (freshSet w) }) ⟨rfl, rfl⟩) fun r t hr => ?_
  match r, hr with
  | .error e, hr => exact hr
  | .ok .next, hr => exact hr.elim
  | .ok .brk, hr => exact hr.elim
  | .ok .cont, hr => exact hr.elim
  | .ok (.ret v), ⟨ev, et⟩ =>
    subst ev et
    have got : (s.heap.push (freshSet w)).get? s.heap.objs.size = some (freshSet w) := Heap.get?_push_size _ rfl
    have isT : Shared.TypeIs { s with heap := s.heap.push (freshSet w) } (.ref s.heap.objs.size) "set" := ⟨_, got, rfl⟩
    have li0 := F.called_set.init.lookup
    have bi0 := F.called_set.init.bind (.ref s.heap.objs.size)
    repeat (any_goals (first | assumption | wp_step))
    refine codeAny_mono (codeAny_call_builtin (R := wants (fun v t => v = .none ∧ ∃ h' tk, t = { s with heap := h', toks := tk } ∧ Iv items.size h' ∧ ∀ b o, s.heap.get? b = some o → h'.get? b = some o) E)
      F.called_set.init.plain F.entry_set_init (check_set_init_1 isT ?_)) fun r t hr => ?_
    · obtain ⟨ol, hol, hcl, nl, hdl⟩ := hl
      obtain ⟨oc, od, dat, sl⟩ := ol
      simp only at hcl hdl
      subst hcl
      subst hdl
      have hol' : (s.heap.push (freshSet w)).get? l = some { cls := .type "list", dict := od, data := .seq items nl, slots := sl } := Heap.get?_push_of_some _ hol
      have sub1 := F.sub_list_set
      have sub2 := F.sub_list_frozenset
      have nd1 : (Value.type "list" == Value.type "dict") = false := by decide
      have hl1 : (s.heap.push (freshSet w)).IsList l items := ⟨_, hol', rfl, nl, rfl⟩
      unfold Builtin.«set.__init__» noKeywords Builtin.Frozenset.updateFrom
      generalize hPI : pyIter = PI
      wp_walk
      subst hPI
      refine wpAny_pyIter_list hl1 ?_
      refine wpAny_bind (wpAny_runValue ?_)
      have lS : l < s.heap.objs.size := Heap.lt_size hol
      have hh3 : A.in1.in1.in1.handled = none := by simp [hh]
      have sz1 : (s.heap.push (freshSet w)).objs.size = s.heap.objs.size + 1 := Heap.size_push ..
      have ne1 : l ≠ (s.heap.push (freshSet w)).objs.size := by
        rw [sz1]
        exact Nat.ne_of_lt (Nat.lt_succ_of_lt lS)
      have out : s.heap.objs.size ∉ [(s.heap.push (freshSet w)).objs.size, l] := by
        rw [sz1]
        simp only [List.mem_cons, List.not_mem_nil, or_false, not_or]
        exact ⟨Nat.ne_of_lt (Nat.lt_succ_self _), Nat.ne_of_gt lS⟩
      refine fill_loop ((Walks.list hh3 _ l ne1 items).toS) Fi out (gone _ (Nat.le_refl _)) (fun b hb => gone b (by
          rw [List.mem_singleton.mp hb, sz1]
          exact Nat.le_succ _)) hu (items.size - 0) 0 _ (by omega) (Nat.zero_le _) ⟨⟨_, Heap.get?_push_size _ rfl, rfl, rfl⟩, (hl1.push _)⟩ (fun b o z => Heap.get?_push_of_some _ (Heap.get?_push_of_some _ z))
        (first _ (Heap.get?_push_of_some _ got)) (fun s2 m iv k => ?_)
      obtain ⟨h2, g2, d2, t2, os2⟩ := s2
      obtain rfl : g2 = s.gens := m.gens
      obtain rfl : d2 = s.drawn := m.drawn
      obtain rfl : os2 = s.os := m.os
      show wpAny _ _ _ _ _ _
      refine wpAny_pure ?_
      show wpAny _ _ (ret Value.none) _ _ _
      exact wpAny_pure ⟨rfl, h2, t2, rfl, iv, k⟩
    · match r, hr with
      | .error e, hr => exact hr
      | .ok .next, hr => exact hr.elim
      | .ok .brk, hr => exact hr.elim
      | .ok .cont, hr => exact hr.elim
      | .ok (.ret v), ⟨ev, h2, t2, et, iv, k⟩ =>
        subst ev et
        repeat (any_goals (first | assumption | wp_step))
        exact fin _ _ iv k

set_option maxHeartbeats 8000000 in
theorem call_set_tuple {l : Addr} {items : Array Value} {Iv : Nat → Heap → Prop} {Q : Value → Shared → Prop} (hh : A.handled = none) (hl : s.heap.IsTuple l items) (hu : A.units + 3 < cLine)
    (Fi : Fills P w s.heap.objs.size items.size (fun i v => items[i]? = some v) s.heap Iv) (first : ∀ h : Heap, h.get? s.heap.objs.size = some (freshSet w) → Iv 0 h)
    (fin : ∀ (h' : Heap) (tk : Nat), Iv items.size h' → (∀ b o, s.heap.get? b = some o → h'.get? b = some o) → Q (.ref s.heap.objs.size) { s with heap := h', toks := tk }) :
    wpAny (model P w) A (call (.type "set") [.ref l]) Q E s := by
  obtain ⟨c0, tl0, mro0⟩ := F.called_set.mro
  have mk0 := F.called_set.made
  have sb0 := F.called_set.sub
  have nt0 := F.called_set.notType
  have cc0 := F.called_set.canCreate
  have tc0 := F.typeCall_set_1 (.ref l)
  have gone : ∀ b, s.heap.objs.size ≤ b → s.heap.get? b = none := fun b hb => by
    cases z : s.heap.get? b with
    | none => rfl
    | some o => exact absurd (Nat.lt_of_lt_of_le (Heap.lt_size z) hb) (Nat.lt_irrefl _)
  refine wpAny_call (codeAny_of_tree ?_)
  show wpAny _ _ (callAny (.type "set") _) _ _ _
  refine wpAny_pure ⟨Code.quiet_builtin _ (by decide +kernel), codeAny_builtin F.entry_type_call ?_⟩
  rw [Around.under_plain (weight_type_call_type "set" [.ref l] []) rfl]
  repeat (any_goals (first | assumption | wp_step))
  refine codeAny_mono (code_set_led1 (.ref l) (E := E) (Q₁ := fun v t => v = .ref s.heap.objs.size ∧ t = { s with heap := s.heap.push (freshSet w) }) ⟨rfl, rfl⟩) fun r t hr => ?_
  match r, hr with
  | .error e, hr => exact hr
  | .ok .next, hr => exact hr.elim
  | .ok .brk, hr => exact hr.elim
  | .ok .cont, hr => exact hr.elim
  | .ok (.ret v), ⟨ev, et⟩ =>
    subst ev et
    have got : (s.heap.push (freshSet w)).get? s.heap.objs.size = some (freshSet w) := Heap.get?_push_size _ rfl
    have isT : Shared.TypeIs { s with heap := s.heap.push (freshSet w) } (.ref s.heap.objs.size) "set" := ⟨_, got, rfl⟩
    have li0 := F.called_set.init.lookup
    have bi0 := F.called_set.init.bind (.ref s.heap.objs.size)
    repeat (any_goals (first | assumption | wp_step))
    refine codeAny_mono (codeAny_call_builtin (R := wants (fun v t => v = .none ∧ ∃ h' tk, t = { s with heap := h', toks := tk } ∧ Iv items.size h' ∧ ∀ b o, s.heap.get? b = some o → h'.get? b = some o) E)
      F.called_set.init.plain F.entry_set_init (check_set_init_1 isT ?_)) fun r t hr => ?_
    · obtain ⟨ol, hol, hcl, nl, hdl⟩ := hl
      obtain ⟨oc, od, dat, sl⟩ := ol
      simp only at hcl hdl
      subst hcl
      subst hdl
      have hol' : (s.heap.push (freshSet w)).get? l = some { cls := .type "tuple", dict := od, data := .seq items nl, slots := sl } := Heap.get?_push_of_some _ hol
      have sub1 := F.sub_tuple_set
      have sub2 := F.sub_tuple_frozenset
      have nd1 : (Value.type "tuple" == Value.type "dict") = false := by decide
      have hl1 : (s.heap.push (freshSet w)).IsTuple l items := ⟨_, hol', rfl, nl, rfl⟩
      unfold Builtin.«set.__init__» noKeywords Builtin.Frozenset.updateFrom
      generalize hPI : pyIter = PI
      wp_walk
      subst hPI
      refine wpAny_pyIter_tuple hl1 ?_
      refine wpAny_bind (wpAny_runValue ?_)
      have lS : l < s.heap.objs.size := Heap.lt_size hol
      have hh3 : A.in1.in1.in1.handled = none := by simp [hh]
      have sz1 : (s.heap.push (freshSet w)).objs.size = s.heap.objs.size + 1 := Heap.size_push ..
      have ne1 : l ≠ (s.heap.push (freshSet w)).objs.size := by
        rw [sz1]
        exact Nat.ne_of_lt (Nat.lt_succ_of_lt lS)
      have out : s.heap.objs.size ∉ [(s.heap.push (freshSet w)).objs.size, l] := by
        rw [sz1]
        simp only [List.mem_cons, List.not_mem_nil, or_false, not_or]
        exact ⟨Nat.ne_of_lt (Nat.lt_succ_self _), Nat.ne_of_gt lS⟩
      refine fill_loop ((Walks.tuple hh3 _ l ne1 items).toS) Fi out (gone _ (Nat.le_refl _)) (fun b hb => gone b (by
          rw [List.mem_singleton.mp hb, sz1]
          exact Nat.le_succ _)) hu (items.size - 0) 0 _ (by omega) (Nat.zero_le _) ⟨⟨_, Heap.get?_push_size _ rfl, rfl, rfl⟩, (hl1.push _)⟩ (fun b o z => Heap.get?_push_of_some _ (Heap.get?_push_of_some _ z))
        (first _ (Heap.get?_push_of_some _ got)) (fun s2 m iv k => ?_)
      obtain ⟨h2, g2, d2, t2, os2⟩ := s2
      obtain rfl : g2 = s.gens := m.gens
      obtain rfl : d2 = s.drawn := m.drawn
      obtain rfl : os2 = s.os := m.os
      show wpAny _ _ _ _ _ _
      refine wpAny_pure ?_
      show wpAny _ _ (ret Value.none) _ _ _
      exact wpAny_pure ⟨rfl, h2, t2, rfl, iv, k⟩
    · match r, hr with
      | .error e, hr => exact hr
      | .ok .next, hr => exact hr.elim
      | .ok .brk, hr => exact hr.elim
      | .ok .cont, hr => exact hr.elim
      | .ok (.ret v), ⟨ev, h2, t2, et, iv, k⟩ =>
        subst ev et
        repeat (any_goals (first | assumption | wp_step))
        exact fin _ _ iv k
end
end ShT

set_option Elab.async false
set_option linter.all false
set_option maxRecDepth 100000
set_option maxHeartbeats 4000000
/-! unlike texts, unlike tuples of texts, into a set -/
namespace ShT
open PySem PySem.Spec PyProof.Rows L2
section
variable {P : Program} {w : World} {A : Around} {E : Value → Shared → Prop} {s : Shared}
/-! ### texts -/
/-- the set at S has the first i of the texts -/
def TxtIn (P : Program) (w : World) (S : Addr) (xs : List Str) (i : Nat) (h : Heap) : Prop := h.SetOf (PySem.strKind P w) S (fun k => decide (k ∈ xs.take i)) i
theorem setOf_turn {κ : Type} [DecidableEq κ] {knd : KeyKind P w κ} {h : Heap} {a : Addr} {S T : κ → Bool} {n m : Nat} (x : h.SetOf knd a S n) (e : ∀ k, T k = S k) (hn : n = m) : h.SetOf knd a T m := by
  obtain ⟨o, es, ep, t, h1, h2, h3, h4, h5, h6⟩ := x
  subst hn
  exact ⟨o, es, ep, t, h1, h2, h3, h4, fun k => by rw [e k]; exact h5 k, h6⟩
theorem not_ahead {α : Type} [DecidableEq α] {xs : List α} (nd : xs.Nodup) {i : Nat} {x : α} (h : xs[i]? = some x) : x ∉ xs.take i := fun hm => by
  obtain ⟨j, hj⟩ := List.mem_iff_getElem?.mp hm
  rw [List.getElem?_take] at hj
  by_cases c : j < i
  · rw [if_pos c] at hj
    obtain ⟨l1, e1⟩ := List.getElem?_eq_some_iff.mp hj
    obtain ⟨l2, e2⟩ := List.getElem?_eq_some_iff.mp h
    have := (List.getElem_inj nd).mp (e1.trans e2.symm)
    omega
  · rw [if_neg c] at hj
    cases hj
theorem txt_fills {S : Addr} {xs : List Str} {items : Array Value} {h0 : Heap} (hx : ∀ (i : Nat) (v : Value), items[i]? = some v → ∃ x t, xs[i]? = some x ∧ v = .str x t) (nd : xs.Nodup) (hb : xs.length < 4000) (hn : items.size = xs.length) :
    Fills P w S items.size (fun i v => items[i]? = some v) h0 (TxtIn P w S xs) where
  keep := fun i h h' ⟨o, es, ep, t, h1, r⟩ k => ⟨o, es, ep, t, k o h1, r⟩
  step := fun i v A E s hu hi hv iv _ Q q => by
    obtain ⟨x, t, ex, rfl⟩ := hx i v hv
    have fresh : decide (x ∈ xs.take i) = false := decide_eq_false (not_ahead nd ex)
    unfold setAdd
    refine wpAny_holding (wpAny_bind ((PySem.strKind P w).pyHash (k := x) (strKind_is _ _ _ _) ?_))
    refine wpAny_setAddHashed_of (knd := PySem.strKind P w) (s := { s with toks := s.toks + 1 }) (strKind_is _ _ _ _) rfl iv (by unfold scanBound; omega) fun h' sb r => ?_
    refine q _ h' (s.toks + 1) sb (Nat.le_succ _) (setOf_turn r (fun k => ?_) ?_)
    · show decide (k ∈ xs.take (i + 1)) = (decide (k ∈ xs.take i) || decide (k = x))
      rw [List.take_add_one, ex]
      simp [List.mem_append]
    · show (if decide (x ∈ xs.take i) = true then i else i + 1) = i + 1
      rw [fresh]
      rfl
theorem txt_first {S : Addr} {xs : List Str} (h : Heap) (e : h.get? S = some (freshSet w)) : TxtIn P w S xs 0 h :=
  ⟨_, #[], 0, _, e, ⟨rfl, rfl, rfl⟩, rfl, fun e he => by simp at he, fun k => by simp, by decide, by rfl, rfl⟩

/-! ### tuples of texts -/
abbrev TupS (P : Program) (w : World) (h : Heap) (k : List Str) (a : Addr) : Prop := IsTupleKey (PySem.strKind P w) h k a
abbrev hashT (P : Program) (w : World) (k : List Str) : Int := tupleKeyHash (PySem.strKind P w) k
theorem texts_of {k : List Str} {vs : List Value} (h : ItemsAre (PySem.strKind P w) k vs) : ∀ v ∈ vs, ∃ x t, v = Value.str x t := by
  induction h with
  | nil => exact fun v hv => absurd hv (by simp)
  | @cons x v' ks vs h1 _ ih =>
    intro v hv
    rcases List.mem_cons.mp hv with rfl | hv
    · obtain ⟨t, e⟩ := Value.isStrOf_shape h1
      exact ⟨x, t, e⟩
    · exact ih v hv
/-- a question asked of each text in turn that is answered so that the loop goes on -/
theorem ask_each {body : Value → Option Bool × PUnit → Sem (ForInStep (Option Bool × PUnit))} {vs : List Value} (ht : ∀ v ∈ vs, ∃ x t, v = Value.str x t)
    (one : ∀ x t (Q : ForInStep (Option Bool × PUnit) → Shared → Prop), Q (.yield (none, ⟨⟩)) s → wpAny (model P w) A (body (.str x t) (none, ⟨⟩)) Q E s) {Q : Option Bool × PUnit → Shared → Prop} (h : Q (none, ⟨⟩) s) :
    wpAny (model P w) A (forIn vs (none, ⟨⟩) body) Q E s := by
  refine wpAny_forIn_list _ (fun rest r s' => r = (none, ⟨⟩) ∧ s' = s ∧ ∀ v ∈ rest, ∃ x t, v = Value.str x t) _ ?_ ?_ _ _ ⟨rfl, rfl, ht⟩
  · rintro v rest r s' ⟨rfl, rfl, all⟩
    obtain ⟨x, t, rfl⟩ := all v List.mem_cons_self
    exact one x t _ ⟨rfl, rfl, fun u hu => all u (List.mem_cons_of_mem _ hu)⟩
  · rintro r s' ⟨rfl, rfl, _⟩
    exact h
theorem noClass_txt (n : Nat) (x : Str) (t : Tok) : ofAClassStatement n (.str x t) = pure false := by cases n <;> rfl
theorem notPlain_txt (n : Nat) (x : Str) (t : Tok) : hashByValue n (.str x t) = pure false := by cases n <;> rfl
theorem noClass_tup {k : List Str} {b : Addr} {Q : Bool → Shared → Prop} (hk : TupS P w s.heap k b) (h : Q false s) : wpAny (model P w) A (ofAClassStatement 8 (.ref b)) Q E s := by
  have ty := hk.typeIs
  obtain ⟨o, items, n, ho, _, hd, hi⟩ := hk
  unfold ofAClassStatement
  refine wpAny_bind (wpAny_typeOf ty ?_)
  dsimp only
  simp only [show (("tuple" : String) == "tuple") = true by decide, if_true]
  try refine wpAny_bind (wpAny_pure ?_)
  simp only [Bool.not_true, Bool.false_eq_true, if_false]
  try refine wpAny_bind (wpAny_pure ?_)
  refine wpAny_bind (wpAny_seqItems ho hd ?_)
  dsimp only
  rw [← Array.forIn_toList]
  refine wpAny_bind (ask_each (texts_of hi) (fun x t Q' q => ?_) ?_)
  · rw [noClass_txt]
    refine wpAny_bind (wpAny_pure ?_)
    simp only [Bool.false_eq_true, if_false]
    exact wpAny_pure q
  · exact wpAny_pure h
theorem byValue_tup {k : List Str} {b : Addr} {Q : Bool → Shared → Prop} (hk : TupS P w s.heap k b) (h : ∀ c, Q c s) : wpAny (model P w) A (hashByValue 8 (.ref b)) Q E s := by
  have ty := hk.typeIs
  obtain ⟨o, items, n, ho, _, hd, hi⟩ := hk
  unfold hashByValue
  refine wpAny_bind (wpAny_specialOf ty PySem.F.slot_tuple_hash.lookup ?_)
  show wpAny _ _ (seqItems? (.ref b) >>= _) _ _ s
  refine wpAny_bind (wpAny_seqItems ho hd ?_)
  rw [← Array.forIn_toList]
  refine wpAny_bind (wpAny_forIn_list _ (fun rest (r : Option Bool × PUnit) s' => s' = s ∧ ∀ v ∈ rest, ∃ x t, v = Value.str x t) _ ?_ ?_ _ _ ⟨rfl, texts_of hi⟩)
  · rintro v rest r s' ⟨rfl, all⟩
    obtain ⟨x, t, rfl⟩ := all v List.mem_cons_self
    rw [notPlain_txt]
    refine wpAny_bind (wpAny_pure ?_)
    simp only [Bool.not_false, if_true]
    exact wpAny_pure (wpAny_pure (h false))
  · rintro ⟨r1, r2⟩ s' ⟨rfl, _⟩
    cases r1 with
    | none => exact wpAny_pure (h true)
    | some c => exact wpAny_pure (h c)
/-- a search among such tuples shows nothing -/
theorem unseen {k : List Str} {b : Addr} {ys : List Value} {Q : Bool → Shared → Prop} (hk : TupS P w s.heap k b) (hy : ∀ y ∈ ys, ∃ k' c, y = Value.ref c ∧ TupS P w s.heap k' c) (h : Q false s) : wpAny (model P w) A (searchCouldBeSeen (.ref b) ys) Q E s := by
  unfold searchCouldBeSeen
  refine wpAny_bind (wpAny_forIn_list _ (fun rest r s' => r = (none, ⟨⟩) ∧ s' = s ∧ ∀ y ∈ rest, ∃ k' c, y = Value.ref c ∧ TupS P w s.heap k' c) _ ?_ ?_ _ _ ⟨rfl, rfl, hy⟩)
  · rintro y rest r s' ⟨rfl, rfl, all⟩
    obtain ⟨k', c, rfl, hc⟩ := all y List.mem_cons_self
    have next : ∀ y ∈ rest, ∃ k' c, y = Value.ref c ∧ TupS P w s'.heap k' c := fun u hu => all u (List.mem_cons_of_mem _ hu)
    dsimp only
    by_cases e : (b == c || (carriedByValue (.ref b) && carriedByValue (.ref c))) = true
    · exact wp_if_pos e (wpAny_pure ⟨rfl, rfl, next⟩)
    · refine wp_if_neg e (wpAny_bind (wpAny_eqIsQuiet_tuple hk ?_))
      simp only [Bool.not_true, Bool.false_eq_true, if_false]
      refine wpAny_bind (wpAny_eqIsQuiet_tuple hc ?_)
      simp only [Bool.not_true, Bool.false_eq_true, if_false]
      refine wpAny_bind (noClass_tup hk ?_)
      simp only [Bool.false_eq_true, if_false]
      refine wpAny_bind (noClass_tup hc ?_)
      simp only [Bool.false_eq_true, if_false]
      exact wpAny_pure ⟨rfl, rfl, next⟩
  · rintro r s' ⟨rfl, rfl, _⟩
    exact wpAny_pure h
end
end ShT

set_option Elab.async false
set_option linter.all false
set_option maxRecDepth 100000
set_option maxHeartbeats 4000000
namespace ShT
open PySem PySem.Spec PyProof.Rows L2
section
variable {P : Program} {w : World} {A : Around} {E : Value → Shared → Prop} {s : Shared}
abbrev rowT (P : Program) (w : World) (p : Addr × List Str) : Int × Value := (hashT P w p.2, Value.ref p.1)
/-- the set at a has the tuples L, in the order of its table -/
structure TabAt (P : Program) (w : World) (h : Heap) (a : Addr) (L : List (Addr × List Str)) (es : Array (Int × Value)) (ep : Nat) (t : SetTable) : Prop where
  ob : ∃ o, h.get? a = some o ∧ o.ExactSet ∧ o.data = .set es ep t
  rows : es.toList = L.map (rowT P w)
  tab : TabOk t (L.map fun p => hashT P w p.2)
  led : w.params.followText "set-order" = true ∨ t.led = true
  room : L.length * 5 < t.mask * 3
  few : L.length < 64
variable {a : Addr} {L : List (Addr × List Str)} {es : Array (Int × Value)} {ep : Nat} {t : SetTable}
theorem rows_size (h : es.toList = L.map (rowT P w)) : es.size = L.length := by
  have e := congrArg List.length h
  rwa [Array.length_toList, List.length_map] at e
theorem row_at (h : es.toList = L.map (rowT P w)) {i : Nat} {p : Addr × List Str} (hp : L[i]? = some p) : es[i]? = some (rowT P w p) := by
  rw [← Array.getElem?_toList, h, List.getElem?_map, hp]
  rfl
theorem TabAt.fits (R : TabAt P w s.heap a L es ep t) : t.fits es.size = true := by
  have z := R.tab.sz
  rw [List.length_map] at z
  have y := rows_size R.rows
  have r := R.room
  unfold SetTable.fits SetTable.fill
  rw [R.tab.dm, Bool.and_eq_true, beq_iff_eq, decide_eq_true_eq]
  refine ⟨by omega, ?_⟩
  show t.place.size + 0 ≤ t.mask
  omega
theorem no_dummy (m : Nat) : ∀ (n : Nat) (p : SetTable.Probe), p.dummy = none → (nth m p n).dummy = none
  | 0, _, h => h
  | n + 1, p, h => no_dummy m n (adv m p) (by
      unfold adv
      split <;> exact h)
/-- where the way of a hash stands behind c steps -/
abbrev wayAt (m : Nat) (h : Int) (c : Nat) : SetTable.Probe := nth m (runAt m (SetTable.bits h % (m + 1)) (SetTable.bits h)) c
theorem wayAt_add (m : Nat) (h : Int) (c q : Nat) : nth m (wayAt m h c) q = wayAt m h (c + q) := (nth_add m c _ q).symm
/-- the table doesn't give way -/
theorem stands (R : TabAt P w s.heap a L es ep t) : ¬ t.gaveWay = true := by
  unfold SetTable.gaveWay
  rw [mask_odd R.tab.mok]
  decide
/-- a search for what is not there comes to the first empty slot of its way -/
theorem search_new (R : TabAt P w s.heap a L es ep t) (tup : ∀ p ∈ L, TupS P w s.heap p.2 p.1) {x : Addr} {k : List Str} (hx : TupS P w s.heap k x) (hu : A.units < cLine) (new : ∀ p ∈ L, p.2 ≠ k) {K : Nat} (hKf : K < 10 * SetTable.turns t.mask)
    (hK : (wayAt t.mask (hashT P w k) K).j ∉ t.place.toList) (hKb : ∀ c, c < K → (wayAt t.mask (hashT P w k) c).j ∈ t.place.toList) {Q : SetFound → Shared → Prop} (q : Q (.free (wayAt t.mask (hashT P w k) K).j false) s) :
    ∀ (f c : Nat) (stand : Option SetTable.Probe), stand.getD (t.probeStart (hashT P w k)) = wayAt t.mask (hashT P w k) c → c ≤ K → K - c < f → wpAny (model P w) A (setSearchFrom a (.ref x) (hashT P w k) true f stand) Q E s
  | 0, c, _, _, _, hf => absurd hf (Nat.not_lt_zero _)
  | f + 1, c, stand, hst, hc, hf => by
    obtain ⟨o, ho, hex, hd⟩ := R.ob
    rw [setSearchFrom_succ]
    refine wpAny_bind (wpAny_setState_of ho hd R.fits ?_)
    dsimp only
    refine wp_if_neg (stands R) ?_
    try refine wpAny_bind (wpAny_pure ?_)
    have told := go_spec t R.tab.ris R.tab.dm (fun i => (es[i]?.map (·.1)).getD 0) (hashT P w k) (10 * SetTable.turns t.mask) (K - c) (wayAt t.mask (hashT P w k) c) (no_dummy t.mask c _ rfl) (by omega)
      (fun n hn => by rw [wayAt_add]; exact hKb (c + n) (by omega)) (by rw [wayAt_add, show c + (K - c) = K by omega]; exact hK)
    have prb : t.probe (fun i => (es[i]?.map (·.1)).getD 0) (hashT P w k) (stand.getD (t.probeStart (hashT P w k))) = SetTable.probe.go t (fun i => (es[i]?.map (·.1)).getD 0) (hashT P w k) (10 * SetTable.turns t.mask) (wayAt t.mask (hashT P w k) c) := by
      rw [hst]
      rfl
    rcases told with ⟨n, i, hn, hi, _, _, hgo⟩ | ⟨_, hgo⟩
    · -- one of the same hash: it is another
      rw [wayAt_add] at hi
      rw [prb, hgo, wayAt_add, wayAt_add]
      dsimp only
      have hil : i < L.length := by
        have l1 := (List.getElem?_eq_some_iff.mp hi).1
        have l2 := R.tab.sz
        rw [List.length_map] at l2
        rw [Array.length_toList] at l1
        omega
      have hp : L[i]? = some L[i] := List.getElem?_eq_getElem hil
      generalize L[i] = p at hp
      have hm : p ∈ L := List.mem_of_getElem? hp
      have ne := new p hm
      have go : wpAny (model P w) A (searchRest a (.ref x) (hashT P w k) true f es t (wayAt t.mask (hashT P w k) (c + n)).j i (wayAt t.mask (hashT P w k) (c + (n + 1)))) Q E s := by
        unfold searchRest
        rw [row_at R.rows hp]
        dsimp only
        refine wpAny_bind (wpAny_holding (wpAny_eqBool_tuple hu (tup p hm) hx ?_))
        rw [decide_eq_false ne]
        refine wpAny_bind (wpAny_setState_of ho hd R.fits ?_)
        dsimp only
        refine wp_if_neg (by simp) ?_
        try refine wpAny_bind (wpAny_pure ?_)
        rw [sameMem]
        dsimp only
        simp only [if_true, slot_live R.tab.ris hi, row_at R.rows hp]
        refine wpAny_bind (wpAny_isSame_ref_self (wpAny_bind (wpAny_pure ?_)))
        simp only [if_true]
        refine wp_if_neg (by simp) ?_
        exact search_new R tup hx hu new hKf hK hKb q f (c + (n + 1)) _ rfl (by omega) (by omega)
      by_cases hl : t.led = true
      · refine wp_if_neg (by simp [hl]) ?_
        try refine wpAny_bind (wpAny_pure ?_)
        exact go
      · refine wp_if_pos (by simp [hl]) ?_
        refine wpAny_bind (unseen hx (fun y hy => ?_) ?_)
        · obtain ⟨e, he, ee⟩ := List.mem_map.mp hy
          have e1 : e ∈ es ∧ e.1 = hashT P w k := by simpa using he
          have e2 : e ∈ es.toList := by simpa using e1.1
          rw [R.rows] at e2
          obtain ⟨p2, hp2, e3⟩ := List.mem_map.mp e2
          exact ⟨p2.2, p2.1, by rw [← ee, ← e3], tup p2 hp2⟩
        · refine wp_if_neg (by decide) ?_
          try refine wpAny_bind (wpAny_pure ?_)
          exact go
    · -- the empty slot
      rw [wayAt_add, show c + (K - c) = K by omega] at hgo
      rw [prb, hgo]
      dsimp only
      exact wpAny_pure q

/-! ### a new one is laid -/
theorem pick_take {α : Type} (L : List α) : ∀ n, n ≤ L.length → (List.range n).filterMap (fun i => L[i]?) = L.take n
  | 0, _ => rfl
  | n + 1, h => by
    have e := List.getElem?_eq_getElem (show n < L.length from h)
    rw [List.range_succ, List.filterMap_append, pick_take L n (Nat.le_of_lt h), List.take_add_one, List.filterMap_cons_some e, e]
    rfl
theorem pick_perm {α : Type} {L : List α} {l : List Nat} (h : l.Perm (List.range L.length)) : (l.filterMap fun i => L[i]?).Perm L := by
  have z := h.filterMap (fun i => L[i]?)
  rwa [pick_take L _ (Nat.le_refl _), List.take_length] at z
theorem pick_map {α β : Type} (f : α → β) (L : List α) : ∀ l : List Nat, l.filterMap (fun i => (L.map f)[i]?) = (l.filterMap fun i => L[i]?).map f
  | [] => rfl
  | i :: l => by
    rw [List.filterMap_cons, List.filterMap_cons, pick_map f L l, List.getElem?_map]
    cases L[i]? <;> rfl
theorem pick_hash {L : List (Addr × List Str)} (hr : es.toList = L.map (rowT P w)) : ∀ l : List Nat, (∀ i ∈ l, i < L.length) → ((l.filterMap fun i => L[i]?).map fun p => hashT P w p.2) = l.map fun i => (es.map (·.1)).getD i 0
  | [], _ => rfl
  | i :: l, h => by
    have e := List.getElem?_eq_getElem (h i List.mem_cons_self)
    have e2 : (es.map (·.1))[i]? = some (hashT P w (L[i]'(h i List.mem_cons_self)).2) := by rw [Array.getElem?_map, row_at hr e] <;> rfl
    rw [List.filterMap_cons_some e, List.map_cons, List.map_cons, pick_hash hr l fun j hj => h j (List.mem_cons_of_mem _ hj), Array.getD_eq_getD_getElem?, e2]
    rfl
/-- the table laid anew in a larger one -/
theorem relay_new {o : Obj} (ho : s.heap.get? a = some o) (hex : o.ExactSet) (hd : o.data = .set es ep t) (hr : es.toList = L.map (rowT P w)) (T : TabOk t (L.map fun p => hashT P w p.2)) (hfl : L.length ≤ t.mask) (ld : w.params.followText "set-order" = true ∨ t.led = true) (few : L.length < 64)
    {wanted M : Nat} (hw : SetTable.sizeAbove wanted - 1 = M) (hM : MaskOk M) (hw2 : SetTable.sizeAbove wanted ≤ 128) (hn : L.length * 5 < M * 3) {Q : Unit → Shared → Prop}
    (q : ∀ h' L' es' ep' t', Heap.SameBut a s.heap h' → TabAt P w h' a L' es' ep' t' → L'.Perm L → Q () { s with heap := h' }) : wpAny (model P w) A (setRelay a wanted) Q E s := by
  have hz := rows_size hr
  have hsz := T.sz
  rw [List.length_map] at hsz
  have fit : t.fits es.size = true := by
    unfold SetTable.fits SetTable.fill
    rw [T.dm, Bool.and_eq_true, beq_iff_eq, decide_eq_true_eq]
    refine ⟨by omega, ?_⟩
    show t.place.size + 0 ≤ t.mask
    omega
  obtain ⟨t', order, e, hp, T', em, el, _, ed⟩ := relaid_ok t (hs := es.map (·.1)) (wanted := wanted) hw hM (by rw [Array.size_map, hz]; omega)
  rw [Array.size_map, hz] at hp
  have inr : ∀ i ∈ order.toList, i < L.length := fun i hi => List.mem_range.mp (hp.mem_iff.mp hi)
  rw [← pick_hash hr order.toList inr] at T'
  have rows' : (order.filterMap (es[·]?)).toList = (order.toList.filterMap fun i => L[i]?).map (rowT P w) := by
    rw [← pick_map, ← hr, Array.toList_filterMap]
    exact congrArg (fun f => List.filterMap f order.toList) (funext fun i => Array.getElem?_toList.symm)
  have pm := pick_perm hp
  generalize order.toList.filterMap (fun i => L[i]?) = L2 at T' rows' pm
  have sz2 : (order.filterMap (es[·]?)).size = es.size := by rw [rows_size rows', pm.length_eq, hz]
  rw [setRelay_eq]
  refine wpAny_bind (wpAny_setState_of ho hd fit ?_)
  dsimp only
  refine wp_if_neg (by rw [sizeLine_eq]; omega) ?_
  try refine wpAny_bind (wpAny_pure ?_)
  rw [e]
  dsimp only
  refine wpAny_bind ?_
  refine wp_if_neg (by rw [sz2]; simp) ?_
  try refine wpAny_bind (wpAny_pure ?_)
  refine wpAny_pure ?_
  dsimp only
  refine wpAny_storeSet_of ho hd ?_ (by rw [sz2, hz, sizeLine_eq]; omega)
  have sb : Heap.SameBut a s.heap (s.heap.update a (Obj.putSet (order.filterMap (es[·]?)) t')) := Heap.SameBut.update ..
  exact q _ L2 _ (ep + 1) t' sb ⟨⟨_, store_at ho hd, ⟨hex.1, hex.2.1, hex.2.2⟩, rfl⟩, rows', T', by rw [el]; exact ld, by rw [pm.length_eq, em]; exact hn, by rw [pm.length_eq]; exact few⟩ pm
/-- one more tuple that is none of the set's -/
theorem add_new (R : TabAt P w s.heap a L es ep t) (tup : ∀ p ∈ L, TupS P w s.heap p.2 p.1) {x : Addr} {k : List Str} (hx : TupS P w s.heap k x) (hu : A.units < cLine) (new : ∀ p ∈ L, p.2 ≠ k) (few : L.length + 1 < 64) {Q : Bool → Shared → Prop}
    (q : ∀ h' L' es' ep' t', Heap.SameBut a s.heap h' → TabAt P w h' a L' es' ep' t' → L'.Perm ((x, k) :: L) → Q true { s with heap := h' }) : wpAny (model P w) A (setAddHashed a (.ref x) (hashT P w k)) Q E s := by
  obtain ⟨o, ho, hex, hd⟩ := R.ob
  have hz := rows_size R.rows
  have room := R.room
  obtain ⟨K, hKf, hK, hKb⟩ := R.tab.first (by rw [List.length_map]; omega) (hashT P w k)
  have hK1 : K < 100000 := by
    have : 10 * SetTable.turns t.mask ≤ 1420 := by
      unfold SetTable.turns
      rcases R.tab.mok with e | e | e <;> omega
    omega
  unfold setAddHashed
  refine wpAny_holding ?_
  rw [show (100000 : Nat) = 99999 + 1 from rfl, setAddHashedIn_succ]
  refine wpAny_bind (wpAny_setState_of ho hd R.fits ?_)
  dsimp only
  refine wp_if_neg (by simp [byScan, Value.scannable]) ?_
  try refine wpAny_bind (wpAny_pure ?_)
  refine wpAny_bind ?_
  unfold setSearch
  refine search_new R tup hx hu new hKf hK hKb ?_ 100000 0 none rfl (Nat.zero_le _) (by omega)
  dsimp only
  refine wpAny_bind (wpAny_setState_of ho hd R.fits ?_)
  dsimp only
  obtain ⟨q1, q2, q3, q4, q5, _, _, _, q9⟩ := R.tab.put hK hKb
  generalize hpt : t.put (wayAt t.mask (hashT P w k) K).j = pt at q1 q3 q4 q5 q9 ⊢
  obtain ⟨t1, p⟩ := pt
  dsimp only at q1 q3 q4 q5 q9 ⊢
  subst q1
  generalize SetTable.below t.place (wayAt t.mask (hashT P w k) K).j = p at q2 q3 ⊢
  have pm := put_perm L p (x, k)
  have hlen : (L.take p ++ (x, k) :: L.drop p).length = L.length + 1 := pm.length_eq
  have rows1 : (SetTable.insertAt es p (hashT P w k, Value.ref x)).toList = (L.take p ++ (x, k) :: L.drop p).map (rowT P w) := by
    rw [SetTable.toList_insertAt, R.rows, List.map_append, List.map_cons, List.map_take, List.map_drop]
  have hs1 : (L.map fun p => hashT P w p.2).take p ++ hashT P w k :: (L.map fun p => hashT P w p.2).drop p = (L.take p ++ (x, k) :: L.drop p).map fun p => hashT P w p.2 := by
    rw [List.map_append, List.map_cons, List.map_take, List.map_drop]
  rw [hs1] at q3
  rw [hz]
  generalize SetTable.insertAt es p (hashT P w k, Value.ref x) = es1 at rows1 ⊢
  generalize L.take p ++ (x, k) :: L.drop p = L1 at pm hlen q3 rows1
  have hz1 := rows_size rows1
  -- whether the table stays plain is of no matter
  have rest : ∀ t2 : SetTable, TabOk t2 (L1.map fun p => hashT P w p.2) → t2.mask = t.mask → t2.led = t.led → t2.fill = L.length + 1 → wpAny (model P w) A (do
      storeSet a es1 t2
      if (!false && t2.tooFull) = true then setRelay a (SetTable.grown (L.length + 1))
      return true) Q E s := fun t2 T2 m2 l2 f2 => by
    refine wpAny_bind (wpAny_storeSet_of ho hd ?_ (by rw [hz1, hlen, sizeLine_eq]; omega))
    have sb : Heap.SameBut a s.heap (s.heap.update a (Obj.putSet es1 t2)) := Heap.SameBut.update ..
    have ho1 := store_at (es' := es1) (t' := t2) ho hd
    generalize s.heap.update a (Obj.putSet es1 t2) = h1 at sb ho1 ⊢
    have ld : w.params.followText "set-order" = true ∨ t2.led = true := by rw [l2]; exact R.led
    by_cases hf : t2.tooFull = true
    · have full := hf
      unfold SetTable.tooFull at full
      rw [decide_eq_true_eq, f2, m2] at full
      have two : (t.mask = 7 ∧ L.length = 4) ∨ (t.mask = 31 ∧ L.length = 18) := by
        rcases R.tab.mok with e | e | e
        · left; rw [e] at full room; exact ⟨e, by omega⟩
        · right; rw [e] at full room; exact ⟨e, by omega⟩
        · exfalso; rw [e] at full; omega
      first
        | (refine wpAny_bind ?_; refine wp_if_pos (by simp [hf]) ?_)
        | (refine wp_if_pos (by simp [hf]) ?_; refine wpAny_bind ?_)
      have go : ∀ M, SetTable.sizeAbove (SetTable.grown (L.length + 1)) - 1 = M → MaskOk M → SetTable.sizeAbove (SetTable.grown (L.length + 1)) ≤ 128 → (L.length + 1) * 5 < M * 3 →
          wpAny (model P w) A (setRelay a (SetTable.grown (L.length + 1))) (fun _ s' => wpAny (model P w) A (pure true) Q E s') E { s with heap := h1 } := fun M a1 a2 a3 a4 =>
        relay_new (s := { s with heap := h1 }) ho1 ⟨hex.1, hex.2.1, hex.2.2⟩ rfl rows1 T2 (by rw [m2, hlen]; rcases two with ⟨e, e2⟩ | ⟨e, e2⟩ <;> omega) ld (by rw [hlen]; exact few) a1 a2 a3 (by rw [hlen]; exact a4)
          fun h2 L2 es2 ep2 t3 sb2 R2 pm2 => wpAny_pure (q h2 L2 es2 ep2 t3 (sb.trans sb2) R2 (pm2.trans pm))
      rcases two with ⟨_, e2⟩ | ⟨_, e2⟩
      · exact go 31 (by rw [e2, size_20]) (.inr (.inl rfl)) (by rw [e2, size_20]; decide) (by omega)
      · exact go 127 (by rw [e2, size_76]) (.inr (.inr rfl)) (by rw [e2, size_76]; decide) (by omega)
    · have free := hf
      unfold SetTable.tooFull at free
      rw [decide_eq_true_eq, f2, m2] at free
      first
        | refine wp_if_neg (by simp [hf]) ?_
        | (refine wpAny_bind ?_; refine wp_if_neg (by simp [hf]) ?_; refine wpAny_pure ?_)
      exact wpAny_pure (q h1 L1 es1 (ep + 1) t2 sb ⟨⟨_, ho1, ⟨hex.1, hex.2.1, hex.2.2⟩, rfl⟩, rows1, T2, ld, by rw [hlen, m2]; omega, by rw [hlen]; exact few⟩ pm)
  have off : TabOk { t1 with plain := false } (L1.map fun p => hashT P w p.2) := ⟨q3.ris, q3.dm, q3.sz, q3.mok, q3.bd, q3.reach⟩
  have fill1 : t1.fill = L.length + 1 := by rw [q9, List.length_map]
  have both : ∀ c : Bool, wpAny (model P w) A (do
      storeSet a es1 (if c = true then t1 else { t1 with plain := false })
      if (!false && (if c = true then t1 else { t1 with plain := false }).tooFull) = true then setRelay a (SetTable.grown (L.length + 1))
      return true) Q E s := fun c => by
    cases c with
    | true => exact rest t1 q3 q4 q5 fill1
    | false => exact rest { t1 with plain := false } off q4 q5 fill1
  by_cases hpl : t1.plain = true
  · first
      | (refine wpAny_bind ?_; refine wp_if_pos hpl ?_; exact byValue_tup hx fun c => both c)
      | (refine wp_if_pos hpl ?_; refine wpAny_bind (byValue_tup hx fun c => ?_); exact both c)
  · first
      | (refine wpAny_bind ?_; refine wp_if_neg hpl ?_; exact wpAny_pure (both true))
      | (refine wp_if_neg hpl ?_; exact both true)
end
end ShT

set_option Elab.async false
set_option linter.all false
set_option maxRecDepth 100000
set_option maxHeartbeats 4000000
namespace ShT
open PySem PySem.Spec PyProof.Rows L2
section
variable {P : Program} {w : World}
/-- the set at S has the first i of the tuples -/
def TupIn (P : Program) (w : World) (S : Addr) (ks : List (Addr × List Str)) (i : Nat) (h : Heap) : Prop := ∃ L es ep t, TabAt P w h S L es ep t ∧ L.Perm (ks.take i)
theorem tup_kept {h h' : Heap} {k : List Str} {b : Addr} (x : TupS P w h k b) (e : ∀ c o, h.get? c = some o → h'.get? c = some o) : TupS P w h' k b := let ⟨o, items, n, h1, r⟩ := x; ⟨o, items, n, e b o h1, r⟩
theorem tup_fills {S : Addr} {ks : List (Addr × List Str)} {items : Array Value} {h0 : Heap} (hx : ∀ (i : Nat) (v : Value), items[i]? = some v → ∃ p, ks[i]? = some p ∧ v = .ref p.1) (nd : (ks.map (·.2)).Nodup) (few : ks.length < 63)
    (hk : ∀ p ∈ ks, TupS P w h0 p.2 p.1) : Fills P w S items.size (fun i v => items[i]? = some v) h0 (TupIn P w S ks) where
  keep := fun i h h' ⟨L, es, ep, t, ⟨⟨o, h1, r⟩, b1, b2, b3, b4, b5⟩, pm⟩ k => ⟨L, es, ep, t, ⟨⟨o, k o h1, r⟩, b1, b2, b3, b4, b5⟩, pm⟩
  step := fun i v A E s hu hi hv ⟨L, es, ep, t, R, pm⟩ k0 Q q => by
    obtain ⟨p, eat, rfl⟩ := hx i v hv
    have lt := (List.getElem?_eq_some_iff.mp eat).1
    have sub : ∀ r ∈ L, r ∈ ks := fun r hr => List.mem_of_mem_take (pm.mem_iff.mp hr)
    have old : ∀ r ∈ L, TupS P w s.heap r.2 r.1 := fun r hr => tup_kept (hk r (sub r hr)) k0
    have mine : TupS P w s.heap p.2 p.1 := tup_kept (hk p (List.mem_of_getElem? eat)) k0
    have new : ∀ r ∈ L, r.2 ≠ p.2 := fun r hr e => by
      have e2 : (ks.map (·.2))[i]? = some p.2 := by rw [List.getElem?_map, eat] <;> rfl
      refine not_ahead nd e2 ?_
      rw [← List.map_take, ← e]
      exact List.mem_map.mpr ⟨r, pm.mem_iff.mp hr, rfl⟩
    have hl : L.length ≤ i := by
      rw [pm.length_eq, List.length_take]
      omega
    unfold setAdd
    refine wpAny_holding (wpAny_bind (wpAny_pyHash_tuple hu mine ?_))
    refine add_new (s := { s with toks := s.toks + (p.2.length + 1) }) R old mine hu new (by omega) fun h' L' es' ep' t' sb R' pm' => ?_
    refine q _ h' _ sb (Nat.le_add_right _ _) ⟨L', es', ep', t', R', ?_⟩
    have e3 : ks.take (i + 1) = ks.take i ++ [p] := by
      rw [List.take_add_one, eat]
      rfl
    rw [e3]
    exact (pm'.trans (pm.cons p)).trans (List.perm_append_singleton p _).symm
theorem tup_first {S : Addr} {ks : List (Addr × List Str)} (h : Heap) (e : h.get? S = some (freshSet w)) : TupIn P w S ks 0 h := by
  refine ⟨[], #[], 0, _, ⟨⟨_, e, ⟨rfl, rfl, rfl⟩, rfl⟩, rfl, ⟨List.Pairwise.nil, rfl, rfl, .inl rfl, fun x hx => (by cases hx), fun i h j hi => (by simp at hi)⟩, ?_, ?_, ?_⟩, List.Perm.refl _⟩
  · show _ ∨ (!w.params.followText "set-order") = true
    cases w.params.followText "set-order"
    · exact .inr rfl
    · exact .inl rfl
  · show 0 * 5 < 7 * 3
    decide
  · show 0 < 64
    decide
theorem items_str {P : Program} {w : World} : ∀ {xs : List Str} {us : List Value}, Vals (xs.map V.str) us → ItemsAre (PySem.strKind P w) xs us
  | [], _, .nil => .nil
  | x :: xs, _, .cons r rs => by
    obtain ⟨t, rfl⟩ := r
    exact .cons (strKind_is _ _ _ _) (items_str rs)
theorem vals_txt {xs : List Str} {us : List Value} (h : Vals (xs.map V.str) us) (i : Nat) (v : Value) (e : us[i]? = some v) : ∃ x t, xs[i]? = some x ∧ v = .str x t := by
  induction xs generalizing us i with
  | nil =>
    cases h
    simp at e
  | cons x xs ih =>
    cases h with
    | cons r rs =>
      cases i with
      | zero =>
        obtain ⟨t, rfl⟩ := r
        exact ⟨x, t, rfl, (Option.some.inj e).symm⟩
      | succ i => exact ih rs i e
theorem vals_ref {α : Type} {ks : List (Addr × α)} {us : List Value} (h : Vals (ks.map fun p => V.ref p.1) us) (i : Nat) (v : Value) (e : us[i]? = some v) : ∃ p, ks[i]? = some p ∧ v = .ref p.1 := by
  induction ks generalizing us i with
  | nil =>
    cases h
    simp at e
  | cons x ks ih =>
    cases h with
    | cons r rs =>
      cases i with
      | zero =>
        cases r
        exact ⟨x, rfl, (Option.some.inj e).symm⟩
      | succ i => exact ih rs i e
end
/-- len(set(xs)) of unlike texts (a list or a tuple), or of a list of unlike tuples of texts -/
def tLenUnlike (K : PySem.W.Frag) (ta : TE) : TE := fun σ H Q => ta σ H fun x H1 => ∃ l, x = .ref l ∧
  ((∃ xs : List Str, (SqL K H1 l (xs.map V.str) ∨ SqT K H1 l (xs.map V.str)) ∧ xs.Nodup ∧ xs.length < 4000 ∧ Q (.int xs.length) H1) ∨
   ∃ ks : List (Addr × List Str), SqL K H1 l (ks.map fun p => V.ref p.1) ∧ (∀ p ∈ ks, Rd H1 p.1 (.tup (p.2.map V.str))) ∧ (ks.map (·.2)).Nodup ∧ ks.length < 63 ∧ Q (.int ks.length) H1)
theorem pe_lenUnlike {X : Cx} {a : Expr} {ta : TE} {k : Nat} {p p2 q pos : Pos} (hr : Room k X.A) (hm : X.mg "len" = none) (hm2 : X.mg "set" = none) (ha : PE X a ta) (hc : X.calm = true := by rfl) (hg : Gl X "len" := by rfl) (hg2 : Gl X "set" := by rfl)
    (na : starEach [a] X.env = (false, eval a X.env) :: starEach [] X.env := by rfl) : PE X (.Call (.Name "len" p) [.Call (.Name "set" p2) [a] [] q] [] pos) (tLenUnlike X.K ta) := by
  refine ⟨fun pins s σ H Q I h => ?_⟩
  refine Call_ (ld_blt I hg hm PySem.boot_len ?_)
  refine PyProof.Rows.callWith_builtin1 (PyProof.Rows.args_cons ?_ rfl) rfl rfl
  refine Call_ (ld_blt I hg2 hm2 PyProof.Rows.boot_set ?_)
  refine PyProof.Rows.callWith_type1 (PyProof.Rows.args_cons (thn (ha.run pins s σ H _ I h) fun v s1 ⟨x, H1, I1, r1, l, ex, told⟩ => PyProof.Rows.args_nil ?_) na) na rfl
  subst ex
  cases r1
  have hh := I1.ok.hd hc
  have hu : X.A.units + 3 < cLine := by
    have z := hr.units
    omega
  -- behind the set: its length
  have ends : ∀ (n : Nat) (h' : Heap) (tk : Nat), n < 4096 → (∃ o es ep t, h'.get? s1.heap.objs.size = some o ∧ o.ExactSet ∧ o.data = .set es ep t ∧ t.fits es.size = true ∧ es.size = n) → (∀ b o, s1.heap.get? b = some o → h'.get? b = some o) → Q (.int n) H1 →
      wpAny (model X.prog X.w) X.A (spliced (backTo pos (starEach [] X.env))) (fun vs s₂ => wpAny (model X.prog X.w) X.A (call (.builtin "len") (Value.ref s1.heap.objs.size :: vs)) (EP X pins σ Q) X.xe s₂) X.xe { s1 with heap := h', toks := tk } :=
    fun n h' tk hn ⟨o, es, ep, t, ho, hex, hd, hf, hz⟩ kp qn => by
      refine PyProof.Rows.args_nil ?_
      have I2 : Inv X pins σ H1 { s1 with heap := h', toks := tk } := I1.kept kp
      exact call_len_set ho hex hd hf (by omega) ⟨.int n, H1, I2.tok _, ⟨_, by rw [hz]⟩, qn⟩
  rcases told with ⟨xs, hq, nd, hl, qn⟩ | ⟨ks, hq, hk, nd, hl, qn⟩
  · rcases hq with hq | hq
    · obtain ⟨its, r, pl, _⟩ := I1.list hq
      have hz : its.toArray.size = xs.length := by rw [List.size_toArray, ← r.length, List.length_map]
      refine call_set_list hh pl.isList hu (txt_fills (fun i v e => vals_txt r i v (by simpa using e)) nd hl hz) (fun h e => txt_first h e) fun h' tk iv kp => ?_
      obtain ⟨o, es, ep, t, ho, hex, hd, _, _, _, hf, hn⟩ := iv
      exact ends xs.length h' tk (by omega) ⟨o, es, ep, t, ho, hex, hd, hf, by omega⟩ kp qn
    · obtain ⟨its, r, pl, _⟩ := I1.tuple hq
      have hz : its.toArray.size = xs.length := by rw [List.size_toArray, ← r.length, List.length_map]
      refine call_set_tuple hh pl hu (txt_fills (fun i v e => vals_txt r i v (by simpa using e)) nd hl hz) (fun h e => txt_first h e) fun h' tk iv kp => ?_
      obtain ⟨o, es, ep, t, ho, hex, hd, _, _, _, hf, hn⟩ := iv
      exact ends xs.length h' tk (by omega) ⟨o, es, ep, t, ho, hex, hd, hf, by omega⟩ kp qn
  · obtain ⟨its, r, pl, _⟩ := I1.list hq
    have hz : its.toArray.size = ks.length := by rw [List.size_toArray, ← r.length, List.length_map]
    have tups : ∀ p ∈ ks, TupS X.prog X.w s1.heap p.2 p.1 := fun p hp => by
      obtain ⟨it2, r2, ⟨o, ho, hc2, n, hd2⟩, _⟩ := I1.tuple (.inl (hk p hp))
      exact ⟨o, it2.toArray, n, ho, hc2, hd2, by simpa using items_str r2⟩
    refine call_set_list hh pl.isList hu (tup_fills (fun i v e => vals_ref r i v (by simpa using e)) nd hl tups) (fun h e => tup_first h e) fun h' tk iv kp => ?_
    obtain ⟨L, es, ep, t, R, pm⟩ := iv
    have hlen : es.size = ks.length := by
      rw [rows_size R.rows, pm.length_eq, List.length_take, hz]
      omega
    have fit := TabAt.fits (s := { s1 with heap := h' }) R
    obtain ⟨o, ho, hex, hd⟩ := R.ob
    exact ends ks.length h' tk (by omega) ⟨o, es, ep, t, ho, hex, hd, fit, hlen⟩ kp qn
end ShT

set_option Elab.async false
set_option linter.all false
set_option maxRecDepth 100000
set_option maxHeartbeats 4000000
/-! zip of a tuple and a list -/
namespace ShT
open PySem PySem.Spec PyProof.Rows L2
/-- the tuple at a and the list at b, side by side -/
def ItTL (K : PySem.W.Frag) (a b : Addr) : It where
  go := fun i H => ∃ (xs ys : List V) (x y : V), SqT K H a xs ∧ SqL K H b ys ∧ xs[i]? = some x ∧ ys[i]? = some y
  yld := fun i H v H' => ∃ T x y, v = .ref T ∧ H T = none ∧ H' = upd H T (.tup [x, y]) ∧ (∀ xs, SqT K H a xs → xs[i]? = some x) ∧ ∀ ys, SqL K H b ys → ys[i]? = some y
  stop := fun i H => ∃ xs ys : List V, SqT K H a xs ∧ SqL K H b ys ∧ i = min xs.length ys.length
abbrev tl1 (h : Heap) (a : Addr) : Heap := h.push { cls := .type "tuple_iterator", data := .fields #[.ref a, .int 0 0] }
abbrev tl2 (h : Heap) (a b : Addr) : Heap := (tl1 h a).push { cls := .type "list_iterator", data := .fields #[.ref b, .int 0 0] }
abbrev tl3 (h : Heap) (a b : Addr) : Heap := (tl2 h a b).push { cls := .type "tuple", data := .seq #[.ref h.objs.size, .ref (tl1 h a).objs.size] }
abbrev tl4 (h : Heap) (a b : Addr) : Heap := (tl3 h a b).push { cls := .type "tuple", data := .seq #[.none, .none] }
abbrev tl5 (h : Heap) (a b : Addr) : Heap := (tl4 h a b).push { cls := .type "zip", data := .fields #[.none, .bool false, .bool false, .ref (tl2 h a b).objs.size, .ref (tl3 h a b).objs.size] }
theorem new_zipTL (a b : Addr) (xs ys : Array Value) :
    Meets (Builtin.«zip.__new__» ⟨[.type "zip", .ref a, .ref b], []⟩) (fun _ R s => s.heap.IsTuple a xs ∧ s.heap.IsList b ys ∧ R (.ok (.ret (.ref (tl4 s.heap a b).objs.size))) { s with heap := tl5 s.heap a b }) :=
  .of_wp fun prog w A R s h => by
    obtain ⟨hp, g, d, tk, os⟩ := s
    obtain ⟨q1, q2, h⟩ := h
    have sub := sub_zip
    have u1 : Heap.IsTuple (Shared.heap ⟨hp, g, d, tk, os⟩) a xs := q1
    have u2 : Heap.IsList (Shared.heap ⟨tl1 hp a, g, d, tk, os⟩) b ys := Heap.IsList.push q2 _
    wp_walk using wpAny_pyIter_tuple u1, wpAny_pyIter_list u2
    exact ⟨_, rfl, h⟩
theorem call_zipTL {prog : Program} {w : World} {A : Around} {E : Value → Shared → Prop} {s : Shared} {a b : Addr} {xs ys : Array Value} {Q : Value → Shared → Prop} (h1 : s.heap.IsTuple a xs) (h2 : s.heap.IsList b ys)
    (h : ∀ h', IsZip h' (s.heap.objs.size + 4) (s.heap.objs.size + 2) (s.heap.objs.size + 3) .none → IsPair h' (s.heap.objs.size + 2) (.ref s.heap.objs.size) (.ref (s.heap.objs.size + 1)) →
      IsPair h' (s.heap.objs.size + 3) .none .none → h'.IsTupleIter s.heap.objs.size a 0 → h'.IsListIter (s.heap.objs.size + 1) b 0 → (∀ c o, s.heap.get? c = some o → h'.get? c = some o) → Q (.ref (s.heap.objs.size + 4)) { s with heap := h' }) :
    wpAny (model prog w) A (call (.type "zip") [.ref a, .ref b]) Q E s := by
  refine callType_new PySem.F.called_zip (by decide) (PySem.F.typeCall_zip_2 _ _) (PySem.F.newCall_zip_2 _ _) (fun obj => PySem.F.args_object_init_3 obj _ _) PySem.F.entry_zip_new (new_zipTL a b xs ys) ⟨h1, h2, ?_⟩
  have z1 : (tl1 s.heap a).objs.size = s.heap.objs.size + 1 := Heap.size_push ..
  have z2 : (tl2 s.heap a b).objs.size = s.heap.objs.size + 2 := by rw [Heap.size_push, z1]
  have z3 : (tl3 s.heap a b).objs.size = s.heap.objs.size + 3 := by rw [Heap.size_push, z2]
  have z4 : (tl4 s.heap a b).objs.size = s.heap.objs.size + 4 := by rw [Heap.size_push, z3]
  have g5 : (tl5 s.heap a b).get? (tl4 s.heap a b).objs.size = some _ := Heap.get?_push_size _ rfl
  have g4 : (tl5 s.heap a b).get? (tl3 s.heap a b).objs.size = some _ := Heap.get?_push_of_some _ (Heap.get?_push_size _ rfl)
  have g3 : (tl5 s.heap a b).get? (tl2 s.heap a b).objs.size = some _ := Heap.get?_push_of_some _ (Heap.get?_push_of_some _ (Heap.get?_push_size _ rfl))
  have g2 : (tl5 s.heap a b).get? (tl1 s.heap a).objs.size = some _ := Heap.get?_push_of_some _ (Heap.get?_push_of_some _ (Heap.get?_push_of_some _ (Heap.get?_push_size _ rfl)))
  have g1 : (tl5 s.heap a b).get? s.heap.objs.size = some _ := Heap.get?_push_of_some _ (Heap.get?_push_of_some _ (Heap.get?_push_of_some _ (Heap.get?_push_of_some _ (Heap.get?_push_size _ rfl))))
  show _ ∧ _
  rw [z2, z3, z4] at g5
  rw [z1, z2] at g3
  rw [z3] at g4
  rw [z1] at g2
  rw [z4]
  exact ⟨⟨_, g5, rfl⟩, h _ g5 g3 g4 ⟨_, g1, rfl, rfl⟩ ⟨_, g2, rfl, rfl⟩ fun c o x => Heap.get?_push_of_some _ (Heap.get?_push_of_some _ (Heap.get?_push_of_some _ (Heap.get?_push_of_some _ (Heap.get?_push_of_some _ x))))⟩
theorem turn_zipTL {P : Program} {w : World} {K : PySem.W.Frag} {elts : List Expr} {kk : Nat} {tpos : Pos} {a b z TI TO i1 i2 : Addr} (D : ZipApart z TI TO i1 i2 a b) :
    Turn P w K (.Tuple elts kk tpos) (ItTL K a b) [z, TI, TO, i1, i2] z (fun i h => IsZip h z TI TO .none ∧ IsPair h TI (.ref i1) (.ref i2) ∧ (∃ x y, IsPair h TO x y) ∧ h.IsTupleIter i1 a i ∧ h.IsListIter i2 b i) where
  mem := by simp
  obj := fun i h st c hc => by
    obtain ⟨e0, e1, ⟨x, y, e2⟩, ⟨o3, e3, _, d3⟩, ⟨o4, e4, _, d4⟩⟩ := st
    simp only [List.mem_cons, List.not_mem_nil, or_false] at hc
    rcases hc with rfl | rfl | rfl | rfl | rfl
    · exact ⟨_, e0, fun v q => nomatch q⟩
    · exact ⟨_, e1, fun v q => nomatch q⟩
    · exact ⟨_, e2, fun v q => nomatch q⟩
    · exact ⟨o3, e3, fun v q => by rw [d3] at q; cases q⟩
    · exact ⟨o4, e4, fun v q => by rw [d4] at q; cases q⟩
  keep := fun i h h' st k => by
    obtain ⟨e0, e1, ⟨x, y, e2⟩, e3, e4⟩ := st
    exact ⟨k z (by simp) _ e0, k TI (by simp) _ e1, ⟨x, y, k TO (by simp) _ e2⟩, e3.at fun o q => k i1 (by simp) o q, e4.at fun o q => k i2 (by simp) o q⟩
  item := by
    intro X hP hw hK hc i pins s σ H E I hf st hg
    subst hP hw hK
    obtain ⟨e0, e1, e2, e3, e4⟩ := st
    obtain ⟨xs, ys, x, y, qx, qy, hx, hy⟩ := hg
    obtain ⟨us, ru, p1, _⟩ := I.tuple qx
    obtain ⟨ws, rw', p2, _⟩ := I.list qy
    obtain ⟨u, hu, rx⟩ := ru.get hx
    obtain ⟨v, hv, ry⟩ := rw'.get hy
    have li : i < us.toArray.size := by
      rw [List.size_toArray]
      exact (List.getElem?_eq_some_iff.mp hu).1
    have lj : i < ws.toArray.size := by
      rw [List.size_toArray]
      exact (List.getElem?_eq_some_iff.mp hv).1
    have sep : ZipSep2 z TI TO i1 i2 [i1, a] [i2, b] := ⟨D.TIz, D.TOz, D.TITO, D.TIi1, by simp, by simp [D.i1z.symm, D.l1z.symm], by simp [D.TOi1, D.l1TO.symm], D.TIi2, by simp, by simp [D.i2z.symm, D.l2z.symm], by simp [D.TOi2, D.l2TO.symm], by simp [D.i12, D.l2i1.symm], by simp [D.i12.symm, D.l1i2.symm]⟩
    have hd : X.A.in1.handled = none := I.ok.hd hc
    have W := GoesN.zip2 (elts := elts) (x1 := kk) (pos := tpos) sep (Draws.tuple (prog := X.prog) (w := X.w) hd i1 a D.l1i1 us.toArray) (Draws.list (prog := X.prog) (w := X.w) hd i2 b D.l2i2 ws.toArray)
    refine W.goes i s _ E (by omega) ⟨e0, e1, e2, ⟨e3, p1⟩, ⟨e4, p2.isList⟩⟩ fun T' h' tk hY st' hk htk => ?_
    obtain ⟨T, x1, x2, rfl, hT, a1, a2, hTup⟩ := hY
    obtain ⟨f0, f1, f2, ⟨f3, _⟩, ⟨f4, _⟩⟩ := st'
    have b1 : x1 = u := Option.some.inj (a1.symm.trans (by simpa using hu))
    have b2 : x2 = v := Option.some.inj (a2.symm.trans (by simpa using hv))
    subst b1 b2
    have hk' : ∀ c o, c ∉ [z, TI, TO, i1, i2] → s.heap.get? c = some o → h'.get? c = some o := fun c o hc => hk c o fun q => hc (by
      simp only [List.mem_cons, List.not_mem_nil, or_false] at q ⊢
      rcases q with q | q | q | q <;> simp [q])
    have new : ObjOk X.prog X.w (upd H T (.tup [x, y])) h' T (.tup [x, y]) := ⟨by show 2 ≤ sizeLine; decide, [x1, x2], .cons rx (.cons ry .nil), hTup⟩
    refine ⟨.ref T, upd H T (.tup [x, y]), I.turnedNew (t' := tk) hk' hf hT new, rfl, ⟨T, x, y, rfl, I.hok.fresh hT, rfl, fun l hl => by rw [I.tuple_inj hl qx]; exact hx, fun l hl => by rw [I.list_inj hl qy]; exact hy⟩, ⟨f0, f1, f2, f3, f4⟩, fun c hc => ?_⟩
    have lt : c < s.heap.objs.size := by
      obtain ⟨o3, g3, _⟩ := e3
      obtain ⟨o4, g4, _⟩ := e4
      obtain ⟨_, _, g2⟩ := e2
      simp only [List.mem_cons, List.not_mem_nil, or_false] at hc
      rcases hc with rfl | rfl | rfl | rfl | rfl
      · exact Heap.lt_size e0
      · exact Heap.lt_size e1
      · exact Heap.lt_size g2
      · exact Heap.lt_size g3
      · exact Heap.lt_size g4
    rw [upd_ne (Nat.ne_of_lt (Nat.lt_of_lt_of_le lt hT))]
    exact (hf c hc).1
  done := by
    intro X hP hw hK hc i pins s σ H E I hf st hg
    subst hP hw hK
    obtain ⟨e0, e1, ⟨y1, y2, e2⟩, e3, e4⟩ := st
    obtain ⟨xs, ys, qx, qy, hend⟩ := hg
    obtain ⟨us, ru, p1, _⟩ := I.tuple qx
    obtain ⟨ws, rw', p2, _⟩ := I.list qy
    have sep : ZipSep2 z TI TO i1 i2 [i1, a] [i2, b] := ⟨D.TIz, D.TOz, D.TITO, D.TIi1, by simp, by simp [D.i1z.symm, D.l1z.symm], by simp [D.TOi1, D.l1TO.symm], D.TIi2, by simp, by simp [D.i2z.symm, D.l2z.symm], by simp [D.TOi2, D.l2TO.symm], by simp [D.i12, D.l2i1.symm], by simp [D.i12.symm, D.l1i2.symm]⟩
    have hd : X.A.in1.handled = none := I.ok.hd hc
    have l1 : us.toArray.size = xs.length := by rw [List.size_toArray, ru.length]
    have l2 : ws.toArray.size = ys.length := by rw [List.size_toArray, rw'.length]
    refine wpAny_with_toks (Nat.le_refl s.toks) (wpAny_pyNext_zipD2_end sep (Draws.tuple (prog := X.prog) (w := X.w) hd i1 a D.l1i1 us.toArray) (Draws.list (prog := X.prog) (w := X.w) hd i2 b D.l2i2 ws.toArray) e0 e1 e2 ⟨e3, p1⟩ ⟨e4, p2.isList⟩ (by omega) (by omega) (by omega) fun h' tk hk _ => ⟨rfl, ?_⟩)
    exact I.turnedL (t' := tk) (ch := [z, TI, TO, i1, i2]) (fun c o hc q => hk c o (fun q' => hc (by simp [q'])) (fun q' => hc (by simp [q'])) (fun q' => hc (by simp [q'])) (fun q' => hc (by simp [q'])) q) hf
  self := fun A i s Q E st h => wpAny_pyIter_zip st.1 h

/-- zip(t, xs), t a tuple and xs a list, as a loop's source -/
def iZipTL (K : PySem.W.Frag) (ta : TA) : TI := fun σ H R => ta σ H fun vs H1 => ∃ a b xs ys, vs = [.ref a, .ref b] ∧ SqT K H1 a xs ∧ SqL K H1 b ys ∧ R (ItTL K a b) H1
theorem pi_zipTL {X : Cx} {e e2 : Expr} {ta : TA} {p pos tpos : Pos} {elts : List Expr} {kk : Nat} (hm : X.mg "zip" = none) (ha : PA X [e, e2] ta) (hg : Gl X "zip" := by rfl)
    (hs : starEach [e, e2] X.env = (false, eval e X.env) :: starEach [e2] X.env := by rfl) (hpl : (backTo pos (starEach [e2] X.env)).any (·.1) = false := by rfl) : PI X (.Tuple elts kk tpos) (.Call (.Name "zip" p) [e, e2] [] pos) (iZipTL X.K ta) := by
  refine ⟨fun pins s σ H R I h => ?_⟩
  refine Call_ (ld_blt I hg hm PyProof.Rows.boot_zip (PyProof.Rows.callWith_type1 (thn (ha.run pos pins s σ H _ I h) fun us s1 ⟨vs, H1, I1, r1, a, b, xs, ys, ex, qx, qy, q⟩ => ?_) hs hpl))
  subst ex
  obtain ⟨u1, u2, rfl, r1, r2⟩ := vals2 r1
  cases r1
  cases r2
  obtain ⟨its, rv, p1, _⟩ := I1.tuple qx
  obtain ⟨its2, rv2, p2, _⟩ := I1.list qy
  obtain ⟨o1, ho1, _⟩ := id p1
  refine call_zipTL (show s1.heap.IsTuple a its.toArray from p1) p2.isList fun h' hz hTI hTO h1 h2 hk => wpAny_pyIter_zip hz ?_
  refine ⟨s1.heap.objs.size + 4, [s1.heap.objs.size + 4, s1.heap.objs.size + 2, s1.heap.objs.size + 3, s1.heap.objs.size, s1.heap.objs.size + 1], _, _, H1, rfl, I1.kept (t' := s1.toks) hk, turn_zipTL (PySem.W.ktu_apart s1.heap.objs.size a b (Heap.lt_size ho1) p2.lt), ⟨hz, hTI, ⟨_, _, hTO⟩, h1, h2⟩, fun c hc => ?_, q⟩
  have le : s1.heap.objs.size ≤ c := by
    simp only [List.mem_cons, List.not_mem_nil, or_false] at hc
    rcases hc with rfl | rfl | rfl | rfl | rfl
    · exact Nat.le_add_right _ _
    · exact Nat.le_add_right _ _
    · exact Nat.le_add_right _ _
    · exact Nat.le_refl _
    · exact Nat.le_add_right _ _
  exact I1.fpOk le (I1.hok.fresh le)
end ShT
namespace Sh
open PySem PySem.Spec L2
open Evl (Ex)
/-- side by side -/
def zipD (xs ys : List D) : List D := List.zipWith (fun a b => PyData.tuple [a, b]) xs ys
theorem zipD_at {xs ys : List D} {i : Nat} {a b : D} (h : xs[i]? = some a) (k : ys[i]? = some b) : (zipD xs ys)[i]? = some (.tuple [a, b]) := by
  unfold zipD
  rw [List.getElem?_zipWith, h, k]
theorem zipD_len (xs ys : List D) : (zipD xs ys).length = min xs.length ys.length := List.length_zipWith
section
variable {K : PySem.W.Frag} {σ : L2.St} {G : Hp} {ar : TA}
theorem ei_zipTL {xs ys : List D} (h : EvA ar σ G [.tuple xs, .list ys]) : EvI (ShT.iZipTL K ar) σ G (zipD xs ys) := fun H e R r => h H e _ fun vs G2 H2 g n => by
  obtain ⟨v, w, rfl, n1, n2⟩ := two_of n
  cases n1 with
  | tup h1 m1 =>
    cases n2 with
    | lst h2 m2 =>
      rename_i a us b ws
      refine ⟨_, _, _, _, rfl, .inl (rdx g.s h1), .inl (.inl (g.s _ _ h2)), r _ G2 H2 g ⟨fun i H hi e => ?_, fun H e => ?_, fun i H x H' hi e y => ?_⟩⟩
      · rw [zipD_len, ← m1.length, ← m2.length] at hi
        have l1 : i < us.length := by omega
        have l2 : i < ws.length := by omega
        exact ⟨us, ws, us[i], ws[i], .inl (rdx e h1), .inl (.inl (e _ _ h2)), List.getElem?_eq_getElem l1, List.getElem?_eq_getElem l2⟩
      · exact ⟨us, ws, .inl (rdx e h1), .inl (.inl (e _ _ h2)), by rw [zipD_len, ← m1.length, ← m2.length]⟩
      · obtain ⟨T, x1, x2, rfl, hT, rfl, q1, q2⟩ := y
        obtain ⟨d1, e1, k1⟩ := m1.att (q1 us (.inl (rdx e h1)))
        obtain ⟨d2, e2, k2⟩ := m2.att (q2 ws (.inl (.inl (e _ _ h2))))
        have fr := Ex.new (o := HO.tup [x1, x2]) (Evl.fresh_back e hT)
        exact ⟨upd G2 T (.tup [x1, x2]), _, Gr.new e hT, zipD_at e1 e2, .tup (.inl upd_same) (.cons (Dn.mono fr _ k1) (.cons (Dn.mono fr _ k2) .nil))⟩
theorem ei_zipLL {xs ys : List D} (h : EvA ar σ G [.list xs, .list ys]) : EvI (iZip K ar) σ G (zipD xs ys) := fun H e R r => h H e _ fun vs G2 H2 g n => by
  obtain ⟨v, w, rfl, n1, n2⟩ := two_of n
  cases n1 with
  | lst h1 m1 =>
    cases n2 with
    | lst h2 m2 =>
      rename_i a us b ws
      refine ⟨_, _, _, _, rfl, .inl (.inl (g.s _ _ h1)), .inl (.inl (g.s _ _ h2)), r _ G2 H2 g ⟨fun i H hi e => ?_, fun H e => ?_, fun i H x H' hi e y => ?_⟩⟩
      · rw [zipD_len, ← m1.length, ← m2.length] at hi
        have l1 : i < us.length := by omega
        have l2 : i < ws.length := by omega
        exact ⟨us, ws, us[i], ws[i], .inl (.inl (e _ _ h1)), .inl (.inl (e _ _ h2)), List.getElem?_eq_getElem l1, List.getElem?_eq_getElem l2⟩
      · refine ⟨us, ws, .inl (.inl (e _ _ h1)), .inl (.inl (e _ _ h2)), ?_⟩
        rw [zipD_len, ← m1.length, ← m2.length]
        omega
      · obtain ⟨T, x1, x2, rfl, hT, rfl, q1, q2⟩ := y
        obtain ⟨d1, e1, k1⟩ := m1.att (q1 us (.inl (.inl (e _ _ h1))))
        obtain ⟨d2, e2, k2⟩ := m2.att (q2 ws (.inl (.inl (e _ _ h2))))
        have fr := Ex.new (o := HO.tup [x1, x2]) (Evl.fresh_back e hT)
        exact ⟨upd G2 T (.tup [x1, x2]), _, Gr.new e hT, zipD_at e1 e2, .tup (.inl upd_same) (.cons (Dn.mono fr _ k1) (.cons (Dn.mono fr _ k2) .nil))⟩
end
end Sh

namespace Sh
open PySem L2
def topS (i : Nat) : Stmt := PySem.Challenge.pw_surehouse_k08_whole_bundles.main.body.getD i (.Pass ⟨0, 0, 0, 0⟩)
end Sh

set_option Elab.async false
set_option linter.all false
set_option maxRecDepth 100000
set_option maxHeartbeats 4000000
namespace Sh
open PySem PySem.Spec L2
open PyProof.Rows hiding St
open Evl (Ex)
/-! ### is_between, is_row -/
abbrev s_is_between : Stmt := topS 8
theorem sc_is_between : FnScope ["value", "low", "high"] ["value", "low", "high"] (defScope s_is_between) := ⟨rfl, rfl, rfl, by decide +kernel, rfl, by decide +kernel, by decide +kernel⟩
abbrev s_is_row : Stmt := topS 9
theorem sc_is_row : FnScope ["value", "least", "most"] ["value", "least", "most"] (defScope s_is_row) := ⟨rfl, rfl, rfl, by decide +kernel, rfl, by decide +kernel, by decide +kernel⟩
def betweenD : D → Int → Int → Bool
  | .int i, lo, hi => decide (lo ≤ i) && decide (i ≤ hi)
  | _, _, _ => false
def domBetween (ds : List D) (c : D) : Prop := ∃ d lo hi, ds = [d, .int lo, .int hi] ∧ c = .bool (betweenD d lo hi)
/-- a tuple of least to most things -/
def rowD : D → Int → Int → Bool
  | .tuple ds, lo, hi => decide (lo ≤ (ds.length : Int)) && decide ((ds.length : Int) ≤ hi)
  | _, _, _ => false
def domRow (ds : List D) (c : D) : Prop := ∃ d lo hi, ds = [d, .int lo, .int hi] ∧ c = .bool (rowD d lo hi)
section
variable {P : Program} {w : World} {K : PySem.W.Frag} {mg : Str → Option Value} {base : Heap}
theorem keeps_between (B : Bi mg) (S : Stands K mg "is_between" s_is_between ["value", "low", "high"]) : Keeps P w K mg base CX0 1 "is_between" ["value", "low", "high"] (spD domBetween) := by
  refine keeps_of S sc_is_between (fun ds c h => ?_) (fun f cdv A outer s H E hr => ⟨_, (pss_one (ps_ret (pe_and (pe_callB call_isi rfl B.isinstance bi_isinstance (pa_cons (pv 0) (pa_cons (pe_ty B.int bi_int) pa_nil))) (pe_and (pe_not (pe_callB call_isi rfl B.isinstance bi_isinstance (pa_cons (pv 0) (pa_cons (pe_ty B.bool bi_bool) pa_nil)))) (pe_one (pe_chain op_le op_le (pv 1) (pv 0) (pv 2))))))), fun ds c vs G h n => ?_⟩)
  · obtain ⟨d, lo, hi, rfl, _⟩ := h
    rfl
  · obtain ⟨d, lo, hi, rfl, rfl⟩ := h
    obtain ⟨v, v1, v2, rfl, n0, n1, n2⟩ := dn3 n
    refine evs_ret (evd_is (evd_and (b := betweenD d lo hi) (evd_isi (evd_at n0) (kit_int d)) (fun h1 => evd_is (evd_and (b := betweenD d lo hi) (evd_not (evd_isi (evd_at n0) (kit_bool d))) (fun h2 => ?_)) ?_)) ?_)
    · cases d with
      | int i => exact evd_chain (evd_at n1) (evd_at n0) (evd_at n2) (r_I0 fun _ => .bl _) (fun _ => r_I0 fun _ => .bl _)
      | bool b => exact absurd (show false = true from h2) Bool.false_ne_true
      | _ => exact absurd (show false = true from h1) Bool.false_ne_true
    · cases d <;> rfl
    · cases d <;> rfl
theorem keeps_row (B : Bi mg) (S : Stands K mg "is_row" s_is_row ["value", "least", "most"]) : Keeps P w K mg base CX0 1 "is_row" ["value", "least", "most"] (spD domRow) := by
  refine keeps_of S sc_is_row (fun ds c h => ?_) (fun f cdv A outer s H E hr => ⟨_, (pss_one (ps_ret (pe_and (pe_callB call_isi rfl B.isinstance bi_isinstance (pa_cons (pv 0) (pa_cons (pe_ty B.tuple bi_tuple) pa_nil))) (pe_one (pe_chain op_le op_le (pv 1) (pe_callB call_len rfl B.len bi_len (pa_cons (pv 0) pa_nil)) (pv 2)))))), fun ds c vs G h n => ?_⟩)
  · obtain ⟨d, lo, hi, rfl, _⟩ := h
    rfl
  · obtain ⟨d, lo, hi, rfl, rfl⟩ := h
    obtain ⟨v, v1, v2, rfl, n0, n1, n2⟩ := dn3 n
    refine evs_ret (evd_is (evd_and (b := rowD d lo hi) (evd_isi (evd_at n0) (kit_tuple d)) (fun h1 => ?_)) ?_)
    · cases d with
      | tuple ds => exact evd_chain (evd_at n1) (evd_cb (ea_cons (evd_at n0) ea_nil) (r_lenT rfl)) (evd_at n2) (r_I0 fun _ => .bl _) (fun _ => r_I0 fun _ => .bl _)
      | _ => exact absurd (show false = true from h1) Bool.false_ne_true
    · cases d <;> rfl

/-! ### are_unlike -/
theorem sl_tups {G : Hp} : ∀ {kss : List (List Str)} {vs : List V}, DnL G vs (kss.map fun k => PyData.tuple (strL k)) → ∃ ks : List (Addr × List Str), vs = ks.map (fun p => V.ref p.1) ∧ ks.map (·.2) = kss ∧ ∀ p ∈ ks, Rd G p.1 (.tup (p.2.map V.str))
  | [], _, h => by
    cases h
    exact ⟨[], rfl, rfl, fun p hp => by cases hp⟩
  | k :: kss, _, h => by
    cases h with
    | cons h1 h2 =>
      obtain ⟨ks, e1, e2, e3⟩ := sl_tups h2
      cases h1 with
      | tup g1 n1 =>
        rename_i a us
        have e := dn_strs n1
        subst e
        refine ⟨(a, k) :: ks, by rw [e1] <;> rfl, by rw [List.map_cons, e2], fun p hp => ?_⟩
        rcases List.mem_cons.mp hp with rfl | hp
        · exact g1
        · exact e3 p hp
theorem evd_unT {σ : L2.St} {G : Hp} {te : TE} {xs : List Str} (h : EvD te σ G (.tuple (strL xs))) (nd : xs.Nodup) (hl : xs.length < 4000) : EvD (ShT.tLenUnlike K te) σ G (.int xs.length) := fun H e Q q => h H e _ fun v G2 H2 g n => by
  cases n with
  | tup h1 n1 =>
    have e1 := dn_strs n1
    subst e1
    exact ⟨_, rfl, .inl ⟨xs, .inr (.inl (rdx g.s h1)), nd, hl, q _ G2 H2 g (.int _)⟩⟩
theorem evd_unL {σ : L2.St} {G : Hp} {te : TE} {xs : List Str} (h : EvD te σ G (.list (strL xs))) (nd : xs.Nodup) (hl : xs.length < 4000) : EvD (ShT.tLenUnlike K te) σ G (.int xs.length) := fun H e Q q => h H e _ fun v G2 H2 g n => by
  cases n with
  | lst h1 n1 =>
    have e1 := dn_strs n1
    subst e1
    exact ⟨_, rfl, .inl ⟨xs, .inl (.inl (.inl (g.s _ _ h1))), nd, hl, q _ G2 H2 g (.int _)⟩⟩
theorem evd_unP {σ : L2.St} {G : Hp} {te : TE} {kss : List (List Str)} (h : EvD te σ G (.list (kss.map fun k => PyData.tuple (strL k)))) (nd : kss.Nodup) (hl : kss.length < 63) : EvD (ShT.tLenUnlike K te) σ G (.int kss.length) := fun H e Q q => h H e _ fun v G2 H2 g n => by
  cases n with
  | lst h1 n1 =>
    obtain ⟨ks, e1, e2, e3⟩ := sl_tups n1
    subst e1 e2
    refine ⟨_, rfl, .inr ⟨ks, .inl (.inl (g.s _ _ h1)), fun p hp => rdx g.s (e3 p hp), nd, by simpa using hl, ?_⟩⟩
    have z : (ks.map (·.2)).length = ks.length := List.length_map _
    rw [← z]
    exact q _ G2 H2 g (.int _)
abbrev s_are_unlike : Stmt := topS 10
theorem sc_are_unlike : FnScope ["keys"] ["keys"] (defScope s_are_unlike) := ⟨rfl, rfl, rfl, by decide +kernel, rfl, by decide +kernel, by decide +kernel⟩
/-- unlike texts, or unlike tuples of texts -/
def domUnlike (ds : List D) (c : D) : Prop := c = .bool true ∧ ((∃ xs : List Str, (ds = [.tuple (strL xs)] ∨ ds = [.list (strL xs)]) ∧ xs.Nodup ∧ xs.length < 4000) ∨ ∃ kss : List (List Str), ds = [.list (kss.map fun k => PyData.tuple (strL k))] ∧ kss.Nodup ∧ kss.length < 63)
theorem strL_len (xs : List Str) : (strL xs).length = xs.length := List.length_map _
theorem keeps_unlike (B : Bi mg) (S : Stands K mg "are_unlike" s_are_unlike ["keys"]) : Keeps P w K mg base CX0 1 "are_unlike" ["keys"] (spD domUnlike) := by
  refine keeps_of S sc_are_unlike (fun ds c h => ?_) (fun f cdv A outer s H E hr => ⟨_, (pss_one (ps_ret (pe_cmpR op_eq (ShT.pe_lenUnlike hr B.len B.set (pv 0)) (pe_callB call_len rfl B.len bi_len (pa_cons (pv 0) pa_nil)) (nomark _)))), fun ds c vs G h n => ?_⟩)
  · obtain ⟨_, ⟨xs, rfl | rfl, _⟩ | ⟨kss, rfl, _⟩⟩ := h <;> rfl
  · obtain ⟨rfl, ⟨xs, rfl | rfl, nd, hl⟩ | ⟨kss, rfl, nd, hl⟩⟩ := h
    · obtain ⟨v, rfl, n0⟩ := one_of n
      exact evs_ret (evd_op (evd_unT (evd_at n0) nd hl) (evd_cb (ea_cons (evd_at n0) ea_nil) (r_lenT (n := xs.length) (by rw [strL_len]))) (r_eq (by simp [scalD])))
    · obtain ⟨v, rfl, n0⟩ := one_of n
      exact evs_ret (evd_op (evd_unL (evd_at n0) nd hl) (evd_cb (ea_cons (evd_at n0) ea_nil) (r_lenL (n := xs.length) (by rw [strL_len]))) (r_eq (by simp [scalD])))
    · obtain ⟨v, rfl, n0⟩ := one_of n
      exact evs_ret (evd_op (evd_unP (evd_at n0) nd hl) (evd_cb (ea_cons (evd_at n0) ea_nil) (r_lenL (n := kss.length) (by rw [List.length_map]))) (r_eq (by simp [scalD])))
/-! ### is_name -/
def LET : Str := Str.ofString "abcdefghijklmnopqrstuvwxyz"
def SIG : Str := Str.ofString "abcdefghijklmnopqrstuvwxyz0123456789"
/-- the two constants of the text -/
structure Abc (mg : Str → Option Value) : Prop where
  letters : ∃ t, mg "LETTERS" = some (.str LET t)
  signs : ∃ t, mg "SIGNS" = some (.str SIG t)
def nameS (x : Str) : Bool := decide (1 ≤ (x.length : Int)) && decide ((x.length : Int) ≤ 8) && (decide (x.cps.toList.getD 0 0 ∈ LET.cps.toList) && x.cps.toList.all fun c => decide (c ∈ SIG.cps.toList))
def nameD : D → Bool
  | .str x => nameS x
  | _ => false
/-- whether a sign is one of SIGNS -/
def signIn : D → D
  | .str z => .bool (decide (z.cps.toList.getD 0 0 ∈ SIG.cps.toList))
  | _ => .none
abbrev s_is_name : Stmt := topS 11
theorem sc_is_name : FnScope ["value", "sign"] ["value"] (defScope s_is_name) := ⟨rfl, rfl, rfl, by decide +kernel, rfl, by decide +kernel, by decide +kernel⟩
def domName (ds : List D) (c : D) : Prop := ∃ d, ds = [d] ∧ c = .bool (nameD d) ∧ ∀ x, d = .str x → x.length ≤ 100000
theorem keeps_name (B : Bi mg) (C : Abc mg) (S : Stands K mg "is_name" s_is_name ["value"]) : Keeps P w K mg base CX0 1 "is_name" ["value"] (spD domName) := by
  obtain ⟨tl, cl⟩ := C.letters
  obtain ⟨ts, cs⟩ := C.signs
  refine keeps_of S sc_is_name (fun ds c h => ?_) (fun f cdv A outer s H E hr => ⟨_, (pss_cons (ps_if (PW.pt (pw_or (pt_not (pt_val (pe_callB call_isi rfl B.isinstance bi_isinstance (pa_cons (pv 0) (pa_cons (pe_ty B.str bi_str) pa_nil))))) (pw_or1 (pt_not (pt_chain op_le op_le pe_int (pe_callB call_len rfl B.len bi_len (pa_cons (pv 0) pa_nil)) pe_int))))) (pss_one (ps_ret pe_bl)) pss_nil)
    (pss_one (ps_ret (pe_and (pe_cmpR op_in_sign (pe_ix ix_str (pv 0) pe_int (fun _ _ => rfl)) (pe_glob (v := .str LET) rfl cl ⟨tl, rfl⟩) (by rfl)) (pe_one (pe_callB (cr_all rfl) rfl B.all bi_all (pa_cons (pe_lc (own := [("sign", 1)]) (g := gName 1) (tt := tYes) rfl sc_is_name.nd (pi_str (pv 0)) (blkOk_by (N := ["value", "sign"]) (sc := defScope s_is_name) (by decide +kernel)) (fun _ _ _ _ _ => (pg_name (i := 1) sc_is_name.nd rfl (.inl rfl))) (fun _ _ _ _ _ => pts_nil) (fun _ _ _ _ _ => (pe_cmpR op_in_sign (pv 1) (pe_glob (v := .str SIG) rfl cs ⟨ts, rfl⟩) (by rfl)))) pa_nil))))))), fun ds c vs G h n => ?_⟩)
  · obtain ⟨d, rfl, _⟩ := h
    rfl
  · obtain ⟨d, rfl, rfl, hx⟩ := h
    obtain ⟨v, rfl, n0⟩ := one_of n
    cases d with
    | str x =>
      have hz := hx x rfl
      refine evs_if (b := !(decide (1 ≤ (x.length : Int)) && decide ((x.length : Int) ≤ 8))) (evt_is (evt_or (evt_not (evt_B (evd_isi (evd_at n0) (kit_str _)))) (fun _ => evt_not (evt_test (evd_chain evd_int (evd_cb (ea_cons (evd_at n0) ea_nil) (r_lenS hz rfl)) evd_int (r_I0 fun _ => .bl _) (fun _ => r_I0 fun _ => .bl _))))) ?_) (fun h1 => ?_) (fun h1 => ?_)
      · rfl
      · refine evs_ret (evd_is evd_bl ?_)
        show PyData.bool false = PyData.bool (nameS x)
        unfold nameS
        rw [Bool.not_eq_true'] at h1
        rw [h1]
        rfl
      · have h2 : (decide (1 ≤ (x.length : Int)) && decide ((x.length : Int) ≤ 8)) = true := by
          cases z : (decide (1 ≤ (x.length : Int)) && decide ((x.length : Int) ≤ 8)) with
          | true => rfl
          | false =>
            rw [z] at h1
            cases h1
        have hl : 0 < x.cps.toList.length := by
          have z := (Bool.and_eq_true _ _).mp h2
          have z1 := of_decide_eq_true z.1
          have z2 : x.length = x.cps.toList.length := Array.length_toList.symm
          omega
        have at0 : x.cps.toList[0]? = some (x.cps.toList.getD 0 0) := by
          rw [List.getD_eq_getElem?_getD, List.getElem?_eq_getElem hl]
          rfl
        refine evs_ret (evd_is (evd_and (evd_op (evd_op (evd_at n0) (evd_int (i := ((0 : Nat) : Int))) (r_ixS hz at0)) evd_str r_sign) (fun _ => evd_cb (ea_cons (evd_is (d' := .list (boolL (x.cps.toList.map fun c => decide (c ∈ SIG.cps.toList)))) (evd_lcN (r := signIn) (ei_str (evd_at n0)) ?_ (fun x => rfl) (fun d hd y G1 e ny => ?_)) ?_) ea_nil) (r_all rfl))) ?_)
        · unfold signs
          rw [List.length_map, Array.length_toList]
          exact Nat.le_trans (show x.cps.size ≤ 8 from by
            have z := (Bool.and_eq_true _ _).mp h2
            have z1 := of_decide_eq_true z.2
            have z3 : (x.length : Int) = (x.cps.size : Int) := rfl
            omega) (by decide)
        · obtain ⟨c, hc, rfl⟩ := List.mem_map.mp hd
          exact evd_op (evd_at ny) evd_str r_sign
        · unfold signs boolL
          rw [List.map_map, List.map_map]
          rfl
        · show PyData.bool _ = PyData.bool (nameS x)
          unfold nameS
          rw [h2, List.all_map, Bool.true_and]
          rfl
    | _ => exact evs_if (b := true) (evt_is (evt_or (b := true) (evt_not (evt_B (evd_isi (evd_at n0) (kit_str _)))) (fun h => absurd (show true = false from h) (by decide))) rfl) (fun _ => evs_ret evd_bl) (fun h => absurd h (by decide))

/-! ### are_names -/
abbrev s_are_names : Stmt := topS 12
theorem sc_are_names : FnScope ["value", "least", "most", "name"] ["value", "least", "most"] (defScope s_are_names) := ⟨rfl, rfl, rfl, by decide +kernel, rfl, by decide +kernel, by decide +kernel⟩
/-- names of a catalog -/
structure NamesOk (xs : List Str) (lo hi : Int) : Prop where
  each : ∀ x ∈ xs, nameS x = true
  nd : xs.Nodup
  lo : lo ≤ (xs.length : Int)
  hi : (xs.length : Int) ≤ hi
  few : xs.length < 4000
theorem nameS_len {x : Str} (h : nameS x = true) : x.length ≤ 100000 := by
  unfold nameS at h
  rw [Bool.and_eq_true, Bool.and_eq_true] at h
  have z := of_decide_eq_true h.1.2
  omega
theorem nameS_dom {x : Str} (h : nameS x = true) : domName [.str x] (.bool true) := ⟨.str x, rfl, by rw [show nameD (.str x) = nameS x from rfl, h], fun y e => by
  cases e
  exact nameS_len h⟩
def domNames (ds : List D) (c : D) : Prop := ∃ xs lo hi, ds = [.tuple (strL xs), .int lo, .int hi] ∧ NamesOk xs lo hi ∧ c = .bool true
theorem all_true {α : Type} (xs : List α) : (xs.map fun _ => true).all id = true := by
  rw [List.all_map, List.all_eq_true]
  exact fun _ _ => rfl
theorem map_true {α : Type} (xs : List α) : xs.map (fun _ => PyData.bool true) = boolL (xs.map fun _ => true) := by
  unfold boolL
  rw [List.map_map]
  rfl
theorem keeps_names (B : Bi mg) (S : Stands K mg "are_names" s_are_names ["value", "least", "most"]) (K_is_row : Keeps P w K mg base CX0 1 "is_row" ["value", "least", "most"] (spD domRow)) (K_is_name : Keeps P w K mg base CX0 1 "is_name" ["value"] (spD domName)) (K_are_unlike : Keeps P w K mg base CX0 1 "are_unlike" ["keys"] (spD domUnlike)) :
    Keeps P w K mg base CX0 2 "are_names" ["value", "least", "most"] (spD domNames) := by
  refine keeps_of S sc_are_names (fun ds c h => ?_) (fun f cdv A outer s H E hr => ⟨_, (pss_one (ps_ret (pe_and (pe_callD K_is_row (hr.mono (by omega)) (pa_cons (pv 0) (pa_cons (pv 1) (pa_cons (pv 2) pa_nil)))) (pe_and (pe_callB (cr_all rfl) rfl B.all bi_all (pa_cons (pe_lc (own := [("name", 3)]) (g := gName 3) (tt := tYes) rfl sc_are_names.nd (pi_tup (pv 0)) (blkOk_by (N := ["value", "least", "most", "name"]) (sc := defScope s_are_names) (by decide +kernel)) (fun _ _ _ _ _ => (pg_name (i := 3) sc_are_names.nd rfl (.inl rfl))) (fun _ _ _ _ _ => pts_nil) (fun _ _ _ _ _ => (pe_callD K_is_name (hr.mono (by omega)) (pa_cons (pv 3) pa_nil)))) pa_nil)) (pe_one (pe_callD K_are_unlike (hr.mono (by omega)) (pa_cons (pv 0) pa_nil))))))), fun ds c vs G h n => ?_⟩)
  · obtain ⟨xs, lo, hi, rfl, _⟩ := h
    rfl
  · obtain ⟨xs, lo, hi, rfl, N, rfl⟩ := h
    obtain ⟨v, v1, v2, rfl, n0, n1, n2⟩ := dn3 n
    refine evs_ret (evd_and (a := true) (evd_call (ea_cons (evd_at n0) (ea_cons (evd_at n1) (ea_cons (evd_at n2) ea_nil))) ⟨_, _, _, rfl, ?_⟩) (fun _ => evd_and (a := true) (evd_cb (ea_cons (evd_is (evd_lcN (r := fun _ => .bool true) (ei_tup (evd_at n0)) ?_ (fun x => rfl) (fun d hd y G1 e ny => ?_)) ?_) ea_nil) (r_all (all_true xs)))
      (fun _ => evd_call (ea_cons (evd_at n0) ea_nil) ⟨rfl, .inl ⟨xs, .inl rfl, N.nd, N.few⟩⟩)))
    · show PyData.bool true = PyData.bool (decide (lo ≤ ((strL xs).length : Int)) && decide (((strL xs).length : Int) ≤ hi))
      rw [strL_len, decide_eq_true N.lo, decide_eq_true N.hi] <;> rfl
    · rw [strL_len]
      exact Nat.le_trans (Nat.le_of_lt N.few) (by decide)
    · obtain ⟨x, hx, rfl⟩ := List.mem_map.mp hd
      exact evd_call (ea_cons (evd_at ny) ea_nil) (nameS_dom (N.each x hx))
    · unfold strL
      rw [List.map_map]
      exact congrArg PyData.list (map_true xs)
/-! ### is_lane, are_lanes -/
structure Lane where
  h : Str
  r : Str
  lo : Int
  hi : Int
  pr : Int
def Lane.d (l : Lane) : D := .tuple [.str l.h, .str l.r, .int l.lo, .int l.hi, .int l.pr]
structure LaneOk (hs rs : List Str) (l : Lane) : Prop where
  h : l.h ∈ hs
  r : l.r ∈ rs
  lo0 : 0 ≤ l.lo
  lo9 : l.lo ≤ 9
  hi0 : l.lo ≤ l.hi
  hi9 : l.hi ≤ 9
  pr0 : 0 ≤ l.pr
  pr9 : l.pr ≤ 99
abbrev s_is_lane : Stmt := topS 13
theorem sc_is_lane : FnScope ["houses", "regions", "value", "house", "region", "least", "most", "price"] ["houses", "regions", "value"] (defScope s_is_lane) := ⟨rfl, rfl, rfl, by decide +kernel, rfl, by decide +kernel, by decide +kernel⟩
def domLane (ds : List D) (c : D) : Prop := ∃ hs rs l, ds = [.tuple (strL hs), .tuple (strL rs), Lane.d l] ∧ LaneOk hs rs l ∧ c = .bool true
theorem between_dom {i lo hi : Int} (h1 : lo ≤ i) (h2 : i ≤ hi) : domBetween [.int i, .int lo, .int hi] (.bool true) := ⟨_, _, _, rfl, by
  show PyData.bool true = PyData.bool (decide (lo ≤ i) && decide (i ≤ hi))
  rw [decide_eq_true h1, decide_eq_true h2]
  rfl⟩
theorem row_dom {ds : List D} {lo hi : Int} (h1 : lo ≤ (ds.length : Int)) (h2 : (ds.length : Int) ≤ hi) : domRow [.tuple ds, .int lo, .int hi] (.bool true) := ⟨_, _, _, rfl, by
  show PyData.bool true = PyData.bool (decide (lo ≤ (ds.length : Int)) && decide ((ds.length : Int) ≤ hi))
  rw [decide_eq_true h1, decide_eq_true h2]
  rfl⟩
theorem keeps_lane (S : Stands K mg "is_lane" s_is_lane ["houses", "regions", "value"]) (K_is_row : Keeps P w K mg base CX0 1 "is_row" ["value", "least", "most"] (spD domRow)) (K_is_between : Keeps P w K mg base CX0 1 "is_between" ["value", "low", "high"] (spD domBetween)) :
    Keeps P w K mg base CX0 2 "is_lane" ["houses", "regions", "value"] (spD domLane) := by
  refine keeps_of S sc_is_lane (fun ds c h => ?_) (fun f cdv A outer s H E hr => ⟨_, (pss_cons (ps_if (pt_not (pt_val (pe_callD K_is_row (hr.mono (by omega)) (pa_cons (pv 2) (pa_cons pe_int (pa_cons pe_int pa_nil)))))) (pss_one (ps_ret pe_bl)) pss_nil)
    (pss_cons (ps_asg (pv 2) (pg_tup rfl (pgs_cons (pg_name (i := 3) sc_is_lane.nd rfl (.inl rfl)) (pgs_cons (pg_name (i := 4) sc_is_lane.nd rfl (.inl rfl)) (pgs_cons (pg_name (i := 5) sc_is_lane.nd rfl (.inl rfl)) (pgs_cons (pg_name (i := 6) sc_is_lane.nd rfl (.inl rfl)) (pgs_cons (pg_name (i := 7) sc_is_lane.nd rfl (.inl rfl)) pgs_nil)))))))
    (pss_cons (ps_if (PW.pt (pw_or (pt_cmpR op_notIn_seq (pv 3) (pv 0) (by rfl)) (pw_or1 (pt_cmpR op_notIn_seq (pv 4) (pv 1) (by rfl))))) (pss_one (ps_ret pe_bl)) pss_nil)
    (pss_one (ps_ret (pe_and (pe_callD K_is_between (hr.mono (by omega)) (pa_cons (pv 5) (pa_cons pe_int (pa_cons pe_int pa_nil)))) (pe_and (pe_callD K_is_between (hr.mono (by omega)) (pa_cons (pv 6) (pa_cons (pv 5) (pa_cons pe_int pa_nil)))) (pe_one (pe_callD K_is_between (hr.mono (by omega)) (pa_cons (pv 7) (pa_cons pe_int (pa_cons pe_int pa_nil)))))))))))), fun ds c vs G h n => ?_⟩)
  · obtain ⟨hs, rs, l, rfl, _⟩ := h
    rfl
  · obtain ⟨hs, rs, l, rfl, L, rfl⟩ := h
    obtain ⟨v, v1, v2, rfl, n0, n1, n2⟩ := dn3 n
    refine evs_if (b := false) (evt_not (b := true) (evt_B (evd_call (ea_cons (evd_at n2) (ea_cons evd_int (ea_cons evd_int ea_nil))) (row_dom (show (5 : Int) ≤ 5 by decide) (show (5 : Int) ≤ 5 by decide))))) (fun h => nomatch h) (fun _ => ?_)
    refine evs_asg (evd_at n2) (fun G2 _ => eg_five) (fun σ2 G2 e2 ⟨a1, a2, a3, a4, a5, es, m1, m2, m3, m4, m5⟩ => ?_)
    subst es
    refine evs_if (b := false) (evt_is (evt_or (a := false) (b := false) (evt_test (evd_op (evd_at m1) (evd_at n0) (r_inT (neg := true) (by simp [L.h])))) (fun _ => evt_test (evd_op (evd_at m2) (evd_at n1) (r_inT (neg := true) (by simp [L.r]))))) rfl) (fun h => nomatch h) (fun _ => ?_)
    exact evs_ret (evd_and (a := true) (evd_call (ea_cons (evd_at m3) (ea_cons evd_int (ea_cons evd_int ea_nil))) (between_dom L.lo0 L.lo9)) (fun _ => evd_and (a := true) (evd_call (ea_cons (evd_at m4) (ea_cons (evd_at m3) (ea_cons evd_int ea_nil))) (between_dom L.hi0 L.hi9)) (fun _ => evd_call (ea_cons (evd_at m5) (ea_cons evd_int (ea_cons evd_int ea_nil))) (between_dom L.pr0 L.pr9))))

abbrev s_are_lanes : Stmt := topS 14
theorem sc_are_lanes : FnScope ["houses", "regions", "value", "lane"] ["houses", "regions", "value"] (defScope s_are_lanes) := ⟨rfl, rfl, rfl, by decide +kernel, rfl, by decide +kernel, by decide +kernel⟩
structure LanesOk (hs rs : List Str) (ls : List Lane) : Prop where
  each : ∀ l ∈ ls, LaneOk hs rs l
  few : ls.length ≤ 20
  nd : (ls.map fun l => [l.h, l.r]).Nodup
def domLanes (ds : List D) (c : D) : Prop := ∃ hs rs ls, ds = [.tuple (strL hs), .tuple (strL rs), .tuple (ls.map Lane.d)] ∧ LanesOk hs rs ls ∧ c = .bool true
/-- the first two items of a row -/
def twoOf : D → D
  | .tuple (a :: b :: _) => .tuple [a, b]
  | d => d
theorem keeps_lanes (B : Bi mg) (S : Stands K mg "are_lanes" s_are_lanes ["houses", "regions", "value"]) (K_is_row : Keeps P w K mg base CX0 1 "is_row" ["value", "least", "most"] (spD domRow)) (K_is_lane : Keeps P w K mg base CX0 2 "is_lane" ["houses", "regions", "value"] (spD domLane))
    (K_are_unlike : Keeps P w K mg base CX0 1 "are_unlike" ["keys"] (spD domUnlike)) : Keeps P w K mg base CX0 3 "are_lanes" ["houses", "regions", "value"] (spD domLanes) := by
  refine keeps_of S sc_are_lanes (fun ds c h => ?_) (fun f cdv A outer s H E hr => ⟨_, (pss_cons (ps_if (PW.pt (pw_or (pt_not (pt_val (pe_callD K_is_row (hr.mono (by omega)) (pa_cons (pv 2) (pa_cons pe_int (pa_cons pe_int pa_nil)))))) (pw_or1 (pt_not (pt_val (pe_callB (cr_all rfl) rfl B.all bi_all (pa_cons (pe_lc (own := [("lane", 3)]) (g := gName 3) (tt := tYes) rfl sc_are_lanes.nd (pi_tup (pv 2)) (blkOk_by (N := ["houses", "regions", "value", "lane"]) (sc := defScope s_are_lanes) (by decide +kernel)) (fun _ _ _ _ _ => (pg_name (i := 3) sc_are_lanes.nd rfl (.inl rfl))) (fun _ _ _ _ _ => pts_nil) (fun _ _ _ _ _ => (pe_callD K_is_lane (hr.mono (by omega)) (pa_cons (pv 0) (pa_cons (pv 1) (pa_cons (pv 3) pa_nil)))))) pa_nil))))))) (pss_one (ps_ret pe_bl)) pss_nil)
    (pss_one (ps_ret (pe_callD K_are_unlike (hr.mono (by omega)) (pa_cons (pe_lc (own := [("lane", 3)]) (g := gName 3) (tt := tYes) rfl sc_are_lanes.nd (pi_tup (pv 2)) (blkOk_by (N := ["houses", "regions", "value", "lane"]) (sc := defScope s_are_lanes) (by decide +kernel)) (fun _ _ _ _ _ => (pg_name (i := 3) sc_are_lanes.nd rfl (.inl rfl))) (fun _ _ _ _ _ => pts_nil) (fun _ _ _ _ _ => (pe_tup (pa_cons (pe_ix (r := rIxT K) ix_tup (pv 3) pe_int (fun _ _ => rfl)) (pa_cons (pe_ix (r := rIxT K) ix_tup (pv 3) pe_int (fun _ _ => rfl)) pa_nil))))) pa_nil))))), fun ds c vs G h n => ?_⟩)
  · obtain ⟨hs, rs, ls, rfl, _⟩ := h
    rfl
  · obtain ⟨hs, rs, ls, rfl, L, rfl⟩ := h
    obtain ⟨v, v1, v2, rfl, n0, n1, n2⟩ := dn3 n
    have few := L.few
    have len1 : (ls.map Lane.d).length = ls.length := List.length_map _
    refine evs_if (b := false) (evt_is (evt_or (a := false) (b := false) (evt_not (b := true) (evt_B (evd_call (ea_cons (evd_at n2) (ea_cons evd_int (ea_cons evd_int ea_nil))) (row_dom (by omega) (by rw [len1]; omega)))))
      (fun _ => evt_not (b := true) (evt_B (evd_cb (ea_cons (evd_is (evd_lcN (r := fun _ => .bool true) (ei_tup (evd_at n2)) (by rw [len1]; omega) (fun x => rfl) (fun d hd y G1 e ny => ?_)) (congrArg PyData.list (map_true _))) ea_nil) (r_all (all_true _)))))) rfl) (fun h => nomatch h) (fun _ => ?_)
    · obtain ⟨l, hl, rfl⟩ := List.mem_map.mp hd
      exact evd_call (ea_cons (evd_at n0) (ea_cons (evd_at n1) (ea_cons (evd_at ny) ea_nil))) ⟨hs, rs, l, rfl, L.each l hl, rfl⟩
    · refine evs_ret (evd_call (ea_cons (evd_is (d' := .list ((ls.map fun l => [l.h, l.r]).map fun k => PyData.tuple (strL k))) (evd_lcN (r := twoOf) (ei_tup (evd_at n2)) (by rw [len1]; omega) (fun x => rfl) (fun d hd y G1 e ny => ?_)) ?_) ea_nil) ⟨rfl, .inr ⟨_, rfl, L.nd, by rw [List.length_map]; omega⟩⟩)
      · obtain ⟨l, hl, rfl⟩ := List.mem_map.mp hd
        exact evd_tup (ea_cons (evd_op (evd_at ny) (evd_int (i := ((0 : Nat) : Int))) (r_ixT rfl)) (ea_cons (evd_op (evd_at ny) (evd_int (i := ((1 : Nat) : Int))) (r_ixT rfl)) ea_nil)) (show (2 : Nat) ≤ 100000 by decide)
      · rw [List.map_map, List.map_map]
        rfl
/-! ### is_supply, are_supplies -/
structure Sup where
  n : Str
  h : Str
  i : Str
  day : Int
  cnt : Int
def Sup.d (s : Sup) : D := .tuple [.str s.n, .str s.h, .str s.i, .int s.day, .int s.cnt]
structure SupOk (hs its : List Str) (s : Sup) : Prop where
  n : nameS s.n = true
  h : s.h ∈ hs
  i : s.i ∈ its
  day0 : 0 ≤ s.day
  day60 : s.day ≤ 60
  cnt0 : 0 ≤ s.cnt
  cnt99 : s.cnt ≤ 99
abbrev s_is_supply : Stmt := topS 15
theorem sc_is_supply : FnScope ["houses", "items", "value", "name", "house", "item", "day", "count"] ["houses", "items", "value"] (defScope s_is_supply) := ⟨rfl, rfl, rfl, by decide +kernel, rfl, by decide +kernel, by decide +kernel⟩
def domSup (ds : List D) (c : D) : Prop := ∃ hs its s, ds = [.tuple (strL hs), .tuple (strL its), Sup.d s] ∧ SupOk hs its s ∧ c = .bool true
theorem keeps_sup (S : Stands K mg "is_supply" s_is_supply ["houses", "items", "value"]) (K_is_row : Keeps P w K mg base CX0 1 "is_row" ["value", "least", "most"] (spD domRow)) (K_is_name : Keeps P w K mg base CX0 1 "is_name" ["value"] (spD domName)) (K_is_between : Keeps P w K mg base CX0 1 "is_between" ["value", "low", "high"] (spD domBetween)) :
    Keeps P w K mg base CX0 2 "is_supply" ["houses", "items", "value"] (spD domSup) := by
  refine keeps_of S sc_is_supply (fun ds c h => ?_) (fun f cdv A outer s H E hr => ⟨_, (pss_cons (ps_if (pt_not (pt_val (pe_callD K_is_row (hr.mono (by omega)) (pa_cons (pv 2) (pa_cons pe_int (pa_cons pe_int pa_nil)))))) (pss_one (ps_ret pe_bl)) pss_nil)
    (pss_cons (ps_asg (pv 2) (pg_tup rfl (pgs_cons (pg_name (i := 3) sc_is_supply.nd rfl (.inl rfl)) (pgs_cons (pg_name (i := 4) sc_is_supply.nd rfl (.inl rfl)) (pgs_cons (pg_name (i := 5) sc_is_supply.nd rfl (.inl rfl)) (pgs_cons (pg_name (i := 6) sc_is_supply.nd rfl (.inl rfl)) (pgs_cons (pg_name (i := 7) sc_is_supply.nd rfl (.inl rfl)) pgs_nil)))))))
    (pss_cons (ps_if (PW.pt (pw_or (pt_not (pt_val (pe_callD K_is_name (hr.mono (by omega)) (pa_cons (pv 3) pa_nil)))) (pw_or (pt_cmpR op_notIn_seq (pv 4) (pv 0) (by rfl)) (pw_or1 (pt_cmpR op_notIn_seq (pv 5) (pv 1) (by rfl)))))) (pss_one (ps_ret pe_bl)) pss_nil)
    (pss_one (ps_ret (pe_and (pe_callD K_is_between (hr.mono (by omega)) (pa_cons (pv 6) (pa_cons pe_int (pa_cons pe_int pa_nil)))) (pe_one (pe_callD K_is_between (hr.mono (by omega)) (pa_cons (pv 7) (pa_cons pe_int (pa_cons pe_int pa_nil))))))))))), fun ds c vs G h n => ?_⟩)
  · obtain ⟨hs, its, s, rfl, _⟩ := h
    rfl
  · obtain ⟨hs, its, s, rfl, L, rfl⟩ := h
    obtain ⟨v, v1, v2, rfl, n0, n1, n2⟩ := dn3 n
    refine evs_if (b := false) (evt_not (b := true) (evt_B (evd_call (ea_cons (evd_at n2) (ea_cons evd_int (ea_cons evd_int ea_nil))) (row_dom (show (5 : Int) ≤ 5 by decide) (show (5 : Int) ≤ 5 by decide))))) (fun h => nomatch h) (fun _ => ?_)
    refine evs_asg (evd_at n2) (fun G2 _ => eg_five) (fun σ2 G2 e2 ⟨a1, a2, a3, a4, a5, es, m1, m2, m3, m4, m5⟩ => ?_)
    subst es
    refine evs_if (b := false) (evt_is (evt_or (a := false) (b := false) (evt_not (b := true) (evt_B (evd_call (ea_cons (evd_at m1) ea_nil) (nameS_dom L.n)))) (fun _ => evt_is (evt_or (a := false) (b := false) (evt_test (evd_op (evd_at m2) (evd_at n0) (r_inT (neg := true) (by simp [L.h])))) (fun _ => evt_test (evd_op (evd_at m3) (evd_at n1) (r_inT (neg := true) (by simp [L.i]))))) rfl)) rfl) (fun h => nomatch h) (fun _ => ?_)
    exact evs_ret (evd_and (a := true) (evd_call (ea_cons (evd_at m4) (ea_cons evd_int (ea_cons evd_int ea_nil))) (between_dom L.day0 L.day60)) (fun _ => evd_call (ea_cons (evd_at m5) (ea_cons evd_int (ea_cons evd_int ea_nil))) (between_dom L.cnt0 L.cnt99)))
abbrev s_are_supplies : Stmt := topS 16
theorem sc_are_supplies : FnScope ["houses", "items", "value", "supply"] ["houses", "items", "value"] (defScope s_are_supplies) := ⟨rfl, rfl, rfl, by decide +kernel, rfl, by decide +kernel, by decide +kernel⟩
structure SupsOk (hs its : List Str) (ss : List Sup) : Prop where
  each : ∀ s ∈ ss, SupOk hs its s
  few : ss.length ≤ 14
  nd : (ss.map (·.n)).Nodup
def domSups (ds : List D) (c : D) : Prop := ∃ hs its ss, ds = [.tuple (strL hs), .tuple (strL its), .tuple (ss.map Sup.d)] ∧ SupsOk hs its ss ∧ c = .bool true
def oneOf : D → D
  | .tuple (a :: _) => a
  | d => d
theorem keeps_sups (B : Bi mg) (S : Stands K mg "are_supplies" s_are_supplies ["houses", "items", "value"]) (K_is_row : Keeps P w K mg base CX0 1 "is_row" ["value", "least", "most"] (spD domRow)) (K_is_supply : Keeps P w K mg base CX0 2 "is_supply" ["houses", "items", "value"] (spD domSup))
    (K_are_unlike : Keeps P w K mg base CX0 1 "are_unlike" ["keys"] (spD domUnlike)) : Keeps P w K mg base CX0 3 "are_supplies" ["houses", "items", "value"] (spD domSups) := by
  refine keeps_of S sc_are_supplies (fun ds c h => ?_) (fun f cdv A outer s H E hr => ⟨_, (pss_cons (ps_if (PW.pt (pw_or (pt_not (pt_val (pe_callD K_is_row (hr.mono (by omega)) (pa_cons (pv 2) (pa_cons pe_int (pa_cons pe_int pa_nil)))))) (pw_or1 (pt_not (pt_val (pe_callB (cr_all rfl) rfl B.all bi_all (pa_cons (pe_lc (own := [("supply", 3)]) (g := gName 3) (tt := tYes) rfl sc_are_supplies.nd (pi_tup (pv 2)) (blkOk_by (N := ["houses", "items", "value", "supply"]) (sc := defScope s_are_supplies) (by decide +kernel)) (fun _ _ _ _ _ => (pg_name (i := 3) sc_are_supplies.nd rfl (.inl rfl))) (fun _ _ _ _ _ => pts_nil) (fun _ _ _ _ _ => (pe_callD K_is_supply (hr.mono (by omega)) (pa_cons (pv 0) (pa_cons (pv 1) (pa_cons (pv 3) pa_nil)))))) pa_nil))))))) (pss_one (ps_ret pe_bl)) pss_nil)
    (pss_one (ps_ret (pe_callD K_are_unlike (hr.mono (by omega)) (pa_cons (pe_lc (own := [("supply", 3)]) (g := gName 3) (tt := tYes) rfl sc_are_supplies.nd (pi_tup (pv 2)) (blkOk_by (N := ["houses", "items", "value", "supply"]) (sc := defScope s_are_supplies) (by decide +kernel)) (fun _ _ _ _ _ => (pg_name (i := 3) sc_are_supplies.nd rfl (.inl rfl))) (fun _ _ _ _ _ => pts_nil) (fun _ _ _ _ _ => (pe_ix (r := rIxT K) ix_tup (pv 3) pe_int (fun _ _ => rfl)))) pa_nil))))), fun ds c vs G h n => ?_⟩)
  · obtain ⟨hs, its, ss, rfl, _⟩ := h
    rfl
  · obtain ⟨hs, its, ss, rfl, L, rfl⟩ := h
    obtain ⟨v, v1, v2, rfl, n0, n1, n2⟩ := dn3 n
    have few := L.few
    have len1 : (ss.map Sup.d).length = ss.length := List.length_map _
    refine evs_if (b := false) (evt_is (evt_or (a := false) (b := false) (evt_not (b := true) (evt_B (evd_call (ea_cons (evd_at n2) (ea_cons evd_int (ea_cons evd_int ea_nil))) (row_dom (by omega) (by rw [len1]; omega)))))
      (fun _ => evt_not (b := true) (evt_B (evd_cb (ea_cons (evd_is (evd_lcN (r := fun _ => .bool true) (ei_tup (evd_at n2)) (by rw [len1]; omega) (fun x => rfl) (fun d hd y G1 e ny => ?_)) (congrArg PyData.list (map_true _))) ea_nil) (r_all (all_true _)))))) rfl) (fun h => nomatch h) (fun _ => ?_)
    · obtain ⟨l, hl, rfl⟩ := List.mem_map.mp hd
      exact evd_call (ea_cons (evd_at n0) (ea_cons (evd_at n1) (ea_cons (evd_at ny) ea_nil))) ⟨hs, its, l, rfl, L.each l hl, rfl⟩
    · refine evs_ret (evd_call (ea_cons (evd_is (d' := .list (strL (ss.map (·.n)))) (evd_lcN (r := oneOf) (ei_tup (evd_at n2)) (by rw [len1]; omega) (fun x => rfl) (fun d hd y G1 e ny => ?_)) ?_) ea_nil) ⟨rfl, .inl ⟨_, .inr rfl, L.nd, by rw [List.length_map]; omega⟩⟩)
      · obtain ⟨l, hl, rfl⟩ := List.mem_map.mp hd
        exact evd_op (evd_at ny) (evd_int (i := ((0 : Nat) : Int))) (r_ixT rfl)
      · unfold strL
        rw [List.map_map, List.map_map]
        rfl
/-! ### is_catalog, check_catalog -/
structure Cat where
  hs : List Str
  rs : List Str
  its : List Str
  ls : List Lane
  ss : List Sup
def Cat.d (c : Cat) : D := .tuple [.tuple (strL c.hs), .tuple (strL c.rs), .tuple (strL c.its), .tuple (c.ls.map Lane.d), .tuple (c.ss.map Sup.d)]
structure CatOk (c : Cat) : Prop where
  hs : NamesOk c.hs 1 5
  rs : NamesOk c.rs 1 5
  its : NamesOk c.its 1 5
  ls : LanesOk c.hs c.rs c.ls
  ss : SupsOk c.hs c.its c.ss
abbrev s_is_catalog : Stmt := topS 17
theorem sc_is_catalog : FnScope ["value", "houses", "regions", "items", "lanes", "supplies", "names"] ["value"] (defScope s_is_catalog) := ⟨rfl, rfl, rfl, by decide +kernel, rfl, by decide +kernel, by decide +kernel⟩
def domCat (ds : List D) (c : D) : Prop := ∃ t, ds = [Cat.d t] ∧ CatOk t ∧ c = .bool true
theorem keeps_isCat (B : Bi mg) (S : Stands K mg "is_catalog" s_is_catalog ["value"]) (K_is_row : Keeps P w K mg base CX0 1 "is_row" ["value", "least", "most"] (spD domRow)) (K_are_names : Keeps P w K mg base CX0 2 "are_names" ["value", "least", "most"] (spD domNames))
    (K_are_lanes : Keeps P w K mg base CX0 3 "are_lanes" ["houses", "regions", "value"] (spD domLanes)) (K_are_supplies : Keeps P w K mg base CX0 3 "are_supplies" ["houses", "items", "value"] (spD domSups)) : Keeps P w K mg base CX0 4 "is_catalog" ["value"] (spD domCat) := by
  refine keeps_of S sc_is_catalog (fun ds c h => ?_) (fun f cdv A outer s H E hr => ⟨_, (pss_cons (ps_if (pt_not (pt_val (pe_callD K_is_row (hr.mono (by omega)) (pa_cons (pv 0) (pa_cons pe_int (pa_cons pe_int pa_nil)))))) (pss_one (ps_ret pe_bl)) pss_nil)
    (pss_cons (ps_asg (pv 0) (pg_tup rfl (pgs_cons (pg_name (i := 1) sc_is_catalog.nd rfl (.inl rfl)) (pgs_cons (pg_name (i := 2) sc_is_catalog.nd rfl (.inl rfl)) (pgs_cons (pg_name (i := 3) sc_is_catalog.nd rfl (.inl rfl)) (pgs_cons (pg_name (i := 4) sc_is_catalog.nd rfl (.inl rfl)) (pgs_cons (pg_name (i := 5) sc_is_catalog.nd rfl (.inl rfl)) pgs_nil)))))))
    (pss_cons (ps_if (pt_not (pt_val (pe_callB (cr_all rfl) rfl B.all bi_all (pa_cons (pe_lc (own := [("names", 6)]) (g := gName 6) (tt := tYes) rfl sc_is_catalog.nd (pi_tup (pe_tup (pa_cons (pv 1) (pa_cons (pv 2) (pa_cons (pv 3) pa_nil))))) (blkOk_by (N := ["value", "houses", "regions", "items", "lanes", "supplies", "names"]) (sc := defScope s_is_catalog) (by decide +kernel)) (fun _ _ _ _ _ => (pg_name (i := 6) sc_is_catalog.nd rfl (.inl rfl))) (fun _ _ _ _ _ => pts_nil) (fun _ _ _ _ _ => (pe_callD K_are_names (hr.mono (by omega)) (pa_cons (pv 6) (pa_cons pe_int (pa_cons pe_int pa_nil)))))) pa_nil)))) (pss_one (ps_ret pe_bl)) pss_nil)
    (pss_one (ps_ret (pe_and (pe_callD K_are_lanes (hr.mono (by omega)) (pa_cons (pv 1) (pa_cons (pv 2) (pa_cons (pv 4) pa_nil)))) (pe_one (pe_callD K_are_supplies (hr.mono (by omega)) (pa_cons (pv 1) (pa_cons (pv 3) (pa_cons (pv 5) pa_nil))))))))))), fun ds c vs G h n => ?_⟩)
  · obtain ⟨t, rfl, _⟩ := h
    rfl
  · obtain ⟨t, rfl, L, rfl⟩ := h
    obtain ⟨v, rfl, n0⟩ := one_of n
    refine evs_if (b := false) (evt_not (b := true) (evt_B (evd_call (ea_cons (evd_at n0) (ea_cons evd_int (ea_cons evd_int ea_nil))) (row_dom (show (5 : Int) ≤ 5 by decide) (show (5 : Int) ≤ 5 by decide))))) (fun h => nomatch h) (fun _ => ?_)
    refine evs_asg (evd_at n0) (fun G2 _ => eg_five) (fun σ2 G2 e2 ⟨a1, a2, a3, a4, a5, es, m1, m2, m3, m4, m5⟩ => ?_)
    subst es
    refine evs_if (b := false) (evt_not (b := true) (evt_B (evd_cb (ea_cons (evd_is (evd_lcN (r := fun _ => .bool true) (ei_tup (evd_tup (ea_cons (evd_at m1) (ea_cons (evd_at m2) (ea_cons (evd_at m3) ea_nil))) (show (3 : Nat) ≤ 100000 by decide))) (show (3 : Nat) ≤ 40000 by decide) (fun x => rfl) (fun d hd y G1 e ny => ?_)) (congrArg PyData.list (map_true _))) ea_nil) (r_all (all_true _))))) (fun h => nomatch h) (fun _ => ?_)
    · simp only [List.mem_cons, List.not_mem_nil, or_false] at hd
      rcases hd with rfl | rfl | rfl
      · exact evd_call (ea_cons (evd_at ny) (ea_cons evd_int (ea_cons evd_int ea_nil))) ⟨_, _, _, rfl, L.hs, rfl⟩
      · exact evd_call (ea_cons (evd_at ny) (ea_cons evd_int (ea_cons evd_int ea_nil))) ⟨_, _, _, rfl, L.rs, rfl⟩
      · exact evd_call (ea_cons (evd_at ny) (ea_cons evd_int (ea_cons evd_int ea_nil))) ⟨_, _, _, rfl, L.its, rfl⟩
    · exact evs_ret (evd_and (a := true) (evd_call (ea_cons (evd_at m1) (ea_cons (evd_at m2) (ea_cons (evd_at m4) ea_nil))) ⟨_, _, _, rfl, L.ls, rfl⟩) (fun _ => evd_call (ea_cons (evd_at m1) (ea_cons (evd_at m3) (ea_cons (evd_at m5) ea_nil))) ⟨_, _, _, rfl, L.ss, rfl⟩))
abbrev s_check_catalog : Stmt := topS 18
theorem sc_check_catalog : FnScope ["catalog"] ["catalog"] (defScope s_check_catalog) := ⟨rfl, rfl, rfl, by decide +kernel, rfl, by decide +kernel, by decide +kernel⟩
def domCheckCat (ds : List D) (c : D) : Prop := ∃ t, ds = [Cat.d t] ∧ CatOk t ∧ c = .none
theorem keeps_checkCat (S : Stands K mg "check_catalog" s_check_catalog ["catalog"]) (K_is_catalog : Keeps P w K mg base CX0 4 "is_catalog" ["value"] (spD domCat)) : Keeps P w K mg base CX0 5 "check_catalog" ["catalog"] (spD domCheckCat) := by
  obtain ⟨f, fd, F, hm, hb⟩ := S
  refine ⟨f, fd, F.ok sc_check_catalog (fun vs H Q E h => ?_) (fun cdv A outer s H vs Q E hr h => ?_), hm, F.kp, hb⟩
  · obtain ⟨ds, c, G, _, n, ⟨t, rfl, _⟩, _⟩ := h
    rw [n.length]
    rfl
  · obtain ⟨ds, c, G, e, n, ⟨t, rfl, L, rfl⟩, q⟩ := h
    obtain ⟨v, rfl, n0⟩ := one_of n
    refine ⟨_, (pss_one (ps_if (pt_not (pt_val (pe_callD K_is_catalog (hr.mono (by omega)) (pa_cons (pv 0) pa_nil)))) (pss_one ps_never) pss_nil)), ?_⟩
    have k : EvD (tCall (spD domCat) [] E0 (tCons (tVar 0) tNil)) (start ["catalog"] [v]) G (.bool true) := evd_call (ea_cons (evd_at n0) ea_nil) ⟨t, rfl, L, rfl⟩
    refine evt_not (b := true) (evt_B k) H e _ fun G2 H2 g => ?_
    exact q .non G2 H2 g .non
end
end Sh

set_option Elab.async false
set_option linter.all false
set_option maxRecDepth 100000
set_option maxHeartbeats 4000000
/-! defs that raise an own error, by data -/
namespace Sh
open PySem PySem.Spec L2
open PyProof.Rows hiding St
open Evl (Ex)
/-- an own error class stands under its name -/
structure ErrC (K : PySem.W.Frag) (mg : Str → Option Value) (x : Str) (C : Addr) : Prop where
  made : ∃ bmB B newId initId, ExcBaseFacts B newId initId bmB ∧ PySem.W.excIn K C bmB newId = true
  g : mg x = some (.ref C)
  k : PySem.W.keepIn K (.ref C) = true
  b : PySem.W.subIn K (.ref C) (.type "BaseException") = some true
  t : PySem.W.typeIn K (.ref C) = some (.type "type")
  one : PySem.W.exmOne K (.ref C) (.ref C) = some true
def tRaiseC (C : Addr) (W : WX) : TS := fun _ σ H => W (.ref C) none σ H
theorem ps_raiseC {X : Cx} {W : WX} {x m : Str} {C : Addr} {j : Nat} {p p2 pos pos' : Pos} (er : ErrC X.K X.mg x C) (hc : X.calm = true) (tk : L2N.Takes X W) (hg : Gl X x) (hdb : (x == ("__debug__" : Str)) = false := by decide) :
    PS X (.Raise (some (.Call (.Name x p) [.Constant (.str m) j p2] [] pos)) none pos') (tRaiseC C W) := by
  obtain ⟨bmB, B, newId, initId, F, q⟩ := er.made
  exact L2N.ps_raise hc tk (L2N.pmk_own F q er.g er.k (raises_own er.b er.t) hg hdb)
/-- a def that may raise, the error's context kept -/
theorem okN {P : Program} {w : World} {K : PySem.W.Frag} {mg : Str → Option Value} {base : Heap} {x qual : Str} {st : Stmt} {f : Addr} {fd : FuncData} {N ps : List Str} {k : Nat} {sp : Sp} (F : Fun K x qual st f fd) (S : FnScope N ps (defScope st)) (len : ∀ vs H Q E, sp vs H Q E → vs.length = ps.length)
    (hbody : ∀ (cdv : Value) (A : Around) (outer : List Env) (s : Shared) (H : Hp) (vs : List V) (Q : VK) (E : XK), Room k (A.deeper (envOfC qual (defScope st) s.heap.objs.size f cdv)) → sp vs H Q E →
      ∃ t, PSs (cxOf (L2N.CX P w) P w K mg base N qual (defScope st) f cdv A outer s H E) (defBody st) t ∧ t { nx := fun _ H' => Q .non H', rt := Q } (start N vs) H) : FnOk P w K mg base (L2N.CX P w) (k + 1) f fd ps sp := by
  obtain ⟨oc, od, kV, doc, pm, an, cdv, ct, osl, rfl, lk, hcd⟩ := F.ex
  exact fn_of lk hcd S len fun A outer s H vs Q E hr hsp => hbody cdv A outer s H vs Q E hr hsp
/-- the error a def leaves by -/
abbrev wOut (E : XK) : WX := fun cls d _ H => E cls d H
/-- what a def hands back, or the error C -/
def spR (C : Addr) (dom : List D → Option D → Prop) : Sp := fun vs H Q E => ∃ ds o G, Ex G H ∧ DnL G vs ds ∧ dom ds o ∧ (∀ c, o = some c → ∀ v G2 H2, Gr G H G2 H2 → Dn G2 v c → Q v H2) ∧ (o = none → ∀ H2, Ex H H2 → E (.ref C) none H2)
theorem dnc {G : Hp} {vs : List V} {d : D} {ds : List D} (h : DnL G vs (d :: ds)) : ∃ v r, vs = v :: r ∧ Dn G v d ∧ DnL G r ds := by
  cases h with
  | cons h1 h2 => exact ⟨_, _, rfl, h1, h2⟩
theorem dnn {G : Hp} {vs : List V} (h : DnL G vs []) : vs = [] := by
  cases h
  rfl
section
variable {P : Program} {w : World} {K : PySem.W.Frag} {mg : Str → Option Value} {base : Heap} {σ : L2.St} {G : Hp} {te : TE} {t u v : TS} {tt : TT} {c d : D} {o : Option D} {xk : XK} {C : Addr} {ar : TA}
/-- the block hands back o's value, or leaves by the error C -/
def EvX (xk : XK) (C : Addr) (t : TS) (σ : L2.St) (G : Hp) (o : Option D) : Prop := ∀ H, Ex G H → ∀ E : Ends, (∀ c, o = some c → ∀ v G2 H2, Gr G H G2 H2 → Dn G2 v c → E.rt v H2) → (o = none → ∀ H2, Ex H H2 → xk (.ref C) none H2) → t E σ H
theorem EvS.x (h : EvS t σ G c) : EvX xk C t σ G (some c) := fun H e E q _ => h H e E fun v G2 H2 g n => q c rfl v G2 H2 g n
theorem EvX.go {H H1 G1 : Hp} {E : Ends} (h : EvX xk C t σ G1 o) (g : Gr G H G1 H1) (q : ∀ c, o = some c → ∀ v G2 H2, Gr G H G2 H2 → Dn G2 v c → E.rt v H2) (b : o = none → ∀ H2, Ex H H2 → xk (.ref C) none H2) : t E σ H1 :=
  h H1 g.s E (fun c e v G3 H3 g2 n => q c e v G3 H3 (g.trans g2) n) fun e H3 x => b e H3 (g.h.trans x)
theorem EvX.mono {G' : Hp} (e : Ex G G') (h : EvX xk C t σ G o) : EvX xk C t σ G' o := fun H x E q b => h H (e.trans x) E (fun c ec v G2 H2 g n => by
  obtain ⟨G3, a, b⟩ := grow_up e x g
  exact q c ec v G3 H2 b (Dn.mono a c n)) b
theorem evx_ret (h : EvD te σ G c) : EvX xk C (tRet te) σ G (some c) := (evs_ret h).x
theorem evx_if {b : Bool} (h : EvT tt σ G b) (k1 : b = true → EvX xk C t σ G o) (k2 : b = false → EvX xk C u σ G o) : EvX xk C (tSeq (tIfS tt t tNext) u) σ G o := fun H e E q bad => h H e _ fun G2 H2 g => by
  cases b with
  | true =>
    show t { E with nx := u E } σ H2
    exact ((k1 rfl).mono g.g).go (E := { E with nx := u E }) g q bad
  | false =>
    show u E σ H2
    exact ((k2 rfl).mono g.g).go g q bad
theorem evx_set {i : Nat} (h : EvD te σ G d) (k : ∀ v G2, Ex G G2 → Dn G2 v d → EvX xk C u (σ.set i (some v)) G2 o) : EvX xk C (tSeq (tAsg te (gName i)) u) σ G o := fun H e E q bad => h H e _ fun v G2 H2 g n =>
  (k v G2 g.g n).go g q bad
theorem evx_drop (h : EvD te σ G d) (k : ∀ G2, Ex G G2 → EvX xk C u σ G2 o) : EvX xk C (tSeq (tDrop te) u) σ G o := fun H e E q bad => h H e _ fun v G2 H2 g n => (k G2 g.g).go g q bad
theorem evx_raise : EvX xk C (tRaiseC C (wOut xk)) σ G none := fun H e E q bad => bad rfl H (Ex.refl _)
/-- a call that may leave by the same error -/
theorem evx_dropR {dom : List D → Option D → Prop} {ds : List D} {o1 : Option D} (h : EvA ar σ G ds) (hc : dom ds o1) (k : ∀ c1, o1 = some c1 → ∀ G2, Ex G G2 → EvX xk C u σ G2 o) (hn : o1 = none → o = none) : EvX xk C (tSeq (tDrop (tCallS (spR C dom) (WE (wOut xk)) ar)) u) σ G o := fun H e E q bad =>
  h H e _ fun vs G2 H2 g n => ⟨ds, o1, G2, g.s, n, hc, fun c1 e1 v G3 H3 g2 _ => (k c1 e1 G3 (g.g.trans g2.g)).go (g.trans g2) q bad, fun e1 H3 x => bad (hn e1) H3 (g.h.trans x)⟩
/-- the body of a def that may raise, by data -/
theorem keeps_ofR {x : Str} {st : Stmt} {N ps : List Str} {k : Nat} {dom : List D → Option D → Prop} (S : Stands K mg x st ps) (sc : FnScope N ps (defScope st)) (hl : ∀ ds o, dom ds o → ds.length = ps.length)
    (body : ∀ (f : Addr) (cdv : Value) (A : Around) (outer : List Env) (s : Shared) (H : Hp) (E : XK), Room k (A.deeper (envOfC x (defScope st) s.heap.objs.size f cdv)) →
      ∃ t, PSs (cxOf (L2N.CX P w) P w K mg base N x (defScope st) f cdv A outer s H E) (defBody st) t ∧ ∀ ds o vs G, dom ds o → DnL G vs ds → EvX E C (tSeq t (tRet (tC .non))) (start N vs) G o) :
    Keeps P w K mg base (L2N.CX P w) (k + 1) x ps (spR C dom) := by
  obtain ⟨f, fd, F, hm, hb⟩ := S
  refine ⟨f, fd, okN F sc (fun vs H Q E h => ?_) (fun cdv A outer s H vs Q E hr h => ?_), hm, F.kp, hb⟩
  · obtain ⟨ds, c, G, _, n, hd, _⟩ := h
    rw [n.length]
    exact hl ds c hd
  · obtain ⟨ds, o, G, e, n, hd, q, bad⟩ := h
    obtain ⟨t, ht, hq⟩ := body f cdv A outer s H E hr
    exact ⟨t, ht, hq ds o vs G hd n H e { nx := fun _ H' => Q .non H', rt := Q } q bad⟩
/-- .. where every way hands back or raises -/
theorem keeps_ofR2 {x : Str} {st : Stmt} {N ps : List Str} {k : Nat} {dom : List D → Option D → Prop} (S : Stands K mg x st ps) (sc : FnScope N ps (defScope st)) (hl : ∀ ds o, dom ds o → ds.length = ps.length)
    (body : ∀ (f : Addr) (cdv : Value) (A : Around) (outer : List Env) (s : Shared) (H : Hp) (E : XK), Room k (A.deeper (envOfC x (defScope st) s.heap.objs.size f cdv)) →
      ∃ t, PSs (cxOf (L2N.CX P w) P w K mg base N x (defScope st) f cdv A outer s H E) (defBody st) t ∧ ∀ ds o vs G, dom ds o → DnL G vs ds → EvX E C t (start N vs) G o) :
    Keeps P w K mg base (L2N.CX P w) (k + 1) x ps (spR C dom) := by
  obtain ⟨f, fd, F, hm, hb⟩ := S
  refine ⟨f, fd, okN F sc (fun vs H Q E h => ?_) (fun cdv A outer s H vs Q E hr h => ?_), hm, F.kp, hb⟩
  · obtain ⟨ds, c, G, _, n, hd, _⟩ := h
    rw [n.length]
    exact hl ds c hd
  · obtain ⟨ds, o, G, e, n, hd, q, bad⟩ := h
    obtain ⟨t, ht, hq⟩ := body f cdv A outer s H E hr
    exact ⟨t, ht, hq ds o vs G hd n H e { nx := fun _ H' => Q .non H', rt := Q } q bad⟩
/-- a call that does not leave by its error here -/
theorem evx_dropS {C1 : Addr} {W : WX} {dom : List D → Option D → Prop} {ds : List D} {c1 : D} (h : EvA ar σ G ds) (hc : dom ds (some c1)) (k : ∀ G2, Ex G G2 → EvX xk C u σ G2 o) : EvX xk C (tSeq (tDrop (tCallS (spR C1 dom) (WE W) ar)) u) σ G o := fun H e E q bad =>
  h H e _ fun vs G2 H2 g n => ⟨ds, some c1, G2, g.s, n, hc, fun c2 e2 v G3 H3 g2 _ => (k G3 (g.g.trans g2.g)).go (g.trans g2) q bad, fun e1 => nomatch e1⟩
section
variable {X : Cx} {x : Str} {ps : List Str} {sp : Sp} {k : Nat} {W : WX} {e : Expr} {es : List Expr} {p pos : Pos}
theorem pe_callR (F : Keeps X.prog X.w X.K X.mg X.base (L2N.CX X.prog X.w) k x ps sp) (hr : Room k X.A) (tk : L2N.Takes X W) (ha : PA X (e :: es) ar) (hg : Gl X x := by rfl) (hdb : (x == ("__debug__" : Str)) = false := by decide)
    (he : starEach (e :: es) X.env = (false, eval e X.env) :: starEach es X.env := by rfl) (hpl : (backTo pos (starEach es X.env)).any (·.1) = false := by rfl) : PE X (.Call (.Name x p) (e :: es) [] pos) (tCallS sp (WE W) ar) := by
  obtain ⟨f, fd, ok, hm, hk, hb⟩ := F
  exact pe_callS ok hr hg hm hk hb (fun σ => L2N.passAt tk σ) ha hdb he hpl
end
end
end Sh

set_option Elab.async false
set_option linter.all false
set_option maxRecDepth 100000
set_option maxHeartbeats 4000000
/-! one object that changes, beside what stands still -/
namespace Sh
open PySem PySem.Spec L2
open Evl (Ex)
def del (G : Hp) (p : Addr) : Hp := fun a => if a = p then none else G a
theorem del_same {G : Hp} {p : Addr} : del G p p = none := by
  unfold del
  rw [if_pos rfl]
theorem del_ne {G : Hp} {p a : Addr} (h : a ≠ p) : del G p a = G a := by
  unfold del
  rw [if_neg h]
/-- growth but for the object at p, which is not of what stands still -/
structure Gm (p : Addr) (G H G2 H2 : Hp) : Prop where
  g : Ex G G2
  s : Ex G2 H2
  h : ∀ a o, a ≠ p → H a = some o → H2 a = some o
  f : ∀ a, G a = none → H a ≠ none → G2 a = none
  n : G2 p = none
section
variable {p : Addr} {G H G2 H2 G3 H3 : Hp} {o : HO}
theorem Gm.start (e : Ex G H) (hp : H p = none) : Gm p G H G (upd H p o) := ⟨Ex.refl _, e.trans (Ex.new hp), fun a u ha q => (by
  rw [upd_ne ha]
  exact q), fun _ h _ => h, Evl.fresh_back e hp⟩
theorem Gm.step (a : Gm p G H G2 H2) (hp : H2 p = some o) (b : Gr G2 H2 G3 H3) : Gm p G H G3 H3 ∧ H3 p = some o := by
  have ne : H2 p ≠ none := fun z => by
    rw [hp] at z
    cases z
  refine ⟨⟨a.g.trans b.g, b.s, fun x u hx q => b.h _ _ (a.h x u hx q), fun x h1 h2 => ?_, b.f p a.n ne⟩, b.h _ _ hp⟩
  by_cases hx : x = p
  · subst hx
    exact b.f x a.n ne
  · refine b.f x (a.f x h1 h2) fun z => ?_
    cases q : H x with
    | none => exact h2 q
    | some u =>
      have z2 := a.h x u hx q
      rw [z] at z2
      cases z2
theorem Gm.put (a : Gm p G H G2 H2) : Gm p G H G2 (upd H2 p o) := ⟨a.g, Ex.mut a.s a.n, fun x u hx q => (by
  rw [upd_ne hx]
  exact a.h x u hx q), a.f, a.n⟩
/-- what it has become stands still now -/
theorem Gm.close (a : Gm p G H G2 H2) (hp : H p = none) (h2 : H2 p = some o) : Gr G H (upd G2 p o) H2 := ⟨a.g.trans (Ex.new a.n), Ex.lend a.s h2, fun x u q => a.h x u (fun z => by
  rw [z, hp] at q
  cases q) q, fun x h1 h3 => by
  have hx : x ≠ p := fun z => h3 (by rw [z]; exact hp)
  rw [upd_ne hx]
  exact a.f x h1 h3⟩
theorem Gm.drop (a : Gm p G H G2 H2) (hp : H p = none) : Gr G H G2 H2 := ⟨a.g, a.s, fun x u q => a.h x u (fun z => by
  rw [z, hp] at q
  cases q) q, a.f⟩
theorem Gr.unlend (n : G p = none) (b : Gr (upd G p o) H G3 H3) : Gr G H (del G3 p) H3 := ⟨fun a u q => by
  have ha : a ≠ p := fun z => by
    rw [z, n] at q
    cases q
  rw [del_ne ha]
  exact b.g a u (by rw [upd_ne ha]; exact q), fun a u q => by
  by_cases ha : a = p
  · rw [ha, del_same] at q
    cases q
  · rw [del_ne ha] at q
    exact b.s a u q, b.h, fun a h1 h2 => by
  by_cases ha : a = p
  · rw [ha]
    exact del_same
  · rw [del_ne ha]
    exact b.f a (by rw [upd_ne ha]; exact h1) h2⟩
mutual
theorem Dn.undk {kvs : List (Key × V)} (e : G p = some (.dK kvs)) : ∀ (d : D) {v : V}, flatD d = true → Dn G v d → Dn (del G p) v d
  | .none, _, _, h => by cases h; exact .non
  | .bool b, _, _, h => by cases h; exact .bl b
  | .int i, _, _, h => by cases h; exact .int i
  | .str x, _, _, h => by cases h; exact .str x
  | .list ds, _, f, h => by
    cases h with
    | @lst a _ _ h1 h2 =>
      have ha : a ≠ p := fun z => by
        rw [z, e] at h1
        cases h1
      exact .lst (by rw [del_ne ha]; exact h1) (DnL.undk e ds (by unfold flatD at f; exact f) h2)
  | .tuple ds, _, f, h => by
    cases h with
    | @tup a _ _ h1 h2 =>
      have ha : a ≠ p := fun z => by
        rcases h1 with h1 | ⟨o, h1⟩
        · rw [z, e] at h1
          cases h1
        · rw [z, e] at h1
          cases h1
      exact .tup (by unfold Rd at h1 ⊢; rw [del_ne ha]; exact h1) (DnL.undk e ds (by unfold flatD at f; exact f) h2)
  | .dict ps, _, f, h => by
    unfold flatD at f
    cases f
theorem DnL.undk {kvs : List (Key × V)} (e : G p = some (.dK kvs)) : ∀ (ds : List D) {vs : List V}, flatDs ds = true → DnL G vs ds → DnL (del G p) vs ds
  | [], _, _, h => by cases h; exact .nil
  | d :: ds, _, f, h => by
    unfold flatDs at f
    rw [Bool.and_eq_true] at f
    cases h with
    | cons h1 h2 => exact .cons (Dn.undk e d f.1 h1) (DnL.undk e ds f.2 h2)
end
theorem flat_ints : ∀ (xs : List Int), flatDs (intL xs) = true
  | [] => rfl
  | x :: xs => by
    show (flatD (.int x) && flatDs (intL xs)) = true
    rw [flat_ints xs]
    rfl
theorem DnK.snoc {kvs : List (Key × V)} {ps : List (D × D)} {x : Str} {v : V} {d : D} (h : DnK G kvs ps) (n : Dn G v d) : DnK G (kvs ++ [(.inr x, v)]) (ps ++ [(.str x, d)]) := by
  induction ps generalizing kvs with
  | nil =>
    cases h
    exact .cons n .nil
  | cons q ps ih =>
    cases h with
    | cons h1 h2 => exact .cons h1 (ih h2)
theorem DnK.len {kvs : List (Key × V)} {ps : List (D × D)} (h : DnK G kvs ps) : kvs.length = ps.length := by
  induction ps generalizing kvs with
  | nil =>
    cases h
    rfl
  | cons q ps ih =>
    cases h with
    | cons h1 h2 =>
      rw [List.length_cons, List.length_cons, ih h2]
/-- a key that is not there yet -/
theorem putK_new {kvs : List (Key × V)} {ps : List (D × D)} {x : Str} {v : V} (h : DnK G kvs ps) (n : lookD ps x = none) : putK kvs (.inr x) v = kvs ++ [(.inr x, v)] := by
  have z : (kvs.any fun kv => decide (kv.1 = (Sum.inr x : Key))) = false := by
    induction ps generalizing kvs with
    | nil =>
      cases h
      rfl
    | cons q ps ih =>
      cases h with
      | @cons y u kvs' d _ h1 h2 =>
        by_cases hy : y = x
        · subst hy
          unfold lookD at n
          rw [List.find?_cons_of_pos (by simp)] at n
          cases n
        · have n2 : lookD ps x = none := by
            unfold lookD at n ⊢
            rw [List.find?_cons_of_neg (by simpa using hy)] at n
            exact n
          rw [List.any_cons, ih h2 n2, Bool.or_false]
          simpa using hy
  unfold putK
  rw [if_neg (by rw [z]; decide)]
end
end Sh

set_option Elab.async false
set_option linter.all false
set_option maxRecDepth 100000
set_option maxHeartbeats 4000000
/-! bundles -/
namespace Sh
open PySem PySem.Spec L2
open PyProof.Rows hiding St
open Evl (Ex)
abbrev Bun := Str × List (Str × Int)
def pairD (p : Str × Int) : D := .tuple [.str p.1, .int p.2]
def bunD (b : Bun) : D := .tuple [.str b.1, .tuple (b.2.map pairD)]
def partOk (kn : List Str) (p : Str × Int) : Bool := decide (p.1 ∈ kn) && (decide (1 ≤ p.2) && decide (p.2 ≤ 9))
def bunOk (kn : List Str) (b : Bun) : Bool := (nameS b.1 && (!decide (b.1 ∈ kn) && (decide (1 ≤ (b.2.length : Int)) && decide ((b.2.length : Int) ≤ 4)))) && b.2.all (partOk kn)
section
variable {P : Program} {w : World} {K : PySem.W.Frag} {mg : Str → Option Value} {base : Heap}
abbrev s_is_part : Stmt := topS 20
theorem sc_is_part : FnScope ["known", "value"] ["known", "value"] (defScope s_is_part) := ⟨rfl, rfl, rfl, by decide +kernel, rfl, by decide +kernel, by decide +kernel⟩
def domPart (ds : List D) (c : D) : Prop := ∃ kn p, ds = [.list (strL kn), pairD p] ∧ c = .bool (partOk kn p)
theorem row_domF {ds : List D} {lo hi : Int} : domRow [.tuple ds, .int lo, .int hi] (.bool (decide (lo ≤ (ds.length : Int)) && decide ((ds.length : Int) ≤ hi))) := ⟨_, _, _, rfl, rfl⟩
theorem between_domF {i lo hi : Int} : domBetween [.int i, .int lo, .int hi] (.bool (decide (lo ≤ i) && decide (i ≤ hi))) := ⟨_, _, _, rfl, rfl⟩
theorem keeps_part (S : Stands K mg "is_part" s_is_part ["known", "value"]) (K_is_row : Keeps P w K mg base CX0 1 "is_row" ["value", "least", "most"] (spD domRow)) (K_is_between : Keeps P w K mg base CX0 1 "is_between" ["value", "low", "high"] (spD domBetween)) :
    Keeps P w K mg base CX0 2 "is_part" ["known", "value"] (spD domPart) := by
  refine keeps_of S sc_is_part (fun ds c h => ?_) (fun f cdv A outer s H E hr => ⟨_, (pss_one (ps_ret (pe_and (pe_callD K_is_row (hr.mono (by omega)) (pa_cons (pv 1) (pa_cons pe_int (pa_cons pe_int pa_nil)))) (pe_and (pe_cmpR op_in_seq (pe_ix ix_tup (pv 1) pe_int (fun _ _ => rfl)) (pv 0) (by rfl)) (pe_one (pe_callD K_is_between (hr.mono (by omega)) (pa_cons (pe_ix ix_tup (pv 1) pe_int (fun _ _ => rfl)) (pa_cons pe_int (pa_cons pe_int pa_nil))))))))), fun ds c vs G h n => ?_⟩)
  · obtain ⟨kn, p, rfl, _⟩ := h
    rfl
  · obtain ⟨kn, p, rfl, rfl⟩ := h
    obtain ⟨v, v1, rfl, n0, n1⟩ := dn2 n
    refine evs_ret (evd_is (evd_and (evd_call (ea_cons (evd_at n1) (ea_cons evd_int (ea_cons evd_int ea_nil))) (row_dom (show (2 : Int) ≤ 2 by decide) (show (2 : Int) ≤ 2 by decide))) (fun _ => evd_and (evd_op (evd_op (evd_at n1) (evd_int (i := ((0 : Nat) : Int))) (r_ixT rfl)) (evd_at n0) (r_inL (neg := false) rfl)) (fun _ => evd_call (ea_cons (evd_op (evd_at n1) (evd_int (i := ((1 : Nat) : Int))) (r_ixT rfl)) (ea_cons evd_int (ea_cons evd_int ea_nil))) between_domF))) ?_)
    rfl
abbrev s_is_bundle : Stmt := topS 21
theorem sc_is_bundle : FnScope ["known", "value", "name", "parts", "part"] ["known", "value"] (defScope s_is_bundle) := ⟨rfl, rfl, rfl, by decide +kernel, rfl, by decide +kernel, by decide +kernel⟩
def domBun (ds : List D) (c : D) : Prop := ∃ kn b, ds = [.list (strL kn), bunD b] ∧ (b.2.map (·.1)).Nodup ∧ b.1.length ≤ 100000 ∧ b.2.length ≤ 60 ∧ c = .bool (bunOk kn b)
def partOkD (kn : List Str) : D → D
  | .tuple [.str x, .int i] => .bool (partOk kn (x, i))
  | _ => .none
theorem nameD_str {x : Str} (h : x.length ≤ 100000) : domName [.str x] (.bool (nameS x)) := ⟨.str x, rfl, rfl, fun y e => by cases e; exact h⟩
theorem keeps_bun (B : Bi mg) (S : Stands K mg "is_bundle" s_is_bundle ["known", "value"]) (K_is_row : Keeps P w K mg base CX0 1 "is_row" ["value", "least", "most"] (spD domRow)) (K_is_name : Keeps P w K mg base CX0 1 "is_name" ["value"] (spD domName))
    (K_is_part : Keeps P w K mg base CX0 2 "is_part" ["known", "value"] (spD domPart)) (K_are_unlike : Keeps P w K mg base CX0 1 "are_unlike" ["keys"] (spD domUnlike)) :
    Keeps P w K mg base CX0 3 "is_bundle" ["known", "value"] (spD domBun) := by
  refine keeps_of S sc_is_bundle (fun ds c h => ?_) (fun f cdv A outer s H E hr => ⟨_, (pss_cons (ps_if (pt_not (pt_val (pe_callD K_is_row (hr.mono (by omega)) (pa_cons (pv 1) (pa_cons pe_int (pa_cons pe_int pa_nil)))))) (pss_one (ps_ret pe_bl)) pss_nil)
    (pss_cons (ps_asg (pv 1) (pg_tup rfl (pgs_cons (pg_name (i := 2) sc_is_bundle.nd rfl (.inl rfl)) (pgs_cons (pg_name (i := 3) sc_is_bundle.nd rfl (.inl rfl)) pgs_nil))))
    (pss_cons (ps_if (PW.pt (pw_or (pt_not (pt_val (pe_callD K_is_name (hr.mono (by omega)) (pa_cons (pv 2) pa_nil)))) (pw_or (pt_cmpR op_in_seq (pv 2) (pv 0) (by rfl)) (pw_or1 (pt_not (pt_val (pe_callD K_is_row (hr.mono (by omega)) (pa_cons (pv 3) (pa_cons pe_int (pa_cons pe_int pa_nil)))))))))) (pss_one (ps_ret pe_bl)) pss_nil)
    (pss_one (ps_ret (pe_and (pe_callB (cr_all rfl) rfl B.all bi_all (pa_cons (pe_lc (own := [("part", 4)]) (g := gName 4) (tt := tYes) rfl sc_is_bundle.nd (pi_tup (pv 3)) (blkOk_by (N := ["known", "value", "name", "parts", "part"]) (sc := defScope s_is_bundle) (by decide +kernel)) (fun _ _ _ _ _ => (pg_name (i := 4) sc_is_bundle.nd rfl (.inl rfl))) (fun _ _ _ _ _ => pts_nil) (fun _ _ _ _ _ => (pe_callD K_is_part (hr.mono (by omega)) (pa_cons (pv 0) (pa_cons (pv 4) pa_nil))))) pa_nil)) (pe_one (pe_callD K_are_unlike (hr.mono (by omega)) (pa_cons (pe_lc (own := [("part", 4)]) (g := gName 4) (tt := tYes) rfl sc_is_bundle.nd (pi_tup (pv 3)) (blkOk_by (N := ["known", "value", "name", "parts", "part"]) (sc := defScope s_is_bundle) (by decide +kernel)) (fun _ _ _ _ _ => (pg_name (i := 4) sc_is_bundle.nd rfl (.inl rfl))) (fun _ _ _ _ _ => pts_nil) (fun _ _ _ _ _ => (pe_ix (r := rIxT K) ix_tup (pv 4) pe_int (fun _ _ => rfl)))) pa_nil))))))))), fun ds c vs G h n => ?_⟩)
  · obtain ⟨kn, b, rfl, _⟩ := h
    rfl
  · obtain ⟨kn, b, rfl, nd, hx, few, rfl⟩ := h
    obtain ⟨v, v1, rfl, n0, n1⟩ := dn2 n
    have len1 : (b.2.map pairD).length = b.2.length := List.length_map _
    refine evs_if (b := false) (evt_not (b := true) (evt_B (evd_call (ea_cons (evd_at n1) (ea_cons evd_int (ea_cons evd_int ea_nil))) (row_dom (show (2 : Int) ≤ 2 by decide) (show (2 : Int) ≤ 2 by decide))))) (fun h => nomatch h) (fun _ => ?_)
    refine evs_asg (evd_at n1) (fun G2 _ => eg_pair) (fun σ2 G2 e2 ⟨a1, a2, es, m1, m2⟩ => ?_)
    subst es
    refine evs_if (b := !(nameS b.1 && (!decide (b.1 ∈ kn) && (decide (1 ≤ (b.2.length : Int)) && decide ((b.2.length : Int) ≤ 4))))) (evt_is (evt_or (evt_not (evt_B (evd_call (ea_cons (evd_at m1) ea_nil) (nameD_str hx)))) (fun _ => evt_or (evt_test (evd_op (evd_at m1) (evd_at n0) (r_inL (neg := false) rfl)))
      (fun _ => evt_not (evt_B (evd_is (d' := .bool (decide (1 ≤ (b.2.length : Int)) && decide ((b.2.length : Int) ≤ 4))) (evd_call (ea_cons (evd_at m2) (ea_cons evd_int (ea_cons evd_int ea_nil))) row_domF) (by rw [len1])))))) ?_) (fun h1 => ?_) (fun h1 => ?_)
    · show (!nameS b.1 || (decide (b.1 ∈ kn) || !(decide (1 ≤ (b.2.length : Int)) && decide ((b.2.length : Int) ≤ 4)))) = _
      cases nameS b.1 <;> cases decide (b.1 ∈ kn) <;> rfl
    · refine evs_ret (evd_is evd_bl ?_)
      unfold bunOk
      rw [Bool.not_eq_true'] at h1
      rw [h1]
      rfl
    · rw [Bool.not_eq_false'] at h1
      have few4 : b.2.length ≤ 4 := by
        rw [Bool.and_eq_true, Bool.and_eq_true, Bool.and_eq_true] at h1
        have z := of_decide_eq_true h1.2.2.2
        omega
      refine evs_ret (evd_is (evd_and (b := true) (evd_cb (ea_cons (evd_is (d' := .list (boolL (b.2.map (partOk kn)))) (evd_lcN (r := partOkD kn) (ei_tup (evd_at m2)) (by rw [len1]; omega) (fun x => rfl) (fun d hd y G1 e ny => ?_)) ?_) ea_nil) (r_all (b := b.2.all (partOk kn)) ?_))
        (fun _ => evd_call (ea_cons (evd_is (d' := .list (strL (b.2.map (·.1)))) (evd_lcN (r := oneOf) (ei_tup (evd_at m2)) (by rw [len1]; omega) (fun x => rfl) (fun d hd y G1 e ny => ?_)) ?_) ea_nil) ⟨rfl, .inl ⟨_, .inr rfl, nd, by rw [List.length_map]; omega⟩⟩)) ?_)
      · obtain ⟨p, hp, rfl⟩ := List.mem_map.mp hd
        exact evd_call (ea_cons (evd_at n0 (e2.trans e)) (ea_cons (evd_at ny) ea_nil)) ⟨kn, p, rfl, rfl⟩
      · unfold boolL
        rw [List.map_map, List.map_map]
        rfl
      · rw [List.all_map]
        rfl
      · obtain ⟨p, hp, rfl⟩ := List.mem_map.mp hd
        exact evd_op (evd_at ny) (evd_int (i := ((0 : Nat) : Int))) (r_ixT rfl)
      · unfold strL
        rw [List.map_map, List.map_map]
        rfl
      · unfold bunOk
        rw [h1, Bool.and_true, Bool.true_and]
abbrev s_are_bundles : Stmt := topS 22
theorem sc_are_bundles : FnScope ["items", "value", "known", "bundle"] ["items", "value"] (defScope s_are_bundles) := ⟨rfl, rfl, rfl, by decide +kernel, rfl, by decide +kernel, by decide +kernel⟩
def bunsOk : List Str → List Bun → Bool
  | _, [] => true
  | kn, b :: r => bunOk kn b && bunsOk (kn ++ [b.1]) r
/-- what is asked of bundles that are shown -/
structure BunDom (bs : List Bun) : Prop where
  nd : ∀ b ∈ bs, (b.2.map (·.1)).Nodup
  name : ∀ b ∈ bs, b.1.length ≤ 100000
  parts : ∀ b ∈ bs, b.2.length ≤ 60
  few : bs.length ≤ 1000
/-- bundles, or None -/
def bunsD : Option (List Bun) → D
  | none => .none
  | some bs => .tuple (bs.map bunD)
def bunsOkD (its : List Str) : Option (List Bun) → Bool
  | none => false
  | some bs => decide ((bs.length : Int) ≤ 6) && bunsOk its bs
def domBuns (ds : List D) (c : D) : Prop := ∃ its o, ds = [.tuple (strL its), bunsD o] ∧ its.length ≤ 1000 ∧ (∀ bs, o = some bs → BunDom bs) ∧ c = .bool (bunsOkD its o)
theorem row_domN {lo hi : Int} : domRow [.none, .int lo, .int hi] (.bool false) := ⟨_, _, _, rfl, rfl⟩
theorem keeps_buns (B : Bi mg) (S : Stands K mg "are_bundles" s_are_bundles ["items", "value"]) (K_is_row : Keeps P w K mg base CX0 1 "is_row" ["value", "least", "most"] (spD domRow)) (K_is_bundle : Keeps P w K mg base CX0 3 "is_bundle" ["known", "value"] (spD domBun)) :
    Keeps P w K mg base CX0 4 "are_bundles" ["items", "value"] (spD domBuns) := by
  refine keeps_of S sc_are_bundles (fun ds c h => ?_) (fun f cdv A outer s H E hr => ⟨_, (pss_cons (ps_if (pt_not (pt_val (pe_callD K_is_row (hr.mono (by omega)) (pa_cons (pv 1) (pa_cons pe_int (pa_cons pe_int pa_nil)))))) (pss_one (ps_ret pe_bl)) pss_nil)
    (pss_cons (ps_set (i := 2) sc_are_bundles.nd rfl (.inl rfl) (pe_callTy call_list_of rfl B.list bi_list (pa_cons (pv 0) pa_nil)))
    (pss_cons (ps_for PassesOwn.never rfl (pi_tup (pv 1)) (pg_name (i := 3) sc_are_bundles.nd rfl (.inl rfl))
      (pss_cons (ps_if (pt_not (pt_val (pe_callD K_is_bundle (hr.mono (by omega)) (pa_cons (pv 2) (pa_cons (pv 3) pa_nil))))) (pss_one (ps_ret pe_bl)) pss_nil)
    (pss_one (ps_expr (pe_bm PySem.F.plainAttrs_list PySem.F.slot_list_append PySem.F.type_list_append mt_append (pv 2) (pa_cons (pe_ix ix_tup (pv 3) pe_int (fun _ _ => rfl)) pa_nil))))))
    (pss_one (ps_ret pe_bl))))), fun ds c vs G h n => ?_⟩)
  · obtain ⟨its, o, rfl, _⟩ := h
    rfl
  · obtain ⟨its, o, rfl, hi, hb, rfl⟩ := h
    obtain ⟨v0, v1, rfl, n0, n1⟩ := dn2 n
    cases o with
    | none => exact evs_if (b := true) (evt_not (b := false) (evt_B (evd_call (ea_cons (evd_at n1) (ea_cons evd_int (ea_cons evd_int ea_nil))) row_domN))) (fun _ => evs_ret evd_bl) (fun h => nomatch h)
    | some bs =>
      have BD := hb bs rfl
      have few := BD.few
      have len1 : (bs.map bunD).length = bs.length := List.length_map _
      refine evs_if (b := !decide ((bs.length : Int) ≤ 6)) (evt_not (evt_B (evd_is (evd_call (ea_cons (evd_at n1) (ea_cons evd_int (ea_cons evd_int ea_nil))) row_domF) ?_))) (fun h1 => ?_) (fun h1 => ?_)
      · rw [len1, decide_eq_true (show (0 : Int) ≤ (bs.length : Int) by omega)]
        rfl
      · refine evs_ret (evd_is evd_bl ?_)
        rw [Bool.not_eq_true'] at h1
        show PyData.bool false = PyData.bool (decide ((bs.length : Int) ≤ 6) && bunsOk its bs)
        rw [h1]
        rfl
      · rw [Bool.not_eq_false'] at h1
        show EvS _ _ G (.bool (decide ((bs.length : Int) ≤ 6) && bunsOk its bs))
        rw [h1, Bool.true_and]
        intro H0 e0 E0' q
        cases n0 with
        | tup g0 m0 =>
          have e1 := dn_strs m0
          subst e1
          -- known = list(items)
          refine ⟨_, rfl, _, _, rfl, .inr (.inl (rdx e0 g0)), fun l hl => ?_⟩
          have gl : G l = none := Evl.fresh_back e0 hl
          refine for_dataN (G := G) (ei_tup (evd_at n1)) (e0.trans (Ex.new hl)) (fun G1 H1 i σ' H' => Ex G1 H' ∧ G1 l = none ∧ (∀ a o, a ≠ l → H1 a = some o → H' a = some o) ∧ H' l = some (.lst ((its ++ (bs.take i).map (·.1)).map V.str)) ∧ (∃ y z, σ' = [some y, some v1, some (.ref l), z] ) ∧ bunsOk its bs = bunsOk (its ++ (bs.take i).map (·.1)) (bs.drop i))
            (fun _ _ _ _ _ p => p.1) (fun G1 H1 g1 => ?_) (fun G1 H1 i d x σ' H' G2 H2 g1 hd p g2 nx => ?_) (fun G1 H1 σ' H' g1 p => ?_)
          · refine ⟨g1.s, g1.f l gl (by rw [upd_same]; intro z; cases z), fun a o _ h => h, ?_, ⟨_, none, rfl⟩, ?_⟩
            · rw [g1.h l _ upd_same, List.take_zero, List.map_nil, List.append_nil]
            · rw [List.take_zero, List.map_nil, List.append_nil, List.drop_zero]
          · obtain ⟨x1, nl, x2, x3, ⟨y, z, rfl⟩, x4⟩ := p
            obtain ⟨b, hb', rfl⟩ : ∃ b, bs[i]? = some b ∧ d = bunD b := by
              rw [List.getElem?_map] at hd
              cases k : bs[i]? with
              | none =>
                rw [k] at hd
                cases hd
              | some b =>
                rw [k] at hd
                exact ⟨b, rfl, (Option.some.inj hd).symm⟩
            have mem : b ∈ bs := List.mem_of_getElem? hb'
            have lt : i < bs.length := (List.getElem?_eq_some_iff.mp hb').1
            have tk := take_len hb'
            have dr : bs.drop i = b :: bs.drop (i + 1) := by
              rw [List.drop_eq_getElem_cons lt]
              congr 1
              exact Option.some.inj ((List.getElem?_eq_getElem lt).symm.trans hb')
            have h2l := g2.h l _ x3
            have lend := Ex.lend g2.s h2l
            have nl2 : G2 l = none := g2.f l nl (by rw [x3]; intro z; cases z)
            have kn : Dn (upd G2 l (.lst ((its ++ (bs.take i).map (·.1)).map V.str))) (.ref l) (.list (strL (its ++ (bs.take i).map (·.1)))) := .lst upd_same (strs_dn _)
            have nx2 := Dn.mono (Ex.new (o := .lst ((its ++ (bs.take i).map (·.1)).map V.str)) nl2) _ nx
            have t1 : EvD (tVar 2) [some y, some v1, some (.ref l), some x] (upd G2 l (.lst ((its ++ (bs.take i).map (·.1)).map V.str))) (.list (strL (its ++ (bs.take i).map (·.1)))) := evd_at kn
            have t2 : EvD (tVar 3) [some y, some v1, some (.ref l), some x] (upd G2 l (.lst ((its ++ (bs.take i).map (·.1)).map V.str))) (bunD b) := evd_at nx2
            have dm : domBun [.list (strL (its ++ (bs.take i).map (·.1))), bunD b] (.bool (bunOk (its ++ (bs.take i).map (·.1)) b)) := ⟨_, b, rfl, BD.nd b mem, BD.name b mem, BD.parts b mem, rfl⟩
            have keep0 : ∀ G3 H3, Gr (upd G2 l (.lst ((its ++ (bs.take i).map (·.1)).map V.str))) H2 G3 H3 → ∀ a o, a ≠ l → H1 a = some o → H3 a = some o := fun G3 H3 g3 a o ha h => g3.h _ _ (g2.h _ _ (x2 a o ha h))
            refine tif_of (evt_not (evt_B (evd_call (ea_cons t1 (ea_cons t2 ea_nil)) dm))) lend (fun hok G3 H3 g3 => ?_) (fun hok G3 H3 g3 => ?_)
            · rw [Bool.not_eq_true'] at hok
              have keep := keep0 G3 H3 g3
              show E0'.rt (.bl false) H3
              have e2 : bunsOk its bs = false := by
                rw [x4, dr]
                show (bunOk _ b && _) = false
                rw [hok]
                rfl
              rw [e2] at q
              exact q (.bl false) G1 H3 ⟨g1.g, g2.g.trans (Ex.new nl2) |>.trans (g3.g.trans g3.s), fun a o h => keep a o (fun z => by rw [z, hl] at h; cases h) (g1.h a o (by rw [upd_ne (fun z => by rw [z, hl] at h; cases h)]; exact h)), fun a z1 z2 => g1.f a z1 (fun z => z2 (by
                by_cases za : a = l
                · rw [za]
                  exact hl
                · rw [upd_ne za] at z
                  exact z))⟩ (.bl false)
            · rw [Bool.not_eq_false'] at hok
              have keep := keep0 G3 H3 g3
              have h3l := g3.h l _ h2l
              refine ⟨_, rfl, .inl ⟨rfl, _, .inl (.inl h3l)⟩, ?_⟩
              have h3x : Ex G2 H3 := (Ex.new nl2).trans (g3.g.trans g3.s)
              refine evd_op (evd_at nx) (evd_int (i := ((0 : Nat) : Int))) (r_ixT rfl) H3 h3x _ fun u G4 H4 g4 n4 => ?_
              cases n4
              have h4l := g4.h l _ h3l
              refine ⟨_, _, _, rfl, rfl, h4l, ?_, ?_, nl, fun a o ha h => ?_, ?_, ⟨_, _, rfl⟩, ?_⟩
              · rw [List.length_map, List.length_append, List.length_map, List.length_take]
                exact Nat.lt_of_le_of_lt (show _ ≤ 5000 by omega) (by decide)
              · exact Ex.mut (g2.g.trans (g4.g.trans g4.s)) nl
              · rw [upd_ne ha]
                exact g4.h _ _ (keep a o ha h)
              · rw [upd_same, tk]
                simp only [List.map_append, List.append_assoc]
                rfl
              · rw [x4, dr]
                show (bunOk _ b && bunsOk _ _) = _
                rw [hok, Bool.true_and, tk, List.map_append, ← List.append_assoc]
                rfl
          · obtain ⟨x1, nl, x2, x3, ⟨y, z, rfl⟩, x4⟩ := p
            rw [len1] at x4
            have e2 : bunsOk its bs = true := by
              rw [x4, List.drop_length]
              rfl
            rw [e2] at q
            exact q (.bl true) G1 H' ⟨g1.g, x1, fun a o h => x2 a o (fun z => by rw [z, hl] at h; cases h) (g1.h a o (by rw [upd_ne (fun z => by rw [z, hl] at h; cases h)]; exact h)), fun a z1 z2 => g1.f a z1 (fun z => z2 (by
                by_cases za : a = l
                · rw [za]
                  exact hl
                · rw [upd_ne za] at z
                  exact z))⟩ (.bl true)
end
end Sh

set_option Elab.async false
set_option linter.all false
set_option maxRecDepth 100000
set_option maxHeartbeats 4000000
/-! bundles: tables of what they hold -/
namespace Sh
open PySem PySem.Spec L2
open PyProof.Rows hiding St
open Evl (Ex)
section
variable {P : Program} {w : World} {K : PySem.W.Frag} {mg : Str → Option Value} {base : Heap} {CI : Addr}
abbrev s_check_bundles : Stmt := topS 23
theorem sc_check_bundles : FnScope ["catalog", "bundles"] ["catalog", "bundles"] (defScope s_check_bundles) := ⟨rfl, rfl, rfl, by decide +kernel, rfl, by decide +kernel, by decide +kernel⟩
structure CheckB (t : Cat) (o : Option (List Bun)) : Prop where
  few : t.its.length ≤ 1000
  dom : ∀ bs, o = some bs → BunDom bs
def domCheckB (ds : List D) (r : Option D) : Prop := ∃ t o, ds = [Cat.d t, bunsD o] ∧ CheckB t o ∧ r = (if bunsOkD t.its o then some .none else none)
theorem keeps_checkB (er : ErrC K mg "BadItem" CI) (S : Stands K mg "check_bundles" s_check_bundles ["catalog", "bundles"]) (K_are_bundles : Keeps P w K mg base CX0 4 "are_bundles" ["items", "value"] (spD domBuns)) :
    Keeps P w K mg base (L2N.CX P w) 5 "check_bundles" ["catalog", "bundles"] (spR CI domCheckB) := by
  refine keeps_ofR S sc_check_bundles (fun ds c h => ?_) (fun f cdv A outer s H E hr => ⟨_, (pss_one (ps_if (pt_not (pt_val (pe_callD K_are_bundles (hr.mono (by omega)) (pa_cons (pe_ix ix_tup (pv 0) pe_int (fun _ _ => rfl)) (pa_cons (pv 1) pa_nil))))) (pss_one (ps_raiseC er rfl (L2N.takes_of rfl rfl rfl rfl) rfl)) pss_nil)), fun ds c vs G h n => ?_⟩)
  · obtain ⟨t, o, rfl, _⟩ := h
    rfl
  · obtain ⟨t, o, rfl, hd, rfl⟩ := h
    obtain ⟨v, v1, rfl, n0, n1⟩ := dn2 n
    have t1 : EvT (tNot (tB (tCall (spD domBuns) [] E0 (tCons (tOp (rIxT K) (tVar 0) (tC (.int 2))) (tCons (tVar 1) tNil))))) (start ["catalog", "bundles"] [v, v1]) G (!bunsOkD t.its o) :=
      evt_not (evt_B (evd_call (ea_cons (evd_op (evd_at n0) (evd_int (i := ((2 : Nat) : Int))) (r_ixT (c := .tuple (strL t.its)) rfl)) (ea_cons (evd_at n1) ea_nil)) ⟨t.its, o, rfl, hd.few, hd.dom, rfl⟩))
    cases hb : bunsOkD t.its o with
    | true =>
      rw [hb] at t1
      exact evx_if (b := false) t1 (fun z => nomatch z) (fun _ => by
        rw [if_pos rfl]
        exact evx_ret (evd_c .non))
    | false =>
      rw [hb] at t1
      exact evx_if (b := true) t1 (fun _ => by
        rw [if_neg (by decide)]
        exact evx_raise) (fun z => nomatch z)
end
abbrev Tab := List (Str × List Int)
def look (t : Tab) (x : Str) : Option (List Int) := (t.find? fun p => decide (p.1 = x)).map (·.2)
def tabP (t : Tab) : List (D × D) := t.map fun p => (.str p.1, .list (intL p.2))
def tabD (t : Tab) : D := .dict (tabP t)
theorem look_tab (t : Tab) (x : Str) : lookD (tabP t) x = (look t x).map fun l => .list (intL l) := by
  induction t with
  | nil => rfl
  | cons p t ih =>
    by_cases h : p.1 = x
    · subst h
      unfold lookD look tabP
      rw [List.map_cons, List.find?_cons_of_pos (by simp), List.find?_cons_of_pos (by simp)]
      rfl
    · unfold lookD look tabP at ih ⊢
      rw [List.map_cons, List.find?_cons_of_neg (by simpa using h), List.find?_cons_of_neg (by simpa using h)]
      exact ih
def cnt (t : Tab) (ps : List (Str × Int)) (p : Nat) : Int := (ps.map fun q => ((look t q.1).getD []).getD p 0 * q.2).sum
def countsF (t : Tab) (n : Nat) (ps : List (Str × Int)) : List Int := (List.range n).map (cnt t ps)
section
variable {P : Program} {w : World} {K : PySem.W.Frag} {mg : Str → Option Value} {base : Heap}
abbrev s_counts_of : Stmt := topS 24
theorem sc_counts_of : FnScope ["width", "table", "pairs", "place", "name", "count"] ["width", "table", "pairs"] (defScope s_counts_of) := ⟨rfl, rfl, rfl, by decide +kernel, rfl, by decide +kernel, by decide +kernel⟩
structure CntDom (n : Nat) (t : Tab) (ps : List (Str × Int)) : Prop where
  width : n ≤ 1000
  many : ps.length ≤ 1000
  has : ∀ q ∈ ps, ∃ l, look t q.1 = some l ∧ n ≤ l.length
  lo : ∀ q ∈ ps, 0 ≤ q.2
  hi : ∀ q ∈ ps, q.2 ≤ 1000
def domCounts (ds : List D) (c : D) : Prop := ∃ n t ps, ds = [.int (n : Nat), tabD t, .tuple (ps.map pairD)] ∧ CntDom n t ps ∧ c = .list (intL (countsF t n ps))
theorem keeps_counts (B : Bi mg) (S : Stands K mg "counts_of" s_counts_of ["width", "table", "pairs"]) : Keeps P w K mg base CX0 1 "counts_of" ["width", "table", "pairs"] (spD domCounts) := by
  refine keeps_of S sc_counts_of (fun ds c h => ?_) (fun f cdv A outer s H E hr => ⟨_, (pss_one (ps_ret (pe_lc (own := [("place", 3)]) (g := gName 3) (tt := tYes) rfl sc_counts_of.nd (pi_range1 rfl B.range (pa_cons (pv 0) pa_nil)) (blkOk_by (N := ["width", "table", "pairs", "place", "name", "count"]) (sc := defScope s_counts_of) (by decide +kernel)) (fun _ _ _ _ _ => (pg_name (i := 3) sc_counts_of.nd rfl (.inr rfl))) (fun _ _ _ _ _ => pts_nil) (fun _ _ _ _ _ => (pe_callB (r := rSum K) (cr_sum rfl) rfl B.sum bi_sum (pa_cons (by exact (pe_lc (own := [("name", 4), ("count", 5)]) (g := gTup K 2 (gCons (gName 4) (gCons (gName 5) gNil))) (tt := tYes) (wi := iTup K (tVar 2)) rfl sc_counts_of.nd (pi_tup (pv 2)) (blkOk_by (by kernel_rfl)) (fun _ _ _ _ _ => (pg_tup rfl (pgs_cons (pg_name (i := 4) sc_counts_of.nd rfl (.inl rfl)) (pgs_cons (pg_name (i := 5) sc_counts_of.nd rfl (.inl rfl)) pgs_nil)))) (fun _ _ _ _ _ => pts_nil) (fun _ _ _ _ _ => (pe_op op_mul (pe_ix (r := rIxL K) ix_list (pe_dget (hu_of hr) (pv 1) (pv 4) (fun _ _ => rfl)) (pv 3) (fun _ _ => rfl)) (pv 5))))) pa_nil)))))), fun ds c vs G h n => ?_⟩)
  · obtain ⟨n, t, ps, rfl, _⟩ := h
    rfl
  · obtain ⟨m, t, ps, rfl, hd, rfl⟩ := h
    obtain ⟨v, v1, v2, rfl, n0, n1, n2⟩ := dn3 n
    refine evs_ret (evd_is (evd_lcN (r := fun d => match d with | .int i => .int (cnt t ps i.toNat) | _ => .none) (ei_range (n := m) (ea_cons (evd_at n0) ea_nil) (by have := hd.width; omega)) ?_ (fun x => rfl) (fun d hd' x G1 e nx => ?_)) ?_)
    · unfold upTo
      rw [List.length_map, List.length_range]
      have := hd.width
      omega
    · unfold upTo at hd'
      obtain ⟨p, hp, rfl⟩ := List.mem_map.mp hd'
      have hp' : p < m := List.mem_range.mp hp
      refine evd_cb (ea_cons (evd_is (d' := .list (intL (ps.map fun q => ((look t q.1).getD []).getD p 0 * q.2))) (evd_lcP (r := fun d => match d with | .tuple [.str x, .int c] => .int (((look t x).getD []).getD p 0 * c) | _ => .none) (ei_tup (evd_at n2 e)) ?_ (fun d hd2 => ?_) (fun x y => rfl) (fun a b hab y z G2 e2 ny nz => ?_)) ?_) ea_nil) (r_sum rfl)
      · rw [List.length_map]
        have := hd.many
        omega
      · obtain ⟨q, _, rfl⟩ := List.mem_map.mp hd2
        exact ⟨_, _, rfl⟩
      · obtain ⟨q, hq, eq⟩ := List.mem_map.mp hab
        obtain ⟨x1, c1⟩ := q
        cases eq
        obtain ⟨l, hl, hn⟩ := hd.has _ hq
        have lo := hd.lo _ hq
        have hi := hd.hi _ hq
        have lt : p < l.length := by omega
        refine evd_is (evd_op (c := .int (l.getD p 0 * c1)) (evd_op (c := .int (l.getD p 0)) (evd_dget (ps := tabP t) (x := x1) (c := .list (intL l)) (evd_at n1 (e.trans e2)) (evd_at ny) ?_) (evd_at nx e2) (r_ixL ?_)) (evd_at nz) (r_I (.inr ⟨by simp only at lo hi ⊢; omega, by simp only at lo hi ⊢; omega⟩) fun G => .int _)) ?_
        · rw [look_tab, hl] <;> rfl
        · unfold intL
          rw [List.getElem?_map, List.getElem?_eq_getElem lt]
          show some (PyData.int l[p]) = some (PyData.int (l.getD p 0))
          rw [List.getD_eq_getElem?_getD, List.getElem?_eq_getElem lt]
          rfl
        · show PyData.int _ = PyData.int _
          rw [hl]
          rfl
      · unfold intL
        rw [List.map_map, List.map_map]
        rfl
    · unfold upTo intL countsF
      rw [List.map_map, List.map_map]
      rfl
end
end Sh

set_option Elab.async false
set_option linter.all false
set_option maxRecDepth 100000
set_option maxHeartbeats 4000000
/-! bundles: the table, what is needed -/
namespace Sh
open PySem PySem.Spec L2
open PyProof.Rows hiding St
open Evl (Ex)
def keys (t : Tab) : List Str := t.map (·.1)
theorem look_mem {t : Tab} {x : Str} (h : x ∈ keys t) : ∃ l, look t x = some l ∧ (x, l) ∈ t := by
  induction t with
  | nil => cases h
  | cons p t ih =>
    by_cases e : p.1 = x
    · subst e
      refine ⟨p.2, ?_, List.mem_cons_self⟩
      unfold look
      rw [List.find?_cons_of_pos (by simp)]
      rfl
    · have h2 : x ∈ keys t := by
        rcases List.mem_cons.mp h with h | h
        · exact absurd h.symm e
        · exact h
      obtain ⟨l, h3, h4⟩ := ih h2
      refine ⟨l, ?_, List.mem_cons_of_mem _ h4⟩
      unfold look at h3 ⊢
      rw [List.find?_cons_of_neg (by simpa using e)]
      exact h3
theorem look_no {t : Tab} {x : Str} (h : x ∉ keys t) : look t x = none := by
  induction t with
  | nil => rfl
  | cons p t ih =>
    have e : ¬ p.1 = x := fun z => h (by rw [← z]; exact List.mem_cons_self)
    have h2 : x ∉ keys t := fun z => h (List.mem_cons_of_mem _ z)
    have h3 := ih h2
    unfold look at h3 ⊢
    rw [List.find?_cons_of_neg (by simpa using e)]
    exact h3
theorem look_some {t : Tab} {x : Str} {l : List Int} (h : look t x = some l) : x ∈ keys t := by
  by_cases e : x ∈ keys t
  · exact e
  · rw [look_no e] at h
    cases h
theorem look_isSome (t : Tab) (x : Str) : (look t x).isSome = decide (x ∈ keys t) := by
  by_cases e : x ∈ keys t
  · obtain ⟨l, h, _⟩ := look_mem e
    rw [h, decide_eq_true e] <;> rfl
  · rw [look_no e, decide_eq_false e] <;> rfl
/-- the row of a single item -/
def rowF (its : List Str) (x : Str) : List Int := its.map fun o => if o = x then 1 else 0
def tabItems (its : List Str) : Tab := its.map fun x => (x, rowF its x)
def tabF (its : List Str) (bs : List Bun) : Tab := bs.foldl (fun t b => t ++ [(b.1, countsF t its.length b.2)]) (tabItems its)
theorem tabF_snoc (its : List Str) (bs : List Bun) (b : Bun) : tabF its (bs ++ [b]) = tabF its bs ++ [(b.1, countsF (tabF its bs) its.length b.2)] := by
  unfold tabF
  rw [List.foldl_append]
  rfl
theorem keys_items (its : List Str) : keys (tabItems its) = its := by
  unfold keys tabItems
  rw [List.map_map]
  exact List.map_id _
theorem keys_app (t u : Tab) : keys (t ++ u) = keys t ++ keys u := List.map_append
theorem keys_fold (its : List Str) (bs : List Bun) : ∀ (t : Tab), keys (bs.foldl (fun t b => t ++ [(b.1, countsF t its.length b.2)]) t) = keys t ++ bs.map (·.1) := by
  induction bs with
  | nil =>
    intro t
    rw [List.foldl_nil, List.map_nil, List.append_nil]
  | cons b bs ih =>
    intro t
    rw [List.foldl_cons, ih, keys_app, List.append_assoc]
    rfl
theorem keys_tabF (its : List Str) (bs : List Bun) : keys (tabF its bs) = its ++ bs.map (·.1) := by
  unfold tabF
  rw [keys_fold, keys_items]
theorem countsF_len (t : Tab) (n : Nat) (ps : List (Str × Int)) : (countsF t n ps).length = n := by
  unfold countsF
  rw [List.length_map, List.length_range]
/-- every row is as long as there are items -/
def Wid (n : Nat) (t : Tab) : Prop := ∀ p ∈ t, p.2.length = n
theorem wid_items (its : List Str) : Wid its.length (tabItems its) := fun p hp => by
  unfold tabItems at hp
  obtain ⟨x, _, rfl⟩ := List.mem_map.mp hp
  exact List.length_map _
theorem wid_snoc {n : Nat} {t : Tab} (h : Wid n t) (x : Str) (ps : List (Str × Int)) : Wid n (t ++ [(x, countsF t n ps)]) := fun p hp => by
  rcases List.mem_append.mp hp with hp | hp
  · exact h p hp
  · rw [List.mem_singleton] at hp
    rw [hp]
    exact countsF_len _ _ _
theorem wid_fold (its : List Str) (bs : List Bun) : ∀ (t : Tab), Wid its.length t → Wid its.length (bs.foldl (fun t b => t ++ [(b.1, countsF t its.length b.2)]) t) := by
  induction bs with
  | nil => exact fun t h => h
  | cons b bs ih => exact fun t h => ih _ (wid_snoc h b.1 b.2)
theorem wid_tabF (its : List Str) (bs : List Bun) : Wid its.length (tabF its bs) := wid_fold its bs _ (wid_items its)
theorem bunsOk_at {bs : List Bun} {i : Nat} {b : Bun} : ∀ {kn : List Str}, bunsOk kn bs = true → bs[i]? = some b → bunOk (kn ++ (bs.take i).map (·.1)) b = true := by
  induction bs generalizing i with
  | nil =>
    intro kn _ h
    simp at h
  | cons c bs ih =>
    intro kn h e
    unfold bunsOk at h
    rw [Bool.and_eq_true] at h
    cases i with
    | zero =>
      have e' : c = b := by simpa using e
      subst e'
      rw [List.take_zero, List.map_nil, List.append_nil]
      exact h.1
    | succ i =>
      have k := ih h.2 (i := i) (by simpa using e)
      rw [List.append_assoc] at k
      exact k
structure BunGood (kn : List Str) (b : Bun) : Prop where
  new : b.1 ∉ kn
  most : b.2.length ≤ 4
  mem : ∀ q ∈ b.2, q.1 ∈ kn
  lo : ∀ q ∈ b.2, 1 ≤ q.2
  hi : ∀ q ∈ b.2, q.2 ≤ 9
theorem bunOk_good {kn : List Str} {b : Bun} (h : bunOk kn b = true) : BunGood kn b := by
  unfold bunOk at h
  simp only [Bool.and_eq_true, Bool.not_eq_true', decide_eq_false_iff_not, decide_eq_true_eq, List.all_eq_true] at h
  obtain ⟨⟨_, h1, _, h2⟩, h3⟩ := h
  have h4 : ∀ q ∈ b.2, q.1 ∈ kn ∧ (1 ≤ q.2 ∧ q.2 ≤ 9) := fun q hq => by
    have z := h3 q hq
    unfold partOk at z
    simp only [Bool.and_eq_true, decide_eq_true_eq] at z
    exact z
  exact ⟨h1, by omega, fun q hq => (h4 q hq).1, fun q hq => (h4 q hq).2.1, fun q hq => (h4 q hq).2.2⟩
section
variable {P : Program} {w : World} {K : PySem.W.Frag} {mg : Str → Option Value} {base : Heap}
abbrev s_table_of : Stmt := topS 25
theorem sc_table_of : FnScope ["items", "bundles", "table", "item", "name", "parts", "other"] ["items", "bundles"] (defScope s_table_of) := ⟨rfl, rfl, rfl, by decide +kernel, rfl, by decide +kernel, by decide +kernel⟩
structure TabDom (its : List Str) (bs : List Bun) : Prop where
  nd : its.Nodup
  few : its.length ≤ 1000
  ok : bunsOk its bs = true
  less : bs.length ≤ 1000
def domTable (ds : List D) (c : D) : Prop := ∃ its bs, ds = [.tuple (strL its), .tuple (bs.map bunD)] ∧ TabDom its bs ∧ c = tabD (tabF its bs)
theorem tabP_app (t u : Tab) : tabP (t ++ u) = tabP t ++ tabP u := List.map_append
theorem look_tabP_no {t : Tab} {x : Str} (h : x ∉ keys t) : lookD (tabP t) x = none := by
  rw [look_tab, look_no h] <;> rfl
theorem keeps_table (B : Bi mg) (S : Stands K mg "table_of" s_table_of ["items", "bundles"]) (K_counts_of : Keeps P w K mg base CX0 1 "counts_of" ["width", "table", "pairs"] (spD domCounts)) :
    Keeps P w K mg base CX0 2 "table_of" ["items", "bundles"] (spD domTable) := by
  refine keeps_of S sc_table_of (fun ds c h => ?_) (fun f cdv A outer s H E hr => ⟨_, (pss_cons (ps_set (i := 2) sc_table_of.nd rfl (.inl rfl) pe_dnewK)
    (pss_cons (ps_for PassesOwn.never rfl (pi_tup (pv 0)) (pg_name (i := 3) sc_table_of.nd rfl (.inr rfl))
      (pss_one (ps_dput (hu_of hr) (pv 2) (pv 3) (pe_lc (own := [("other", 6)]) (g := gName 6) (tt := tYes) rfl sc_table_of.nd (pi_tup (pv 0)) (blkOk_by (N := ["items", "bundles", "table", "item", "name", "parts", "other"]) (sc := defScope s_table_of) (by decide +kernel)) (fun _ _ _ _ _ => (pg_name (i := 6) sc_table_of.nd rfl (.inl rfl))) (fun _ _ _ _ _ => pts_nil) (fun _ _ _ _ _ => (pe_ifExp (pt_cmpR op_eq (pv 6) (pv 3) (nomark _)) pe_int pe_int))) rfl)))
    (pss_cons (ps_for PassesOwn.never rfl (pi_tup (pv 1)) (pg_tup rfl (pgs_cons (pg_name (i := 4) sc_table_of.nd rfl (.inl rfl)) (pgs_cons (pg_name (i := 5) sc_table_of.nd rfl (.inl rfl)) pgs_nil)))
      (pss_one (ps_dput (hu_of hr) (pv 2) (pv 4) (pe_callD K_counts_of (hr.mono (by omega)) (pa_cons (pe_callB call_len rfl B.len bi_len (pa_cons (pv 0) pa_nil)) (pa_cons (pv 2) (pa_cons (pv 5) pa_nil)))) rfl)))
    (pss_one (ps_ret (pv 2)))))), fun ds c vs G h n => ?_⟩)
  · obtain ⟨its, bs, rfl, _⟩ := h
    rfl
  · obtain ⟨its, bs, rfl, hd, rfl⟩ := h
    obtain ⟨v, v1, rfl, n0, n1⟩ := dn2 n
    intro H0 e0 E0' q p hp
    have len0 : (strL its).length = its.length := List.length_map _
    have len1 : (bs.map bunD).length = bs.length := List.length_map _
    have few := hd.few
    have less := hd.less
    refine for_dataN (G := G) (ei_tup (evd_at n0)) (e0.trans (Ex.new hp)) (fun G1 H1 i σ' H' => ∃ Gi kvs y, Ex G1 Gi ∧ Gm p G H0 Gi H' ∧ H' p = some (.dK kvs) ∧ DnK Gi kvs (tabP ((tabItems its).take i)) ∧ σ' = [some v, some v1, some (.ref p), y, none, none, none])
      (fun _ _ _ _ _ ⟨Gi, _, _, x, gm, _⟩ => x.trans gm.s) (fun G1 H1 g1 => ?_) (fun G1 H1 i d x σ' H' G2 H2 g1 hdi pv g2 nx => ?_) (fun G1 H1 σ' H' g1 pv => ?_)
    · obtain ⟨gm, h1⟩ := (Gm.start e0 hp).step upd_same g1
      refine ⟨G1, [], none, Ex.refl _, gm, h1, ?_, rfl⟩
      rw [List.take_zero]
      exact .nil
    · obtain ⟨Gi, kvs, y, x1, gm, hpk, nk, rfl⟩ := pv
      obtain ⟨G3, e23, g3⟩ := grow_up x1 gm.s g2
      obtain ⟨gm3, hpk3⟩ := gm.step hpk g3
      unfold strL at hdi
      rw [List.getElem?_map] at hdi
      cases hix : its[i]? with
      | none =>
        rw [hix] at hdi
        cases hdi
      | some nm =>
        rw [hix] at hdi
        cases hdi
        have nx3 := Dn.mono e23 _ nx
        have n0' : Dn G3 v (.tuple (strL its)) := Dn.mono gm3.g _ n0
        cases nx3
        have row : EvD (tLc (iTup K (tVar 0)) (gName 6) tYes (tIf (tTest (tOp rEq (tVar 6) (tVar 3))) (tC (.int 1)) (tC (.int 0))) [6]) [some v, some v1, some (.ref p), some (.str nm), none, none, none] G3 (.list (intL (rowF its nm))) :=
          evd_is (evd_lcN (r := fun d => match d with | .str o => .int (if o = nm then 1 else 0) | _ => .none) (ei_tup (evd_at n0')) (by rw [len0]; omega) (fun x => rfl) (fun d hdd z G4 e4 nz => by
            obtain ⟨o, ho, rfl⟩ := List.mem_map.mp hdd
            refine evd_if (b := decide (o = nm)) (evt_test (evd_op (evd_at nz) (evd_at (Dn.str nm : Dn G4 (.str nm) (.str nm))) (r_eq rfl))) (fun hb => ?_) (fun hb => ?_)
            · have hb' : o = nm := of_decide_eq_true hb
              refine evd_is evd_int ?_
              show PyData.int 1 = PyData.int (if o = nm then 1 else 0)
              rw [if_pos hb']
            · have hb' : ¬ o = nm := of_decide_eq_false hb
              refine evd_is evd_int ?_
              show PyData.int 0 = PyData.int (if o = nm then 1 else 0)
              rw [if_neg hb'])) (by
            unfold strL intL rowF
            rw [List.map_map, List.map_map]
            rfl)
        refine row H2 gm3.s _ fun vv G4 H4 g4 n4 => ?_
        obtain ⟨gm4, hpk4⟩ := gm3.step hpk3 g4
        have ni : i < its.length := (List.getElem?_eq_some_iff.mp hix).1
        have tk : (tabItems its).take (i + 1) = (tabItems its).take i ++ [(nm, rowF its nm)] := take_len (by
          unfold tabItems
          rw [List.getElem?_map, hix]
          rfl)
        have nk4 : DnK G4 kvs (tabP ((tabItems its).take i)) := DnK.mono (g3.g.trans g4.g) _ nk
        have new : nm ∉ keys ((tabItems its).take i) := fun hm => by
          have nd := hd.nd
          have e1 : keys ((tabItems its).take i) = its.take i := by
            unfold keys
            rw [List.map_take]
            exact congrArg (List.take i) (keys_items its)
          rw [e1] at hm
          have e2 : its = its.take i ++ nm :: its.drop (i + 1) := by
            rw [← List.take_append_drop i its]
            congr 1
            · rw [List.take_append_drop]
            · rw [List.take_append_drop, List.drop_eq_getElem_cons ni]
              congr 1
              exact Option.some.inj ((List.getElem?_eq_getElem ni).symm.trans hix)
          rw [e2, List.nodup_append] at nd
          exact nd.2.2 _ hm _ List.mem_cons_self rfl
        have pk := putK_new (v := vv) nk4 (look_tabP_no new)
        refine ⟨_, rfl, _, rfl, p, _, rfl, DPut.k (k := Sum.inr nm) hpk4 ?_, G4, _, some (.str nm), x1.trans (g3.g.trans g4.g), gm4.put, upd_same, ?_, rfl⟩
        · rw [nk4.len]
          unfold tabP
          rw [List.length_map, List.length_take]
          exact Nat.lt_of_le_of_lt (show _ ≤ 1000 by omega) (by decide)
        · rw [pk, tk, tabP_app]
          exact nk4.snoc n4
    · obtain ⟨Gi, kvs, y, x1, gm, hpk, nk, rfl⟩ := pv
      have len2 : (tabItems its).length = its.length := List.length_map _
      rw [len0, ← len2, List.take_length] at nk
      have n1' : Dn Gi v1 (.tuple (bs.map bunD)) := Dn.mono gm.g _ n1
      refine for_data (G := Gi) (σ := [some v, some v1, some (.ref p), y, none, none, none]) (ei_tup (evd_at n1')) gm.s (fun G1 H1 i σ' H' => ∃ Gj kvs a b, Ex G1 Gj ∧ Gm p G H0 Gj H' ∧ H' p = some (.dK kvs) ∧ DnK Gj kvs (tabP (tabF its (bs.take i))) ∧ σ' = [some v, some v1, some (.ref p), y, a, b, none])
        (fun _ _ _ _ _ ⟨Gi, _, _, _, x, gm, _⟩ => x.trans gm.s) (fun G1 H1 g1 => ?_) (fun G1 H1 i d x σ' H' G2 H2 g1 hdi pv g2 nx => ?_) (fun G1 H1 σ' H' g1 pv => ?_)
      · obtain ⟨gm1, h1⟩ := gm.step hpk g1
        refine ⟨G1, kvs, none, none, Ex.refl _, gm1, h1, ?_, rfl⟩
        rw [List.take_zero]
        exact DnK.mono g1.g _ nk
      · obtain ⟨Gj, kvs2, a, b, x1, gm1, hpk1, nk1, rfl⟩ := pv
        obtain ⟨G3, e23, g3⟩ := grow_up x1 gm1.s g2
        obtain ⟨gm3, hpk3⟩ := gm1.step hpk1 g3
        rw [List.getElem?_map] at hdi
        cases hix : bs[i]? with
        | none =>
          rw [hix] at hdi
          cases hdi
        | some bn =>
          rw [hix] at hdi
          cases hdi
          have nx3 : Dn G3 x (.tuple [.str bn.1, .tuple (bn.2.map pairD)]) := Dn.mono e23 _ nx
          refine eg_pair x H2 gm3.s nx3 _ fun σ2 ⟨u1, u2, es, m1, m2⟩ => ?_
          subst es
          cases m1
          have good := bunOk_good (bunsOk_at hd.ok hix)
          have nk3 : DnK G3 kvs2 (tabP (tabF its (bs.take i))) := DnK.mono g3.g _ nk1
          have lend := Ex.lend gm3.s hpk3
          have up : Ex G3 (upd G3 p (.dK kvs2)) := Ex.new gm3.n
          have ks : keys (tabF its (bs.take i)) = its ++ (bs.take i).map (·.1) := keys_tabF its (bs.take i)
          have dom : domCounts [.int (its.length : Nat), tabD (tabF its (bs.take i)), .tuple (bn.2.map pairD)] (.list (intL (countsF (tabF its (bs.take i)) its.length bn.2))) := by
            refine ⟨_, _, _, rfl, ⟨few, ?_, fun q hq => ?_, fun q hq => ?_, fun q hq => ?_⟩, rfl⟩
            · have := good.most
              omega
            · obtain ⟨l, h1, h2⟩ := look_mem (t := tabF its (bs.take i)) (x := q.1) (by rw [ks]; exact good.mem q hq)
              exact ⟨l, h1, Nat.le_of_eq (wid_tabF its (bs.take i) _ h2).symm⟩
            · have := good.lo q hq
              omega
            · have := good.hi q hq
              omega
          have t0 : Dn (upd G3 p (.dK kvs2)) v (.tuple (strL its)) := Dn.mono (gm3.g.trans up) _ n0
          have t1 : Dn (upd G3 p (.dK kvs2)) (.ref p) (tabD (tabF its (bs.take i))) := .dct upd_same (DnK.mono up _ nk3)
          have t2 : Dn (upd G3 p (.dK kvs2)) u2 (.tuple (bn.2.map pairD)) := Dn.mono up _ m2
          have row : EvD (tCall (spD domCounts) [] E0 (tCons (tCB (rLenD K) (tCons (tVar 0) tNil)) (tCons (tVar 2) (tCons (tVar 5) tNil)))) [some v, some v1, some (.ref p), y, some (.str bn.1), some u2, none] (upd G3 p (.dK kvs2)) (.list (intL (countsF (tabF its (bs.take i)) its.length bn.2))) :=
            evd_call (ea_cons (evd_cb (ea_cons (evd_at t0) ea_nil) (r_lenT (by rw [len0]))) (ea_cons (evd_at t1) (ea_cons (evd_at t2) ea_nil))) dom
          refine row H2 lend _ fun vv G4 H4 g4 n4 => ?_
          have g5 := Gr.unlend gm3.n g4
          have n5 := Dn.undk (g4.g _ _ upd_same) _ (by
            unfold flatD
            exact flat_ints _) n4
          obtain ⟨gm4, hpk4⟩ := gm3.step hpk3 g5
          have nk4 : DnK (del G4 p) kvs2 (tabP (tabF its (bs.take i))) := DnK.mono g5.g _ nk3
          have pk := putK_new (v := vv) nk4 (look_tabP_no (t := tabF its (bs.take i)) (x := bn.1) (by rw [ks]; exact good.new))
          refine ⟨_, rfl, _, rfl, p, _, rfl, DPut.k (k := Sum.inr bn.1) hpk4 ?_, del G4 p, _, some (.str bn.1), some u2, x1.trans (g3.g.trans g5.g), gm4.put, upd_same, ?_, rfl⟩
          · rw [nk4.len]
            have l1 : (tabP (tabF its (bs.take i))).length = (keys (tabF its (bs.take i))).length := by
              unfold tabP keys
              rw [List.length_map, List.length_map]
            rw [l1, ks, List.length_append, List.length_map, List.length_take]
            exact Nat.lt_of_le_of_lt (show _ ≤ 2000 by omega) (by decide)
          · rw [pk, take_len hix, tabF_snoc, tabP_app]
            exact nk4.snoc n5
      · obtain ⟨Gj, kvs2, a, b, x1, gm1, hpk1, nk1, rfl⟩ := pv
        rw [len1, List.take_length] at nk1
        exact ⟨_, rfl, q (.ref p) (upd Gj p (.dK kvs2)) H' (gm1.close hp hpk1) (.dct upd_same (DnK.mono (Ex.new gm1.n) _ nk1))⟩
end
end Sh

set_option Elab.async false
set_option linter.all false
set_option maxRecDepth 100000
set_option maxHeartbeats 4000000
/-! what the table's rows are -/
namespace Sh
open PySem PySem.Spec L2
theorem look_app {t u : Tab} {x : Str} (h : x ∈ keys t) : look (t ++ u) x = look t x := by
  induction t with
  | nil => cases h
  | cons p t ih =>
    by_cases e : p.1 = x
    · subst e
      unfold look
      rw [List.cons_append, List.find?_cons_of_pos (by simp), List.find?_cons_of_pos (by simp)]
    · have h2 : x ∈ keys t := by
        rcases List.mem_cons.mp h with h | h
        · exact absurd h.symm e
        · exact h
      have h3 := ih h2
      unfold look at h3 ⊢
      rw [List.cons_append, List.find?_cons_of_neg (by simpa using e), List.find?_cons_of_neg (by simpa using e)]
      exact h3
theorem look_snoc {t : Tab} {x : Str} {l : List Int} (h : x ∉ keys t) : look (t ++ [(x, l)]) x = some l := by
  induction t with
  | nil =>
    unfold look
    rw [List.nil_append, List.find?_cons_of_pos (by simp)]
    rfl
  | cons p t ih =>
    have e : ¬ p.1 = x := fun z => h (by rw [← z]; exact List.mem_cons_self)
    have h3 := ih fun z => h (List.mem_cons_of_mem _ z)
    unfold look at h3 ⊢
    rw [List.cons_append, List.find?_cons_of_neg (by simpa using e)]
    exact h3
/-- the table goes on from what it was -/
theorem fold_ext (n : Nat) (bs : List Bun) : ∀ t : Tab, ∃ u, bs.foldl (fun t b => t ++ [(b.1, countsF t n b.2)]) t = t ++ u := by
  induction bs with
  | nil => exact fun t => ⟨[], (List.append_nil t).symm⟩
  | cons b bs ih =>
    intro t
    obtain ⟨u, h⟩ := ih (t ++ [(b.1, countsF t n b.2)])
    exact ⟨[(b.1, countsF t n b.2)] ++ u, by rw [List.foldl_cons, h, List.append_assoc]⟩
theorem tabF_ext (its : List Str) (bs : List Bun) (i : Nat) : ∃ u, tabF its bs = tabF its (bs.take i) ++ u := by
  obtain ⟨u, h⟩ := fold_ext its.length (bs.drop i) (tabF its (bs.take i))
  refine ⟨u, ?_⟩
  rw [← h]
  unfold tabF
  rw [← List.foldl_append, List.take_append_drop]
/-- the row of a name -/
def rowOf (its : List Str) (bs : List Bun) (x : Str) : List Int := (look (tabF its bs) x).getD []
theorem rowOf_len {its : List Str} {bs : List Bun} {x : Str} (h : x ∈ its ++ bs.map (·.1)) : (rowOf its bs x).length = its.length := by
  obtain ⟨l, h1, h2⟩ := look_mem (t := tabF its bs) (x := x) (by rw [keys_tabF]; exact h)
  unfold rowOf
  rw [h1]
  exact wid_tabF its bs _ h2
theorem rowOf_item {its : List Str} {bs : List Bun} {x : Str} (h : x ∈ its) : rowOf its bs x = rowF its x := by
  obtain ⟨u, e⟩ := tabF_ext its bs 0
  have hk : x ∈ keys (tabF its (bs.take 0)) := by
    rw [keys_tabF]
    exact List.mem_append_left _ h
  unfold rowOf
  rw [e, look_app hk]
  have e0 : tabF its (bs.take 0) = tabItems its := rfl
  rw [e0] at hk ⊢
  obtain ⟨l, h1, h2⟩ := look_mem hk
  unfold tabItems at h2
  obtain ⟨y, _, hy⟩ := List.mem_map.mp h2
  cases hy
  rw [h1]
  rfl
theorem cnt_congr {t u : Tab} {ps : List (Str × Int)} {p : Nat} (h : ∀ q ∈ ps, look t q.1 = look u q.1) : cnt t ps p = cnt u ps p := by
  unfold cnt
  congr 1
  exact List.map_congr_left fun q hq => by rw [h q hq]
theorem countsF_congr {t u : Tab} {n : Nat} {ps : List (Str × Int)} (h : ∀ q ∈ ps, look t q.1 = look u q.1) : countsF t n ps = countsF u n ps := by
  unfold countsF
  exact List.map_congr_left fun p _ => cnt_congr h
/-- the row of a bundle -/
theorem rowOf_bun {its : List Str} {bs : List Bun} {i : Nat} {b : Bun} (ok : bunsOk its bs = true) (h : bs[i]? = some b) : rowOf its bs b.1 = countsF (tabF its bs) its.length b.2 := by
  have good := bunOk_good (bunsOk_at ok h)
  have k0 := keys_tabF its (bs.take i)
  obtain ⟨u, e⟩ := tabF_ext its bs i
  obtain ⟨u1, e1⟩ := tabF_ext its bs (i + 1)
  have s1 : tabF its (bs.take (i + 1)) = tabF its (bs.take i) ++ [(b.1, countsF (tabF its (bs.take i)) its.length b.2)] := by
    rw [take_len h, tabF_snoc]
  have c1 : countsF (tabF its bs) its.length b.2 = countsF (tabF its (bs.take i)) its.length b.2 := countsF_congr fun q hq => by
    rw [e, look_app (by rw [k0]; exact good.mem q hq)]
  rw [c1]
  unfold rowOf
  rw [e1, look_app (by rw [s1, keys_app]; exact List.mem_append_right _ List.mem_cons_self), s1, look_snoc (by rw [k0]; exact good.new)]
  rfl
theorem cnt_snoc (t : Tab) (ps : List (Str × Int)) (q : Str × Int) (p : Nat) : cnt t (ps ++ [q]) p = cnt t ps p + ((look t q.1).getD []).getD p 0 * q.2 := by
  unfold cnt
  rw [List.map_append, List.sum_append]
  simp
theorem by_range {l : List Int} {n : Nat} (h : l.length = n) : l = (List.range n).map fun p => l.getD p 0 := by
  refine List.ext_getElem? fun i => ?_
  rw [List.getElem?_map]
  by_cases c : i < n
  · rw [List.getElem?_range c, List.getElem?_eq_getElem (by omega)]
    show some _ = some (l.getD i 0)
    rw [List.getD_eq_getElem?_getD, List.getElem?_eq_getElem (by omega)]
    rfl
  · rw [List.getElem?_eq_none (by omega), List.getElem?_eq_none (by rw [List.length_range]; omega)]
    rfl
/-- c of each of the first j parts -/
def foundF (t : Tab) (n : Nat) (ps : List (Str × Int)) (c : Int) : List Int := (List.range n).map fun p => cnt t ps p * c
theorem foundF_nil (t : Tab) (n : Nat) (c : Int) : foundF t n [] c = List.replicate n 0 := by
  unfold foundF cnt
  rw [List.eq_replicate_iff]
  refine ⟨by rw [List.length_map, List.length_range], fun b hb => ?_⟩
  obtain ⟨p, _, rfl⟩ := List.mem_map.mp hb
  simp
theorem foundF_snoc {its : List Str} {bs : List Bun} {ps : List (Str × Int)} {q : Str × Int} {c : Int} (h : q.1 ∈ its ++ bs.map (·.1)) :
    List.zipWith (· + ·) (foundF (tabF its bs) its.length ps c) ((rowOf its bs q.1).map (· * (q.2 * c))) = foundF (tabF its bs) its.length (ps ++ [q]) c := by
  have e := by_range (rowOf_len h)
  rw [e]
  unfold foundF
  rw [List.map_map, List.zipWith_map_left, List.zipWith_map_right, List.zipWith_self]
  refine List.map_congr_left fun p _ => ?_
  rw [cnt_snoc]
  show cnt (tabF its bs) ps p * c + (rowOf its bs q.1).getD p 0 * (q.2 * c) = _
  rw [Int.add_mul, Int.mul_assoc]
  rfl
theorem foundF_all {its : List Str} {bs : List Bun} {i : Nat} {b : Bun} {c : Int} (ok : bunsOk its bs = true) (h : bs[i]? = some b) : foundF (tabF its bs) its.length b.2 c = (rowOf its bs b.1).map (· * c) := by
  rw [rowOf_bun ok h]
  unfold foundF countsF
  rw [List.map_map]
  rfl
theorem rowF_mul (its : List Str) (x : Str) (c : Int) : (rowF its x).map (· * c) = its.map fun o => if o = x then c else 0 := by
  unfold rowF
  rw [List.map_map]
  refine List.map_congr_left fun o _ => ?_
  show (if o = x then (1 : Int) else 0) * c = _
  by_cases h : o = x
  · rw [if_pos h, if_pos h, Int.one_mul]
  · rw [if_neg h, if_neg h, Int.zero_mul]
end Sh

set_option Elab.async false
set_option linter.all false
set_option maxRecDepth 100000
set_option maxHeartbeats 4000000
/-! bundles: what is asked, made_of, opened -/
namespace Sh
open PySem PySem.Spec L2
open PyProof.Rows hiding St
open Evl (Ex)
section
variable {P : Program} {w : World} {K : PySem.W.Frag} {mg : Str → Option Value} {base : Heap} {CI CO : Addr}
abbrev s_is_want : Stmt := topS 26
theorem sc_is_want : FnScope ["table", "value", "name", "count"] ["table", "value"] (defScope s_is_want) := ⟨rfl, rfl, rfl, by decide +kernel, rfl, by decide +kernel, by decide +kernel⟩
def wantB (t : Tab) (q : Str × Int) : Bool := decide (q.1 ∈ keys t) && (decide (1 ≤ q.2) && decide (q.2 ≤ 99))
def domWant (ds : List D) (c : D) : Prop := ∃ t q, ds = [tabD t, pairD q] ∧ c = .bool (wantB t q)
theorem keeps_want (B : Bi mg) (S : Stands K mg "is_want" s_is_want ["table", "value"]) (K_is_row : Keeps P w K mg base CX0 1 "is_row" ["value", "least", "most"] (spD domRow)) (K_is_between : Keeps P w K mg base CX0 1 "is_between" ["value", "low", "high"] (spD domBetween)) :
    Keeps P w K mg base CX0 2 "is_want" ["table", "value"] (spD domWant) := by
  refine keeps_of S sc_is_want (fun ds c h => ?_) (fun f cdv A outer s H E hr => ⟨_, (pss_cons (ps_if (pt_not (pt_val (pe_callD K_is_row (hr.mono (by omega)) (pa_cons (pv 1) (pa_cons pe_int (pa_cons pe_int pa_nil)))))) (pss_one (ps_ret pe_bl)) pss_nil)
    (pss_cons (ps_asg (pv 1) (pg_tup rfl (pgs_cons (pg_name (i := 2) sc_is_want.nd rfl (.inl rfl)) (pgs_cons (pg_name (i := 3) sc_is_want.nd rfl (.inl rfl)) pgs_nil))))
    (pss_one (ps_ret (pe_and (pe_callB call_isi rfl B.isinstance bi_isinstance (pa_cons (pv 2) (pa_cons (pe_ty B.str bi_str) pa_nil))) (pe_and (pe_cmp (pc_din (hu_of hr) (pv 2) (pv 0)) rfl) (pe_one (pe_callD K_is_between (hr.mono (by omega)) (pa_cons (pv 3) (pa_cons pe_int (pa_cons pe_int pa_nil))))))))))), fun ds c vs G h n => ?_⟩)
  · obtain ⟨t, q, rfl, _⟩ := h
    rfl
  · obtain ⟨t, q, rfl, rfl⟩ := h
    obtain ⟨v, v1, rfl, n0, n1⟩ := dn2 n
    refine evs_if (b := false) (evt_not (b := true) (evt_B (evd_call (ea_cons (evd_at n1) (ea_cons evd_int (ea_cons evd_int ea_nil))) (row_dom (show (2 : Int) ≤ 2 by decide) (show (2 : Int) ≤ 2 by decide))))) (fun h => nomatch h) (fun _ => ?_)
    refine evs_asg (evd_at n1) (fun G2 _ => eg_pair) (fun σ2 G2 e2 ⟨a1, a2, es, m1, m2⟩ => ?_)
    subst es
    refine evs_ret (evd_is (evd_and (evd_isi (evd_at m1) (kit_str _)) (fun _ => evd_and (evd_din (evd_at m1) (evd_at (d := .dict (tabP t)) n0) (b := decide (q.1 ∈ keys t)) ?_) (fun _ => evd_call (ea_cons (evd_at m2) (ea_cons evd_int (ea_cons evd_int ea_nil))) between_domF))) ?_)
    · rw [look_tab, Option.isSome_map, look_isSome]
    · show PyData.bool (isK "str" (.str q.1) && _) = _
      rw [show isK "str" (.str q.1) = true from (by decide +kernel : isS "str" "str" = true), Bool.true_and]
      rfl
abbrev s_needed : Stmt := topS 27
theorem sc_needed : FnScope ["items", "table", "pairs", "counts", "item", "count"] ["items", "table", "pairs"] (defScope s_needed) := ⟨rfl, rfl, rfl, by decide +kernel, rfl, by decide +kernel, by decide +kernel⟩
def needF (its : List Str) (t : Tab) (ps : List (Str × Int)) : List (Str × Int) := (its.zip (countsF t its.length ps)).filter fun p => decide (p.2 > 0)
structure NeedDom (its : List Str) (t : Tab) (ps : List (Str × Int)) : Prop where
  many : ps.length ≤ 1000
  few : its.length ≤ 1000
  has : ∀ q ∈ ps, ∃ l, look t q.1 = some l ∧ its.length ≤ l.length
  lo : ∀ q ∈ ps, 0 ≤ q.2
  hi : ∀ q ∈ ps, q.2 ≤ 1000
def domNeed (ds : List D) (c : D) : Prop := ∃ its t ps, ds = [.tuple (strL its), tabD t, .tuple (ps.map pairD)] ∧ NeedDom its t ps ∧ c = .tuple ((needF its t ps).map pairD)
theorem zipD_strs (xs : List Str) (ys : List Int) : zipD (strL xs) (intL ys) = (xs.zip ys).map pairD := by
  induction xs generalizing ys with
  | nil => rfl
  | cons x xs ih =>
    cases ys with
    | nil => rfl
    | cons y ys =>
      show PyData.tuple [.str x, .int y] :: zipD (strL xs) (intL ys) = _
      rw [ih]
      rfl
def posD : D → Bool
  | .tuple [_, .int i] => decide (i > 0)
  | _ => false
theorem filter_mapD {α : Type} (f : α → D) (g : D → Bool) (h : α → Bool) (l : List α) (e : ∀ x ∈ l, g (f x) = h x) : (l.map f).filter g = (l.filter h).map f := by
  induction l with
  | nil => rfl
  | cons x xs ih =>
    rw [List.map_cons, List.filter_cons, List.filter_cons, e x List.mem_cons_self, ih fun y hy => e y (List.mem_cons_of_mem _ hy)]
    cases h x <;> rfl
theorem keeps_needed (B : Bi mg) (S : Stands K mg "needed" s_needed ["items", "table", "pairs"]) (K_counts_of : Keeps P w K mg base CX0 1 "counts_of" ["width", "table", "pairs"] (spD domCounts)) :
    Keeps P w K mg base CX0 2 "needed" ["items", "table", "pairs"] (spD domNeed) := by
  refine keeps_of S sc_needed (fun ds c h => ?_) (fun f cdv A outer s H E hr => ⟨_, (pss_cons (ps_set (i := 3) sc_needed.nd rfl (.inl rfl) (pe_callD K_counts_of (hr.mono (by omega)) (pa_cons (pe_callB call_len rfl B.len bi_len (pa_cons (pv 0) pa_nil)) (pa_cons (pv 1) (pa_cons (pv 2) pa_nil)))))
    (pss_one (ps_ret (pe_callTy call_tuple_of rfl B.tuple bi_tuple (pa_cons (pe_lc (own := [("item", 4), ("count", 5)]) (g := gTup K 2 (gCons (gName 4) (gCons (gName 5) gNil))) rfl sc_needed.nd (ShT.pi_zipTL B.zip (pa_cons (pv 0) (pa_cons (pv 3) pa_nil))) (blkOk_by (N := ["items", "table", "pairs", "counts", "item", "count"]) (sc := defScope s_needed) (by decide +kernel)) (fun _ _ _ _ _ => (pg_tup rfl (pgs_cons (pg_name (i := 4) sc_needed.nd rfl (.inl rfl)) (pgs_cons (pg_name (i := 5) sc_needed.nd rfl (.inl rfl)) pgs_nil)))) (fun _ _ _ _ _ => pts_one (pt_cmpR op_gt (pv 5) pe_int (nomark _))) (fun _ _ _ _ _ => (pe_tup (pa_cons (pv 4) (pa_cons (pv 5) pa_nil))))) pa_nil))))), fun ds c vs G h n => ?_⟩)
  · obtain ⟨its, t, ps, rfl, _⟩ := h
    rfl
  · obtain ⟨its, t, ps, rfl, hd, rfl⟩ := h
    obtain ⟨v, v1, v2, rfl, n0, n1, n2⟩ := dn3 n
    have len0 : (strL its).length = its.length := List.length_map _
    have few := hd.few
    have many := hd.many
    refine evs_set (d := .list (intL (countsF t its.length ps))) (evd_call (ea_cons (evd_cb (ea_cons (evd_at n0) ea_nil) (r_lenT (by rw [len0]))) (ea_cons (evd_at n1) (ea_cons (evd_at n2) ea_nil))) ⟨_, t, ps, rfl, ⟨few, many, hd.has, hd.lo, hd.hi⟩, rfl⟩) (fun v3 G2 e2 n3 => ?_)
    refine evs_ret (evd_is (evd_cb (ea_cons (evd_lcPF (f := posD) (r := id) (ei_zipTL (ea_cons (evd_at n0) (ea_cons (evd_at n3) ea_nil))) ?_ (fun d hd => ?_) (fun x y => rfl) (fun a b hab x y G3 e3 nx ny => ?_) (fun a b hab hf x y G3 e3 nx ny => ?_)) ea_nil) r_tupL) ?_)
    · rw [zipD_strs, List.length_map, List.length_zip]
      omega
    · rw [zipD_strs] at hd
      obtain ⟨q, _, rfl⟩ := List.mem_map.mp hd
      exact ⟨_, _, rfl⟩
    · rw [zipD_strs] at hab
      obtain ⟨q, _, eq⟩ := List.mem_map.mp hab
      cases eq
      exact evt_test (evd_op (evd_at ny) evd_int (r_I0 fun G => .bl _))
    · exact evd_tup (ea_cons (evd_at nx) (ea_cons (evd_at ny) ea_nil)) (by show 2 ≤ 100000; decide)
    · rw [zipD_strs, filter_mapD pairD posD (fun p => decide (p.2 > 0)) _ (fun x _ => rfl), List.map_id]
      rfl
end
end Sh

set_option Elab.async false
set_option linter.all false
set_option maxRecDepth 100000
set_option maxHeartbeats 4000000
/-! bundles: made_of, opened -/
namespace Sh
open PySem PySem.Spec L2
open PyProof.Rows hiding St
open Evl (Ex)
theorem cat_items {K : PySem.W.Frag} {G : Hp} (t : Cat) : R2D (rIxT K) (Cat.d t) (.int 2) (.tuple (strL t.its)) G := r_ixT (i := 2) rfl
theorem want_need {its : List Str} {t : Tab} {ws : List (Str × Int)} (wd : Wid its.length t) (few : its.length ≤ 1000) (many : ws.length ≤ 1000) (h : ∀ q ∈ ws, wantB t q = true) : NeedDom its t ws := by
  have z : ∀ q ∈ ws, q.1 ∈ keys t ∧ 1 ≤ q.2 ∧ q.2 ≤ 99 := fun q hq => by
    have k := h q hq
    unfold wantB at k
    simp only [Bool.and_eq_true, decide_eq_true_eq] at k
    exact k
  refine ⟨many, few, fun q hq => ?_, fun q hq => ?_, fun q hq => ?_⟩
  · obtain ⟨l, h1, h2⟩ := look_mem (z q hq).1
    exact ⟨l, h1, Nat.le_of_eq (wd _ h2).symm⟩
  · have := (z q hq).2.1
    omega
  · have := (z q hq).2.2
    omega
section
variable {P : Program} {w : World} {K : PySem.W.Frag} {mg : Str → Option Value} {base : Heap} {CI CO : Addr}
abbrev s_made_of : Stmt := topS 28
theorem sc_made_of : FnScope ["catalog", "bundles", "name", "count", "table"] ["catalog", "bundles", "name", "count"] (defScope s_made_of) := ⟨rfl, rfl, rfl, by decide +kernel, rfl, by decide +kernel, by decide +kernel⟩
structure MadeDom (t : Cat) (ob : Option (List Bun)) (x : Str) (c : Int) : Prop where
  cat : CatOk t
  bun : ∀ bs, ob = some bs → BunDom bs
  want : ∀ bs, ob = some bs → wantB (tabF t.its bs) (x, c) = true
def madeF (t : Cat) (ob : Option (List Bun)) (x : Str) (c : Int) : Option (List (Str × Int)) := match ob with
  | none => none
  | some bs => if bunsOkD t.its (some bs) then some (needF t.its (tabF t.its bs) [(x, c)]) else none
def domMade (ds : List D) (o : Option D) : Prop := ∃ t ob x c, ds = [Cat.d t, bunsD ob, .str x, .int c] ∧ MadeDom t ob x c ∧ o = (madeF t ob x c).map fun ps => .tuple (ps.map pairD)
theorem few_its {t : Cat} (h : CatOk t) : t.its.length ≤ 1000 := by
  have := h.its.hi
  omega
theorem keeps_made (er : ErrC K mg "BadItem" CI) (S : Stands K mg "made_of" s_made_of ["catalog", "bundles", "name", "count"]) (K_check_catalog : Keeps P w K mg base CX0 5 "check_catalog" ["catalog"] (spD domCheckCat)) (K_check_bundles : Keeps P w K mg base (L2N.CX P w) 5 "check_bundles" ["catalog", "bundles"] (spR CI domCheckB))
    (K_table_of : Keeps P w K mg base CX0 2 "table_of" ["items", "bundles"] (spD domTable)) (K_is_want : Keeps P w K mg base CX0 2 "is_want" ["table", "value"] (spD domWant)) (K_needed : Keeps P w K mg base CX0 2 "needed" ["items", "table", "pairs"] (spD domNeed)) :
    Keeps P w K mg base (L2N.CX P w) 6 "made_of" ["catalog", "bundles", "name", "count"] (spR CI domMade) := by
  refine keeps_ofR2 S sc_made_of (fun ds c h => ?_) (fun f cdv A outer s H E hr => ⟨_, (pss_cons (ps_expr (pe_callD K_check_catalog (hr.mono (by omega)) (pa_cons (pv 0) pa_nil)))
    (pss_cons (ps_expr (pe_callR K_check_bundles (hr.mono (by decide)) (L2N.takes_of rfl rfl rfl rfl) (pa_cons (pv 0) (pa_cons (pv 1) pa_nil))))
    (pss_cons (ps_set (i := 4) sc_made_of.nd rfl (.inl rfl) (pe_callD K_table_of (hr.mono (by omega)) (pa_cons (pe_ix ix_tup (pv 0) pe_int (fun _ _ => rfl)) (pa_cons (pv 1) pa_nil))))
    (pss_cons (ps_if (pt_not (pt_val (pe_callD K_is_want (hr.mono (by omega)) (pa_cons (pv 4) (pa_cons (pe_tup (pa_cons (pv 2) (pa_cons (pv 3) pa_nil))) pa_nil))))) (pss_one (ps_raiseC er rfl (L2N.takes_of rfl rfl rfl rfl) rfl)) pss_nil)
    (pss_one (ps_ret (pe_callD K_needed (hr.mono (by omega)) (pa_cons (pe_ix ix_tup (pv 0) pe_int (fun _ _ => rfl)) (pa_cons (pv 4) (pa_cons (pe_tup (pa_cons (pe_tup (pa_cons (pv 2) (pa_cons (pv 3) pa_nil))) pa_nil)) pa_nil)))))))))), fun ds c vs G h n => ?_⟩)
  · obtain ⟨t, ob, x, c, rfl, _⟩ := h
    rfl
  · obtain ⟨t, ob, x, c, rfl, hd, rfl⟩ := h
    obtain ⟨v, v1, v2, v3, rfl, n0, n1, n2, n3⟩ := dn4 n
    have few := few_its hd.cat
    refine evx_drop (evd_call (ea_cons (evd_at n0) ea_nil) ⟨t, rfl, hd.cat, rfl⟩) (fun G1 e1 => ?_)
    refine evx_dropR (ea_cons (evd_at n0) (ea_cons (evd_at n1) ea_nil)) ⟨t, ob, rfl, ⟨few, hd.bun⟩, rfl⟩ (fun c1 hc1 G2 e2 => ?_) (fun hn => ?_)
    · cases ob with
      | none => cases hc1
      | some bs =>
        cases hb : bunsOkD t.its (some bs) with
        | false =>
          rw [hb] at hc1
          cases hc1
        | true =>
          have hw := hd.want bs rfl
          have ok : bunsOk t.its bs = true := by
            unfold bunsOkD at hb
            rw [Bool.and_eq_true] at hb
            exact hb.2
          have BD := hd.bun bs rfl
          have e3 := e1.trans e2
          refine evx_set (evd_call (ea_cons (evd_op (evd_at n0 e3) (evd_int (i := ((2 : Nat) : Int))) (cat_items t)) (ea_cons (evd_at n1 e3) ea_nil)) ⟨t.its, bs, rfl, ⟨hd.cat.its.nd, few, ok, BD.few⟩, rfl⟩) (fun v4 G3 e4 n4 => ?_)
          have e5 := e3.trans e4
          refine evx_if (b := false) (evt_is (evt_not (evt_B (evd_call (ea_cons (evd_at n4) (ea_cons (evd_tup (ea_cons (evd_at n2 e5) (ea_cons (evd_at n3 e5) ea_nil)) (by show 2 ≤ 100000; decide)) ea_nil)) ⟨tabF t.its bs, (x, c), rfl, rfl⟩))) (by rw [hw]; rfl)) (fun h => nomatch h) (fun _ => ?_)
          have eo : madeF t (some bs) x c = some (needF t.its (tabF t.its bs) [(x, c)]) := by
            unfold madeF
            simp only [hb, if_true]
          rw [eo]
          exact evx_ret (evd_call (ea_cons (evd_op (evd_at n0 e5) (evd_int (i := ((2 : Nat) : Int))) (cat_items t)) (ea_cons (evd_at n4) (ea_cons (evd_tup (ea_cons (evd_tup (ea_cons (evd_at n2 e5) (ea_cons (evd_at n3 e5) ea_nil)) (by show 2 ≤ 100000; decide)) ea_nil) (by show 1 ≤ 100000; decide)) ea_nil)))
            ⟨t.its, tabF t.its bs, [(x, c)], rfl, want_need (wid_tabF _ _) few (by show 1 ≤ 1000; decide) (fun q hq => by
              rw [List.mem_singleton] at hq
              rw [hq]
              exact hw), rfl⟩)
    · cases ob with
      | none => rfl
      | some bs =>
        cases hb : bunsOkD t.its (some bs) with
        | true =>
          rw [hb] at hn
          cases hn
        | false =>
          unfold madeF
          simp only [hb]
          rfl
end
end Sh

set_option Elab.async false
set_option linter.all false
set_option maxRecDepth 100000
set_option maxHeartbeats 4000000
/-! bundles: opened -/
namespace Sh
open PySem PySem.Spec L2
open PyProof.Rows hiding St
open Evl (Ex)
def wantsD : Option (List (Str × Int)) → D
  | none => .none
  | some ws => .tuple (ws.map pairD)
def wantsOk (t : Tab) : Option (List (Str × Int)) → Bool
  | none => false
  | some ws => (decide (1 ≤ (ws.length : Int)) && decide ((ws.length : Int) ≤ 6)) && ws.all (wantB t)
def manyOk (ps : List (Str × Int)) : Bool := !(decide ((ps.length : Int) > 3) || ps.any fun p => decide (p.2 > 99))
def openF (t : Cat) (bs : List Bun) (ow : Option (List (Str × Int))) : Option (List (Str × Int)) := match ow with
  | none => none
  | some ws => if wantsOk (tabF t.its bs) (some ws) then (if manyOk (needF t.its (tabF t.its bs) ws) then some (needF t.its (tabF t.its bs) ws) else none) else none
def lotD (p : Str × Int) : D := .tuple [.tuple [.str p.1], .int p.2]
def wantD (t : Tab) : D → D
  | .tuple [.str x, .int c] => .bool (wantB t (x, c))
  | _ => .none
def overD : D → D
  | .tuple [_, .int c] => .bool (decide (c > 99))
  | _ => .none
def lotOf : D → D
  | .tuple [.str x, .int c] => lotD (x, c)
  | _ => .none
theorem needF_len (its : List Str) (t : Tab) (ws : List (Str × Int)) : (needF its t ws).length ≤ its.length := by
  unfold needF
  refine Nat.le_trans (List.length_filter_le _ _) ?_
  rw [List.length_zip, countsF_len]
  exact Nat.min_le_left _ _
section
variable {P : Program} {w : World} {K : PySem.W.Frag} {mg : Str → Option Value} {base : Heap} {CI CO : Addr}
abbrev s_opened : Stmt := topS 29
theorem sc_opened : FnScope ["catalog", "bundles", "name", "region", "wants", "by", "worth", "table", "pairs", "pair", "item", "count", "want"] ["catalog", "bundles", "name", "region", "wants", "by", "worth"] (defScope s_opened) := ⟨rfl, rfl, rfl, by decide +kernel, rfl, by decide +kernel, by decide +kernel⟩
structure OpenDom (t : Cat) (bs : List Bun) (ow : Option (List (Str × Int))) : Prop where
  cat : CatOk t
  bun : BunDom bs
  ok : bunsOkD t.its (some bs) = true
  many : ∀ ws, ow = some ws → ws.length ≤ 1000
def domOpen (ds : List D) (o : Option D) : Prop := ∃ t bs ow dn dr db dw, ds = [Cat.d t, .tuple (bs.map bunD), dn, dr, wantsD ow, db, dw] ∧ OpenDom t bs ow ∧ o = (openF t bs ow).map fun ps => .tuple [dn, dr, .tuple (ps.map lotD), db, dw]
theorem keeps_opened (B : Bi mg) (er : ErrC K mg "BadOrder" CO) (S : Stands K mg "opened" s_opened ["catalog", "bundles", "name", "region", "wants", "by", "worth"]) (K_check_catalog : Keeps P w K mg base CX0 5 "check_catalog" ["catalog"] (spD domCheckCat)) (K_check_bundles : Keeps P w K mg base (L2N.CX P w) 5 "check_bundles" ["catalog", "bundles"] (spR CI domCheckB))
    (K_is_row : Keeps P w K mg base CX0 1 "is_row" ["value", "least", "most"] (spD domRow))
    (K_table_of : Keeps P w K mg base CX0 2 "table_of" ["items", "bundles"] (spD domTable)) (K_is_want : Keeps P w K mg base CX0 2 "is_want" ["table", "value"] (spD domWant)) (K_needed : Keeps P w K mg base CX0 2 "needed" ["items", "table", "pairs"] (spD domNeed)) :
    Keeps P w K mg base (L2N.CX P w) 6 "opened" ["catalog", "bundles", "name", "region", "wants", "by", "worth"] (spR CO domOpen) := by
  refine keeps_ofR2 S sc_opened (fun ds c h => ?_) (fun f cdv A outer s H E hr => ⟨_, (pss_cons (ps_expr (pe_callD K_check_catalog (hr.mono (by omega)) (pa_cons (pv 0) pa_nil)))
    (pss_cons (ps_expr (pe_callR K_check_bundles (hr.mono (by decide)) (L2N.takes_of rfl rfl rfl rfl) (pa_cons (pv 0) (pa_cons (pv 1) pa_nil))))
    (pss_cons (ps_set (i := 7) sc_opened.nd rfl (.inr rfl) (pe_callD K_table_of (hr.mono (by omega)) (pa_cons (pe_ix ix_tup (pv 0) pe_int (fun _ _ => rfl)) (pa_cons (pv 1) pa_nil))))
    (pss_cons (ps_if (PW.pt (pw_or (pt_not (pt_val (pe_callD K_is_row (hr.mono (by omega)) (pa_cons (pv 4) (pa_cons pe_int (pa_cons pe_int pa_nil)))))) (pw_or1 (pt_not (pt_val (pe_callB (cr_all rfl) rfl B.all bi_all (pa_cons (pe_lc (own := [("want", 12)]) (g := gName 12) (tt := tYes) rfl sc_opened.nd (pi_tup (pv 4)) (blkOk_by (N := ["catalog", "bundles", "name", "region", "wants", "by", "worth", "table", "pairs", "pair", "item", "count", "want"]) (sc := defScope s_opened) (by decide +kernel)) (fun _ _ _ _ _ => (pg_name (i := 12) sc_opened.nd rfl (.inl rfl))) (fun _ _ _ _ _ => pts_nil) (fun _ _ _ _ _ => (pe_callD K_is_want (hr.mono (by omega)) (pa_cons (pv 7) (pa_cons (pv 12) pa_nil))))) pa_nil))))))) (pss_one (ps_raiseC er rfl (L2N.takes_of rfl rfl rfl rfl) rfl)) pss_nil)
    (pss_cons (ps_set (i := 8) sc_opened.nd rfl (.inl rfl) (pe_callD K_needed (hr.mono (by omega)) (pa_cons (pe_ix ix_tup (pv 0) pe_int (fun _ _ => rfl)) (pa_cons (pv 7) (pa_cons (pv 4) pa_nil)))))
    (pss_cons (ps_if (PW.pt (pw_or (pt_cmpR op_gt (pe_callB call_len rfl B.len bi_len (pa_cons (pv 8) pa_nil)) pe_int (nomark _)) (pw_or1 (pt_val (pe_callB (cr_any rfl) rfl B.any bi_any (pa_cons (pe_lc (own := [("pair", 9)]) (g := gName 9) (tt := tYes) rfl sc_opened.nd (pi_tup (pv 8)) (blkOk_by (N := ["catalog", "bundles", "name", "region", "wants", "by", "worth", "table", "pairs", "pair", "item", "count", "want"]) (sc := defScope s_opened) (by decide +kernel)) (fun _ _ _ _ _ => (pg_name (i := 9) sc_opened.nd rfl (.inl rfl))) (fun _ _ _ _ _ => pts_nil) (fun _ _ _ _ _ => (pe_cmpR op_gt (pe_ix (r := rIxT K) ix_tup (pv 9) pe_int (fun _ _ => rfl)) pe_int (nomark _)))) pa_nil)))))) (pss_one (ps_raiseC er rfl (L2N.takes_of rfl rfl rfl rfl) rfl)) pss_nil)
    (pss_one (ps_ret (pe_tup (pa_cons (pv 2) (pa_cons (pv 3) (pa_cons (pe_callTy call_tuple_of rfl B.tuple bi_tuple (pa_cons (pe_lc (own := [("item", 10), ("count", 11)]) (g := gTup K 2 (gCons (gName 10) (gCons (gName 11) gNil))) (tt := tYes) rfl sc_opened.nd (pi_tup (pv 8)) (blkOk_by (N := ["catalog", "bundles", "name", "region", "wants", "by", "worth", "table", "pairs", "pair", "item", "count", "want"]) (sc := defScope s_opened) (by decide +kernel)) (fun _ _ _ _ _ => (pg_tup rfl (pgs_cons (pg_name (i := 10) sc_opened.nd rfl (.inl rfl)) (pgs_cons (pg_name (i := 11) sc_opened.nd rfl (.inl rfl)) pgs_nil)))) (fun _ _ _ _ _ => pts_nil) (fun _ _ _ _ _ => (pe_tup (pa_cons (pe_tup (pa_cons (pv 10) pa_nil)) (pa_cons (pv 11) pa_nil))))) pa_nil)) (pa_cons (pv 5) (pa_cons (pv 6) pa_nil)))))))))))))), fun ds c vs G h n => ?_⟩)
  · obtain ⟨t, bs, ow, dn, dr, db, dw, rfl, _⟩ := h
    rfl
  · obtain ⟨t, bs, ow, dn, dr, db, dw, rfl, hd, rfl⟩ := h
    obtain ⟨v, r, rfl, n0, n⟩ := dnc n
    obtain ⟨v1, r, rfl, n1, n⟩ := dnc n
    obtain ⟨v2, r, rfl, n2, n⟩ := dnc n
    obtain ⟨v3, r, rfl, n3, n⟩ := dnc n
    obtain ⟨v4, r, rfl, n4, n⟩ := dnc n
    obtain ⟨v5, r, rfl, n5, n⟩ := dnc n
    obtain ⟨v6, r, rfl, n6, n⟩ := dnc n
    obtain rfl := dnn n
    have few := few_its hd.cat
    have ok : bunsOk t.its bs = true := by
      have z := hd.ok
      unfold bunsOkD at z
      rw [Bool.and_eq_true] at z
      exact z.2
    refine evx_drop (evd_call (ea_cons (evd_at n0) ea_nil) ⟨t, rfl, hd.cat, rfl⟩) (fun G1 e1 => ?_)
    refine evx_dropS (c1 := .none) (ea_cons (evd_at n0) (ea_cons (evd_at n1) ea_nil)) ⟨t, some bs, rfl, ⟨few, fun _ z => by cases z; exact hd.bun⟩, by rw [hd.ok]; rfl⟩ (fun G2 e2 => ?_)
    have e3 := e1.trans e2
    refine evx_set (evd_call (ea_cons (evd_op (evd_at n0 e3) (evd_int (i := ((2 : Nat) : Int))) (cat_items t)) (ea_cons (evd_at n1 e3) ea_nil)) ⟨t.its, bs, rfl, ⟨hd.cat.its.nd, few, ok, hd.bun.few⟩, rfl⟩) (fun v7 G3 e4 n7 => ?_)
    have e5 := e3.trans e4
    have n4' := Dn.mono e5 _ n4
    have wd : Wid t.its.length (tabF t.its bs) := wid_tabF _ _
    refine evx_if (b := !wantsOk (tabF t.its bs) ow) ?_ (fun h => ?_) (fun h => ?_)
    · cases ow with
      | none => exact evt_or (a := true) (b := false) (evt_not (b := false) (evt_B (evd_call (ea_cons (evd_at n4') (ea_cons evd_int (ea_cons evd_int ea_nil))) row_domN))) (fun z => nomatch z)
      | some ws =>
        have len1 : (ws.map pairD).length = ws.length := List.length_map _
        refine evt_is (evt_or (evt_not (evt_B (evd_is (d' := .bool (decide (1 ≤ (ws.length : Int)) && decide ((ws.length : Int) ≤ 6))) (evd_call (ea_cons (evd_at n4') (ea_cons evd_int (ea_cons evd_int ea_nil))) row_domF) (by rw [len1])))) (fun _ => evt_not (evt_B (evd_cb (ea_cons (evd_is (d' := .list (boolL (ws.map (wantB (tabF t.its bs))))) (evd_lcN (r := wantD (tabF t.its bs)) (ei_tup (evd_at n4')) (by rw [len1]; have := hd.many ws rfl; omega) (fun x => rfl) (fun d hdd y G4 e6 ny => ?_)) ?_) ea_nil) (r_all (b := ws.all (wantB (tabF t.its bs))) ?_))))) ?_
        · obtain ⟨q, _, rfl⟩ := List.mem_map.mp hdd
          exact evd_call (ea_cons (evd_at n7) (ea_cons (evd_at ny) ea_nil)) ⟨_, q, rfl, rfl⟩
        · unfold boolL
          rw [List.map_map, List.map_map]
          rfl
        · rw [List.all_map]
          rfl
        · show (!(decide (1 ≤ (ws.length : Int)) && decide ((ws.length : Int) ≤ 6)) || !ws.all (wantB (tabF t.its bs))) = !((decide (1 ≤ (ws.length : Int)) && decide ((ws.length : Int) ≤ 6)) && ws.all (wantB (tabF t.its bs)))
          exact (Bool.not_and _ _).symm
    · rw [Bool.not_eq_true'] at h
      have eo : openF t bs ow = none := by
        cases ow with
        | none => rfl
        | some ws =>
          unfold openF
          simp only [h]
          rfl
      rw [eo]
      exact evx_raise
    · rw [Bool.not_eq_false'] at h
      cases ow with
      | none => cases h
      | some ws =>
        have each : ∀ q ∈ ws, wantB (tabF t.its bs) q = true := by
          unfold wantsOk at h
          rw [Bool.and_eq_true, List.all_eq_true] at h
          exact h.2
        refine evx_set (d := .tuple ((needF t.its (tabF t.its bs) ws).map pairD)) (evd_call (ea_cons (evd_op (evd_at n0 e5) (evd_int (i := ((2 : Nat) : Int))) (cat_items t)) (ea_cons (evd_at n7) (ea_cons (evd_at n4') ea_nil))) ⟨t.its, tabF t.its bs, ws, rfl, want_need wd few (hd.many ws rfl) each, rfl⟩) (fun v8 G4 e6 n8 => ?_)
        have len2 : ((needF t.its (tabF t.its bs) ws).map pairD).length = (needF t.its (tabF t.its bs) ws).length := List.length_map _
        have l3 := needF_len t.its (tabF t.its bs) ws
        have lim : ((needF t.its (tabF t.its bs) ws).map pairD).length ≤ 40000 := by
          rw [len2]
          omega
        refine evx_if (b := !manyOk (needF t.its (tabF t.its bs) ws)) (evt_is (evt_or (evt_test (evd_op (evd_cb (ea_cons (evd_at n8) ea_nil) (r_lenT (by rw [len2]))) evd_int (r_I0 fun G => .bl _))) (fun _ => evt_B (evd_cb (ea_cons (evd_is (d' := .list (boolL ((needF t.its (tabF t.its bs) ws).map fun p => decide (p.2 > 99)))) (evd_lcN (r := overD) (ei_tup (evd_at n8)) lim (fun x => rfl) (fun d hdd y G5 e7 ny => ?_)) ?_) ea_nil) (r_any (b := (needF t.its (tabF t.its bs) ws).any fun p => decide (p.2 > 99)) ?_)))) ?_) (fun h2 => ?_) (fun h2 => ?_)
        · obtain ⟨q, _, rfl⟩ := List.mem_map.mp hdd
          exact evd_op (evd_op (evd_at ny) (evd_int (i := ((1 : Nat) : Int))) (r_ixT (c := .int q.2) rfl)) evd_int (r_I0 fun G => .bl _)
        · unfold boolL
          rw [List.map_map, List.map_map]
          rfl
        · rw [List.any_map]
          rfl
        · unfold manyOk
          rw [Bool.not_not]
        · rw [Bool.not_eq_true'] at h2
          have eo : openF t bs (some ws) = none := by
            unfold openF
            simp only [h, h2, if_true]
            rfl
          rw [eo]
          exact evx_raise
        · rw [Bool.not_eq_false'] at h2
          have eo : openF t bs (some ws) = some (needF t.its (tabF t.its bs) ws) := by
            unfold openF
            simp only [h, h2, if_true]
          rw [eo]
          have e7 := e5.trans e6
          refine evx_ret (evd_tup (ea_cons (evd_at n2 e7) (ea_cons (evd_at n3 e7) (ea_cons (evd_cb (ea_cons (evd_is (d' := .list ((needF t.its (tabF t.its bs) ws).map lotD)) (evd_lcP (r := lotOf) (ei_tup (evd_at n8)) lim (fun d hdd => ?_) (fun x y => rfl) (fun a b hab x y G5 e8 nx ny => ?_)) ?_) ea_nil) r_tupL) (ea_cons (evd_at n5 e7) (ea_cons (evd_at n6 e7) ea_nil))))) (by show 5 ≤ 100000; decide))
          · obtain ⟨q, _, rfl⟩ := List.mem_map.mp hdd
            exact ⟨_, _, rfl⟩
          · obtain ⟨q, _, eq⟩ := List.mem_map.mp hab
            cases eq
            exact evd_tup (ea_cons (evd_tup (ea_cons (evd_at nx) ea_nil) (by show 1 ≤ 100000; decide)) (ea_cons (evd_at ny) ea_nil)) (by show 2 ≤ 100000; decide)
          · rw [List.map_map]
            rfl
end
end Sh

set_option Elab.async false
set_option linter.all false
set_option maxRecDepth 100000
set_option maxHeartbeats 4000000
/-! a made tuple that is held whole, and dict of it -/
namespace L2
open PySem PySem.Spec PyProof.Rows
section
variable {X : Cx}
/-- tuple(l) of a list; the object itself is told -/
def rTupF (K : PySem.W.Frag) : List V → Hp → VK → Prop := fun xs H Q => ∃ p ys, xs = [.ref p] ∧ SqL K H p ys ∧ ∀ l o, H l = none → o.dict = none → Q (.ref l) (upd H l (.frz o (.tup ys)))
theorem call_tupF : CallR X (.type "tuple") (rTupF X.K) := by
  intro pins s σ H xs us Q I r h
  obtain ⟨p, ys, rfl, hq, q⟩ := h
  obtain ⟨u, rfl, rx⟩ := vals1 r
  cases rx
  obtain ⟨its, r', pl, hz⟩ := I.list hq
  have hlen := r'.length
  refine call_tuple_list pl.isList (fun h' kp => ?_) (by simp only [List.size_toArray] <;> omega)
  have I1 : Inv X pins σ H { s with heap := h' } := I.kept (t' := s.toks) kp
  have I2 : Inv X pins σ (upd H h'.objs.size (.frz { cls := .type "tuple", data := .seq its.toArray } (.tup ys))) { s with heap := h'.push { cls := .type "tuple", data := .seq its.toArray } } :=
    I1.laid (t' := s.toks) (fun b o e => Heap.get?_push_of_some _ e) (Nat.le_refl _) (show ObjOk X.prog X.w _ _ _ (.frz _ (.tup ys)) from ⟨Heap.get?_push_size _ rfl, hz, its, r', IsTup.new _ _⟩)
  exact ⟨.ref h'.objs.size, _, I2, rfl, q _ _ (I1.hok.fresh (Nat.le_refl _)) rfl⟩
theorem pairs_two {pins : List (Addr × Obj)} {σ : St} {H : Hp} {s : Shared} (I : Inv X pins σ H s) : ∀ {ps : List Addr} {kvs : List (Key × V)}, Paired (fun p kv => SqT X.K H p [kV kv.1, kv.2]) ps kvs →
    ∃ (prs : List (Key × Value)) (ws : List (Value × Value)), KV kvs prs ∧ prs.length = ps.length ∧ ws.length = ps.length ∧ (∀ (j : Nat) (k v : Value), ws[j]? = some (k, v) → ∃ b, ps[j]? = some b ∧ IsTup s.heap b #[k, v]) ∧ ∀ (j : Nat) (k v : Value), ws[j]? = some (k, v) → ∃ y, prs[j]? = some (y, v) ∧ keyIs y k = true
  | _, _, .nil => ⟨[], [], .nil, rfl, rfl, fun j k v e => by simp at e, fun j k v e => by simp at e⟩
  | _, _, .cons (a := p) (b := kv) h t => by
    obtain ⟨prs, ws, r, hl, hw, h1, h2⟩ := pairs_two I t
    obtain ⟨its, rv, ht, _⟩ := I.tuple h
    obtain ⟨u, y, ei, ru, ry⟩ := vals2 rv
    subst ei
    refine ⟨(kv.1, y) :: prs, (u, y) :: ws, .cons ⟨rfl, ry⟩ r, by rw [List.length_cons, List.length_cons, hl], by rw [List.length_cons, List.length_cons, hw], fun j k v e => ?_, fun j k v e => ?_⟩
    · cases j with
      | zero =>
        have e' : (u, y) = (k, v) := Option.some.inj e
        cases e'
        exact ⟨p, rfl, ht⟩
      | succ j =>
        obtain ⟨b, e1, e2⟩ := h1 j k v (by simpa using e)
        exact ⟨b, by simpa using e1, e2⟩
    · cases j with
      | zero =>
        have e' : (u, y) = (k, v) := Option.some.inj e
        cases e'
        exact ⟨kv.1, rfl, kV_is (P := X.prog) (w := X.w) ru⟩
      | succ j =>
        obtain ⟨y', e1, e2⟩ := h2 j k v (by simpa using e)
        exact ⟨y', by simpa using e1, e2⟩
def rDictF (K : PySem.W.Frag) : List V → Hp → VK → Prop := fun xs H Q => ∃ (a : Addr) (o : Obj) (ps : List Addr) (kvs : List (Key × V)), xs = [.ref a] ∧ H a = some (.frz o (.tup (ps.map V.ref))) ∧ o.dict = none ∧ Paired (fun p kv => SqT K H p [kV kv.1, kv.2]) ps kvs ∧
    ∀ p, H p = none → Q (.ref p) (upd H p (.dK (mergeK [] kvs)))
theorem call_dictF (hcalm : X.calm = true) : CallR X (.type "dict") (rDictF X.K) := by
  intro pins s σ H xs us Q I r q
  obtain ⟨a, ob, ps, kvs, ex, hq, hd, hp, q⟩ := q
  subst ex
  obtain ⟨u, eu, rx⟩ := vals1 r
  subst eu
  cases rx
  obtain ⟨ho, hz, its, rv, o2, ho2, hc2, n, hdat⟩ := (show ObjOk X.prog X.w H s.heap a (.frz ob (.tup (ps.map V.ref))) from I.hok a _ hq)
  have eo : o2 = ob := Option.some.inj (ho2.symm.trans ho)
  subst eo
  have ei := refs_at rv
  subst ei
  rw [List.length_map] at hz
  obtain ⟨prs, ws, rel, hl, hw, h1, h2⟩ := pairs_two I hp
  refine PySem.call_dict_pairs (knd := mixKind X.prog X.w) (kvs := prs) (PySem.PairArg.tuple a (ps.map Value.ref).toArray (fun j => ps.getD j 0) ws) (I.ok.hd hcalm) ⟨⟨o2, n, ho, hc2, hd, hdat⟩, by simp [hw], fun j k v e => ?_⟩ ⟨by rw [hl, hw], fun i k v e => h2 i k v e⟩ (by rw [hw]; exact hz) fun h' tk hd' k => ?_
  · obtain ⟨b, e1, e2⟩ := h1 j k v e
    refine ⟨by simp [e1], .inl ?_⟩
    show s.heap.IsTuple (ps.getD j 0) #[k, v]
    rw [List.getD_eq_getElem?_getD, e1]
    exact e2
  · have hm : (s.heap.objs.size == sysModules) = false := beq_eq_false_iff_ne.mpr (Nat.ne_of_gt I.big)
    have hlen : (mergeK [] kvs).length ≤ sizeLine := by
      refine Nat.le_trans (length_mergeK kvs []) ?_
      rw [List.length_nil, Nat.zero_add, rel.length, hl]
      exact hz
    exact ⟨.ref s.heap.objs.size, upd H s.heap.objs.size (.dK (mergeK [] kvs)), I.laid (t' := tk) (fun b o e => k b o (by simp) e) (Nat.le_refl _) (show ObjOk X.prog X.w _ _ _ (.dK (mergeK [] kvs)) from ⟨hlen, hm, merged [] prs, KV.merge rel .nil, hd'⟩), rfl, q _ (I.hok.fresh (Nat.le_refl _))⟩
end
end L2

set_option Elab.async false
set_option linter.all false
set_option maxRecDepth 100000
set_option maxHeartbeats 4000000
/-! a list comprehension within an except suite -/
namespace ShH
open PySem PySem.Spec PyProof.Rows L2 L2H HotX
section
variable {prog : Program} {w : World} {A : Around} {E : Value → Shared → Prop} {s : Shared}
/-- the end of a list's iterator, while an exception is handled -/
theorem next_end {it l x1 : Addr} {i : Nat} {items : Array Value} {Q : Option Value → Shared → Prop} (hot : HotAt A x1 s.heap) (hne : x1 ≠ it)
    (hit : s.heap.IsListIter it l i) (hl : s.heap.IsList l items) (hx : items[i]? = none)
    (hQ : ∀ h', Heap.ExtBut it s.heap h' → Q none { s with heap := h' }) : wpAny (model prog w) A (pyNext (.ref it)) Q E s := by
  obtain ⟨hh, o1, vs1, h1, d1, c1⟩ := hot
  obtain ⟨o, ho, hc, hd⟩ := id hit
  obtain ⟨ol, hol, _, nl, hdl⟩ := hl
  unfold pyNext
  refine wpAny_bind (wpAny_attempt (wpAny_callSpecial?_slot (name := Str.ofString "__next__") hit.typeIs slot_listiter_next
    (wpAny_call_entry slot_listiter_next hit.typeIs entry_listiter_next ?_ (args_listiter_next _))))
  show wpAny _ _ (field (.ref it) 0 >>= _) _ _ s
  refine wpAny_bind (wpAny_field ho hd (x := .ref l) rfl ?_)
  show wpAny _ _ (if (Value.ref l == Value.none) = true then _ else _) _ _ s
  rw [if_neg (show ¬ ((Value.ref l == Value.none) = true) from Bool.false_ne_true)]
  show wpAny _ _ (field (.ref it) 1 >>= _) _ _ s
  refine wpAny_bind (wpAny_field ho hd (x := .int i 0) rfl ?_)
  show wpAny _ _ (seqItems? (.ref l) >>= _) _ _ s
  refine wpAny_bind (wpAny_seqItems hol hdl ?_)
  simp only [Int.toNat_natCast, hx]
  refine wpAny_bind (wpAny_rule (wpAny_bind (wpAny_setField ho hd (by simp) ?_)))
  have sb : ∀ f, Heap.SameBut it s.heap (s.heap.update it f) := fun f => Heap.SameBut.update ..
  have k1 : ∀ f, (s.heap.update it f).get? x1 = some o1 := fun f => (sb f).extBut x1 o1 hne h1
  show wpAny _ _ (newExc (.type "StopIteration") [] >>= _) _ _ _
  refine wpAny_bind ?_
  simp only [newExc, newTuple]
  refine wpAny_bind (wpAny_newObj_type ?_ (by size_fits))
  refine wpAny_bind (m := firstArgMember _ _) (wpAny_of_eq (a := Value.none) (by first | rfl | (simp only [firstArgMember]; rfl)) ?_)
  refine wpAny_newObj_type ?_ (by size_fits)
  refine raiseNew_hot ⟨hh, o1, vs1, Heap.get?_push_of_some _ (Heap.get?_push_of_some _ (k1 _)), d1, c1⟩ (Nat.ne_of_lt (Heap.lt_size (Heap.get?_push_of_some _ (k1 _)))) (Heap.get?_push_size _ rfl) rfl (by first | (simp; done) | (simp; omega) | (simp only [Array.size_append]; simp; omega)) ?_
  refine wpAny_bind (wpAny_isInstance (T := "StopIteration") (b := true) ⟨_, Heap.get?_update_self _ (Heap.get?_push_size _ rfl) rfl, rfl⟩ isSubtype_stop ?_)
  refine wpAny_pure (hQ _ fun b u hb e => ?_)
  have k2 : ∀ f, (s.heap.update it f).get? b = some u := fun f => (sb f).extBut b u hb e
  rw [Heap.get?_update_other _ _ (Nat.ne_of_gt (Heap.lt_size (Heap.get?_push_of_some _ (k2 _))))]
  exact Heap.get?_push_of_some _ (Heap.get?_push_of_some _ (k2 _))
end
section
variable {X : Cx}
/-- an item, in any context -/
theorem item_any {tg : Expr} {a it : Addr} {i : Nat} {pins : List (Addr × Obj)} {s : Shared} {σ : L2.St} {H : Hp} {E : Value → Shared → Prop} (I : Inv X pins σ H s) (hf : FpOk X pins H it) (st : s.heap.IsListIter it a i) (hg : (Itl X.K a).go i H) :
    wpAny (model X.prog X.w) X.A (pyNext (.ref it)) (fun r s1 => ∃ u, r = some u ∧
      wpAny (model X.prog X.w) X.A (letOwnedTupleGo tg (.ref it) u) (fun _ s2 => ∃ x H', Inv X pins σ H' s2 ∧ RelV x u ∧ (Itl X.K a).yld i H x H' ∧ s2.heap.IsListIter it a (i + 1) ∧ H' it = none) E s1) E s := by
  obtain ⟨xs, x, hq, hx⟩ := hg
  obtain ⟨its, rv, p, hz⟩ := I.list hq
  obtain ⟨u, hu, ru⟩ := rv.get hx
  obtain ⟨f0, f1, f2, f3, f4, f5⟩ := hf
  refine wpAny_pyNext_list_item st p.isList (x := u) (by simpa using hu) fun h' st' sb => ?_
  have I1 : Inv X pins σ H { s with heap := h' } := I.turned (t' := s.toks) (fun b o hb e => (sb.2 b hb).trans e) f0 f1 f3 f4 f5
  obtain ⟨o, e, c, d⟩ := id st'
  exact ⟨u, rfl, go_of (s := { s with heap := h' }) e c d (by decide) ⟨x, H, I1, ru, ⟨rfl, fun ys hy => by rw [I.list_inj hy hq]; exact hx⟩, st', f0⟩⟩
theorem done_hot {a it x1 : Addr} {i : Nat} {pins : List (Addr × Obj)} {s : Shared} {σ : L2.St} {H : Hp} {E : Value → Shared → Prop} (hot : HotAt X.A x1 s.heap) (hne : x1 ≠ it) (I : Inv X pins σ H s) (hf : FpOk X pins H it) (st : s.heap.IsListIter it a i) (hg : (Itl X.K a).stop i H) :
    wpAny (model X.prog X.w) X.A (pyNext (.ref it)) (fun r s1 => r = none ∧ Inv X pins σ H s1) E s := by
  obtain ⟨xs, hq, hx⟩ := hg
  obtain ⟨its, rv, p, hz⟩ := I.list hq
  obtain ⟨f0, f1, f2, f3, f4, f5⟩ := hf
  have hl := rv.length
  exact next_end hot hne st p.isList (by simp; omega) fun h' eb => ⟨rfl, I.turned (t' := s.toks) (fun b o hb e => eb b o hb e) f0 f1 f3 f4 f5⟩
theorem lc_hot {pins : List (Addr × Obj)} {s : Shared} {σ : L2.St} {H : Hp} {Q : VK} {elt tg iter : Expr} {ifs : List Expr} {scope : Scope} {own : List (Str × Nat)} {pos pos' : Pos} {tl : TE} {g : TG} {tt : TT} {te : TE} {use : Option (Value → Sem Unit)} {Qf : Value → Shared → Prop}
    (hc : HotC X) (hN : X.N.Nodup) (I : Inv X pins σ H s) (hi : PE X iter tl) (ok : BlkOk X.N X.env.scope scope own)
    (hg : ∀ (s : Shared) (H : Hp) (C : Addr) (cl : List (Str × Addr)) (fp : List Addr), PG (X.blk s H scope (compEnvC scope cl C X.env) fp) tg g) (ht : ∀ (s : Shared) (H : Hp) (C : Addr) (cl : List (Str × Addr)) (fp : List Addr), PTs (X.blk s H scope (compEnvC scope cl C X.env) fp) ifs tt)
    (he : ∀ (s : Shared) (H : Hp) (C : Addr) (cl : List (Str × Addr)) (fp : List Addr), PE (X.blk s H scope (compEnvC scope cl C X.env) fp) elt te) (hs : ∀ x, foldedSetIterable iter X.env x = pure x)
    (h : tLc (iList X.K tl) g tt te (own.map (·.2)) σ H Q)
    (hRR : ∀ D C s' m H', Inv X pins σ H' s' → Q (.ref D) H' → s'.heap.Ns C m → FpOk X pins H' C → compPost (model X.prog X.w) X.A X.xe use Qf (.ref D) C (.ok .next) s') :
    wpAny (model X.prog X.w) X.A (comprehension (.ListComp elt [⟨tg, iter, ifs, 0⟩] scope pos) scope X.env pos' (newList []) false (eval iter X.env) use) Qf X.xe s := by
  have hfree : ∀ y ∈ scope.names, y.2 = .free → ∃ c, X.env.cells.lookup y.1 = some c := fun y hy e => by
    rcases ok.free y hy e with k | k
    · exact I.ok.has _ (.inl k)
    · exact I.ok.has _ (.inr k)
  refine wpAny_comprehension_free (use := use) rfl hs (closure_ok hfree) ok.kind (fun y hy e => by rw [ok.uniq y hy, e])
    (thn (hi.run pins s σ H _ I h) fun xv s1 ⟨x, H1, I1, r1, q1⟩ => ?_)
  obtain ⟨a, ex, ⟨xs, hq⟩, q⟩ := q1
  subst ex
  cases r1
  obtain ⟨its, rv, pl, hz⟩ := I1.list hq
  refine wpAny_pyIter_list pl.isList ?_
  have I2 : Inv X pins σ H1 { s1 with heap := s1.heap.push { cls := .type "list_iterator", data := .fields #[.ref a, .int 0 0] } } := I1.kept (t' := s1.toks) fun b o e => Heap.get?_push_of_some _ e
  have st2 : ({ s1 with heap := s1.heap.push { cls := .type "list_iterator", data := .fields #[.ref a, .int 0 0] } } : Shared).heap.IsListIter s1.heap.objs.size a 0 := ⟨_, Heap.get?_push_size _ rfl, rfl, rfl⟩
  have f2 : FpOk X pins H1 s1.heap.objs.size := I1.fpOk (Nat.le_refl _) (I1.hok.fresh (Nat.le_refl _))
  generalize hit : s1.heap.objs.size = it at st2 f2
  generalize hs2 : ({ s1 with heap := s1.heap.push { cls := .type "list_iterator", data := .fields #[.ref a, .int 0 0] } } : Shared) = s2 at I2 st2
  refine wpAny_newObj_type (newEnv_comp ?_) (by show 0 ≤ sizeLine; decide)
  generalize hD : s2.heap.objs.size = D
  have hDn : H1 D = none := I2.hok.fresh (Nat.le_of_eq hD)
  obtain ⟨W, ⟨m0, w0⟩, turn⟩ := q D hDn
  -- the new list
  generalize hs3 : ({ s2 with heap := s2.heap.push { cls := .type "list", data := .seq ([] : List Value).toArray } } : Shared) = s3
  have I3 : Inv X pins σ (upd H1 D (.lst [])) s3 := by
    rw [← hs3]
    refine I2.laid (t' := s2.toks) (fun b o e => Heap.get?_push_of_some _ e) (Nat.le_of_eq hD) ⟨Nat.zero_le _, [], 0, .nil, ?_⟩
    rw [← hD]
    exact Heap.get?_push_size _ rfl
  have h3 : s3.heap = s2.heap.push { cls := .type "list", data := .seq ([] : List Value).toArray } := by rw [← hs3]
  have szi : it < s2.heap.objs.size := by
    obtain ⟨o, e, _⟩ := st2
    exact Heap.lt_size e
  have f3 : ∀ b ∈ [it], FpOk X pins (upd H1 D (.lst [])) b ∧ b < s3.heap.objs.size := fun b hb => by
    have eb : b = it := by simpa using hb
    subst eb
    refine ⟨⟨?_, f2.2⟩, by rw [h3, Heap.size_push]; exact Nat.lt_succ_of_lt szi⟩
    rw [upd_ne (by rw [← hD]; exact Nat.ne_of_lt szi)]
    exact f2.1
  have st3 : s3.heap.IsListIter it a 0 := st2.at fun o e => by rw [h3]; exact Heap.get?_push_of_some _ e
  have I4 := block_start I3 ok hN f3
  have pg := hg s3 (upd H1 D (.lst [])) s3.heap.objs.size (cellsFrom (s3.heap.objs.size + 1) scope.names (cloFrom X.env.cells scope.names [])) [it]
  have pt := ht s3 (upd H1 D (.lst [])) s3.heap.objs.size (cellsFrom (s3.heap.objs.size + 1) scope.names (cloFrom X.env.cells scope.names [])) [it]
  have pe := he s3 (upd H1 D (.lst [])) s3.heap.objs.size (cellsFrom (s3.heap.objs.size + 1) scope.names (cloFrom X.env.cells scope.names [])) [it]
  -- the handled exception
  obtain ⟨px, ⟨hh, v1, e1, c1⟩, hpx⟩ := hc
  have P3 := I3.pin px (List.mem_append_left _ hpx)
  have pit : px.1 ≠ it := (f3 it (by simp)).1.2.2.2.2.2 px (List.mem_append_left _ hpx)
  have pfs : px.1 ∉ frs X.stack := fun hm => (List.mem_cons.mp (I3.stkSub px.1 hm)).elim P3.2.2.1 P3.2.2.2.1
  show codeAny _ _ (.compStart (.ListComp elt [⟨tg, iter, ifs, 0⟩] scope pos) 0 (.ref it) (.ref D) (compEnvC scope (cellsFrom (s3.heap.objs.size + 1) scope.names (cloFrom X.env.cells scope.names [])) s3.heap.objs.size X.env)) (compPost (model X.prog X.w) X.A X.xe use Qf (.ref D) s3.heap.objs.size) { s3 with heap := pushCells (s3.heap.push { cls := .type "dict", data := .dict #[] }) scope.names }
  have nfp : (upd H1 D (.lst [])) it = none := (f3 it (by simp)).1.1
  generalize hce : compEnvC scope (cellsFrom (s3.heap.objs.size + 1) scope.names (cloFrom X.env.cells scope.names [])) s3.heap.objs.size X.env = ce at I4 pg pt pe ⊢
  have cL : ce.locals = s3.heap.objs.size := by subst hce; rfl
  generalize hH3 : upd H1 D (.lst []) = H3 at I3 I4 pg pt pe w0 nfp f3 P3
  generalize hs4 : ({ s3 with heap := pushCells (s3.heap.push { cls := .type "dict", data := .dict #[] }) scope.names } : Shared) = s4 at I4 ⊢
  have st4 : s4.heap.IsListIter it a 0 := st3.at fun o e => by rw [← hs4]; exact pushCells_keeps _ _ _ _ (Heap.get?_push_of_some _ e)
  have stat : ∀ {σ' : L2.St} {H' : Hp} {s' : Shared}, Inv (X.blk s3 H3 scope ce [it]) [] σ' H' s' → H' it = none → FpOk (X.blk s3 H3 scope ce [it]) [] H' it := fun {σ' H' s'} I' hn =>
    ⟨hn, (I'.ok.exf it (by simp)).1, I'.ok.exfs it (by simp), .inl (by simp), fun x c e => (I'.ok.exf it (by simp)).2 x c e, fun p hp => absurd (show p ∈ ([] : List (Addr × Obj)) ++ [] from hp) (by simp)⟩
  have hot5 : ∀ {σ' : L2.St} {H' : Hp} {s' : Shared}, Inv (X.blk s3 H3 scope ce [it]) [] σ' H' s' → HotAt X.A px.1 s'.heap := fun {σ' H' s'} I' =>
    ⟨hh, px.2, v1, I'.base.keep px.1 px.2 P3.1 P3.2.1 pfs (by
      show px.1 ∉ [it]
      simpa using pit), e1, c1⟩
  have objs : ∀ {h : Heap} {i : Nat}, h.IsListIter it a i → ∀ b ∈ [it], ∃ o, h.get? b = some o ∧ ∀ v, o.data ≠ .cell v := fun {h i} st b hb => by
    have e : b = it := by simpa using hb
    subst e
    obtain ⟨o, e, c, d⟩ := st
    exact ⟨o, e, fun v z => by rw [d] at z; cases z⟩
  have loop : codeAny (model X.prog X.w) X.A (.compLoop (.ListComp elt [⟨tg, iter, ifs, 0⟩] scope pos) 0 (.ref it) (.ref D) ce) (compPost (model X.prog X.w) X.A X.xe use Qf (.ref D) s3.heap.objs.size) s4 := by
    refine compLoop_any (fun n s' => ∃ i H', Inv (X.blk s3 H3 scope ce [it]) [] (wipe σ (own.map (·.2))) H' s' ∧ s'.heap.IsListIter it a i ∧ H' it = none ∧ W i n H') ?_ m0 ⟨0, H3, I4, st4, nfp, w0⟩
    rintro n s5 ⟨i, H5, I5, st5, n5, w5⟩
    rcases turn i n H5 w5 with ⟨stop, qq⟩ | ⟨go, Nx, hNx, step⟩
    · have td := done_hot (X := X.blk s3 H3 scope ce [it]) (E := fun _ _ => False) (hot5 I5) pit I5 (stat I5 n5) st5 stop
      refine thnF td fun r s6 ⟨hr, I6⟩ => ?_
      subst hr
      -- back in the def's context
      have I7 : Inv X pins σ H5 s6 := I3.call' (ch := [it]) I6.os I6.base I6.hok I6.bare fun b hb => ⟨(f3 b hb).1.2.2.2.1, (f3 b hb).1.2.1, (f3 b hb).1.2.2.2.2.1, (f3 b hb).1.2.2.2.2.2⟩
      have nC : H5 s3.heap.objs.size = none := by
        have z : H5 ce.locals = none := I6.free
        rw [cL] at z
        exact z
      obtain ⟨m, hn, _⟩ := I6.loc
      have hn : s6.heap.Ns ce.locals m := hn
      rw [cL] at hn
      exact hRR D s3.heap.objs.size s6 m H5 I7 qq hn (I3.fpOk (Nat.le_refl _) nC)
    · have ti := item_any (X := X.blk s3 H3 scope ce [it]) (tg := tg) (E := fun _ _ => False) I5 (stat I5 n5) st5 go
      refine thnF ti fun r s6 ⟨u, hr, h6⟩ => ?_
      subst hr
      refine thnF h6 fun _ s7 ⟨x, H7, I7, r7, y7, st7, n7⟩ => ?_
      have I7' := I7.pinned (fp := [it]) (fun b hb => by
        have e : b = it := by simpa using hb
        subst e
        exact stat I7 n7) (objs st7)
      refine thnF (pg.run _ s7 _ H7 x u _ I7' r7 (step x H7 y7)) fun _ s8 ⟨σ8, H8, I8, hw8, q8⟩ => ?_
      refine thnF (pt.run _ s8 σ8 H8 _ I8 q8) fun b s9 ⟨H9, I9, q9⟩ => ?_
      -- the turn's end
      have fin : ∀ {s' : Shared} {H' : Hp}, Inv (X.blk s3 H3 scope ce [it]) ([] ++ pinsAt [it] s7.heap) σ8 H' s' → Nx H' → ∃ m, m < n ∧ ∃ i H', Inv (X.blk s3 H3 scope ce [it]) [] (wipe σ (own.map (·.2))) H' s' ∧ s'.heap.IsListIter it a i ∧ H' it = none ∧ W i m H' := fun {s' H'} I' nx => by
        obtain ⟨m', hm, w'⟩ := hNx H' nx
        have pin' : ∀ o, s7.heap.get? it = some o → s'.heap.get? it = some o ∧ H' it = none := fun o e =>
          let z := I'.pin (it, o) (List.mem_append_right _ (List.mem_append_right _ (mem_pinsAt (by simp) e)))
          ⟨z.1, z.2.1⟩
        have hl : (wipe σ (own.map (·.2))).length = σ8.length := by rw [← hw8, wipe_length]
        refine ⟨m', hm, i + 1, H', (I'.unpinned (pins := [])).weak hl (fun j v e => ?_), st7.at fun o e => (pin' o e).1, ?_, w'⟩
        · rw [← hw8] at e
          exact (wipe_some e).1
        · obtain ⟨o, e, _⟩ := objs st7 it (by simp)
          exact (pin' o e).2
      cases b with
      | false =>
        simp only [Bool.false_eq_true, if_false] at q9 ⊢
        exact fin I9 q9
      | true =>
        simp only [if_true] at q9 ⊢
        refine thnF (pe.run _ s9 σ8 H9 _ I9 q9) fun z s10 ⟨yv, H10, I10, r10, acc, hD10, hz10, nx⟩ => ?_
        exact app_ok (X := X.blk s3 H3 scope ce [it]) I10 hD10 hz10 r10 fun s11 I11 => fin I11 nx
  exact codeAny_compStart_list loop (wpAny_pyIter_listiter st4 loop)
/-- as a value -/
theorem pe_lcHot {elt tg iter : Expr} {ifs : List Expr} {scope : Scope} {own : List (Str × Nat)} {pos : Pos} {tl : TE} {g : TG} {tt : TT} {te : TE} (hc : HotC X) (hN : X.N.Nodup) (hi : PE X iter tl) (ok : BlkOk X.N X.env.scope scope own)
    (hg : ∀ (s : Shared) (H : Hp) (C : Addr) (cl : List (Str × Addr)) (fp : List Addr), PG (X.blk s H scope (compEnvC scope cl C X.env) fp) tg g) (ht : ∀ (s : Shared) (H : Hp) (C : Addr) (cl : List (Str × Addr)) (fp : List Addr), PTs (X.blk s H scope (compEnvC scope cl C X.env) fp) ifs tt)
    (he : ∀ (s : Shared) (H : Hp) (C : Addr) (cl : List (Str × Addr)) (fp : List Addr), PE (X.blk s H scope (compEnvC scope cl C X.env) fp) elt te) (hs : ∀ x, foldedSetIterable iter X.env x = pure x := by intro _; rfl) :
    PE X (.ListComp elt [⟨tg, iter, ifs, 0⟩] scope pos) (tLc (iList X.K tl) g tt te (own.map (·.2))) := by
  refine ⟨fun pins s σ H Q I h => ?_⟩
  rw [eval_ListComp]
  refine lc_hot hc hN I hi ok hg ht he hs h fun D C s' m H' I' q hn f => ⟨m, hn, fun h'' sb => ?_⟩
  obtain ⟨f0, f1, f2, f3, f4, f5⟩ := f
  exact ⟨.ref D, H', I'.turned (t' := s'.toks) (fun b o hb e => (sb.2 b hb).trans e) f0 f1 f3 f4 f5, rfl, q⟩
end
end ShH

set_option Elab.async false
set_option linter.all false
set_option maxRecDepth 100000
set_option maxHeartbeats 4000000
/-! the law: its draws -/
namespace Sh
open PySem PySem.Spec L2
open PyProof.Rows hiding St
open Evl (Ex)
theorem sqx {K : PySem.W.Frag} {G H : Hp} {a : Addr} {xs : List V} (e : Ex G H) (h : SqL K G a xs) : SqL K H a xs := h.elim (fun q => .inl (rdx e q)) .inr
/-- the row of draws stands at r, over the script at sc -/
structure RowSt (K : PySem.W.Frag) (r sc : Addr) (G H : Hp) : Prop where
  s : Ex G H
  n : G r = none
  row : ∃ a b c : Int, 0 ≤ a ∧ H r = some (.lst [.ref sc, .int a, .int b, .int c])
  scr : ∃ ns : List Int, SqL K G sc (ns.map V.int)
/-- growth, and draws made -/
structure Gq (K : PySem.W.Frag) (r sc : Addr) (G H G2 H2 : Hp) : Prop where
  g : Ex G G2
  st : RowSt K r sc G2 H2
  h : ∀ a o, a ≠ r → H a = some o → H2 a = some o
  f : ∀ a, G a = none → H a ≠ none → G2 a = none
section
variable {K : PySem.W.Frag} {r sc : Addr} {G H G2 H2 G3 H3 : Hp}
theorem Gq.refl (s : RowSt K r sc G H) : Gq K r sc G H G H := ⟨Ex.refl _, s, fun _ _ _ h => h, fun _ h _ => h⟩
theorem Gq.of (s : RowSt K r sc G H) (b : Gr G H G2 H2) : Gq K r sc G H G2 H2 := by
  obtain ⟨a, bb, c, h1, h2⟩ := s.row
  obtain ⟨ns, h3⟩ := s.scr
  exact ⟨b.g, ⟨b.s, b.f r s.n (by rw [h2]; intro z; cases z), ⟨a, bb, c, h1, b.h _ _ h2⟩, ⟨ns, sqx b.g h3⟩⟩, fun a o _ q => b.h _ _ q, b.f⟩
theorem Gq.trans (s : RowSt K r sc G H) (a : Gq K r sc G H G2 H2) (b : Gq K r sc G2 H2 G3 H3) : Gq K r sc G H G3 H3 := ⟨a.g.trans b.g, b.st, fun x o hx q => b.h x o hx (a.h x o hx q), fun x h1 h2 => by
  by_cases hx : x = r
  · rw [hx]
    exact b.st.n
  · refine b.f x (a.f x h1 h2) fun z => ?_
    cases q : H x with
    | none => exact h2 q
    | some u =>
      have z2 := a.h x u hx q
      rw [z] at z2
      cases z2⟩
/-- the row alone is written -/
theorem RowSt.put (s : RowSt K r sc G H) {a b c : Int} (h : 0 ≤ a) : RowSt K r sc G (upd H r (.lst [.ref sc, .int a, .int b, .int c])) := ⟨Ex.mut s.s s.n, s.n, ⟨a, b, c, h, upd_same⟩, s.scr⟩
theorem Gq.put (s : RowSt K r sc G H) {a b c : Int} (h : 0 ≤ a) : Gq K r sc G H G (upd H r (.lst [.ref sc, .int a, .int b, .int c])) := ⟨Ex.refl _, s.put h, fun x o hx q => by
  rw [upd_ne hx]
  exact q, fun _ h _ => h⟩
end
section
variable {P : Program} {w : World} {K : PySem.W.Frag} {mg : Str → Option Value} {base : Heap} {σ : L2.St} {H : Hp} {Q : VK} {r : Addr} {l : List V} {k : Nat} {v : V}
theorem ifp {b : Bool} {p q : Prop} (h : b = true → p) (k : b = false → q) : if b = true then p else q := by
  cases b with
  | true => exact h rfl
  | false => exact k rfl
theorem rd (hl : H r = some (.lst l)) (hk : l[k]? = some v) (q : Q v H) (hs : σ[0]? = some (some (.ref r)) := by rfl) : tOp (rIxL K) (tVar 0) (tC (.int (k : Nat))) σ H Q := ⟨_, hs, r, l, (k : Nat), v, rfl, rfl, .inl (.inl hl), atI_nat hk, q⟩
abbrev s__law_taken : Stmt := topS 31
theorem sc__law_taken : FnScope ["row", "many", "cell", "found"] ["row", "many"] (defScope s__law_taken) := ⟨rfl, rfl, rfl, by decide +kernel, rfl, by decide +kernel, by decide +kernel⟩
def spTaken (K : PySem.W.Frag) : Sp := fun vs H Q _ => ∃ r sc G m, vs = [.ref r, .int m] ∧ 0 < m ∧ m ≤ 1000 ∧ RowSt K r sc G H ∧ ∀ (v : Nat) H2, (v : Int) < m → Gq K r sc G H G H2 → Q (.int v) H2
theorem keeps_taken (B : Bi mg) (S : Stands K mg "_law_taken" s__law_taken ["row", "many"]) : Keeps P w K mg base CX0 1 "_law_taken" ["row", "many"] (spTaken K) := by
  obtain ⟨f, fd, F, hm, hb⟩ := S
  refine ⟨f, fd, F.ok sc__law_taken (fun vs H Q E h => ?_) (fun cdv A outer s H vs Q E hr h => ?_), hm, F.kp, hb⟩
  · obtain ⟨r, sc, G, m, rfl, _⟩ := h
    rfl
  · obtain ⟨r, sc, G, m, rfl, m0, m1, st, q⟩ := h
    refine ⟨_, (pss_cons (ps_if (pt_cmpR op_gt (pe_ix ix_list (pv 0) pe_int (fun _ _ => rfl)) pe_int (nomark _)) (pss_cons (ps_set (i := 3) sc__law_taken.nd rfl (.inl rfl) (pe_op op_modN (pe_callTy call_int1 rfl B.int bi_int (pa_cons (pe_ix ix_list (pv 0) pe_int (fun _ _ => rfl)) pa_nil)) (pv 1)))
    (pss_cons (ps_asg (pe_op op_fdivN (pe_ix ix_list (pv 0) pe_int (fun _ _ => rfl)) (pv 1)) (pg_sub (pv 0) pe_int set_list))
    (pss_one (ps_ret (pv 3))))) pss_nil)
    (pss_cons (ps_asg (pe_op op_add (pe_ix ix_list (pv 0) pe_int (fun _ _ => rfl)) pe_int) (pg_sub (pv 0) pe_int set_list))
    (pss_cons (ps_if (pt_cmpR op_gt (pe_ix ix_list (pv 0) pe_int (fun _ _ => rfl)) (pe_callB call_len rfl B.len bi_len (pa_cons (pe_ix ix_list (pv 0) pe_int (fun _ _ => rfl)) pa_nil)) (nomark _)) (pss_cons (ps_asg (pe_op op_modN (pe_callTy call_int1 rfl B.int bi_int (pa_cons (pe_op op_add (pe_op op_mul (pe_ix ix_list (pv 0) pe_int (fun _ _ => rfl)) pe_int) pe_int) pa_nil)) pe_int) (pg_sub (pv 0) pe_int set_list))
    (pss_one (ps_ret (pe_op op_modN (pe_callTy call_int1 rfl B.int bi_int (pa_cons (pe_op op_fdivN (pe_ix ix_list (pv 0) pe_int (fun _ _ => rfl)) pe_int) pa_nil)) (pv 1))))) pss_nil)
    (pss_cons (ps_set (i := 2) sc__law_taken.nd rfl (.inl rfl) (pe_ix ix_list (pe_ix ix_list (pv 0) pe_int (fun _ _ => rfl)) (pe_op op_sub (pe_ix ix_list (pv 0) pe_int (fun _ _ => rfl)) pe_int) (fun _ _ => rfl)))
    (pss_cons (ps_asg (pe_op op_modN (pe_callTy call_int1 rfl B.int bi_int (pa_cons (pe_op op_add (pe_op op_add (pe_op op_mul (pe_ix ix_list (pv 0) pe_int (fun _ _ => rfl)) pe_int) (pv 2)) pe_int) pa_nil)) pe_int) (pg_sub (pv 0) pe_int set_list))
    (pss_cons (ps_if (pt_cmpR op_ge (pv 2) (pe_op op_pow pe_int pe_int) (nomark _)) (pss_one (ps_asg (pe_op op_fdivN (pv 2) (pv 1)) (pg_sub (pv 0) pe_int set_list))) pss_nil)
    (pss_one (ps_ret (pe_op op_modN (pe_callTy call_int1 rfl B.int bi_int (pa_cons (pv 2) pa_nil)) (pv 1)))))))))), ?_⟩
    obtain ⟨a, b, c, ha, hl⟩ := st.row
    obtain ⟨ns, hsc⟩ := st.scr
    refine rd (k := 3) hl rfl ?_
    refine ⟨_, _, rfl, rfl, _, rfl, ?_⟩
    have m0' : m ≠ 0 := by omega
    have sm : m.natAbs < 1073741824 := by omega
    have fin : ∀ (x : Int) (H2 : Hp), Gq K r sc G H G H2 → Q (.int (x.fmod m)) H2 := fun x H2 g => by
      have h1 := Int.fmod_nonneg_of_pos x m0
      have h2 := Int.fmod_lt_of_pos x m0
      have z := q (x.fmod m).toNat H2 (by omega) g
      rw [show (((x.fmod m).toNat : Nat) : Int) = x.fmod m by omega] at z
      exact z
    refine ifp (fun _ => ?_) (fun _ => ?_)
    · refine rd (k := 3) hl rfl (.inl ⟨_, rfl, _, rfl, _, _, rfl, rfl, m0', ?_⟩)
      refine rd (k := 3) hl rfl ⟨_, rfl, _, _, rfl, rfl, ⟨m0', sm⟩, _, rfl, r, _, 3, 3, rfl, rfl, hl, rfl, _, rfl, ?_⟩
      exact fin c _ (Gq.put st ha)
    · have a1 : (0 : Int) ≤ a + 1 := by omega
      refine rd (k := 1) hl rfl ⟨_, _, rfl, rfl, _, rfl, r, _, 1, 1, rfl, rfl, hl, rfl, ?_⟩
      have g2 : Gq K r sc G H G (upd H r (.lst [.ref sc, .int (a + 1), .int b, .int c])) := Gq.put st a1
      have hl2 : (upd H r (.lst [.ref sc, .int (a + 1), .int b, .int c])) r = some (.lst [.ref sc, .int (a + 1), .int b, .int c]) := upd_same
      have hs2 := sqx g2.st.s hsc
      refine rd (k := 1) hl2 rfl (rd (k := 0) hl2 rfl ⟨_, ns.length, rfl, .inl ⟨_, hs2, (List.length_map _).symm⟩, _, _, rfl, rfl, _, rfl, ?_⟩)
      refine ifp (fun _ => ?_) (fun hle => ?_)
      · refine rd (k := 2) hl2 rfl ⟨_, _, rfl, rfl, .inr ⟨by decide, by decide⟩, _, _, rfl, rfl, .inl ⟨_, rfl, _, _, rfl, rfl, (by decide : (2147483647 : Int) ≠ 0), _, rfl, r, _, 2, 2, rfl, rfl, hl2, rfl, ?_⟩⟩
        refine rd (k := 2) (hl := upd_same) rfl ⟨_, _, rfl, rfl, ⟨by decide, by decide⟩, .inl ⟨_, rfl, _, rfl, _, _, rfl, rfl, m0', ?_⟩⟩
        exact fin _ _ (g2.trans st (Gq.put g2.st a1))
      · have hle' : a + 1 ≤ (ns.length : Int) := by
          have z := of_decide_eq_false hle
          omega
        have lt : a.toNat < ns.length := by omega
        have at1 : atI (ns.map V.int) (a + 1 - 1) = some (.int ns[a.toNat]) := by
          rw [show a + 1 - 1 = ((a.toNat : Nat) : Int) by omega]
          refine atI_nat ?_
          rw [List.getElem?_map, List.getElem?_eq_getElem lt]
          rfl
        generalize ns[a.toNat] = ce at at1
        refine rd (k := 0) hl2 rfl (rd (k := 1) hl2 rfl ⟨_, _, rfl, rfl, sc, _, _, _, rfl, rfl, hs2, at1, ?_⟩)
        refine rd (k := 2) hl2 rfl ⟨_, _, rfl, rfl, .inr ⟨by decide, by decide⟩, _, rfl, _, _, rfl, rfl, _, _, rfl, rfl, .inl ⟨_, rfl, _, _, rfl, rfl, (by decide : (2147483647 : Int) ≠ 0), _, rfl, r, _, 2, 2, rfl, rfl, hl2, rfl, ?_⟩⟩
        refine ⟨_, rfl, _, _, rfl, rfl, ⟨by decide, by decide, by decide⟩, _, _, rfl, rfl, _, rfl, ?_⟩
        refine ifp (fun _ => ?_) (fun _ => ?_)
        · refine ⟨_, rfl, _, rfl, _, _, rfl, rfl, ⟨m0', sm⟩, _, rfl, r, _, 3, 3, rfl, rfl, upd_same, rfl, ?_⟩
          refine ⟨_, rfl, .inl ⟨_, rfl, _, rfl, _, _, rfl, rfl, m0', ?_⟩⟩
          rw [upd_upd]
          exact fin _ _ (g2.trans st (Gq.put g2.st a1))
        · refine ⟨_, rfl, .inl ⟨_, rfl, _, rfl, _, _, rfl, rfl, m0', ?_⟩⟩
          exact fin _ _ (g2.trans st (Gq.put g2.st a1))
abbrev s__law_pick : Stmt := topS 32
theorem sc__law_pick : FnScope ["row", "things"] ["row", "things"] (defScope s__law_pick) := ⟨rfl, rfl, rfl, by decide +kernel, rfl, by decide +kernel, by decide +kernel⟩
def spPick (K : PySem.W.Frag) : Sp := fun vs H Q _ => ∃ r sc G ds v, vs = [.ref r, v] ∧ RowSt K r sc G H ∧ Dn G v (.list ds) ∧ 0 < ds.length ∧ ds.length ≤ 1000 ∧ ∀ u d G2 H2, d ∈ ds → Dn G2 u d → Gq K r sc G H G2 H2 → Q u H2
theorem evr_taken {σ : L2.St} {G : Hp} {i : Nat} {K : PySem.W.Frag} {r sc : Addr} {te : TE} {m : Int} {E : XK} (hs : σ[i]? = some (some (.ref r))) (h : EvD te σ G (.int m)) (m0 : 0 < m) (m1 : m ≤ 1000) (st : RowSt K r sc G H) (q : ∀ (v : Nat) G2 H2, (v : Int) < m → Gq K r sc G H G2 H2 → Q (.int v) H2) : tCall (spTaken K) [] E (tCons (tVar i) (tCons te tNil)) σ H Q :=
  ⟨_, hs, h H st.s _ fun v G2 H2 g n => by
    cases n
    have g1 := Gq.of st g
    exact ⟨r, sc, G2, m, rfl, m0, m1, g1.st, fun v H3 lt g2 => q v G2 H3 lt (g1.trans st g2)⟩⟩
theorem keeps_pick (B : Bi mg) (S : Stands K mg "_law_pick" s__law_pick ["row", "things"]) (K__law_taken : Keeps P w K mg base CX0 1 "_law_taken" ["row", "many"] (spTaken K)) : Keeps P w K mg base CX0 2 "_law_pick" ["row", "things"] (spPick K) := by
  obtain ⟨f, fd, F, hm, hb⟩ := S
  refine ⟨f, fd, F.ok sc__law_pick (fun vs H Q E h => ?_) (fun cdv A outer s H vs Q E hr h => ?_), hm, F.kp, hb⟩
  · obtain ⟨r, sc, G, ds, v, rfl, _⟩ := h
    rfl
  · obtain ⟨r, sc, G, ds, v, rfl, st, n, l0, l1, q⟩ := h
    refine ⟨_, (pss_one (ps_ret (pe_ix ix_list (pv 1) (pe_callD K__law_taken (hr.mono (by omega)) (pa_cons (pv 0) (pa_cons (pe_callB call_len rfl B.len bi_len (pa_cons (pv 1) pa_nil)) pa_nil))) (fun _ _ => rfl)))), ?_⟩
    refine ⟨_, rfl, ?_⟩
    refine evr_taken (m := (ds.length : Nat)) rfl (evd_cb (ea_cons (evd_at n) ea_nil) (r_lenL rfl)) (by omega) (by omega) st fun u G2 H2 lt g => ?_
    have n2 := Dn.mono g.g _ n
    cases n2 with
    | lst h1 h2 =>
      obtain ⟨d, hd⟩ : ∃ d, ds[u]? = some d := ⟨_, List.getElem?_eq_getElem (by omega : u < ds.length)⟩
      obtain ⟨x, hx, nx⟩ := h2.at hd
      exact ⟨_, _, _, x, rfl, rfl, .inl (.inl (g.st.s _ _ h1)), atI_nat hx, q x d G2 H2 (List.mem_of_getElem? hd) nx g⟩
/-- a pick, at Q -/
theorem evr_pick {σ : L2.St} {G : Hp} {i : Nat} {K : PySem.W.Frag} {r sc : Addr} {te : TE} {ds : List D} {E : XK} (hs : σ[i]? = some (some (.ref r))) (h : EvD te σ G (.list ds)) (l0 : 0 < ds.length) (l1 : ds.length ≤ 1000) (st : RowSt K r sc G H) (q : ∀ u d G2 H2, d ∈ ds → Dn G2 u d → Gq K r sc G H G2 H2 → Q u H2) : tCall (spPick K) [] E (tCons (tVar i) (tCons te tNil)) σ H Q :=
  ⟨_, hs, h H st.s _ fun v G2 H2 g n => by
    have g1 := Gq.of st g
    exact ⟨r, sc, G2, ds, v, rfl, g1.st, n, l0, l1, fun u d G3 H3 hd nd g2 => q u d G3 H3 hd nd (g1.trans st g2)⟩⟩
end
end Sh

set_option Elab.async false
set_option linter.all false
set_option maxRecDepth 100000
set_option maxHeartbeats 4000000
/-! the law: _law_alike of twice the same -/
namespace Sh
open PySem PySem.Spec L2
open PyProof.Rows hiding St
open Evl (Ex)
section
variable {P : Program} {w : World} {K : PySem.W.Frag} {mg : Str → Option Value} {base : Heap}
theorem r_eqD {K : PySem.W.Frag} {G : Hp} {d e : D} {b : Bool} (f1 : flatD d = true) (f2 : flatD e = true) (s1 : SeqAt.shaped d = true) (s2 : SeqAt.shaped e = true) (h : PyData.eqv d e = b) : R2D (rEqD K) d e (.bool b) G := fun G1 H u v _ ex hx hy Q q =>
  ⟨d, e, (Dn.dp d f1 (Dn.mono ex _ hx)), (Dn.dp e f2 (Dn.mono ex _ hy)), s1, s2, by rw [h]; exact q _ G1 H (Gr.refl ex) (.bl b)⟩
theorem r_neD {K : PySem.W.Frag} {G : Hp} {d e : D} {b : Bool} (f1 : flatD d = true) (f2 : flatD e = true) (s1 : SeqAt.shaped d = true) (s2 : SeqAt.shaped e = true) (h : (!PyData.eqv d e) = b) : R2D (rNeD K) d e (.bool b) G := fun G1 H u v _ ex hx hy Q q =>
  ⟨d, e, (Dn.dp d f1 (Dn.mono ex _ hx)), (Dn.dp e f2 (Dn.mono ex _ hy)), s1, s2, by rw [h]; exact q _ G1 H (Gr.refl ex) (.bl b)⟩
theorem r_isN {G : Hp} {d : D} {b : Bool} (h : (match d with | .none => true | _ => false) = b) : R2D (fun x y H Q => y = .non ∧ Q (.bl (decide (x = .non))) H) d .none (.bool b) G := fun G1 H u v _ ex hx hy Q q => by
  cases hy
  have e : decide (u = V.non) = b := by
    rw [← h]
    cases hx <;> simp
  refine ⟨rfl, ?_⟩
  rw [e]
  exact q _ G1 H (Gr.refl ex) (.bl b)
theorem filter_no {α : Type} (l : List α) : l.filter (fun _ => false) = [] := by
  induction l with
  | nil => rfl
  | cons x xs ih =>
    rw [List.filter_cons, if_neg (by decide), ih]
/-- rows of rows of numbers and texts -/
def okA : Nat → D → Bool
  | _, .int _ => true
  | _, .str _ => true
  | k + 1, .tuple ds => decide (ds.length ≤ 1000) && ds.all (okA k)
  | _, _ => false
abbrev s__law_alike : Stmt := topS 33
theorem sc__law_alike : FnScope ["found", "due", "k"] ["found", "due"] (defScope s__law_alike) := ⟨rfl, rfl, rfl, by decide +kernel, rfl, by decide +kernel, by decide +kernel⟩
def domAlike (k : Nat) (ds : List D) (c : D) : Prop := ∃ d, ds = [d, d] ∧ okA k d = true ∧ c = .bool true
theorem keeps_never {x : Str} {st : Stmt} {ps : List Str} (S : Stands K mg x st ps) : Keeps P w K mg base CX0 0 x ps (spD fun _ _ => False) := by
  obtain ⟨f, fd, F, hm, hb⟩ := S
  exact ⟨f, fd, ⟨fun _ _ _ _ ⟨_, _, _, _, _, h, _⟩ => h.elim, fun _ _ _ _ _ _ _ _ _ _ _ _ _ ⟨_, _, _, _, _, h, _⟩ => h.elim⟩, hm, F.kp, hb⟩
theorem keeps_alikeS (B : Bi mg) (S : Stands K mg "_law_alike" s__law_alike ["found", "due"]) {k : Nat} {dom : List D → D → Prop} (K__law_alike : Keeps P w K mg base CX0 k "_law_alike" ["found", "due"] (spD dom)) (hd : ∀ ds, okA k (.tuple ds) = true → ∀ d ∈ ds, dom [d, d] (.bool true)) :
    Keeps P w K mg base CX0 (k + 1) "_law_alike" ["found", "due"] (spD (domAlike k)) := by
  refine keeps_of S sc__law_alike (fun ds c h => ?_) (fun f cdv A outer s H E hr => ⟨_, (pss_cons (ps_if (pt_val (pe_callB call_isiT rfl B.isinstance bi_isinstance (pa_cons (pv 1) (pa_cons (pe_tup (pa_cons (pe_ty B.tuple bi_tuple) (pa_cons (pe_ty B.list bi_list) pa_nil))) pa_nil)))) (pss_cons (ps_if (PW.pt (pw_or (pt_not (pt_val (pe_callB call_isiT rfl B.isinstance bi_isinstance (pa_cons (pv 0) (pa_cons (pe_tup (pa_cons (pe_ty B.tuple bi_tuple) (pa_cons (pe_ty B.list bi_list) pa_nil))) pa_nil))))) (pw_or1 (pt_cmpR op_ne (pe_callB call_isi rfl B.isinstance bi_isinstance (pa_cons (pv 0) (pa_cons (pe_ty B.list bi_list) pa_nil))) (pe_callB call_isi rfl B.isinstance bi_isinstance (pa_cons (pv 1) (pa_cons (pe_ty B.list bi_list) pa_nil))) (nomark _))))) (pss_one (ps_ret pe_bl)) pss_nil)
    (pss_cons (ps_if (pt_cmpR op_ne (pe_callB call_len rfl B.len bi_len (pa_cons (pv 0) pa_nil)) (pe_callB call_len rfl B.len bi_len (pa_cons (pv 1) pa_nil)) (nomark _)) (pss_one (ps_ret pe_bl)) pss_nil)
    (pss_one (ps_ret (pe_cmpR (op_eqD hr.units) (pe_lc (own := [("k", 2)]) (g := gName 2) rfl sc__law_alike.nd (pi_range1 rfl B.range (pa_cons (pe_callB call_len rfl B.len bi_len (pa_cons (pv 1) pa_nil)) pa_nil)) (blkOk_by (N := ["found", "due", "k"]) (sc := defScope s__law_alike) (by decide +kernel)) (fun _ _ _ _ _ => (pg_name (i := 2) sc__law_alike.nd rfl (.inl rfl))) (fun _ _ _ _ _ => pts_one (pt_not (pt_val (pe_callD K__law_alike (hr.mono (by omega)) (pa_cons (pe_ix (r := rIxT K) ix_tup (pv 0) (pv 2) (fun _ _ => rfl)) (pa_cons (pe_ix (r := rIxT K) ix_tup (pv 1) (pv 2) (fun _ _ => rfl)) pa_nil)))))) (fun _ _ _ _ _ => (pv 2))) (pe_lst pa_nil) (nomark _)))))) pss_nil)
    (pss_cons (ps_if (PW.pt (pw_or (pt_cmpR op_isN (pv 1) pe_non (nomark _)) (pw_or1 (pt_val (pe_callB call_isi rfl B.isinstance bi_isinstance (pa_cons (pv 1) (pa_cons (pe_ty B.str bi_str) pa_nil))))))) (pss_one (ps_ret (pe_and (pe_cmpR op_eq (pv 0) (pv 1) (nomark _)) (pe_one (pe_cmpR op_eq (pe_callB call_isi rfl B.isinstance bi_isinstance (pa_cons (pv 0) (pa_cons (pe_ty B.str bi_str) pa_nil))) (pe_callB call_isi rfl B.isinstance bi_isinstance (pa_cons (pv 1) (pa_cons (pe_ty B.str bi_str) pa_nil))) (nomark _)))))) pss_nil)
    (pss_one (ps_ret (pe_and (pe_callB call_isi rfl B.isinstance bi_isinstance (pa_cons (pv 0) (pa_cons (pe_ty B.int bi_int) pa_nil))) (pe_and (pe_cmpR op_eq (pe_callB call_isi rfl B.isinstance bi_isinstance (pa_cons (pv 0) (pa_cons (pe_ty B.bool bi_bool) pa_nil))) (pe_callB call_isi rfl B.isinstance bi_isinstance (pa_cons (pv 1) (pa_cons (pe_ty B.bool bi_bool) pa_nil))) (nomark _)) (pe_one (pe_cmpR op_eq (pv 0) (pv 1) (nomark _))))))))), fun ds c vs G h n => ?_⟩)
  · obtain ⟨d, rfl, _⟩ := h
    rfl
  · obtain ⟨d, rfl, ok, rfl⟩ := h
    obtain ⟨v, v1, rfl, n0, n1⟩ := dn2 n
    have two := evt_B (evd_isi2 (K := K) (evd_at (σ := start ["found", "due", "k"] [v, v1]) (i := 1) n1) (kit_tuple d) (kit_list d))
    have twoF := evt_B (evd_isi2 (K := K) (evd_at (σ := start ["found", "due", "k"] [v, v1]) (i := 0) n0) (kit_tuple d) (kit_list d))
    have isT : ∀ T d, isK T d = isS T (tyD d) := fun _ _ => rfl
    cases d with
    | none => cases k <;> cases ok
    | bool b => cases k <;> cases ok
    | list ds => cases k <;> cases ok
    | dict ps => cases k <;> cases ok
    | int i =>
      refine evs_if (b := false) (evt_is two (by decide +kernel : (isS "tuple" "int" || isS "list" "int") = false)) (fun h => nomatch h) (fun _ => ?_)
      refine evs_if (b := false) (evt_or (a := false) (evt_test (evd_op (evd_at n1) evd_non (r_isN (b := false) rfl))) (fun _ => evt_is (evt_B (evd_isi (evd_at n1) (kit_str _))) (by decide +kernel : isS "str" "int" = false))) (fun h => nomatch h) (fun _ => ?_)
      refine evs_ret (evd_is (evd_and (a := true) (evd_is (evd_isi (evd_at n0) (kit_int _)) (congrArg PyData.bool (by decide +kernel : isS "int" "int" = true))) (fun _ => evd_and (a := true) (evd_op (evd_is (evd_isi (evd_at n0) (kit_bool _)) (congrArg PyData.bool (by decide +kernel : isS "bool" "int" = false))) (evd_is (evd_isi (evd_at n1) (kit_bool _)) (congrArg PyData.bool (by decide +kernel : isS "bool" "int" = false))) (r_eq rfl)) (fun _ => evd_op (c := .bool true) (evd_at n0) (evd_at n1) (r_eq ?_)))) rfl)
      show some (decide (i = i)) = some true
      rw [decide_eq_true rfl]
    | str x =>
      refine evs_if (b := false) (evt_is two (by decide +kernel : (isS "tuple" "str" || isS "list" "str") = false)) (fun h => nomatch h) (fun _ => ?_)
      refine evs_if (b := true) (evt_or (a := false) (evt_test (evd_op (evd_at n1) evd_non (r_isN (b := false) rfl))) (fun _ => evt_is (evt_B (evd_isi (evd_at n1) (kit_str _))) (by decide +kernel : isS "str" "str" = true))) (fun _ => ?_) (fun h => nomatch h)
      refine evs_ret (evd_is (evd_and (a := true) (evd_op (evd_at n0) (evd_at n1) (r_eq ?_)) (fun _ => evd_op (evd_is (evd_isi (evd_at n0) (kit_str _)) (congrArg PyData.bool (by decide +kernel : isS "str" "str" = true))) (evd_is (evd_isi (evd_at n1) (kit_str _)) (congrArg PyData.bool (by decide +kernel : isS "str" "str" = true))) (r_eq rfl))) rfl)
      show some (decide (x = x)) = some true
      rw [decide_eq_true rfl]
    | tuple ds =>
      have each := hd ds ok
      have few : ds.length ≤ 1000 := by
        cases k with
        | zero => cases ok
        | succ k =>
          have z : (decide (ds.length ≤ 1000) && ds.all (okA k)) = true := ok
          rw [Bool.and_eq_true] at z
          exact of_decide_eq_true z.1
      refine evs_if (b := true) (evt_is two (by decide +kernel : (isS "tuple" "tuple" || isS "list" "tuple") = true)) (fun _ => ?_) (fun h => nomatch h)
      refine evs_if (b := false) (evt_or (a := false) (b := false) (evt_not (b := true) (evt_is twoF (by decide +kernel : (isS "tuple" "tuple" || isS "list" "tuple") = true))) (fun _ => evt_test (evd_op (evd_is (evd_isi (evd_at n0) (kit_list _)) (congrArg PyData.bool (by decide +kernel : isS "list" "tuple" = false))) (evd_is (evd_isi (evd_at n1) (kit_list _)) (congrArg PyData.bool (by decide +kernel : isS "list" "tuple" = false))) (r_ne (b := true) rfl)))) (fun h => nomatch h) (fun _ => ?_)
      refine evs_if (b := false) (evt_test (evd_op (evd_cb (ea_cons (evd_at n0) ea_nil) (r_lenT rfl)) (evd_cb (ea_cons (evd_at n1) ea_nil) (r_lenT rfl)) (r_ne (b := true) ?_))) (fun h => nomatch h) (fun _ => ?_)
      · show some (decide ((ds.length : Int) = (ds.length : Int))) = some true
        rw [decide_eq_true rfl]
      · refine evs_ret (evd_op (evd_is (d' := .list []) (evd_lcNF (f := fun _ => false) (r := id) (ei_range (n := ds.length) (ea_cons (evd_cb (ea_cons (evd_at n1) ea_nil) (r_lenT rfl)) ea_nil) (by omega)) ?_ (fun x => rfl) (fun d hd y G1 e ny => ?_) (fun _ _ z => nomatch z)) ?_) (evd_lst ea_nil (by show 0 ≤ 100000; decide)) (r_eqD rfl rfl (by decide +kernel) (by decide +kernel) (by decide +kernel)))
        · unfold upTo
          rw [List.length_map, List.length_range]
          omega
        · unfold upTo at hd
          obtain ⟨i, hi, rfl⟩ := List.mem_map.mp hd
          have lt : i < ds.length := List.mem_range.mp hi
          exact evt_not (b := true) (evt_B (evd_call (ea_cons (evd_op (evd_at n0) (evd_at ny) (r_ixT (List.getElem?_eq_getElem lt))) (ea_cons (evd_op (evd_at n1) (evd_at ny) (r_ixT (List.getElem?_eq_getElem lt))) ea_nil)) (each _ (List.getElem_mem lt))))
        · rw [filter_no]
          rfl
/-- on data of depth k -/
theorem keeps_alike (B : Bi mg) (S : Stands K mg "_law_alike" s__law_alike ["found", "due"]) : ∀ k, Keeps P w K mg base CX0 (k + 1) "_law_alike" ["found", "due"] (spD (domAlike k))
  | 0 => keeps_alikeS B S (keeps_never S) (fun ds h => nomatch h)
  | k + 1 => keeps_alikeS B S (keeps_alike B S k) (fun ds h d hd => by
    have z : (decide (ds.length ≤ 1000) && ds.all (okA k)) = true := h
    rw [Bool.and_eq_true, List.all_eq_true] at z
    exact ⟨d, rfl, z.2 d hd, rfl⟩)
end
end Sh

set_option Elab.async false
set_option linter.all false
set_option maxRecDepth 100000
set_option maxHeartbeats 4000000
/-! the law: _law_made -/
namespace Sh
open PySem PySem.Spec L2
open PyProof.Rows hiding St
open Evl (Ex)
/-- a tuple that is held whole -/
def FT (G : Hp) (v : V) (ds : List D) : Prop := ∃ a o xs, v = .ref a ∧ G a = some (.frz o (.tup xs)) ∧ o.dict = none ∧ DnL G xs ds
section
variable {G G' : Hp} {v : V} {ds : List D}
theorem FT.dn (h : FT G v ds) : Dn G v (.tuple ds) := by
  obtain ⟨a, o, xs, rfl, h1, _, h2⟩ := h
  exact .tup (.inr ⟨o, h1⟩) h2
theorem FT.mono (e : Ex G G') (h : FT G v ds) : FT G' v ds := by
  obtain ⟨a, o, xs, rfl, h1, h2, h3⟩ := h
  exact ⟨a, o, xs, rfl, e _ _ h1, h2, DnL.mono e _ h3⟩
end
def bunK (bs : List Bun) : List (D × D) := bs.map fun b => (.str b.1, .tuple (b.2.map pairD))
theorem look_bunK {bs : List Bun} {x : Str} : lookD (bunK bs) x = ((bs.find? fun b => decide (b.1 = x)).map fun b => .tuple (b.2.map pairD)) := by
  induction bs with
  | nil => rfl
  | cons b bs ih =>
    by_cases e : b.1 = x
    · unfold lookD bunK
      rw [List.map_cons, List.find?_cons_of_pos (by simpa using e), List.find?_cons_of_pos (by simpa using e)]
      rfl
    · unfold lookD bunK at ih ⊢
      rw [List.map_cons, List.find?_cons_of_neg (by simpa using e), List.find?_cons_of_neg (by simpa using e)]
      exact ih
theorem lookD_mem {ps : List (D × D)} {x : Str} (h : lookD ps x ≠ none) : PyData.str x ∈ ps.map (·.1) := by
  induction ps with
  | nil => exact absurd rfl h
  | cons p ps ih =>
    obtain ⟨p1, p2⟩ := p
    by_cases e : p1 = .str x
    · rw [List.map_cons, e]
      exact List.mem_cons_self
    · refine List.mem_cons_of_mem _ (ih ?_)
      unfold lookD at h ⊢
      rw [List.find?_cons_of_neg (by
        cases p1 <;> simp at e ⊢
        exact e)] at h
      exact h
theorem lookD_snoc {qs : List (D × D)} {x y : Str} {d : D} (h : lookD qs y = none) (n : ¬ x = y) : lookD (qs ++ [(.str x, d)]) y = none := by
  induction qs with
  | nil =>
    unfold lookD
    rw [List.nil_append, List.find?_cons_of_neg (by simpa using n)]
    rfl
  | cons p qs ih =>
    obtain ⟨p1, p2⟩ := p
    by_cases e : p1 = .str y
    · subst e
      unfold lookD at h
      rw [List.find?_cons_of_pos (by simp)] at h
      cases h
    · have e2 : ∀ r : List (D × D), lookD ((p1, p2) :: r) y = lookD r y := fun r => by
        unfold lookD
        rw [List.find?_cons_of_neg (by
          cases p1 <;> simp at e ⊢
          exact e)]
      rw [List.cons_append, e2]
      rw [e2] at h
      exact ih h
theorem mergeK_new {G : Hp} {ps : List (D × D)} : ∀ {kvs acc : List (Key × V)} {qs : List (D × D)}, DnK G kvs ps → DnK G acc qs → (∀ x, lookD ps x ≠ none → lookD qs x = none) → (ps.map (·.1)).Nodup → DnK G (mergeK acc kvs) (qs ++ ps) := by
  induction ps with
  | nil =>
    intro kvs acc qs h k _ _
    cases h
    rw [List.append_nil]
    exact k
  | cons p ps ih =>
    intro kvs acc qs h k hn nd
    cases h with
    | @cons x v kvs' d _ h1 h2 =>
      have new : lookD qs x = none := hn x (by
        unfold lookD
        rw [List.find?_cons_of_pos (by simp)]
        intro z
        cases z)
      unfold mergeK
      rw [List.foldl_cons]
      have e : putK acc (Sum.inr x) v = acc ++ [(Sum.inr x, v)] := putK_new k new
      rw [e]
      rw [show qs ++ (PyData.str x, d) :: ps = (qs ++ [(PyData.str x, d)]) ++ ps by simp]
      rw [List.map_cons, List.nodup_cons] at nd
      refine ih h2 (k.snoc h1) (fun y hy => ?_) nd.2
      have hyx : ¬ x = y := fun z => by
        subst z
        exact nd.1 (lookD_mem hy)
      refine lookD_snoc (hn y ?_) hyx
      unfold lookD at hy ⊢
      rw [List.find?_cons_of_neg (by simpa using hyx)]
      exact hy
section
variable {K : PySem.W.Frag} {σ : L2.St} {G : Hp}
theorem paired_bun {H : Hp} (e : Ex G H) : ∀ {bs : List Bun} {xs : List V}, DnL G xs (bs.map bunD) → ∃ ps kvs, xs = ps.map V.ref ∧ Paired (fun p kv => SqT K H p [kV kv.1, kv.2]) ps kvs ∧ DnK G kvs (bunK bs)
  | [], _, h => by
    cases h
    exact ⟨[], [], rfl, .nil, .nil⟩
  | b :: bs, _, h => by
    cases h with
    | cons h1 h2 =>
      obtain ⟨ps, kvs, rfl, e2, e3⟩ := paired_bun e h2
      cases h1 with
      | tup g1 g2 =>
        obtain ⟨u, v, rfl, n1, n2⟩ := two_of g2
        cases n1
        exact ⟨_ :: ps, (.inr b.1, v) :: kvs, rfl, .cons (.inl (rdx e g1)) e2, .cons n2 e3⟩
/-- dict(bundles) -/
theorem evd_dictF {i : Nat} {v : V} {bs : List Bun} (hs : σ[i]? = some (some v)) (h : FT G v (bs.map bunD)) (nd : (bs.map (·.1)).Nodup) : EvD (tCB (rDictF K) (tCons (tVar i) tNil)) σ G (.dict (bunK bs)) := fun H e Q q => by
  obtain ⟨a, o, xs, rfl, h1, h2, h3⟩ := h
  obtain ⟨ps, kvs, rfl, e2, e3⟩ := paired_bun (K := K) e h3
  have nd2 : ((bunK bs).map (·.1)).Nodup := by
    unfold bunK
    rw [List.map_map]
    have z : (bs.map fun b => b.1).map PyData.str = bs.map ((·.1) ∘ fun b => (PyData.str b.1, PyData.tuple (b.2.map pairD))) := by
      rw [List.map_map]
      rfl
    rw [← z]
    exact List.Pairwise.map _ (fun _ _ h z => h (by cases z; rfl)) nd
  have mk := mergeK_new e3 (.nil : DnK G [] []) (fun x _ => rfl) nd2
  exact ⟨_, hs, a, o, ps, kvs, rfl, e _ _ h1, h2, e2, fun p hp => q _ (upd G p (.dK (mergeK [] kvs))) _ (Gr.new e hp) (.dct upd_same (DnK.mono (Ex.new (Evl.fresh_back e hp)) _ mk))⟩
theorem rep_flat (n : Nat) : (List.replicate n [V.int 0]).flatten = (List.replicate n (0 : Int)).map V.int := by
  induction n with
  | zero => rfl
  | succ n ih =>
    rw [List.replicate_succ, List.flatten_cons, ih, List.replicate_succ]
    rfl
theorem r_rep {G : Hp} {n : Nat} (h : n ≤ 1000) : R2D rRep (.list [.int 0]) (.int n) (.list (intL (List.replicate n 0))) G := fun G1 H u v _ ex hx hy Q q => by
  cases hy
  cases hx with
  | lst h1 h2 =>
    obtain ⟨x, rfl, n1⟩ := one_of h2
    cases n1
    have z := rep_flat n
    refine ⟨_, _, _, rfl, rfl, ex _ _ h1, by omega, by omega, ?_, fun p hp => ?_⟩
    · show 1 * (n : Int).toNat ≤ sizeLine
      exact Nat.le_trans (show _ ≤ 1000 by omega) (by decide)
    · rw [show ((n : Int)).toNat = n by omega, z]
      exact q _ (upd G1 p (.lst _)) _ (Gr.new ex hp) (.lst upd_same (ints_dn _))
end
end Sh

set_option Elab.async false
set_option linter.all false
set_option maxRecDepth 100000
set_option maxHeartbeats 4000000
/-! the law: _law_made -/
namespace Sh
open PySem PySem.Spec L2
open PyProof.Rows hiding St
open Evl (Ex)
def pairI (p : Int × Int) : D := .tuple [.int p.1, .int p.2]
theorem zipD_ints (xs ys : List Int) : zipD (intL xs) (intL ys) = (xs.zip ys).map pairI := by
  induction xs generalizing ys with
  | nil => rfl
  | cons x xs ih =>
    cases ys with
    | nil => rfl
    | cons y ys =>
      show PyData.tuple [.int x, .int y] :: zipD (intL xs) (intL ys) = _
      rw [ih]
      rfl
def addD : D → D
  | .tuple [.int a, .int b] => .int (a + b)
  | _ => .none
theorem addD_zip (xs ys : List Int) : ((xs.zip ys).map pairI).map addD = intL (List.zipWith (· + ·) xs ys) := by
  unfold intL
  rw [List.map_map, List.zip, List.map_zipWith, List.map_zipWith]
  rfl
section
variable {P : Program} {w : World} {K : PySem.W.Frag} {mg : Str → Option Value} {base : Heap}
abbrev s__law_made : Stmt := topS 35
theorem sc__law_made : FnScope ["items", "bundles", "name", "count", "found", "part", "own", "item", "one", "two"] ["items", "bundles", "name", "count"] (defScope s__law_made) := ⟨rfl, rfl, rfl, by decide +kernel, rfl, by decide +kernel, by decide +kernel⟩
def spMade (k : Nat) : Sp := fun vs H Q _ => ∃ its bs x c G vi vb, vs = [vi, vb, .str x, .int c] ∧ Ex G H ∧ Dn G vi (.list (strL its)) ∧ FT G vb (bs.map bunD) ∧ TabDom its bs ∧ x ∈ its ++ (bs.take k).map (·.1) ∧ ∀ v G2 H2, Gr G H G2 H2 → Dn G2 v (.list (intL ((rowOf its bs x).map (· * c)))) → Q v H2
theorem evd_made {k : Nat} {sp : Sp} {σ : L2.St} {G : Hp} {ta te tf : TE} {j : Nat} {vb : V} {its : List Str} {bs : List Bun} {x : Str} {c : Int} {E : XK} (hp : ∀ vs H Q E, spMade k vs H Q E → sp vs H Q E) (h1 : EvD ta σ G (.list (strL its))) (hs : σ[j]? = some (some vb)) (h2 : FT G vb (bs.map bunD)) (h3 : EvD te σ G (.str x)) (h4 : EvD tf σ G (.int c)) (hd : TabDom its bs) (hx : x ∈ its ++ (bs.take k).map (·.1)) :
    EvD (tCall sp [] E (tCons ta (tCons (tVar j) (tCons te (tCons tf tNil))))) σ G (.list (intL ((rowOf its bs x).map (· * c)))) := fun H e Q q =>
  h1 H e _ fun v1 G2 H2 g1 n1 => ⟨vb, hs, (h3.mono g1.g) H2 g1.s _ fun v3 G3 H3 g2 n3 => (h4.mono (g1.g.trans g2.g)) H3 g2.s _ fun v4 G4 H4 g3 n4 => by
    cases n3
    cases n4
    have g := (g1.trans g2).trans g3
    exact hp _ _ _ _ ⟨its, bs, x, c, G4, v1, vb, rfl, g.s, Dn.mono (g2.g.trans g3.g) _ n1, h2.mono g.g, hd, hx, fun v G5 H5 g5 n5 => q v G5 H5 (g.trans g5) n5⟩⟩
theorem nd_names {its : List Str} : ∀ {bs : List Bun}, bunsOk its bs = true → (bs.map (·.1)).Nodup := by
  have key : ∀ (bs : List Bun) (kn : List Str), bunsOk kn bs = true → (∀ x ∈ bs.map (·.1), x ∉ kn) ∧ (bs.map (·.1)).Nodup := by
    intro bs
    induction bs with
    | nil => exact fun kn _ => ⟨fun x hx => (by cases hx), List.nodup_nil⟩
    | cons b bs ih =>
      intro kn h
      unfold bunsOk at h
      rw [Bool.and_eq_true] at h
      obtain ⟨h1, h2⟩ := ih (kn ++ [b.1]) h.2
      have good := bunOk_good h.1
      refine ⟨fun x hx => ?_, ?_⟩
      · rcases List.mem_cons.mp hx with rfl | hx
        · exact good.new
        · exact fun z => h1 x hx (List.mem_append_left _ z)
      · rw [List.map_cons, List.nodup_cons]
        exact ⟨fun z => h1 _ z (List.mem_append_right _ List.mem_cons_self), h2⟩
  exact fun {bs} h => (key bs its h).2
theorem find_bun {bs : List Bun} {i : Nat} {b : Bun} (nd : (bs.map (·.1)).Nodup) (h : bs[i]? = some b) : bs.find? (fun y => decide (y.1 = b.1)) = some b := by
  induction bs generalizing i with
  | nil => simp at h
  | cons c bs ih =>
    rw [List.map_cons, List.nodup_cons] at nd
    cases i with
    | zero =>
      have e : c = b := by simpa using h
      subst e
      rw [List.find?_cons_of_pos (by simp)]
    | succ i =>
      have h' : bs[i]? = some b := by simpa using h
      have ne : ¬ c.1 = b.1 := fun z => nd.1 (by
        rw [z]
        exact List.mem_map.mpr ⟨b, List.mem_of_getElem? h', rfl⟩)
      rw [List.find?_cons_of_neg (by simpa using ne)]
      exact ih nd.2 h'
theorem keeps_lawMadeS (B : Bi mg) (S : Stands K mg "_law_made" s__law_made ["items", "bundles", "name", "count"]) {k : Nat} {sp : Sp} (K__law_made : Keeps P w K mg base CX0 k "_law_made" ["items", "bundles", "name", "count"] sp) (hp : ∀ j, k = j + 1 → ∀ vs H Q E, spMade j vs H Q E → sp vs H Q E) :
    Keeps P w K mg base CX0 (k + 1) "_law_made" ["items", "bundles", "name", "count"] (spMade k) := by
  obtain ⟨f, fd, F, hm, hb⟩ := S
  refine ⟨f, fd, F.ok sc__law_made (fun vs H Q E h => ?_) (fun cdv A outer s H vs Q E hr h => ?_), hm, F.kp, hb⟩
  · obtain ⟨its, bs, x, c, G, vi, vb, rfl, _⟩ := h
    rfl
  · obtain ⟨its, bs, x, c, G, vi, vb, rfl, e0, n0, ft, hd, hx, q⟩ := h
    refine ⟨_, (pss_cons (ps_if (pt_cmpR op_in_seq (pv 2) (pv 0) (by rfl)) (pss_one (ps_ret (pe_lc (own := [("item", 7)]) (g := gName 7) (tt := tYes) rfl sc__law_made.nd (pi_list (pv 0)) (blkOk_by (N := ["items", "bundles", "name", "count", "found", "part", "own", "item", "one", "two"]) (sc := defScope s__law_made) (by decide +kernel)) (fun _ _ _ _ _ => (pg_name (i := 7) sc__law_made.nd rfl (.inl rfl))) (fun _ _ _ _ _ => pts_nil) (fun _ _ _ _ _ => (pe_ifExp (pt_cmpR op_eq (pv 7) (pv 2) (nomark _)) (pv 3) pe_int))))) pss_nil)
    (pss_cons (ps_set (i := 4) sc__law_made.nd rfl (.inl rfl) (pe_op op_rep (pe_lst (pa_cons pe_int pa_nil)) (pe_callB call_len rfl B.len bi_len (pa_cons (pv 0) pa_nil))))
    (pss_cons (ps_for PassesOwn.never rfl (pi_tup (pe_dget (hu_of hr) (pe_callTy (call_dictF rfl) rfl B.dict bi_dict (pa_cons (pv 1) pa_nil)) (pv 2) (fun _ _ => rfl))) (pg_tup rfl (pgs_cons (pg_name (i := 5) sc__law_made.nd rfl (.inl rfl)) (pgs_cons (pg_name (i := 6) sc__law_made.nd rfl (.inl rfl)) pgs_nil)))
      (pss_one (ps_setLc (i := 4) (own := [("one", 8), ("two", 9)]) (g := gTup K 2 (gCons (gName 8) (gCons (gName 9) gNil))) (tt := tYes) rfl sc__law_made.nd rfl rfl (sw_true rfl rfl rfl (by decide +kernel)) (pi_zip rfl B.zip (pa_cons (pv 4) (pa_cons (pe_callD K__law_made (hr.mono (by omega)) (pa_cons (pv 0) (pa_cons (pv 1) (pa_cons (pv 5) (pa_cons (pe_op op_mul (pv 6) (pv 3)) pa_nil))))) pa_nil))) (blkOk_by (N := ["items", "bundles", "name", "count", "found", "part", "own", "item", "one", "two"]) (sc := defScope s__law_made) (by decide +kernel)) (fun _ _ _ _ _ => (pg_tup rfl (pgs_cons (pg_name (i := 8) sc__law_made.nd rfl (.inl rfl)) (pgs_cons (pg_name (i := 9) sc__law_made.nd rfl (.inl rfl)) pgs_nil)))) (fun _ _ _ _ _ => pts_nil) (fun _ _ _ _ _ => (pe_op op_add (pv 8) (pv 9))))))
    (pss_one (ps_ret (pv 4)))))), ?_⟩
    suffices z : EvS _ (start ["items", "bundles", "name", "count", "found", "part", "own", "item", "one", "two"] [vi, vb, .str x, .int c]) G (.list (intL ((rowOf its bs x).map (· * c)))) from z H e0 { nx := fun _ H' => Q .non H', rt := Q } q
    have nx : Dn G (.str x) (.str x) := .str x
    have nc : Dn G (.int c) (.int c) := .int c
    have few := hd.few
    have less := hd.less
    have len0 : (strL its).length = its.length := List.length_map _
    refine evs_if (b := decide (x ∈ its)) (evt_test (evd_op (evd_at nx) (evd_at n0) (r_inL (neg := false) rfl))) (fun h => ?_) (fun h => ?_)
    · have hi : x ∈ its := of_decide_eq_true h
      rw [rowOf_item hi, rowF_mul]
      refine evs_ret (evd_is (evd_lcN (r := fun d => match d with | .str o => .int (if o = x then c else 0) | _ => .none) (ei_list (evd_at n0)) (by rw [len0]; omega) (fun y => rfl) (fun d hdd y G1 e1 ny => ?_)) ?_)
      · obtain ⟨o, _, rfl⟩ := List.mem_map.mp hdd
        refine evd_if (b := decide (o = x)) (evt_test (evd_op (evd_at ny) (evd_at (Dn.str x : Dn G1 (.str x) (.str x))) (r_eq rfl))) (fun hb => ?_) (fun hb => ?_)
        · refine evd_is (evd_at nc) ?_
          show PyData.int c = PyData.int (if o = x then c else 0)
          rw [if_pos (of_decide_eq_true hb)]
        · refine evd_is evd_int ?_
          show PyData.int 0 = PyData.int (if o = x then c else 0)
          rw [if_neg (of_decide_eq_false hb)]
      · unfold strL intL
        rw [List.map_map, List.map_map]
        rfl
    · have hi : x ∉ its := of_decide_eq_false h
      obtain ⟨b, hb0, rfl⟩ : ∃ b, b ∈ bs.take k ∧ b.1 = x := by
        rcases List.mem_append.mp hx with z | z
        · exact absurd z hi
        · obtain ⟨b, z1, z2⟩ := List.mem_map.mp z
          exact ⟨b, z1, z2⟩
      obtain ⟨i, hik, hib⟩ : ∃ i, i < k ∧ bs[i]? = some b := by
        obtain ⟨i, lt, e⟩ := List.mem_iff_getElem.mp hb0
        rw [List.length_take] at lt
        refine ⟨i, by omega, ?_⟩
        rw [List.getElem_take] at e
        rw [← e]
        exact List.getElem?_eq_getElem _
      have good := bunOk_good (bunsOk_at hd.ok hib)
      obtain ⟨j, rfl⟩ : ∃ j, k = j + 1 := ⟨k - 1, by omega⟩
      have sub : ∀ y ∈ its ++ (bs.take i).map (·.1), y ∈ its ++ (bs.take j).map (·.1) := fun y hy => by
        rcases List.mem_append.mp hy with z | z
        · exact List.mem_append_left _ z
        · obtain ⟨b', z1, z2⟩ := List.mem_map.mp z
          refine List.mem_append_right _ (List.mem_map.mpr ⟨b', ?_, z2⟩)
          have t1 : bs.take i = (bs.take j).take i := by rw [List.take_take, Nat.min_eq_left (by omega)]
          rw [t1] at z1
          exact List.mem_of_mem_take z1
      have sub2 : ∀ y ∈ its ++ (bs.take i).map (·.1), y ∈ its ++ bs.map (·.1) := fun y hy => by
        rcases List.mem_append.mp hy with z | z
        · exact List.mem_append_left _ z
        · obtain ⟨b', z1, z2⟩ := List.mem_map.mp z
          exact List.mem_append_right _ (List.mem_map.mpr ⟨b', List.mem_of_mem_take z1, z2⟩)
      have lenb : (b.2.map pairD).length = b.2.length := List.length_map _
      refine evs_set (d := .list (intL (List.replicate its.length 0))) (evd_op (evd_lst (ea_cons evd_int ea_nil) (by show 1 ≤ 100000; decide)) (evd_cb (ea_cons (evd_at n0) ea_nil) (r_lenL (n := (its.length : Nat)) (by rw [len0]))) (r_rep few)) (fun v4 G2 e2 n4 => ?_)
      intro H0 f0 E0' q0
      have look1 : lookD (bunK bs) b.1 = some (.tuple (b.2.map pairD)) := by
        rw [look_bunK, find_bun (nd_names hd.ok) hib] <;> rfl
      refine for_data (G := G2) (σ := [some vi, some vb, some (.str b.1), some (.int c), some v4, none, none, none, none, none]) (ei_tup (evd_dget (evd_dictF rfl (ft.mono e2) (nd_names hd.ok)) (evd_at (Dn.str b.1 : Dn G2 (.str b.1) (.str b.1))) look1)) f0
        (fun G1 H1 m σ' H' => ∃ Gi vf a a2, Ex G1 Gi ∧ Gr G2 H0 Gi H' ∧ Dn Gi vf (.list (intL (foundF (tabF its bs) its.length (b.2.take m) c))) ∧ σ' = [some vi, some vb, some (.str b.1), some (.int c), some vf, a, a2, none, none, none])
        (fun _ _ _ _ _ ⟨Gi, _, _, _, x, g, _⟩ => x.trans g.s) (fun G1 H1 g1 => ?_) (fun G1 H1 m d y σ' H' G3 H3 g1 hdi pv g3 ny => ?_) (fun G1 H1 σ' H' g1 pv => ?_)
      · refine ⟨G1, v4, none, none, Ex.refl _, g1, ?_, rfl⟩
        rw [List.take_zero, foundF_nil]
        exact Dn.mono g1.g _ n4
      · obtain ⟨Gi, vf, a, a2, x1, gi, nf, rfl⟩ := pv
        obtain ⟨G4, e34, g4⟩ := grow_up x1 gi.s g3
        rw [List.getElem?_map] at hdi
        cases hix : b.2[m]? with
        | none =>
          rw [hix] at hdi
          cases hdi
        | some pq =>
          rw [hix] at hdi
          cases hdi
          have mem := List.mem_of_getElem? hix
          have ny4 : Dn G4 y (.tuple [.str pq.1, .int pq.2]) := Dn.mono e34 _ ny
          refine eg_pair y H3 g4.s ny4 _ fun σ2 ⟨u1, u2, es, m1, m2⟩ => ?_
          subst es
          have ex4 : Ex G G4 := (e2.trans gi.g).trans g4.g
          have n0' := Dn.mono ex4 _ n0
          have lo := good.lo _ mem
          have hi9 := good.hi _ mem
          have nf4 := Dn.mono g4.g _ nf
          have call : EvD (tCall sp [] E0 (tCons (tVar 0) (tCons (tVar 1) (tCons (tVar 5) (tCons (tOp (rI CMul fun i j => .int (i * j)) (tVar 6) (tVar 3)) tNil))))) [some vi, some vb, some (.str b.1), some (.int c), some vf, some u1, some u2, none, none, none] G4 (.list (intL ((rowOf its bs pq.1).map (· * (pq.2 * c))))) :=
            evd_made (hp j rfl) (evd_at n0') rfl (ft.mono ex4) (evd_at m1) (evd_op (evd_at m2) (evd_at (Dn.int c : Dn G4 (.int c) (.int c))) (r_I (.inl ⟨by omega, by omega⟩) fun _ => .int _)) hd (sub _ (good.mem _ mem))
          have lens : ((foundF (tabF its bs) its.length (b.2.take m) c).zip ((rowOf its bs pq.1).map (· * (pq.2 * c)))).length ≤ 40000 := by
            rw [List.length_zip]
            unfold foundF
            rw [List.length_map, List.length_range]
            omega
          have row : EvD (tLc (iZip K (tCons (tVar 4) (tCons (tCall sp [] E0 (tCons (tVar 0) (tCons (tVar 1) (tCons (tVar 5) (tCons (tOp (rI CMul fun i j => .int (i * j)) (tVar 6) (tVar 3)) tNil))))) tNil))) (gTup K 2 (gCons (gName 8) (gCons (gName 9) gNil))) tYes (tOp (rI0 fun i j => .int (i + j)) (tVar 8) (tVar 9)) [8, 9]) [some vi, some vb, some (.str b.1), some (.int c), some vf, some u1, some u2, none, none, none] G4 (.list (intL (foundF (tabF its bs) its.length (b.2.take (m + 1)) c))) := by
            refine evd_is (evd_lcP (r := addD) (ei_zipLL (ea_cons (evd_at nf4) (ea_cons call ea_nil))) ?_ (fun d hdd => ?_) (fun x y => rfl) (fun p1 p2 hab x y G5 e5 nx ny => ?_)) ?_
            · rw [zipD_ints, List.length_map]
              exact lens
            · rw [zipD_ints] at hdd
              obtain ⟨p, _, rfl⟩ := List.mem_map.mp hdd
              exact ⟨_, _, rfl⟩
            · rw [zipD_ints] at hab
              obtain ⟨p, _, eq⟩ := List.mem_map.mp hab
              cases eq
              exact evd_op (evd_at nx) (evd_at ny) (r_I0 fun _ => .int _)
            · rw [zipD_ints, addD_zip, foundF_snoc (sub2 _ (good.mem _ mem)), take_len hix]
          refine row H3 g4.s _ fun vv G5 H5 g5 n5 => ?_
          exact ⟨G5, vv, some u1, some u2, x1.trans (g4.g.trans g5.g), (gi.trans g4).trans g5, n5, rfl⟩
      · obtain ⟨Gi, vf, a, a2, x1, gi, nf, rfl⟩ := pv
        rw [lenb, List.take_length, foundF_all hd.ok hib] at nf
        exact ⟨_, rfl, q0 vf Gi H' gi nf⟩
theorem keeps_neverSp {x : Str} {st : Stmt} {ps : List Str} (S : Stands K mg x st ps) : Keeps P w K mg base CX0 0 x ps (fun _ _ _ _ => False) := by
  obtain ⟨f, fd, F, hm, hb⟩ := S
  exact ⟨f, fd, ⟨fun _ _ _ _ h => h.elim, fun _ _ _ _ _ _ _ _ _ _ _ _ _ h => h.elim⟩, hm, F.kp, hb⟩
theorem keeps_lawMade (B : Bi mg) (S : Stands K mg "_law_made" s__law_made ["items", "bundles", "name", "count"]) : ∀ k, Keeps P w K mg base CX0 (k + 1) "_law_made" ["items", "bundles", "name", "count"] (spMade k)
  | 0 => keeps_lawMadeS B S (keeps_neverSp S) (fun j h => nomatch h)
  | k + 1 => keeps_lawMadeS B S (keeps_lawMade B S k) (fun j h vs H Q E z => by
    cases h
    exact z)
end
end Sh

set_option Elab.async false
set_option linter.all false
set_option maxRecDepth 100000
set_option maxHeartbeats 4000000
/-! several objects that change, the row of draws among them -/
namespace Sh
open PySem PySem.Spec L2
open PyProof.Rows hiding St
open Evl (Ex)
/-- growth but for the objects of L, which are not of what stands still -/
structure Gs (L : List Addr) (G H G2 H2 : Hp) : Prop where
  g : Ex G G2
  s : Ex G2 H2
  h : ∀ a o, a ∉ L → H a = some o → H2 a = some o
  f : ∀ a, G a = none → H a ≠ none → G2 a = none
  n : ∀ a ∈ L, G2 a = none
  t : ∀ a ∈ L, H2 a ≠ none
/-- the row in H -/
def RowAt (r sc : Addr) (H : Hp) : Prop := ∃ a b c : Int, 0 ≤ a ∧ H r = some (.lst [.ref sc, .int a, .int b, .int c])
section
variable {K : PySem.W.Frag} {L : List Addr} {p r sc : Addr} {G H G2 H2 G3 H3 : Hp} {o : HO}
theorem Gs.here (e : Ex G H) (n : ∀ a ∈ L, G a = none) (t : ∀ a ∈ L, H a ≠ none) : Gs L G H G H := ⟨Ex.refl _, e, fun _ _ _ h => h, fun _ h _ => h, n, t⟩
theorem alive {L : List Addr} (h : ∀ a o, a ∉ L → H a = some o → H2 a = some o) (t : ∀ a ∈ L, H2 a ≠ none) {a : Addr} (q : H a ≠ none) : H2 a ≠ none := by
  by_cases m : a ∈ L
  · exact t a m
  · cases z : H a with
    | none => exact absurd z q
    | some o =>
      rw [h a o m z]
      intro y
      cases y
theorem Gs.step (a : Gs L G H G2 H2) (b : Gr G2 H2 G3 H3) : Gs L G H G3 H3 := ⟨a.g.trans b.g, b.s, fun x u hx q => b.h _ _ (a.h x u hx q), fun x h1 h2 => b.f x (a.f x h1 h2) (alive a.h a.t h2), fun x hx => b.f x (a.n x hx) (a.t x hx), fun x hx z => a.t x hx (by
  cases q : H2 x with
  | none => rfl
  | some u =>
    rw [b.h _ _ q] at z
    cases z)⟩
theorem Gs.stepQ (a : Gs L G H G2 H2) (hr : r ∈ L) (b : Gq K r sc G2 H2 G3 H3) : Gs L G H G3 H3 := by
  have t3 : ∀ x, H2 x ≠ none → H3 x ≠ none := fun x hx => by
    by_cases e : x = r
    · subst e
      obtain ⟨_, _, _, _, z⟩ := b.st.row
      rw [z]
      intro y
      cases y
    · cases q : H2 x with
      | none => exact absurd q hx
      | some u =>
        rw [b.h x u e q]
        intro y
        cases y
  exact ⟨a.g.trans b.g, b.st.s, fun x u hx q => b.h x u (fun z => hx (by rw [z]; exact hr)) (a.h x u hx q), fun x h1 h2 => b.f x (a.f x h1 h2) (alive a.h a.t h2), fun x hx => b.f x (a.n x hx) (a.t x hx), fun x hx => t3 x (a.t x hx)⟩
theorem Gs.put (a : Gs L G H G2 H2) (hp : p ∈ L) : Gs L G H G2 (upd H2 p o) := ⟨a.g, Ex.mut a.s (a.n p hp), fun x u hx q => by
  rw [upd_ne (fun z => hx (by rw [z]; exact hp))]
  exact a.h x u hx q, a.f, a.n, fun x hx => by
  by_cases e : x = p
  · subst e
    rw [upd_same]
    intro z
    cases z
  · rw [upd_ne e]
    exact a.t x hx⟩
theorem Gs.new (a : Gs L G H G2 H2) (hp : H2 p = none) : Gs (p :: L) G H G2 (upd H2 p o) := by
  have np : ∀ {x : Addr}, H2 x ≠ none → x ≠ p := fun h z => h (by rw [z]; exact hp)
  refine ⟨a.g, a.s.trans (Ex.new hp), fun x u hx q => ?_, a.f, fun x hx => ?_, fun x hx => ?_⟩
  · have z := a.h x u (fun m => hx (List.mem_cons_of_mem _ m)) q
    rw [upd_ne (np (by rw [z]; intro y; cases y))]
    exact z
  · rcases List.mem_cons.mp hx with rfl | hx
    · exact Evl.fresh_back a.s hp
    · exact a.n x hx
  · rcases List.mem_cons.mp hx with rfl | hx
    · rw [upd_same]
      intro z
      cases z
    · rw [upd_ne (np (a.t x hx))]
      exact a.t x hx
/-- what it has become stands still now -/
theorem Gs.close (a : Gs (p :: L) G H G2 H2) (hp : H p = none) (h2 : H2 p = some o) (hL : p ∉ L) : Gs L G H (upd G2 p o) H2 := ⟨a.g.trans (Ex.new (a.n p List.mem_cons_self)), Ex.lend a.s h2, fun x u hx q => a.h x u (fun m => by
  rcases List.mem_cons.mp m with rfl | m
  · rw [hp] at q
    cases q
  · exact hx m) q, fun x h1 h3 => by
  have hx : x ≠ p := fun z => h3 (by rw [z]; exact hp)
  rw [upd_ne hx]
  exact a.f x h1 h3, fun x hx => by
  rw [upd_ne (fun z => hL (by rw [← z]; exact hx))]
  exact a.n x (List.mem_cons_of_mem _ hx), fun x hx => a.t x (List.mem_cons_of_mem _ hx)⟩
theorem Gs.row (a : Gs L G H G2 H2) (hr : r ∈ L) (w : RowAt r sc H2) (sr : ∃ ns : List Int, SqL K G sc (ns.map V.int)) : RowSt K r sc G2 H2 := ⟨a.s, a.n r hr, w, let ⟨ns, h⟩ := sr; ⟨ns, sqx a.g h⟩⟩
theorem Gq.at (b : Gq K r sc G H G2 H2) : RowAt r sc H2 := b.st.row
theorem Gs.q (a : Gs [r] G H G2 H2) (w : RowAt r sc H2) (sr : ∃ ns : List Int, SqL K G sc (ns.map V.int)) : Gq K r sc G H G2 H2 := ⟨a.g, a.row List.mem_cons_self w sr, fun x u hx q => a.h x u (fun m => by
  rw [List.mem_singleton] at m
  exact hx m) q, a.f⟩
theorem RowAt.put {H : Hp} (w : RowAt r sc H) (h : p ≠ r) : RowAt r sc (upd H p o) := by
  obtain ⟨a, b, c, h1, h2⟩ := w
  exact ⟨a, b, c, h1, by rw [upd_ne (fun z => h z.symm)]; exact h2⟩
theorem RowAt.gr {H H2 : Hp} (w : RowAt r sc H) (b : Gr G H G2 H2) : RowAt r sc H2 := by
  obtain ⟨a, bb, c, h1, h2⟩ := w
  exact ⟨a, bb, c, h1, b.h _ _ h2⟩
end
section
variable {K : PySem.W.Frag} {σ : L2.St} {G H : Hp} {Q : VK} {r sc : Addr} {i : Nat}
/-- t[:1 + a draw] -/
theorem evr_sl {te : TE} {xs : List Str} {m : Nat} {E : XK} (hs : σ[i]? = some (some (.ref r))) (h : EvD te σ G (.tuple (strL xs))) (m0 : 0 < m) (m1 : m ≤ xs.length) (m2 : m ≤ 1000) (st : RowSt K r sc G H) (q : ∀ (v : Nat) u G2 H2, v < m → Gq K r sc G H G2 H2 → Dn G2 u (.tuple (strL (xs.take (1 + v)))) → Q u H2) :
    tSl (rSlA K) te tNoPart (tPart (tOp (rI0 fun i j => .int (i + j)) (tC (.int 1)) (tCall (spTaken K) [] E (tCons (tVar i) (tCons (tC (.int (m : Nat))) tNil))))) σ H Q := h H st.s _ fun x G2 H2 g n => by
  have g1 := Gq.of st g
  refine evr_taken (m := (m : Nat)) hs evd_int (by omega) (by omega) g1.st fun v G3 H3 lt g2 => ⟨_, _, rfl, rfl, _, rfl, ?_⟩
  have gg := g1.trans st g2
  have n3 := Dn.mono g2.g _ n
  cases n3 with
  | tup h1 h2 =>
    have e1 := dn_strs h2
    subst e1
    have ei : HT.sIx (xs.map V.str).length (xs.map V.str).length (some (1 + (v : Int))) = 1 + v := by
      rw [show (1 : Int) + (v : Int) = ((1 + v : Nat) : Int) by omega, HT.sIx_nat, List.length_map]
      omega
    refine ⟨_, _, rfl, .inl (rdx g2.st.s h1), fun hw => ?_, fun hw p hp => ?_⟩
    · rw [ei, List.length_map] at hw
      refine q v _ G3 H3 (by omega) gg ?_
      rw [hw.2, List.take_length]
      exact .tup h1 (strs_dn xs)
    · have ec : cutV (xs.map V.str) none (some (1 + (v : Int))) = (xs.take (1 + v)).map V.str := by
        unfold cutV
        rw [ei, HT.sIx_none, List.drop_zero, Nat.sub_zero, List.map_take]
      rw [ec]
      have g3 := gg.trans st (Gq.of gg.st (Gr.new (o := .tup ((xs.take (1 + v)).map V.str)) gg.st.s hp))
      exact q v _ _ _ (by omega) g3 (.tup (.inl upd_same) (strs_dn _))
end
end Sh

set_option Elab.async false
set_option linter.all false
set_option maxRecDepth 100000
set_option maxHeartbeats 4000000
/-! the law: its catalogs -/
namespace Sh
open PySem PySem.Spec L2
open PyProof.Rows hiding St
open Evl (Ex)
def HS : List Str := [Str.ofString "east", Str.ofString "west", Str.ofString "hill"]
def RS : List Str := [Str.ofString "ra", Str.ofString "rb"]
def IS : List Str := [Str.ofString "tea", Str.ofString "pot", Str.ofString "cup"]
def lkey (l : Lane) : List Str := [l.h, l.r]
def prodF (hs rs : List Str) : List (List Str) := hs.flatMap fun h => rs.map fun r => [h, r]
def nm (k : Nat) : Str := Str.ofString "s" ++ (Str.ofString (toString ((k : Nat) : Int)))
theorem names_HS : ∀ v, v < 3 → (∀ x ∈ HS.take (1 + v), nameS x = true) ∧ (HS.take (1 + v)).Nodup ∧ 1 ≤ (HS.take (1 + v)).length ∧ (HS.take (1 + v)).length ≤ 5 := by decide +kernel
theorem names_RS : ∀ v, v < 2 → (∀ x ∈ RS.take (1 + v), nameS x = true) ∧ (RS.take (1 + v)).Nodup ∧ 1 ≤ (RS.take (1 + v)).length ∧ (RS.take (1 + v)).length ≤ 5 := by decide +kernel
theorem names_IS : ∀ v, v < 3 → (∀ x ∈ IS.take (1 + v), nameS x = true) ∧ (IS.take (1 + v)).Nodup ∧ 1 ≤ (IS.take (1 + v)).length ∧ (IS.take (1 + v)).length ≤ 5 := by decide +kernel
theorem prod_ok : ∀ v, v < 3 → ∀ u, u < 2 → (prodF (HS.take (1 + v)) (RS.take (1 + u))).Nodup ∧ (prodF (HS.take (1 + v)) (RS.take (1 + u))).length ≤ 20 := by decide +kernel
theorem nm_ok : ∀ k, k < 6 → nameS (nm k) = true := by decide +kernel
theorem nm_nd : ∀ n, n < 6 → ((List.range n).map nm).Nodup := by decide +kernel
theorem nm_sz : ∀ k, k < 6 → (Str.ofString "s").length + (Str.ofString (toString ((k : Nat) : Int))).length ≤ sizeLine := by decide +kernel
theorem namesOk_of {xs : List Str} (h : (∀ x ∈ xs, nameS x = true) ∧ xs.Nodup ∧ 1 ≤ xs.length ∧ xs.length ≤ 5) : NamesOk xs 1 5 := ⟨h.1, h.2.1, by have := h.2.2.1; omega, by have := h.2.2.2; omega, by have := h.2.2.2; omega⟩
theorem prod_sub {hs rs : List Str} {i j : Nat} {h : Str} (e : hs[i]? = some h) : List.Sublist (((hs.take i).flatMap fun h => rs.map fun r => [h, r]) ++ (rs.take j).map fun r => [h, r]) (hs.flatMap fun h => rs.map fun r => [h, r]) := by
  have lt : i < hs.length := (List.getElem?_eq_some_iff.mp e).1
  have e1 : hs = hs.take i ++ h :: hs.drop (i + 1) := by
    have z := List.take_append_drop i hs
    rw [List.drop_eq_getElem_cons lt] at z
    have y : hs[i] = h := Option.some.inj ((List.getElem?_eq_getElem lt).symm.trans e)
    rw [y] at z
    exact z.symm
  have e2 : hs.flatMap (fun h => rs.map fun r => [h, r]) = ((hs.take i).flatMap fun h => rs.map fun r => [h, r]) ++ ((rs.map fun r => [h, r]) ++ (hs.drop (i + 1)).flatMap fun h => rs.map fun r => [h, r]) := by
    conv => lhs; rw [e1, List.flatMap_append, List.flatMap_cons]
  rw [e2]
  refine List.Sublist.append (List.Sublist.refl _) ?_
  exact ((List.take_sublist j rs).map _).trans (List.sublist_append_left _ _)
theorem dn_str {G : Hp} {v : V} {x : Str} (h : Dn G v (.str x)) : v = .str x := by
  cases h
  rfl
theorem str_at {xs : List Str} {i : Nat} {d : D} (h : (strL xs)[i]? = some d) : ∃ x, xs[i]? = some x ∧ d = .str x := by
  unfold strL at h
  rw [List.getElem?_map] at h
  cases q : xs[i]? with
  | none =>
    rw [q] at h
    cases h
  | some x =>
    rw [q] at h
    exact ⟨x, rfl, (Option.some.inj h).symm⟩
theorem Gq.gs {K : PySem.W.Frag} {r sc : Addr} {G H G2 H2 : Hp} (g : Gq K r sc G H G2 H2) : Gs [r] G H G2 H2 := ⟨g.g, g.st.s, fun a o ha q => g.h a o (fun z => ha (by rw [z]; exact List.mem_cons_self)) q, g.f, fun a ha => by
  rw [List.mem_singleton] at ha
  rw [ha]
  exact g.st.n, fun a ha => by
  rw [List.mem_singleton] at ha
  rw [ha]
  obtain ⟨_, _, _, _, z⟩ := g.st.row
  rw [z]
  intro y
  cases y⟩
/-- a for over range(n), n drawn -/
theorem rng_go {n : Nat} (hn : n ≤ 1000000) {σ : L2.St} {H1 : Hp} {E : Ends} {tb : TS} {j : Nat} (Pv : Nat → L2.St → Hp → Prop) (h0 : Pv 0 σ H1) (hs : ∀ i σ' H', i < n → Pv i σ' H' → tb { E with nx := Pv (i + 1), ct := Pv (i + 1), bk := E.nx } (σ'.set j (some (.int (i : Nat)))) H') (hd : ∀ σ' H', Pv n σ' H' → E.nx σ' H') :
    ∃ k : Int, [V.int (n : Nat)] = [.int k] ∧ -(2 ^ 62) ≤ k ∧ k < 2 ^ 62 ∧ ∃ W : Nat → Nat → L2.St → Hp → Prop, (∃ m, W 0 m σ H1) ∧ ∀ i m σ H, W i m σ H → ((Itr 0 k.toNat).stop i H ∧ E.nx σ H) ∨ ((Itr 0 k.toNat).go i H ∧ ∃ N : L2.St → Hp → Prop, (∀ σ' H', N σ' H' → ∃ m', m' < m ∧ W (i + 1) m' σ' H') ∧ ∀ x H', (Itr 0 k.toNat).yld i H x H' → gName j x σ H' fun σ2 H2 => tb { E with nx := N, ct := N, bk := E.nx } σ2 H2) := by
  refine ⟨(n : Nat), rfl, by omega, by omega, fun i m σ' H' => m = n - i ∧ i ≤ n ∧ Pv i σ' H', ⟨n, by simp, Nat.zero_le _, h0⟩, ?_⟩
  rintro i m σ' H' ⟨rfl, hi, p⟩
  by_cases lt : i < n
  · refine .inr ⟨?_, Pv (i + 1), fun σ2 H2 p2 => ⟨n - (i + 1), by omega, rfl, lt, p2⟩, fun x H2 y => ?_⟩
    · show i < ((n : Nat) : Int).toNat
      omega
    · obtain ⟨rfl, rfl⟩ := y
      have z := hs i σ' H2 lt p
      show tb _ (σ'.set j (some (.int (0 + (i : Nat))))) H2
      rw [Int.zero_add]
      exact z
  · obtain rfl : i = n := by omega
    refine .inl ⟨?_, hd σ' H' p⟩
    show ((i : Nat) : Int).toNat ≤ i
    omega
/-- the state while the lanes are made -/
structure Cst (K : PySem.W.Frag) (r sc la lb : Addr) (hs rs : List Str) (G H G0 : Hp) (A : List (List Str)) (Gi H' : Hp) : Prop where
  ex : Ex G0 Gi
  gs : Gs [lb, la, r] G H Gi H'
  row : RowAt r sc H'
  lan : ∃ (xl : List V) (lns : List Lane), H' la = some (.lst xl) ∧ DnL Gi xl (lns.map Lane.d) ∧ (∀ l ∈ lns, LaneOk hs rs l) ∧ List.Sublist (lns.map lkey) A
  sup : H' lb = some (.lst [])
section
variable {K : PySem.W.Frag} {r sc la lb : Addr} {hs rs : List Str} {G H G0 G1 Gi H' G3 H3 : Hp} {A A2 : List (List Str)}
theorem Cst.gr (c : Cst K r sc la lb hs rs G H G0 A Gi H') (b : Gr Gi H' G3 H3) : Cst K r sc la lb hs rs G H G0 A G3 H3 := by
  obtain ⟨xl, lns, h1, h2, h3, h4⟩ := c.lan
  exact ⟨c.ex.trans b.g, c.gs.step b, c.row.gr b, ⟨xl, lns, b.h _ _ h1, DnL.mono b.g _ h2, h3, h4⟩, b.h _ _ c.sup⟩
theorem Cst.gq (c : Cst K r sc la lb hs rs G H G0 A Gi H') (hla : la ≠ r) (hlb : lb ≠ r) (b : Gq K r sc Gi H' G3 H3) : Cst K r sc la lb hs rs G H G0 A G3 H3 := by
  obtain ⟨xl, lns, h1, h2, h3, h4⟩ := c.lan
  exact ⟨c.ex.trans b.g, c.gs.stepQ (by simp) b, b.st.row, ⟨xl, lns, b.h _ _ hla h1, DnL.mono b.g _ h2, h3, h4⟩, b.h _ _ hlb c.sup⟩
theorem Cst.re (c : Cst K r sc la lb hs rs G H G0 A Gi H') (e : Ex G1 Gi) (s : List.Sublist A A2) : Cst K r sc la lb hs rs G H G1 A2 Gi H' := by
  obtain ⟨xl, lns, h1, h2, h3, h4⟩ := c.lan
  exact ⟨e, c.gs, c.row, ⟨xl, lns, h1, h2, h3, h4.trans s⟩, c.sup⟩
theorem Cst.st (c : Cst K r sc la lb hs rs G H G0 A Gi H') (sr : ∃ ns : List Int, SqL K G sc (ns.map V.int)) : RowSt K r sc Gi H' := c.gs.row (by simp) c.row sr
end
/-- .. and the supplies -/
structure Dst (K : PySem.W.Frag) (r sc la lb : Addr) (hs rs its : List Str) (G H G3 : Hp) (A : List (List Str)) (i : Nat) (Gi H' : Hp) : Prop where
  ex : Ex G3 Gi
  gs : Gs [lb, la, r] G H Gi H'
  row : RowAt r sc H'
  lan : ∃ (xl : List V) (lns : List Lane), H' la = some (.lst xl) ∧ DnL Gi xl (lns.map Lane.d) ∧ (∀ l ∈ lns, LaneOk hs rs l) ∧ List.Sublist (lns.map lkey) A
  sup : ∃ (xs : List V) (ss : List Sup), H' lb = some (.lst xs) ∧ DnL Gi xs (ss.map Sup.d) ∧ (∀ s ∈ ss, SupOk hs its s) ∧ ss.map (·.n) = (List.range i).map nm
section
variable {K : PySem.W.Frag} {r sc la lb : Addr} {hs rs its : List Str} {G H G0 Gi H' G3 H3 : Hp} {A : List (List Str)} {i : Nat}
theorem Dst.gr (c : Dst K r sc la lb hs rs its G H G0 A i Gi H') (b : Gr Gi H' G3 H3) : Dst K r sc la lb hs rs its G H G0 A i G3 H3 := by
  obtain ⟨xl, lns, h1, h2, h3, h4⟩ := c.lan
  obtain ⟨xs, ss, k1, k2, k3, k4⟩ := c.sup
  exact ⟨c.ex.trans b.g, c.gs.step b, c.row.gr b, ⟨xl, lns, b.h _ _ h1, DnL.mono b.g _ h2, h3, h4⟩, ⟨xs, ss, b.h _ _ k1, DnL.mono b.g _ k2, k3, k4⟩⟩
theorem Dst.gq (c : Dst K r sc la lb hs rs its G H G0 A i Gi H') (hla : la ≠ r) (hlb : lb ≠ r) (b : Gq K r sc Gi H' G3 H3) : Dst K r sc la lb hs rs its G H G0 A i G3 H3 := by
  obtain ⟨xl, lns, h1, h2, h3, h4⟩ := c.lan
  obtain ⟨xs, ss, k1, k2, k3, k4⟩ := c.sup
  exact ⟨c.ex.trans b.g, c.gs.stepQ (by simp) b, b.st.row, ⟨xl, lns, b.h _ _ hla h1, DnL.mono b.g _ h2, h3, h4⟩, ⟨xs, ss, b.h _ _ hlb k1, DnL.mono b.g _ k2, k3, k4⟩⟩
theorem Dst.st (c : Dst K r sc la lb hs rs its G H G0 A i Gi H') (sr : ∃ ns : List Int, SqL K G sc (ns.map V.int)) : RowSt K r sc Gi H' := c.gs.row (by simp) c.row sr
end
section
variable {P : Program} {w : World} {K : PySem.W.Frag} {mg : Str → Option Value} {base : Heap}
abbrev s__law_catalog : Stmt := topS 34
theorem sc__law_catalog : FnScope ["row", "houses", "regions", "items", "lanes", "supplies", "house", "at", "region", "item", "least"] ["row"] (defScope s__law_catalog) := ⟨rfl, rfl, rfl, by decide +kernel, rfl, by decide +kernel, by decide +kernel⟩
def spCatalog (K : PySem.W.Frag) : Sp := fun vs H Q _ => ∃ r sc G, vs = [.ref r] ∧ RowSt K r sc G H ∧ ∀ v t G2 H2, CatOk t → (∃ u, u < 3 ∧ t.its = IS.take (1 + u)) → Dn G2 v (Cat.d t) → Gq K r sc G H G2 H2 → Q v H2
theorem keeps_catalog (B : Bi mg) (S : Stands K mg "_law_catalog" s__law_catalog ["row"]) (K__law_taken : Keeps P w K mg base CX0 1 "_law_taken" ["row", "many"] (spTaken K)) (K__law_pick : Keeps P w K mg base CX0 2 "_law_pick" ["row", "things"] (spPick K)) :
    Keeps P w K mg base CX0 3 "_law_catalog" ["row"] (spCatalog K) := by
  obtain ⟨f, fd, F, hm, hb⟩ := S
  refine ⟨f, fd, F.ok sc__law_catalog (fun vs H Q E h => ?_) (fun cdv A outer s H vs Q E hr h => ?_), hm, F.kp, hb⟩
  · obtain ⟨r, sc, G, rfl, _⟩ := h
    rfl
  · obtain ⟨r, sc, G, rfl, st, q⟩ := h
    refine ⟨_, (pss_cons (ps_par (i := 1) (j := 2) rfl sc__law_catalog.nd rfl rfl (by decide) rfl rfl (pa_cons (pe_slice sl_tupA (pe_tup (pa_cons pe_str (pa_cons pe_str (pa_cons pe_str pa_nil)))) po_none (po_some (pe_op op_add pe_int (pe_callD K__law_taken (hr.mono (by omega)) (pa_cons (pv 0) (pa_cons pe_int pa_nil)))))) (pa_cons (pe_slice sl_tupA (pe_tup (pa_cons pe_str (pa_cons pe_str pa_nil))) po_none (po_some (pe_op op_add pe_int (pe_callD K__law_taken (hr.mono (by omega)) (pa_cons (pv 0) (pa_cons pe_int pa_nil)))))) pa_nil)) (by rfl))
    (pss_cons (ps_par3 (i := 3) (j := 4) (l := 5) rfl sc__law_catalog.nd rfl rfl rfl (by decide) (by decide) (by decide) rfl rfl rfl (pa_cons (pe_slice sl_tupA (pe_tup (pa_cons pe_str (pa_cons pe_str (pa_cons pe_str pa_nil)))) po_none (po_some (pe_op op_add pe_int (pe_callD K__law_taken (hr.mono (by omega)) (pa_cons (pv 0) (pa_cons pe_int pa_nil)))))) (pa_cons (pe_lst pa_nil) (pa_cons (pe_lst pa_nil) pa_nil))) (by rfl))
    (pss_cons (ps_for PassesOwn.never rfl (pi_tup (pv 1)) (pg_name (i := 6) sc__law_catalog.nd rfl (.inl rfl))
      (pss_one (ps_for PassesOwn.never rfl (pi_tup (pv 2)) (pg_name (i := 8) sc__law_catalog.nd rfl (.inl rfl))
      (pss_one (ps_if (pt_cmpR op_gt (pe_callD K__law_taken (hr.mono (by omega)) (pa_cons (pv 0) (pa_cons pe_int pa_nil))) pe_int (nomark _)) (pss_cons (ps_set (i := 10) sc__law_catalog.nd rfl (.inl rfl) (pe_callD K__law_taken (hr.mono (by omega)) (pa_cons (pv 0) (pa_cons pe_int pa_nil))))
    (pss_one (ps_expr (pe_bm PySem.F.plainAttrs_list PySem.F.slot_list_append PySem.F.type_list_append mt_append (pv 4) (pa_cons (pe_tup (pa_cons (pv 6) (pa_cons (pv 8) (pa_cons (pv 10) (pa_cons (pe_op op_add (pv 10) (pe_callD K__law_taken (hr.mono (by omega)) (pa_cons (pv 0) (pa_cons pe_int pa_nil)))) (pa_cons (pe_callD K__law_taken (hr.mono (by omega)) (pa_cons (pv 0) (pa_cons pe_int pa_nil))) pa_nil)))))) pa_nil))))) pss_nil)))))
    (pss_cons (ps_for PassesOwn.never rfl (pi_range1 rfl B.range (pa_cons (pe_callD K__law_taken (hr.mono (by omega)) (pa_cons (pv 0) (pa_cons pe_int pa_nil))) pa_nil)) (pg_name (i := 7) sc__law_catalog.nd rfl (.inl rfl))
      (pss_cons (ps_par (i := 6) (j := 9) rfl sc__law_catalog.nd rfl rfl (by decide) rfl rfl (pa_cons (pe_callD K__law_pick (hr.mono (by omega)) (pa_cons (pv 0) (pa_cons (pe_callTy call_list_of rfl B.list bi_list (pa_cons (pv 1) pa_nil)) pa_nil))) (pa_cons (pe_callD K__law_pick (hr.mono (by omega)) (pa_cons (pv 0) (pa_cons (pe_callTy call_list_of rfl B.list bi_list (pa_cons (pv 3) pa_nil)) pa_nil))) pa_nil)) (by rfl))
    (pss_one (ps_expr (pe_bm PySem.F.plainAttrs_list PySem.F.slot_list_append PySem.F.type_list_append mt_append (pv 5) (pa_cons (pe_tup (pa_cons (pe_op op_add_str pe_str (pe_callTy call_str_int rfl B.str bi_str (pa_cons (pv 7) pa_nil))) (pa_cons (pv 6) (pa_cons (pv 9) (pa_cons (pe_callD K__law_taken (hr.mono (by omega)) (pa_cons (pv 0) (pa_cons pe_int pa_nil))) (pa_cons (pe_callD K__law_taken (hr.mono (by omega)) (pa_cons (pv 0) (pa_cons pe_int pa_nil))) pa_nil)))))) pa_nil))))))
    (pss_one (ps_ret (pe_tup (pa_cons (pv 1) (pa_cons (pv 2) (pa_cons (pv 3) (pa_cons (pe_callTy call_tuple_of rfl B.tuple bi_tuple (pa_cons (pv 4) pa_nil)) (pa_cons (pe_callTy call_tuple_of rfl B.tuple bi_tuple (pa_cons (pv 5) pa_nil)) pa_nil)))))))))))), ?_⟩
    have sr := st.scr
    have ne_r : ∀ {a : Addr} {H1 : Hp}, RowAt r sc H1 → H1 a = none → a ≠ r := fun w h z => by
      obtain ⟨_, _, _, _, w2⟩ := w
      rw [z, w2] at h
      cases h
    refine evr_sl (xs := HS) (m := 3) rfl (evd_tup (ea_cons evd_str (ea_cons evd_str (ea_cons evd_str ea_nil))) (by show 3 ≤ 100000; decide)) (by decide) (by decide) (by decide) st fun v1 u1 G1 H1 lt1 g1 n1 => ?_
    refine evr_sl (xs := RS) (m := 2) rfl (evd_tup (ea_cons evd_str (ea_cons evd_str ea_nil)) (by show 2 ≤ 100000; decide)) (by decide) (by decide) (by decide) g1.st fun v2 u2 G2 H2 lt2 g2 n2 => ⟨_, _, rfl, ?_⟩
    refine evr_sl (xs := IS) (m := 3) rfl (evd_tup (ea_cons evd_str (ea_cons evd_str (ea_cons evd_str ea_nil))) (by show 3 ≤ 100000; decide)) (by decide) (by decide) (by decide) g2.st fun v3 u3 G3 H3 lt3 g3 n3 => ?_
    refine ⟨Evl.sz_of (by show 0 ≤ 100000; decide), fun la hla => ⟨Evl.sz_of (by show 0 ≤ 100000; decide), fun lb hlb => ⟨_, _, _, rfl, ?_⟩⟩⟩
    have gq := (g1.trans st g2).trans st g3
    have nla : la ≠ r := ne_r gq.st.row hla
    have row4 : RowAt r sc (upd H3 la (.lst [])) := RowAt.put gq.st.row nla
    have nlb : lb ≠ r := ne_r row4 hlb
    have nab : la ≠ lb := fun z => by
      rw [← z, upd_same] at hlb
      cases hlb
    have hlb3 : H3 lb = none := by
      rw [upd_ne (fun z => nab z.symm)] at hlb
      exact hlb
    have old : ∀ {a : Addr}, H3 a = none → H a = none := fun {a} h => by
      cases z : H a with
      | none => rfl
      | some o =>
        have y := gq.h a o (ne_r gq.st.row h) z
        rw [h] at y
        cases y
    have gs : Gs [lb, la, r] G H G3 (upd (upd H3 la (.lst [])) lb (.lst [])) := (gq.gs.new hla).new hlb
    have ok1 := names_HS v1 lt1
    have ok2 := names_RS v2 lt2
    have ok3 := names_IS v3 lt3
    have okp := prod_ok v1 lt1 v2 lt2
    have k1 : Dn G3 u1 (.tuple (strL (HS.take (1 + v1)))) := Dn.mono (g2.g.trans g3.g) _ n1
    have k2 : Dn G3 u2 (.tuple (strL (RS.take (1 + v2)))) := Dn.mono g3.g _ n2
    have k3 : Dn G3 u3 (.tuple (strL (IS.take (1 + v3)))) := n3
    generalize HS.take (1 + v1) = hs at ok1 okp k1
    generalize RS.take (1 + v2) = rs at ok2 okp k2
    generalize hits : IS.take (1 + v3) = its at ok3 k3
    have c0 : Cst K r sc la lb hs rs G H G3 [] G3 (upd (upd H3 la (.lst [])) lb (.lst [])) := ⟨Ex.refl _, gs, RowAt.put row4 nlb, ⟨[], [], by rw [upd_ne nab, upd_same], .nil, fun l hl => (by cases hl), List.Sublist.refl _⟩, upd_same⟩
    have lenh : (strL hs).length = hs.length := List.length_map _
    have lenr : (strL rs).length = rs.length := List.length_map _
    generalize upd (upd H3 la (.lst [])) lb (.lst []) = H5 at c0
    refine for_dataN (G := G3) (ei_tup (evd_at k1)) c0.gs.s (fun G0 _ i σ' H' => ∃ Gi a b c, Cst K r sc la lb hs rs G H G0 ((hs.take i).flatMap fun h => rs.map fun r => [h, r]) Gi H' ∧ Ex G3 G0 ∧ σ' = [some (.ref r), some u1, some u2, some u3, some (.ref la), some (.ref lb), a, none, b, none, c])
      (fun _ _ _ _ _ ⟨Gi, _, _, _, x, _⟩ => x.ex.trans x.gs.s) (fun G0 H0 g0 => ?_) (fun G0 H0 i d x σ' H' G6 H6 g0 hdi pv g6 nx => ?_) (fun G0 H0 σ' H' g0 pv => ?_)
    · exact ⟨G0, none, none, none, (c0.gr g0).re (Ex.refl _) (List.Sublist.refl _), g0.g, rfl⟩
    · obtain ⟨Gi, a, b, c, cs, e30, rfl⟩ := pv
      obtain ⟨h, hh, rfl⟩ := str_at hdi
      have memh := List.mem_of_getElem? hh
      obtain ⟨G7, e67, g7⟩ := grow_up cs.ex cs.gs.s g6
      have cs7 := cs.gr g7
      have ex := dn_str nx
      subst ex
      have k2' : Dn G7 u2 (.tuple (strL rs)) := Dn.mono ((e30.trans cs.ex).trans g7.g) _ k2
      refine for_dataN (G := G7) (σ := [some (.ref r), some u1, some u2, some u3, some (.ref la), some (.ref lb), some (.str h), none, b, none, c]) (ei_tup (evd_at k2')) cs7.gs.s (fun G8 _ j σ' H' => ∃ Gi b c, Cst K r sc la lb hs rs G H G8 (((hs.take i).flatMap fun h => rs.map fun r => [h, r]) ++ (rs.take j).map fun r => [h, r]) Gi H' ∧ Ex G0 G8 ∧ σ' = [some (.ref r), some u1, some u2, some u3, some (.ref la), some (.ref lb), some (.str h), none, b, none, c])
        (fun _ _ _ _ _ ⟨Gi, _, _, x, _⟩ => x.ex.trans x.gs.s) (fun G8 H8 g8 => ?_) (fun G8 H8 j d y σ' H' G9 H9 g8 hdj pv g9 ny => ?_) (fun G8 H8 σ' H' g8 pv => ?_)
      · refine ⟨G8, b, c, (cs7.gr g8).re (Ex.refl _) ?_, cs7.ex.trans g8.g, rfl⟩
        rw [List.take_zero, List.map_nil, List.append_nil]
        exact List.Sublist.refl _
      · obtain ⟨Gj, b2, c2, cj, e08, rfl⟩ := pv
        obtain ⟨rg, hr2, rfl⟩ := str_at hdj
        have memr := List.mem_of_getElem? hr2
        obtain ⟨G10, e9, g10⟩ := grow_up cj.ex cj.gs.s g9
        have cj10 := cj.gr g10
        have ey := dn_str ny
        subst ey
        have tkr : (rs.take (j + 1)).map (fun r => [h, r]) = (rs.take j).map (fun r => [h, r]) ++ [[h, rg]] := by
          rw [take_len hr2, List.map_append]
          rfl
        refine evr_taken (m := 4) rfl evd_int (by decide) (by decide) (cj10.st sr) fun w1 G11 H11 lw1 q1 => ⟨_, _, rfl, rfl, _, rfl, ifp (fun _ => ?_) (fun _ => ?_)⟩
        · have c11 := cj10.gq nla nlb q1
          refine evr_taken (m := 3) rfl evd_int (by decide) (by decide) (c11.st sr) fun w2 G12 H12 lw2 q2 => ?_
          have c12 := c11.gq nla nlb q2
          obtain ⟨xl, lns, hx, nl, each, sub⟩ := c12.lan
          refine ⟨_, rfl, .inl ⟨rfl, _, .inl (.inl hx)⟩, ?_⟩
          refine ⟨_, rfl, _, rfl, _, rfl, _, rfl, ?_⟩
          refine evr_taken (m := 3) rfl evd_int (by decide) (by decide) (c12.st sr) fun w3 G13 H13 lw3 q3 => ⟨_, _, rfl, rfl, ?_⟩
          have c13 := c12.gq nla nlb q3
          refine evr_taken (m := 6) rfl evd_int (by decide) (by decide) (c13.st sr) fun w4 G14 H14 lw4 q4 => ⟨Evl.sz_of (by show 5 ≤ 100000; decide), fun pt hpt => ?_⟩
          have c14 := c13.gq nla nlb q4
          have c15 := c14.gr (Gr.new (o := .tup [.str h, .str rg, .int (w2 : Nat), .int ((w2 : Nat) + (w3 : Nat)), .int (w4 : Nat)]) c14.gs.s hpt)
          obtain ⟨xl2, lns2, hx2, nl2, each2, sub2⟩ := c15.lan
          have few : xl2.length ≤ 20 := by
            have z1 := sub2.length_le
            have z2 := (prod_sub (rs := rs) (j := j) hh).length_le
            have z3 := okp.2
            rw [List.length_map] at z1
            rw [nl2.length, List.length_map]
            unfold prodF at z3
            omega
          refine ⟨la, xl2, _, rfl, rfl, hx2, Nat.lt_of_le_of_lt few (by decide), ?_⟩
          refine ⟨_, _, _, ⟨c15.ex, c15.gs.put (by simp), RowAt.put c15.row nla, ⟨_, lns2 ++ [⟨h, rg, (w2 : Nat), (w2 : Nat) + (w3 : Nat), (w4 : Nat)⟩], upd_same, ?_, fun l hl => ?_, ?_⟩, ?_⟩, e08, rfl⟩
          · rw [List.map_append]
            exact nl2.snoc (.tup (.inl upd_same) (.cons (.str h) (.cons (.str rg) (.cons (.int _) (.cons (.int _) (.cons (.int _) .nil))))))
          · rcases List.mem_append.mp hl with hl | hl
            · exact each2 l hl
            · rw [List.mem_singleton] at hl
              subst hl
              exact ⟨memh, memr, by show (0 : Int) ≤ (w2 : Nat); omega, by show ((w2 : Nat) : Int) ≤ 9; omega, by show ((w2 : Nat) : Int) ≤ (w2 : Nat) + (w3 : Nat); omega, by show ((w2 : Nat) : Int) + (w3 : Nat) ≤ 9; omega, by show (0 : Int) ≤ (w4 : Nat); omega, by show ((w4 : Nat) : Int) ≤ 99; omega⟩
          · rw [List.map_append, tkr, ← List.append_assoc]
            exact List.Sublist.append sub2 (List.Sublist.refl _)
          · rw [upd_ne (fun z => nab z.symm)]
            exact c15.sup
        · have c11 := cj10.gq nla nlb q1
          refine ⟨G11, _, _, c11.re (c11.ex) ?_, e08, rfl⟩
          rw [tkr, ← List.append_assoc]
          exact List.sublist_append_left _ _
      · obtain ⟨Gj, b2, c2, cj, e08, rfl⟩ := pv
        refine ⟨Gj, _, _, _, cj.re (e08.trans cj.ex) ?_, e30, rfl⟩
        rw [lenr, List.take_length, take_len hh, List.flatMap_append]
        show List.Sublist _ (_ ++ ((rs.map fun r => [h, r]) ++ []))
        rw [List.append_nil]
        exact List.Sublist.refl _
    · obtain ⟨Gi, a, b, c, cs, e30, rfl⟩ := pv
      rw [lenh, List.take_length] at cs
      refine evr_taken (m := 6) rfl evd_int (by decide) (by decide) (cs.st sr) fun n G6 H6 ltn q6 => ?_
      have c6 := cs.gq nla nlb q6
      obtain ⟨xl, lns, hx, nl, each, sub⟩ := c6.lan
      have d6 : Dst K r sc la lb hs rs its G H G3 (prodF hs rs) 0 G6 H6 := ⟨e30.trans c6.ex, c6.gs, c6.row, ⟨xl, lns, hx, nl, each, sub⟩, ⟨[], [], c6.sup, .nil, fun s hs => (by cases hs), rfl⟩⟩
      refine rng_go (n := n) (by omega) (fun i σ' H' => ∃ Gj a6 a7 a9, Dst K r sc la lb hs rs its G H G3 (prodF hs rs) i Gj H' ∧ σ' = [some (.ref r), some u1, some u2, some u3, some (.ref la), some (.ref lb), a6, a7, b, a9, c]) ⟨G6, _, _, _, d6, rfl⟩ (fun i σ' H' lti pv => ?_) (fun σ' H' pv => ?_)
      · obtain ⟨Gj, a6, a7, a9, dj, rfl⟩ := pv
        have i6 : i < 6 := by omega
        have k1' := Dn.mono dj.ex _ k1
        have k3' := Dn.mono dj.ex _ k3
        refine evr_pick (ds := strL hs) rfl (evd_cb (ea_cons (evd_at k1') ea_nil) r_listT) (by have := ok1.2.2.1; omega) (by have := ok1.2.2.2; omega) (dj.st sr) fun w1 d1 G7 H7 hd1 m1 q7 => ?_
        obtain ⟨h, hh, rfl⟩ := List.mem_map.mp hd1
        have e1 := dn_str m1
        subst e1
        have d7 := dj.gq nla nlb q7
        refine evr_pick (ds := strL its) rfl (evd_cb (ea_cons (evd_at (Dn.mono q7.g _ k3')) ea_nil) r_listT) (by unfold strL; rw [List.length_map]; have := ok3.2.2.1; omega) (by unfold strL; rw [List.length_map]; have := ok3.2.2.2; omega) (d7.st sr) fun w2 d2 G8 H8 hd2 m2 q8 => ⟨_, _, rfl, ?_⟩
        obtain ⟨it, hit, rfl⟩ := List.mem_map.mp hd2
        have e2 := dn_str m2
        subst e2
        have d8 := d7.gq nla nlb q8
        obtain ⟨xs0, ss0, hs0, _, _, _⟩ := d8.sup
        refine ⟨_, rfl, .inl ⟨rfl, _, .inl (.inl hs0)⟩, ?_⟩
        have lg : (((i : Nat) : Int)).natAbs.log2 < 1920 := by
          have z : (((i : Nat) : Int)).natAbs < 6 := by omega
          exact Nat.lt_of_le_of_lt (Nat.log2_le_self _) (by omega)
        have sz : ((Str.ofString "s").length + (Str.ofString (toString ((i : Nat) : Int))).length) ≤ sizeLine := nm_sz i i6
        refine ⟨_, rfl, ((i : Nat) : Int), rfl, lg, _, _, rfl, rfl, sz, _, rfl, _, rfl, ?_⟩
        refine evr_taken (m := 6) rfl evd_int (by decide) (by decide) (d8.st sr) fun w3 G9 H9 lw3 q9 => ?_
        have d9 := d8.gq nla nlb q9
        refine evr_taken (m := 6) rfl evd_int (by decide) (by decide) (d9.st sr) fun w4 G10 H10 lw4 q10 => ⟨Evl.sz_of (by show 5 ≤ 100000; decide), fun pt hpt => ?_⟩
        have d10 := d9.gq nla nlb q10
        have d11 := d10.gr (Gr.new (o := .tup [.str (nm i), .str h, .str it, .int (w3 : Nat), .int (w4 : Nat)]) d10.gs.s hpt)
        obtain ⟨xs, ss, hxs, nss, eachs, names⟩ := d11.sup
        have lens : ss.length = i := by
          have z := congrArg List.length names
          rw [List.length_map, List.length_map, List.length_range] at z
          exact z
        refine ⟨lb, xs, _, rfl, rfl, hxs, Nat.lt_of_le_of_lt (show xs.length ≤ 6 by rw [nss.length, List.length_map]; omega) (by decide), ?_⟩
        obtain ⟨xl2, lns2, hx2, nl2, each2, sub2⟩ := d11.lan
        refine ⟨_, _, _, _, ⟨d11.ex, d11.gs.put (by simp), RowAt.put d11.row nlb, ⟨xl2, lns2, by rw [upd_ne nab]; exact hx2, nl2, each2, sub2⟩, ⟨_, ss ++ [⟨nm i, h, it, (w3 : Nat), (w4 : Nat)⟩], upd_same, ?_, fun l hl => ?_, ?_⟩⟩, rfl⟩
        · rw [List.map_append]
          exact nss.snoc (.tup (.inl upd_same) (.cons (.str _) (.cons (.str h) (.cons (.str it) (.cons (.int _) (.cons (.int _) .nil))))))
        · rcases List.mem_append.mp hl with hl | hl
          · exact eachs l hl
          · rw [List.mem_singleton] at hl
            subst hl
            exact ⟨nm_ok i i6, hh, hit, by show (0 : Int) ≤ (w3 : Nat); omega, by show ((w3 : Nat) : Int) ≤ 60; omega, by show (0 : Int) ≤ (w4 : Nat); omega, by show ((w4 : Nat) : Int) ≤ 99; omega⟩
        · rw [List.map_append, names, List.range_succ, List.map_append]
          rfl
      · obtain ⟨Gj, a6, a7, a9, dj, rfl⟩ := pv
        obtain ⟨xl, lns, hx, nl, each, sub⟩ := dj.lan
        obtain ⟨xs, ss, hxs, nss, eachs, names⟩ := dj.sup
        have hla0 : H la = none := old hla
        have hlb0 : H lb = none := old hlb3
        have t1 := dj.gs.close hlb0 hxs (by simp [nab.symm, nlb])
        have t2 := t1.close hla0 hx (by simp [nla])
        have up1 : Ex Gj (upd Gj lb (.lst xs)) := Ex.new (dj.gs.n lb (by simp))
        have up2 : Ex (upd Gj lb (.lst xs)) (upd (upd Gj lb (.lst xs)) la (.lst xl)) := Ex.new (t1.n la (by simp))
        have ups := up1.trans up2
        have m4 : Dn (upd (upd Gj lb (.lst xs)) la (.lst xl)) (.ref la) (.list (lns.map Lane.d)) := .lst upd_same (DnL.mono ups _ nl)
        have m5 : Dn (upd (upd Gj lb (.lst xs)) la (.lst xl)) (.ref lb) (.list (ss.map Sup.d)) := .lst (by rw [upd_ne (fun z => nab z.symm), upd_same]) (DnL.mono ups _ nss)
        have ups3 : Ex G3 (upd (upd Gj lb (.lst xs)) la (.lst xl)) := dj.ex.trans ups
        have few1 : lns.length ≤ 20 := by
          have z1 := sub.length_le
          rw [List.length_map] at z1
          have := okp.2
          omega
        have few2 : ss.length ≤ 14 := by
          have z := congrArg List.length names
          rw [List.length_map, List.length_map, List.length_range] at z
          omega
        have all : EvD (tTup (tCons (tVar 1) (tCons (tVar 2) (tCons (tVar 3) (tCons (tCB (rTupD K) (tCons (tVar 4) tNil)) (tCons (tCB (rTupD K) (tCons (tVar 5) tNil)) tNil)))))) [some (.ref r), some u1, some u2, some u3, some (.ref la), some (.ref lb), a6, a7, b, a9, c] (upd (upd Gj lb (.lst xs)) la (.lst xl)) (Cat.d ⟨hs, rs, its, lns, ss⟩) :=
          evd_tup (ea_cons (evd_at (Dn.mono ups3 _ k1)) (ea_cons (evd_at (Dn.mono ups3 _ k2)) (ea_cons (evd_at (Dn.mono ups3 _ k3)) (ea_cons (evd_cb (ea_cons (evd_at m4) ea_nil) r_tupL) (ea_cons (evd_cb (ea_cons (evd_at m5) ea_nil) r_tupL) ea_nil))))) (by show 5 ≤ 100000; decide)
        refine all H' t2.s _ fun v G12 H12 g12 n12 => ?_
        refine q v ⟨hs, rs, its, lns, ss⟩ G12 H12 ⟨namesOk_of ok1, namesOk_of ok2, namesOk_of ok3, ⟨each, few1, sub.nodup okp.1⟩, ⟨eachs, few2, ?_⟩⟩ ⟨v3, lt3, hits.symm⟩ n12 ((t2.step g12).q (dj.row.gr g12) sr)
        show (ss.map (·.n)).Nodup
        rw [names]
        exact nm_nd n (by omega)
end
end Sh

set_option Elab.async false
set_option linter.all false
set_option maxRecDepth 100000
set_option maxHeartbeats 4000000
/-! the law -/
namespace Sh
open PySem PySem.Spec L2
open PyProof.Rows hiding St
open Evl (Ex)
theorem bi_min : bootBuiltins "min" = some (.builtin "min") := by decide +kernel
theorem takes0N {X : Cx} : L2N.Takes X (fun _ _ _ _ => False) := fun _ _ x => by
  obtain ⟨_, _, _, _, _, _, _, _, _, _, _, _, _, _, _, _, z⟩ := x
  exact z.elim
theorem hot_of {X : Cx} {a : Addr} {oe : Obj} {cls : Value} {d : Option Addr} {pn : List (Addr × Obj)} (hz : L2N.Zn cls d oe) (hf : ∃ vs, oe.data = .fields vs) : L2H.HotC (X.suite a ((a, oe) :: pn)) := by
  obtain ⟨vs, hd⟩ := hf
  exact ⟨(a, oe), ⟨rfl, vs, hd, hz.2.2 vs hd⟩, List.mem_cons_self⟩
theorem lcHot {X : Cx} {elt tg iter : Expr} {ifs : List Expr} {scope : Scope} {own : List (Str × Nat)} {pos : Pos} {tl : TE} {wi : TI} {g : TG} {tt : TT} {te : TE} (hwi : iList X.K tl = wi) (hc : L2H.HotC X) (hN : X.N.Nodup) (hi : PE X iter tl) (ok : BlkOk X.N X.env.scope scope own)
    (hg : ∀ (s : Shared) (H : Hp) (C : Addr) (cl : List (Str × Addr)) (fp : List Addr), PG (X.blk s H scope (compEnvC scope cl C X.env) fp) tg g) (ht : ∀ (s : Shared) (H : Hp) (C : Addr) (cl : List (Str × Addr)) (fp : List Addr), PTs (X.blk s H scope (compEnvC scope cl C X.env) fp) ifs tt)
    (he : ∀ (s : Shared) (H : Hp) (C : Addr) (cl : List (Str × Addr)) (fp : List Addr), PE (X.blk s H scope (compEnvC scope cl C X.env) fp) elt te) (hs : ∀ x, foldedSetIterable iter X.env x = pure x := by intro _; rfl) :
    PE X (.ListComp elt [⟨tg, iter, ifs, 0⟩] scope pos) (tLc wi g tt te (own.map (·.2))) := by
  subst hwi
  exact ShH.pe_lcHot hc hN hi ok hg ht he hs
section
variable {P : Program} {w : World} {K : PySem.W.Frag} {mg : Str → Option Value} {base : Heap} {CI CO : Addr}
abbrev s_law : Stmt := topS 36
theorem sc_law : FnScope ["script", "row", "catalog", "items", "bundles", "at", "names", "name", "wants", "sums", "count", "due", "wrong", "parts", "turn", "told", "e", "odd", "item", "many", "one", "two", "bundle"] ["script"] (defScope s_law) := ⟨rfl, rfl, rfl, by decide +kernel, rfl, by decide +kernel, by decide +kernel⟩
abbrev lawX (P : Program) (w : World) (K : PySem.W.Frag) (mg : Str → Option Value) (base : Heap) (f : Addr) (cdv : Value) (A : Around) (outer : List Env) (s : Shared) (H : Hp) (E : XK) : Cx := (cxOf CX0 P w K mg base ["script", "row", "catalog", "items", "bundles", "at", "names", "name", "wants", "sums", "count", "due", "wrong", "parts", "turn", "told", "e", "odd", "item", "many", "one", "two", "bundle"] "law" (defScope s_law) f cdv A outer s H E).nox
theorem Gr.grow {G H H2 : Hp} (e : Ex G H) (x : Ex H H2) : Gr G H G H2 := ⟨Ex.refl _, e.trans x, x, fun _ h _ => h⟩
theorem RowSt.gr {K : PySem.W.Frag} {r sc : Addr} {G H G2 H2 : Hp} (s : RowSt K r sc G H) (b : Gr G H G2 H2) : RowSt K r sc G2 H2 := (Gq.of s b).st
/-- what stands when all is drawn that is asked about -/
structure LawSt (K : PySem.W.Frag) (r sc : Addr) (t : Cat) (bs : List Bun) (vc vi vb : V) (G H : Hp) : Prop where
  st : RowSt K r sc G H
  cat : CatOk t
  dc : Dn G vc (Cat.d t)
  di : Dn G vi (.list (strL t.its))
  db : FT G vb (bs.map bunD)
  bd : BunDom bs
  ok : bunsOk t.its bs = true
  few : bs.length ≤ 3
  its3 : t.its.length ≤ 3
  tea : t.its[0]? = some (Str.ofString "tea")
  none : Str.ofString "none" ∉ t.its ++ bs.map (·.1)
  k : Str.ofString "k" ∉ t.its
theorem LawSt.to {K : PySem.W.Frag} {r sc : Addr} {t : Cat} {bs : List Bun} {vc vi vb : V} {G H G2 H2 : Hp} (l : LawSt K r sc t bs vc vi vb G H) (g : Gq K r sc G H G2 H2) : LawSt K r sc t bs vc vi vb G2 H2 :=
  ⟨g.st, l.cat, Dn.mono g.g _ l.dc, Dn.mono g.g _ l.di, l.db.mono g.g, l.bd, l.ok, l.few, l.its3, l.tea, l.none, l.k⟩
theorem LawSt.gr {K : PySem.W.Frag} {r sc : Addr} {t : Cat} {bs : List Bun} {vc vi vb : V} {G H G2 H2 : Hp} (l : LawSt K r sc t bs vc vi vb G H) (g : Gr G H G2 H2) : LawSt K r sc t bs vc vi vb G2 H2 := l.to (Gq.of l.st g)
theorem LawSt.okD {K : PySem.W.Frag} {r sc : Addr} {t : Cat} {bs : List Bun} {vc vi vb : V} {G H : Hp} (l : LawSt K r sc t bs vc vi vb G H) : bunsOkD t.its (some bs) = true := by
  have := l.few
  show (decide ((bs.length : Int) ≤ 6) && bunsOk t.its bs) = true
  rw [l.ok, decide_eq_true (by omega)]
  rfl
theorem LawSt.reg {K : PySem.W.Frag} {r sc : Addr} {t : Cat} {bs : List Bun} {vc vi vb : V} {G H : Hp} (l : LawSt K r sc t bs vc vi vb G H) : ∃ x, t.rs[0]? = some x := by
  have := l.cat.rs.lo
  exact ⟨_, List.getElem?_eq_getElem (by omega)⟩
theorem go_set {te : TE} {i : Nat} {u : TS} {D : Ends} {σ : L2.St} {H : Hp} (h : te σ H fun v H2 => u D (σ.set i (some v)) H2) : tSeq (tAsg te (gName i)) u D σ H := h
theorem go_seq {t u : TS} {D : Ends} {σ : L2.St} {H : Hp} (h : t { D with nx := u D } σ H) : tSeq t u D σ H := h
theorem go_drop {te : TE} {D : Ends} {σ : L2.St} {H : Hp} (h : te σ H fun _ H2 => D.nx σ H2) : tDrop te D σ H := h
theorem go_ret {te : TE} {D : Ends} {σ : L2.St} {H : Hp} (h : te σ H D.rt) : tRet te D σ H := h
theorem go_callS {sp : Sp} {E : L2.St → XK} {t : TA} {σ : L2.St} {H : Hp} {Q : VK} (h : t σ H fun vs H1 => sp vs H1 Q (E σ)) : tCallS sp E t σ H Q := h
theorem go_cons {te : TE} {t : TA} {σ : L2.St} {H : Hp} {Q : List V → Hp → Prop} (h : te σ H fun v H1 => t σ H1 fun vs H2 => Q (v :: vs) H2) : tCons te t σ H Q := h
theorem go_nil {σ : L2.St} {H : Hp} {Q : List V → Hp → Prop} (h : Q [] H) : tNil σ H Q := h
theorem go_var {i : Nat} {σ : L2.St} {H : Hp} {Q : VK} {v : V} (hs : σ[i]? = some (some v)) (h : Q v H) : tVar i σ H Q := ⟨v, hs, h⟩
theorem go_c {v : V} {σ : L2.St} {H : Hp} {Q : VK} (h : Q v H) : tC v σ H Q := h
theorem ne_str {x y : String} (h : (decide (Str.ofString x = Str.ofString y)) = false) : ¬ Str.ofString x = Str.ofString y := of_decide_eq_false h
end
end Sh

set_option Elab.async false
set_option linter.all false
set_option maxRecDepth 100000
set_option maxHeartbeats 1000000
/-! the law: its last statements -/
namespace Sh
open PySem PySem.Spec L2
open PyProof.Rows hiding St
open Evl (Ex)
section
variable {P : Program} {w : World} {K : PySem.W.Frag} {mg : Str → Option Value} {base : Heap} {CI CO : Addr} {f : Addr} {cdv : Value} {A : Around} {outer : List Env} {s : Shared} {H : Hp} {E : XK}
/-- wrong bundles -/
def wrongs : List (Option (List Bun)) := [none, some [(Str.ofString "tea", [(Str.ofString "tea", 1)])], some [(Str.ofString "k", [])], some [(Str.ofString "k", [(Str.ofString "k", 1)])], some [(Str.ofString "k", [(Str.ofString "tea", 0)])]]
theorem wrongs_no {its : List Str} (h1 : Str.ofString "tea" ∈ its) (h2 : Str.ofString "k" ∉ its) : ∀ o ∈ wrongs, bunsOkD its o = false := fun o ho => by
  unfold wrongs at ho
  simp only [List.mem_cons, List.not_mem_nil, or_false] at ho
  rcases ho with rfl | rfl | rfl | rfl | rfl
  · rfl
  · simp [bunsOkD, bunsOk, bunOk, h1]
  · simp [bunsOkD, bunsOk, bunOk]
  · simp [bunsOkD, bunsOk, bunOk, partOk, h2]
  · simp [bunsOkD, bunsOk, bunOk, partOk]
theorem wrongs_dom : ∀ o ∈ wrongs, ∀ bs, o = some bs → BunDom bs := fun o ho bs e => by
  have z : ∀ o ∈ wrongs, ∀ bs, o = some bs → (∀ b ∈ bs, (b.2.map (·.1)).Nodup ∧ b.1.length ≤ 100000 ∧ b.2.length ≤ 60) ∧ bs.length ≤ 1000 := by
    intro o ho bs e
    unfold wrongs at ho
    simp only [List.mem_cons, List.not_mem_nil, or_false] at ho
    rcases ho with rfl | rfl | rfl | rfl | rfl
    · cases e
    · cases e
      decide +kernel
    · cases e
      decide +kernel
    · cases e
      decide +kernel
    · cases e
      decide +kernel
  obtain ⟨z1, z2⟩ := z o ho bs e
  exact ⟨fun b hb => (z1 b hb).1, fun b hb => (z1 b hb).2.1, fun b hb => (z1 b hb).2.2, z2⟩
theorem law_wrong (B : Bi mg) (ei : ErrC K mg "BadItem" CI) (hr : Room 6 (A.deeper (envOfC "law" (defScope s_law) s.heap.objs.size f cdv))) (K__law_pick : Keeps P w K mg base CX0 2 "_law_pick" ["row", "things"] (spPick K)) (K_made_of : Keeps P w K mg base (L2N.CX P w) 6 "made_of" ["catalog", "bundles", "name", "count"] (spR CI domMade)) :
    ∃ tm, PSs (lawX P w K mg base f cdv A outer s H E) ((defBody s_law).drop 12) tm ∧ ∀ (r sc : Addr) (t : Cat) (bs : List Bun) (vc vi vb : V) (a0 a5 a6 a7 a8 a9 a10 a11 a12 a13 a14 a15 a16 a17 a18 a19 a20 a21 a22 : Option V) (D : Ends) (G H : Hp), LawSt K r sc t bs vc vi vb G H → (∀ H2, D.rt (.bl true) H2) →
      tm D [a0, some (.ref r), some vc, some vi, some vb, a5, a6, a7, a8, a9, a10, a11, a12, a13, a14, a15, a16, a17, a18, a19, a20, a21, a22] H := by
  refine ⟨_, (pss_cons (ps_set (i := 12) sc_law.nd rfl (.inl rfl) (pe_lst (pa_cons pe_non (pa_cons (pe_tup (pa_cons (pe_tup (pa_cons pe_str (pa_cons (pe_tup (pa_cons (pe_tup (pa_cons pe_str (pa_cons pe_int pa_nil))) pa_nil)) pa_nil))) pa_nil)) (pa_cons (pe_tup (pa_cons (pe_tup (pa_cons pe_str (pa_cons (pe_tup pa_nil) pa_nil))) pa_nil)) (pa_cons (pe_tup (pa_cons (pe_tup (pa_cons pe_str (pa_cons (pe_tup (pa_cons (pe_tup (pa_cons pe_str (pa_cons pe_int pa_nil))) pa_nil)) pa_nil))) pa_nil)) (pa_cons (pe_tup (pa_cons (pe_tup (pa_cons pe_str (pa_cons (pe_tup (pa_cons (pe_tup (pa_cons (pe_ix ix_list (pv 3) pe_int (fun _ _ => rfl)) (pa_cons pe_int pa_nil))) pa_nil)) pa_nil))) pa_nil)) pa_nil)))))))
    (pss_cons (L2N.ps_try_as (i := 16) (Wout := fun _ _ _ _ => False) rfl rfl sc_law.nd rfl rfl ⟨rfl, by decide, Or.inl ei.g⟩ takes0N
      (fun W pn xe tk _ => (pss_one (ps_expr (pe_callR K_made_of (hr.mono (by omega)) tk (pa_cons (pv 2) (pa_cons (pe_callD K__law_pick (hr.mono (by omega)) (pa_cons (pv 1) (pa_cons (pv 12) pa_nil))) (pa_cons (pe_ix (r := rIxL K) ix_list (pv 3) pe_int (fun _ _ => rfl)) (pa_cons pe_int pa_nil))))))))
      (fun a oe cls d pn hz hf => (pss_one (ps_ret pe_bl))))
    (pss_one (ps_ret pe_bl)))), fun r sc t bs vc vi vb a0 a5 a6 a7 a8 a9 a10 a11 a12 a13 a14 a15 a16 a17 a18 a19 a20 a21 a22 D G H l q => ?_⟩
  have tea : Str.ofString "tea" ∈ t.its := List.mem_of_getElem? l.tea
  have i0 : ∀ {σ : L2.St} {G1 : Hp}, σ[3]? = some (some vi) → Ex G G1 → EvD (tOp (rIxL K) (tVar 3) (tC (.int 0))) σ G1 (.str (Str.ofString "tea")) := fun {σ G1} hs e => evd_op (evd_at l.di e hs) (evd_int (i := ((0 : Nat) : Int))) (r_ixL (by
    unfold strL
    rw [List.getElem?_map, l.tea]
    rfl))
  have odd : EvD (tLst (tCons (tC .non) (tCons (tTup (tCons (tTup (tCons (tC (.str (Str.ofString "tea"))) (tCons (tTup (tCons (tTup (tCons (tC (.str (Str.ofString "tea"))) (tCons (tC (.int 1)) tNil))) tNil)) tNil))) tNil)) (tCons (tTup (tCons (tTup (tCons (tC (.str (Str.ofString "k"))) (tCons (tTup tNil) tNil))) tNil)) (tCons (tTup (tCons (tTup (tCons (tC (.str (Str.ofString "k"))) (tCons (tTup (tCons (tTup (tCons (tC (.str (Str.ofString "k"))) (tCons (tC (.int 1)) tNil))) tNil)) tNil))) tNil)) (tCons (tTup (tCons (tTup (tCons (tC (.str (Str.ofString "k"))) (tCons (tTup (tCons (tTup (tCons (tOp (rIxL K) (tVar 3) (tC (.int 0))) (tCons (tC (.int 0)) tNil))) tNil)) tNil))) tNil)) tNil))))))
      [a0, some (.ref r), some vc, some vi, some vb, a5, a6, a7, a8, a9, a10, a11, a12, a13, a14, a15, a16, a17, a18, a19, a20, a21, a22] G (.list (wrongs.map bunsD)) :=
    evd_lst (ea_cons evd_non (ea_cons (evd_tup (ea_cons (evd_tup (ea_cons evd_str (ea_cons (evd_tup (ea_cons (evd_tup (ea_cons evd_str (ea_cons evd_int ea_nil)) (by show 2 ≤ 100000; decide)) ea_nil) (by show 1 ≤ 100000; decide)) ea_nil)) (by show 2 ≤ 100000; decide)) ea_nil) (by show 1 ≤ 100000; decide))
      (ea_cons (evd_tup (ea_cons (evd_tup (ea_cons evd_str (ea_cons (evd_tup ea_nil (by show 0 ≤ 100000; decide)) ea_nil)) (by show 2 ≤ 100000; decide)) ea_nil) (by show 1 ≤ 100000; decide))
      (ea_cons (evd_tup (ea_cons (evd_tup (ea_cons evd_str (ea_cons (evd_tup (ea_cons (evd_tup (ea_cons evd_str (ea_cons evd_int ea_nil)) (by show 2 ≤ 100000; decide)) ea_nil) (by show 1 ≤ 100000; decide)) ea_nil)) (by show 2 ≤ 100000; decide)) ea_nil) (by show 1 ≤ 100000; decide))
      (ea_cons (evd_tup (ea_cons (evd_tup (ea_cons evd_str (ea_cons (evd_tup (ea_cons (evd_tup (ea_cons (i0 rfl (Ex.refl _)) (ea_cons evd_int ea_nil)) (by show 2 ≤ 100000; decide)) ea_nil) (by show 1 ≤ 100000; decide)) ea_nil)) (by show 2 ≤ 100000; decide)) ea_nil) (by show 1 ≤ 100000; decide))
      ea_nil))))) (by show 5 ≤ 100000; decide)
  refine go_set (odd H l.st.s _ fun v12 G1 H1 g1 n12 => ?_)
  have l1 := l.gr g1
  refine go_seq (go_drop (go_callS (go_cons (go_var rfl (go_cons ?_)))))
  refine evr_pick (i := 1) rfl (evd_at (i := 12) n12) (by decide) (by decide) l1.st fun u d G2 H2 hd nd q2 => ?_
  have l2 := l1.to q2
  obtain ⟨o, ho, rfl⟩ := List.mem_map.mp hd
  refine go_cons (i0 rfl (g1.g.trans q2.g) H2 l2.st.s _ fun v0 G3 H3 g3 n3 => ?_)
  have l3 := l2.gr g3
  have no := wrongs_no tea l.k o ho
  have made : domMade [Cat.d t, bunsD o, .str (Str.ofString "tea"), .int 1] none := ⟨t, o, Str.ofString "tea", 1, rfl, ⟨l.cat, wrongs_dom o ho, fun bs' _ => by
    unfold wantB
    rw [keys_tabF, decide_eq_true (List.mem_append_left _ tea)]
    rfl⟩, by
    unfold madeF
    cases o with
    | none => rfl
    | some bs' =>
      simp only [no]
      rfl⟩
  refine go_cons (go_c (go_nil ?_))
  refine ⟨_, none, G3, l3.st.s, .cons l3.dc (.cons (Dn.mono g3.g _ nd) (.cons n3 (.cons (.int 1) .nil))), made, (fun c z => nomatch z), fun _ H4 x => ?_⟩
  refine ⟨true, ei.one, fun _ a ha => ?_, (fun z => nomatch z)⟩
  exact q H4
end
end Sh

set_option Elab.async false
set_option linter.all false
set_option maxRecDepth 100000
set_option maxHeartbeats 1000000
/-! the law: orders that are none -/
namespace Sh
open PySem PySem.Spec L2
open PyProof.Rows hiding St
open Evl (Ex)
section
variable {P : Program} {w : World} {K : PySem.W.Frag} {mg : Str → Option Value} {base : Heap} {CI CO : Addr} {f : Addr} {cdv : Value} {A : Around} {outer : List Env} {s : Shared} {H : Hp} {E : XK}
/-- wants that are none -/
def odds : List (Option (List (Str × Int))) := [none, some [], some [(Str.ofString "none", 1)], some [(Str.ofString "tea", 0)], some [(Str.ofString "tea", 100)]]
theorem odds_no {t : Tab} (h : Str.ofString "none" ∉ keys t) : ∀ o ∈ odds, wantsOk t o = false := fun o ho => by
  unfold odds at ho
  simp only [List.mem_cons, List.not_mem_nil, or_false] at ho
  rcases ho with rfl | rfl | rfl | rfl | rfl
  · rfl
  · simp [wantsOk]
  · simp [wantsOk, wantB, h]
  · simp [wantsOk, wantB]
  · simp [wantsOk, wantB]
theorem odds_few : ∀ o ∈ odds, ∀ ws, o = some ws → ws.length ≤ 1000 := fun o ho ws e => by
  unfold odds at ho
  simp only [List.mem_cons, List.not_mem_nil, or_false] at ho
  rcases ho with rfl | rfl | rfl | rfl | rfl <;> cases e <;> decide
/-- the region's expression -/
theorem reg_at {K : PySem.W.Frag} {r sc : Addr} {t : Cat} {bs : List Bun} {vc vi vb : V} {G H : Hp} (l : LawSt K r sc t bs vc vi vb G H) : ∃ rg, ∀ {σ : L2.St} {G1 : Hp}, σ[2]? = some (some vc) → Ex G G1 → EvD (tOp (rIxT K) (tOp (rIxT K) (tVar 2) (tC (.int 1))) (tC (.int 0))) σ G1 (.str rg) := by
  obtain ⟨rg, hrg⟩ := l.reg
  refine ⟨rg, fun {σ G1} hs e => evd_op (evd_op (evd_at l.dc e hs) (evd_int (i := ((1 : Nat) : Int))) (r_ixT (c := .tuple (strL t.rs)) rfl)) (evd_int (i := ((0 : Nat) : Int))) (r_ixT ?_)⟩
  unfold strL
  rw [List.getElem?_map, hrg]
  rfl
theorem law_odd (B : Bi mg) (eo : ErrC K mg "BadOrder" CO) (hr : Room 6 (A.deeper (envOfC "law" (defScope s_law) s.heap.objs.size f cdv))) (K__law_pick : Keeps P w K mg base CX0 2 "_law_pick" ["row", "things"] (spPick K))
    (K_opened : Keeps P w K mg base (L2N.CX P w) 6 "opened" ["catalog", "bundles", "name", "region", "wants", "by", "worth"] (spR CO domOpen))
    (rest : ∃ tm, PSs (lawX P w K mg base f cdv A outer s H E) ((defBody s_law).drop 12) tm ∧ ∀ (r sc : Addr) (t : Cat) (bs : List Bun) (vc vi vb : V) (a0 a5 a6 a7 a8 a9 a10 a11 a12 a13 a14 a15 a16 a17 a18 a19 a20 a21 a22 : Option V) (D : Ends) (G H : Hp), LawSt K r sc t bs vc vi vb G H → (∀ H2, D.rt (.bl true) H2) →
      tm D [a0, some (.ref r), some vc, some vi, some vb, a5, a6, a7, a8, a9, a10, a11, a12, a13, a14, a15, a16, a17, a18, a19, a20, a21, a22] H) :
    ∃ tm, PSs (lawX P w K mg base f cdv A outer s H E) ((defBody s_law).drop 11) tm ∧ ∀ (r sc : Addr) (t : Cat) (bs : List Bun) (vc vi vb : V) (a0 a5 a6 a7 a8 a9 a10 a11 a12 a13 a14 a15 a16 a17 a18 a19 a20 a21 a22 : Option V) (D : Ends) (G H : Hp), LawSt K r sc t bs vc vi vb G H → (∀ H2, D.rt (.bl true) H2) →
      tm D [a0, some (.ref r), some vc, some vi, some vb, a5, a6, a7, a8, a9, a10, a11, a12, a13, a14, a15, a16, a17, a18, a19, a20, a21, a22] H := by
  obtain ⟨tm, htm, pr⟩ := rest
  refine ⟨_, (pss_cons (L2N.ps_try_as (i := 16) (Wout := fun _ _ _ _ => False) rfl rfl sc_law.nd rfl rfl ⟨rfl, by decide, Or.inl eo.g⟩ takes0N
      (fun W pn xe tk _ => (pss_cons (ps_set (i := 17) sc_law.nd rfl (.inl rfl) (pe_lst (pa_cons pe_non (pa_cons (pe_tup pa_nil) (pa_cons (pe_tup (pa_cons (pe_tup (pa_cons pe_str (pa_cons pe_int pa_nil))) pa_nil)) (pa_cons (pe_tup (pa_cons (pe_tup (pa_cons (pe_ix (r := rIxL K) ix_list (pv 3) pe_int (fun _ _ => rfl)) (pa_cons pe_int pa_nil))) pa_nil)) (pa_cons (pe_tup (pa_cons (pe_tup (pa_cons (pe_ix (r := rIxL K) ix_list (pv 3) pe_int (fun _ _ => rfl)) (pa_cons pe_int pa_nil))) pa_nil)) pa_nil)))))))
    (pss_cons (ps_expr (pe_callR K_opened (hr.mono (by omega)) tk (pa_cons (pv 2) (pa_cons (pv 4) (pa_cons pe_str (pa_cons (pe_ix (r := rIxT K) ix_tup (pe_ix (r := rIxT K) ix_tup (pv 2) pe_int (fun _ _ => rfl)) pe_int (fun _ _ => rfl)) (pa_cons (pe_callD K__law_pick (hr.mono (by omega)) (pa_cons (pv 1) (pa_cons (pv 17) pa_nil))) (pa_cons pe_int (pa_cons pe_int pa_nil)))))))))
    (pss_one (ps_ret pe_bl)))))
      (fun a oe cls d pn hz hf => (pss_one (ps_set (i := 11) sc_law.nd rfl (.inl rfl) (pe_tup pa_nil)))))
    (by exact htm)), fun r sc t bs vc vi vb a0 a5 a6 a7 a8 a9 a10 a11 a12 a13 a14 a15 a16 a17 a18 a19 a20 a21 a22 D G H l q => ?_⟩
  have i0 : ∀ {σ : L2.St} {G1 : Hp}, σ[3]? = some (some vi) → Ex G G1 → EvD (tOp (rIxL K) (tVar 3) (tC (.int 0))) σ G1 (.str (Str.ofString "tea")) := fun {σ G1} hs e => evd_op (evd_at l.di e hs) (evd_int (i := ((0 : Nat) : Int))) (r_ixL (by
    unfold strL
    rw [List.getElem?_map, l.tea]
    rfl))
  obtain ⟨rg, hrg⟩ := reg_at (K := K) l
  have odd : EvD (tLst (tCons (tC .non) (tCons (tTup tNil) (tCons (tTup (tCons (tTup (tCons (tC (.str (Str.ofString "none"))) (tCons (tC (.int 1)) tNil))) tNil)) (tCons (tTup (tCons (tTup (tCons (tOp (rIxL K) (tVar 3) (tC (.int 0))) (tCons (tC (.int 0)) tNil))) tNil)) (tCons (tTup (tCons (tTup (tCons (tOp (rIxL K) (tVar 3) (tC (.int 0))) (tCons (tC (.int 100)) tNil))) tNil)) tNil))))))
      [a0, some (.ref r), some vc, some vi, some vb, a5, a6, a7, a8, a9, a10, a11, a12, a13, a14, a15, a16, a17, a18, a19, a20, a21, a22] G (.list (odds.map wantsD)) :=
    evd_lst (ea_cons evd_non (ea_cons (evd_tup ea_nil (by show 0 ≤ 100000; decide))
      (ea_cons (evd_tup (ea_cons (evd_tup (ea_cons evd_str (ea_cons evd_int ea_nil)) (by show 2 ≤ 100000; decide)) ea_nil) (by show 1 ≤ 100000; decide))
      (ea_cons (evd_tup (ea_cons (evd_tup (ea_cons (i0 rfl (Ex.refl _)) (ea_cons evd_int ea_nil)) (by show 2 ≤ 100000; decide)) ea_nil) (by show 1 ≤ 100000; decide))
      (ea_cons (evd_tup (ea_cons (evd_tup (ea_cons (i0 rfl (Ex.refl _)) (ea_cons evd_int ea_nil)) (by show 2 ≤ 100000; decide)) ea_nil) (by show 1 ≤ 100000; decide))
      ea_nil))))) (by show 5 ≤ 100000; decide)
  refine go_seq (go_set (odd H l.st.s _ fun v17 G1 H1 g1 n17 => ?_))
  have l1 := l.gr g1
  refine go_seq (go_drop (go_callS (go_cons (go_var rfl (go_cons (go_var rfl (go_cons (go_c (go_cons ?_)))))))))
  refine hrg rfl g1.g H1 l1.st.s _ fun v3 G2 H2 g2 n3 => ?_
  have l2 := l1.gr g2
  refine go_cons ?_
  refine evr_pick (i := 1) rfl (evd_at (i := 17) (Dn.mono g2.g _ n17)) (by decide) (by decide) l2.st fun u d G3 H3 hd nd q3 => ?_
  have l3 := l2.to q3
  obtain ⟨o, ho, rfl⟩ := List.mem_map.mp hd
  have no := odds_no (t := tabF t.its bs) (by rw [keys_tabF]; exact l.none) o ho
  have op : domOpen [Cat.d t, .tuple (bs.map bunD), .str (Str.ofString "o"), .str rg, wantsD o, .int 5, .int 2] none := ⟨t, bs, o, _, _, _, _, rfl, ⟨l.cat, l.bd, l.okD, odds_few o ho⟩, by
    unfold openF
    cases o with
    | none => rfl
    | some ws =>
      simp only [no]
      rfl⟩
  refine go_cons (go_c (go_cons (go_c (go_nil ?_))))
  refine ⟨_, none, G3, l3.st.s, .cons l3.dc (.cons l3.db.dn (.cons (.str _) (.cons (Dn.mono q3.g _ n3) (.cons nd (.cons (.int 5) (.cons (.int 2) .nil)))))), op, (fun c z => nomatch z), fun _ H4 x => ?_⟩
  refine ⟨true, eo.one, fun _ a ha => ?_, (fun z => nomatch z)⟩
  have l4 := l3.gr (Gr.grow l3.st.s x)
  refine (evd_tup ea_nil (by show 0 ≤ 100000; decide) : EvD (tTup tNil) _ G3 (.tuple [])) H4 l4.st.s _ fun v11 G5 H5 g5 n11 => ?_
  exact pr r sc t bs vc vi vb _ _ _ _ _ _ _ _ _ _ _ _ _ _ _ _ _ _ _ D G5 H5 (l4.gr g5) q
end
end Sh

set_option Elab.async false
set_option linter.all false
set_option maxRecDepth 100000
set_option maxHeartbeats 1000000
/-! the law: an order that is opened -/
namespace Sh
open PySem PySem.Spec L2
open PyProof.Rows hiding St
open Evl (Ex)
theorem go_if {tt : TT} {t u : TS} {D : Ends} {σ : L2.St} {G H : Hp} {b : Bool} (h : EvT tt σ G b) (e : Ex G H) (k1 : b = true → ∀ G2 H2, Gr G H G2 H2 → t D σ H2) (k2 : b = false → ∀ G2 H2, Gr G H G2 H2 → u D σ H2) : tIfS tt t u D σ H := h H e _ fun G2 H2 g => by
  cases b with
  | true => exact k1 rfl G2 H2 g
  | false => exact k2 rfl G2 H2 g
theorem canLay_ints : ∀ xs : List Int, PyData.canLayAll0 (intL xs) = true
  | [] => rfl
  | x :: xs => by
    show (PyData.canLay0 (.int x) && PyData.canLayAll0 (intL xs)) = true
    rw [canLay_ints xs]
    rfl
theorem depth_ints : ∀ xs : List Int, PyData.depthAll (intL xs) = 0
  | [] => rfl
  | x :: xs => by
    show max (PyData.depth (.int x)) (PyData.depthAll (intL xs)) = 0
    rw [depth_ints xs]
    rfl
theorem shaped_ints (xs : List Int) : SeqAt.shaped (.list (intL xs)) = true := by
  show (PyData.canLayAll0 (intL xs) && decide (PyData.depthAll (intL xs) + 1 ≤ 64)) = true
  rw [canLay_ints, depth_ints]
  rfl
theorem eqv_nil (xs : List Int) : PyData.eqv (.list (intL xs)) (.list []) = xs.isEmpty := by
  cases xs with
  | nil => rfl
  | cons x xs => rfl
def bigD : D → Bool
  | .int i => decide (i > 99)
  | _ => false
def bigs (xs : List Int) : List Int := xs.filter fun i => decide (i > 99)
theorem bigs_d (xs : List Int) : ((intL xs).filter bigD).map id = intL (bigs xs) := by
  unfold intL bigs
  rw [filter_mapD PyData.int bigD (fun i => decide (i > 99)) xs (fun _ _ => rfl), List.map_id]
theorem zip_snd {α : Type} : ∀ {xs : List α} {ys : List Int} {y : Int}, xs.length = ys.length → y ∈ ys → ∃ p ∈ xs.zip ys, p.2 = y
  | [], [], _, _, h => by cases h
  | [], _ :: _, _, e, _ => by cases e
  | _ :: _, [], _, _, h => by cases h
  | x :: xs, z :: ys, y, e, h => by
    rcases List.mem_cons.mp h with rfl | h
    · exact ⟨(x, y), List.mem_cons_self, rfl⟩
    · obtain ⟨p, h1, h2⟩ := zip_snd (xs := xs) (ys := ys) (y := y) (by simpa using e) h
      exact ⟨p, List.mem_cons_of_mem _ h1, h2⟩
theorem many_yes {its : List Str} {t : Tab} {ws : List (Str × Int)} (h : manyOk (needF its t ws) = true) : bigs (countsF t its.length ws) = [] := by
  unfold bigs
  rw [List.filter_eq_nil_iff]
  intro i hi
  rw [decide_eq_true_eq]
  intro big
  obtain ⟨p, hp, rfl⟩ := zip_snd (xs := its) (by rw [countsF_len]) hi
  have mem : p ∈ needF its t ws := by
    unfold needF
    rw [List.mem_filter, decide_eq_true_eq]
    exact ⟨hp, by omega⟩
  have a : (needF its t ws).any (fun p => decide (p.2 > 99)) = true := List.any_eq_true.mpr ⟨p, mem, decide_eq_true big⟩
  unfold manyOk at h
  rw [a, Bool.or_true] at h
  cases h
theorem many_no {its : List Str} {t : Tab} {ws : List (Str × Int)} (h : manyOk (needF its t ws) = false) (few : its.length ≤ 3) : bigs (countsF t its.length ws) ≠ [] := fun e => by
  have l3 := needF_len its t ws
  have d3 : decide (((needF its t ws).length : Int) > 3) = false := decide_eq_false (by omega)
  unfold manyOk at h
  rw [d3, Bool.false_or, Bool.not_eq_false'] at h
  obtain ⟨p, hp, big⟩ := List.any_eq_true.mp h
  unfold needF at hp
  rw [List.mem_filter] at hp
  have m : p.2 ∈ countsF t its.length ws := (List.of_mem_zip hp.1).2
  have b : p.2 ∈ bigs (countsF t its.length ws) := by
    unfold bigs
    rw [List.mem_filter]
    exact ⟨m, big⟩
  rw [e] at b
  cases b
theorem lots_okA {ps : List (Str × Int)} (h : ps.length ≤ 1000) (x y : Str) : okA 4 (.tuple [.str x, .str y, .tuple (ps.map lotD), .int 5, .int 2]) = true := by
  have a : okA 3 (.tuple (ps.map lotD)) = true := by
    show (decide ((ps.map lotD).length ≤ 1000) && (ps.map lotD).all (okA 2)) = true
    rw [List.length_map, decide_eq_true h, Bool.true_and, List.all_map, List.all_eq_true]
    intro p _
    rfl
  show (decide (5 ≤ 1000) && (true && (true && (okA 3 (.tuple (ps.map lotD)) && (true && (true && true)))))) = true
  rw [a]
  rfl
section
variable {P : Program} {w : World} {K : PySem.W.Frag} {mg : Str → Option Value} {base : Heap} {CI CO : Addr} {f : Addr} {cdv : Value} {A : Around} {outer : List Env} {s : Shared} {H : Hp} {E : XK}
/-- the wants that are drawn -/
structure WantsOk (t : Cat) (bs : List Bun) (ws : List (Str × Int)) : Prop where
  lo : 1 ≤ ws.length
  hi : ws.length ≤ 3
  mem : ∀ q ∈ ws, q.1 ∈ t.its ++ bs.map (·.1)
  one : ∀ q ∈ ws, 1 ≤ q.2
  two : ∀ q ∈ ws, q.2 ≤ 2
theorem WantsOk.yes {t : Cat} {bs : List Bun} {ws : List (Str × Int)} (h : WantsOk t bs ws) : wantsOk (tabF t.its bs) (some ws) = true := by
  have h1 := h.lo
  have h2 := h.hi
  show ((decide (1 ≤ (ws.length : Int)) && decide ((ws.length : Int) ≤ 6)) && ws.all (wantB (tabF t.its bs))) = true
  rw [decide_eq_true (by omega), decide_eq_true (by omega), Bool.true_and, Bool.true_and, List.all_eq_true]
  intro q hq
  have h3 := h.one q hq
  have h4 := h.two q hq
  unfold wantB
  rw [keys_tabF, decide_eq_true (h.mem q hq), decide_eq_true h3, decide_eq_true (by omega)]
  rfl
theorem law_told (B : Bi mg) (eo : ErrC K mg "BadOrder" CO) (hr : Room 6 (A.deeper (envOfC "law" (defScope s_law) s.heap.objs.size f cdv))) (K__law_alike : Keeps P w K mg base CX0 5 "_law_alike" ["found", "due"] (spD (domAlike 4)))
    (K_opened : Keeps P w K mg base (L2N.CX P w) 6 "opened" ["catalog", "bundles", "name", "region", "wants", "by", "worth"] (spR CO domOpen))
    (rest : ∃ tm, PSs (lawX P w K mg base f cdv A outer s H E) ((defBody s_law).drop 11) tm ∧ ∀ (r sc : Addr) (t : Cat) (bs : List Bun) (vc vi vb : V) (a0 a5 a6 a7 a8 a9 a10 a11 a12 a13 a14 a15 a16 a17 a18 a19 a20 a21 a22 : Option V) (D : Ends) (G H : Hp), LawSt K r sc t bs vc vi vb G H → (∀ H2, D.rt (.bl true) H2) →
      tm D [a0, some (.ref r), some vc, some vi, some vb, a5, a6, a7, a8, a9, a10, a11, a12, a13, a14, a15, a16, a17, a18, a19, a20, a21, a22] H) :
    ∃ tm, PSs (lawX P w K mg base f cdv A outer s H E) ((defBody s_law).drop 10) tm ∧ ∀ (r sc : Addr) (t : Cat) (bs : List Bun) (ws : List (Str × Int)) (vc vi vb vw vs vd : V) (a0 a5 a6 a7 a10 a12 a13 a14 a15 a16 a17 a18 a19 a20 a21 a22 : Option V) (D : Ends) (G H : Hp), LawSt K r sc t bs vc vi vb G H → WantsOk t bs ws → Dn G vw (.tuple (ws.map pairD)) → Dn G vs (.list (intL (countsF (tabF t.its bs) t.its.length ws))) → Dn G vd (.tuple ((needF t.its (tabF t.its bs) ws).map lotD)) → (∀ H2, D.rt (.bl true) H2) →
      tm D [a0, some (.ref r), some vc, some vi, some vb, a5, a6, a7, some vw, some vs, a10, some vd, a12, a13, a14, a15, a16, a17, a18, a19, a20, a21, a22] H := by
  obtain ⟨tm, htm, pr⟩ := rest
  refine ⟨_, (pss_cons (L2N.ps_try_as (i := 16) (Wout := fun _ _ _ _ => False) rfl rfl sc_law.nd rfl rfl ⟨rfl, by decide, Or.inl eo.g⟩ takes0N
      (fun W pn xe tk _ => (pss_cons (ps_set (i := 15) sc_law.nd rfl (.inl rfl) (pe_callR K_opened (hr.mono (by omega)) tk (pa_cons (pv 2) (pa_cons (pv 4) (pa_cons pe_str (pa_cons (pe_ix (r := rIxT K) ix_tup (pe_ix (r := rIxT K) ix_tup (pv 2) pe_int (fun _ _ => rfl)) pe_int (fun _ _ => rfl)) (pa_cons (pv 8) (pa_cons pe_int (pa_cons pe_int pa_nil)))))))))
    (pss_one (ps_if (PW.pt (pw_or (pt_not (pt_val (pe_callD K__law_alike (hr.mono (by omega)) (pa_cons (pv 15) (pa_cons (pe_tup (pa_cons pe_str (pa_cons (pe_ix (r := rIxT K) ix_tup (pe_ix (r := rIxT K) ix_tup (pv 2) pe_int (fun _ _ => rfl)) pe_int (fun _ _ => rfl)) (pa_cons (pv 11) (pa_cons pe_int (pa_cons pe_int pa_nil)))))) pa_nil))))) (pw_or1 (pt_cmpR (r := rNeD K) (op_neD hr.units) (by exact (pe_lc (own := [("many", 19)]) (g := gName 19) (wi := iList K (tVar 9)) rfl sc_law.nd (pi_list (pv 9)) (blkOk_by (by kernel_rfl)) (fun _ _ _ _ _ => (pg_name (i := 19) sc_law.nd rfl (.inl rfl))) (fun _ _ _ _ _ => pts_one (pt_cmpR op_gt (pv 19) pe_int (nomark _))) (fun _ _ _ _ _ => (pv 19)))) (pe_lst pa_nil) (nomark _))))) (pss_one (ps_ret pe_bl)) pss_nil))))
      (fun a oe cls d pn hz hf => (pss_one (ps_if (pt_cmpR (r := rEqD K) (op_eqD hr.units) (by exact (lcHot (wi := iList K (tVar 9)) (own := [("many", 19)]) (g := gName 19) rfl (hot_of (X := (cxOf CX0 P w K mg base ["script", "row", "catalog", "items", "bundles", "at", "names", "name", "wants", "sums", "count", "due", "wrong", "parts", "turn", "told", "e", "odd", "item", "many", "one", "two", "bundle"] "law" (defScope s_law) f cdv A outer s H E).nox) (a := a) (oe := oe) (cls := cls) (d := d) (pn := pn) hz hf) sc_law.nd (pv 9) (blkOk_by (by kernel_rfl)) (fun _ _ _ _ _ => (pg_name (i := 19) sc_law.nd rfl (.inl rfl))) (fun _ _ _ _ _ => pts_one (pt_cmpR op_gt (pv 19) pe_int (nomark _))) (fun _ _ _ _ _ => (pv 19)))) (pe_lst pa_nil) (nomark _)) (pss_one (ps_ret pe_bl)) pss_nil))))
    (by exact htm)), fun r sc t bs ws vc vi vb vw vs vd a0 a5 a6 a7 a10 a12 a13 a14 a15 a16 a17 a18 a19 a20 a21 a22 D G H l wk dw dvs dd q => ?_⟩
  obtain ⟨rg, hrg⟩ := reg_at (K := K) l
  have its3 := l.its3
  have len3 := needF_len t.its (tabF t.its bs) ws
  have lens : (intL (countsF (tabF t.its bs) t.its.length ws)).length ≤ 40000 := by
    unfold intL
    rw [List.length_map, countsF_len]
    omega
  have bigT : ∀ {σ : L2.St} {G1 : Hp}, σ[9]? = some (some vs) → (∀ x, (wipe ((wipe σ [19]).set 19 (some x)) [19]) = wipe σ [19]) → (∀ x, ((wipe σ [19]).set 19 (some x))[19]? = some (some x)) → Ex G G1 → EvD (tLc (iList K (tVar 9)) (gName 19) (tTest (tOp (rI0 fun i j => .bl (decide (j < i))) (tVar 19) (tC (.int 99)))) (tVar 19) [19]) σ G1 (.list (intL (bigs (countsF (tabF t.its bs) t.its.length ws)))) := fun {σ G1} hs hw h19 e => by
    refine evd_is (evd_lcNF (f := bigD) (r := id) (ei_list (evd_at dvs e hs)) lens hw (fun d hd x G2 e2 nx => ?_) (fun d hd _ x G2 e2 nx => evd_at nx (Ex.refl _) (h19 x))) (by rw [bigs_d])
    obtain ⟨i, _, rfl⟩ := List.mem_map.mp hd
    exact evt_test (evd_op (evd_at nx (Ex.refl _) (h19 x)) evd_int (r_I0 fun _ => .bl _))
  refine go_seq (go_seq (go_set (go_callS (go_cons (go_var rfl (go_cons (go_var rfl (go_cons (go_c (go_cons ?_))))))))))
  refine hrg rfl (Ex.refl _) H l.st.s _ fun v3 G2 H2 g2 n3 => ?_
  have l2 := l.gr g2
  refine go_cons (go_var rfl (go_cons (go_c (go_cons (go_c (go_nil ?_))))))
  refine ⟨_, (openF t bs (some ws)).map fun ps => .tuple [.str (Str.ofString "o"), .str rg, .tuple (ps.map lotD), .int 5, .int 2], G2, l2.st.s, .cons l2.dc (.cons l2.db.dn (.cons (.str _) (.cons n3 (.cons (Dn.mono g2.g _ dw) (.cons (.int 5) (.cons (.int 2) .nil)))))), ⟨t, bs, some ws, .str (Str.ofString "o"), .str rg, .int 5, .int 2, rfl, ⟨l.cat, l.bd, l.okD, fun ws' e => by
    cases e
    have := wk.hi
    omega⟩, rfl⟩, (fun c hc v15 G3 H3 g3 n15 => ?_), fun ho H4 x => ?_⟩
  · -- it is opened
    have l3 := l2.gr g3
    have e3 := g2.g.trans g3.g
    have mk : manyOk (needF t.its (tabF t.its bs) ws) = true := by
      cases z : manyOk (needF t.its (tabF t.its bs) ws) with
      | true => rfl
      | false =>
        unfold openF at hc
        simp only [wk.yes, z, if_true] at hc
        cases hc
    have hc2 : c = .tuple [.str (Str.ofString "o"), .str rg, .tuple ((needF t.its (tabF t.its bs) ws).map lotD), .int 5, .int 2] := by
      unfold openF at hc
      simp only [wk.yes, mk, if_true] at hc
      exact (Option.some.inj hc).symm
    subst hc2
    have none := many_yes mk
    refine go_if (G := G3) (b := false) (evt_or (a := false) (b := false) (evt_not (b := true) (evt_B (evd_call (ea_cons (evd_at n15) (ea_cons (evd_tup (ea_cons evd_str (ea_cons (hrg rfl e3) (ea_cons (evd_at (Dn.mono e3 _ dd)) (ea_cons evd_int (ea_cons evd_int ea_nil))))) (by show 5 ≤ 100000; decide)) ea_nil)) ⟨_, rfl, lots_okA (by omega) _ _, rfl⟩)))
      (fun _ => evt_test (evd_op (bigT rfl (fun _ => rfl) (fun _ => rfl) e3) (evd_lst ea_nil (by show 0 ≤ 100000; decide)) (r_neD (flat_ints _) rfl (shaped_ints _) (by decide +kernel) (by rw [eqv_nil, none]; rfl))))) l3.st.s (fun z => nomatch z) (fun _ G4 H4 g4 => ?_)
    exact pr r sc t bs vc vi vb _ _ _ _ _ _ _ _ _ _ _ _ _ _ _ _ _ _ _ D G4 H4 (l3.gr g4) q
  · -- it is none
    refine ⟨true, eo.one, fun _ a ha => ?_, (fun z => nomatch z)⟩
    have l4 := l2.gr (Gr.grow l2.st.s x)
    have mk : manyOk (needF t.its (tabF t.its bs) ws) = false := by
      cases z : manyOk (needF t.its (tabF t.its bs) ws) with
      | false => rfl
      | true =>
        unfold openF at ho
        simp only [wk.yes, z, if_true] at ho
        cases ho
    have some1 := many_no mk its3
    refine go_if (G := G2) (b := false) (evt_test (evd_op (bigT rfl (fun _ => rfl) (fun _ => rfl) g2.g) (evd_lst ea_nil (by show 0 ≤ 100000; decide)) (r_eqD (flat_ints _) rfl (shaped_ints _) (by decide +kernel) (by
      rw [eqv_nil]
      cases z : bigs (countsF (tabF t.its bs) t.its.length ws) with
      | nil => exact absurd z some1
      | cons _ _ => rfl)))) l4.st.s (fun z => nomatch z) (fun _ G5 H5 g5 => ?_)
    exact pr r sc t bs vc vi vb _ _ _ _ _ _ _ _ _ _ _ _ _ _ _ _ _ _ _ D G5 H5 (l4.gr g5) q
end
end Sh

set_option Elab.async false
set_option linter.all false
set_option maxRecDepth 100000
set_option maxHeartbeats 1000000
/-! the law: sums, what is due -/
namespace Sh
open PySem PySem.Spec L2
open PyProof.Rows hiding St
open Evl (Ex)
theorem foundF_one (t : Tab) (n : Nat) (ps : List (Str × Int)) : foundF t n ps 1 = countsF t n ps := by
  unfold foundF countsF
  exact List.map_congr_left fun p _ => Int.mul_one _
theorem LawSt.tab {K : PySem.W.Frag} {r sc : Addr} {t : Cat} {bs : List Bun} {vc vi vb : V} {G H : Hp} (l : LawSt K r sc t bs vc vi vb G H) : TabDom t.its bs := ⟨l.cat.its.nd, by have := l.its3; omega, l.ok, by have := l.few; omega⟩
theorem LawSt.all3 {K : PySem.W.Frag} {r sc : Addr} {t : Cat} {bs : List Bun} {vc vi vb : V} {G H : Hp} (l : LawSt K r sc t bs vc vi vb G H) : bs.take 3 = bs := List.take_of_length_le l.few
section
variable {P : Program} {w : World} {K : PySem.W.Frag} {mg : Str → Option Value} {base : Heap} {CI CO : Addr} {f : Addr} {cdv : Value} {A : Around} {outer : List Env} {s : Shared} {H : Hp} {E : XK}
theorem go_for {wi : TI} {g : TG} {tb u : TS} {D : Ends} {σ : L2.St} {H : Hp} (h : tFor wi g tb { D with nx := u D } σ H) : tSeq (tFor wi g tb) u D σ H := h
theorem go_set1 {te : TE} {i : Nat} {D : Ends} {σ : L2.St} {H : Hp} (h : te σ H fun v H2 => D.nx (σ.set i (some v)) H2) : tAsg te (gName i) D σ H := h
theorem law_due (B : Bi mg) (hr : Room 6 (A.deeper (envOfC "law" (defScope s_law) s.heap.objs.size f cdv))) (K__law_made : Keeps P w K mg base CX0 4 "_law_made" ["items", "bundles", "name", "count"] (spMade 3))
    (rest : ∃ tm, PSs (lawX P w K mg base f cdv A outer s H E) ((defBody s_law).drop 10) tm ∧ ∀ (r sc : Addr) (t : Cat) (bs : List Bun) (ws : List (Str × Int)) (vc vi vb vw vs vd : V) (a0 a5 a6 a7 a10 a12 a13 a14 a15 a16 a17 a18 a19 a20 a21 a22 : Option V) (D : Ends) (G H : Hp), LawSt K r sc t bs vc vi vb G H → WantsOk t bs ws → Dn G vw (.tuple (ws.map pairD)) → Dn G vs (.list (intL (countsF (tabF t.its bs) t.its.length ws))) → Dn G vd (.tuple ((needF t.its (tabF t.its bs) ws).map lotD)) → (∀ H2, D.rt (.bl true) H2) →
      tm D [a0, some (.ref r), some vc, some vi, some vb, a5, a6, a7, some vw, some vs, a10, some vd, a12, a13, a14, a15, a16, a17, a18, a19, a20, a21, a22] H) :
    ∃ tm, PSs (lawX P w K mg base f cdv A outer s H E) ((defBody s_law).drop 7) tm ∧ ∀ (r sc : Addr) (t : Cat) (bs : List Bun) (ws : List (Str × Int)) (vc vi vb vw : V) (a0 a5 a6 a7 a9 a10 a11 a12 a13 a14 a15 a16 a17 : Option V) (D : Ends) (G H : Hp), LawSt K r sc t bs vc vi vb G H → WantsOk t bs ws → Dn G vw (.tuple (ws.map pairD)) → (∀ H2, D.rt (.bl true) H2) →
      tm D [a0, some (.ref r), some vc, some vi, some vb, a5, a6, a7, some vw, a9, a10, a11, a12, a13, a14, a15, a16, a17, none, none, none, none, none] H := by
  obtain ⟨tm, htm, pr⟩ := rest
  refine ⟨_, (pss_cons (ps_set (i := 9) sc_law.nd rfl (.inl rfl) (pe_op op_rep (pe_lst (pa_cons pe_int pa_nil)) (pe_callB call_len rfl B.len bi_len (pa_cons (pv 3) pa_nil))))
    (pss_cons (ps_for PassesOwn.never rfl (pi_tup (pv 8)) (pg_tup rfl (pgs_cons (pg_name (i := 7) sc_law.nd rfl (.inl rfl)) (pgs_cons (pg_name (i := 10) sc_law.nd rfl (.inl rfl)) pgs_nil)))
      (pss_one (ps_setLc (i := 9) (own := [("one", 20), ("two", 21)]) (g := gTup K 2 (gCons (gName 20) (gCons (gName 21) gNil))) (tt := tYes) rfl sc_law.nd rfl rfl (sw_true rfl rfl rfl (by decide +kernel)) (pi_zip rfl B.zip (pa_cons (pv 9) (pa_cons (pe_callD K__law_made (hr.mono (by omega)) (pa_cons (pv 3) (pa_cons (pv 4) (pa_cons (pv 7) (pa_cons (pv 10) pa_nil))))) pa_nil))) (blkOk_by (N := ["script", "row", "catalog", "items", "bundles", "at", "names", "name", "wants", "sums", "count", "due", "wrong", "parts", "turn", "told", "e", "odd", "item", "many", "one", "two", "bundle"]) (sc := defScope s_law) (by decide +kernel)) (fun _ _ _ _ _ => (pg_tup rfl (pgs_cons (pg_name (i := 20) sc_law.nd rfl (.inl rfl)) (pgs_cons (pg_name (i := 21) sc_law.nd rfl (.inl rfl)) pgs_nil)))) (fun _ _ _ _ _ => pts_nil) (fun _ _ _ _ _ => (pe_op op_add (pv 20) (pv 21))))))
    (pss_cons (ps_set (i := 11) sc_law.nd rfl (.inl rfl) (pe_callTy call_tuple_of rfl B.tuple bi_tuple (pa_cons (pe_lc (own := [("item", 18), ("many", 19)]) (g := gTup K 2 (gCons (gName 18) (gCons (gName 19) gNil))) rfl sc_law.nd (pi_zip rfl B.zip (pa_cons (pv 3) (pa_cons (pv 9) pa_nil))) (blkOk_by (N := ["script", "row", "catalog", "items", "bundles", "at", "names", "name", "wants", "sums", "count", "due", "wrong", "parts", "turn", "told", "e", "odd", "item", "many", "one", "two", "bundle"]) (sc := defScope s_law) (by decide +kernel)) (fun _ _ _ _ _ => (pg_tup rfl (pgs_cons (pg_name (i := 18) sc_law.nd rfl (.inl rfl)) (pgs_cons (pg_name (i := 19) sc_law.nd rfl (.inl rfl)) pgs_nil)))) (fun _ _ _ _ _ => pts_one (pt_cmpR op_gt (pv 19) pe_int (nomark _))) (fun _ _ _ _ _ => (pe_tup (pa_cons (pe_tup (pa_cons (pv 18) pa_nil)) (pa_cons (pv 19) pa_nil))))) pa_nil)))
    (by exact htm)))), fun r sc t bs ws vc vi vb vw a0 a5 a6 a7 a9 a10 a11 a12 a13 a14 a15 a16 a17 D G H l wk dw q => ?_⟩
  have its3 := l.its3
  have ws3 := wk.hi
  have leni : (strL t.its).length = t.its.length := List.length_map _
  have lenw : (ws.map pairD).length = ws.length := List.length_map _
  have zero : EvD (tOp rRep (tLst (tCons (tC (.int 0)) tNil)) (tCB (rLenD K) (tCons (tVar 3) tNil))) [a0, some (.ref r), some vc, some vi, some vb, a5, a6, a7, some vw, a9, a10, a11, a12, a13, a14, a15, a16, a17, none, none, none, none, none] G (.list (intL (List.replicate t.its.length 0))) :=
    evd_op (evd_lst (ea_cons evd_int ea_nil) (by show 1 ≤ 100000; decide)) (evd_cb (ea_cons (evd_at l.di) ea_nil) (r_lenL (n := (t.its.length : Nat)) (by rw [leni]))) (r_rep (by omega))
  refine go_set (zero H l.st.s _ fun v9 G1 H1 g1 n9 => ?_)
  have l1 := l.gr g1
  refine go_for ?_
  refine for_data (G := G1) (σ := [a0, some (.ref r), some vc, some vi, some vb, a5, a6, a7, some vw, some v9, a10, a11, a12, a13, a14, a15, a16, a17, none, none, none, none, none]) (ei_tup (evd_at (i := 8) (Dn.mono g1.g _ dw))) l1.st.s
    (fun G0 H0 i σ' H' => ∃ Gi vs b7 b10, Ex G0 Gi ∧ Ex G Gi ∧ LawSt K r sc t bs vc vi vb Gi H' ∧ Dn Gi vs (.list (intL (foundF (tabF t.its bs) t.its.length (ws.take i) 1))) ∧ σ' = [a0, some (.ref r), some vc, some vi, some vb, a5, a6, b7, some vw, some vs, b10, a11, a12, a13, a14, a15, a16, a17, none, none, none, none, none])
    (fun _ _ _ _ _ ⟨Gi, _, _, _, x, _, l, _⟩ => x.trans l.st.s) (fun G0 H0 g0 => ?_) (fun G0 H0 i d y σ' H' G3 H3 g0 hdi pv g3 ny => ?_) (fun G0 H0 σ' H' g0 pv => ?_)
  · refine ⟨G0, v9, a7, a10, Ex.refl _, g1.g.trans g0.g, l1.gr g0, ?_, rfl⟩
    rw [List.take_zero, foundF_nil]
    exact Dn.mono g0.g _ n9
  · obtain ⟨Gi, vs, b7, b10, x1, xg, li, ns, rfl⟩ := pv
    obtain ⟨G4, e34, g4⟩ := grow_up x1 li.st.s g3
    have l4 := li.gr g4
    rw [List.getElem?_map] at hdi
    cases hix : ws[i]? with
    | none =>
      rw [hix] at hdi
      cases hdi
    | some pq =>
      rw [hix] at hdi
      cases hdi
      have mem := List.mem_of_getElem? hix
      have ny4 : Dn G4 y (.tuple [.str pq.1, .int pq.2]) := Dn.mono e34 _ ny
      refine eg_pair y H3 g4.s ny4 _ fun σ2 ⟨u1, u2, es, m1, m2⟩ => ?_
      subst es
      have hm := wk.mem _ mem
      have ns4 := Dn.mono g4.g _ ns
      have call : EvD (tCall (spMade 3) [] E0 (tCons (tVar 3) (tCons (tVar 4) (tCons (tVar 7) (tCons (tVar 10) tNil))))) [a0, some (.ref r), some vc, some vi, some vb, a5, a6, some u1, some vw, some vs, some u2, a11, a12, a13, a14, a15, a16, a17, none, none, none, none, none] G4 (.list (intL ((rowOf t.its bs pq.1).map (· * pq.2)))) :=
        evd_made (k := 3) (fun _ _ _ _ z => z) (evd_at l4.di) rfl l4.db (evd_at m1) (evd_at m2) l.tab (by rw [l.all3]; exact hm)
      have row : EvD (tLc (iZip K (tCons (tVar 9) (tCons (tCall (spMade 3) [] E0 (tCons (tVar 3) (tCons (tVar 4) (tCons (tVar 7) (tCons (tVar 10) tNil))))) tNil))) (gTup K 2 (gCons (gName 20) (gCons (gName 21) gNil))) tYes (tOp (rI0 fun i j => .int (i + j)) (tVar 20) (tVar 21)) [20, 21]) [a0, some (.ref r), some vc, some vi, some vb, a5, a6, some u1, some vw, some vs, some u2, a11, a12, a13, a14, a15, a16, a17, none, none, none, none, none] G4 (.list (intL (foundF (tabF t.its bs) t.its.length (ws.take (i + 1)) 1))) := by
        refine evd_is (evd_lcP (r := addD) (ei_zipLL (ea_cons (evd_at ns4) (ea_cons call ea_nil))) ?_ (fun d hdd => ?_) (fun x y => rfl) (fun p1 p2 hab x y G5 e5 nx ny => ?_)) ?_
        · rw [zipD_ints, List.length_map, List.length_zip]
          unfold foundF
          rw [List.length_map, List.length_range]
          omega
        · rw [zipD_ints] at hdd
          obtain ⟨p, _, rfl⟩ := List.mem_map.mp hdd
          exact ⟨_, _, rfl⟩
        · rw [zipD_ints] at hab
          obtain ⟨p, _, eq⟩ := List.mem_map.mp hab
          cases eq
          exact evd_op (evd_at nx) (evd_at ny) (r_I0 fun _ => .int _)
        · have fs := foundF_snoc (ps := ws.take i) (c := 1) hm
          rw [Int.mul_one] at fs
          rw [zipD_ints, addD_zip, fs, take_len hix]
      refine go_set1 (row H3 g4.s _ fun vv G5 H5 g5 n5 => ?_)
      exact ⟨G5, vv, some u1, some u2, x1.trans (g4.g.trans g5.g), xg.trans (g4.g.trans g5.g), l4.gr g5, n5, rfl⟩
  · obtain ⟨Gi, vs, b7, b10, x1, xg, li, ns, rfl⟩ := pv
    rw [lenw, List.take_length, foundF_one] at ns
    have due : EvD (tCB (rTupD K) (tCons (tLc (iZip K (tCons (tVar 3) (tCons (tVar 9) tNil))) (gTup K 2 (gCons (gName 18) (gCons (gName 19) gNil))) (tTest (tOp (rI0 fun i j => .bl (decide (j < i))) (tVar 19) (tC (.int 0)))) (tTup (tCons (tTup (tCons (tVar 18) tNil)) (tCons (tVar 19) tNil))) [18, 19]) tNil)) [a0, some (.ref r), some vc, some vi, some vb, a5, a6, b7, some vw, some vs, b10, a11, a12, a13, a14, a15, a16, a17, none, none, none, none, none] Gi (.tuple ((needF t.its (tabF t.its bs) ws).map lotD)) := by
      refine evd_is (evd_cb (ea_cons (evd_lcPF (f := posD) (r := lotOf) (ei_zipLL (ea_cons (evd_at li.di) (ea_cons (evd_at ns) ea_nil))) ?_ (fun d hd => ?_) (fun x y => rfl) (fun a b hab x y G3 e3 nx ny => ?_) (fun a b hab hf x y G3 e3 nx ny => ?_)) ea_nil) r_tupL) ?_
      · rw [zipD_strs, List.length_map, List.length_zip]
        omega
      · rw [zipD_strs] at hd
        obtain ⟨p, _, rfl⟩ := List.mem_map.mp hd
        exact ⟨_, _, rfl⟩
      · rw [zipD_strs] at hab
        obtain ⟨p, _, eq⟩ := List.mem_map.mp hab
        cases eq
        exact evt_test (evd_op (evd_at ny) evd_int (r_I0 fun _ => .bl _))
      · rw [zipD_strs] at hab
        obtain ⟨p, _, eq⟩ := List.mem_map.mp hab
        cases eq
        exact evd_tup (ea_cons (evd_tup (ea_cons (evd_at nx) ea_nil) (by show 1 ≤ 100000; decide)) (ea_cons (evd_at ny) ea_nil)) (by show 2 ≤ 100000; decide)
      · rw [zipD_strs, filter_mapD pairD posD (fun p => decide (p.2 > 0)) _ (fun x _ => rfl), List.map_map]
        rfl
    refine go_set (due H' li.st.s _ fun v11 G6 H6 g6 n11 => ?_)
    exact pr r sc t bs ws vc vi vb vw vs v11 _ _ _ _ _ _ _ _ _ _ _ _ _ _ _ _ D G6 H6 (li.gr g6) wk (Dn.mono (xg.trans g6.g) _ dw) (Dn.mono g6.g _ ns) n11 q
end
end Sh

set_option Elab.async false
set_option linter.all false
set_option maxRecDepth 100000
set_option maxHeartbeats 1000000
/-! the law: wants -/
namespace Sh
open PySem PySem.Spec L2
open PyProof.Rows hiding St
open Evl (Ex)
section
variable {σ : L2.St} {H : Hp}
theorem go_cb {r : List V → Hp → VK → Prop} {ar : TA} {Q : VK} (h : ar σ H fun vs H1 => r vs H1 Q) : tCB r ar σ H Q := h
theorem go_op {r : R2} {ta tb : TE} {Q : VK} (h : ta σ H fun x H1 => tb σ H1 fun y H2 => r x y H2 Q) : tOp r ta tb σ H Q := h
theorem go_tup {ar : TA} {Q : VK} (h : ar σ H fun vs H1 => vs.length ≤ sizeLine ∧ ∀ p, H1 p = none → Q (.ref p) (upd H1 p (.tup vs))) : tTup ar σ H Q := h
theorem go_lcr {ar : TA} {g : TG} {tt : TT} {te : TE} {vs' : List Nat} {Q : VK} (h : ar σ H fun vs H1 => ∃ k : Int, vs = [.int k] ∧ -(2 ^ 62) ≤ k ∧ k < 2 ^ 62 ∧ ∀ D, H1 D = none → ∃ W : Nat → Nat → Hp → Prop, (∃ m, W 0 m (upd H1 D (.lst []))) ∧ ∀ i m H, W i m H →
  ((Itr 0 k.toNat).stop i H ∧ Q (.ref D) H) ∨ ((Itr 0 k.toNat).go i H ∧ ∃ Nx : Hp → Prop, (∀ H', Nx H' → ∃ m', m' < m ∧ W (i + 1) m' H') ∧ ∀ x H', (Itr 0 k.toNat).yld i H x H' → g x (wipe σ vs') H' fun σ2 H2 => wipe σ2 vs' = wipe σ vs' ∧ tt σ2 H2 fun b H3 =>
    if b = true then te σ2 H3 fun y H4 => ∃ acc, H4 D = some (.lst acc) ∧ acc.length < sizeLine ∧ Nx (upd H4 D (.lst (acc ++ [y]))) else Nx H3)) : tLc (iRng1 ar) g tt te vs' σ H Q := h
theorem lcR_go {n : Nat} {k0 : Int} (hk : k0 = (n : Nat)) (hn : n ≤ 1000000) {H1 : Hp} {Q : Addr → Hp → Prop} {te : TE} {vs' : List Nat} {j : Nat} (hw : ∀ x, wipe ((wipe σ vs').set j (some x)) vs' = wipe σ vs')
    (h : ∀ D, H1 D = none → ∃ W : Nat → Hp → Prop, W 0 (upd H1 D (.lst [])) ∧ (∀ i H', i < n → W i H' → te ((wipe σ vs').set j (some (.int (i : Nat)))) H' fun y H4 => ∃ acc, H4 D = some (.lst acc) ∧ acc.length < sizeLine ∧ W (i + 1) (upd H4 D (.lst (acc ++ [y])))) ∧ ∀ H', W n H' → Q D H') :
    ∃ k : Int, [V.int k0] = [.int k] ∧ -(2 ^ 62) ≤ k ∧ k < 2 ^ 62 ∧ ∀ D, H1 D = none → ∃ W : Nat → Nat → Hp → Prop, (∃ m, W 0 m (upd H1 D (.lst []))) ∧ ∀ i m H, W i m H →
  ((Itr 0 k.toNat).stop i H ∧ Q D H) ∨ ((Itr 0 k.toNat).go i H ∧ ∃ Nx : Hp → Prop, (∀ H', Nx H' → ∃ m', m' < m ∧ W (i + 1) m' H') ∧ ∀ x H', (Itr 0 k.toNat).yld i H x H' → gName j x (wipe σ vs') H' fun σ2 H2 => wipe σ2 vs' = wipe σ vs' ∧ tYes σ2 H2 fun b H3 =>
    if b = true then te σ2 H3 fun y H4 => ∃ acc, H4 D = some (.lst acc) ∧ acc.length < sizeLine ∧ Nx (upd H4 D (.lst (acc ++ [y]))) else Nx H3) := by
  subst hk
  refine ⟨(n : Nat), rfl, by omega, by omega, fun D hD => ?_⟩
  obtain ⟨W, w0, ws, wd⟩ := h D hD
  refine ⟨fun i m H' => m = n - i ∧ i ≤ n ∧ W i H', ⟨n, by simp, Nat.zero_le _, w0⟩, ?_⟩
  rintro i m H' ⟨rfl, hi, p⟩
  by_cases lt : i < n
  · refine .inr ⟨?_, W (i + 1), fun H2 p2 => ⟨n - (i + 1), by omega, rfl, lt, p2⟩, fun x H2 y => ?_⟩
    · show i < ((n : Nat) : Int).toNat
      omega
    · obtain ⟨rfl, rfl⟩ := y
      refine ⟨hw _, ?_⟩
      have z := ws i H2 lt p
      show te ((wipe σ vs').set j (some (.int (0 + (i : Nat))))) H2 _
      rw [Int.zero_add]
      exact z
  · obtain rfl : i = n := by omega
    refine .inl ⟨?_, wd H' p⟩
    show ((i : Nat) : Int).toNat ≤ i
    omega
end
section
variable {P : Program} {w : World} {K : PySem.W.Frag} {mg : Str → Option Value} {base : Heap} {CI CO : Addr} {f : Addr} {cdv : Value} {A : Around} {outer : List Env} {s : Shared} {H : Hp} {E : XK}
theorem law_want (B : Bi mg) (hr : Room 6 (A.deeper (envOfC "law" (defScope s_law) s.heap.objs.size f cdv))) (K__law_taken : Keeps P w K mg base CX0 1 "_law_taken" ["row", "many"] (spTaken K)) (K__law_pick : Keeps P w K mg base CX0 2 "_law_pick" ["row", "things"] (spPick K))
    (rest : ∃ tm, PSs (lawX P w K mg base f cdv A outer s H E) ((defBody s_law).drop 7) tm ∧ ∀ (r sc : Addr) (t : Cat) (bs : List Bun) (ws : List (Str × Int)) (vc vi vb vw : V) (a0 a5 a6 a7 a9 a10 a11 a12 a13 a14 a15 a16 a17 : Option V) (D : Ends) (G H : Hp), LawSt K r sc t bs vc vi vb G H → WantsOk t bs ws → Dn G vw (.tuple (ws.map pairD)) → (∀ H2, D.rt (.bl true) H2) →
      tm D [a0, some (.ref r), some vc, some vi, some vb, a5, a6, a7, some vw, a9, a10, a11, a12, a13, a14, a15, a16, a17, none, none, none, none, none] H) :
    ∃ tm, PSs (lawX P w K mg base f cdv A outer s H E) ((defBody s_law).drop 6) tm ∧ ∀ (r sc : Addr) (t : Cat) (bs : List Bun) (vc vi vb vn : V) (a0 a5 a7 a8 a9 a10 a11 a12 a13 a14 a15 a16 a17 : Option V) (D : Ends) (G H : Hp), LawSt K r sc t bs vc vi vb G H → Dn G vn (.list (strL (t.its ++ bs.map (·.1)))) → (∀ H2, D.rt (.bl true) H2) →
      tm D [a0, some (.ref r), some vc, some vi, some vb, a5, some vn, a7, a8, a9, a10, a11, a12, a13, a14, a15, a16, a17, none, none, none, none, none] H := by
  obtain ⟨tm, htm, pr⟩ := rest
  refine ⟨_, (pss_cons (ps_set (i := 8) sc_law.nd rfl (.inl rfl) (pe_callTy call_tuple_of rfl B.tuple bi_tuple (pa_cons (pe_lc (own := [("turn", 14)]) (g := gName 14) (tt := tYes) rfl sc_law.nd (pi_range1 rfl B.range (pa_cons (pe_op op_add pe_int (pe_callD K__law_taken (hr.mono (by omega)) (pa_cons (pv 1) (pa_cons pe_int pa_nil)))) pa_nil)) (blkOk_by (N := ["script", "row", "catalog", "items", "bundles", "at", "names", "name", "wants", "sums", "count", "due", "wrong", "parts", "turn", "told", "e", "odd", "item", "many", "one", "two", "bundle"]) (sc := defScope s_law) (by decide +kernel)) (fun _ _ _ _ _ => (pg_name (i := 14) sc_law.nd rfl (.inl rfl))) (fun _ _ _ _ _ => pts_nil) (fun _ _ _ _ _ => (pe_tup (pa_cons (pe_callD K__law_pick (hr.mono (by omega)) (pa_cons (pv 1) (pa_cons (pv 6) pa_nil))) (pa_cons (pe_op op_add pe_int (pe_callD K__law_taken (hr.mono (by omega)) (pa_cons (pv 1) (pa_cons pe_int pa_nil)))) pa_nil))))) pa_nil)))
    (by exact htm)), fun r sc t bs vc vi vb vn a0 a5 a7 a8 a9 a10 a11 a12 a13 a14 a15 a16 a17 D G H l dn q => ?_⟩
  have its3 := l.its3
  have bs3 := l.few
  have its1 : 0 < t.its.length := (List.getElem?_eq_some_iff.mp l.tea).1
  refine go_set (go_cb (go_cons (go_lcr (go_cons (go_op (go_c ?_))))))
  refine evr_taken (i := 1) (m := 3) rfl evd_int (by decide) (by decide) l.st fun n G1 H1 ltn q1 => ⟨_, _, rfl, rfl, go_nil ?_⟩
  have l1 := l.to q1
  refine lcR_go (n := 1 + n) (k0 := 1 + (n : Nat)) (σ := [a0, some (.ref r), some vc, some vi, some vb, a5, some vn, a7, a8, a9, a10, a11, a12, a13, a14, a15, a16, a17, none, none, none, none, none]) (vs' := List.map (fun x => x.2) [(Str.ofString "turn", 14)]) (j := 14) (by omega) (by omega) (fun x => rfl) (fun L hL => ?_)
  have nLr : L ≠ r := fun z => by
    obtain ⟨_, _, _, _, w2⟩ := l1.st.row
    rw [z, w2] at hL
    cases hL
  have gs0 : Gs [r] G1 H1 G1 H1 := (Gq.refl l1.st).gs
  refine ⟨fun i H' => ∃ Gi acc ws, Gs [L, r] G1 H1 Gi H' ∧ RowAt r sc H' ∧ H' L = some (.lst acc) ∧ DnL Gi acc (ws.map pairD) ∧ ws.length = i ∧ ∀ q ∈ ws, q.1 ∈ t.its ++ bs.map (·.1) ∧ 1 ≤ q.2 ∧ q.2 ≤ 2, ⟨G1, [], [], gs0.new hL, RowAt.put l1.st.row nLr, upd_same, .nil, rfl, fun q hq => (by cases hq)⟩, fun i H' lti pv => ?_, fun H' pv => ?_⟩
  · obtain ⟨Gi, acc, ws, gs, row, hacc, na, lenw, each⟩ := pv
    have sti : RowSt K r sc Gi H' := gs.row (by simp) row l1.st.scr
    have dn' : Dn Gi vn (.list (strL (t.its ++ bs.map (·.1)))) := Dn.mono (q1.g.trans gs.g) _ dn
    refine go_tup (go_cons ?_)
    refine evr_pick (i := 1) rfl (evd_at (i := 6) dn') (by unfold strL; rw [List.length_map, List.length_append]; omega) (by unfold strL; rw [List.length_map, List.length_append, List.length_map]; omega) sti fun u d G2 H2 hd nd q2 => ?_
    obtain ⟨x, hx, rfl⟩ := List.mem_map.mp hd
    have gs2 := gs.stepQ (by simp) q2
    refine go_cons (go_op (go_c ?_))
    refine evr_taken (i := 1) (m := 2) rfl evd_int (by decide) (by decide) q2.st fun c G3 H3 ltc q3 => ⟨_, _, rfl, rfl, go_nil ⟨Evl.sz_of (by show 2 ≤ 100000; decide), fun p hp => ?_⟩⟩
    have gs3 := gs2.stepQ (by simp) q3
    have hacc3 : H3 L = some (.lst acc) := q3.h _ _ nLr (q2.h _ _ nLr hacc)
    have g4 := Gr.new (o := .tup [u, .int (1 + (c : Nat))]) gs3.s hp
    have gs4 := gs3.step g4
    refine ⟨acc, g4.h _ _ hacc3, ?_, _, _, ws ++ [((x, 1 + ((c : Nat) : Int)) : Str × Int)], gs4.put (by simp), RowAt.put (q3.st.row |> fun w => RowAt.gr w g4) nLr, upd_same, ?_, by rw [List.length_append, lenw]; rfl, fun q hq => ?_⟩
    · rw [na.length, List.length_map, lenw]
      exact Nat.lt_of_le_of_lt (show i ≤ 10 by omega) (by decide)
    · rw [List.map_append]
      exact (DnL.mono ((q2.g.trans q3.g).trans g4.g) _ na).snoc (.tup (.inl upd_same) (.cons (Dn.mono (q3.g.trans g4.g) _ nd) (.cons (.int _) .nil)))
    · rcases List.mem_append.mp hq with hq | hq
      · exact each q hq
      · rw [List.mem_singleton] at hq
        subst hq
        exact ⟨hx, by show (1 : Int) ≤ 1 + (c : Nat); omega, by show (1 : Int) + (c : Nat) ≤ 2; omega⟩
  · obtain ⟨Gi, acc, ws, gs, row, hacc, na, lenw, each⟩ := pv
    have cl := gs.close hL hacc (by simpa using nLr)
    have up : Ex Gi (upd Gi L (.lst acc)) := Ex.new (gs.n L (by simp))
    have l2 := l1.to (cl.q row l1.st.scr)
    refine go_nil ⟨L, acc, rfl, .inl ⟨.inl (.inl hacc), fun p hp => ?_⟩⟩
    have g3 := Gr.new (o := .tup acc) l2.st.s hp
    exact pr r sc t bs ws vc vi vb (.ref p) _ _ _ _ _ _ _ _ _ _ _ _ _ D _ _ (l2.gr g3) ⟨by omega, by omega, fun q hq => (each q hq).1, fun q hq => (each q hq).2.1, fun q hq => (each q hq).2.2⟩ (.tup (.inl upd_same) (DnL.mono (up.trans g3.g) _ na)) q
end
end Sh

set_option Elab.async false
set_option linter.all false
set_option maxRecDepth 100000
set_option maxHeartbeats 1000000
/-! the law: each name -/
namespace Sh
open PySem PySem.Spec L2
open PyProof.Rows hiding St
open Evl (Ex)
theorem evd_callS {σ : L2.St} {G : Hp} {ar : TA} {C : Addr} {W : WX} {dom : List D → Option D → Prop} {ds : List D} {c : D} (h : EvA ar σ G ds) (hc : dom ds (some c)) : EvD (tCallS (spR C dom) (WE W) ar) σ G c := fun H e Q q =>
  h H e _ fun vs G2 H2 g n => ⟨ds, some c, G2, g.s, n, hc, (fun c1 e1 v G3 H3 g2 n2 => by
    cases e1
    exact q v G3 H3 (g.trans g2) n2), fun z => nomatch z⟩
theorem counts_one {its : List Str} {bs : List Bun} {x : Str} {c : Int} (h : x ∈ its ++ bs.map (·.1)) : countsF (tabF its bs) its.length [(x, c)] = (rowOf its bs x).map (· * c) := by
  have e := by_range (rowOf_len h)
  conv => rhs; rw [e]
  unfold countsF
  rw [List.map_map]
  refine List.map_congr_left fun p _ => ?_
  show cnt (tabF its bs) ([] ++ [(x, c)]) p = (rowOf its bs x).getD p 0 * c
  rw [cnt_snoc]
  show cnt (tabF its bs) [] p + (rowOf its bs x).getD p 0 * c = _
  rw [show cnt (tabF its bs) [] p = 0 from rfl, Int.zero_add]
theorem pairs_okA {ps : List (Str × Int)} (h : ps.length ≤ 1000) : okA 4 (.tuple (ps.map pairD)) = true := by
  show (decide ((ps.map pairD).length ≤ 1000) && (ps.map pairD).all (okA 3)) = true
  rw [List.length_map, decide_eq_true h, Bool.true_and, List.all_map, List.all_eq_true]
  intro p _
  rfl
section
variable {P : Program} {w : World} {K : PySem.W.Frag} {mg : Str → Option Value} {base : Heap} {CI CO : Addr} {f : Addr} {cdv : Value} {A : Around} {outer : List Env} {s : Shared} {H : Hp} {E : XK}
theorem law_each (B : Bi mg) (hr : Room 6 (A.deeper (envOfC "law" (defScope s_law) s.heap.objs.size f cdv))) (K__law_taken : Keeps P w K mg base CX0 1 "_law_taken" ["row", "many"] (spTaken K)) (K__law_made : Keeps P w K mg base CX0 4 "_law_made" ["items", "bundles", "name", "count"] (spMade 3)) (K__law_alike : Keeps P w K mg base CX0 5 "_law_alike" ["found", "due"] (spD (domAlike 4)))
    (K_made_of : Keeps P w K mg base (L2N.CX P w) 6 "made_of" ["catalog", "bundles", "name", "count"] (spR CI domMade))
    (rest : ∃ tm, PSs (lawX P w K mg base f cdv A outer s H E) ((defBody s_law).drop 6) tm ∧ ∀ (r sc : Addr) (t : Cat) (bs : List Bun) (vc vi vb vn : V) (a0 a5 a7 a8 a9 a10 a11 a12 a13 a14 a15 a16 a17 : Option V) (D : Ends) (G H : Hp), LawSt K r sc t bs vc vi vb G H → Dn G vn (.list (strL (t.its ++ bs.map (·.1)))) → (∀ H2, D.rt (.bl true) H2) →
      tm D [a0, some (.ref r), some vc, some vi, some vb, a5, some vn, a7, a8, a9, a10, a11, a12, a13, a14, a15, a16, a17, none, none, none, none, none] H) :
    ∃ tm, PSs (lawX P w K mg base f cdv A outer s H E) ((defBody s_law).drop 5) tm ∧ ∀ (r sc : Addr) (t : Cat) (bs : List Bun) (vc vi vb vn : V) (a0 a5 a7 a8 a9 a10 a11 a12 a13 a14 a15 a16 a17 : Option V) (D : Ends) (G H : Hp), LawSt K r sc t bs vc vi vb G H → Dn G vn (.list (strL (t.its ++ bs.map (·.1)))) → (∀ H2, D.rt (.bl true) H2) →
      tm D [a0, some (.ref r), some vc, some vi, some vb, a5, some vn, a7, a8, a9, a10, a11, a12, a13, a14, a15, a16, a17, none, none, none, none, none] H := by
  obtain ⟨tm, htm, pr⟩ := rest
  refine ⟨_, (pss_cons (ps_for PassesOwn.never rfl (pi_list (pv 6)) (pg_name (i := 7) sc_law.nd rfl (.inl rfl))
      (pss_cons (ps_set (i := 10) sc_law.nd rfl (.inl rfl) (pe_op op_add pe_int (pe_callD K__law_taken (hr.mono (by omega)) (pa_cons (pv 1) (pa_cons pe_int pa_nil)))))
    (pss_cons (ps_setLc (i := 11) (own := [("item", 18), ("many", 19)]) (g := gTup K 2 (gCons (gName 18) (gCons (gName 19) gNil))) rfl sc_law.nd rfl rfl (sw_true rfl rfl rfl (by decide +kernel)) (pi_zip rfl B.zip (pa_cons (pv 3) (pa_cons (pe_callD K__law_made (hr.mono (by omega)) (pa_cons (pv 3) (pa_cons (pv 4) (pa_cons (pv 7) (pa_cons (pv 10) pa_nil))))) pa_nil))) (blkOk_by (N := ["script", "row", "catalog", "items", "bundles", "at", "names", "name", "wants", "sums", "count", "due", "wrong", "parts", "turn", "told", "e", "odd", "item", "many", "one", "two", "bundle"]) (sc := defScope s_law) (by decide +kernel)) (fun _ _ _ _ _ => (pg_tup rfl (pgs_cons (pg_name (i := 18) sc_law.nd rfl (.inl rfl)) (pgs_cons (pg_name (i := 19) sc_law.nd rfl (.inl rfl)) pgs_nil)))) (fun _ _ _ _ _ => pts_one (pt_cmpR op_gt (pv 19) pe_int (nomark _))) (fun _ _ _ _ _ => (pe_tup (pa_cons (pv 18) (pa_cons (pv 19) pa_nil)))))
    (pss_one (ps_if (pt_not (pt_val (pe_callD K__law_alike (hr.mono (by omega)) (pa_cons (pe_callR K_made_of (hr.mono (by omega)) takes0N (pa_cons (pv 2) (pa_cons (pv 4) (pa_cons (pv 7) (pa_cons (pv 10) pa_nil))))) (pa_cons (pe_callTy call_tuple_of rfl B.tuple bi_tuple (pa_cons (pv 11) pa_nil)) pa_nil))))) (pss_one (ps_ret pe_bl)) pss_nil)))))
    (by exact htm)), fun r sc t bs vc vi vb vn a0 a5 a7 a8 a9 a10 a11 a12 a13 a14 a15 a16 a17 D G H l dn q => ?_⟩
  have its3 := l.its3
  have bs3 := l.few
  refine go_for ?_
  refine for_dataN (G := G) (σ := [a0, some (.ref r), some vc, some vi, some vb, a5, some vn, a7, a8, a9, a10, a11, a12, a13, a14, a15, a16, a17, none, none, none, none, none]) (ei_list (evd_at (i := 6) dn)) l.st.s
    (fun G0 H0 i σ' H' => ∃ Gi b7 b10 b11, Ex G0 Gi ∧ Ex G Gi ∧ LawSt K r sc t bs vc vi vb Gi H' ∧ σ' = [a0, some (.ref r), some vc, some vi, some vb, a5, some vn, b7, a8, a9, b10, b11, a12, a13, a14, a15, a16, a17, none, none, none, none, none])
    (fun _ _ _ _ _ ⟨Gi, _, _, _, x, _, l, _⟩ => x.trans l.st.s) (fun G0 H0 g0 => ?_) (fun G0 H0 i d y σ' H' G3 H3 g0 hdi pv g3 ny => ?_) (fun G0 H0 σ' H' g0 pv => ?_)
  · exact ⟨G0, a7, a10, a11, Ex.refl _, g0.g, l.gr g0, rfl⟩
  · obtain ⟨Gi, b7, b10, b11, x1, xg, li, rfl⟩ := pv
    obtain ⟨G4, e34, g4⟩ := grow_up x1 li.st.s g3
    have l4 := li.gr g4
    obtain ⟨nm1, hnm, rfl⟩ := str_at hdi
    have mem := List.mem_of_getElem? hnm
    have ey := dn_str ny
    subst ey
    refine go_set (go_op (go_c ?_))
    refine evr_taken (i := 1) (m := 3) rfl evd_int (by decide) (by decide) l4.st fun c G5 H5 ltc q5 => ⟨_, _, rfl, rfl, ?_⟩
    have l5 := l4.to q5
    have e5 := (xg.trans g4.g).trans q5.g
    have call : EvD (tCall (spMade 3) [] E0 (tCons (tVar 3) (tCons (tVar 4) (tCons (tVar 7) (tCons (tVar 10) tNil))))) [a0, some (.ref r), some vc, some vi, some vb, a5, some vn, some (.str nm1), a8, a9, some (.int (1 + (c : Nat))), b11, a12, a13, a14, a15, a16, a17, none, none, none, none, none] G5 (.list (intL ((rowOf t.its bs nm1).map (· * (1 + ((c : Nat) : Int)))))) :=
      evd_made (k := 3) (fun _ _ _ _ z => z) (evd_at l5.di) rfl l5.db (evd_at (Dn.str nm1 : Dn G5 (.str nm1) (.str nm1))) (evd_at (Dn.int _ : Dn G5 (.int (1 + ((c : Nat) : Int))) (.int (1 + ((c : Nat) : Int))))) l.tab (by rw [l.all3]; exact mem)
    have due : EvD (tLc (iZip K (tCons (tVar 3) (tCons (tCall (spMade 3) [] E0 (tCons (tVar 3) (tCons (tVar 4) (tCons (tVar 7) (tCons (tVar 10) tNil))))) tNil))) (gTup K 2 (gCons (gName 18) (gCons (gName 19) gNil))) (tTest (tOp (rI0 fun i j => .bl (decide (j < i))) (tVar 19) (tC (.int 0)))) (tTup (tCons (tVar 18) (tCons (tVar 19) tNil))) [18, 19]) [a0, some (.ref r), some vc, some vi, some vb, a5, some vn, some (.str nm1), a8, a9, some (.int (1 + (c : Nat))), b11, a12, a13, a14, a15, a16, a17, none, none, none, none, none] G5 (.list ((needF t.its (tabF t.its bs) [(nm1, 1 + ((c : Nat) : Int))]).map pairD)) := by
      refine evd_is (evd_lcPF (f := posD) (r := id) (ei_zipLL (ea_cons (evd_at l5.di) (ea_cons call ea_nil))) ?_ (fun d hd => ?_) (fun x y => rfl) (fun a b hab x y G3 e3 nx ny => ?_) (fun a b hab hf x y G3 e3 nx ny => ?_)) ?_
      · rw [zipD_strs, List.length_map, List.length_zip]
        omega
      · rw [zipD_strs] at hd
        obtain ⟨p, _, rfl⟩ := List.mem_map.mp hd
        exact ⟨_, _, rfl⟩
      · rw [zipD_strs] at hab
        obtain ⟨p, _, eq⟩ := List.mem_map.mp hab
        cases eq
        exact evt_test (evd_op (evd_at ny) evd_int (r_I0 fun _ => .bl _))
      · exact evd_tup (ea_cons (evd_at nx) (ea_cons (evd_at ny) ea_nil)) (by show 2 ≤ 100000; decide)
      · rw [zipD_strs, filter_mapD pairD posD (fun p => decide (p.2 > 0)) _ (fun x _ => rfl), List.map_id]
        unfold needF
        rw [counts_one mem]
    refine go_set (due H5 l5.st.s _ fun v11 G6 H6 g6 n11 => ?_)
    have l6 := l5.gr g6
    have mk : madeF t (some bs) nm1 (1 + ((c : Nat) : Int)) = some (needF t.its (tabF t.its bs) [(nm1, 1 + ((c : Nat) : Int))]) := by
      unfold madeF
      simp only [l.okD, if_true]
    have made : domMade [Cat.d t, .tuple (bs.map bunD), .str nm1, .int (1 + ((c : Nat) : Int))] (some (.tuple ((needF t.its (tabF t.its bs) [(nm1, 1 + ((c : Nat) : Int))]).map pairD))) := ⟨t, some bs, nm1, _, rfl, ⟨l.cat, fun bs' e => by
      cases e
      exact l.bd, fun bs' e => by
      cases e
      unfold wantB
      rw [keys_tabF, decide_eq_true mem, decide_eq_true (by show (1 : Int) ≤ 1 + (c : Nat); omega), decide_eq_true (by show (1 : Int) + (c : Nat) ≤ 99; omega)]
      rfl⟩, by
      rw [mk]
      rfl⟩
    have nlen := needF_len t.its (tabF t.its bs) [(nm1, 1 + ((c : Nat) : Int))]
    refine go_if (G := G6) (b := false) (evt_not (b := true) (evt_B (evd_call (ea_cons (evd_callS (ea_cons (evd_at l6.dc) (ea_cons (evd_at l6.db.dn) (ea_cons (evd_at (Dn.str nm1 : Dn G6 (.str nm1) (.str nm1))) (ea_cons (evd_at (Dn.int _ : Dn G6 (.int (1 + ((c : Nat) : Int))) (.int (1 + ((c : Nat) : Int))))) ea_nil)))) made) (ea_cons (evd_cb (ea_cons (evd_at n11) ea_nil) r_tupL) ea_nil)) ⟨_, rfl, pairs_okA (by omega), rfl⟩))) l6.st.s (fun z => nomatch z) (fun _ G7 H7 g7 => ?_)
    exact ⟨G7, some (.str nm1), some (.int (1 + (c : Nat))), some v11, ((x1.trans g4.g).trans q5.g).trans (g6.g.trans g7.g), e5.trans (g6.g.trans g7.g), l6.gr g7, rfl⟩
  · obtain ⟨Gi, b7, b10, b11, x1, xg, li, rfl⟩ := pv
    exact pr r sc t bs vc vi vb vn _ _ _ _ _ _ _ _ _ _ _ _ _ D Gi H' li (Dn.mono xg _ dn) q
end
end Sh

set_option Elab.async false
set_option linter.all false
set_option maxRecDepth 100000
set_option maxHeartbeats 1000000
/-! the law: bundles; the whole -/
namespace Sh
open PySem PySem.Spec L2
open PyProof.Rows hiding St
open Evl (Ex)
theorem perm_erase {α : Type} : ∀ {l : List α} {i : Nat} {x : α}, l[i]? = some x → (x :: l.eraseIdx i).Perm l
  | [], _, _, h => by simp at h
  | y :: l, 0, x, h => by
    have e : y = x := by simpa using h
    subst e
    exact List.Perm.refl _
  | y :: l, i + 1, x, h => by
    have k := perm_erase (l := l) (i := i) (x := x) (by simpa using h)
    exact (List.Perm.swap y x _).trans (k.cons y)
theorem erase_map {α β : Type} (f : α → β) : ∀ (l : List α) (i : Nat), (l.map f).eraseIdx i = (l.eraseIdx i).map f
  | [], _ => rfl
  | _ :: _, 0 => rfl
  | x :: l, i + 1 => by
    show f x :: (l.map f).eraseIdx i = f x :: (l.eraseIdx i).map f
    rw [erase_map f l i]
theorem seq_at {v n : Nat} (h : v < n) : seqIndex? (v : Int) n = some v := by
  have z : ixN n ((v : Nat) : Int) = some v := by
    unfold ixN
    rw [if_pos (by omega), if_pos (by omega)]
    rfl
  exact (ixN_seq z).1
def bnm (k : Nat) : Str := Str.ofString "bun" ++ (Str.ofString (toString ((k : Nat) : Int)))
theorem bnm_ok : ∀ k, k < 4 → nameS (bnm k) = true := by decide +kernel
theorem bnm_ne : ∀ k, k < 4 → ∀ j, j < 4 → bnm j = bnm k → j = k := by decide +kernel
theorem bnm_it : ∀ u, u < 3 → ∀ k, k < 4 → bnm k ∉ IS.take (1 + u) := by decide +kernel
theorem bnm_none : ∀ k, k < 4 → ¬ Str.ofString "none" = bnm k := by decide +kernel
theorem bnm_sz : ∀ k, k < 4 → (Str.ofString "bun").length + (Str.ofString (toString ((k : Nat) : Int))).length ≤ sizeLine := by decide +kernel
theorem its_ok : ∀ u, u < 3 → (IS.take (1 + u)).length ≤ 3 ∧ 0 < (IS.take (1 + u)).length ∧ (IS.take (1 + u))[0]? = some (Str.ofString "tea") ∧ Str.ofString "none" ∉ IS.take (1 + u) ∧ Str.ofString "k" ∉ IS.take (1 + u) := by decide +kernel
theorem bunsOk_snoc {b : Bun} : ∀ {bs : List Bun} {kn : List Str}, bunsOk kn bs = true → bunOk (kn ++ bs.map (·.1)) b = true → bunsOk kn (bs ++ [b]) = true
  | [], kn, _, h => by
    rw [List.map_nil, List.append_nil] at h
    show (bunOk kn b && true) = true
    rw [h]
    rfl
  | c :: bs, kn, h, k => by
    have h' : (bunOk kn c && bunsOk (kn ++ [c.1]) bs) = true := h
    rw [Bool.and_eq_true] at h'
    show (bunOk kn c && bunsOk (kn ++ [c.1]) (bs ++ [b])) = true
    rw [h'.1, Bool.true_and]
    refine bunsOk_snoc h'.2 ?_
    rw [List.append_assoc]
    exact k
structure BInv (its : List Str) (i : Nat) (bs : List Bun) : Prop where
  names : bs.map (·.1) = (List.range i).map bnm
  ok : bunsOk its bs = true
  nd : ∀ b ∈ bs, (b.2.map (·.1)).Nodup
  most : ∀ b ∈ bs, b.2.length ≤ 3
theorem BInv.len {its : List Str} {i : Nat} {bs : List Bun} (h : BInv its i bs) : bs.length = i := by
  have z := congrArg List.length h.names
  rw [List.length_map, List.length_map, List.length_range] at z
  exact z
theorem BInv.dom {its : List Str} {i : Nat} {bs : List Bun} (h : BInv its i bs) (hi : i ≤ 3) : BunDom bs := ⟨h.nd, fun b hb => by
  have z : b.1 ∈ bs.map (·.1) := List.mem_map.mpr ⟨b, hb, rfl⟩
  rw [h.names] at z
  obtain ⟨k, hk, e⟩ := List.mem_map.mp z
  rw [← e]
  exact nameS_len (bnm_ok k (by have := List.mem_range.mp hk; omega)), fun b hb => by have := h.most b hb; omega, by have := h.len; omega⟩
/-- the names that are left, and the parts that are drawn -/
structure PInv (known : List Str) (k : Nat) (left : List Str) (ps : List (Str × Int)) : Prop where
  nd : (ps.map (·.1) ++ left).Nodup
  sub : ∀ x ∈ ps.map (·.1) ++ left, x ∈ known
  len : left.length + k = known.length
  cnt : ps.length = k
  lo : ∀ q ∈ ps, 1 ≤ q.2
  hi : ∀ q ∈ ps, q.2 ≤ 9
theorem PInv.step {known left : List Str} {k v : Nat} {ps : List (Str × Int)} {x : Str} {c : Int} (h : PInv known k left ps) (e : left[v]? = some x) (h1 : 1 ≤ c) (h2 : c ≤ 9) : PInv known (k + 1) (left.eraseIdx v) (ps ++ [(x, c)]) := by
  have lt : v < left.length := (List.getElem?_eq_some_iff.mp e).1
  have p : ((ps ++ [(x, c)]).map (·.1) ++ left.eraseIdx v).Perm (ps.map (·.1) ++ left) := by
    rw [List.map_append, List.append_assoc]
    exact (List.Perm.refl _).append (perm_erase e)
  refine ⟨p.nodup_iff.mpr h.nd, fun y hy => h.sub y (p.mem_iff.mp hy), ?_, by rw [List.length_append, h.cnt]; rfl, fun q hq => ?_, fun q hq => ?_⟩
  · rw [List.length_eraseIdx_of_lt lt]
    have := h.len
    omega
  · rcases List.mem_append.mp hq with hq | hq
    · exact h.lo q hq
    · rw [List.mem_singleton] at hq
      subst hq
      exact h1
  · rcases List.mem_append.mp hq with hq | hq
    · exact h.hi q hq
    · rw [List.mem_singleton] at hq
      subst hq
      exact h2
theorem BInv.step {its : List Str} {i n u : Nat} {bs : List Bun} {left : List Str} {ps : List (Str × Int)} (h : BInv its i bs) (hi : i < 3) (hu : u < 3) (eu : its = IS.take (1 + u)) (p : PInv (its ++ bs.map (·.1)) n left ps) (n1 : 1 ≤ n) (n3 : n ≤ 3) : BInv its (i + 1) (bs ++ [(bnm i, ps)]) := by
  have pl := p.cnt
  have nw : bnm i ∉ its ++ bs.map (·.1) := fun z => by
    rcases List.mem_append.mp z with z | z
    · rw [eu] at z
      exact bnm_it u hu i (by omega) z
    · rw [h.names] at z
      obtain ⟨k, hk, e⟩ := List.mem_map.mp z
      have hk' := List.mem_range.mp hk
      have := bnm_ne i (by omega) k (by omega) e
      omega
  refine ⟨by rw [List.map_append, h.names, List.range_succ, List.map_append] <;> rfl, bunsOk_snoc h.ok ?_, fun b hb => ?_, fun b hb => ?_⟩
  · unfold bunOk
    rw [bnm_ok i (by omega), decide_eq_false nw, decide_eq_true (by show (1 : Int) ≤ (ps.length : Int); omega), decide_eq_true (by show (ps.length : Int) ≤ 4; omega)]
    show ps.all (partOk (its ++ bs.map (·.1))) = true
    rw [List.all_eq_true]
    intro q hq
    unfold partOk
    rw [decide_eq_true (p.sub q.1 (List.mem_append_left _ (List.mem_map.mpr ⟨q, hq, rfl⟩))), decide_eq_true (p.lo q hq), decide_eq_true (p.hi q hq)]
    rfl
  · rcases List.mem_append.mp hb with hb | hb
    · exact h.nd b hb
    · rw [List.mem_singleton] at hb
      subst hb
      exact (List.nodup_append.mp p.nd).1
  · rcases List.mem_append.mp hb with hb | hb
    · exact h.most b hb
    · rw [List.mem_singleton] at hb
      subst hb
      show ps.length ≤ 3
      omega
section
variable {σ : L2.St} {H : Hp}
theorem go_lst {ar : TA} {Q : VK} (h : ar σ H fun vs H1 => vs.length ≤ sizeLine ∧ ∀ p, H1 p = none → Q (.ref p) (upd H1 p (.lst vs))) : tLst ar σ H Q := h
theorem go_par {i j : Nat} {ta : TA} {D : Ends} (h : ta σ H fun vs H1 => ∃ v w, vs = [v, w] ∧ D.nx ((σ.set i (some v)).set j (some w)) H1) : tPar i j ta D σ H := h
theorem go_parS {i j : Nat} {ta : TA} {u : TS} {D : Ends} (h : ta σ H fun vs H1 => ∃ v w, vs = [v, w] ∧ u D ((σ.set i (some v)).set j (some w)) H1) : tSeq (tPar i j ta) u D σ H := h
theorem go_asg {te : TE} {g : TG} {u : TS} {D : Ends} (h : te σ H fun v H2 => g v σ H2 fun σ2 H3 => u D σ2 H3) : tSeq (tAsg te g) u D σ H := h
theorem go_bm {K : PySem.W.Frag} {T : String} {r : V → List V → Hp → VK → Prop} {to : TE} {t : TA} {Q : VK} (h : to σ H fun x H1 => tyV K T x H1 ∧ t σ H1 fun xs H2 => r x xs H2 Q) : tBM K T r to t σ H Q := h
theorem go_fr {ar : TA} {j : Nat} {tb : TS} {D : Ends} (h : ar σ H fun vs H1 => ∃ k : Int, vs = [.int k] ∧ -(2 ^ 62) ≤ k ∧ k < 2 ^ 62 ∧ ∃ W : Nat → Nat → L2.St → Hp → Prop, (∃ m, W 0 m σ H1) ∧ ∀ i m σ H, W i m σ H → ((Itr 0 k.toNat).stop i H ∧ D.nx σ H) ∨ ((Itr 0 k.toNat).go i H ∧ ∃ N : L2.St → Hp → Prop, (∀ σ' H', N σ' H' → ∃ m', m' < m ∧ W (i + 1) m' σ' H') ∧ ∀ x H', (Itr 0 k.toNat).yld i H x H' → gName j x σ H' fun σ2 H2 => tb { D with nx := N, ct := N, bk := D.nx } σ2 H2)) : tFor (iRng1 ar) (gName j) tb D σ H := h
theorem rngK_go {n : Nat} {k0 : Int} (hk : k0 = (n : Nat)) (hn : n ≤ 1000000) {H1 : Hp} {E : Ends} {tb : TS} {j : Nat} (Pv : Nat → L2.St → Hp → Prop) (h0 : Pv 0 σ H1) (hs : ∀ i σ' H', i < n → Pv i σ' H' → tb { E with nx := Pv (i + 1), ct := Pv (i + 1), bk := E.nx } (σ'.set j (some (.int (i : Nat)))) H') (hd : ∀ σ' H', Pv n σ' H' → E.nx σ' H') :
    ∃ k : Int, [V.int k0] = [.int k] ∧ -(2 ^ 62) ≤ k ∧ k < 2 ^ 62 ∧ ∃ W : Nat → Nat → L2.St → Hp → Prop, (∃ m, W 0 m σ H1) ∧ ∀ i m σ H, W i m σ H → ((Itr 0 k.toNat).stop i H ∧ E.nx σ H) ∨ ((Itr 0 k.toNat).go i H ∧ ∃ N : L2.St → Hp → Prop, (∀ σ' H', N σ' H' → ∃ m', m' < m ∧ W (i + 1) m' σ' H') ∧ ∀ x H', (Itr 0 k.toNat).yld i H x H' → gName j x σ H' fun σ2 H2 => tb { E with nx := N, ct := N, bk := E.nx } σ2 H2) := by
  subst hk
  exact rng_go hn Pv h0 hs hd
theorem pure_len {K : PySem.W.Frag} {i : Nat} {l : Addr} {xs : List V} {Q : VK} (hs : σ[i]? = some (some (.ref l))) (hl : H l = some (.lst xs)) (q : Q (.int (xs.length : Nat)) H) : tCB (rLenD K) (tCons (tVar i) tNil) σ H Q := ⟨_, hs, _, _, rfl, .inl ⟨_, .inl (.inl hl), rfl⟩, q⟩
theorem evr_takenP {G : Hp} {i : Nat} {K : PySem.W.Frag} {r sc : Addr} {te : TE} {m : Int} {E : XK} {Q : VK} (hs : σ[i]? = some (some (.ref r))) (h : ∀ Q' : VK, Q' (.int m) H → te σ H Q') (m0 : 0 < m) (m1 : m ≤ 1000) (st : RowSt K r sc G H) (q : ∀ (v : Nat) G2 H2, (v : Int) < m → Gq K r sc G H G2 H2 → Q (.int v) H2) : tCall (spTaken K) [] E (tCons (tVar i) (tCons te tNil)) σ H Q :=
  ⟨_, hs, h _ ⟨r, sc, G, m, rfl, m0, m1, st, fun v H3 lt g2 => q v G H3 lt g2⟩⟩
theorem pure_min {te : TE} {a b : Int} {Q : VK} (h : ∀ Q' : VK, Q' (.int b) H → te σ H Q') (q : Q (.int (if b < a then b else a)) H) : tCB (fun xs H Q => ∃ i j, xs = [.int i, .int j] ∧ Q (.int (if j < i then j else i)) H) (tCons (tC (.int a)) (tCons te tNil)) σ H Q := h _ ⟨a, b, rfl, q⟩
end
theorem Gs.fresh {L : List Addr} {p : Addr} {G H G2 H2 : Hp} (a : Gs L G H G2 H2) (h : H2 p = none) : H p = none := by
  cases z : H p with
  | none => rfl
  | some o =>
    have m : p ∉ L := fun m => a.t p m h
    have y := a.h p o m z
    rw [h] at y
    cases y
theorem Gs.ne {L : List Addr} {p x : Addr} {G H G2 H2 : Hp} (a : Gs L G H G2 H2) (h : H2 p = none) (m : x ∈ L) : p ≠ x := fun z => a.t x m (by rw [← z]; exact h)
end Sh

set_option Elab.async false
set_option linter.all false
set_option maxRecDepth 100000
set_option maxHeartbeats 1000000
/-! the law, whole -/
namespace Sh
open PySem PySem.Spec L2
open PyProof.Rows hiding St
open Evl (Ex)
section
variable {P : Program} {w : World} {K : PySem.W.Frag} {mg : Str → Option Value} {base : Heap} {CI CO : Addr}
def spLaw (K : PySem.W.Frag) : Sp := fun vs H Q _ => ∃ sc ns, vs = [.ref sc] ∧ SqL K H sc ((ns : List Int).map V.int) ∧ ∀ H2, Q (.bl true) H2
theorem keeps_law (B : Bi mg) (eo : ErrC K mg "BadOrder" CO) (ei : ErrC K mg "BadItem" CI) {f : Addr} {fd : FuncData} (F : Fun K "law" "law" s_law f fd) (K__law_taken : Keeps P w K mg base CX0 1 "_law_taken" ["row", "many"] (spTaken K)) (K__law_pick : Keeps P w K mg base CX0 2 "_law_pick" ["row", "things"] (spPick K))
    (K__law_catalog : Keeps P w K mg base CX0 3 "_law_catalog" ["row"] (spCatalog K)) (K__law_made : Keeps P w K mg base CX0 4 "_law_made" ["items", "bundles", "name", "count"] (spMade 3)) (K__law_alike : Keeps P w K mg base CX0 5 "_law_alike" ["found", "due"] (spD (domAlike 4)))
    (K_made_of : Keeps P w K mg base (L2N.CX P w) 6 "made_of" ["catalog", "bundles", "name", "count"] (spR CI domMade)) (K_opened : Keeps P w K mg base (L2N.CX P w) 6 "opened" ["catalog", "bundles", "name", "region", "wants", "by", "worth"] (spR CO domOpen)) :
    FnOk P w K mg base CX0 7 f fd ["script"] (spLaw K) := by
  refine F.ok sc_law (fun vs H Q E h => ?_) (fun cdv A outer s H vs Q E hr h => ?_)
  · obtain ⟨sc, ns, rfl, _⟩ := h
    rfl
  · obtain ⟨sc, ns, rfl, hsc, q⟩ := h
    obtain ⟨tm, htm, pr⟩ := law_each (H := H) (outer := outer) (E := E) B hr K__law_taken K__law_made K__law_alike K_made_of (law_want B hr K__law_taken K__law_pick (law_due B hr K__law_made (law_told B eo hr K__law_alike K_opened (law_odd B eo hr K__law_pick K_opened (law_wrong B ei hr K__law_pick K_made_of)))))
    refine ⟨_, (pss_cons (ps_set (i := 1) sc_law.nd rfl (.inr rfl) (pe_lst (pa_cons (pv 0) (pa_cons pe_int (pa_cons pe_int (pa_cons pe_int pa_nil))))))
    (pss_cons (ps_set (i := 2) sc_law.nd rfl (.inl rfl) (pe_callD K__law_catalog (hr.mono (by omega)) (pa_cons (pv 1) pa_nil)))
    (pss_cons (ps_par (i := 3) (j := 4) rfl sc_law.nd rfl rfl (by decide) rfl rfl (pa_cons (pe_callTy call_list_of rfl B.list bi_list (pa_cons (pe_ix ix_tup (pv 2) pe_int (fun _ _ => rfl)) pa_nil)) (pa_cons (pe_lst pa_nil) pa_nil)) (by rfl))
    (pss_cons (ps_for PassesOwn.never rfl (pi_range1 rfl B.range (pa_cons (pe_callD K__law_taken (hr.mono (by omega)) (pa_cons (pv 1) (pa_cons pe_int pa_nil))) pa_nil)) (pg_name (i := 5) sc_law.nd rfl (.inl rfl))
      (pss_cons (ps_asg (pe_tup (pa_cons (pe_op op_cat (pv 3) (pe_lc (own := [("bundle", 22)]) (g := gName 22) (tt := tYes) rfl sc_law.nd (pi_list (pv 4)) (blkOk_by (N := ["script", "row", "catalog", "items", "bundles", "at", "names", "name", "wants", "sums", "count", "due", "wrong", "parts", "turn", "told", "e", "odd", "item", "many", "one", "two", "bundle"]) (sc := defScope s_law) (by decide +kernel)) (fun _ _ _ _ _ => (pg_name (i := 22) sc_law.nd rfl (.inl rfl))) (fun _ _ _ _ _ => pts_nil) (fun _ _ _ _ _ => (pe_ix (r := rIxT K) ix_tup (pv 22) pe_int (fun _ _ => rfl))))) (pa_cons (pe_lst pa_nil) pa_nil))) (pg_tup rfl (pgs_cons (pg_name (i := 6) sc_law.nd rfl (.inr rfl)) (pgs_cons (pg_name (i := 13) sc_law.nd rfl (.inl rfl)) pgs_nil))))
    (pss_cons (ps_for PassesOwn.never rfl (pi_range1 rfl B.range (pa_cons (pe_op op_add pe_int (pe_callD K__law_taken (hr.mono (by omega)) (pa_cons (pv 1) (pa_cons (pe_callB (call_min2 rfl) rfl B.min bi_min (pa_cons pe_int (pa_cons (pe_callB call_len rfl B.len bi_len (pa_cons (pv 6) pa_nil)) pa_nil))) pa_nil)))) pa_nil)) (pg_name (i := 14) sc_law.nd rfl (.inl rfl))
      (pss_one (ps_expr (pe_bm PySem.F.plainAttrs_list PySem.F.slot_list_append PySem.F.type_list_append mt_append (pv 13) (pa_cons (pe_tup (pa_cons (pe_bm PySem.F.plainAttrs_list PySem.F.slot_list_pop PySem.F.type_list_pop mt_popAt (pv 6) (pa_cons (pe_callD K__law_taken (hr.mono (by omega)) (pa_cons (pv 1) (pa_cons (pe_callB call_len rfl B.len bi_len (pa_cons (pv 6) pa_nil)) pa_nil))) pa_nil)) (pa_cons (pe_op op_add pe_int (pe_callD K__law_taken (hr.mono (by omega)) (pa_cons (pv 1) (pa_cons pe_int pa_nil)))) pa_nil))) pa_nil)))))
    (pss_one (ps_expr (pe_bm PySem.F.plainAttrs_list PySem.F.slot_list_append PySem.F.type_list_append mt_append (pv 4) (pa_cons (pe_tup (pa_cons (pe_op op_add_str pe_str (pe_callTy call_str_int rfl B.str bi_str (pa_cons (pv 5) pa_nil))) (pa_cons (pe_callTy call_tuple_of rfl B.tuple bi_tuple (pa_cons (pv 13) pa_nil)) pa_nil))) pa_nil)))))))
    (pss_cons (ps_asg (pe_tup (pa_cons (pe_callTy call_tupF rfl B.tuple bi_tuple (pa_cons (pv 4) pa_nil)) (pa_cons (pe_op op_cat (pv 3) (pe_lc (own := [("bundle", 22)]) (g := gName 22) (tt := tYes) rfl sc_law.nd (pi_list (pv 4)) (blkOk_by (N := ["script", "row", "catalog", "items", "bundles", "at", "names", "name", "wants", "sums", "count", "due", "wrong", "parts", "turn", "told", "e", "odd", "item", "many", "one", "two", "bundle"]) (sc := defScope s_law) (by decide +kernel)) (fun _ _ _ _ _ => (pg_name (i := 22) sc_law.nd rfl (.inl rfl))) (fun _ _ _ _ _ => pts_nil) (fun _ _ _ _ _ => (pe_ix (r := rIxT K) ix_tup (pv 22) pe_int (fun _ _ => rfl))))) pa_nil))) (pg_tup rfl (pgs_cons (pg_name (i := 4) sc_law.nd rfl (.inl rfl)) (pgs_cons (pg_name (i := 6) sc_law.nd rfl (.inr rfl)) pgs_nil))))
    (by exact htm)))))), ?_⟩
    obtain ⟨G0, e0, hs0⟩ : ∃ G0 : Hp, Ex G0 H ∧ SqL K G0 sc (ns.map V.int) := ⟨H, Ex.refl _, hsc⟩
    refine go_set (go_lst (go_cons (go_var rfl (go_cons (go_c (go_cons (go_c (go_cons (go_c (go_nil ⟨Evl.sz_of (by show 4 ≤ 100000; decide), fun r hr0 => ?_⟩)))))))))) 
    have st0 : RowSt K r sc G0 (upd H r (.lst [.ref sc, .int 0, .int 7208, .int 0])) := ⟨e0.trans (Ex.new hr0), Evl.fresh_back e0 hr0, ⟨0, 7208, 0, by decide, upd_same⟩, ⟨ns, hs0⟩⟩
    refine go_set ⟨_, rfl, r, sc, G0, rfl, st0, fun vc t G1 H1 ok1 ⟨u, hu, eits⟩ dc q1 => ?_⟩
    have iok := its_ok u hu
    rw [← eits] at iok
    have items : EvD (tCB (rListD K) (tCons (tOp (rIxT K) (tVar 2) (tC (.int 2))) tNil)) [some (.ref sc), some (.ref r), some vc, none, none, none, none, none, none, none, none, none, none, none, none, none, none, none, none, none, none, none, none] G1 (.list (strL t.its)) :=
      evd_cb (ea_cons (evd_op (evd_at dc) (evd_int (i := ((2 : Nat) : Int))) (cat_items t)) ea_nil) r_listT
    refine go_parS (go_cons (items H1 q1.st.s _ fun vi G2 H2 g2 ni => go_cons (go_lst (go_nil ⟨Evl.sz_of (by show 0 ≤ 100000; decide), fun lb hlb => go_nil ⟨_, _, rfl, ?_⟩⟩))))
    have st2 := q1.st.gr g2
    have dc2 := Dn.mono g2.g _ dc
    have gsB : Gs [lb, r] G2 H2 G2 (upd H2 lb (.lst [])) := ((Gq.refl st2).gs).new hlb
    have nlb : lb ≠ r := ((Gq.refl st2).gs).ne hlb (by simp)
    have rowB : RowAt r sc (upd H2 lb (.lst [])) := RowAt.put st2.row nlb
    have ni0 := ni
    cases ni0 with
    | lst hli nli =>
      rename_i li us
      have eus := dn_strs nli
      subst eus
      -- the names of bundles that stand
      have nmsE : ∀ {σ : L2.St} {Gx : Hp} {bs : List Bun}, Dn Gx (.ref lb) (.list (bs.map bunD)) → bs.length ≤ 1000 → σ[4]? = some (some (.ref lb)) → (∀ x, (wipe ((wipe σ [22]).set 22 (some x)) [22]) = wipe σ [22]) → (∀ x, ((wipe σ [22]).set 22 (some x))[22]? = some (some x)) →
          EvD (tLc (iList K (tVar 4)) (gName 22) tYes (tOp (rIxT K) (tVar 22) (tC (.int 0))) [22]) σ Gx (.list (strL (bs.map (·.1)))) := fun {σ Gx bs} d few hs hw h22 => by
        refine evd_is (evd_lcN (r := oneOf) (ei_list (evd_at d (Ex.refl _) hs)) (by rw [List.length_map]; omega) hw (fun e he x G5 e5 nx => ?_)) ?_
        · obtain ⟨b, _, rfl⟩ := List.mem_map.mp he
          exact evd_op (evd_at nx (Ex.refl _) (h22 x)) (evd_int (i := ((0 : Nat) : Int))) (r_ixT rfl)
        · unfold strL
          rw [List.map_map, List.map_map]
          rfl
      refine go_for (go_fr (go_cons ?_))
      refine evr_taken (i := 1) (m := 4) rfl evd_int (by decide) (by decide) (gsB.row (by simp) rowB st2.scr) fun n G3 H3 ltn q3 => go_nil ?_
      have gs3 := gsB.stepQ (by simp) q3
      have hB3 : H3 lb = some (.lst []) := q3.h _ _ nlb upd_same
      refine rng_go (n := n) (by omega) (fun i σ' H' => ∃ Gi xsB bs b5 b6 b13 b14, Gs [lb, r] G2 H2 Gi H' ∧ RowAt r sc H' ∧ H' lb = some (.lst xsB) ∧ DnL Gi xsB (bs.map bunD) ∧ BInv t.its i bs ∧ σ' = [some (.ref sc), some (.ref r), some vc, some (.ref li), some (.ref lb), b5, b6, none, none, none, none, none, none, b13, b14, none, none, none, none, none, none, none, none])
        ⟨G3, [], [], none, none, none, none, gs3, q3.st.row, hB3, .nil, ⟨rfl, rfl, fun b hb => (by cases hb), fun b hb => (by cases hb)⟩, rfl⟩ (fun i σ' H' lti pv => ?_) (fun σ' H' pv => ?_)
      · obtain ⟨Gi, xsB, bs, b5, b6, b13, b14, gs, row, hB, nB, inv, rfl⟩ := pv
        have i3 : i < 3 := by omega
        have lenb := inv.len
        have dnB : Dn (upd Gi lb (.lst xsB)) (.ref lb) (.list (bs.map bunD)) := .lst upd_same (DnL.mono (Ex.new (gs.n lb (by simp))) _ nB)
        refine go_asg (go_tup (go_cons (go_op (go_var rfl ?_))))
        refine nmsE dnB (by omega) rfl (fun _ => rfl) (fun _ => rfl) H' (Ex.lend gs.s hB) _ fun v2 Gx H4 g4 n4 => ?_
        cases n4 with
        | lst h41 h42 =>
          rename_i b2 us2
          have e2 := dn_strs h42
          subst e2
          have gs4 := gs.step (Gr.grow gs.s g4.h)
          have hli4 : H4 li = some (.lst (t.its.map V.str)) := g4.h _ _ (gs.s _ _ (gs.g _ _ hli))
          have known : (t.its.map V.str ++ (bs.map (·.1)).map V.str) = (t.its ++ bs.map (·.1)).map V.str := List.map_append.symm
          have klen : (t.its ++ bs.map (·.1)).length = t.its.length + i := by rw [List.length_append, List.length_map, lenb]
          refine ⟨li, b2, _, _, rfl, rfl, hli4, g4.s _ _ h41, ?_, fun ln hln => ?_⟩
          · rw [List.length_map, List.length_map, List.length_map, lenb]
            exact Nat.le_trans (show _ ≤ 10 by have := iok.1; omega) (by decide)
          · rw [known]
            refine go_cons (go_lst (go_nil ⟨Evl.sz_of (by show 0 ≤ 100000; decide), fun lp hlp => go_nil ⟨Evl.sz_of (by show 2 ≤ 100000; decide), fun pt hpt => ?_⟩⟩))
            have gs5 := gs4.new (o := .lst ((t.its ++ bs.map (·.1)).map V.str)) hln
            have gs6 := gs5.new (o := .lst []) hlp
            have gs7 := gs6.step (Gr.loose (o := .tup [.ref ln, .ref lp]) gs6.s hpt)
            have n1 : ln ≠ lb := gs4.ne hln (by simp)
            have n2 : ln ≠ r := gs4.ne hln (by simp)
            have n3 : lp ≠ ln := gs5.ne hlp (by simp)
            have n4 : lp ≠ lb := gs5.ne hlp (by simp)
            have n5 : lp ≠ r := gs5.ne hlp (by simp)
            have p1 : pt ≠ lp := gs6.ne hpt (by simp)
            have p2 : pt ≠ ln := gs6.ne hpt (by simp)
            have p3 : pt ≠ lb := gs6.ne hpt (by simp)
            have p4 : pt ≠ r := gs6.ne hpt (by simp)
            have fl : H2 lp = none := gs5.fresh hlp
            have fn : H2 ln = none := gs4.fresh hln
            have row4 : RowAt r sc H4 := RowAt.gr row (Gr.grow gs.s g4.h)
            have row7 : RowAt r sc (upd (upd (upd H4 ln (.lst ((t.its ++ bs.map (·.1)).map V.str))) lp (.lst [])) pt (.tup [.ref ln, .ref lp])) := RowAt.put (RowAt.put (RowAt.put row4 n2) n5) p4
            have hln7 : (upd (upd (upd H4 ln (.lst ((t.its ++ bs.map (·.1)).map V.str))) lp (.lst [])) pt (.tup [.ref ln, .ref lp])) ln = some (.lst ((t.its ++ bs.map (·.1)).map V.str)) := by
              rw [upd_ne (fun z => p2 z.symm), upd_ne (fun z => n3 z.symm), upd_same]
            have hlp7 : (upd (upd (upd H4 ln (.lst ((t.its ++ bs.map (·.1)).map V.str))) lp (.lst [])) pt (.tup [.ref ln, .ref lp])) lp = some (.lst []) := by
              rw [upd_ne (fun z => p1 z.symm), upd_same]
            have hB7 : (upd (upd (upd H4 ln (.lst ((t.its ++ bs.map (·.1)).map V.str))) lp (.lst [])) pt (.tup [.ref ln, .ref lp])) lb = some (.lst xsB) := by
              rw [upd_ne (fun z => p3 z.symm), upd_ne (fun z => n4 z.symm), upd_ne (fun z => n1 z.symm)]
              exact g4.h _ _ hB
            refine ⟨pt, _, rfl, .inl (.inl upd_same), rfl, _, _, rfl, _, _, rfl, rfl, ?_⟩
            generalize (upd (upd (upd H4 ln (.lst ((t.its ++ bs.map (·.1)).map V.str))) lp (.lst [])) pt (.tup [.ref ln, .ref lp])) = H7 at gs7 row7 hln7 hlp7 hB7
            refine go_for (go_fr (go_cons (go_op (go_c ?_))))
            have k0 : 0 < (t.its ++ bs.map (·.1)).length := by have := iok.2.1; omega
            have k6 : (t.its ++ bs.map (·.1)).length ≤ 6 := by have := iok.1; omega
            have mapl : ((t.its ++ bs.map (·.1)).map V.str).length = (t.its ++ bs.map (·.1)).length := List.length_map _
            have knd : (t.its ++ bs.map (·.1)).Nodup := List.nodup_append.mpr ⟨ok1.its.nd, nd_names inv.ok, fun x hx y hy z => by
              rw [inv.names] at hy
              obtain ⟨k, hk, e⟩ := List.mem_map.mp hy
              have hk' := List.mem_range.mp hk
              rw [z, ← e, eits] at hx
              exact bnm_it u hu k (by omega) hx⟩
            have stepB : ∀ {n : Nat} {left : List Str} {ps : List (Str × Int)}, PInv (t.its ++ bs.map (·.1)) n left ps → 1 ≤ n → n ≤ 3 → BInv t.its (i + 1) (bs ++ [(bnm i, ps)]) := fun p h1 h3 => inv.step i3 hu eits p h1 h3
            generalize (t.its ++ bs.map (·.1)) = known at gs5 gs6 gs7 row7 hln7 k0 k6 mapl knd stepB
            refine evr_takenP (i := 1) (m := if ((known.length : Nat) : Int) < 3 then ((known.length : Nat) : Int) else 3) rfl (fun Q' q' => pure_min (a := 3) (b := (known.length : Nat)) (fun Q2 q2 => pure_len rfl hln7 (by rw [mapl]; exact q2)) q') (by split <;> omega) (by split <;> omega) (gs7.row (by simp) row7 st2.scr) fun v G8 H8 ltv q8 => ⟨_, _, rfl, rfl, go_nil ?_⟩
            have hv : 1 + v ≤ 3 ∧ 1 + v ≤ known.length := by split at ltv <;> omega
            have gs8 := gs7.stepQ (by simp) q8
            refine rngK_go (n := 1 + v) (k0 := 1 + (v : Nat)) (by omega) (by omega) (fun k σ' H' => ∃ Gj left ps xsP c14, Gs [lp, ln, lb, r] G2 H2 Gj H' ∧ Ex G8 Gj ∧ RowAt r sc H' ∧ H' ln = some (.lst (left.map V.str)) ∧ H' lp = some (.lst xsP) ∧ DnL Gj xsP (ps.map pairD) ∧ H' lb = some (.lst xsB) ∧ PInv known k left ps ∧ σ' = [some (.ref sc), some (.ref r), some vc, some (.ref li), some (.ref lb), some (.int (i : Nat)), some (.ref ln), none, none, none, none, none, none, some (.ref lp), c14, none, none, none, none, none, none, none, none])
              ⟨G8, known, [], [], b14, gs8, Ex.refl _, q8.st.row, q8.h _ _ n2 hln7, q8.h _ _ n5 hlp7, .nil, q8.h _ _ nlb hB7, ⟨knd, fun x hx => hx, by omega, rfl, fun z hz => (by cases hz), fun z hz => (by cases hz)⟩, rfl⟩ (fun k σ' H' ltk pv => ?_) (fun σ' H' pv => ?_)
            · obtain ⟨Gj, left, ps, xsP, c14, gj, ex8, rowj, hL, hP, nP, hBj, pinv, rfl⟩ := pv
              have lenl := pinv.len
              have cnt := pinv.cnt
              have l0 : 0 < left.length := by omega
              refine go_drop (go_bm (go_var rfl ⟨.inl ⟨rfl, _, .inl (.inl hP)⟩, go_cons (go_tup (go_cons (go_bm (go_var rfl ⟨.inl ⟨rfl, _, .inl (.inl hL)⟩, go_cons ?_⟩))))⟩))
              refine evr_takenP (i := 1) (m := (left.length : Nat)) rfl (fun Q' q' => pure_len rfl hL (by rw [List.length_map]; exact q')) (by omega) (by omega) (gj.row (by simp) rowj st2.scr) fun a G9 H9 lta q9 => go_nil ?_
              have lta' : a < left.length := by omega
              obtain ⟨x, hx⟩ : ∃ x, left[a]? = some x := ⟨_, List.getElem?_eq_getElem lta'⟩
              have gs9 := gj.stepQ (by simp) q9
              refine ⟨ln, left.map V.str, (a : Nat), a, .str x, rfl, rfl, q9.h _ _ n2 hL, by omega, by omega, by rw [List.length_map]; exact seq_at lta', by rw [List.getElem?_map, hx]; rfl, ?_⟩
              rw [erase_map]
              have gs10 := gs9.put (o := .lst ((left.eraseIdx a).map V.str)) (p := ln) (by simp)
              have row10 : RowAt r sc (upd H9 ln (.lst ((left.eraseIdx a).map V.str))) := RowAt.put q9.st.row n2
              have hL10 : (upd H9 ln (.lst ((left.eraseIdx a).map V.str))) ln = some (.lst ((left.eraseIdx a).map V.str)) := upd_same
              have hP10 : (upd H9 ln (.lst ((left.eraseIdx a).map V.str))) lp = some (.lst xsP) := by
                rw [upd_ne n3]
                exact q9.h _ _ n5 hP
              have hB10 : (upd H9 ln (.lst ((left.eraseIdx a).map V.str))) lb = some (.lst xsB) := by
                rw [upd_ne (fun z => n1 z.symm)]
                exact q9.h _ _ nlb hBj
              refine go_cons (go_op (go_c ?_))
              refine evr_taken (i := 1) (m := 3) rfl evd_int (by decide) (by decide) (gs10.row (by simp) row10 st2.scr) fun c G11 H11 ltc q11 => ⟨_, _, rfl, rfl, go_nil ⟨Evl.sz_of (by show 2 ≤ 100000; decide), fun pq hpq => go_nil ?_⟩⟩
              have gs11 := gs10.stepQ (by simp) q11
              have g12 := Gr.new (o := .tup [.str x, .int (1 + (c : Nat))]) gs11.s hpq
              have gs12 := gs11.step g12
              have hP12 := g12.h _ _ (q11.h _ _ n5 hP10)
              refine ⟨lp, xsP, _, rfl, rfl, hP12, Nat.lt_of_le_of_lt (show xsP.length ≤ 6 by rw [nP.length, List.length_map]; omega) (by decide), ?_⟩
              refine ⟨_, left.eraseIdx a, ps ++ [((x, 1 + ((c : Nat) : Int)) : Str × Int)], _, _, gs12.put (by simp), ((ex8.trans q9.g).trans q11.g).trans g12.g, RowAt.put (RowAt.gr q11.st.row g12) n5, ?_, upd_same, ?_, ?_, pinv.step hx (by omega) (by omega), rfl⟩
              · rw [upd_ne (fun z => n3 z.symm)]
                exact g12.h _ _ (q11.h _ _ n2 hL10)
              · rw [List.map_append]
                exact (DnL.mono ((q9.g.trans q11.g).trans g12.g) _ nP).snoc (.tup (.inl upd_same) (.cons (.str x) (.cons (.int _) .nil)))
              · rw [upd_ne (fun z => n4 z.symm)]
                exact g12.h _ _ (q11.h _ _ nlb hB10)
            · obtain ⟨Gj, left, ps, xsP, c14, gj, ex8, rowj, hL, hP, nP, hBj, pinv, rfl⟩ := pv
              have inv2 := stepB pinv (by omega) hv.1
              have lg : (((i : Nat) : Int)).natAbs.log2 < 1920 := by
                have z : (((i : Nat) : Int)).natAbs < 6 := by omega
                exact Nat.lt_of_le_of_lt (Nat.log2_le_self _) (by omega)
              refine go_drop (go_bm (go_var (v := .ref lb) rfl ⟨.inl ⟨rfl, xsB, .inl (.inl hBj)⟩, ?_⟩))
              refine go_cons (go_tup (go_cons (go_op (go_c (go_cb (go_cons (go_var rfl (go_nil ⟨((i : Nat) : Int), rfl, lg, _, _, rfl, rfl, bnm_sz i (by omega), ?_⟩))))))))
              refine go_cons (go_cb (go_cons (go_var rfl (go_nil ⟨lp, xsP, rfl, .inl ⟨.inl (.inl hP), fun pp hpp => go_nil ⟨Evl.sz_of (by show 2 ≤ 100000; decide), fun pb hpb => go_nil ?_⟩⟩⟩))))
              have g1 := Gr.new (o := .tup xsP) gj.s hpp
              have gj1 := gj.step g1
              have g2' := Gr.new (o := .tup [.str (bnm i), .ref pp]) gj1.s hpb
              have gj2 := gj1.step g2'
              have hB2 := g2'.h _ _ (g1.h _ _ hBj)
              have nB' : DnL Gj xsB (bs.map bunD) := DnL.mono (q8.g.trans ex8) _ nB
              refine ⟨lb, xsB, _, rfl, rfl, hB2, Nat.lt_of_le_of_lt (show xsB.length ≤ 6 by rw [nB'.length, List.length_map]; omega) (by decide), ?_⟩
              have gj3 := gj2.put (o := .lst (xsB ++ [.ref pb])) (p := lb) (by simp)
              have hl3 : (upd (upd (upd H' pp (.tup xsP)) pb (.tup [.str (bnm i), .ref pp])) lb (.lst (xsB ++ [.ref pb]))) lp = some (.lst xsP) := by
                rw [upd_ne n4]
                exact g2'.h _ _ (g1.h _ _ hP)
              have hn3 : (upd (upd (upd H' pp (.tup xsP)) pb (.tup [.str (bnm i), .ref pp])) lb (.lst (xsB ++ [.ref pb]))) ln = some (.lst (left.map V.str)) := by
                rw [upd_ne n1]
                exact g2'.h _ _ (g1.h _ _ hL)
              have c1 := gj3.close fl hl3 (by simp [n3, n4, n5])
              have c2 := c1.close fn hn3 (by simp [n1, n2])
              have ups : Ex (upd (upd Gj pp (.tup xsP)) pb (.tup [.str (bnm i), .ref pp])) (upd (upd (upd (upd Gj pp (.tup xsP)) pb (.tup [.str (bnm i), .ref pp])) lp (.lst xsP)) ln (.lst (left.map V.str))) := (Ex.new (gj2.n lp (by simp))).trans (Ex.new (c1.n ln (by simp)))
              refine ⟨_, _, bs ++ [(bnm i, ps)], _, _, _, _, c2, RowAt.put (RowAt.gr (RowAt.gr rowj g1) g2') nlb, upd_same, ?_, inv2, rfl⟩
              rw [List.map_append]
              refine (DnL.mono ((g1.g.trans g2'.g).trans ups) _ nB').snoc (Dn.mono ups _ (.tup (.inl upd_same) (.cons (.str _) (.cons (Dn.mono g2'.g _ (.tup (.inl upd_same) (DnL.mono g1.g _ nP))) .nil))))
      · obtain ⟨Gi, xsB, bs, b5, b6, b13, b14, gs, row, hB, nB, inv, rfl⟩ := pv
        have lenb := inv.len
        have hlb2 : H2 lb = none := hlb
        have gc := gs.close hlb2 hB (by simp [nlb])
        have stc := gc.row (by simp) row st2.scr
        have upB : Ex Gi (upd Gi lb (.lst xsB)) := Ex.new (gs.n lb (by simp))
        have dnB : Dn (upd Gi lb (.lst xsB)) (.ref lb) (.list (bs.map bunD)) := .lst upd_same (DnL.mono upB _ nB)
        have nB2 : DnL (upd Gi lb (.lst xsB)) xsB (bs.map bunD) := DnL.mono upB _ nB
        generalize upd Gi lb (.lst xsB) = Gc at gc stc dnB nB2
        dsimp only
        refine go_asg (go_tup (go_cons (go_cb (go_cons (go_var rfl (go_nil ⟨lb, xsB, rfl, .inl (.inl hB), fun pl o hpl hd => ?_⟩))))))
        have g1 := Gr.new (o := .frz o (.tup xsB)) gc.s hpl
        refine go_cons (go_op (go_var rfl ?_))
        refine nmsE (Dn.mono g1.g _ dnB) (by omega) rfl (fun _ => rfl) (fun _ => rfl) _ g1.s _ fun v2 Gx H4 g4 n4 => ?_
        cases n4 with
        | lst h41 h42 =>
          rename_i b2 us2
          have e2 := dn_strs h42
          subst e2
          have hli4 : H4 li = some (.lst (t.its.map V.str)) := g4.h _ _ (g1.h _ _ (gc.s _ _ (gc.g _ _ hli)))
          have known : (t.its.map V.str ++ (bs.map (·.1)).map V.str) = (t.its ++ bs.map (·.1)).map V.str := List.map_append.symm
          refine ⟨li, b2, _, _, rfl, rfl, hli4, g4.s _ _ h41, ?_, fun ln hln => ?_⟩
          · rw [List.length_map, List.length_map, List.length_map, lenb]
            exact Nat.le_trans (show _ ≤ 10 by have := iok.1; omega) (by decide)
          · rw [known]
            have g5 := Gr.new (o := .lst ((t.its ++ bs.map (·.1)).map V.str)) g4.s hln
            refine go_nil ⟨Evl.sz_of (by show 2 ≤ 100000; decide), fun pt hpt => ?_⟩
            have g6 := Gr.loose (o := .tup [.ref pl, .ref ln]) g5.s hpt
            refine ⟨pt, _, rfl, .inl (.inl upd_same), rfl, _, _, rfl, _, _, rfl, rfl, ?_⟩
            have gg := (g1.trans g4).trans (g5.trans g6)
            have ex2 := gc.g.trans gg.g
            refine pr r sc t bs vc (.ref li) (.ref pl) (.ref ln) _ _ _ _ _ _ _ _ _ _ _ _ _ _ _ _ ⟨stc.gr gg, ok1, Dn.mono ex2 _ dc2, Dn.mono ex2 _ ni, ⟨pl, o, xsB, rfl, (g4.g.trans (g5.g.trans g6.g)) _ _ upd_same, hd, DnL.mono gg.g _ nB2⟩, inv.dom (by omega), inv.ok, by omega, iok.1, iok.2.2.1, fun z => ?_, iok.2.2.2.2⟩ (.lst (g6.g _ _ upd_same) (strs_dn _)) q
            rcases List.mem_append.mp z with z | z
            · exact iok.2.2.2.1 z
            · rw [inv.names] at z
              obtain ⟨k, hk, e⟩ := List.mem_map.mp z
              have hk' := List.mem_range.mp hk
              exact bnm_none k (by omega) e.symm
end
end Sh

set_option Elab.async false
set_option linter.all false
set_option maxRecDepth 100000
set_option maxHeartbeats 0
/-! the end: what stands in the heap behind the top, and the law -/
namespace Sh
open PySem PySem.Spec PyProof.Rows L2

def df_is_between : He.DefD := ⟨("is_between", none), "is_between", "is_between", defArgs s_is_between, defBody s_is_between, defScope s_is_between, [], []⟩
def df_is_row : He.DefD := ⟨("is_row", none), "is_row", "is_row", defArgs s_is_row, defBody s_is_row, defScope s_is_row, [], []⟩
def df_are_unlike : He.DefD := ⟨("are_unlike", none), "are_unlike", "are_unlike", defArgs s_are_unlike, defBody s_are_unlike, defScope s_are_unlike, [], []⟩
def df_is_name : He.DefD := ⟨("is_name", none), "is_name", "is_name", defArgs s_is_name, defBody s_is_name, defScope s_is_name, [], []⟩
def df_are_names : He.DefD := ⟨("are_names", none), "are_names", "are_names", defArgs s_are_names, defBody s_are_names, defScope s_are_names, [], []⟩
def df_is_lane : He.DefD := ⟨("is_lane", none), "is_lane", "is_lane", defArgs s_is_lane, defBody s_is_lane, defScope s_is_lane, [], []⟩
def df_are_lanes : He.DefD := ⟨("are_lanes", none), "are_lanes", "are_lanes", defArgs s_are_lanes, defBody s_are_lanes, defScope s_are_lanes, [], []⟩
def df_is_supply : He.DefD := ⟨("is_supply", none), "is_supply", "is_supply", defArgs s_is_supply, defBody s_is_supply, defScope s_is_supply, [], []⟩
def df_are_supplies : He.DefD := ⟨("are_supplies", none), "are_supplies", "are_supplies", defArgs s_are_supplies, defBody s_are_supplies, defScope s_are_supplies, [], []⟩
def df_is_catalog : He.DefD := ⟨("is_catalog", none), "is_catalog", "is_catalog", defArgs s_is_catalog, defBody s_is_catalog, defScope s_is_catalog, [], []⟩
def df_check_catalog : He.DefD := ⟨("check_catalog", none), "check_catalog", "check_catalog", defArgs s_check_catalog, defBody s_check_catalog, defScope s_check_catalog, [], []⟩
def df_is_part : He.DefD := ⟨("is_part", none), "is_part", "is_part", defArgs s_is_part, defBody s_is_part, defScope s_is_part, [], []⟩
def df_is_bundle : He.DefD := ⟨("is_bundle", none), "is_bundle", "is_bundle", defArgs s_is_bundle, defBody s_is_bundle, defScope s_is_bundle, [], []⟩
def df_are_bundles : He.DefD := ⟨("are_bundles", none), "are_bundles", "are_bundles", defArgs s_are_bundles, defBody s_are_bundles, defScope s_are_bundles, [], []⟩
def df_check_bundles : He.DefD := ⟨("check_bundles", none), "check_bundles", "check_bundles", defArgs s_check_bundles, defBody s_check_bundles, defScope s_check_bundles, [], []⟩
def df_counts_of : He.DefD := ⟨("counts_of", none), "counts_of", "counts_of", defArgs s_counts_of, defBody s_counts_of, defScope s_counts_of, [], []⟩
def df_table_of : He.DefD := ⟨("table_of", none), "table_of", "table_of", defArgs s_table_of, defBody s_table_of, defScope s_table_of, [], []⟩
def df_is_want : He.DefD := ⟨("is_want", none), "is_want", "is_want", defArgs s_is_want, defBody s_is_want, defScope s_is_want, [], []⟩
def df_needed : He.DefD := ⟨("needed", none), "needed", "needed", defArgs s_needed, defBody s_needed, defScope s_needed, [], []⟩
def df_made_of : He.DefD := ⟨("made_of", none), "made_of", "made_of", defArgs s_made_of, defBody s_made_of, defScope s_made_of, [], []⟩
def df_opened : He.DefD := ⟨("opened", none), "opened", "opened", defArgs s_opened, defBody s_opened, defScope s_opened, [], []⟩
def df__law_taken : He.DefD := ⟨("_law_taken", none), "_law_taken", "_law_taken", defArgs s__law_taken, defBody s__law_taken, defScope s__law_taken, [], []⟩
def df__law_pick : He.DefD := ⟨("_law_pick", none), "_law_pick", "_law_pick", defArgs s__law_pick, defBody s__law_pick, defScope s__law_pick, [], []⟩
def df__law_alike : He.DefD := ⟨("_law_alike", none), "_law_alike", "_law_alike", defArgs s__law_alike, defBody s__law_alike, defScope s__law_alike, [], []⟩
def df__law_catalog : He.DefD := ⟨("_law_catalog", none), "_law_catalog", "_law_catalog", defArgs s__law_catalog, defBody s__law_catalog, defScope s__law_catalog, [], []⟩
def df__law_made : He.DefD := ⟨("_law_made", none), "_law_made", "_law_made", defArgs s__law_made, defBody s__law_made, defScope s__law_made, [], []⟩
def df_law : He.DefD := ⟨("law", none), "law", "law", defArgs s_law, defBody s_law, defScope s_law, [], []⟩
def fnE : List He.DefD := [df_is_between, df_is_row, df_are_unlike, df_is_name, df_are_names, df_is_lane, df_are_lanes, df_is_supply, df_are_supplies, df_is_catalog, df_check_catalog, df_is_part, df_is_bundle, df_are_bundles, df_check_bundles, df_counts_of, df_table_of, df_is_want, df_needed, df_made_of, df_opened, df__law_taken, df__law_pick, df__law_alike, df__law_catalog, df__law_made, df_law]
def faE : List He.Fa := [.free "isinstance", .free "int", .free "bool", .free "str", .free "tuple", .free "list", .free "dict", .free "set", .free "len", .free "all", .free "any", .free "sum", .free "range", .free "zip", .free "min", .str "LETTERS" LET, .str "SIGNS" SIG, .glo "BadOrder", .glo "BadItem", .exc "BadOrder", .exc "BadItem", .exm "BadOrder" "BadOrder" true, .exm "BadItem" "BadItem" true, .glo "is_between", .glo "is_row", .glo "are_unlike", .glo "is_name", .glo "are_names", .glo "is_lane", .glo "are_lanes", .glo "is_supply", .glo "are_supplies", .glo "is_catalog", .glo "check_catalog", .glo "is_part", .glo "is_bundle", .glo "are_bundles", .glo "check_bundles", .glo "counts_of", .glo "table_of", .glo "is_want", .glo "needed", .glo "made_of", .glo "opened", .glo "_law_taken", .glo "_law_pick", .glo "_law_alike", .glo "_law_catalog", .glo "_law_made", .glo "law"]
abbrev RE : PySem.W.OpenRow := PySem.W.OpenLaw.row PySem.Challenge.rw_surehouse_k08_whole_bundles
abbrev hkE : PySem.W.Hook := He.hookD 4 faE fnE
def obE (s : PySem.W.SharedT) : He.AlD := He.obsDG 4 faE fnE (HandSHeadRun.getT s)
theorem obE_eq (s : PySem.W.SharedT) : obE s = hkE.obs s.abs := He.obsDG_eq (HandSHeadRun.getT_eq s)
def namesE : List PySem.Str := ["ShopError", "BadCatalog", "BadOrder", "BadItem", "LETTERS", "SIGNS", "is_between", "is_row", "are_unlike", "is_name", "are_names", "is_lane", "are_lanes", "is_supply", "are_supplies", "is_catalog", "check_catalog", "is_part", "is_bundle", "are_bundles", "check_bundles", "counts_of", "table_of", "is_want", "needed", "made_of", "opened", "_law_taken", "_law_pick", "_law_alike", "_law_catalog", "_law_made"]
theorem runE (w : World) : HandSHeadRun.RunEq RE (PySem.W.view RE.prog [36]) hkE obE 6000 namesE w := by
  intro os
  kernel_rfl
theorem fun_of {K : PySem.W.Frag} {x : Str} {st : Stmt} {f : Addr} {fd : FuncData} (F : FunD K x x (defArgs st) (defBody st) (defScope st) [] [] f fd) : Fun K x x st f fd := by
  obtain ⟨oc, od, dV, kV, doc, pm, an, cdv, ct, osl, rfl, lk, hcd, hd, _⟩ := F.ex
  rcases hd with ⟨_, e⟩ | ⟨n, _⟩
  · subst e
    exact ⟨⟨oc, od, kV, doc, pm, an, cdv, ct, osl, rfl, lk, hcd⟩, F.kp⟩
  · exact absurd rfl n
theorem stands_of {K : PySem.W.Frag} {mg : Str → Option Value} {x : Str} {st : Stmt} {ps : List Str} {fd : FuncData} (F : FunD K x x (defArgs st) (defBody st) (defScope st) [] [] (He.fAd K (x, none)) fd) (g : mg x = some (.ref (He.ga K x)))
    (h : ∀ (kV doc pm : Value) (an : Option Addr) (cdv ct : Value) (us : List Value), us.length = ps.length → bindArgs (PySem.W.fnOf x x (defArgs st) (defBody st) (defScope st) .none kV doc pm an cdv ct) ⟨us, []⟩ = pure (ps.zip us)) : Stands K mg x st ps := by
  obtain ⟨oc, od, dV, kV, doc, pm, an, cdv, ct, osl, rfl, lk, hcd, hd, _⟩ := F.ex
  rcases hd with ⟨_, e⟩ | ⟨n, _⟩
  · subst e
    have G : Fun K x x st (He.ga K x) (PySem.W.fnOf x x (defArgs st) (defBody st) (defScope st) .none kV doc pm an cdv ct) := ⟨⟨oc, od, kV, doc, pm, an, cdv, ct, osl, rfl, lk, hcd⟩, F.kp⟩
    exact ⟨_, _, G, g, G.binds h⟩
  · exact absurd rfl n
theorem err_of {K : PySem.W.Frag} {mg : Str → Option Value} {x : Str} (g : mg x = some (.ref (He.ga K x))) (e : (He.Fa.exc x).ok K = true) (m : (He.Fa.exm x x true).ok K = true) : ErrC K mg x (He.ga K x) := by
  obtain ⟨h1, h2, h3, h4⟩ := He.exc_ok e
  exact ⟨⟨_, _, _, _, PySem.F.excBase_ValueError, h1⟩, g, h2, h3, h4, He.exm_ok m⟩

theorem factsE {P : Program} {w : World} {K : PySem.W.Frag} {h : Heap} {mg : Str → Option Value} {f : Addr} (X : K.In h) (G : h.Ns mainGlobals mg) (hfa : mg ("law" : Str) = some (.ref f)) (c : He.SaysD faE fnE K) :
    ∃ fd : FuncData, (∀ (s : Shared) (v : Value), BindsTo s fd ⟨[v], []⟩ [("script", v)]) ∧ ∀ base : Heap, K.In base → base.Ns mainGlobals mg → FnOk P w K mg base CX0 7 f fd ["script"] (spLaw K) := by
  have B : Bi mg := ⟨He.free_ok X G (c.fact 0 (f := .free "isinstance") rfl), He.free_ok X G (c.fact 1 (f := .free "int") rfl), He.free_ok X G (c.fact 2 (f := .free "bool") rfl), He.free_ok X G (c.fact 3 (f := .free "str") rfl), He.free_ok X G (c.fact 4 (f := .free "tuple") rfl), He.free_ok X G (c.fact 5 (f := .free "list") rfl), He.free_ok X G (c.fact 6 (f := .free "dict") rfl), He.free_ok X G (c.fact 7 (f := .free "set") rfl), He.free_ok X G (c.fact 8 (f := .free "len") rfl), He.free_ok X G (c.fact 9 (f := .free "all") rfl), He.free_ok X G (c.fact 10 (f := .free "any") rfl), He.free_ok X G (c.fact 11 (f := .free "sum") rfl), He.free_ok X G (c.fact 12 (f := .free "range") rfl), He.free_ok X G (c.fact 13 (f := .free "zip") rfl), He.free_ok X G (c.fact 14 (f := .free "min") rfl)⟩
  have C : Abc mg := ⟨He.str_ok X G (c.fact 15 (f := .str "LETTERS" LET) rfl), He.str_ok X G (c.fact 16 (f := .str "SIGNS" SIG) rfl)⟩
  have eo : ErrC K mg "BadOrder" (He.ga K "BadOrder") := err_of (He.glo_ok X G (c.fact 17 (f := .glo "BadOrder") rfl)) (c.fact 19 (f := .exc "BadOrder") rfl) (c.fact 21 (f := .exm "BadOrder" "BadOrder" true) rfl)
  have ei : ErrC K mg "BadItem" (He.ga K "BadItem") := err_of (He.glo_ok X G (c.fact 18 (f := .glo "BadItem") rfl)) (c.fact 20 (f := .exc "BadItem") rfl) (c.fact 22 (f := .exm "BadItem" "BadItem" true) rfl)
  obtain ⟨fd_is_between, F_is_between⟩ := c.def_ 0 (d := df_is_between) rfl
  have S_is_between : Stands K mg "is_between" s_is_between ["value", "low", "high"] := stands_of F_is_between (He.glo_ok X G (c.fact 23 (f := .glo "is_between") rfl)) fun _ _ _ _ _ _ us hl => match us, hl with | [_, _, _], _ => rfl
  obtain ⟨fd_is_row, F_is_row⟩ := c.def_ 1 (d := df_is_row) rfl
  have S_is_row : Stands K mg "is_row" s_is_row ["value", "least", "most"] := stands_of F_is_row (He.glo_ok X G (c.fact 24 (f := .glo "is_row") rfl)) fun _ _ _ _ _ _ us hl => match us, hl with | [_, _, _], _ => rfl
  obtain ⟨fd_are_unlike, F_are_unlike⟩ := c.def_ 2 (d := df_are_unlike) rfl
  have S_are_unlike : Stands K mg "are_unlike" s_are_unlike ["keys"] := stands_of F_are_unlike (He.glo_ok X G (c.fact 25 (f := .glo "are_unlike") rfl)) fun _ _ _ _ _ _ us hl => match us, hl with | [_], _ => rfl
  obtain ⟨fd_is_name, F_is_name⟩ := c.def_ 3 (d := df_is_name) rfl
  have S_is_name : Stands K mg "is_name" s_is_name ["value"] := stands_of F_is_name (He.glo_ok X G (c.fact 26 (f := .glo "is_name") rfl)) fun _ _ _ _ _ _ us hl => match us, hl with | [_], _ => rfl
  obtain ⟨fd_are_names, F_are_names⟩ := c.def_ 4 (d := df_are_names) rfl
  have S_are_names : Stands K mg "are_names" s_are_names ["value", "least", "most"] := stands_of F_are_names (He.glo_ok X G (c.fact 27 (f := .glo "are_names") rfl)) fun _ _ _ _ _ _ us hl => match us, hl with | [_, _, _], _ => rfl
  obtain ⟨fd_is_lane, F_is_lane⟩ := c.def_ 5 (d := df_is_lane) rfl
  have S_is_lane : Stands K mg "is_lane" s_is_lane ["houses", "regions", "value"] := stands_of F_is_lane (He.glo_ok X G (c.fact 28 (f := .glo "is_lane") rfl)) fun _ _ _ _ _ _ us hl => match us, hl with | [_, _, _], _ => rfl
  obtain ⟨fd_are_lanes, F_are_lanes⟩ := c.def_ 6 (d := df_are_lanes) rfl
  have S_are_lanes : Stands K mg "are_lanes" s_are_lanes ["houses", "regions", "value"] := stands_of F_are_lanes (He.glo_ok X G (c.fact 29 (f := .glo "are_lanes") rfl)) fun _ _ _ _ _ _ us hl => match us, hl with | [_, _, _], _ => rfl
  obtain ⟨fd_is_supply, F_is_supply⟩ := c.def_ 7 (d := df_is_supply) rfl
  have S_is_supply : Stands K mg "is_supply" s_is_supply ["houses", "items", "value"] := stands_of F_is_supply (He.glo_ok X G (c.fact 30 (f := .glo "is_supply") rfl)) fun _ _ _ _ _ _ us hl => match us, hl with | [_, _, _], _ => rfl
  obtain ⟨fd_are_supplies, F_are_supplies⟩ := c.def_ 8 (d := df_are_supplies) rfl
  have S_are_supplies : Stands K mg "are_supplies" s_are_supplies ["houses", "items", "value"] := stands_of F_are_supplies (He.glo_ok X G (c.fact 31 (f := .glo "are_supplies") rfl)) fun _ _ _ _ _ _ us hl => match us, hl with | [_, _, _], _ => rfl
  obtain ⟨fd_is_catalog, F_is_catalog⟩ := c.def_ 9 (d := df_is_catalog) rfl
  have S_is_catalog : Stands K mg "is_catalog" s_is_catalog ["value"] := stands_of F_is_catalog (He.glo_ok X G (c.fact 32 (f := .glo "is_catalog") rfl)) fun _ _ _ _ _ _ us hl => match us, hl with | [_], _ => rfl
  obtain ⟨fd_check_catalog, F_check_catalog⟩ := c.def_ 10 (d := df_check_catalog) rfl
  have S_check_catalog : Stands K mg "check_catalog" s_check_catalog ["catalog"] := stands_of F_check_catalog (He.glo_ok X G (c.fact 33 (f := .glo "check_catalog") rfl)) fun _ _ _ _ _ _ us hl => match us, hl with | [_], _ => rfl
  obtain ⟨fd_is_part, F_is_part⟩ := c.def_ 11 (d := df_is_part) rfl
  have S_is_part : Stands K mg "is_part" s_is_part ["known", "value"] := stands_of F_is_part (He.glo_ok X G (c.fact 34 (f := .glo "is_part") rfl)) fun _ _ _ _ _ _ us hl => match us, hl with | [_, _], _ => rfl
  obtain ⟨fd_is_bundle, F_is_bundle⟩ := c.def_ 12 (d := df_is_bundle) rfl
  have S_is_bundle : Stands K mg "is_bundle" s_is_bundle ["known", "value"] := stands_of F_is_bundle (He.glo_ok X G (c.fact 35 (f := .glo "is_bundle") rfl)) fun _ _ _ _ _ _ us hl => match us, hl with | [_, _], _ => rfl
  obtain ⟨fd_are_bundles, F_are_bundles⟩ := c.def_ 13 (d := df_are_bundles) rfl
  have S_are_bundles : Stands K mg "are_bundles" s_are_bundles ["items", "value"] := stands_of F_are_bundles (He.glo_ok X G (c.fact 36 (f := .glo "are_bundles") rfl)) fun _ _ _ _ _ _ us hl => match us, hl with | [_, _], _ => rfl
  obtain ⟨fd_check_bundles, F_check_bundles⟩ := c.def_ 14 (d := df_check_bundles) rfl
  have S_check_bundles : Stands K mg "check_bundles" s_check_bundles ["catalog", "bundles"] := stands_of F_check_bundles (He.glo_ok X G (c.fact 37 (f := .glo "check_bundles") rfl)) fun _ _ _ _ _ _ us hl => match us, hl with | [_, _], _ => rfl
  obtain ⟨fd_counts_of, F_counts_of⟩ := c.def_ 15 (d := df_counts_of) rfl
  have S_counts_of : Stands K mg "counts_of" s_counts_of ["width", "table", "pairs"] := stands_of F_counts_of (He.glo_ok X G (c.fact 38 (f := .glo "counts_of") rfl)) fun _ _ _ _ _ _ us hl => match us, hl with | [_, _, _], _ => rfl
  obtain ⟨fd_table_of, F_table_of⟩ := c.def_ 16 (d := df_table_of) rfl
  have S_table_of : Stands K mg "table_of" s_table_of ["items", "bundles"] := stands_of F_table_of (He.glo_ok X G (c.fact 39 (f := .glo "table_of") rfl)) fun _ _ _ _ _ _ us hl => match us, hl with | [_, _], _ => rfl
  obtain ⟨fd_is_want, F_is_want⟩ := c.def_ 17 (d := df_is_want) rfl
  have S_is_want : Stands K mg "is_want" s_is_want ["table", "value"] := stands_of F_is_want (He.glo_ok X G (c.fact 40 (f := .glo "is_want") rfl)) fun _ _ _ _ _ _ us hl => match us, hl with | [_, _], _ => rfl
  obtain ⟨fd_needed, F_needed⟩ := c.def_ 18 (d := df_needed) rfl
  have S_needed : Stands K mg "needed" s_needed ["items", "table", "pairs"] := stands_of F_needed (He.glo_ok X G (c.fact 41 (f := .glo "needed") rfl)) fun _ _ _ _ _ _ us hl => match us, hl with | [_, _, _], _ => rfl
  obtain ⟨fd_made_of, F_made_of⟩ := c.def_ 19 (d := df_made_of) rfl
  have S_made_of : Stands K mg "made_of" s_made_of ["catalog", "bundles", "name", "count"] := stands_of F_made_of (He.glo_ok X G (c.fact 42 (f := .glo "made_of") rfl)) fun _ _ _ _ _ _ us hl => match us, hl with | [_, _, _, _], _ => rfl
  obtain ⟨fd_opened, F_opened⟩ := c.def_ 20 (d := df_opened) rfl
  have S_opened : Stands K mg "opened" s_opened ["catalog", "bundles", "name", "region", "wants", "by", "worth"] := stands_of F_opened (He.glo_ok X G (c.fact 43 (f := .glo "opened") rfl)) fun _ _ _ _ _ _ us hl => match us, hl with | [_, _, _, _, _, _, _], _ => rfl
  obtain ⟨fd__law_taken, F__law_taken⟩ := c.def_ 21 (d := df__law_taken) rfl
  have S__law_taken : Stands K mg "_law_taken" s__law_taken ["row", "many"] := stands_of F__law_taken (He.glo_ok X G (c.fact 44 (f := .glo "_law_taken") rfl)) fun _ _ _ _ _ _ us hl => match us, hl with | [_, _], _ => rfl
  obtain ⟨fd__law_pick, F__law_pick⟩ := c.def_ 22 (d := df__law_pick) rfl
  have S__law_pick : Stands K mg "_law_pick" s__law_pick ["row", "things"] := stands_of F__law_pick (He.glo_ok X G (c.fact 45 (f := .glo "_law_pick") rfl)) fun _ _ _ _ _ _ us hl => match us, hl with | [_, _], _ => rfl
  obtain ⟨fd__law_alike, F__law_alike⟩ := c.def_ 23 (d := df__law_alike) rfl
  have S__law_alike : Stands K mg "_law_alike" s__law_alike ["found", "due"] := stands_of F__law_alike (He.glo_ok X G (c.fact 46 (f := .glo "_law_alike") rfl)) fun _ _ _ _ _ _ us hl => match us, hl with | [_, _], _ => rfl
  obtain ⟨fd__law_catalog, F__law_catalog⟩ := c.def_ 24 (d := df__law_catalog) rfl
  have S__law_catalog : Stands K mg "_law_catalog" s__law_catalog ["row"] := stands_of F__law_catalog (He.glo_ok X G (c.fact 47 (f := .glo "_law_catalog") rfl)) fun _ _ _ _ _ _ us hl => match us, hl with | [_], _ => rfl
  obtain ⟨fd__law_made, F__law_made⟩ := c.def_ 25 (d := df__law_made) rfl
  have S__law_made : Stands K mg "_law_made" s__law_made ["items", "bundles", "name", "count"] := stands_of F__law_made (He.glo_ok X G (c.fact 48 (f := .glo "_law_made") rfl)) fun _ _ _ _ _ _ us hl => match us, hl with | [_, _, _, _], _ => rfl
  obtain ⟨fd_law, F_law⟩ := c.def_ 26 (d := df_law) rfl
  have S_law : Stands K mg "law" s_law ["script"] := stands_of F_law (He.glo_ok X G (c.fact 49 (f := .glo "law") rfl)) fun _ _ _ _ _ _ us hl => match us, hl with | [_], _ => rfl
  have eL := hfa.symm.trans (He.glo_ok X G (c.fact 49 (f := .glo "law") rfl))
  cases eL
  have bL := FunD.bindsA (ps := ["script"]) F_law fun _ _ _ _ _ _ us hl => match us, hl with | [_], _ => rfl
  refine ⟨fd_law, fun s v => bL s [v] rfl, fun base hK hN => ?_⟩
  have k_between := keeps_between (P := P) (w := w) (base := base) B S_is_between
  have k_row := keeps_row (P := P) (w := w) (base := base) B S_is_row
  have k_unlike := keeps_unlike (P := P) (w := w) (base := base) B S_are_unlike
  have k_name := keeps_name (P := P) (w := w) (base := base) B C S_is_name
  have k_names := keeps_names B S_are_names k_row k_name k_unlike
  have k_lane := keeps_lane S_is_lane k_row k_between
  have k_lanes := keeps_lanes B S_are_lanes k_row k_lane k_unlike
  have k_sup := keeps_sup S_is_supply k_row k_name k_between
  have k_sups := keeps_sups B S_are_supplies k_row k_sup k_unlike
  have k_isCat := keeps_isCat B S_is_catalog k_row k_names k_lanes k_sups
  have k_checkCat := keeps_checkCat S_check_catalog k_isCat
  have k_part := keeps_part S_is_part k_row k_between
  have k_bun := keeps_bun B S_is_bundle k_row k_name k_part k_unlike
  have k_buns := keeps_buns B S_are_bundles k_row k_bun
  have k_checkB := keeps_checkB ei S_check_bundles k_buns
  have k_counts := keeps_counts (P := P) (w := w) (base := base) B S_counts_of
  have k_table := keeps_table B S_table_of k_counts
  have k_want := keeps_want B S_is_want k_row k_between
  have k_needed := keeps_needed B S_needed k_counts
  have k_made := keeps_made ei S_made_of k_checkCat k_checkB k_table k_want k_needed
  have k_opened := keeps_opened B eo S_opened k_checkCat k_checkB k_row k_table k_want k_needed
  have k_taken := keeps_taken (P := P) (w := w) (base := base) B S__law_taken
  have k_pick := keeps_pick B S__law_pick k_taken
  have k_cat := keeps_catalog B S__law_catalog k_taken k_pick
  have k_lawMade := keeps_lawMade (P := P) (w := w) (base := base) B S__law_made 3
  have k_alike := keeps_alike (P := P) (w := w) (base := base) B S__law_alike 4
  exact keeps_law B eo ei (fun_of F_law) k_taken k_pick k_cat k_lawMade k_alike k_made k_opened
end Sh
open PySem PySem.W PySem.Calls PyProof.Rows
theorem PySem.Challenge.cw_surehouse_k08_whole_bundles_holds : PySem.Challenge.rw_surehouse_k08_whole_bundles.Holds := by
  w_on; o_law
  refine HandSHeadRun.head_any (r := OpenLaw.row PySem.Challenge.rw_surehouse_k08_whole_bundles) (q := view (OpenLaw.row PySem.Challenge.rw_surehouse_k08_whole_bundles).prog [36]) (H := Sh.hkE) (ob := Sh.obE) (M := 6000) (loose := Sh.namesE) (d := HandSHeadRun.topDef (OpenLaw.row PySem.Challenge.rw_surehouse_k08_whole_bundles).prog 36) (kwd := []) Sh.obE_eq
    (by kernel_rfl) (fun s => by kernel_rfl) Sh.runE (by kernel_rfl) (by kernel_rfl) (by kernel_rfl) (by rfl) (by first | assumption | decide +kernel) (by decide +kernel) ⟨rfl, rfl, rfl, rfl, rfl, by decide +kernel⟩ ?hw ?hc
  case hw => w_witness2
  case hc =>
    refine L2.walk_ofE (l := PySem.Challenge.rw_surehouse_k08_whole_bundles) (n := 63) (k := 7) (x := "script") (CX := L2.CX0) rfl (by decide) (by kernel_rfl) ⟨rfl, by decide, by decide⟩ ?F (fun _ _ _ _ z => z)
    intro w mg fa h Y G hmg0
    obtain ⟨K, KX, c⟩ := Y
    have hmg : mg ("law" : PySem.Str) = some (.ref fa) := by
      have e : (HandSHeadRun.topDef (OpenLaw.row PySem.Challenge.rw_surehouse_k08_whole_bundles).prog 36).name = ("law" : PySem.Str) := by kernel_rfl
      rw [← e]
      exact hmg0
    obtain ⟨fd, hb, hF⟩ := Sh.factsE (P := (PySem.Challenge.rw_surehouse_k08_whole_bundles).prog) (w := w) KX G hmg c
    exact ⟨K, fd, Sh.spLaw K, KX, hb, fun H a ns hl _ hS => ⟨a, ns, rfl, hS, fun _ => rfl⟩, hF⟩

