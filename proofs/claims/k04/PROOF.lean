import PyProof.Rows.All
import Wide.All
import OpenK.AllK
import Wide.FinOn
import HandS.ForMost
import HandS.Walk
import HandS.Zip
import HandS.Gcd
import HandS.Wide
import HandS.WideMore
import HandS.Defaults
import HandS.Property
import HandS.Style
import HandS.Star
import HandS.TupAny
import HandS.IsInst
import HandS.Flow
import HandS.EndBits
import KE.SortKeyHeap
import HandS.ClsMeth
import KE.DataAny
import HandS.SortKw
import KE.GoesEnum
import HandS.Iter
import OpenK.KOps
import OpenK.KMeth
import HandS.CallLocal
import HandS.OwnEq
import KE.KEqDeep
import PyProof.InstNe
import KE.KRevSl
import PySem.Challenge.RW_frugaltape_k04_order_and_equality_of_spa
set_option linter.all false
namespace LA
abbrev Vec := List Int
def e (v : Vec) (i : Nat) : Int := v.getD i 0
theorem e_out {v : Vec} {i : Nat} (h : v.length ≤ i) : e v i = 0 := by
  unfold e
  rw [List.getD_eq_getElem?_getD, List.getElem?_eq_none h]
  rfl
theorem e_in {v : Vec} {i : Nat} (h : i < v.length) : e v i = v[i] := by
  unfold e
  rw [List.getD_eq_getElem?_getD, List.getElem?_eq_getElem h]
  rfl
theorem e_get? {v : Vec} {i : Nat} (h : i < v.length) : v[i]? = some (e v i) := by
  rw [List.getElem?_eq_getElem h, e_in h]
theorem e_map {v : Vec} {f : Int → Int} (h0 : f 0 = 0) (i : Nat) : e (v.map f) i = f (e v i) := by
  by_cases h : i < v.length
  · rw [e_in (by rw [List.length_map]; exact h), e_in h, List.getElem_map]
  · rw [e_out (by rw [List.length_map]; omega), e_out (by omega), h0]
theorem e_zip {u v : Vec} {f : Int → Int → Int} (hl : u.length = v.length) (h0 : f 0 0 = 0) (i : Nat) : e (List.zipWith f u v) i = f (e u i) (e v i) := by
  by_cases h : i < u.length
  · rw [e_in (by rw [List.length_zipWith]; omega), e_in h, e_in (by omega), List.getElem_zipWith]
  · rw [e_out (by rw [List.length_zipWith]; omega), e_out (by omega), e_out (by omega), h0]
theorem e_rep {n i : Nat} : e (List.replicate n 0) i = 0 := by
  by_cases h : i < n
  · rw [e_in (by rw [List.length_replicate]; exact h), List.getElem_replicate]
  · exact e_out (by rw [List.length_replicate]; omega)
theorem ext {u v : Vec} (hl : u.length = v.length) (h : ∀ i, e u i = e v i) : u = v := by
  apply List.ext_getElem hl
  intro i h1 h2
  have := h i
  rw [e_in h1, e_in h2] at this
  exact this
theorem e_mem {v : Vec} {i : Nat} (h : i < v.length) : e v i ∈ v := by
  rw [e_in h]
  exact List.getElem_mem h
theorem mem_e {v : Vec} {x : Int} (h : x ∈ v) : ∃ i, i < v.length ∧ e v i = x := by
  obtain ⟨i, hi, hx⟩ := List.mem_iff_getElem.mp h
  exact ⟨i, hi, by rw [e_in hi, hx]⟩
/-- all zero -/
def Zero (v : Vec) : Prop := ∀ i, e v i = 0
theorem zero_iff {v : Vec} : Zero v ↔ ∀ x ∈ v, x = 0 := by
  constructor
  · intro h x hx
    obtain ⟨i, _, rfl⟩ := mem_e hx
    exact h i
  · intro h i
    by_cases hi : i < v.length
    · exact h _ (e_mem hi)
    · exact e_out (by omega)
/-! spans -/
inductive Sp (n : Nat) (S : List Vec) : Vec → Prop
  | zero : Sp n S (List.replicate n 0)
  | mem {v : Vec} : v ∈ S → v.length = n → Sp n S v
  | lin {u v w : Vec} (a b k : Int) : Sp n S u → Sp n S v → k ≠ 0 → w.length = n → (∀ i, k * e w i = a * e u i + b * e v i) → Sp n S w
theorem Sp.len {n : Nat} {S : List Vec} {v : Vec} (h : Sp n S v) : v.length = n := by
  cases h with
  | zero => exact List.length_replicate
  | mem _ h => exact h
  | lin _ _ _ _ _ _ h _ => exact h
theorem Sp.sub {n : Nat} {S T : List Vec} {w : Vec} (h : Sp n S w) (hs : ∀ v ∈ S, v.length = n → Sp n T v) : Sp n T w := by
  induction h with
  | zero => exact .zero
  | mem hm hl => exact hs _ hm hl
  | lin a b k _ _ hk hl he ih1 ih2 => exact .lin a b k ih1 ih2 hk hl he
/-! pivots -/
def pivot : Vec → Nat
  | [] => 0
  | x :: r => if x = 0 then pivot r + 1 else 0
theorem pivot_low : ∀ {v : Vec} {i : Nat}, i < pivot v → e v i = 0
  | [], i, h => absurd h (Nat.not_lt_zero _)
  | x :: r, i, h => by
    unfold pivot at h
    by_cases hx : x = 0
    · rw [if_pos hx] at h
      cases i with
      | zero => exact hx
      | succ j => exact pivot_low (v := r) (by omega)
    · rw [if_neg hx] at h
      exact absurd h (Nat.not_lt_zero _)
theorem pivot_ne : ∀ {v : Vec}, pivot v < v.length → e v (pivot v) ≠ 0
  | [], h => absurd h (Nat.not_lt_zero _)
  | x :: r, h => by
    unfold pivot at h ⊢
    by_cases hx : x = 0
    · rw [if_pos hx] at h ⊢
      exact pivot_ne (v := r) (by rw [List.length_cons] at h; omega)
    · rw [if_neg hx]
      exact hx
theorem pivot_eq {v : Vec} {p : Nat} (h : e v p ≠ 0) (h0 : ∀ i, i < p → e v i = 0) : pivot v = p := by
  have hp : p < v.length := by
    apply Classical.byContradiction
    intro hn
    exact h (e_out (by omega))
  rcases Nat.lt_trichotomy (pivot v) p with hlt | heq | hgt
  · exact absurd (h0 _ hlt) (pivot_ne (by omega))
  · exact heq
  · exact absurd (pivot_low hgt) h
theorem pivot_le : ∀ {v : Vec}, pivot v ≤ v.length
  | [] => Nat.le_refl _
  | x :: r => by
    unfold pivot
    split
    · have := pivot_le (v := r)
      rw [List.length_cons]; omega
    · exact Nat.zero_le _
theorem pivot_lt {v : Vec} (h : ¬ Zero v) : pivot v < v.length := by
  rcases Nat.lt_or_ge (pivot v) v.length with h1 | h1
  · exact h1
  · exfalso
    apply h
    intro i
    by_cases hi : i < v.length
    · exact pivot_low (by omega)
    · exact e_out (by omega)
/-! common divisors -/
def gcdF (g : Nat) (v : Vec) : Nat := v.foldl (fun g x => Nat.gcd g x.natAbs) g
def gcdL (v : Vec) : Nat := gcdF 0 v
theorem gcdF_dvd0 : ∀ (v : Vec) (g : Nat), gcdF g v ∣ g
  | [], g => Nat.dvd_refl _
  | x :: r, g => Nat.dvd_trans (gcdF_dvd0 r _) (Nat.gcd_dvd_left _ _)
theorem gcdF_dvd : ∀ (v : Vec) (g : Nat) (x : Int), x ∈ v → gcdF g v ∣ x.natAbs
  | y :: r, g, x, h => by
    rcases List.mem_cons.mp h with rfl | h
    · exact Nat.dvd_trans (gcdF_dvd0 r _) (Nat.gcd_dvd_right _ _)
    · exact gcdF_dvd r _ x h
theorem dvd_gcdF : ∀ (v : Vec) (g d : Nat), d ∣ g → (∀ x ∈ v, d ∣ x.natAbs) → d ∣ gcdF g v
  | [], g, d, h, _ => h
  | y :: r, g, d, h, hx => dvd_gcdF r _ d (Nat.dvd_gcd h (hx y List.mem_cons_self)) fun x h => hx x (List.mem_cons_of_mem _ h)
theorem gcdF_one (v : Vec) : gcdF 1 v = 1 := Nat.dvd_one.mp (gcdF_dvd0 v 1)
theorem gcdL_dvd {v : Vec} (i : Nat) : (gcdL v : Int) ∣ e v i := by
  by_cases h : i < v.length
  · exact Int.ofNat_dvd_left.mpr (gcdF_dvd v 0 _ (e_mem h))
  · rw [e_out (by omega)]
    exact Int.dvd_zero _
theorem dvd_gcdL {v : Vec} {d : Nat} (h : ∀ i, (d : Int) ∣ e v i) : d ∣ gcdL v :=
  dvd_gcdF v 0 d (Nat.dvd_zero _) fun x hx => by
    obtain ⟨i, _, rfl⟩ := mem_e hx
    exact Int.ofNat_dvd_left.mp (h i)
theorem gcdL_zero {v : Vec} (h : gcdL v = 0) : Zero v := fun i => by
  have := gcdL_dvd (v := v) i
  rw [h] at this
  exact Int.zero_dvd.mp this
theorem mul_gcdF : ∀ (v : Vec) (g c : Nat), gcdF (c * g) (v.map (fun x => (c : Int) * x)) = c * gcdF g v
  | [], g, c => rfl
  | x :: r, g, c => by
    show gcdF (Nat.gcd (c * g) ((c : Int) * x).natAbs) _ = c * gcdF (Nat.gcd g x.natAbs) r
    rw [Int.natAbs_mul, Int.natAbs_natCast, Nat.gcd_mul_left]
    exact mul_gcdF r _ c
theorem mul_gcdL (v : Vec) (c : Nat) : gcdL (v.map (fun x => (c : Int) * x)) = c * gcdL v := mul_gcdF v 0 c
/-! divided, positive -/
def divided (v : Vec) : Vec := if gcdL v ≤ 1 then v else v.map (fun x => x / (gcdL v : Int))
theorem divided_len (v : Vec) : (divided v).length = v.length := by
  unfold divided
  split
  · rfl
  · exact List.length_map _
def unit1 (v : Vec) : Int := if gcdL v ≤ 1 then 1 else (gcdL v : Int)
theorem unit1_pos (v : Vec) : 0 < unit1 v := by
  unfold unit1
  split
  · decide
  · omega
theorem divided_e (v : Vec) (i : Nat) : unit1 v * e (divided v) i = e v i := by
  unfold unit1 divided
  by_cases h : gcdL v ≤ 1
  · rw [if_pos h, if_pos h, Int.one_mul]
  · rw [if_neg h, if_neg h, e_map (f := fun x => x / (gcdL v : Int)) (Int.zero_ediv _)]
    exact Int.mul_ediv_cancel' (gcdL_dvd i)
theorem divided_gcd {v : Vec} (h : ¬ Zero v) : gcdL (divided v) = 1 := by
  have h0 : gcdL v ≠ 0 := fun z => h (gcdL_zero z)
  unfold divided
  by_cases h1 : gcdL v ≤ 1
  · rw [if_pos h1]
    omega
  · rw [if_neg h1]
    have key : (v.map (fun x => x / (gcdL v : Int))).map (fun x => ((gcdL v : Nat) : Int) * x) = v := by
      apply ext
      · rw [List.length_map, List.length_map]
      · intro i
        rw [e_map (f := fun x => ((gcdL v : Nat) : Int) * x) (Int.mul_zero _), e_map (f := fun x => x / (gcdL v : Int)) (Int.zero_ediv _)]
        exact Int.mul_ediv_cancel' (gcdL_dvd i)
    have := mul_gcdL (v.map (fun x => x / (gcdL v : Int))) (gcdL v)
    rw [key] at this
    have h2 : gcdL v * 1 = gcdL v * gcdL (v.map (fun x => x / (gcdL v : Int))) := by rw [Nat.mul_one]; exact this
    exact (Nat.eq_of_mul_eq_mul_left (by omega) h2).symm
theorem divided_pivot (v : Vec) : pivot (divided v) = pivot v := by
  by_cases h : Zero v
  · have hz : Zero (divided v) := fun i => by
      have := divided_e v i
      rw [h i] at this
      exact (Int.mul_eq_zero.mp this).resolve_left (Int.ne_of_gt (unit1_pos v))
    have a : pivot (divided v) = (divided v).length := by
      rcases Nat.lt_or_ge (pivot (divided v)) (divided v).length with h1 | h1
      · exact absurd (hz _) (pivot_ne h1)
      · exact Nat.le_antisymm pivot_le h1
    have b : pivot v = v.length := by
      rcases Nat.lt_or_ge (pivot v) v.length with h1 | h1
      · exact absurd (h _) (pivot_ne h1)
      · exact Nat.le_antisymm pivot_le h1
    rw [a, b, divided_len]
  · refine pivot_eq (fun z => ?_) fun i hi => ?_
    · have := divided_e v (pivot v)
      rw [z, Int.mul_zero] at this
      exact pivot_ne (pivot_lt h) this.symm
    · have := divided_e v i
      rw [pivot_low hi] at this
      exact (Int.mul_eq_zero.mp this).resolve_left (Int.ne_of_gt (unit1_pos v))
def neg (v : Vec) : Vec := v.map (fun x => -x)
theorem neg_e (v : Vec) (i : Nat) : e (neg v) i = - e v i := e_map (f := fun x => -x) Int.neg_zero i
theorem neg_gcd (v : Vec) : gcdL (neg v) = gcdL v := by
  apply Nat.dvd_antisymm
  · apply dvd_gcdL
    intro i
    have := gcdL_dvd (v := neg v) i
    rw [neg_e] at this
    exact Int.dvd_neg.mp this
  · apply dvd_gcdL
    intro i
    rw [neg_e]
    exact Int.dvd_neg.mpr (gcdL_dvd i)
def positive (v : Vec) : Vec := if e v (pivot v) > 0 then v else neg v
theorem positive_len (v : Vec) : (positive v).length = v.length := by
  unfold positive neg
  split
  · rfl
  · exact List.length_map _
theorem positive_e (v : Vec) : ∃ s : Int, (s = 1 ∨ s = -1) ∧ ∀ i, e (positive v) i = s * e v i := by
  unfold positive
  split
  · exact ⟨1, .inl rfl, fun i => (Int.one_mul _).symm⟩
  · exact ⟨-1, .inr rfl, fun i => by rw [neg_e]; omega⟩
theorem positive_gcd (v : Vec) : gcdL (positive v) = gcdL v := by
  unfold positive
  split
  · rfl
  · exact neg_gcd v
theorem positive_pivot {v : Vec} (h : ¬ Zero v) : pivot (positive v) = pivot v ∧ 0 < e (positive v) (pivot v) := by
  have hp := pivot_ne (pivot_lt h)
  unfold positive
  split
  · rename_i h1
    exact ⟨rfl, h1⟩
  · rename_i h1
    refine ⟨pivot_eq ?_ fun i hi => ?_, ?_⟩
    · rw [neg_e]
      omega
    · rw [neg_e, pivot_low hi]
      rfl
    · rw [neg_e]
      omega
theorem pos_right {a b : Int} (h : 0 < a * b) (ha : 0 < a) : 0 < b := by
  rcases (show 0 < b ∨ b ≤ 0 by omega) with hb | hb
  · exact hb
  · have := Int.mul_le_mul_of_nonneg_left hb (Int.le_of_lt ha)
    rw [Int.mul_zero] at this
    omega
/-! cleared -/
def crossed (v r : Vec) : Vec :=
  List.zipWith (fun x y => (e r (pivot r) / (gcdL [e r (pivot r), e v (pivot r)] : Int)) * x - (e v (pivot r) / (gcdL [e r (pivot r), e v (pivot r)] : Int)) * y) v r
def cleared (v r : Vec) : Vec := if e v (pivot r) = 0 then v else divided (crossed v r)
theorem cleared_len {v r : Vec} (h : v.length = r.length) : (cleared v r).length = v.length := by
  unfold cleared crossed
  split
  · rfl
  · rw [divided_len, List.length_zipWith]
    omega
theorem cleared_spec {v r : Vec} (hl : v.length = r.length) (hr : 0 < e r (pivot r)) :
    ∃ κ t m : Int, 0 < κ ∧ 0 < m ∧ (∀ i, m * e (cleared v r) i = κ * e v i - t * e r i) ∧ e (cleared v r) (pivot r) = 0 ∧ (cleared v r = v ∨ Zero (cleared v r) ∨ gcdL (cleared v r) = 1) := by
  by_cases h : e v (pivot r) = 0
  · have ec : cleared v r = v := if_pos h
    rw [ec]
    exact ⟨1, 0, 1, by decide, by decide, fun i => by omega, h, .inl rfl⟩
  · have ec : cleared v r = divided (crossed v r) := if_neg h
    have g1 : (gcdL [e r (pivot r), e v (pivot r)] : Int) ∣ e r (pivot r) := gcdL_dvd (v := [e r (pivot r), e v (pivot r)]) 0
    have g2 : (gcdL [e r (pivot r), e v (pivot r)] : Int) ∣ e v (pivot r) := gcdL_dvd (v := [e r (pivot r), e v (pivot r)]) 1
    have g0 : (0 : Int) < (gcdL [e r (pivot r), e v (pivot r)] : Int) := by
      rcases Nat.eq_zero_or_pos (gcdL [e r (pivot r), e v (pivot r)]) with z | z
      · rw [z] at g1
        have := Int.zero_dvd.mp g1
        omega
      · exact Int.ofNat_lt.mpr z
    obtain ⟨κ, hκ⟩ := g1
    obtain ⟨t, ht⟩ := g2
    have hx : ∀ i, e (crossed v r) i = κ * e v i - t * e r i := by
      intro i
      unfold crossed
      rw [e_zip hl (by simp)]
      have a1 : e r (pivot r) / (gcdL [e r (pivot r), e v (pivot r)] : Int) = κ := Int.ediv_eq_of_eq_mul_right (Int.ne_of_gt g0) hκ
      have a2 : e v (pivot r) / (gcdL [e r (pivot r), e v (pivot r)] : Int) = t := Int.ediv_eq_of_eq_mul_right (Int.ne_of_gt g0) ht
      rw [a1, a2]
    have hκ0 : 0 < κ := by
      rw [hκ] at hr
      exact pos_right hr g0
    refine ⟨κ, t, unit1 (crossed v r), hκ0, unit1_pos _, fun i => ?_, ?_, ?_⟩
    · rw [ec, divided_e, hx]
    · have h1 := divided_e (crossed v r) (pivot r)
      rw [hx] at h1
      rw [ec]
      have h2 : κ * e v (pivot r) - t * e r (pivot r) = 0 := by
        generalize (gcdL [e r (pivot r), e v (pivot r)] : Int) = g at hκ ht
        rw [hκ, ht, Int.mul_left_comm, Int.mul_left_comm t, Int.mul_comm κ t]
        omega
      rw [h2] at h1
      exact (Int.mul_eq_zero.mp h1).resolve_left (Int.ne_of_gt (unit1_pos _))
    · rw [ec]
      by_cases hz : Zero (crossed v r)
      · refine .inr (.inl fun i => ?_)
        have := divided_e (crossed v r) i
        rw [hz i] at this
        exact (Int.mul_eq_zero.mp this).resolve_left (Int.ne_of_gt (unit1_pos _))
      · exact .inr (.inr (divided_gcd hz))
/-! a reduced basis -/
structure Red (n : Nat) (B : List Vec) : Prop where
  len : ∀ b ∈ B, b.length = n
  piv : ∀ b ∈ B, pivot b < n ∧ 0 < e b (pivot b)
  gcd : ∀ b ∈ B, gcdL b = 1
  asc : B.Pairwise fun b c => pivot b < pivot c
  cl : ∀ b ∈ B, ∀ c ∈ B, pivot b ≠ pivot c → e c (pivot b) = 0
theorem red_nil (n : Nat) : Red n [] := ⟨fun _ h => (by cases h), fun _ h => (by cases h), fun _ h => (by cases h), .nil, fun _ h => (by cases h)⟩
theorem Red.inj {n : Nat} {B : List Vec} (R : Red n B) : ∀ {b c : Vec}, b ∈ B → c ∈ B → pivot b = pivot c → b = c := by
  intro b c hb hc h
  obtain ⟨i, hi, rfl⟩ := List.mem_iff_getElem.mp hb
  obtain ⟨j, hj, rfl⟩ := List.mem_iff_getElem.mp hc
  have hp := List.pairwise_iff_getElem.mp R.asc
  rcases Nat.lt_trichotomy i j with h1 | h1 | h1
  · have := hp i j hi hj h1
    omega
  · subst h1
    rfl
  · have := hp j i hj hi h1
    omega
/-! the rest beside a basis -/
def rest (B : List Vec) (v : Vec) : Vec := B.foldl cleared v
theorem rest_len {n : Nat} : ∀ {B : List Vec} {v : Vec}, (∀ b ∈ B, b.length = n) → v.length = n → (rest B v).length = n
  | [], v, _, hv => hv
  | b :: B, v, hB, hv => rest_len (B := B) (fun c hc => hB c (List.mem_cons_of_mem _ hc)) (by rw [cleared_len (by rw [hv, hB b List.mem_cons_self])]; exact hv)
/-- what is left is in the span, and gives the vector back -/
theorem rest_sp {n : Nat} {S : List Vec} : ∀ {B : List Vec} {v : Vec}, (∀ b ∈ B, b.length = n ∧ 0 < e b (pivot b) ∧ Sp n S b) → v.length = n → (Sp n S (rest B v) ↔ Sp n S v)
  | [], v, _, hv => Iff.rfl
  | b :: B, v, hB, hv => by
    obtain ⟨h1, h2, h3⟩ := hB b List.mem_cons_self
    have hl : v.length = b.length := by rw [hv, h1]
    have hc : (cleared v b).length = n := by rw [cleared_len hl]; exact hv
    refine (rest_sp (B := B) (fun c hc => hB c (List.mem_cons_of_mem _ hc)) hc).trans ?_
    obtain ⟨κ, t, m, hκ, hm, he, _, _⟩ := cleared_spec hl h2
    constructor
    · intro h
      exact .lin m t κ h h3 (Int.ne_of_gt hκ) hv fun i => by have := he i; omega
    · intro h
      exact .lin κ (-t) m h h3 (Int.ne_of_gt hm) hc fun i => by rw [he i, Int.neg_mul]; omega
theorem rest_zero {n : Nat} : ∀ {B : List Vec} {v : Vec}, (∀ b ∈ B, b.length = n ∧ 0 < e b (pivot b)) → v.length = n → ∀ p, e v p = 0 → (∀ b ∈ B, e b p = 0) → e (rest B v) p = 0
  | [], v, _, _, p, h, _ => h
  | b :: B, v, hB, hv, p, h, hb => by
    obtain ⟨h1, h2⟩ := hB b List.mem_cons_self
    have hl : v.length = b.length := by rw [hv, h1]
    obtain ⟨κ, t, m, hκ, hm, he, _, _⟩ := cleared_spec hl h2
    refine rest_zero (B := B) (fun c hc => hB c (List.mem_cons_of_mem _ hc)) (by rw [cleared_len hl]; exact hv) p ?_ fun c hc => hb c (List.mem_cons_of_mem _ hc)
    have := he p
    rw [h, hb b List.mem_cons_self, Int.mul_zero, Int.mul_zero] at this
    exact (Int.mul_eq_zero.mp (this.trans (by omega))).resolve_left (Int.ne_of_gt hm)
theorem rest_clean {n : Nat} : ∀ {B : List Vec} {v : Vec}, (∀ b ∈ B, b.length = n ∧ 0 < e b (pivot b)) → B.Pairwise (fun b c => e c (pivot b) = 0) → v.length = n → ∀ b ∈ B, e (rest B v) (pivot b) = 0
  | b :: B, v, hB, hp, hv, c, hc => by
    obtain ⟨h1, h2⟩ := hB b List.mem_cons_self
    have hl : v.length = b.length := by rw [hv, h1]
    have hc' : (cleared v b).length = n := by rw [cleared_len hl]; exact hv
    have hB' : ∀ c ∈ B, c.length = n ∧ 0 < e c (pivot c) := fun c hc => hB c (List.mem_cons_of_mem _ hc)
    rcases List.mem_cons.mp hc with rfl | hc
    · obtain ⟨κ, t, m, hκ, hm, he, h0, _⟩ := cleared_spec hl h2
      exact rest_zero hB' hc' _ h0 fun d hd => (List.pairwise_cons.mp hp).1 d hd
    · exact rest_clean hB' (List.pairwise_cons.mp hp).2 hc' c hc
theorem Red.pw {n : Nat} {B : List Vec} (R : Red n B) : B.Pairwise (fun b c => e c (pivot b) = 0) := by
  have := R.asc
  refine List.Pairwise.imp_of_mem (fun {a b} ha hb h => R.cl a ha b hb (by omega)) this
/-! adding a vector -/
def key (v : Vec) : Int := (pivot v : Int)
def sortP (l : List Vec) : List Vec := l.mergeSort (fun x y => decide (pivot x ≤ pivot y))
def rows (B : List Vec) (a : Vec) : List Vec := B.map fun b => cleared b a
def added (B : List Vec) (v : Vec) : Vec := positive (divided (rest B v))
def isZero (v : Vec) : Bool := v.all (fun x => x == 0)
theorem isZero_iff {v : Vec} : isZero v = true ↔ Zero v := by
  unfold isZero
  rw [zero_iff, List.all_eq_true]
  constructor
  · intro h x hx
    exact eq_of_beq (h x hx)
  · intro h x hx
    rw [h x hx]
    rfl
def withVec (B : List Vec) (v : Vec) : List Vec := if isZero (rest B v) then B else sortP (rows B (added B v) ++ [added B v])
theorem sortP_perm (l : List Vec) : (sortP l).Perm l := List.mergeSort_perm _ _
theorem sortP_le (l : List Vec) : (sortP l).Pairwise fun x y => pivot x ≤ pivot y := by
  have := List.pairwise_mergeSort (le := fun x y : Vec => decide (pivot x ≤ pivot y)) (fun a b c h1 h2 => by
    have h1 := of_decide_eq_true h1
    have h2 := of_decide_eq_true h2
    exact decide_eq_true (by omega)) (fun a b => by
    by_cases h : pivot a ≤ pivot b
    · rw [decide_eq_true h]; rfl
    · rw [decide_eq_true (show pivot b ≤ pivot a by omega), Bool.or_true]) l
  exact this.imp fun h => of_decide_eq_true h
/-- the facts of an added vector -/
theorem added_facts {n : Nat} {B : List Vec} {v : Vec} (R : Red n B) (hv : v.length = n) (hz : ¬ Zero (rest B v)) :
    (added B v).length = n ∧ pivot (added B v) < n ∧ 0 < e (added B v) (pivot (added B v)) ∧ gcdL (added B v) = 1 ∧ (∀ b ∈ B, e (added B v) (pivot b) = 0) ∧ ∃ s m : Int, s ≠ 0 ∧ m ≠ 0 ∧ ∀ i, m * e (added B v) i = s * e (rest B v) i := by
  have hl : (rest B v).length = n := rest_len R.len hv
  have hd : ¬ Zero (divided (rest B v)) := fun z => hz fun i => by rw [← divided_e, z i, Int.mul_zero]
  obtain ⟨hp1, hp2⟩ := positive_pivot hd
  obtain ⟨s, hs, hse⟩ := positive_e (divided (rest B v))
  have hcomb : ∀ i, unit1 (rest B v) * e (added B v) i = s * e (rest B v) i := fun i => by
    unfold added
    rw [hse, Int.mul_left_comm, divided_e]
  have hs0 : s ≠ 0 := by rcases hs with rfl | rfl <;> decide
  refine ⟨by unfold added; rw [positive_len, divided_len, hl], ?_, ?_, by unfold added; rw [positive_gcd, divided_gcd hz], fun b hb => ?_, s, unit1 (rest B v), hs0, Int.ne_of_gt (unit1_pos _), hcomb⟩
  · unfold added
    rw [hp1, divided_pivot]
    have := pivot_lt hz
    omega
  · unfold added
    rw [hp1]
    exact hp2
  · have h0 : e (rest B v) (pivot b) = 0 := rest_clean (fun b hb => ⟨R.len b hb, (R.piv b hb).2⟩) R.pw hv b hb
    have := hcomb (pivot b)
    rw [h0, Int.mul_zero] at this
    exact (Int.mul_eq_zero.mp this).resolve_left (Int.ne_of_gt (unit1_pos _))
/-- the facts of a row that was cleared by the added one -/
theorem row_facts {n : Nat} {B : List Vec} {a : Vec} (R : Red n B) (ha : a.length = n) (hpa : 0 < e a (pivot a)) (h0 : ∀ b ∈ B, e a (pivot b) = 0) {b : Vec} (hb : b ∈ B) :
    (cleared b a).length = n ∧ pivot (cleared b a) = pivot b ∧ 0 < e (cleared b a) (pivot b) ∧ gcdL (cleared b a) = 1 ∧ e (cleared b a) (pivot a) = 0 ∧ (∀ c ∈ B, pivot c ≠ pivot b → e (cleared b a) (pivot c) = 0) ∧ ∃ κ t m : Int, 0 < κ ∧ 0 < m ∧ ∀ i, m * e (cleared b a) i = κ * e b i - t * e a i := by
  have hl : b.length = a.length := by rw [R.len b hb, ha]
  obtain ⟨κ, t, m, hκ, hm, he, hq, hk⟩ := cleared_spec hl hpa
  obtain ⟨hb1, hb2⟩ := R.piv b hb
  have hm0 : m ≠ 0 := Int.ne_of_gt hm
  have hpos : 0 < e (cleared b a) (pivot b) := by
    have := he (pivot b)
    rw [h0 b hb, Int.mul_zero] at this
    have h2 : 0 < m * e (cleared b a) (pivot b) := by
      rw [this]
      have := Int.mul_pos hκ hb2
      omega
    exact pos_right h2 hm
  have hlow : ∀ i, i < pivot b → e (cleared b a) i = 0 := by
    intro i hi
    by_cases hbq : e b (pivot a) = 0
    · have : cleared b a = b := if_pos hbq
      rw [this]
      exact pivot_low hi
    · have h1 : pivot b ≤ pivot a := by
        apply Classical.byContradiction
        intro hn
        exact hbq (pivot_low (by omega))
      have h2 : e a i = 0 := pivot_low (by omega)
      have := he i
      rw [h2, pivot_low hi, Int.mul_zero, Int.mul_zero] at this
      exact (Int.mul_eq_zero.mp (this.trans (by omega))).resolve_left hm0
  have hpv : pivot (cleared b a) = pivot b := pivot_eq (Int.ne_of_gt hpos) hlow
  refine ⟨by rw [cleared_len hl]; exact R.len b hb, hpv, hpos, ?_, hq, fun c hc hne => ?_, κ, t, m, hκ, hm, he⟩
  · rcases hk with hk | hk | hk
    · rw [hk]
      exact R.gcd b hb
    · have := hk (pivot b)
      omega
    · exact hk
  · have := he (pivot c)
    rw [h0 c hc, R.cl c hc b hb hne, Int.mul_zero, Int.mul_zero] at this
    exact (Int.mul_eq_zero.mp (this.trans (by omega))).resolve_left hm0
theorem mem_withVec {B : List Vec} {v : Vec} (hz : ¬ Zero (rest B v)) {x : Vec} : x ∈ withVec B v ↔ x = added B v ∨ ∃ b ∈ B, x = cleared b (added B v) := by
  have h : withVec B v = sortP (rows B (added B v) ++ [added B v]) := by
    unfold withVec
    rw [if_neg (fun z => hz (isZero_iff.mp z))]
  rw [h, (sortP_perm _).mem_iff, List.mem_append, List.mem_singleton]
  unfold rows
  rw [List.mem_map]
  constructor
  · rintro (⟨b, hb, rfl⟩ | rfl)
    · exact .inr ⟨b, hb, rfl⟩
    · exact .inl rfl
  · rintro (rfl | ⟨b, hb, rfl⟩)
    · exact .inr rfl
    · exact .inl ⟨b, hb, rfl⟩
theorem withVec_red {n : Nat} {B : List Vec} {v : Vec} (R : Red n B) (hv : v.length = n) : Red n (withVec B v) := by
  by_cases hz : Zero (rest B v)
  · have : withVec B v = B := by
      unfold withVec
      rw [if_pos (isZero_iff.mpr hz)]
    rw [this]
    exact R
  · obtain ⟨a1, a2, a3, a4, a5, _⟩ := added_facts R hv hz
    have hne : ∀ b ∈ B, pivot b ≠ pivot (added B v) := fun b hb z => by
      have := a5 b hb
      rw [z] at this
      omega
    have fact : ∀ x ∈ withVec B v, x.length = n ∧ (pivot x < n ∧ 0 < e x (pivot x)) ∧ gcdL x = 1 ∧ ∀ y ∈ withVec B v, pivot y ≠ pivot x → e x (pivot y) = 0 := by
      intro x hx
      rcases (mem_withVec hz).mp hx with rfl | ⟨b, hb, rfl⟩
      · refine ⟨a1, ⟨a2, a3⟩, a4, fun y hy hyx => ?_⟩
        rcases (mem_withVec hz).mp hy with rfl | ⟨c, hc, rfl⟩
        · exact absurd rfl hyx
        · rw [(row_facts R a1 a3 a5 hc).2.1]
          exact a5 c hc
      · obtain ⟨r1, r2, r3, r4, r5, r6, _⟩ := row_facts R a1 a3 a5 hb
        refine ⟨r1, ⟨by rw [r2]; exact (R.piv b hb).1, by rw [r2]; exact r3⟩, r4, fun y hy hyx => ?_⟩
        rcases (mem_withVec hz).mp hy with rfl | ⟨c, hc, rfl⟩
        · exact r5
        · have hc2 := (row_facts R a1 a3 a5 hc).2.1
          rw [hc2, r2] at hyx
          rw [hc2]
          exact r6 c hc hyx
    refine ⟨fun x hx => (fact x hx).1, fun x hx => (fact x hx).2.1, fun x hx => (fact x hx).2.2.1, ?_, fun x hx y hy h => (fact y hy).2.2.2 x hx h⟩
    have hw : withVec B v = sortP (rows B (added B v) ++ [added B v]) := by
      unfold withVec
      rw [if_neg (fun z => hz (isZero_iff.mp z))]
    have hne2 : (withVec B v).Pairwise fun x y => pivot x ≠ pivot y := by
      rw [hw]
      refine (sortP_perm _).symm.pairwise ?_ (fun h z => h z.symm)
      rw [List.pairwise_append]
      refine ⟨?_, List.pairwise_singleton _ _, ?_⟩
      · unfold rows
        rw [List.pairwise_map]
        refine List.Pairwise.imp_of_mem (fun {b c} hb hc h => ?_) R.asc
        rw [(row_facts R a1 a3 a5 hb).2.1, (row_facts R a1 a3 a5 hc).2.1]
        omega
      · intro x hx y hy
        rw [List.mem_singleton] at hy
        subst hy
        unfold rows at hx
        obtain ⟨b, hb, rfl⟩ := List.mem_map.mp hx
        rw [(row_facts R a1 a3 a5 hb).2.1]
        exact hne b hb
    have hle : (withVec B v).Pairwise fun x y => pivot x ≤ pivot y := by
      rw [hw]
      exact sortP_le _
    exact hle.imp₂ (fun _ _ h1 h2 => by omega) hne2
theorem withVec_sp {n : Nat} {B : List Vec} {v : Vec} (R : Red n B) (hv : v.length = n) (w : Vec) : Sp n (withVec B v) w ↔ Sp n (B ++ [v]) w := by
  have hB : ∀ b ∈ B, b.length = n ∧ 0 < e b (pivot b) ∧ Sp n (B ++ [v]) b := fun b hb => ⟨R.len b hb, (R.piv b hb).2, .mem (List.mem_append_left _ hb) (R.len b hb)⟩
  have hvs : Sp n (B ++ [v]) v := .mem (List.mem_append_right _ List.mem_cons_self) hv
  have hr : Sp n (B ++ [v]) (rest B v) := (rest_sp hB hv).mpr hvs
  by_cases hz : Zero (rest B v)
  · have hw : withVec B v = B := by
      unfold withVec
      rw [if_pos (isZero_iff.mpr hz)]
    rw [hw]
    constructor
    · intro h
      exact h.sub fun x hx hl => .mem (List.mem_append_left _ hx) hl
    · intro h
      refine h.sub fun x hx hl => ?_
      rcases List.mem_append.mp hx with hx | hx
      · exact .mem hx hl
      · rw [List.mem_singleton] at hx
        subst hx
        refine (rest_sp (S := B) (fun b hb => ⟨R.len b hb, (R.piv b hb).2, .mem hb (R.len b hb)⟩) hl).mp ?_
        have : rest B x = List.replicate n 0 := ext (by rw [rest_len R.len hl, List.length_replicate]) fun i => by rw [hz i, e_rep]
        rw [this]
        exact .zero
  · obtain ⟨a1, a2, a3, a4, a5, s, m, hs, hm, hse⟩ := added_facts R hv hz
    constructor
    · intro h
      have ha : Sp n (B ++ [v]) (added B v) := .lin s 0 m hr hr hm a1 fun i => by rw [hse i]; omega
      refine h.sub fun x hx hl => ?_
      rcases (mem_withVec hz).mp hx with rfl | ⟨b, hb, rfl⟩
      · exact ha
      · obtain ⟨_, _, _, _, _, _, κ, t, m', hκ, hm', he⟩ := row_facts R a1 a3 a5 hb
        exact .lin κ (-t) m' (hB b hb).2.2 ha (Int.ne_of_gt hm') hl fun i => by rw [he i, Int.neg_mul]; omega
    · intro h
      have ha : Sp n (withVec B v) (added B v) := .mem ((mem_withVec hz).mpr (.inl rfl)) a1
      have hb' : ∀ b ∈ B, Sp n (withVec B v) b := fun b hb => by
        obtain ⟨r1, _, _, _, _, _, κ, t, m', hκ, hm', he⟩ := row_facts R a1 a3 a5 hb
        exact .lin m' t κ (.mem ((mem_withVec hz).mpr (.inr ⟨b, hb, rfl⟩)) r1) ha (Int.ne_of_gt hκ) (R.len b hb) fun i => by have := he i; omega
      refine h.sub fun x hx hl => ?_
      rcases List.mem_append.mp hx with hx | hx
      · exact hb' x hx
      · rw [List.mem_singleton] at hx
        subst hx
        refine (rest_sp (S := withVec B x) (fun b hb => ⟨R.len b hb, (R.piv b hb).2, hb' b hb⟩) hl).mp ?_
        exact .lin m 0 s ha ha hs (rest_len R.len hl) fun i => by rw [← hse i]; omega
def reduced (S : List Vec) : List Vec := S.foldl withVec []
theorem reduced_go {n : Nat} : ∀ (S B : List Vec), (∀ v ∈ S, v.length = n) → Red n B → Red n (S.foldl withVec B) ∧ ∀ w, Sp n (S.foldl withVec B) w ↔ Sp n (B ++ S) w
  | [], B, _, R => ⟨R, fun w => by rw [List.append_nil]; exact Iff.rfl⟩
  | v :: S, B, h, R => by
    have hv := h v List.mem_cons_self
    obtain ⟨h1, h2⟩ := reduced_go S (withVec B v) (fun x hx => h x (List.mem_cons_of_mem _ hx)) (withVec_red R hv)
    refine ⟨h1, fun w => (h2 w).trans ?_⟩
    have key := withVec_sp R hv
    constructor
    · intro q
      refine q.sub fun x hx hl => ?_
      rcases List.mem_append.mp hx with hx | hx
      · refine ((key x).mp (.mem hx hl)).sub fun y hy hl => .mem ?_ hl
        rcases List.mem_append.mp hy with hy | hy
        · exact List.mem_append_left _ hy
        · rw [List.mem_singleton] at hy
          subst hy
          exact List.mem_append_right _ List.mem_cons_self
      · exact .mem (List.mem_append_right _ (List.mem_cons_of_mem _ hx)) hl
    · intro q
      refine q.sub fun x hx hl => ?_
      have lift : ∀ y, Sp n (withVec B v) y → Sp n (withVec B v ++ S) y := fun y hy => hy.sub fun z hz hl => .mem (List.mem_append_left _ hz) hl
      rcases List.mem_append.mp hx with hx | hx
      · exact lift x ((key x).mpr (.mem (List.mem_append_left _ hx) hl))
      · rcases List.mem_cons.mp hx with rfl | hx
        · exact lift _ ((key _).mpr (.mem (List.mem_append_right _ List.mem_cons_self) hl))
        · exact .mem (List.mem_append_right _ hx) hl
theorem reduced_red {n : Nat} {S : List Vec} (h : ∀ v ∈ S, v.length = n) : Red n (reduced S) := (reduced_go S [] h (red_nil n)).1
theorem reduced_sp {n : Nat} {S : List Vec} (h : ∀ v ∈ S, v.length = n) (w : Vec) : Sp n (reduced S) w ↔ Sp n S w := (reduced_go S [] h (red_nil n)).2 w
end LA

set_option linter.all false
namespace LA
/-! clearing as a linear map -/
def lrf : List Vec → (Nat → Int) → Nat → Int
  | [], f => f
  | b :: B, f => lrf B fun i => e b (pivot b) * f i - f (pivot b) * e b i
theorem lrf_lin {k a c : Int} : ∀ (B : List Vec) {f g h : Nat → Int}, (∀ i, k * f i = a * g i + c * h i) → ∀ i, k * lrf B f i = a * lrf B g i + c * lrf B h i
  | [], _, _, _, H => H
  | b :: B, f, g, h, H => lrf_lin B fun i => by
    have h1 := H i
    have h2 := H (pivot b)
    have e1 : k * (e b (pivot b) * f i - f (pivot b) * e b i) = e b (pivot b) * (k * f i) - (k * f (pivot b)) * e b i := by
      rw [Int.mul_sub, Int.mul_left_comm, Int.mul_assoc]
    rw [e1, h1, h2]
    simp only [Int.mul_add, Int.add_mul, Int.mul_sub, Int.mul_left_comm (e b (pivot b)), Int.mul_assoc]
    omega
theorem lrf_zero : ∀ (B : List Vec) {f : Nat → Int}, (∀ i, f i = 0) → ∀ i, lrf B f i = 0
  | [], _, H => H
  | b :: B, f, H => lrf_zero B fun i => by rw [H i, H (pivot b), Int.mul_zero, Int.zero_mul]; rfl
/-- ascending pivots, none of them zero -/
structure Ech (n : Nat) (B : List Vec) : Prop where
  len : ∀ b ∈ B, b.length = n
  piv : ∀ b ∈ B, pivot b < n
  asc : B.Pairwise fun b c => pivot b < pivot c
theorem Red.ech {n : Nat} {B : List Vec} (R : Red n B) : Ech n B := ⟨R.len, fun b hb => (R.piv b hb).1, R.asc⟩
theorem Ech.ne {n : Nat} {B : List Vec} (R : Ech n B) {b : Vec} (hb : b ∈ B) : e b (pivot b) ≠ 0 := pivot_ne (by rw [R.len b hb]; exact R.piv b hb)
theorem lrf_self {n : Nat} : ∀ {B : List Vec}, Ech n B → ∀ {b : Vec}, b ∈ B → ∀ i, lrf B (e b) i = 0
  | c :: B, R, b, hb, i => by
    have R' : Ech n B := ⟨fun x h => R.len x (List.mem_cons_of_mem _ h), fun x h => R.piv x (List.mem_cons_of_mem _ h), (List.pairwise_cons.mp R.asc).2⟩
    show lrf B _ i = 0
    rcases List.mem_cons.mp hb with rfl | hb
    · exact lrf_zero B (fun j => by omega) i
    · have h1 := (List.pairwise_cons.mp R.asc).1 b hb
      have h2 : e b (pivot c) = 0 := pivot_low h1
      have := lrf_lin (k := 1) (a := e c (pivot c)) (c := 0) B (f := fun j => e c (pivot c) * e b j - e b (pivot c) * e c j) (g := e b) (h := e b) (fun j => by rw [h2]; omega) i
      rw [lrf_self R' hb i] at this
      omega
theorem lrf_sp {n : Nat} {B : List Vec} (R : Ech n B) {v : Vec} (h : Sp n B v) : ∀ i, lrf B (e v) i = 0 := by
  induction h with
  | zero => exact lrf_zero B fun i => e_rep
  | mem hm _ => exact lrf_self R hm
  | lin a b k _ _ hk _ he ih1 ih2 =>
    intro i
    have := lrf_lin B he i
    rw [ih1 i, ih2 i, Int.mul_zero, Int.mul_zero] at this
    exact (Int.mul_eq_zero.mp this).resolve_left hk
theorem lrf_scale {n : Nat} : ∀ {B : List Vec}, Ech n B → ∀ {f : Nat → Int}, (∀ b ∈ B, f (pivot b) = 0) → ∃ c : Int, c ≠ 0 ∧ ∀ i, lrf B f i = c * f i
  | [], _, f, _ => ⟨1, by decide, fun i => (Int.one_mul _).symm⟩
  | b :: B, R, f, h => by
    have R' : Ech n B := ⟨fun x h => R.len x (List.mem_cons_of_mem _ h), fun x h => R.piv x (List.mem_cons_of_mem _ h), (List.pairwise_cons.mp R.asc).2⟩
    have h0 := h b List.mem_cons_self
    obtain ⟨c, hc, he⟩ := lrf_scale R' (f := fun i => e b (pivot b) * f i - f (pivot b) * e b i) fun x hx => by
      show e b (pivot b) * f (pivot x) - f (pivot b) * e b (pivot x) = 0
      rw [h0, h x (List.mem_cons_of_mem _ hx), Int.mul_zero, Int.zero_mul]; rfl
    refine ⟨c * e b (pivot b), Int.mul_ne_zero hc (R.ne List.mem_cons_self), fun i => ?_⟩
    show lrf B _ i = _
    rw [he i, h0, Int.zero_mul, Int.sub_zero, Int.mul_assoc]
theorem zero_of {n : Nat} {B : List Vec} (R : Ech n B) {v : Vec} (h : Sp n B v) (h0 : ∀ b ∈ B, e v (pivot b) = 0) : Zero v := fun i => by
  obtain ⟨c, hc, he⟩ := lrf_scale R h0
  have := lrf_sp R h i
  rw [he i] at this
  exact (Int.mul_eq_zero.mp this).resolve_left hc
theorem lrf_lead {n : Nat} {p : Nat} : ∀ {B : List Vec}, Ech n B → (∀ b ∈ B, pivot b ≠ p) → ∀ {f : Nat → Int}, (∀ i, i < p → f i = 0) → f p ≠ 0 → lrf B f p ≠ 0
  | [], _, _, f, _, hp => hp
  | b :: B, R, hne, f, h0, hp => by
    have R' : Ech n B := ⟨fun x h => R.len x (List.mem_cons_of_mem _ h), fun x h => R.piv x (List.mem_cons_of_mem _ h), (List.pairwise_cons.mp R.asc).2⟩
    have hb := hne b List.mem_cons_self
    have hbne := R.ne (b := b) List.mem_cons_self
    have step : ∀ i, i ≤ p → e b (pivot b) * f i - f (pivot b) * e b i = e b (pivot b) * f i := by
      intro i hi
      rcases Nat.lt_or_gt_of_ne hb with h | h
      · rw [h0 _ h, Int.zero_mul, Int.sub_zero]
      · rw [pivot_low (v := b) (i := i) (by omega), Int.mul_zero, Int.sub_zero]
    refine lrf_lead R' (fun x hx => hne x (List.mem_cons_of_mem _ hx)) (fun i hi => ?_) ?_
    · rw [step i (by omega), h0 i hi, Int.mul_zero]
    · rw [step p (Nat.le_refl _)]
      exact Int.mul_ne_zero hbne hp
theorem lead_mem {n : Nat} {B : List Vec} (R : Ech n B) {v : Vec} (h : Sp n B v) (hz : ¬ Zero v) : ∃ b ∈ B, pivot b = pivot v := by
  apply Classical.byContradiction
  intro hn
  have hne : ∀ b ∈ B, pivot b ≠ pivot v := fun b hb z => hn ⟨b, hb, z⟩
  exact lrf_lead R hne (f := e v) (fun i hi => pivot_low hi) (pivot_ne (pivot_lt hz)) (lrf_sp R h _)
theorem nonzero_of_pivot {n : Nat} {v : Vec} (hl : v.length = n) (hp : pivot v < n) : ¬ Zero v := fun z => pivot_ne (by omega) (z _)
/-- two lists that ascend and have the same members are the same -/
theorem asc_eq {α : Type} {f : α → Nat} : ∀ {l m : List α}, l.Pairwise (fun a b => f a < f b) → m.Pairwise (fun a b => f a < f b) → (∀ x ∈ l, x ∈ m) → (∀ x ∈ m, x ∈ l) → l = m
  | [], [], _, _, _, _ => rfl
  | [], y :: m, _, _, _, h => absurd (h y List.mem_cons_self) List.not_mem_nil
  | x :: l, [], _, _, h, _ => absurd (h x List.mem_cons_self) List.not_mem_nil
  | x :: l, y :: m, hl, hm, h1, h2 => by
    have hl' := List.pairwise_cons.mp hl
    have hm' := List.pairwise_cons.mp hm
    have hxy : x = y := by
      rcases List.mem_cons.mp (h1 x List.mem_cons_self) with h | h
      · exact h
      · rcases List.mem_cons.mp (h2 y List.mem_cons_self) with h' | h'
        · exact h'.symm
        · have a := hm'.1 x h
          have b := hl'.1 y h'
          omega
    subst hxy
    have : l = m := asc_eq hl'.2 hm'.2 (fun z hz => by
      rcases List.mem_cons.mp (h1 z (List.mem_cons_of_mem _ hz)) with rfl | h
      · exact absurd (hl'.1 _ hz) (Nat.lt_irrefl _)
      · exact h) (fun z hz => by
      rcases List.mem_cons.mp (h2 z (List.mem_cons_of_mem _ hz)) with rfl | h
      · exact absurd (hm'.1 _ hz) (Nat.lt_irrefl _)
      · exact h)
    rw [this]
theorem ech_pivots {n : Nat} {B C : List Vec} (R : Ech n B) (R' : Ech n C) (h : ∀ v, Sp n B v ↔ Sp n C v) : B.map pivot = C.map pivot := by
  refine asc_eq (f := id) (List.pairwise_map.mpr R.asc) (List.pairwise_map.mpr R'.asc) (fun x hx => ?_) fun x hx => ?_
  · obtain ⟨b, hb, rfl⟩ := List.mem_map.mp hx
    obtain ⟨c, hc, e1⟩ := lead_mem R' ((h b).mp (.mem hb (R.len b hb))) (nonzero_of_pivot (R.len b hb) (R.piv b hb))
    exact List.mem_map.mpr ⟨c, hc, e1⟩
  · obtain ⟨b, hb, rfl⟩ := List.mem_map.mp hx
    obtain ⟨c, hc, e1⟩ := lead_mem R ((h b).mpr (.mem hb (R'.len b hb))) (nonzero_of_pivot (R'.len b hb) (R'.piv b hb))
    exact List.mem_map.mpr ⟨c, hc, e1⟩
theorem prim_eq {u v : Vec} {x y : Int} (hl : u.length = v.length) (hu : gcdL u = 1) (hv : gcdL v = 1) (hx : 0 < x) (hy : 0 < y) (h : ∀ i, x * e u i = y * e v i) : u = v := by
  obtain ⟨m, rfl⟩ : ∃ m : Nat, x = m := ⟨x.toNat, by omega⟩
  obtain ⟨k, rfl⟩ : ∃ k : Nat, y = k := ⟨y.toNat, by omega⟩
  have e1 : u.map (fun x => (m : Int) * x) = v.map (fun x => (k : Int) * x) := by
    apply ext
    · rw [List.length_map, List.length_map, hl]
    · intro i
      rw [e_map (f := fun x => (m : Int) * x) (Int.mul_zero _), e_map (f := fun x => (k : Int) * x) (Int.mul_zero _)]
      exact h i
  have h1 := mul_gcdL u m
  have h2 := mul_gcdL v k
  rw [e1, h2, hu, hv] at h1
  have hkm : (k : Int) = m := by omega
  apply ext hl
  intro i
  have := h i
  rw [hkm] at this
  exact Int.eq_of_mul_eq_mul_left (Int.ne_of_gt hx) this
theorem red_unique {n : Nat} {B C : List Vec} (R : Red n B) (R' : Red n C) (h : ∀ v, Sp n B v ↔ Sp n C v) : B = C := by
  have half : ∀ {B C : List Vec}, Red n B → Red n C → (∀ v, Sp n B v ↔ Sp n C v) → ∀ b ∈ B, b ∈ C := by
    intro B C R R' h b hb
    have hp := ech_pivots R.ech R'.ech h
    have hbm : pivot b ∈ C.map pivot := by rw [← hp]; exact List.mem_map.mpr ⟨b, hb, rfl⟩
    obtain ⟨c, hc, hcb⟩ := List.mem_map.mp hbm
    have hb2 := (R.piv b hb).2
    have hc2 := (R'.piv c hc).2
    have hl : b.length = c.length := by rw [R.len b hb, R'.len c hc]
    have hw : ∀ i, e c (pivot c) * e b i - e b (pivot b) * e c i = 0 := by
      have hs : Sp n B (List.zipWith (fun x y => e c (pivot c) * x - e b (pivot b) * y) b c) := by
        refine .lin (e c (pivot c)) (-(e b (pivot b))) 1 (.mem hb (R.len b hb)) ((h c).mpr (.mem hc (R'.len c hc))) (by decide) (by rw [List.length_zipWith, hl, Nat.min_self, R'.len c hc]) fun i => ?_
        rw [e_zip (f := fun x y => e c (pivot c) * x - e b (pivot b) * y) hl (by simp), Int.neg_mul]
        omega
      have := zero_of R.ech hs fun d hd => by
        rw [e_zip (f := fun x y => e c (pivot c) * x - e b (pivot b) * y) hl (by simp)]
        by_cases hdb : pivot d = pivot b
        · rw [hdb]
          have e1 : e c (pivot b) = e c (pivot c) := by rw [hcb]
          rw [e1, Int.mul_comm]
          omega
        · have h1 : e b (pivot d) = 0 := R.cl d hd b hb hdb
          have hdm : pivot d ∈ C.map pivot := by rw [← hp]; exact List.mem_map.mpr ⟨d, hd, rfl⟩
          obtain ⟨d', hd', hdd⟩ := List.mem_map.mp hdm
          have h2 : e c (pivot d) = 0 := by
            rw [← hdd]
            exact R'.cl d' hd' c hc (by rw [hdd, hcb]; exact hdb)
          rw [h1, h2, Int.mul_zero, Int.mul_zero]
          rfl
      intro i
      have := this i
      rw [e_zip (f := fun x y => e c (pivot c) * x - e b (pivot b) * y) hl (by simp)] at this
      exact this
    have : b = c := prim_eq hl (R.gcd b hb) (R'.gcd c hc) hc2 hb2 fun i => by have := hw i; omega
    rw [this]
    exact hc
  exact asc_eq R.asc R'.asc (half R R' h) (half R' R fun v => (h v).symm)
/-! determinants, by the first row; columns in any order -/
def L (x : Nat → Int) : List Nat → (List Nat → Int) → Int
  | [], _ => 0
  | c :: cs, g => x c * g cs - L x cs fun d => g (c :: d)
def Dt : List Vec → List Nat → Int
  | [], _ => 1
  | x :: R, cs => L (e x) cs (Dt R)
theorem L_lin (x : Nat → Int) (a b : Int) : ∀ (cs : List Nat) (g h : List Nat → Int), L x cs (fun d => a * g d + b * h d) = a * L x cs g + b * L x cs h
  | [], g, h => by
    show (0 : Int) = a * 0 + b * 0
    omega
  | c :: cs, g, h => by
    show x c * (a * g cs + b * h cs) - L x cs (fun d => a * g (c :: d) + b * h (c :: d)) = a * (x c * g cs - L x cs fun d => g (c :: d)) + b * (x c * h cs - L x cs fun d => h (c :: d))
    rw [L_lin x a b cs (fun d => g (c :: d)) (fun d => h (c :: d)), Int.mul_add, Int.mul_sub, Int.mul_sub, Int.mul_left_comm, Int.mul_left_comm (x c) b]
    omega
theorem L_vec {k a b : Int} {w u v : Nat → Int} (he : ∀ i, k * w i = a * u i + b * v i) : ∀ (cs : List Nat) (g : List Nat → Int), k * L w cs g = a * L u cs g + b * L v cs g
  | [], g => by
    show k * 0 = a * 0 + b * 0
    omega
  | c :: cs, g => by
    show k * (w c * g cs - L w cs fun d => g (c :: d)) = a * (u c * g cs - L u cs fun d => g (c :: d)) + b * (v c * g cs - L v cs fun d => g (c :: d))
    have h1 := L_vec he cs fun d => g (c :: d)
    have h2 : k * (w c * g cs) = a * (u c * g cs) + b * (v c * g cs) := by
      rw [← Int.mul_assoc, he c, Int.add_mul, Int.mul_assoc, Int.mul_assoc]
    rw [Int.mul_sub, Int.mul_sub, Int.mul_sub]
    omega
theorem L_zero (x : Nat → Int) : ∀ (cs : List Nat) (g : List Nat → Int), (∀ c ∈ cs, x c = 0) → L x cs g = 0
  | [], _, _ => rfl
  | c :: cs, g, h => by
    show x c * g cs - L x cs _ = 0
    rw [h c List.mem_cons_self, L_zero x cs _ fun d hd => h d (List.mem_cons_of_mem _ hd), Int.zero_mul]
    rfl
theorem L_congr (x : Nat → Int) {cs : List Nat} {g h : List Nat → Int} (H : ∀ d, g d = h d) : L x cs g = L x cs h := by
  have : g = h := funext H
  rw [this]
theorem L_swap (x y : Nat → Int) : ∀ (cs : List Nat) (g : List Nat → Int), L x cs (fun d => L y d g) = - L y cs (fun d => L x d g)
  | [], _ => rfl
  | c :: cs, g => by
    have half : ∀ x y : Nat → Int, L x (c :: cs) (fun d => L y d g) = x c * L y cs g - y c * L x cs g + L x cs (fun d => L y d fun d => g (c :: d)) := by
      intro x y
      show x c * L y cs g - L x cs (fun d => y c * g d - L y d fun d => g (c :: d)) = _
      have e1 : L x cs (fun d => y c * g d - L y d fun d => g (c :: d)) = L x cs (fun d => y c * g d + (-1) * L y d fun d => g (c :: d)) := L_congr x fun d => by omega
      rw [e1, L_lin]
      omega
    rw [half x y, half y x]
    have := L_swap x y cs fun d => g (c :: d)
    omega
theorem Dt_rep : ∀ (R : List Vec) {x : Vec}, x ∈ R → ∀ cs, Dt (x :: R) cs = 0
  | y :: R, x, hx, cs => by
    have sw : Dt (x :: y :: R) cs = - Dt (y :: x :: R) cs := L_swap (e x) (e y) cs (Dt R)
    by_cases h : x = y
    · subst h
      omega
    · have hx' : x ∈ R := (List.mem_cons.mp hx).resolve_left h
      rw [sw]
      have : Dt (y :: x :: R) cs = L (e y) cs fun d => 0 * 0 + 0 * 0 := L_congr (e y) fun d => by
        rw [Dt_rep R hx' d]
        rfl
      rw [this, L_lin]
      omega
theorem Dt_sp {n : Nat} {R : List Vec} {v : Vec} (h : Sp n R v) (cs : List Nat) : Dt (v :: R) cs = 0 := by
  induction h with
  | zero => exact L_zero _ _ _ fun c _ => e_rep
  | mem hm _ => exact Dt_rep R hm cs
  | lin a b k _ _ hk _ he ih1 ih2 =>
    have := L_vec he cs (Dt R)
    have h1 : L (e _) cs (Dt R) = 0 := ih1
    have h2 : L (e _) cs (Dt R) = 0 := ih2
    rw [h1, h2, Int.mul_zero, Int.mul_zero] at this
    exact (Int.mul_eq_zero.mp this).resolve_left hk
/-- rows of the span that stand like a staircase over the columns -/
def Tri (n : Nat) (R : List Vec) : List Nat → Prop
  | [] => True
  | c :: C => (∃ ρ, Sp n R ρ ∧ e ρ c ≠ 0 ∧ ∀ d ∈ C, e ρ d = 0) ∧ Tri n R C
theorem Tri.mono {n : Nat} {R R' : List Vec} (h : ∀ v, Sp n R v → Sp n R' v) : ∀ {C : List Nat}, Tri n R C → Tri n R' C
  | [], _ => trivial
  | c :: C, ⟨⟨ρ, h1, h2, h3⟩, t⟩ => ⟨⟨ρ, h ρ h1, h2, h3⟩, Tri.mono h t⟩
theorem tri_zero {n : Nat} {R : List Vec} : ∀ {C : List Nat} {g : List Nat → Int}, Tri n R C → (∀ v, Sp n R v → L (e v) C g = 0) → ∀ x, L x C g = 0
  | [], _, _, _, _ => rfl
  | c :: C, g, ⟨⟨ρ, h1, h2, h3⟩, t⟩, hv, x => by
    have h4 : e ρ c * g C - L (e ρ) C (fun d => g (c :: d)) = 0 := hv ρ h1
    rw [L_zero _ _ _ h3, Int.sub_zero] at h4
    have h5 : g C = 0 := (Int.mul_eq_zero.mp h4).resolve_left h2
    have h6 := tri_zero (g := fun d => g (c :: d)) t (fun v hv' => by
      have : e v c * g C - L (e v) C (fun d => g (c :: d)) = 0 := hv v hv'
      rw [h5, Int.mul_zero] at this
      omega) x
    show x c * g C - L x C _ = 0
    rw [h5, h6, Int.mul_zero]
    rfl
/-- Sylvester's identity, as the elimination needs it -/
theorem sylvester {n : Nat} {R : List Vec} {C : List Nat} (t : Tri n R C) (x y : Vec) (c j : Nat) :
    Dt R C * Dt (x :: y :: R) (j :: c :: C) = Dt (y :: R) (c :: C) * Dt (x :: R) (j :: C) - Dt (x :: R) (c :: C) * Dt (y :: R) (j :: C) := by
  have e1 : ∀ x : Vec, Dt (x :: y :: R) (j :: c :: C) = e x j * Dt (y :: R) (c :: C) - (e x c * Dt (y :: R) (j :: C) - L (e x) C fun d => Dt (y :: R) (j :: c :: d)) := fun _ => rfl
  have e2 : ∀ (x : Vec) (j : Nat), Dt (x :: R) (j :: C) = e x j * Dt R C - L (e x) C fun d => Dt R (j :: d) := fun _ _ => rfl
  have key : ∀ x : Vec, L (e x) C (fun d => Dt R C * Dt (y :: R) (j :: c :: d) + (Dt (y :: R) (c :: C) * Dt R (j :: d) + (- Dt (y :: R) (j :: C)) * Dt R (c :: d))) =
      Dt R C * Dt (x :: y :: R) (j :: c :: C) - (Dt (y :: R) (c :: C) * Dt (x :: R) (j :: C) - Dt (x :: R) (c :: C) * Dt (y :: R) (j :: C)) := by
    intro x
    have s1 := L_lin (e x) (Dt R C) 1 C (fun d => Dt (y :: R) (j :: c :: d)) (fun d => Dt (y :: R) (c :: C) * Dt R (j :: d) + (- Dt (y :: R) (j :: C)) * Dt R (c :: d))
    have s2 := L_lin (e x) (Dt (y :: R) (c :: C)) (- Dt (y :: R) (j :: C)) C (fun d => Dt R (j :: d)) (fun d => Dt R (c :: d))
    have s0 : L (e x) C (fun d => Dt R C * Dt (y :: R) (j :: c :: d) + (Dt (y :: R) (c :: C) * Dt R (j :: d) + (- Dt (y :: R) (j :: C)) * Dt R (c :: d))) = L (e x) C (fun d => Dt R C * Dt (y :: R) (j :: c :: d) + 1 * (Dt (y :: R) (c :: C) * Dt R (j :: d) + (- Dt (y :: R) (j :: C)) * Dt R (c :: d))) := L_congr _ fun d => by omega
    rw [s0, s1, s2, e1 x, e2 x j, e2 x c]
    generalize Dt (y :: R) (c :: C) = p
    generalize Dt (y :: R) (j :: C) = q
    generalize Dt R C = D
    generalize L (e x) C (fun d => Dt (y :: R) (j :: c :: d)) = l1
    generalize L (e x) C (fun d => Dt R (j :: d)) = l2
    generalize L (e x) C (fun d => Dt R (c :: d)) = l3
    simp only [Int.mul_sub, Int.sub_mul, Int.mul_add, Int.add_mul, Int.neg_mul, Int.one_mul]
    have a1 : D * (e x j * p) = p * (e x j * D) := by rw [Int.mul_left_comm, Int.mul_left_comm p, Int.mul_comm D p]
    have a2 : D * (e x c * q) = e x c * D * q := by rw [Int.mul_left_comm, Int.mul_assoc]
    have a3 : l3 * q = q * l3 := Int.mul_comm _ _
    omega
  have z := tri_zero t (g := fun d => Dt R C * Dt (y :: R) (j :: c :: d) + (Dt (y :: R) (c :: C) * Dt R (j :: d) + (- Dt (y :: R) (j :: C)) * Dt R (c :: d))) (fun v hv => by
    rw [key v, Dt_sp hv (j :: C), Dt_sp hv (c :: C)]
    have : Dt (v :: y :: R) (j :: c :: C) = 0 := Dt_sp (hv.sub fun z hz hl => .mem (List.mem_cons_of_mem _ hz) hl) _
    rw [this]
    omega) (e x)
  have := key x
  omega
end LA

set_option linter.all false
namespace LA
/-! sizes -/
def maxAbs (v : Vec) : Nat := v.foldr (fun x m => max x.natAbs m) 0
def bw (v : Vec) : Nat := (maxAbs v).log2 + 1
theorem maxAbs_mem : ∀ {v : Vec} {x : Int}, x ∈ v → x.natAbs ≤ maxAbs v
  | y :: v, x, h => by
    show x.natAbs ≤ max y.natAbs (maxAbs v)
    rcases List.mem_cons.mp h with rfl | h
    · exact Nat.le_max_left _ _
    · exact Nat.le_trans (maxAbs_mem h) (Nat.le_max_right _ _)
theorem maxAbs_lt : ∀ {v : Vec} {m : Nat}, 0 < m → (∀ x ∈ v, x.natAbs < m) → maxAbs v < m
  | [], m, h, _ => h
  | y :: v, m, h, hx => by
    show max y.natAbs (maxAbs v) < m
    have h1 := hx y List.mem_cons_self
    have h2 := maxAbs_lt h fun x hv => hx x (List.mem_cons_of_mem _ hv)
    omega
theorem bw_spec (v : Vec) (i : Nat) : (e v i).natAbs < 2 ^ bw v := by
  have h1 : (e v i).natAbs ≤ maxAbs v := by
    by_cases h : i < v.length
    · exact maxAbs_mem (e_mem h)
    · rw [e_out (by omega)]
      exact Nat.zero_le _
  exact Nat.lt_of_le_of_lt h1 Nat.lt_log2_self
theorem bw_le {v : Vec} {a : Nat} (h1 : 1 ≤ a) (h : ∀ x ∈ v, x.natAbs < 2 ^ a) : bw v ≤ a := by
  unfold bw
  have := maxAbs_lt (Nat.two_pow_pos a) h
  by_cases h0 : maxAbs v = 0
  · rw [h0]
    have : Nat.log2 0 = 0 := by decide
    omega
  · have := (Nat.log2_lt h0).mpr this
    omega
def cost (ℓ : Nat) (S : List Vec) : Nat := (S.map fun r => bw r + ℓ).sum
theorem cost_perm {ℓ : Nat} {S T : List Vec} (h : S.Perm T) : cost ℓ S = cost ℓ T := by
  unfold cost
  exact (h.map _).sum_nat
theorem cost_append (ℓ : Nat) (S T : List Vec) : cost ℓ (S ++ T) = cost ℓ S + cost ℓ T := by
  unfold cost
  rw [List.map_append, List.sum_append]
theorem cost_cons (ℓ : Nat) (x : Vec) (T : List Vec) : cost ℓ (x :: T) = bw x + ℓ + cost ℓ T := by
  unfold cost
  rw [List.map_cons, List.sum_cons]
theorem cost_mem {ℓ : Nat} : ∀ {S : List Vec} {x : Vec}, x ∈ S → bw x + ℓ ≤ cost ℓ S
  | y :: S, x, h => by
    rw [cost_cons]
    rcases List.mem_cons.mp h with rfl | h
    · omega
    · have := cost_mem (ℓ := ℓ) h
      omega
theorem cost_le {ℓ a : Nat} : ∀ {S : List Vec}, (∀ x ∈ S, bw x ≤ a) → cost ℓ S ≤ S.length * (a + ℓ)
  | [], _ => Nat.zero_le _
  | y :: S, h => by
    have h1 := h y List.mem_cons_self
    have h2 := cost_le (ℓ := ℓ) (S := S) fun x hx => h x (List.mem_cons_of_mem _ hx)
    rw [cost_cons, List.length_cons, Nat.succ_mul]
    omega
theorem L_bd {x : Nat → Int} {X G : Nat} (hx : ∀ c, (x c).natAbs ≤ X) : ∀ (cs : List Nat) (g : List Nat → Int), (∀ d, d.length ≤ cs.length → (g d).natAbs ≤ G) → (L x cs g).natAbs ≤ cs.length * (X * G)
  | [], _, _ => Nat.zero_le _
  | c :: cs, g, h => by
    show (x c * g cs - L x cs fun d => g (c :: d)).natAbs ≤ _
    have h1 : (x c * g cs).natAbs ≤ X * G := by
      rw [Int.natAbs_mul]
      exact Nat.mul_le_mul (hx c) (h cs (by rw [List.length_cons]; omega))
    have h2 := L_bd hx cs (fun d => g (c :: d)) fun d hd => h (c :: d) (by rw [List.length_cons, List.length_cons]; omega)
    rw [List.length_cons, Nat.succ_mul]
    omega
theorem Dt_bd {ℓ : Nat} : ∀ (R : List Vec) (cs : List Nat), cs.length ≤ 2 ^ ℓ → (Dt R cs).natAbs ≤ 2 ^ cost ℓ R
  | [], cs, _ => Nat.le_refl _
  | x :: R, cs, h => by
    have h1 := L_bd (x := e x) (X := 2 ^ bw x) (G := 2 ^ cost ℓ R) (fun c => Nat.le_of_lt (bw_spec x c)) cs (Dt R) fun d hd => Dt_bd R d (Nat.le_trans hd h)
    show (L (e x) cs (Dt R)).natAbs ≤ _
    refine Nat.le_trans h1 ?_
    rw [cost_cons, show bw x + ℓ + cost ℓ R = ℓ + (bw x + cost ℓ R) by omega, Nat.pow_add 2 ℓ, Nat.pow_add 2 (bw x)]
    exact Nat.mul_le_mul_right (k := 2 ^ bw x * 2 ^ cost ℓ R) h
theorem asc_len : ∀ {l : List Nat} {a m : Nat}, l.Pairwise (· < ·) → (∀ x ∈ l, a ≤ x ∧ x < m) → a ≤ m → l.length + a ≤ m
  | [], a, m, _, _, h => by rw [List.length_nil]; omega
  | x :: l, a, m, hp, hx, h => by
    have h1 := hx x List.mem_cons_self
    have h2 := asc_len (l := l) (a := x + 1) (m := m) (List.pairwise_cons.mp hp).2 (fun y hy => ⟨(List.pairwise_cons.mp hp).1 y hy, (hx y (List.mem_cons_of_mem _ hy)).2⟩) (by omega)
    rw [List.length_cons]
    omega
/-! the law's elimination -/
def upd (before : Int) (first : Vec) (c : Nat) (r : Vec) : Vec := (List.zipWith (fun x y => e first c * x - e r c * y) r first).map fun z => z.fdiv before
structure Gh (n : Nat) (S : List Vec) (c : Nat) (rows : List Vec) (k : Nat) (before : Int) (E : List Vec) (P : List (Vec × Vec)) (R : List Vec) (C : List Nat) : Prop where
  rw : rows = E ++ P.map (·.1)
  ek : E.length = k
  pm : (R ++ P.map (·.2)).Perm S
  ln : ∀ p ∈ P, p.1.length = n
  dt : ∀ p ∈ P, ∀ j, j < n → e p.1 j = Dt (p.2 :: R) (j :: C)
  ps : ∀ p ∈ P, Sp n (p.2 :: R) p.1
  bd : before = Dt R C
  b0 : before ≠ 0
  tr : Tri n R C
  sp : ∀ v, Sp n S v ↔ Sp n (E ++ P.map (·.1)) v
  es : ∀ b ∈ E, Sp n R b
  el : ∀ b ∈ E, b.length = n ∧ pivot b < c
  ea : E.Pairwise fun a b => pivot a < pivot b
  ep : E.map pivot = C.reverse
  lo : ∀ p ∈ P, ∀ j, j < c → e p.1 j = 0
  cn : c ≤ n
def BSt (n : Nat) (S : List Vec) (c : Nat) (rows : List Vec) (k : Nat) (before : Int) : Prop := ∃ E P R C, Gh n S c rows k before E P R C
theorem bst_start {n : Nat} {S : List Vec} (h : ∀ v ∈ S, v.length = n) : BSt n S 0 S 0 1 := by
  refine ⟨[], S.map fun v => (v, v), [], [], ?_, rfl, ?_, ?_, ?_, ?_, rfl, by decide, trivial, fun v => ?_, ?_, ?_, .nil, rfl, ?_, Nat.zero_le _⟩
  · rw [List.nil_append, List.map_map]
    exact (List.map_id' S).symm
  · rw [List.nil_append, List.map_map]
    exact List.Perm.of_eq (List.map_id' S)
  · intro p hp
    obtain ⟨v, hv, rfl⟩ := List.mem_map.mp hp
    exact h v hv
  · intro p hp j _
    obtain ⟨v, hv, rfl⟩ := List.mem_map.mp hp
    show e v j = e v j * 1 - 0
    omega
  · intro p hp
    obtain ⟨v, hv, rfl⟩ := List.mem_map.mp hp
    exact .mem List.mem_cons_self (h v hv)
  · rw [List.nil_append, List.map_map]
    have : List.map ((fun x => x.1) ∘ fun v : Vec => (v, v)) S = S := List.map_id' S
    rw [this]
  · intro b hb
    cases hb
  · intro b hb
    cases hb
  · intro p _ j hj
    omega
theorem Gh.skip {n c k : Nat} {S rows E : List Vec} {before : Int} {P : List (Vec × Vec)} {R : List Vec} {C : List Nat} (g : Gh n S c rows k before E P R C) (hc : c < n) (h : ∀ p ∈ P, e p.1 c = 0) : Gh n S (c + 1) rows k before E P R C :=
  ⟨g.rw, g.ek, g.pm, g.ln, g.dt, g.ps, g.bd, g.b0, g.tr, g.sp, g.es, fun b hb => ⟨(g.el b hb).1, Nat.lt_succ_of_lt (g.el b hb).2⟩, g.ea, g.ep, fun p hp j hj => by
    rcases Nat.lt_or_ge j c with h1 | h1
    · exact g.lo p hp j h1
    · have : j = c := by omega
      rw [this]
      exact h p hp, hc⟩
theorem bst_skip {n c k : Nat} {S rows : List Vec} {before : Int} (b : BSt n S c rows k before) (hc : c < n) (h : ∀ i, k ≤ i → i < rows.length → e (rows.getD i []) c = 0) : BSt n S (c + 1) rows k before := by
  obtain ⟨E, P, R, C, g⟩ := b
  refine ⟨E, P, R, C, g.skip hc fun p hp => ?_⟩
  obtain ⟨i, hi, rfl⟩ := List.mem_iff_getElem.mp hp
  have h1 := h (k + i) (by omega) (by rw [g.rw, List.length_append, List.length_map, g.ek]; omega)
  have h2 : rows.getD (k + i) [] = P[i].1 := by
    rw [g.rw, List.getD_eq_getElem?_getD, List.getElem?_append_right (by rw [g.ek]; omega), g.ek, Nat.add_sub_cancel_left, List.getElem?_map, List.getElem?_eq_getElem hi]
    rfl
  rw [h2] at h1
  exact h1
theorem upd_len {before : Int} {first r : Vec} {c n : Nat} (h1 : first.length = n) (h2 : r.length = n) : (upd before first c r).length = n := by
  unfold upd
  rw [List.length_map, List.length_zipWith]
  omega
/-- the pivot's turn, over the pairs: (first, o) and what is left T -/
theorem Gh.turn {n c k : Nat} {S rows E : List Vec} {before : Int} {P : List (Vec × Vec)} {R : List Vec} {C : List Nat} (g : Gh n S c rows k before E P R C) (hc : c < n) {first o : Vec} {T : List (Vec × Vec)} (hP : P.Perm ((first, o) :: T)) (hf : e first c ≠ 0) :
    Gh n S (c + 1) (E ++ first :: (T.map (·.1)).map (upd before first c)) (k + 1) (e first c) (E ++ [first]) (T.map fun p => (upd before first c p.1, p.2)) (o :: R) (c :: C) ∧
    ∀ p ∈ T, ∀ j, before * e (upd before first c p.1) j = e first c * e p.1 j - e p.1 c * e first j := by
  have mf : (first, o) ∈ P := hP.mem_iff.mpr List.mem_cons_self
  have mT : ∀ p ∈ T, p ∈ P := fun p hp => hP.mem_iff.mpr (List.mem_cons_of_mem _ hp)
  have lf : first.length = n := g.ln _ mf
  have ed : ∀ p ∈ T, ∀ j, j < n → e first c * e p.1 j - e p.1 c * e first j = before * Dt (p.2 :: o :: R) (j :: c :: C) := by
    intro p hp j hj
    rw [g.dt _ mf c hc, g.dt _ mf j hj, g.dt _ (mT p hp) j hj, g.dt _ (mT p hp) c hc, g.bd]
    exact (sylvester g.tr p.2 o c j).symm
  have eu0 : ∀ p ∈ T, ∀ j, e (upd before first c p.1) j = (e first c * e p.1 j - e p.1 c * e first j).fdiv before := by
    intro p hp j
    unfold upd
    rw [e_map (f := fun z => z.fdiv before) (Int.zero_fdiv _), e_zip (f := fun x y => e first c * x - e p.1 c * y) (by rw [lf, g.ln _ (mT p hp)]) (by simp)]
  have eu : ∀ p ∈ T, ∀ j, j < n → e (upd before first c p.1) j = Dt (p.2 :: o :: R) (j :: c :: C) := by
    intro p hp j hj
    rw [eu0 p hp j, ed p hp j hj]
    exact Int.mul_fdiv_cancel_left _ g.b0
  have eb : ∀ p ∈ T, ∀ j, before * e (upd before first c p.1) j = e first c * e p.1 j - e p.1 c * e first j := by
    intro p hp j
    rcases Nat.lt_or_ge j n with h | h
    · rw [eu p hp j h, ed p hp j h]
    · have z1 : e p.1 j = 0 := e_out (by rw [g.ln _ (mT p hp)]; exact h)
      have z2 : e first j = 0 := e_out (by rw [lf]; exact h)
      rw [e_out (by rw [upd_len lf (g.ln _ (mT p hp))]; exact h), z1, z2, Int.mul_zero, Int.mul_zero, Int.mul_zero]
      rfl
  have ul : ∀ p ∈ T, (upd before first c p.1).length = n := fun p hp => upd_len lf (g.ln _ (mT p hp))
  have pf : pivot first = c := pivot_eq hf fun i hi => g.lo _ mf i hi
  have Cc : ∀ d ∈ C, d < c := fun d hd => by
    have : d ∈ E.map pivot := by rw [g.ep]; exact List.mem_reverse.mpr hd
    obtain ⟨b, hb, rfl⟩ := List.mem_map.mp this
    exact (g.el b hb).2
  have up : ∀ {R' : List Vec} {v : Vec}, Sp n R' v → Sp n (o :: R') v := fun h => h.sub fun x hx hl => .mem (List.mem_cons_of_mem _ hx) hl
  have sf : Sp n (o :: R) first := g.ps _ mf
  refine ⟨⟨?_, ?_, ?_, ?_, ?_, ?_, ?_, hf, ⟨⟨first, sf, hf, fun d hd => g.lo _ mf d (Cc d hd)⟩, g.tr.mono fun v => up⟩, fun v => ?_, ?_, ?_, ?_, ?_, ?_, hc⟩, eb⟩
  · rw [List.append_assoc, List.map_map, List.map_map]
    rfl
  · rw [List.length_append, g.ek]
    rfl
  · rw [List.map_map]
    have h1 : (R ++ P.map (·.2)).Perm (R ++ (o :: T.map (·.2))) := (hP.map (·.2)).append_left R
    have h2 : (R ++ (o :: T.map (·.2))).Perm (o :: (R ++ T.map (·.2))) := List.perm_middle
    exact (h1.trans h2).symm.trans g.pm
  · intro p hp
    obtain ⟨q, hq, rfl⟩ := List.mem_map.mp hp
    exact ul q hq
  · intro p hp j hj
    obtain ⟨q, hq, rfl⟩ := List.mem_map.mp hp
    exact eu q hq j hj
  · intro p hp
    obtain ⟨q, hq, rfl⟩ := List.mem_map.mp hp
    refine .lin (e first c) (- e q.1 c) before ((g.ps q (mT q hq)).sub fun x hx hl => .mem ?_ hl) (sf.sub fun x hx hl => .mem ?_ hl) g.b0 (ul q hq) fun i => by
      rw [eb q hq i, Int.neg_mul]; omega
    · rcases List.mem_cons.mp hx with rfl | hx
      · exact List.mem_cons_self
      · exact List.mem_cons_of_mem _ (List.mem_cons_of_mem _ hx)
    · exact List.mem_cons_of_mem _ hx
  · exact g.dt _ mf c hc
  · refine (g.sp v).trans ?_
    have m1 : ∀ q ∈ T, q.1 ∈ E ++ P.map (·.1) := fun q hq => List.mem_append_right _ (List.mem_map.mpr ⟨q, mT q hq, rfl⟩)
    have m2 : first ∈ E ++ P.map (·.1) := List.mem_append_right _ (List.mem_map.mpr ⟨_, mf, rfl⟩)
    have n2 : first ∈ (E ++ [first]) ++ (T.map fun p => (upd before first c p.1, p.2)).map (·.1) := List.mem_append_left _ (List.mem_append_right _ List.mem_cons_self)
    have n1 : ∀ q ∈ T, upd before first c q.1 ∈ (E ++ [first]) ++ (T.map fun p => (upd before first c p.1, p.2)).map (·.1) := fun q hq => List.mem_append_right _ (List.mem_map.mpr ⟨_, List.mem_map.mpr ⟨q, hq, rfl⟩, rfl⟩)
    constructor
    · intro h
      refine h.sub fun x hx hl => ?_
      rcases List.mem_append.mp hx with hx | hx
      · exact .mem (List.mem_append_left _ (List.mem_append_left _ hx)) hl
      · obtain ⟨p, hp, rfl⟩ := List.mem_map.mp hx
        rcases List.mem_cons.mp (hP.mem_iff.mp hp) with rfl | hp
        · exact .mem n2 hl
        · exact .lin before (e p.1 c) (e first c) (.mem (n1 p hp) (ul p hp)) (.mem n2 lf) hf hl fun i => by have := eb p hp i; omega
    · intro h
      refine h.sub fun x hx hl => ?_
      rcases List.mem_append.mp hx with hx | hx
      · rcases List.mem_append.mp hx with hx | hx
        · exact .mem (List.mem_append_left _ hx) hl
        · rw [List.mem_singleton] at hx
          subst hx
          exact .mem m2 hl
      · obtain ⟨p, hp, rfl⟩ := List.mem_map.mp hx
        obtain ⟨q, hq, rfl⟩ := List.mem_map.mp hp
        exact .lin (e first c) (- e q.1 c) before (.mem (m1 q hq) (g.ln _ (mT q hq))) (.mem m2 lf) g.b0 hl fun i => by
          rw [eb q hq i, Int.neg_mul]; omega
  · intro b hb
    rcases List.mem_append.mp hb with hb | hb
    · exact up (g.es b hb)
    · rw [List.mem_singleton] at hb
      subst hb
      exact sf
  · intro b hb
    rcases List.mem_append.mp hb with hb | hb
    · exact ⟨(g.el b hb).1, Nat.lt_succ_of_lt (g.el b hb).2⟩
    · rw [List.mem_singleton] at hb
      subst hb
      exact ⟨lf, by omega⟩
  · rw [List.pairwise_append]
    refine ⟨g.ea, List.pairwise_singleton _ _, fun a ha b hb => ?_⟩
    rw [List.mem_singleton] at hb
    subst hb
    have := (g.el a ha).2
    omega
  · rw [List.map_append, g.ep, List.reverse_cons, List.map_cons, pf]
    rfl
  · intro p hp j hj
    obtain ⟨q, hq, rfl⟩ := List.mem_map.mp hp
    have h1 := eb q hq j
    have h2 : e first c * e q.1 j - e q.1 c * e first j = 0 := by
      rcases Nat.lt_or_ge j c with h | h
      · rw [g.lo _ (mT q hq) j h, g.lo _ mf j h, Int.mul_zero, Int.mul_zero]
        rfl
      · have : j = c := by omega
        rw [this, Int.mul_comm]
        omega
    rw [h2] at h1
    exact (Int.mul_eq_zero.mp h1).resolve_left g.b0
/-- the bounds -/
theorem Gh.size {n c k ℓ : Nat} {S rows E : List Vec} {before : Int} {P : List (Vec × Vec)} {R : List Vec} {C : List Nat} (g : Gh n S c rows k before E P R C) (hn : n + 1 ≤ 2 ^ ℓ) :
    before.natAbs ≤ 2 ^ cost ℓ S ∧ C.length ≤ n ∧ ∀ p ∈ P, ∀ j, (e p.1 j).natAbs ≤ 2 ^ cost ℓ S := by
  have hC : C.length ≤ n := by
    have h1 : (E.map pivot).Pairwise (· < ·) := List.pairwise_map.mpr g.ea
    have h2 := asc_len (l := E.map pivot) (a := 0) (m := c) h1 (fun x hx => by
      obtain ⟨b, hb, rfl⟩ := List.mem_map.mp hx
      exact ⟨Nat.zero_le _, (g.el b hb).2⟩) (Nat.zero_le _)
    rw [g.ep, List.length_reverse] at h2
    have := g.cn
    omega
  have hcost : cost ℓ (R ++ P.map (·.2)) = cost ℓ S := cost_perm g.pm
  rw [cost_append] at hcost
  refine ⟨?_, hC, fun p hp j => ?_⟩
  · rw [g.bd]
    refine Nat.le_trans (Dt_bd (ℓ := ℓ) R C (by omega)) (Nat.pow_le_pow_right (by decide) (by omega))
  · rcases Nat.lt_or_ge j n with h | h
    · rw [g.dt p hp j h]
      refine Nat.le_trans (Dt_bd (ℓ := ℓ) (p.2 :: R) (j :: C) (by rw [List.length_cons]; omega)) (Nat.pow_le_pow_right (by decide) ?_)
      have h3 : p.2 ∈ P.map (·.2) := List.mem_map.mpr ⟨p, hp, rfl⟩
      have := cost_mem (ℓ := ℓ) h3
      rw [cost_cons]
      omega
    · rw [e_out (by rw [g.ln p hp]; exact h)]
      exact Nat.zero_le _
/-- a pivot's turn over the rows: the rows k and i exchanged, then the rows behind k -/
theorem perm_pick {α : Type} : ∀ {P : List α} {i : Nat} (h : i < P.length), ∃ T, P.Perm (P[i] :: T)
  | x :: P, 0, _ => ⟨P, List.Perm.refl _⟩
  | x :: P, i + 1, h => by
    obtain ⟨T, hT⟩ := perm_pick (P := P) (i := i) (by rw [List.length_cons] at h; omega)
    exact ⟨x :: T, (hT.cons x).trans (List.Perm.swap _ _ _)⟩
theorem gh_all {n : Nat} {S : List Vec} (h : ∀ v ∈ S, v.length = n) : ∀ c, c ≤ n → ∃ rows k before, BSt n S c rows k before
  | 0, _ => ⟨S, 0, 1, bst_start h⟩
  | c + 1, hc => by
    obtain ⟨rows, k, before, E, P, R, C, g⟩ := gh_all h c (by omega)
    by_cases hz : ∀ p ∈ P, e p.1 c = 0
    · exact ⟨rows, k, before, E, P, R, C, g.skip (by omega) hz⟩
    · obtain ⟨p, hp⟩ := Classical.not_forall.mp hz
      obtain ⟨hp, hne⟩ := Classical.not_imp.mp hp
      obtain ⟨i, hi, rfl⟩ := List.mem_iff_getElem.mp hp
      obtain ⟨T, hT⟩ := perm_pick hi
      exact ⟨_, _, _, _, _, _, _, (g.turn (first := P[i].1) (o := P[i].2) (by omega) hT hne).1⟩
/-- at the end: the span is that of the staircase, and of the chosen rows -/
theorem Gh.done {n k : Nat} {S rows E : List Vec} {before : Int} {P : List (Vec × Vec)} {R : List Vec} {C : List Nat} (g : Gh n S n rows k before E P R C) : Ech n E ∧ (∀ v, Sp n S v ↔ Sp n E v) ∧ ∀ v, Sp n S v → Sp n R v := by
  have h1 : ∀ v, Sp n S v ↔ Sp n E v := fun v => by
    refine (g.sp v).trans ⟨fun h => h.sub fun x hx hl => ?_, fun h => h.sub fun x hx hl => .mem (List.mem_append_left _ hx) hl⟩
    rcases List.mem_append.mp hx with hx | hx
    · exact .mem hx hl
    · obtain ⟨p, hp, rfl⟩ := List.mem_map.mp hx
      have : p.1 = List.replicate n 0 := ext (by rw [g.ln p hp, List.length_replicate]) fun i => by
        rw [e_rep]
        rcases Nat.lt_or_ge i n with h | h
        · exact g.lo p hp i h
        · exact e_out (by rw [g.ln p hp]; exact h)
      rw [this]
      exact .zero
  exact ⟨⟨fun b hb => (g.el b hb).1, fun b hb => (g.el b hb).2, g.ea⟩, h1, fun v hv => ((h1 v).mp hv).sub fun x hx _ => g.es x hx⟩
theorem rank_eq {n k : Nat} {S rows : List Vec} {before : Int} (b : BSt n S n rows k before) (h : ∀ v ∈ S, v.length = n) : k = (reduced S).length := by
  obtain ⟨E, P, R, C, g⟩ := b
  obtain ⟨he, hs, _⟩ := g.done
  have := ech_pivots he (reduced_red h).ech fun v => ((hs v).symm.trans (reduced_sp h v).symm)
  have h2 := congrArg List.length this
  rw [List.length_map, List.length_map, g.ek] at h2
  exact h2
theorem L_one {x : Nat → Int} {p : Nat} {G : Nat} : ∀ {C : List Nat} {g : List Nat → Int}, C.Nodup → p ∈ C → (∀ d ∈ C, d ≠ p → x d = 0) → (∀ d, d.length ≤ C.length → (g d).natAbs ≤ G) → ∃ h : Int, L x C g = x p * h ∧ h.natAbs ≤ G
  | c :: C, g, hn, hp, hx, hg => by
    have hn' := List.nodup_cons.mp hn
    show ∃ h : Int, x c * g C - L x C (fun d => g (c :: d)) = x p * h ∧ _
    by_cases h : p = c
    · subst h
      rw [L_zero x C _ fun d hd => hx d (List.mem_cons_of_mem _ hd) fun z => hn'.1 (z ▸ hd), Int.sub_zero]
      exact ⟨g C, rfl, hg C (by rw [List.length_cons]; omega)⟩
    · have hp' : p ∈ C := (List.mem_cons.mp hp).resolve_left h
      obtain ⟨y, e1, e2⟩ := L_one (x := x) (p := p) (G := G) (C := C) (g := fun d => g (c :: d)) hn'.2 hp' (fun d hd => hx d (List.mem_cons_of_mem _ hd)) fun d hd => hg (c :: d) (by rw [List.length_cons, List.length_cons]; omega)
      refine ⟨-y, ?_, by rw [Int.natAbs_neg]; exact e2⟩
      rw [hx c List.mem_cons_self (fun z => h z.symm), e1, Int.zero_mul, Int.mul_neg]
      omega
theorem prim_dvd {u : Vec} {s D : Int} (hu : gcdL u = 1) (h : ∀ j, s ∣ D * e u j) : s ∣ D := by
  have h1 : s.natAbs ∣ gcdL (u.map fun x => ((D.natAbs : Nat) : Int) * x) := by
    apply dvd_gcdL
    intro i
    rw [e_map (f := fun x => ((D.natAbs : Nat) : Int) * x) (Int.mul_zero _)]
    have h2 := h i
    have h3 : s.natAbs ∣ (D * e u i).natAbs := Int.natAbs_dvd_natAbs.mpr h2
    apply Int.ofNat_dvd_left.mpr
    rw [Int.natAbs_mul] at h3 ⊢
    rw [Int.natAbs_natCast]
    exact h3
  rw [mul_gcdL, hu, Nat.mul_one] at h1
  exact Int.natAbs_dvd_natAbs.mp h1
/-- THE BOUND of a reduced basis -/
theorem canon_bd {n ℓ : Nat} {S : List Vec} (h : ∀ v ∈ S, v.length = n) (hn : n + 1 ≤ 2 ^ ℓ) {b : Vec} (hb : b ∈ reduced S) (j : Nat) : (e b j).natAbs ≤ 2 ^ cost ℓ S := by
  obtain ⟨rows, k, before, E, P, R, C, g⟩ := gh_all h n (Nat.le_refl _)
  obtain ⟨he, hs, hR⟩ := g.done
  have red := reduced_red h
  have hp := ech_pivots he red.ech fun v => ((hs v).symm.trans (reduced_sp h v).symm)
  rw [g.ep] at hp
  obtain ⟨_, hC, _⟩ := g.size hn
  have hbl := red.len b hb
  have hbR : Sp n R b := hR b ((reduced_sp h b).mp (.mem hb hbl))
  have hbC : pivot b ∈ C := by
    have : pivot b ∈ C.reverse := by rw [hp]; exact List.mem_map.mpr ⟨b, hb, rfl⟩
    exact List.mem_reverse.mp this
  have nd : C.Nodup := by
    have : C.reverse.Pairwise (· < ·) := by
      rw [hp]
      exact List.pairwise_map.mpr red.asc
    have h2 := List.pairwise_reverse.mp this
    exact h2.imp fun h => Nat.ne_of_gt h
  have hcost : cost ℓ (R ++ P.map (·.2)) = cost ℓ S := cost_perm g.pm
  rw [cost_append] at hcost
  have term : ∀ j, ∃ y : Int, Dt R C * e b j = e b (pivot b) * y ∧ y.natAbs ≤ 2 ^ cost ℓ S := by
    intro j
    have z := Dt_sp hbR (j :: C)
    have z2 : e b j * Dt R C - L (e b) C (fun d => Dt R (j :: d)) = 0 := z
    obtain ⟨y, e1, e2⟩ := L_one (x := e b) (p := pivot b) (G := 2 ^ cost ℓ S) (g := fun d => Dt R (j :: d)) nd hbC (fun d hd hne => by
      have hd' : d ∈ (reduced S).map pivot := by rw [← hp]; exact List.mem_reverse.mpr hd
      obtain ⟨c, hc, rfl⟩ := List.mem_map.mp hd'
      exact red.cl c hc b hb hne) fun d hd => Nat.le_trans (Dt_bd (ℓ := ℓ) R (j :: d) (by rw [List.length_cons]; omega)) (Nat.pow_le_pow_right (by decide) (by omega))
    refine ⟨y, ?_, e2⟩
    rw [e1] at z2
    rw [Int.mul_comm]
    omega
  have hD0 : Dt R C ≠ 0 := by rw [← g.bd]; exact g.b0
  have hpb := (red.piv b hb).2
  obtain ⟨μ, hμ⟩ : e b (pivot b) ∣ Dt R C := prim_dvd (red.gcd b hb) fun j => by
    obtain ⟨y, e1, _⟩ := term j
    exact ⟨y, e1⟩
  obtain ⟨y, e1, e2⟩ := term j
  have hμ0 : μ ≠ 0 := fun z => hD0 (by rw [hμ, z, Int.mul_zero])
  have e3 : μ * e b j = y := by
    rw [hμ, Int.mul_assoc] at e1
    exact Int.eq_of_mul_eq_mul_left (Int.ne_of_gt hpb) e1
  have e4 : (e b j).natAbs ≤ y.natAbs := by
    rw [← e3, Int.natAbs_mul]
    exact Nat.le_mul_of_pos_left _ (Int.natAbs_pos.mpr hμ0)
  exact Nat.le_trans e4 e2
end LA

set_option linter.all false
namespace LA
def Small (m : Nat) (u : Vec) : Prop := ∀ i, (e u i).natAbs < 2 ^ m
theorem Small.mono {m k : Nat} {u : Vec} (h : Small m u) (hk : m ≤ k) : Small k u := fun i => Nat.lt_of_lt_of_le (h i) (Nat.pow_le_pow_right (by decide) hk)
theorem natAbs_ediv_le (a : Int) {b : Int} (hb : 0 < b) (h : b ∣ a) : (a / b).natAbs ≤ a.natAbs := by
  obtain ⟨c, rfl⟩ := h
  rw [Int.mul_ediv_cancel_left _ (Int.ne_of_gt hb), Int.natAbs_mul]
  exact Nat.le_mul_of_pos_left _ (by omega)
theorem divided_small {m : Nat} {u : Vec} (h : Small m u) : Small m (divided u) := fun i => by
  have h1 := divided_e u i
  have h2 := unit1_pos u
  have h3 : (e (divided u) i).natAbs ≤ (e u i).natAbs := by
    rw [← h1, Int.natAbs_mul]
    exact Nat.le_mul_of_pos_left _ (by omega)
  exact Nat.lt_of_le_of_lt h3 (h i)
theorem positive_small {m : Nat} {u : Vec} (h : Small m u) : Small m (positive u) := fun i => by
  obtain ⟨s, hs, he⟩ := positive_e u
  rw [he i, Int.natAbs_mul]
  have := h i
  rcases hs with rfl | rfl
  · show 1 * _ < _
    omega
  · show 1 * _ < _
    omega
theorem gcdL_le {u : Vec} {i : Nat} (h : e u i ≠ 0) : gcdL u ≤ (e u i).natAbs := Nat.le_of_dvd (by omega) (Int.ofNat_dvd_left.mp (gcdL_dvd i))
theorem gcdL_lt {m : Nat} {u : Vec} (h : Small m u) : gcdL u < 2 ^ m := by
  by_cases hz : Zero u
  · have : gcdL u = 0 := by
      have h1 : 0 ∣ gcdL u := dvd_gcdL fun i => by rw [hz i]; exact Int.dvd_refl _
      exact Nat.zero_dvd.mp h1
    rw [this]
    exact Nat.two_pow_pos m
  · obtain ⟨i, hi⟩ := Classical.not_forall.mp hz
    exact Nat.lt_of_le_of_lt (gcdL_le hi) (h i)
theorem crossed_small {a b : Nat} {v r : Vec} (hl : v.length = r.length) (hv : Small a v) (hr : Small b r) (h0 : 0 < e r (pivot r)) : Small (a + b + 1) (crossed v r) := fun i => by
  have g1 : (gcdL [e r (pivot r), e v (pivot r)] : Int) ∣ e r (pivot r) := gcdL_dvd (v := [e r (pivot r), e v (pivot r)]) 0
  have g2 : (gcdL [e r (pivot r), e v (pivot r)] : Int) ∣ e v (pivot r) := gcdL_dvd (v := [e r (pivot r), e v (pivot r)]) 1
  have g0 : (0 : Int) < (gcdL [e r (pivot r), e v (pivot r)] : Int) := by
    rcases Nat.eq_zero_or_pos (gcdL [e r (pivot r), e v (pivot r)]) with z | z
    · rw [z] at g1
      have := Int.zero_dvd.mp g1
      omega
    · exact Int.ofNat_lt.mpr z
  unfold crossed
  rw [e_zip hl (by simp)]
  have k1 := Nat.lt_of_le_of_lt (natAbs_ediv_le _ g0 g1) (hr (pivot r))
  have k2 := Nat.lt_of_le_of_lt (natAbs_ediv_le _ g0 g2) (hv (pivot r))
  have k3 := hv i
  have k4 := hr i
  generalize e r (pivot r) / (gcdL [e r (pivot r), e v (pivot r)] : Int) = κ at k1 ⊢
  generalize e v (pivot r) / (gcdL [e r (pivot r), e v (pivot r)] : Int) = t at k2 ⊢
  have p1 : (κ * e v i).natAbs < 2 ^ (a + b) := by
    rw [Int.natAbs_mul, Nat.pow_add, Nat.mul_comm]
    exact Nat.mul_lt_mul'' k3 k1
  have p2 : (t * e r i).natAbs < 2 ^ (a + b) := by
    rw [Int.natAbs_mul, Nat.pow_add]
    exact Nat.mul_lt_mul'' k2 k4
  have p3 : 2 ^ (a + b + 1) = 2 ^ (a + b) + 2 ^ (a + b) := by rw [Nat.pow_succ]; omega
  omega
theorem cleared_small {a b : Nat} {v r : Vec} (hl : v.length = r.length) (hv : Small a v) (hr : Small b r) (h0 : 0 < e r (pivot r)) : Small (a + b + 1) (cleared v r) := by
  unfold cleared
  split
  · exact hv.mono (by omega)
  · exact divided_small (crossed_small hl hv hr h0)
theorem rest_small {n a b : Nat} : ∀ {B : List Vec} {v : Vec}, (∀ c ∈ B, c.length = n ∧ 0 < e c (pivot c) ∧ Small b c) → v.length = n → Small a v → Small (a + B.length * (b + 1)) (rest B v)
  | [], v, _, _, hv => hv.mono (by omega)
  | c :: B, v, hB, hl, hv => by
    obtain ⟨h1, h2, h3⟩ := hB c List.mem_cons_self
    have hlc : v.length = c.length := by rw [hl, h1]
    have := rest_small (B := B) (b := b) (fun d hd => hB d (List.mem_cons_of_mem _ hd)) (show (cleared v c).length = n by rw [cleared_len hlc]; exact hl) (cleared_small hlc hv h3 h2)
    refine this.mono ?_
    rw [List.length_cons, Nat.succ_mul]
    omega
end LA

set_option Elab.async false
set_option linter.all false
set_option maxRecDepth 100000
namespace Sp1
open PySem PySem.Spec PyProof.Rows L2
def top (i : Nat) : Stmt := PySem.Challenge.pw_frugaltape_k04_order_and_equality_of_spa.main.body.getD i (.Pass ⟨0, 0, 0, 0⟩)
/-- a def of the top: where it stands -/
structure Dn (K : PySem.W.Frag) (mg : Str → Option Value) (name : Str) (st : Stmt) (ps : List Str) (f : Addr) (fd : FuncData) : Prop where
  F : Fun K name name st f fd
  g : mg name = some (.ref f)
  b : Binds K fd ps []

theorem Dn.kp {K : PySem.W.Frag} {mg : Str → Option Value} {name : Str} {st : Stmt} {ps : List Str} {f : Addr} {fd : FuncData} (D : Dn K mg name st ps f fd) : PySem.W.keepIn K (.ref f) = true := D.F.kp
/-! heaps -/
theorem Same.sqt {K : PySem.W.Frag} {H H' : Hp} {a : Addr} {xs : List V} (e : Same H H') (h : SqT K H a xs) : SqT K H' a xs := by
  rcases h with (h | ⟨o, h⟩) | h
  · exact .inl (.inl (e _ _ h))
  · exact .inl (.inr ⟨o, e _ _ h⟩)
  · exact .inr h
theorem same_new {H : Hp} {p : Addr} {o : HO} (h : H p = none) : Same H (upd H p o) := fun b x e => by
  rw [upd_ne (ne_of_none e h)]
  exact e
theorem same_at {H0 H : Hp} {p : Addr} {o : HO} (h0 : H0 p = none) (s : Same H0 H) : Same H0 (upd H p o) := fun b x e => by
  rw [upd_ne (ne_of_none e h0)]
  exact s b x e
/-- a list or a tuple of ints -/
def Vc (K : PySem.W.Frag) (H : Hp) (v : V) (u : LA.Vec) : Prop := ∃ a, v = .ref a ∧ SqT K H a (u.map V.int)
def Vl (K : PySem.W.Frag) (H : Hp) (v : V) (u : LA.Vec) : Prop := ∃ a, v = .ref a ∧ SqL K H a (u.map V.int)
theorem Vc.keep {K : PySem.W.Frag} {H H' : Hp} {v : V} {u : LA.Vec} (h : Vc K H v u) (s : Same H H') : Vc K H' v u := by
  obtain ⟨a, e, h⟩ := h
  exact ⟨a, e, Same.sqt s h⟩
theorem Vl.keep {K : PySem.W.Frag} {H H' : Hp} {v : V} {u : LA.Vec} (h : Vl K H v u) (s : Same H H') : Vl K H' v u := by
  obtain ⟨a, e, h⟩ := h
  exact ⟨a, e, s.seq h⟩
theorem int_at {u : LA.Vec} {i : Nat} (h : i < u.length) : (u.map V.int)[i]? = some (.int (LA.e u i)) := by
  rw [List.getElem?_map, LA.e_get? h]
  rfl
theorem int_of {u : LA.Vec} {i : Nat} {x : V} (h : (u.map V.int)[i]? = some x) : i < u.length ∧ x = .int (LA.e u i) := by
  have h1 := (List.getElem?_eq_some_iff.mp h).1
  rw [List.length_map] at h1
  rw [int_at h1] at h
  exact ⟨h1, (Option.some.inj h).symm⟩
theorem pe_ty {X : Cx} {x : Str} {n : String} {pos : Pos} (hg : Gl X x) (hm : X.mg x = none) (hb : bootBuiltins x = some (.type n)) (hn : x ≠ "__name__" := by decide) (hd : (x == ("__debug__" : Str)) = false := by decide) : PE X (.Name x pos) (tC (.ty n)) := pe_bltn hg hm hb rfl hn hd
/-! tuples stay -/
def TK (H H' : Hp) : Prop := (∀ b xs, H b = some (.tup xs) → H' b = some (.tup xs)) ∧ ∀ b o u, H b = some (.frz o u) → H' b = some (.frz o u)
theorem TK.refl (H : Hp) : TK H H := ⟨fun _ _ h => h, fun _ _ _ h => h⟩
theorem TK.trans {H H1 H2 : Hp} (a : TK H H1) (b : TK H1 H2) : TK H H2 := ⟨fun c xs h => b.1 c xs (a.1 c xs h), fun c o u h => b.2 c o u (a.2 c o u h)⟩
theorem Same.tk {H H' : Hp} (s : Same H H') : TK H H' := ⟨fun b xs h => s b _ h, fun b o u h => s b _ h⟩
theorem tk_lst {H : Hp} {D : Addr} {xs : List V} {o : HO} (h : H D = some (.lst xs)) : TK H (upd H D o) := ⟨fun b ys e => by rw [upd_ne (ne_of e h (by intro z; cases z))]; exact e, fun b ob u e => by rw [upd_ne (ne_of e h (by intro z; cases z))]; exact e⟩
theorem TK.sqt {K : PySem.W.Frag} {H H' : Hp} {a : Addr} {xs : List V} (e : TK H H') (h : SqT K H a xs) : SqT K H' a xs := by
  rcases h with (h | ⟨o, h⟩) | h
  · exact .inl (.inl (e.1 _ _ h))
  · exact .inl (.inr ⟨o, e.2 _ _ _ h⟩)
  · exact .inr h
theorem Vc.tk {K : PySem.W.Frag} {H H' : Hp} {v : V} {u : LA.Vec} (h : Vc K H v u) (s : TK H H') : Vc K H' v u := by
  obtain ⟨a, e, h⟩ := h
  exact ⟨a, e, s.sqt h⟩
/-! a comprehension's new list: its items known -/
def Acc (H1 : Hp) (D : Addr) (f : Nat → V) (i : Nat) (H : Hp) : Prop := Same H1 H ∧ H D = some (.lst ((List.range i).map f))
theorem Acc.start {H1 : Hp} {D : Addr} {f : Nat → V} (nD : H1 D = none) : Acc H1 D f 0 (upd H1 D (.lst [])) := ⟨same_new nD, upd_same⟩
theorem Acc.turn {H1 H H4 : Hp} {D : Addr} {f : Nat → V} {i : Nat} {y : V} (h : Acc H1 D f i H) (nD : H1 D = none) (s : Same H H4) (hi : i ≤ 1000) (hy : y = f i) :
    ∃ acc, H4 D = some (.lst acc) ∧ acc.length < sizeLine ∧ Acc H1 D f (i + 1) (upd H4 D (.lst (acc ++ [y]))) := by
  refine ⟨_, s _ _ h.2, ?_, same_at nD (h.1.trans s), ?_⟩
  · rw [List.length_map, List.length_range]
    exact small1000 hi
  · rw [upd_same, List.range_succ, List.map_append, hy]
    rfl
theorem range_map (u : LA.Vec) : (List.range u.length).map (LA.e u) = u := by
  apply List.ext_getElem
  · rw [List.length_map, List.length_range]
  · intro i h1 h2
    rw [List.getElem_map, List.getElem_range, LA.e_in h2]
theorem range_ints {u : LA.Vec} {f : Nat → Int} {n : Nat} (hn : u.length = n) (h : ∀ i, i < n → f i = LA.e u i) : (List.range n).map (fun i => V.int (f i)) = u.map V.int := by
  subst hn
  have : (List.range u.length).map (fun i => V.int (f i)) = ((List.range u.length).map (LA.e u)).map V.int := by
    rw [List.map_map]
    refine List.map_congr_left fun i hi => ?_
    rw [h i (List.mem_range.mp hi)]
    rfl
  rw [this, range_map]
theorem walk_zipT {K : PySem.W.Frag} {a b : Addr} {xs ys : List V} {n : Nat} (hn : n = min xs.length ys.length) : Walk (RZ.ItzT K a b) n (fun H => SqT K H a xs ∧ SqT K H b ys) (YPair (fun i => xs[i]?) (fun i => ys[i]?)) := by
  subst hn
  refine ⟨fun i _ hi q => ?_, fun _ q => ⟨xs, ys, q.1, q.2, by omega⟩, fun i H v H' _ q y => ?_⟩
  · have h1 : i < xs.length := by omega
    have h2 : i < ys.length := by omega
    exact ⟨xs, ys, xs[i], ys[i], q.1, q.2, by simp [h1], by simp [h2]⟩
  · obtain ⟨T, x, z, h1, h2, h3, h4, h5⟩ := y
    exact ⟨T, x, z, h1, h2, h3, h4 xs q.1, h5 ys q.2⟩
end Sp1

set_option Elab.async false
set_option linter.all false
set_option maxRecDepth 100000
set_option maxHeartbeats 4000000
namespace Sp1
open PySem PySem.Spec PyProof.Rows L2
section
variable {P : Program} {w : World} {K : PySem.W.Frag} {mg : Str → Option Value} {base : Heap}
/-! is_integer -/
abbrev s_is_integer : Stmt := top 8
theorem sc_is_integer : FnScope ["value"] ["value"] (defScope s_is_integer) := ⟨rfl, rfl, rfl, by decide +kernel, rfl, by decide +kernel, by decide +kernel⟩
def sp_is_integer : Sp := fun vs H Q _ => ∃ i, vs = [.int i] ∧ Q (.bl true) H
theorem ok_is_integer {f : Addr} {fd : FuncData} {k : Nat} (D : Dn K mg "is_integer" s_is_integer ["value"] f fd) (m1 : mg "isinstance" = none) (m2 : mg "int" = none) (m3 : mg "bool" = none) :
    FnOk P w K mg base CX0 (k + 1) f fd ["value"] sp_is_integer := by
  refine D.F.ok sc_is_integer (fun vs H Q E h => ?_) (fun cdv A outer s H vs Q E hr h => ?_)
  · obtain ⟨i, rfl, _⟩ := h
    rfl
  · obtain ⟨i, rfl, q⟩ := h
    refine ⟨_, pss_one (ps_ret (pe_and (pe_callB call_isi (by rfl) m1 (by decide +kernel) (pa_cons (pv 0) (pa_cons (pe_ty (n := "int") (by rfl) m2 (by decide +kernel)) pa_nil)))
      (pe_one (pe_not (pe_callB call_isi (by rfl) m1 (by decide +kernel) (pa_cons (pv 0) (pa_cons (pe_ty (n := "bool") (by rfl) m3 (by decide +kernel)) pa_nil))))))), ?_⟩
    refine ⟨_, rfl, .int i, .ty "int", _, _, true, rfl, .ty _, .base (.int i), kit_ty (by decide +kernel), true, rfl, iteT ?_⟩
    refine ⟨_, rfl, .int i, .ty "bool", _, _, false, rfl, .ty _, .base (.int i), kit_ty (by decide +kernel), false, rfl, q⟩
/-! common_divisor -/
abbrev s_common_divisor : Stmt := top 9
theorem sc_common_divisor : FnScope ["numbers", "divisor", "number"] ["numbers"] (defScope s_common_divisor) := ⟨rfl, rfl, rfl, by decide +kernel, rfl, by decide +kernel, by decide +kernel⟩
def sp_common_divisor (K : PySem.W.Frag) : Sp := fun vs H Q _ => ∃ v u, vs = [v] ∧ (Vc K H v u ∨ Vl K H v u) ∧ Q (.int (LA.gcdL u : Int)) H
theorem gcd_step {u : LA.Vec} {i : Nat} (h : i < u.length) : LA.gcdF 0 (u.take (i + 1)) = Nat.gcd (LA.gcdF 0 (u.take i)) (LA.e u i).natAbs := by
  rw [List.take_add_one, LA.e_get? h]
  show List.foldl _ 0 (u.take i ++ [LA.e u i]) = _
  rw [List.foldl_append]
  rfl
theorem gcd_one {u : LA.Vec} {i : Nat} (h : LA.gcdF 0 (u.take i) = 1) : LA.gcdL u = 1 := by
  have e : LA.gcdL u = LA.gcdF (LA.gcdF 0 (u.take i)) (u.drop i) := by
    show List.foldl _ 0 u = List.foldl _ (List.foldl _ 0 (u.take i)) (u.drop i)
    rw [← List.foldl_append, List.take_append_drop]
  rw [e, h, LA.gcdF_one]
theorem ok_common_divisor {f : Addr} {fd : FuncData} {k : Nat} (D : Dn K mg "common_divisor" s_common_divisor ["numbers"] f fd) (mG : mg "gcd" = some (.builtin "math.gcd")) :
    FnOk P w K mg base CX0 (k + 1) f fd ["numbers"] (sp_common_divisor K) := by
  refine D.F.ok sc_common_divisor (fun vs H Q E h => ?_) (fun cdv A outer s H vs Q E hr h => ?_)
  · obtain ⟨v, u, rfl, _⟩ := h
    rfl
  · obtain ⟨v, u, rfl, hv, q⟩ := h
    have nd := sc_common_divisor.nd
    rcases hv with ⟨a, rfl, hS⟩ | ⟨a, rfl, hS⟩
    · refine ⟨_, pss_cons (ps_set (i := 1) nd rfl (.inl rfl) pe_int)
        (pss_cons (ps_for PassesOwn.never rfl (pi_tup (pv 0)) (pg_name (i := 2) nd rfl (.inl rfl))
          (pss_cons (ps_set (i := 1) nd rfl (.inl rfl) (pe_callBfun cr_gcd (by rfl) mG (pa_cons (pv 1) (pa_cons (pv 2) pa_nil))))
            (pss_one (ps_if (pt_cmpR op_eq (pv 1) pe_int (nomark _)) (pss_one (ps_ret pe_int)) pss_nil))))
        (pss_one (ps_ret (pv 1)))), ?_⟩
      refine ⟨_, rfl, a, rfl, ⟨_, hS⟩, for_tup (K := K) (a := a) (xs := u.map V.int) (fun i σ H' => H' = H ∧ ∃ y, σ = [some (.ref a), some (.int (LA.gcdF 0 (u.take i) : Int)), y])
        ⟨rfl, none, rfl⟩ (fun i σ H' _ h => by rw [h.1]; exact hS) ?_ ?_⟩
      · rintro i x σ H' hx ⟨rfl, y, rfl⟩
        obtain ⟨hi, rfl⟩ := int_of hx
        refine ⟨_, rfl, _, rfl, _, _, rfl, ?_⟩
        refine ⟨_, rfl, rfl, _, rfl, ite2 (fun e => ?_) fun _ => ?_⟩
        · have e1 : ((Nat.gcd ((LA.gcdF 0 (u.take i) : Int)).natAbs (LA.e u i).natAbs : Nat) : Int) = 1 := V.int.inj (of_decide_eq_true e)
          have e2 : LA.gcdF 0 (u.take (i + 1)) = 1 := by
            rw [gcd_step hi]
            rw [Int.natAbs_natCast] at e1
            exact Int.ofNat.inj e1
          show Q (.int 1) _
          rw [gcd_one e2] at q
          exact q
        · refine ⟨rfl, some (.int (LA.e u i)), ?_⟩
          rw [gcd_step hi]
          rfl
      · rintro σ H' ⟨rfl, y, rfl⟩
        refine ⟨_, rfl, ?_⟩
        rw [List.length_map, List.take_length]
        exact q
    · refine ⟨_, pss_cons (ps_set (i := 1) nd rfl (.inl rfl) pe_int)
        (pss_cons (ps_for PassesOwn.never rfl (pi_list (pv 0)) (pg_name (i := 2) nd rfl (.inl rfl))
          (pss_cons (ps_set (i := 1) nd rfl (.inl rfl) (pe_callBfun cr_gcd (by rfl) mG (pa_cons (pv 1) (pa_cons (pv 2) pa_nil))))
            (pss_one (ps_if (pt_cmpR op_eq (pv 1) pe_int (nomark _)) (pss_one (ps_ret pe_int)) pss_nil))))
        (pss_one (ps_ret (pv 1)))), ?_⟩
      refine ⟨_, rfl, a, rfl, ⟨_, hS⟩, for_list (K := K) (a := a) (xs := u.map V.int) (fun i σ H' => H' = H ∧ ∃ y, σ = [some (.ref a), some (.int (LA.gcdF 0 (u.take i) : Int)), y])
        ⟨rfl, none, rfl⟩ (fun i σ H' _ h => by rw [h.1]; exact hS) ?_ ?_⟩
      · rintro i x σ H' hx ⟨rfl, y, rfl⟩
        obtain ⟨hi, rfl⟩ := int_of hx
        refine ⟨_, rfl, _, rfl, _, _, rfl, ?_⟩
        refine ⟨_, rfl, rfl, _, rfl, ite2 (fun e => ?_) fun _ => ?_⟩
        · have e1 : ((Nat.gcd ((LA.gcdF 0 (u.take i) : Int)).natAbs (LA.e u i).natAbs : Nat) : Int) = 1 := V.int.inj (of_decide_eq_true e)
          have e2 : LA.gcdF 0 (u.take (i + 1)) = 1 := by
            rw [gcd_step hi]
            rw [Int.natAbs_natCast] at e1
            exact Int.ofNat.inj e1
          show Q (.int 1) _
          rw [gcd_one e2] at q
          exact q
        · refine ⟨rfl, some (.int (LA.e u i)), ?_⟩
          rw [gcd_step hi]
          rfl
      · rintro σ H' ⟨rfl, y, rfl⟩
        refine ⟨_, rfl, ?_⟩
        rw [List.length_map, List.take_length]
        exact q
end
end Sp1

set_option Elab.async false
set_option linter.all false
set_option maxRecDepth 100000
set_option maxHeartbeats 4000000
namespace Sp1
open PySem PySem.Spec PyProof.Rows L2
section
variable {P : Program} {w : World} {K : PySem.W.Frag} {mg : Str → Option Value} {base : Heap}
/-! pivot -/
abbrev s_pivot : Stmt := top 11
theorem sc_pivot : FnScope ["vector", "at"] ["vector"] (defScope s_pivot) := ⟨rfl, rfl, rfl, by decide +kernel, rfl, by decide +kernel, by decide +kernel⟩
def sp_pivot (K : PySem.W.Frag) : Sp := fun vs H Q _ => ∃ v u, vs = [v] ∧ Vc K H v u ∧ ¬ LA.Zero u ∧ Q (.int (LA.pivot u : Int)) H
theorem ok_pivot {f : Addr} {fd : FuncData} {k : Nat} (D : Dn K mg "pivot" s_pivot ["vector"] f fd) :
    FnOk P w K mg base CX0 (k + 1) f fd ["vector"] (sp_pivot K) := by
  refine D.F.ok sc_pivot (fun vs H Q E h => ?_) (fun cdv A outer s H vs Q E hr h => ?_)
  · obtain ⟨v, u, rfl, _⟩ := h
    rfl
  · obtain ⟨v, u, rfl, ⟨a, rfl, hS⟩, hz, q⟩ := h
    have nd := sc_pivot.nd
    have hp := LA.pivot_lt hz
    refine ⟨_, pss_cons (ps_set (i := 1) nd rfl (.inl rfl) pe_int)
      (pss_cons (ps_while PassesOwn.never (pt_cmpR op_eq (pe_ix ix_tup (pv 0) (pv 1) (fun _ _ => rfl)) pe_int (nomark _)) (pss_one (ps_aug (i := 1) nd rfl (.inl rfl) pe_int ip_add)))
      (pss_one (ps_ret (pv 1)))), ?_⟩
    refine ⟨fun m σ H' => H' = H ∧ ∃ i : Nat, m = LA.pivot u - i ∧ i ≤ LA.pivot u ∧ σ = [some (.ref a), some (.int (i : Int))], ⟨_, rfl, 0, rfl, Nat.zero_le _, rfl⟩, ?_⟩
    rintro m σ H' ⟨rfl, i, rfl, hi, rfl⟩
    refine ⟨_, rfl, _, rfl, a, _, _, _, rfl, rfl, hS, atI_nat (int_at (by omega)), rfl, _, rfl, ite2 (fun e => ?_) fun e => ?_⟩
    · have e1 : LA.e u i = 0 := V.int.inj (of_decide_eq_true e)
      have hlt : i < LA.pivot u := by
        rcases Nat.lt_or_ge i (LA.pivot u) with h | h
        · exact h
        · have : i = LA.pivot u := by omega
          rw [this] at e1
          exact absurd e1 (LA.pivot_ne hp)
      refine ⟨fun σ' H'' => H'' = H' ∧ σ' = [some (.ref a), some (.int ((i + 1 : Nat) : Int))], fun σ' H'' h => ⟨LA.pivot u - (i + 1), by omega, h.1, i + 1, rfl, by omega, h.2⟩, ?_⟩
      exact ⟨_, rfl, _, _, rfl, rfl, rfl, rfl⟩
    · have hlt : i = LA.pivot u := by
        rcases Nat.lt_or_ge i (LA.pivot u) with h | h
        · exact absurd (decide_eq_true (congrArg V.int (LA.pivot_low h))) e
        · omega
      refine ⟨_, rfl, ?_⟩
      rw [hlt]
      exact q
/-! divided -/
abbrev s_divided : Stmt := top 12
theorem sc_divided : FnScope ["vector", "divisor", "entry"] ["vector"] (defScope s_divided) := ⟨rfl, rfl, rfl, by decide +kernel, rfl, by decide +kernel, by decide +kernel⟩
def sp_divided (K : PySem.W.Frag) : Sp := fun vs H Q _ => ∃ v u, vs = [v] ∧ (Vc K H v u ∨ Vl K H v u) ∧ LA.Small 9000 u ∧ u.length ≤ 1000 ∧ ∀ v' H', Same H H' → Vc K H' v' (LA.divided u) → Q v' H'
theorem ok_divided {f f1 : Addr} {fd fd1 : FuncData} {k : Nat} (D : Dn K mg "divided" s_divided ["vector"] f fd) (D1 : Dn K mg "common_divisor" s_common_divisor ["numbers"] f1 fd1)
    (G1 : FnOk P w K mg base CX0 k f1 fd1 ["numbers"] (sp_common_divisor K)) (m1 : mg "tuple" = none) :
    FnOk P w K mg base CX0 (k + 1) f fd ["vector"] (sp_divided K) := by
  refine D.F.ok sc_divided (fun vs H Q E h => ?_) (fun cdv A outer s H vs Q E hr h => ?_)
  · obtain ⟨v, u, rfl, _⟩ := h
    rfl
  · obtain ⟨v, u, rfl, hv, hb, hl, q⟩ := h
    have nd := sc_divided.nd
    have fin : ∀ (H1 : Hp) (D : Addr), Same H H1 → ¬ LA.gcdL u ≤ 1 → H1 D = some (.lst ((List.range u.length).map fun i => V.int (LA.e u i / (LA.gcdL u : Int)))) → ∀ l, H1 l = none → Q (.ref l) (upd H1 l (.tup ((List.range u.length).map fun i => V.int (LA.e u i / (LA.gcdL u : Int))))) := by
      intro H1 D s1 hg hD l nl
      refine q _ _ (s1.trans (same_new nl)) ⟨l, rfl, SqT.of ?_⟩
      rw [upd_same]
      refine congrArg (fun z => some (HO.tup z)) (range_ints (LA.divided_len u) fun i _ => ?_)
      unfold LA.divided
      rw [if_neg hg, LA.e_map (f := fun x => x / (LA.gcdL u : Int)) (Int.zero_ediv _)]
    have hdiv : ¬ LA.gcdL u ≤ 1 → ∀ i : Int, CDivW i (LA.gcdL u : Int) := fun hg i => wide_div (b := 9000) (by omega) (by rw [Int.natAbs_natCast]; exact LA.gcdL_lt hb) (by decide) (by decide)
    rcases hv with ⟨a, rfl, hS⟩ | ⟨a, rfl, hS⟩
    · refine ⟨_, pss_cons (ps_set (i := 1) nd rfl (.inr rfl) (pe_call G1 hr (by rfl) D1.g D1.kp D1.b .nil pass0 (pa_cons (pv 0) pa_nil)))
        (pss_cons (ps_if (pt_cmpR op_le (pv 1) pe_int (nomark _)) (pss_one (ps_ret (pe_callTy call_tuple_of (by rfl) m1 (by decide +kernel) (pa_cons (pv 0) pa_nil)))) pss_nil)
        (pss_one (ps_ret (pe_callTy call_tuple_of (by rfl) m1 (by decide +kernel) (pa_cons
          (pe_lc (own := [("entry", 2)]) (g := gName 2) (tt := tYes) rfl nd (pi_tup (pv 0)) (blkOk_by (N := ["vector", "divisor", "entry"]) (sc := defScope s_divided) (by decide +kernel)) (fun _ _ _ _ _ => pg_name (i := 2) nd rfl (Or.inl rfl)) (fun _ _ _ _ _ => pts_nil)
            (fun _ _ _ _ _ => pe_op op_fdivW (pv 2) (pv 1))) pa_nil))))), ?_⟩
      refine ⟨_, rfl, .ref a, u, rfl, .inl ⟨a, rfl, hS⟩, ?_⟩
      refine ⟨_, rfl, _, _, rfl, rfl, _, rfl, ite2 (fun e => ?_) fun e => ?_⟩
      · have hg : LA.gcdL u ≤ 1 := by have := of_decide_eq_true e; omega
        refine ⟨_, rfl, a, _, rfl, .inr ⟨hS, q _ _ (Same.refl _) ⟨a, rfl, ?_⟩⟩⟩
        unfold LA.divided
        rw [if_pos hg]
        exact hS
      · have hg : ¬ LA.gcdL u ≤ 1 := fun z => e (decide_eq_true (by omega))
        refine ⟨_, rfl, a, rfl, ⟨_, hS⟩, fun D nD => ?_⟩
        refine lc_it (walk_tup (K := K) (a := a) (xs := u.map V.int)) (Acc H D fun i => V.int (LA.e u i / (LA.gcdL u : Int))) (Acc.start nD) (fun i H' _ h => Same.sqt h.1 hS) ?_ ?_
        · rintro i x H1 H2 hi h ⟨rfl, hx⟩
          obtain ⟨hi', rfl⟩ := int_of hx
          refine ⟨rfl, ?_⟩
          dsimp only [tYes]
          refine iteT ?_
          exact ⟨_, rfl, _, rfl, _, _, rfl, rfl, hdiv hg _, h.turn nD (Same.refl _) (by omega) rfl⟩
        · rintro H1 h
          rw [List.length_map] at h
          exact ⟨D, _, rfl, .inl ⟨SqL.of h.2, fin H1 D h.1 hg h.2⟩⟩
    · refine ⟨_, pss_cons (ps_set (i := 1) nd rfl (.inr rfl) (pe_call G1 hr (by rfl) D1.g D1.kp D1.b .nil pass0 (pa_cons (pv 0) pa_nil)))
        (pss_cons (ps_if (pt_cmpR op_le (pv 1) pe_int (nomark _)) (pss_one (ps_ret (pe_callTy call_tuple_of (by rfl) m1 (by decide +kernel) (pa_cons (pv 0) pa_nil)))) pss_nil)
        (pss_one (ps_ret (pe_callTy call_tuple_of (by rfl) m1 (by decide +kernel) (pa_cons
          (pe_lc (own := [("entry", 2)]) (g := gName 2) (tt := tYes) rfl nd (pi_list (pv 0)) (blkOk_by (N := ["vector", "divisor", "entry"]) (sc := defScope s_divided) (by decide +kernel)) (fun _ _ _ _ _ => pg_name (i := 2) nd rfl (Or.inl rfl)) (fun _ _ _ _ _ => pts_nil)
            (fun _ _ _ _ _ => pe_op op_fdivW (pv 2) (pv 1))) pa_nil))))), ?_⟩
      refine ⟨_, rfl, .ref a, u, rfl, .inr ⟨a, rfl, hS⟩, ?_⟩
      refine ⟨_, rfl, _, _, rfl, rfl, _, rfl, ite2 (fun e => ?_) fun e => ?_⟩
      · have hg : LA.gcdL u ≤ 1 := by have := of_decide_eq_true e; omega
        refine ⟨_, rfl, a, _, rfl, .inl ⟨hS, fun l nl => q _ _ (same_new nl) ⟨l, rfl, ?_⟩⟩⟩
        unfold LA.divided
        rw [if_pos hg]
        exact SqT.of upd_same
      · have hg : ¬ LA.gcdL u ≤ 1 := fun z => e (decide_eq_true (by omega))
        refine ⟨_, rfl, a, rfl, ⟨_, hS⟩, fun D nD => ?_⟩
        refine lc_it (walk_list (K := K) (a := a) (xs := u.map V.int)) (Acc H D fun i => V.int (LA.e u i / (LA.gcdL u : Int))) (Acc.start nD) (fun i H' _ h => h.1.seq hS) ?_ ?_
        · rintro i x H1 H2 hi h ⟨rfl, hx⟩
          obtain ⟨hi', rfl⟩ := int_of hx
          refine ⟨rfl, ?_⟩
          dsimp only [tYes]
          refine iteT ?_
          exact ⟨_, rfl, _, rfl, _, _, rfl, rfl, hdiv hg _, h.turn nD (Same.refl _) (by omega) rfl⟩
        · rintro H1 h
          rw [List.length_map] at h
          exact ⟨D, _, rfl, .inl ⟨SqL.of h.2, fin H1 D h.1 hg h.2⟩⟩
end
end Sp1

set_option Elab.async false
set_option linter.all false
set_option maxRecDepth 100000
set_option maxHeartbeats 4000000
namespace Sp1
open PySem PySem.Spec PyProof.Rows L2
section
variable {P : Program} {w : World} {K : PySem.W.Frag} {mg : Str → Option Value} {base : Heap}
/-! positive -/
abbrev s_positive : Stmt := top 13
theorem sc_positive : FnScope ["vector", "entry"] ["vector"] (defScope s_positive) := ⟨rfl, rfl, rfl, by decide +kernel, rfl, by decide +kernel, by decide +kernel⟩
def sp_positive (K : PySem.W.Frag) : Sp := fun vs H Q _ => ∃ v u, vs = [v] ∧ Vc K H v u ∧ ¬ LA.Zero u ∧ u.length ≤ 1000 ∧ ∀ v' H', Same H H' → Vc K H' v' (LA.positive u) → Q v' H'
theorem ok_positive {f f1 : Addr} {fd fd1 : FuncData} {k : Nat} (D : Dn K mg "positive" s_positive ["vector"] f fd) (D1 : Dn K mg "pivot" s_pivot ["vector"] f1 fd1)
    (G1 : FnOk P w K mg base CX0 k f1 fd1 ["vector"] (sp_pivot K)) (m1 : mg "tuple" = none) :
    FnOk P w K mg base CX0 (k + 1) f fd ["vector"] (sp_positive K) := by
  refine D.F.ok sc_positive (fun vs H Q E h => ?_) (fun cdv A outer s H vs Q E hr h => ?_)
  · obtain ⟨v, u, rfl, _⟩ := h
    rfl
  · obtain ⟨v, u, rfl, ⟨a, rfl, hS⟩, hz, hl, q⟩ := h
    have nd := sc_positive.nd
    refine ⟨_, pss_cons (ps_if (pt_cmpR op_gt (pe_ix ix_tup (pv 0) (pe_call G1 hr (by rfl) D1.g D1.kp D1.b .nil pass0 (pa_cons (pv 0) pa_nil)) (fun _ _ => rfl)) pe_int (nomark _)) (pss_one (ps_ret (pv 0))) pss_nil)
      (pss_one (ps_ret (pe_callTy call_tuple_of (by rfl) m1 (by decide +kernel) (pa_cons
        (pe_lc (own := [("entry", 1)]) (g := gName 1) (tt := tYes) rfl nd (pi_tup (pv 0)) (blkOk_by (N := ["vector", "entry"]) (sc := defScope s_positive) (by decide +kernel)) (fun _ _ _ _ _ => pg_name (i := 1) nd rfl (Or.inl rfl)) (fun _ _ _ _ _ => pts_nil)
          (fun _ _ _ _ _ => pe_un un_neg (pv 1))) pa_nil)))), ?_⟩
    refine ⟨_, rfl, _, rfl, .ref a, u, rfl, ⟨a, rfl, hS⟩, hz, ?_⟩
    refine ⟨a, _, _, _, rfl, rfl, hS, atI_nat (int_at (LA.pivot_lt hz)), _, _, rfl, rfl, _, rfl, ite2 (fun e => ?_) fun e => ?_⟩
    · refine ⟨_, rfl, q _ _ (Same.refl _) ⟨a, rfl, ?_⟩⟩
      unfold LA.positive
      rw [if_pos (show LA.e u (LA.pivot u) > 0 from of_decide_eq_true e)]
      exact hS
    · have hg : ¬ LA.e u (LA.pivot u) > 0 := fun z => e (decide_eq_true z)
      refine ⟨_, rfl, a, rfl, ⟨_, hS⟩, fun D nD => ?_⟩
      refine lc_it (walk_tup (K := K) (a := a) (xs := u.map V.int)) (Acc H D fun i => V.int (- LA.e u i)) (Acc.start nD) (fun i H' _ h => Same.sqt h.1 hS) ?_ ?_
      · rintro i x H1 H2 hi h ⟨rfl, hx⟩
        obtain ⟨hi', rfl⟩ := int_of hx
        refine ⟨rfl, ?_⟩
        dsimp only [tYes]
        refine iteT ?_
        exact ⟨_, rfl, _, rfl, h.turn nD (Same.refl _) (by omega) rfl⟩
      · rintro H1 h
        rw [List.length_map] at h
        refine ⟨D, _, rfl, .inl ⟨SqL.of h.2, fun l nl => q _ _ (h.1.trans (same_new nl)) ⟨l, rfl, SqT.of ?_⟩⟩⟩
        rw [upd_same]
        refine congrArg (fun z => some (HO.tup z)) (range_ints (LA.positive_len u) fun i _ => ?_)
        unfold LA.positive
        rw [if_neg hg, LA.neg_e]
/-! cleared -/
abbrev s_cleared : Stmt := top 14
abbrev N_cleared : List Str := ["vector", "row", "at", "divisor", "keep", "take", "one", "other"]
theorem sc_cleared : FnScope N_cleared ["vector", "row"] (defScope s_cleared) := ⟨rfl, rfl, rfl, by decide +kernel, rfl, by decide +kernel, by decide +kernel⟩
def sp_cleared (K : PySem.W.Frag) : Sp := fun vs H Q _ => ∃ v r u c a b, vs = [v, r] ∧ Vc K H v u ∧ Vc K H r c ∧ u.length = c.length ∧ c.length ≤ 1000 ∧ 0 < LA.e c (LA.pivot c) ∧ LA.Small a u ∧ LA.Small b c ∧ a + b + 1 ≤ 9000 ∧
  ∀ v' H', Same H H' → Vc K H' v' (LA.cleared u c) → Q v' H'
theorem ok_cleared {f f1 f2 f3 : Addr} {fd fd1 fd2 fd3 : FuncData} {k : Nat} (D : Dn K mg "cleared" s_cleared ["vector", "row"] f fd) (D1 : Dn K mg "pivot" s_pivot ["vector"] f1 fd1)
    (G1 : FnOk P w K mg base CX0 k f1 fd1 ["vector"] (sp_pivot K)) (D2 : Dn K mg "common_divisor" s_common_divisor ["numbers"] f2 fd2) (G2 : FnOk P w K mg base CX0 k f2 fd2 ["numbers"] (sp_common_divisor K))
    (D3 : Dn K mg "divided" s_divided ["vector"] f3 fd3) (G3 : FnOk P w K mg base CX0 k f3 fd3 ["vector"] (sp_divided K)) (m1 : mg "zip" = none) :
    FnOk P w K mg base CX0 (k + 1) f fd ["vector", "row"] (sp_cleared K) := by
  refine D.F.ok sc_cleared (fun vs H Q E h => ?_) (fun cdv A outer s H vs Q E hr h => ?_)
  · obtain ⟨v, r, u, c, a, b, rfl, _⟩ := h
    rfl
  · obtain ⟨v, r, u, c, ab, bb, rfl, ⟨a, rfl, hS⟩, ⟨b, rfl, hT⟩, hl, h1000, hc0, sa, sb, hab, q⟩ := h
    have nd := sc_cleared.nd
    have hz : ¬ LA.Zero c := fun z => by have := z (LA.pivot c); omega
    have hp : LA.pivot c < c.length := LA.pivot_lt hz
    refine ⟨_, pss_cons (ps_set (i := 2) nd rfl (.inl rfl) (pe_call G1 hr (by rfl) D1.g D1.kp D1.b .nil pass0 (pa_cons (pv 1) pa_nil)))
      (pss_cons (ps_if (pt_cmpR op_eq (pe_ix ix_tup (pv 0) (pv 2) (fun _ _ => rfl)) pe_int (nomark _)) (pss_one (ps_ret (pv 0))) pss_nil)
      (pss_cons (ps_set (i := 3) nd rfl (.inl rfl) (pe_call G2 hr (by rfl) D2.g D2.kp D2.b .nil pass0 (pa_cons (pe_lst (pa_cons (pe_ix ix_tup (pv 1) (pv 2) (fun _ _ => rfl)) (pa_cons (pe_ix ix_tup (pv 0) (pv 2) (fun _ _ => rfl)) pa_nil))) pa_nil)))
      (pss_cons (ps_set (i := 4) nd rfl (.inr rfl) (pe_op op_fdivW (pe_ix ix_tup (pv 1) (pv 2) (fun _ _ => rfl)) (pv 3)))
      (pss_cons (ps_set (i := 5) nd rfl (.inr rfl) (pe_op op_fdivW (pe_ix ix_tup (pv 0) (pv 2) (fun _ _ => rfl)) (pv 3)))
      (pss_one (ps_ret (pe_call G3 hr (by rfl) D3.g D3.kp D3.b .nil pass0 (pa_cons
        (pe_lc (own := [("one", 6), ("other", 7)]) (g := gTup K 2 (gCons (gName 6) (gCons (gName 7) gNil))) (tt := tYes) rfl nd (RZ.pi_zipA (by rfl) m1 (pa_cons (pv 0) (pa_cons (pv 1) pa_nil))) (blkOk_by (N := N_cleared) (sc := defScope s_cleared) (by decide +kernel))
          (fun _ _ _ _ _ => pg_tup rfl (pgs_cons (pg_name (i := 6) nd rfl (Or.inl rfl)) (pgs_cons (pg_name (i := 7) nd rfl (Or.inl rfl)) pgs_nil))) (fun _ _ _ _ _ => pts_nil)
          (fun _ _ _ _ _ => pe_op op_sub (pe_op op_mulW (pv 4) (pv 6)) (pe_op op_mulW (pv 5) (pv 7)))) pa_nil)))))))), ?_⟩
    -- at = pivot(row)
    refine ⟨_, rfl, .ref b, c, rfl, ⟨b, rfl, hT⟩, hz, ?_⟩
    have hu : (u.map V.int)[LA.pivot c]? = some (.int (LA.e u (LA.pivot c))) := int_at (by omega)
    have hcx : (c.map V.int)[LA.pivot c]? = some (.int (LA.e c (LA.pivot c))) := int_at hp
    refine ⟨_, rfl, _, rfl, a, _, _, _, rfl, rfl, hS, atI_nat hu, rfl, _, rfl, ite2 (fun e => ?_) fun e => ?_⟩
    · have e0 : LA.e u (LA.pivot c) = 0 := V.int.inj (of_decide_eq_true e)
      refine ⟨_, rfl, q _ _ (Same.refl _) ⟨a, rfl, ?_⟩⟩
      unfold LA.cleared
      rw [if_pos e0]
      exact hS
    · have e0 : ¬ LA.e u (LA.pivot c) = 0 := fun z => e (decide_eq_true (congrArg V.int z))
      -- divisor
      refine ⟨_, rfl, _, rfl, b, _, _, _, rfl, rfl, hT, atI_nat hcx, _, rfl, _, rfl, a, _, _, _, rfl, rfl, hS, atI_nat hu, by show 2 ≤ sizeLine; decide, fun p np => ?_⟩
      refine ⟨.ref p, [LA.e c (LA.pivot c), LA.e u (LA.pivot c)], rfl, .inr ⟨p, rfl, SqL.of upd_same⟩, ?_⟩
      have s1 : Same H (upd H p (.lst [.int (LA.e c (LA.pivot c)), .int (LA.e u (LA.pivot c))])) := same_new np
      have hS1 := Same.sqt s1 hS
      have hT1 := Same.sqt s1 hT
      have eg : ∀ i : Int, CDivW i (LA.gcdL [LA.e c (LA.pivot c), LA.e u (LA.pivot c)] : Int) := by
        have k1 : LA.gcdL [LA.e c (LA.pivot c), LA.e u (LA.pivot c)] ≤ (LA.e c (LA.pivot c)).natAbs := LA.gcdL_le (u := [LA.e c (LA.pivot c), LA.e u (LA.pivot c)]) (i := 0) (by show LA.e c (LA.pivot c) ≠ 0; omega)
        have k0 : 0 < LA.gcdL [LA.e c (LA.pivot c), LA.e u (LA.pivot c)] := by
          apply Nat.pos_of_ne_zero
          intro z
          have := LA.gcdL_zero z 0
          have : LA.e c (LA.pivot c) = 0 := this
          omega
        intro i
        exact wide_div (b := bb + 1) (by omega) (by rw [Int.natAbs_natCast]; exact Nat.lt_of_le_of_lt k1 (sb.mono (by omega) _)) (by omega) (by omega)
      -- keep, take
      refine ⟨_, rfl, _, rfl, b, _, _, _, rfl, rfl, hT1, atI_nat hcx, _, rfl, _, _, rfl, rfl, eg _, ?_⟩
      refine ⟨_, rfl, _, rfl, a, _, _, _, rfl, rfl, hS1, atI_nat hu, _, rfl, _, _, rfl, rfl, eg _, ?_⟩
      -- the comprehension
      refine ⟨_, rfl, _, rfl, a, b, _, _, rfl, .inr ⟨hS1, hT1, fun D nD => ?_⟩⟩
      have hn : u.length = min (u.map V.int).length (c.map V.int).length := by
        rw [List.length_map, List.length_map]
        omega
      refine lc_it (walk_zipT (K := K) (a := a) (b := b) (xs := u.map V.int) (ys := c.map V.int) hn) (Acc _ D fun i => V.int (LA.e (LA.crossed u c) i)) (Acc.start nD) (fun i H' _ h => ⟨Same.sqt h.1 hS1, Same.sqt h.1 hT1⟩) ?_ ?_
      · rintro i x H1 H2 hi h ⟨T, x1, x2, rfl, nT, rfl, g1, g2⟩
        obtain ⟨i1, rfl⟩ := int_of g1
        obtain ⟨i2, rfl⟩ := int_of g2
        refine ⟨T, _, rfl, .inl (.inl upd_same), rfl, _, _, rfl, _, _, rfl, rfl, rfl, ?_⟩
        dsimp only [tYes]
        refine iteT ?_
        have gd1 : (LA.gcdL [LA.e c (LA.pivot c), LA.e u (LA.pivot c)] : Int) ∣ LA.e c (LA.pivot c) := LA.gcdL_dvd (v := [LA.e c (LA.pivot c), LA.e u (LA.pivot c)]) 0
        have gd2 : (LA.gcdL [LA.e c (LA.pivot c), LA.e u (LA.pivot c)] : Int) ∣ LA.e u (LA.pivot c) := LA.gcdL_dvd (v := [LA.e c (LA.pivot c), LA.e u (LA.pivot c)]) 1
        have b1 := Nat.lt_of_le_of_lt (LA.natAbs_ediv_le _ (eg 0).1 gd1) (sb.mono (Nat.le_succ _) (LA.pivot c))
        have b2 := Nat.lt_of_le_of_lt (LA.natAbs_ediv_le _ (eg 0).1 gd2) (sa.mono (Nat.le_succ _) (LA.pivot c))
        have b3 := sa.mono (Nat.le_succ _) i
        have b4 := sb.mono (Nat.le_succ _) i
        refine ⟨_, rfl, _, rfl, _, _, rfl, rfl, wide_mul b1 b3 (by omega) (by omega) (by omega), _, rfl, _, rfl, _, _, rfl, rfl, wide_mul b2 b4 (by omega) (by omega) (by omega), _, _, rfl, rfl, ?_⟩
        refine h.turn nD (same_new nT) (by omega) ?_
        unfold LA.crossed
        rw [LA.e_zip hl (by simp)]
      · rintro H1 h
        have hx := LA.crossed_small hl sa sb hc0
        have hxl : (LA.crossed u c).length = u.length := by
          unfold LA.crossed
          rw [List.length_zipWith]
          omega
        refine ⟨.ref D, LA.crossed u c, rfl, .inr ⟨D, rfl, SqL.of ?_⟩, hx.mono hab, by omega, fun v' H' s2 hv => q _ _ ((s1.trans h.1).trans s2) ?_⟩
        · rw [h.2]
          exact congrArg (fun z => some (HO.lst z)) (range_ints hxl fun i _ => rfl)
        · unfold LA.cleared
          rw [if_neg e0]
          exact hv
end
end Sp1

set_option Elab.async false
set_option linter.all false
set_option maxRecDepth 100000
set_option maxHeartbeats 4000000
namespace Sp1
open PySem PySem.Spec PyProof.Rows L2
section
variable {X : Cx} {pins : List (Addr × Obj)} {σ : L2.St} {H : Hp} {s : Shared}
/-- the context within a builtin that a builtin called -/
abbrev in2 (X : Cx) (E : Value → Shared → Prop) : Cx := { X with A := X.A.in1.in1, xe := E }
theorem inv_in2 {E : Value → Shared → Prop} (I : Inv X pins σ H s) : Inv (in2 X E) pins σ H s :=
  ⟨⟨I.ok.mod, I.ok.kind, I.ok.glob, I.ok.blt, I.ok.above, I.ok.inj, I.ok.has, I.ok.cab, I.ok.hd, I.ok.frames, I.ok.stk, I.ok.exf, I.ok.bs, I.ok.bsz, I.ok.noex, I.ok.exfs, I.ok.funs, I.ok.frf⟩, I.os, I.bare, I.base, I.loc, I.cell, I.free, I.freeC, I.pin, I.hok, I.len⟩
theorem inv_out2 {E : Value → Shared → Prop} (ok : X.Ok) (I : Inv (in2 X E) pins σ H s) : Inv X pins σ H s :=
  ⟨ok, I.os, I.bare, I.base, I.loc, I.cell, I.free, I.freeC, I.pin, I.hok, I.len⟩
theorem room_in2 {k : Nat} {A : Around} (r : Room (k + 2) A) : Room k A.in1.in1 := (r.in1).in1
/-- an untracked object of ours (pinned first) is changed -/
theorem repin {a : Addr} {o o' : Obj} {h' : Heap} {t' : Nat} (I : Inv X ((a, o) :: pins) σ H s) (hn : X.s_0.heap.objs.size ≤ a) (hc : ∀ x c, X.env.cells.lookup x = some c → c ≠ a) (hp : ∀ p ∈ X.pn ++ pins, p.1 ≠ a)
    (k : ∀ b, b ≠ a → h'.get? b = s.heap.get? b) (e : h'.get? a = some o') (hd : ∀ v, o'.data ≠ .cell v) : Inv X ((a, o') :: pins) σ H { s with heap := h', toks := t' } := by
  have P := I.pin (a, o) (List.mem_append_right _ List.mem_cons_self)
  have I1 : Inv X pins σ H { s with heap := h', toks := t' } := by
    refine (ClX.unpin I).step (ch := [a]) (g' := s.gens) (d' := s.drawn) (fun b hb => ?_) (fun b u h1 h2 h3 h4 _ => ?_) (fun b u h1 h2 h3 h4 _ => ?_) (fun b u h3 h4 h5 => h5) (fun b u h3 h4 => ?_) (fun b xs h => h) (fun b o u h => h) (fun b ps h => ⟨#[], by rw [Array.append_empty]; exact h⟩) (fun m h => ?_) ?_ I.bare
    · rw [List.mem_singleton] at hb
      subst hb
      exact ⟨.inr hn, P.2.2.1, hc, hp⟩
    · rw [k b (fun z => h3 (by rw [z]; exact List.mem_singleton.mpr rfl))]
      exact h4
    · exact ⟨u.slots, by rw [k b (fun z => h3 (by rw [z]; exact List.mem_singleton.mpr rfl))]; exact h4⟩
    · exact ⟨u, by rw [k b (fun z => h3 (by rw [z]; exact List.mem_singleton.mpr rfl))]; exact h4⟩
    · obtain ⟨ob, es, ep, q1, q2, q3⟩ := h
      exact ⟨ob, es, ep, by rw [k _ (fun z => P.2.2.1 z.symm)]; exact q1, q2, q3⟩
    · intro b u q
      refine (I.hok b u q).stay (fun c v hcv r => ?_) (fun c r => r) fun c xs r => r
      have : c ≠ a := by
        rintro rfl
        rcases hcv with rfl | hcv
        · have h2 := P.2.1
          rw [h2] at q
          cases q
        · have h2 := P.2.1
          rw [h2] at hcv
          cases hcv
      rw [k c this]
      exact r
  refine I1.pins_of fun p hpp => ?_
  rcases List.mem_cons.mp hpp with rfl | hpp
  · exact ⟨e, P.2.1, P.2.2.1, P.2.2.2.1, hd⟩
  · exact I1.pin p (List.mem_append_right _ hpp)

theorem get_freed (h : Heap) (k : Addr) : (h.update k fun _ => ⟨.none, none, .freed, #[]⟩).get? k = none := by
  cases h with
  | mk objs life =>
    unfold Heap.get? Heap.update
    simp only [Array.getElem?_modify]
    cases objs[k]? with
    | none => rfl
    | some o => simp
def key (p : V × LA.Vec) : Int := (LA.pivot p.2 : Int)
def byKey (bs : List (V × LA.Vec)) : List (V × LA.Vec) := bs.mergeSort fun a b => decide (key a ≤ key b)
theorem each_vals : ∀ {bs : List (V × LA.Vec)} {us : List Value}, PySem.W.EachIs (fun v p => RelV p.1 v) us bs → Vals (bs.map Prod.fst) us
  | [], _, .nil => .nil
  | _ :: _, _, .cons r t => .cons r (each_vals t)
theorem vals_each : ∀ {bs : List (V × LA.Vec)} {us : List Value}, Vals (bs.map Prod.fst) us → PySem.W.EachIs (fun v p => RelV p.1 v) us bs
  | [], _, .nil => .nil
  | _ :: _, _, .cons r t => .cons r (vals_each t)
theorem keys_read (h : Heap) : ∀ {ks : List Value} {bs : List (V × LA.Vec)}, PySem.W.EachIs (fun v p => ∃ t, v = Value.int (key p) t) ks bs → PySem.W.EachIs (fun v d => ∃ as, Reads h v d as) ks (bs.map fun p => PyData.int (key p))
  | _, _, .nil => .nil
  | _, _, .cons r t => by
    obtain ⟨t', rfl⟩ := r
    exact .cons ⟨[], Reads.int _ _⟩ (keys_read h t)
theorem sorted_own {k : Nat} {f l : Addr} {fd : FuncData} {bs : List (V × LA.Vec)} {Q : VK} (F : FnOk X.prog X.w X.K X.mg X.base CX0 k f fd ["vector"] (sp_pivot X.K)) (hr : Room (k + 2) X.A) (hb : L2.Binds X.K fd ["vector"] [])
    (I : Inv X pins σ H s) (hs : SqL X.K H l (bs.map Prod.fst)) (hv : ∀ p ∈ bs, Vc X.K H p.1 p.2 ∧ ¬ LA.Zero p.2) (hl : bs.length ≤ 1000)
    (q : ∀ p, H p = none → Q (.ref p) (upd H p (.lst ((byKey bs).map Prod.fst)))) :
    wpAny (model X.prog X.w) X.A (call (.builtin "sorted") [.ref l] [(Str.ofString "key", .ref f)]) (EP X pins σ Q) X.xe s := by
  obtain ⟨its, rv, hL, hz⟩ := I.list hs
  have hlen : its.length = bs.length := by rw [← rv.length, List.length_map]
  have hsl : bs.length ≤ sizeLine := Nat.le_of_lt (small1000 hl)
  refine PySem.W.sorted_of_sort hL.isList (by rw [hlen]; exact hsl) (PyProof.Rows.ksk_s1 _ _) (fun _ => PyProof.Rows.ksk_l1 _ _) fun E' => ?_
  rw [PyProof.Rows.ksk_t1]
  have I0 : Inv (in2 X fun _ _ => False) pins σ H s := inv_in2 I
  generalize ha : s.heap.objs.size + 1 = a
  have ho0 := PySem.W.copyHeap_at s.heap its
  rw [ha] at ho0
  have sb := Heap.SameBut.update (PySem.W.copyHeap s.heap its) a (Obj.mapSeq fun _ => (#[] : Array Value))
  obtain ⟨e1, ho1⟩ : ∃ e1, ((PySem.W.copyHeap s.heap its).update a (Obj.mapSeq fun _ => (#[] : Array Value))).get? a = some (seqObj "list" #[] e1) := ⟨_, PyProof.Rows.get?_update_seq ho0 fun _ => #[]⟩
  unfold PyProof.Rows.ksk_tree
  refine wpAny_bind (PyProof.Rows.listItems_at ho0 rfl ?_)
  refine wpAny_bind (PyProof.Rows.listUpdate_at ho0 rfl ?_ (by rw [List.size_toArray, hlen]; exact hsl) (Nat.zero_le _))
  refine wpAny_bind (PyProof.Rows.seqEpoch_at ho1 rfl ?_)
  refine wpAny_bind (wpAny_newTuple ?_ (by show its.length ≤ _; rw [hlen]; exact hsl))
  refine wpAny_bind (wpAny_newList ?_ (Nat.zero_le _))
  refine wpAny_holding ?_
  -- the two lists of the sort, pinned
  have hka : ((PySem.W.copyHeap s.heap its).update a (Obj.mapSeq fun _ => (#[] : Array Value))).objs.size ≥ a + 1 := Heap.lt_size ho1
  have keep1 : ∀ b u, s.heap.get? b = some u → (((PySem.W.copyHeap s.heap its).update a (Obj.mapSeq fun _ => (#[] : Array Value))).push (seqObj "tuple" its.toArray 0)).get? b = some u := fun b u e =>
    Heap.get?_push_of_some _ ((sb.2 b (by rw [← ha]; exact Nat.ne_of_lt (Nat.lt_succ_of_lt (Heap.lt_size e)))).trans (PySem.W.copyHeap_old e))
  have I1 : Inv (in2 X fun _ _ => False) ((a, seqObj "list" #[] e1) :: pins) σ H { s with heap := ((PySem.W.copyHeap s.heap its).update a (Obj.mapSeq fun _ => (#[] : Array Value))).push (seqObj "tuple" its.toArray 0), toks := s.toks } :=
    ClX.pin_new I0 keep1 (by rw [← ha]; exact Nat.le_succ _) (Heap.get?_push_of_some _ ho1) (fun v z => by cases z)
  generalize hh1 : ((PySem.W.copyHeap s.heap its).update a (Obj.mapSeq fun _ => (#[] : Array Value))).push (seqObj "tuple" its.toArray 0) = h1 at I1 ⊢
  have h1a : h1.get? a = some (seqObj "list" #[] e1) := by rw [← hh1]; exact Heap.get?_push_of_some _ ho1
  have hsz1 : s.heap.objs.size ≤ h1.objs.size := by
    have z : (a : Nat) < h1.objs.size := Heap.lt_size h1a
    omega
  generalize hkS : h1.objs.size = kS
  have hne : kS ≠ a := by
    have z : (a : Nat) < h1.objs.size := Heap.lt_size h1a
    omega
  have I2 : Inv (in2 X fun _ _ => False) ((kS, seqObj "list" #[] 0) :: (a, seqObj "list" #[] e1) :: pins) σ H { s with heap := h1.push (seqObj "list" #[] 0), toks := s.toks } :=
    ClX.pin_new (s := { s with heap := h1, toks := s.toks }) I1 (fun b u e => Heap.get?_push_of_some _ e) (by rw [← hkS]; exact Nat.le_refl _) (by rw [← hkS]; exact Heap.get?_push_size _ rfl) (fun v z => by cases z)
  have kS0 : X.s_0.heap.objs.size ≤ kS := Nat.le_trans I.sz (by rw [← hkS]; exact hsz1)
  have kSc : ∀ x c, X.env.cells.lookup x = some c → c ≠ kS := fun x c e z => by
    obtain ⟨v, o, ho, _⟩ := I.cell x c e
    have z2 : (kS : Nat) < s.heap.objs.size := by rw [← z]; exact Heap.lt_size ho
    omega
  have kSp : ∀ p ∈ X.pn ++ ((a, seqObj "list" #[] e1) :: pins), p.1 ≠ kS := fun p hp z => by
    rcases List.mem_append.mp hp with hp | hp
    · have z2 : (kS : Nat) < s.heap.objs.size := by rw [← z]; exact Heap.lt_size (I.pin p (List.mem_append_left _ hp)).1
      omega
    · rcases List.mem_cons.mp hp with rfl | hp
      · exact hne z.symm
      · have z2 : (kS : Nat) < s.heap.objs.size := by rw [← z]; exact Heap.lt_size (I.pin p (List.mem_append_right _ hp)).1
        omega
  unfold PyProof.Rows.ksk_rest
  refine wpAny_bind (wpAny_rule ?_)
  first
    | rw [List.forIn_toArray]
    | (rw [← Array.forIn_toList]; simp only [List.toList_toArray])
    | rw [← Array.forIn_toList]
  refine wpAny_bind (PyProof.Rows.ksk_fold (fun i s' => ∃ kA e, Inv (in2 X fun _ _ => False) ((kS, seqObj "list" kA e) :: (a, seqObj "list" #[] e1) :: pins) σ H s' ∧ PySem.W.EachIs (fun v p => ∃ t, v = Value.int (key p) t) kA.toList (bs.take i)) its 0 _
    ⟨#[], 0, I2, by rw [List.take_zero]; exact .nil⟩ ?step ?done)
  case step =>
    rintro j x s' hx ⟨kA, e, I3, hk⟩
    simp only [Nat.zero_add] at hk ⊢
    have hj : j < its.length := (List.getElem?_eq_some_iff.mp hx).1
    have hj2 : j < bs.length := by omega
    obtain ⟨rx, hvj⟩ : RelV bs[j].1 x ∧ Vc X.K H bs[j].1 bs[j].2 ∧ ¬ LA.Zero bs[j].2 := by
      refine ⟨?_, hv _ (List.getElem_mem hj2)⟩
      obtain ⟨u, h1, h2⟩ := rv.get (i := j) (x := bs[j].1) (by rw [List.getElem?_map, List.getElem?_eq_getElem hj2]; rfl)
      rw [hx] at h1
      cases h1
      exact h2
    have hkl : kA.size = j := by
      have h1 := hk.length
      rw [Array.length_toList, List.length_take] at h1
      omega
    refine wpAny_bind (wpAny_attempt (wpAny_mono (run_fn (X := in2 X fun _ _ => False) (vs := [bs[j].1]) (us := [x]) (Q := fun z H'' => z = .int (key bs[j]) ∧ H'' = H) F (room_in2 hr) hb .nil pass0 I3 (.cons rx .nil) ⟨bs[j].1, bs[j].2, rfl, hvj.1, hvj.2, rfl, rfl⟩) (fun v s'' he => ?_) fun e s'' he => ?_))
    · obtain ⟨z, H', I4, r4, rfl, rfl⟩ := he
      obtain ⟨t, rfl⟩ := r4
      have nk : s''.heap.get? kS = some (seqObj "list" kA e) := ClX.pin_at I4
      have s3 := Heap.SameBut.update s''.heap kS (Obj.mapSeq (·.push (Value.int (key bs[j]) t)))
      obtain ⟨c2, hc2⟩ : ∃ c2, (s''.heap.update kS (Obj.mapSeq (·.push (Value.int (key bs[j]) t)))).get? kS = some (seqObj "list" (kA.push (Value.int (key bs[j]) t)) c2) := ⟨_, PyProof.Rows.get?_update_seq nk (·.push (Value.int (key bs[j]) t))⟩
      refine wpAny_bind (PyProof.Rows.listUpdate_at nk rfl ?_ (by rw [hkl]; omega) (by rw [Array.size_push, hkl]; omega))
      refine wpAny_pure ⟨rfl, kA.push (Value.int (key bs[j]) t), c2, repin I4 kS0 kSc kSp (fun b hb => s3.2 b hb) hc2 (fun v z => by cases z), ?_⟩
      rw [List.take_add_one, List.getElem?_eq_getElem hj2, Array.toList_push]
      exact PySem.W.each_snoc ⟨t, rfl⟩ hk
    · exact he.elim
  case done =>
    rintro s' ⟨kA, e, I3, hk⟩
    have nk : s'.heap.get? kS = some (seqObj "list" kA e) := ClX.pin_at I3
    have na : s'.heap.get? a = some (seqObj "list" #[] e1) := ClX.pin_at (ClX.unpin I3)
    have hHa : H a = none := ClX.pin_un (ClX.unpin I3)
    have hHk : H kS = none := ClX.pin_un I3
    have hkl : kA.size = its.length := by
      have h1 := hk.length
      rw [Array.length_toList, List.length_take] at h1
      omega
    have hk2 : PySem.W.EachIs (fun v p => ∃ t, v = Value.int (key p) t) kA.toList bs := by
      have e3 : bs.take (0 + its.length) = bs := List.take_of_length_le (by omega)
      rw [e3] at hk
      exact hk
    have hk3 := keys_read s'.heap hk2
    have isInt : ∀ d ∈ bs.map (fun p => PyData.int (key p)), ∃ i, d = PyData.int i := fun d hd => by
      obtain ⟨p, _, rfl⟩ := List.mem_map.mp hd
      exact ⟨_, rfl⟩
    have hal : PySem.W.AllAlike (bs.map fun p => PyData.int (key p)) := fun d hd d' hd' => by
      obtain ⟨i, rfl⟩ := isInt d hd
      obtain ⟨j, rfl⟩ := isInt d' hd'
      rfl
    have hso : PySem.W.Sortable (bs.map fun p => PyData.int (key p)) := .inr fun d hd => by
      obtain ⟨i, rfl⟩ := isInt d hd
      exact ⟨(fun z => by cases z), (fun xs z => by cases z)⟩
    have hun : ∀ d, d ∈ bs.map (fun p => PyData.int (key p)) → X.A.in1.in1.units + d.depth < cLine := fun d hd => by
      obtain ⟨i, rfl⟩ := isInt d hd
      have := (room_in2 hr).units
      have e0 : (PyData.int i).depth ≤ 1 := by first | exact Nat.le_refl _ | exact Nat.zero_le _ | decide
      omega
    refine wpAny_bind (PyProof.Rows.listItems_at nk rfl ?_)
    have sf := Heap.SameBut.update s'.heap kS (fun _ => (⟨.none, none, .freed, #[]⟩ : Obj))
    refine PySem.W.keyH_end (κ := PySem.W.dataKind s'.heap (bs.map fun p => PyData.int (key p))) (h₁ := s'.heap.update kS fun _ => ⟨.none, none, .freed, #[]⟩) (fun b o hb e => ?_) (get_freed _ _) nk na hne
      (PySem.W.SortsAt.data hk3 hal hso hun) hkl (by rw [hlen]; exact hsl) fun h' tk c kp hD => ⟨rfl, ?_⟩
    · have hbk : b ≠ kS := by
        rintro rfl
        rw [get_freed] at e
        cases e
      rw [sf.2 b hbk] at e
      exact e
    · have kk : ∀ b o, b ≠ a → b ≠ kS → s'.heap.get? b = some o → h'.get? b = some o := fun b o hb hk e => kp b o hb (by rw [sf.2 b hk]; exact e)
      have out := PySem.W.keyedOut_each (R := fun v p => RelV p.1 v) (fun p => PyData.int (key p)) (rev := false) ⟨s'.heap, kA.toList, hal, rfl, hk3⟩ (vals_each rv)
      rw [PySem.W.dataLe_int] at out
      have vo : Vals ((byKey bs).map Prod.fst) _ := each_vals out
      have aS0 : X.s_0.heap.objs.size ≤ a := Nat.le_trans I.sz (by rw [← ha]; exact Nat.le_succ _)
      have aC : ∀ x c, X.env.cells.lookup x = some c → c ≠ a := fun x c e z => by
        obtain ⟨v, o, ho, _⟩ := I.cell x c e
        have z2 : (a : Nat) < s.heap.objs.size := by rw [← z]; exact Heap.lt_size ho
        omega
      have aP : ∀ p ∈ X.pn ++ pins, p.1 ≠ a := fun p hp z => by
        have z2 : (a : Nat) < s.heap.objs.size := by rw [← z]; exact Heap.lt_size (I.pin p hp).1
        omega
      have kP : ∀ p ∈ X.pn ++ pins, p.1 ≠ kS := fun p hp => by
        rcases List.mem_append.mp hp with hp | hp
        · exact kSp p (List.mem_append_left _ hp)
        · exact kSp p (List.mem_append_right _ (List.mem_cons_of_mem _ hp))
      have pk := I3.pin (kS, seqObj "list" kA e) (List.mem_append_right _ List.mem_cons_self)
      have pa := I3.pin (a, seqObj "list" #[] e1) (List.mem_append_right _ (List.mem_cons_of_mem _ List.mem_cons_self))
      have nch : ∀ b, b ∉ [kS, a] → b ≠ a ∧ b ≠ kS := fun b hb => ⟨fun z => hb (by rw [z]; exact List.mem_cons_of_mem _ List.mem_cons_self), fun z => hb (by rw [z]; exact List.mem_cons_self)⟩
      have hl2 : ((byKey bs).map Prod.fst).length ≤ sizeLine := by
        rw [List.length_map, byKey, List.length_mergeSort]
        exact hsl
      refine ⟨.ref a, upd H a (.lst ((byKey bs).map Prod.fst)), inv_out2 I.ok (E := fun _ _ => False) ?_, rfl, q a hHa⟩
      refine (ClX.unpin (ClX.unpin I3)).step (ch := [kS, a]) (g' := s'.gens) (d' := s'.drawn) (fun b hb => ?_) (fun b u h1 h2 h3 h4 _ => kk b u (nch b h3).1 (nch b h3).2 h4) (fun b u h1 h2 h3 h4 _ => ⟨u.slots, kk b u (nch b h3).1 (nch b h3).2 h4⟩)
        (fun b u h3 h4 h5 => by rw [upd_ne (nch b h3).1]; exact h5) (fun b u h3 h4 => ⟨u, kk b u (nch b h3).1 (nch b h3).2 h4⟩) (fun b xs h => by rw [upd_ne (ne_of_none h hHa)]; exact h) (fun b o u h => by rw [upd_ne (ne_of_none h hHa)]; exact h)
        (fun b ps h => ⟨#[], by rw [upd_ne (ne_of_none h hHa), Array.append_empty]; exact h⟩) (fun m h => ?_) ?_ I3.bare
      · rcases List.mem_cons.mp hb with rfl | hb
        · exact ⟨.inr kS0, pk.2.2.1, kSc, kP⟩
        · rw [List.mem_singleton] at hb
          subst hb
          exact ⟨.inr aS0, pa.2.2.1, aC, aP⟩
      · obtain ⟨ob, es, ep, q1, q2, q3⟩ := h
        exact ⟨ob, es, ep, kk _ _ (fun z => pa.2.2.1 z.symm) (fun z => pk.2.2.1 z.symm) q1, q2, q3⟩
      · intro b u qb
        by_cases hb : b = a
        · subst hb
          rw [upd_same] at qb
          cases qb
          exact ⟨hl2, _, c, vo, hD⟩
        · rw [upd_ne hb] at qb
          refine (I3.hok b u qb).stay (fun d v hcv r => ?_) (fun d r => by rw [upd_ne (ne_of_none r hHa)]; exact r) fun d xs r => by rw [upd_ne (ne_of_none r hHa)]; exact r
          have nd : H d ≠ none := by
            rcases hcv with rfl | hcv
            · rw [qb]; exact fun z => by cases z
            · rw [hcv]; exact fun z => by cases z
          exact kk d v (fun z => nd (by rw [z]; exact hHa)) (fun z => nd (by rw [z]; exact hHk)) r
end
end Sp1

set_option Elab.async false
set_option linter.all false
set_option maxRecDepth 100000
set_option maxHeartbeats 4000000
namespace Sp1
open PySem PySem.Spec PyProof.Rows L2
section
variable {X : Cx}
theorem reads_ints (h : Heap) : ∀ {u : LA.Vec} {us : List Value}, Vals (u.map V.int) us → ReadsAll h us (u.map PyData.int) []
  | [], _, .nil => .nil
  | _ :: _, _, .cons r t => by
    obtain ⟨t', rfl⟩ := r
    exact .cons (as := []) (bs := []) (Reads.int _ _) (reads_ints h t)
theorem plain_ints : ∀ u : LA.Vec, PyData.plainAll (u.map PyData.int) = true
  | [] => rfl
  | x :: r => by
    have := plain_ints r
    show (PyData.plain (.int x) && PyData.plainAll (r.map PyData.int)) = true
    rw [this]
    rfl
theorem any_ints (u : LA.Vec) : (u.map PyData.int).any PySem.PyData.truthy = !LA.isZero u := by
  unfold LA.isZero
  induction u with
  | nil => rfl
  | cons x r ih =>
    rw [List.map_cons, List.any_cons, ih, List.all_cons]
    show ((x != 0) || _) = _
    rw [Bool.not_and]
    rfl
/-- any(t) of a tuple of ints -/
theorem call_anyT (hc : X.calm = true) : CallR X (.builtin "any") (fun vs H Q => ∃ a u, vs = [V.ref a] ∧ SqT X.K H a (u.map V.int) ∧ Q (.bl (!LA.isZero u)) H) := by
  intro pins s σ H vs us Q I r h
  obtain ⟨a, u, rfl, hs, q⟩ := h
  obtain ⟨its, rv, hl, _⟩ := I.tuple hs
  rw [Vals.ref1 r]
  refine PySem.W.any_tuple_data (xs := u.map PyData.int) (as := []) (I.ok.hd hc) hl (reads_ints _ (by simpa using rv)) (plain_ints u) (fun x hx => ?_) fun h' tk k => ?_
  · obtain ⟨i, _, rfl⟩ := List.mem_map.mp hx
    trivial
  · rw [any_ints]
    exact ⟨.bl (!LA.isZero u), H, I.kept k, rfl, q⟩
/-- sorted(xs, key=f), f the def pivot -/
theorem cr_sortedOwn {k : Nat} {f : Addr} {fd : FuncData} (F : FnOk X.prog X.w X.K X.mg X.base CX0 k f fd ["vector"] (sp_pivot X.K)) (hr : Room (k + 2) X.A) (hb : L2.Binds X.K fd ["vector"] []) :
    CallRK X (.builtin "sorted") [Str.ofString "key"] (fun vs zs H Q => ∃ l bs, vs = [V.ref l] ∧ zs = [V.ref f] ∧ SqL X.K H l (bs.map Prod.fst) ∧ (∀ p ∈ bs, Vc X.K H p.1 p.2 ∧ ¬ LA.Zero p.2) ∧ bs.length ≤ 1000 ∧
      ∀ p, H p = none → Q (.ref p) (upd H p (.lst ((byKey bs).map Prod.fst)))) := by
  intro pins s σ H vs zs us ws Q I r rz h
  obtain ⟨l, bs, rfl, rfl, hs, hv, hl, q⟩ := h
  obtain rfl := Vals.ref1 r
  obtain rfl := Vals.ref1 rz
  exact sorted_own F hr hb I hs hv hl q
end
/-! a tuple, a list of vectors -/
def Rws (K : PySem.W.Frag) (H : Hp) (xs : List V) (B : List LA.Vec) : Prop := xs.length = B.length ∧ ∀ (i : Nat) (x : V) (u : LA.Vec), xs[i]? = some x → B[i]? = some u → Vc K H x u
theorem Rws.tk {K : PySem.W.Frag} {H H' : Hp} {xs : List V} {B : List LA.Vec} (h : Rws K H xs B) (s : TK H H') : Rws K H' xs B := ⟨h.1, fun i x u e1 e2 => (h.2 i x u e1 e2).tk s⟩
theorem Rws.nil {K : PySem.W.Frag} {H : Hp} : Rws K H [] [] := ⟨rfl, fun i x u h => by simp at h⟩
theorem Rws.snoc {K : PySem.W.Frag} {H : Hp} {xs : List V} {B : List LA.Vec} {x : V} {u : LA.Vec} (h : Rws K H xs B) (hx : Vc K H x u) : Rws K H (xs ++ [x]) (B ++ [u]) := by
  refine ⟨by rw [List.length_append, List.length_append, h.1]; rfl, fun i y v e1 e2 => ?_⟩
  rcases Nat.lt_trichotomy i xs.length with hi | hi | hi
  · rw [List.getElem?_append_left hi] at e1
    rw [List.getElem?_append_left (by rw [← h.1]; exact hi)] at e2
    exact h.2 i y v e1 e2
  · rw [List.getElem?_append_right (by omega), hi, Nat.sub_self] at e1
    rw [List.getElem?_append_right (by rw [← h.1]; omega), ← h.1, hi, Nat.sub_self] at e2
    cases e1
    cases e2
    exact hx
  · have := (List.getElem?_eq_some_iff.mp e1).1
    rw [List.length_append] at this
    have : i < xs.length + 1 := this
    omega
theorem Rws.at {K : PySem.W.Frag} {H : Hp} {xs : List V} {B : List LA.Vec} (h : Rws K H xs B) {i : Nat} {x : V} (e : xs[i]? = some x) : ∃ hi : i < B.length, Vc K H x B[i] := by
  have h1 := (List.getElem?_eq_some_iff.mp e).1
  have hi : i < B.length := by rw [← h.1]; exact h1
  exact ⟨hi, h.2 i x _ e (List.getElem?_eq_getElem hi)⟩
/-- a tuple of vectors -/
def Bt (K : PySem.W.Frag) (H : Hp) (v : V) (B : List LA.Vec) : Prop := ∃ a xs, v = .ref a ∧ SqT K H a xs ∧ Rws K H xs B
theorem Bt.tk {K : PySem.W.Frag} {H H' : Hp} {v : V} {B : List LA.Vec} (h : Bt K H v B) (s : TK H H') : Bt K H' v B := by
  obtain ⟨a, xs, e, h1, h2⟩ := h
  exact ⟨a, xs, e, s.sqt h1, h2.tk s⟩
theorem rest_take {B : List LA.Vec} {u : LA.Vec} {i : Nat} (h : i < B.length) : LA.rest (B.take (i + 1)) u = LA.cleared (LA.rest (B.take i) u) B[i] := by
  rw [List.take_add_one, List.getElem?_eq_getElem h]
  unfold LA.rest
  show List.foldl LA.cleared u (B.take i ++ [B[i]]) = _
  rw [List.foldl_append]
  rfl
section
variable {P : Program} {w : World} {K : PySem.W.Frag} {mg : Str → Option Value} {base : Heap}
/-! rest_beside -/
abbrev s_rest_beside : Stmt := top 15
abbrev N_rest_beside : List Str := ["basis", "vector", "rest", "row"]
theorem sc_rest_beside : FnScope N_rest_beside ["basis", "vector"] (defScope s_rest_beside) := ⟨rfl, rfl, rfl, by decide +kernel, rfl, by decide +kernel, by decide +kernel⟩
/-- what clearing asks of the rows -/
def RowsOk (n b : Nat) (B : List LA.Vec) : Prop := ∀ c ∈ B, c.length = n ∧ 0 < LA.e c (LA.pivot c) ∧ LA.Small b c
def sp_rest_beside (K : PySem.W.Frag) : Sp := fun vs H Q _ => ∃ x v B u n a b, vs = [x, v] ∧ Bt K H x B ∧ Vc K H v u ∧ u.length = n ∧ n ≤ 1000 ∧ RowsOk n b B ∧ LA.Small a u ∧ a + B.length * (b + 1) ≤ 9000 ∧
  ∀ v' H', Same H H' → Vc K H' v' (LA.rest B u) → Q v' H'
theorem ok_rest_beside {f f1 : Addr} {fd fd1 : FuncData} {k : Nat} (D : Dn K mg "rest_beside" s_rest_beside ["basis", "vector"] f fd) (D1 : Dn K mg "cleared" s_cleared ["vector", "row"] f1 fd1)
    (G1 : FnOk P w K mg base CX0 k f1 fd1 ["vector", "row"] (sp_cleared K)) : FnOk P w K mg base CX0 (k + 1) f fd ["basis", "vector"] (sp_rest_beside K) := by
  refine D.F.ok sc_rest_beside (fun vs H Q E h => ?_) (fun cdv A outer s H vs Q E hr h => ?_)
  · obtain ⟨x, v, B, u, n, a, b, rfl, _⟩ := h
    rfl
  · obtain ⟨x, v, B, u, n, ab, bb, rfl, ⟨a, xs, rfl, hS, hR⟩, hv, hun, hn, hB, sa, hab, q⟩ := h
    have nd := sc_rest_beside.nd
    refine ⟨_, pss_cons (ps_set (i := 2) nd rfl (.inl rfl) (pv 1))
      (pss_cons (ps_for PassesOwn.never rfl (pi_tup (pv 0)) (pg_name (i := 3) nd rfl (.inl rfl))
        (pss_one (ps_set (i := 2) nd rfl (.inl rfl) (pe_call G1 hr (by rfl) D1.g D1.kp D1.b .nil pass0 (pa_cons (pv 2) (pa_cons (pv 3) pa_nil))))))
      (pss_one (ps_ret (pv 2)))), ?_⟩
    refine ⟨_, rfl, _, rfl, a, rfl, ⟨_, hS⟩, for_tup (K := K) (a := a) (xs := xs) (fun i σ H' => Same H H' ∧ ∃ v' y, σ = [some (.ref a), some v, some v', y] ∧ Vc K H' v' (LA.rest (B.take i) u))
      ⟨Same.refl _, v, none, rfl, hv⟩ (fun i σ H' _ h => Same.sqt h.1 hS) ?_ ?_⟩
    · rintro i y σ H' hy ⟨s1, v', z, rfl, hv'⟩
      obtain ⟨hi, hrow⟩ := hR.at hy
      obtain ⟨r1, r2, r3⟩ := hB B[i] (List.getElem_mem hi)
      have hB' : ∀ c ∈ B.take i, c.length = n ∧ 0 < LA.e c (LA.pivot c) ∧ LA.Small bb c := fun c hc => hB c (List.mem_of_mem_take hc)
      have hlr : (LA.rest (B.take i) u).length = n := LA.rest_len (fun c hc => (hB' c hc).1) hun
      have hsr := LA.rest_small hB' hun sa
      have hlen : (B.take i).length ≤ i := by rw [List.length_take]; omega
      have hmul : (B.take i).length * (bb + 1) + (bb + 1) ≤ B.length * (bb + 1) := by
        rw [← Nat.succ_mul]
        exact Nat.mul_le_mul_right _ (by omega)
      refine ⟨_, rfl, _, rfl, v', y, _, B[i], _, bb, rfl, hv', hrow.keep s1, by rw [hlr, r1], by omega, r2, hsr, r3, by omega, fun v2 H2 s2 hv2 => ⟨s1.trans s2, v2, some y, rfl, ?_⟩⟩
      rw [rest_take hi]
      exact hv2
    · rintro σ H' ⟨s1, v', z, rfl, hv'⟩
      refine ⟨_, rfl, q _ _ s1 ?_⟩
      rw [hR.1, List.take_length] at hv'
      exact hv'
/-! with_vector -/
abbrev s_with_vector : Stmt := top 17
abbrev N_with_vector : List Str := ["basis", "vector", "rest", "added", "rows", "row"]
theorem sc_with_vector : FnScope N_with_vector ["basis", "vector"] (defScope s_with_vector) := ⟨rfl, rfl, rfl, by decide +kernel, rfl, by decide +kernel, by decide +kernel⟩
def sp_with_vector (K : PySem.W.Frag) : Sp := fun vs H Q _ => ∃ x v B u n a b, vs = [x, v] ∧ Bt K H x B ∧ Vc K H v u ∧ u.length = n ∧ n ≤ 500 ∧ LA.Red n B ∧ B.length ≤ 500 ∧ (∀ c ∈ B, LA.Small b c) ∧ LA.Small a u ∧ a + B.length * (b + 1) + b + 1 ≤ 9000 ∧
  ∀ v' H', Same H H' → Bt K H' v' (LA.withVec B u) → Q v' H'
theorem ok_with_vector {f f1 f2 f3 f4 f5 : Addr} {fd fd1 fd2 fd3 fd4 fd5 : FuncData} {k : Nat} (D : Dn K mg "with_vector" s_with_vector ["basis", "vector"] f fd)
    (D1 : Dn K mg "rest_beside" s_rest_beside ["basis", "vector"] f1 fd1) (G1 : FnOk P w K mg base CX0 (k + 1) f1 fd1 ["basis", "vector"] (sp_rest_beside K))
    (D2 : Dn K mg "positive" s_positive ["vector"] f2 fd2) (G2 : FnOk P w K mg base CX0 (k + 1) f2 fd2 ["vector"] (sp_positive K))
    (D3 : Dn K mg "divided" s_divided ["vector"] f3 fd3) (G3 : FnOk P w K mg base CX0 (k + 1) f3 fd3 ["vector"] (sp_divided K))
    (D4 : Dn K mg "cleared" s_cleared ["vector", "row"] f4 fd4) (G4 : FnOk P w K mg base CX0 k f4 fd4 ["vector", "row"] (sp_cleared K))
    (D5 : Dn K mg "pivot" s_pivot ["vector"] f5 fd5) (G5 : ∀ j, FnOk P w K mg base CX0 (j + 1) f5 fd5 ["vector"] (sp_pivot K)) (hk : 2 ≤ k)
    (m1 : mg "any" = none) (m2 : mg "tuple" = none) (m3 : mg "sorted" = none) : FnOk P w K mg base CX0 (k + 2) f fd ["basis", "vector"] (sp_with_vector K) := by
  refine D.F.ok sc_with_vector (fun vs H Q E h => ?_) (fun cdv A outer s H vs Q E hr h => ?_)
  · obtain ⟨x, v, B, u, n, a, b, rfl, _⟩ := h
    rfl
  · obtain ⟨x, v, B, u, n, ab, bb, rfl, hBt, hv, hun, hn, red, hBl, sB, sa, hab, q⟩ := h
    obtain ⟨a, xs, rfl, hS, hR⟩ := hBt
    have nd := sc_with_vector.nd
    have hRow : RowsOk n bb B := fun c hc => ⟨red.len c hc, (red.piv c hc).2, sB c hc⟩
    have hr3 : Room (1 + 2) (A.deeper (envOfC "with_vector" (defScope s_with_vector) s.heap.objs.size f cdv)) := hr.mono (by omega)
    have hrk : Room k (A.deeper (envOfC "with_vector" (defScope s_with_vector) s.heap.objs.size f cdv)) := hr.mono (by omega)
    refine ⟨_, pss_cons (ps_set (i := 2) nd rfl (.inl rfl) (pe_call G1 hr (by rfl) D1.g D1.kp D1.b .nil pass0 (pa_cons (pv 0) (pa_cons (pv 1) pa_nil))))
      (pss_cons (ps_if (pt_not (pt_val (pe_callB (call_anyT rfl) (by rfl) m1 (by decide +kernel) (pa_cons (pv 2) pa_nil)))) (pss_one (ps_ret (pv 0))) pss_nil)
      (pss_cons (ps_set (i := 3) nd rfl (.inr rfl) (pe_call G2 hr (by rfl) D2.g D2.kp D2.b .nil pass0 (pa_cons (pe_call G3 hr (by rfl) D3.g D3.kp D3.b .nil pass0 (pa_cons (pv 2) pa_nil)) pa_nil)))
      (pss_cons (ps_setLc (i := 4) (own := [("row", 5)]) (g := gName 5) (tt := tYes) rfl nd rfl rfl (sw_true rfl rfl rfl (by decide +kernel)) (pi_tup (pv 0)) (blkOk_by (N := N_with_vector) (sc := defScope s_with_vector) (by decide +kernel))
        (fun _ _ _ _ _ => pg_name (i := 5) nd rfl (Or.inl rfl)) (fun _ _ _ _ _ => pts_nil)
        (fun _ _ _ _ _ => pe_call G4 hrk (by rfl) D4.g D4.kp D4.b .nil pass0 (pa_cons (pv 5) (pa_cons (pv 3) pa_nil))))
      (pss_one (ps_ret (pe_callTy call_tuple_of (by rfl) m2 (by decide +kernel) (pa_cons
        (pe_callBK (cr_sortedOwn (G5 0) hr3 D5.b) (by rfl) m3 (by decide +kernel) (pa_cons (pe_lst (StX.pa_star (pv 4) (pa_cons (pv 3) pa_nil))) pa_nil) (pk_cons (pe_glob (v := .ref f5) rfl D5.g rfl) pk_nil)) pa_nil))))))), ?_⟩
    refine ⟨_, rfl, _, rfl, .ref a, v, B, u, n, ab, bb, rfl, ⟨a, xs, rfl, hS, hR⟩, hv, hun, by omega, hRow, sa, by omega, fun v1 H1 s1 hv1 => ?_⟩
    have hlr : (LA.rest B u).length = n := LA.rest_len red.len hun
    have hsr := LA.rest_small (b := bb) hRow hun sa
    obtain ⟨a1, rfl, hS1⟩ := hv1
    refine ⟨_, rfl, a1, _, rfl, hS1, _, rfl, ite2 (fun e => ?_) fun e => ?_⟩
    · have hz : LA.isZero (LA.rest B u) = true := by
        rw [Bool.not_not] at e
        exact e
      refine ⟨_, rfl, q _ _ s1 ?_⟩
      unfold LA.withVec
      rw [if_pos hz]
      exact Bt.tk ⟨a, xs, rfl, hS, hR⟩ (Same.tk s1)
    · have hz0 : ¬ LA.isZero (LA.rest B u) = true := by
        rw [Bool.not_not] at e
        exact e
      have hz : ¬ LA.Zero (LA.rest B u) := fun z => hz0 (LA.isZero_iff.mpr z)
      refine ⟨_, rfl, .ref a1, _, rfl, .inl ⟨a1, rfl, hS1⟩, hsr.mono (by omega), by omega, fun v2 H2 s2 hv2 => ?_⟩
      have hdz : ¬ LA.Zero (LA.divided (LA.rest B u)) := fun z => hz fun i => by rw [← LA.divided_e, z i, Int.mul_zero]
      refine ⟨v2, _, rfl, hv2, hdz, by rw [LA.divided_len]; omega, fun v3 H3 s3 hv3 => ?_⟩
      have hadd : LA.positive (LA.divided (LA.rest B u)) = LA.added B u := rfl
      rw [hadd] at hv3
      obtain ⟨f1, f2, f3, f4, f5, _⟩ := LA.added_facts red hun hz
      have s13 : Same H H3 := (s1.trans s2).trans s3
      have hS3 : SqT K H3 a xs := Same.sqt s13 hS
      have hsa : LA.Small (ab + B.length * (bb + 1)) (LA.added B u) := LA.positive_small (LA.divided_small hsr)
      -- rows
      refine ⟨_, rfl, a, rfl, ⟨_, hS3⟩, fun D nD => ?_⟩
      refine lc_it (walk_tup (K := K) (a := a) (xs := xs)) (fun i H' => TK H3 H' ∧ (∀ b o, b ≠ D → H3 b = some o → H' b = some o) ∧ ∃ acc, H' D = some (.lst acc) ∧ Rws K H' acc ((B.take i).map fun b => LA.cleared b (LA.added B u)))
        ⟨Same.tk (same_new nD), fun b o hb e => by rw [upd_ne hb]; exact e, [], upd_same, Rws.nil⟩ (fun i H' _ h => h.1.sqt hS3) ?_ ?_
      · rintro i y Ha Hb hi ⟨t1, k1, acc, eD, hacc⟩ ⟨rfl, hy⟩
        obtain ⟨hi', hrow⟩ := hR.at hy
        refine ⟨rfl, ?_⟩
        dsimp only [tYes]
        refine iteT ?_
        have hBi := List.getElem_mem hi'
        refine ⟨_, rfl, _, rfl, y, v3, B[i], LA.added B u, bb, _, rfl, (hrow.tk (Same.tk s13)).tk t1, hv3.tk t1, by rw [red.len _ hBi, f1], by omega, f3, sB _ hBi, hsa, by omega, fun v' H' s4 hv' => ?_⟩
        have hal : acc.length = i := by rw [hacc.1, List.length_map, List.length_take]; omega
        refine ⟨acc, s4 _ _ eD, small1000 (by omega), (t1.trans (Same.tk s4)).trans (tk_lst (s4 _ _ eD)), fun b o hb e => by rw [upd_ne hb]; exact s4 _ _ (k1 b o hb e), _, upd_same, ?_⟩
        rw [List.take_add_one, List.getElem?_eq_getElem hi', List.map_append]
        exact ((hacc.tk (Same.tk s4)).tk (tk_lst (s4 _ _ eD))).snoc (hv'.tk (tk_lst (s4 _ _ eD)))
      · rintro Ha ⟨t1, k1, acc, eD, hacc⟩
        rw [hR.1, List.take_length] at hacc
        have hal : acc.length = B.length := by rw [hacc.1, List.length_map]
        -- sorted, tuple
        refine ⟨_, rfl, D, acc, rfl, .inr (SqL.of eD), ?_⟩
        refine ⟨_, rfl, ?_⟩
        refine ⟨by rw [List.length_append, hal]; exact Nat.le_of_lt (small1000 (by show B.length + 1 ≤ 1000; omega)), fun l nl => ?_⟩
        have hsame : Same H3 Ha := fun b o e => by
          by_cases hb : b = D
          · subst hb
            rw [nD] at e
            cases e
          · exact k1 b o hb e
        have sl : Same Ha (upd Ha l (.lst (acc ++ [v3]))) := same_new nl
        have hfull : Rws K (upd Ha l (.lst (acc ++ [v3]))) (acc ++ [v3]) (LA.rows B (LA.added B u) ++ [LA.added B u]) := (hacc.snoc (hv3.tk t1)).tk (Same.tk sl)
        have hbs1 : ((acc ++ [v3]).zip (LA.rows B (LA.added B u) ++ [LA.added B u])).map Prod.fst = acc ++ [v3] := List.map_fst_zip (by rw [hfull.1]; exact Nat.le_refl _)
        have hbs2 : ((acc ++ [v3]).zip (LA.rows B (LA.added B u) ++ [LA.added B u])).map Prod.snd = LA.rows B (LA.added B u) ++ [LA.added B u] := List.map_snd_zip (by rw [hfull.1]; exact Nat.le_refl _)
        generalize hbs : (acc ++ [v3]).zip (LA.rows B (LA.added B u) ++ [LA.added B u]) = bs at hbs1 hbs2
        have hmem : ∀ p ∈ bs, Vc K (upd Ha l (.lst (acc ++ [v3]))) p.1 p.2 ∧ p.2 ∈ LA.rows B (LA.added B u) ++ [LA.added B u] := fun p hp => by
          obtain ⟨i, hi, rfl⟩ := List.mem_iff_getElem.mp hp
          have e1 : (acc ++ [v3])[i]? = some bs[i].1 := by rw [← hbs1, List.getElem?_map, List.getElem?_eq_getElem hi]; rfl
          have e2 : (LA.rows B (LA.added B u) ++ [LA.added B u])[i]? = some bs[i].2 := by rw [← hbs2, List.getElem?_map, List.getElem?_eq_getElem hi]; rfl
          exact ⟨hfull.2 i _ _ e1 e2, List.mem_of_getElem? e2⟩
        have hnz : ∀ w' ∈ LA.rows B (LA.added B u) ++ [LA.added B u], ¬ LA.Zero w' := fun w' hw => by
          have : w' ∈ LA.withVec B u := by
            unfold LA.withVec
            rw [if_neg hz0]
            exact (LA.sortP_perm _).mem_iff.mpr hw
          exact LA.nonzero_of_pivot ((LA.withVec_red red hun).len _ this) ((LA.withVec_red red hun).piv _ this).1
        have hbl : bs.length = B.length + 1 := by
          have := congrArg List.length hbs2
          rw [List.length_map, List.length_append] at this
          unfold LA.rows at this
          rw [List.length_map] at this
          exact this
        refine ⟨l, bs, rfl, rfl, by rw [hbs1]; exact SqL.of upd_same, fun p hp => ⟨(hmem p hp).1, hnz _ (hmem p hp).2⟩, by omega, fun p np => ?_⟩
        have sp : Same (upd Ha l (.lst (acc ++ [v3]))) (upd (upd Ha l (.lst (acc ++ [v3]))) p (.lst ((byKey bs).map Prod.fst))) := same_new np
        refine ⟨p, _, rfl, .inl ⟨SqL.of upd_same, fun z nz => ?_⟩⟩
        have sz := same_new (o := .tup ((byKey bs).map Prod.fst)) nz
        refine q _ _ ((((s13.trans hsame).trans sl).trans sp).trans sz) ⟨z, _, rfl, SqT.of upd_same, ?_⟩
        have hw : LA.withVec B u = (byKey bs).map Prod.snd := by
          unfold LA.withVec
          rw [if_neg hz0]
          unfold LA.sortP byKey
          rw [List.map_mergeSort (s := fun x y => decide (LA.pivot x ≤ LA.pivot y)) (fun x _ y _ => by unfold key; exact decide_eq_decide.mpr (by omega)), hbs2]
        rw [hw]
        refine ⟨by rw [List.length_map, List.length_map], fun i y w' e1 e2 => ?_⟩
        rw [List.getElem?_map] at e1 e2
        cases hg : (byKey bs)[i]? with
        | none => rw [hg] at e1; cases e1
        | some pr =>
          rw [hg] at e1 e2
          cases e1
          cases e2
          have hpm : pr ∈ bs := by
            have := List.mem_of_getElem? hg
            unfold byKey at this
            exact (List.mergeSort_perm _ _).mem_iff.mp this
          exact ((hmem pr hpm).1.keep sp).keep sz
end
end Sp1

set_option Elab.async false
set_option linter.all false
set_option maxRecDepth 100000
set_option maxHeartbeats 4000000
/-! enumerate of a tuple, and of either -/
namespace EnT
open PySem
theorem makes (t : Addr) (items : Array Value) : Meets (Builtin.«enumerate.__new__» ⟨[.type "enumerate", .ref t], []⟩) (fun _ R s => s.heap.IsTuple t items ∧
    R (.ok (.ret (.ref (s.heap.objs.size + 1)))) { s with heap := (s.heap.push { cls := .type "tuple_iterator", data := .fields #[.ref t, .int 0 0] }).push { cls := .type "enumerate", data := .fields #[.none, .bool false, .ref s.heap.objs.size, rawInt 0, .none, .none] } }) :=
  .of_wp fun prog w A R s hyp => by
    obtain ⟨hp, g, d, tk, os⟩ := s
    obtain ⟨ht, fin⟩ := hyp
    have same := sub_enumerate
    have size1 : (hp.push { cls := .type "tuple_iterator", data := .fields #[.ref t, .int 0 0] }).objs.size = hp.objs.size + 1 := Heap.size_push ..
    have fin2 : R (.ok (.ret (.ref (hp.push { cls := .type "tuple_iterator", data := .fields #[.ref t, .int 0 0] }).objs.size))) ⟨(hp.push { cls := .type "tuple_iterator", data := .fields #[.ref t, .int 0 0] }).push { cls := .type "enumerate", data := .fields #[.none, .bool false, .ref hp.objs.size, rawInt 0, .none, .none] }, g, d, tk, os⟩ := by
      rw [size1]
      exact fin
    have here : Heap.IsTuple (Shared.heap ⟨hp, g, d, tk, os⟩) t items := ht
    wp_walk using wpAny_pyIter_tuple here
    refine wpAny_stack_any fun st => wpAny_pure ?_
    split
    · rename_i c _ _ _ _ _
      cases (c == Value.type "enumerate") <;> (wp_walk using wpAny_pyIter_tuple here) <;> exact ⟨_, rfl, fin2⟩
    · wp_walk using wpAny_pyIter_tuple here
      exact ⟨_, rfl, fin2⟩
section
variable {prog : Program} {w : World} {A : Around} {E : Value → Shared → Prop} {s : Shared}
theorem calls {t : Addr} {items : Array Value} {Q : Value → Shared → Prop} (ht : s.heap.IsTuple t items)
    (q : ∀ h', IsEnum h' (s.heap.objs.size + 1) s.heap.objs.size 0 .none → h'.IsTupleIter s.heap.objs.size t 0 → (∀ b o, s.heap.get? b = some o → h'.get? b = some o) → Q (.ref (s.heap.objs.size + 1)) { s with heap := h' }) :
    wpAny (model prog w) A (call (.type "enumerate") [.ref t]) Q E s := by
  refine callType_new F.called_enumerate (by decide) (F.typeCall_enumerate_1 _) (F.newCall_enumerate_1 _) (fun obj => F.args_object_init_2 obj _) F.entry_enumerate_new (makes t items) ⟨ht, ?_⟩
  have size1 : (s.heap.push { cls := .type "tuple_iterator", data := .fields #[.ref t, .int 0 0] }).objs.size = s.heap.objs.size + 1 := Heap.size_push ..
  have stands : IsEnum ((s.heap.push { cls := .type "tuple_iterator", data := .fields #[.ref t, .int 0 0] }).push { cls := .type "enumerate", data := .fields #[.none, .bool false, .ref s.heap.objs.size, rawInt 0, .none, .none] }) (s.heap.objs.size + 1) s.heap.objs.size 0 .none := by
    have here := Heap.get?_push_size (s.heap.push { cls := .type "tuple_iterator", data := .fields #[.ref t, .int 0 0] }) (o := { cls := .type "enumerate", data := .fields #[.none, .bool false, .ref s.heap.objs.size, rawInt 0, .none, .none] }) rfl
    rw [size1] at here
    exact here
  exact ⟨⟨_, stands, rfl⟩, q _ stands ⟨_, Heap.get?_push_of_some _ (Heap.get?_push_size _ rfl), rfl, rfl⟩ fun b o e => Heap.get?_push_of_some _ (Heap.get?_push_of_some _ e)⟩
end
end EnT
namespace Sp1
open PySem PySem.Spec PyProof.Rows L2
/-- the tuple at a, each item with its place in a new pair -/
def IteT (K : PySem.W.Frag) (a : Addr) : It :=
  ⟨fun i H => ∃ (xs : List V) (x : V), SqT K H a xs ∧ xs[i]? = some x, fun i H v H' => ∃ T x, v = .ref T ∧ H T = none ∧ H' = upd H T (.tup [.int (i : Nat), x]) ∧ ∀ xs, SqT K H a xs → xs[i]? = some x, fun i H => ∃ xs : List V, SqT K H a xs ∧ xs.length = i⟩
theorem turn_enumT {P : Program} {w : World} {K : PySem.W.Frag} {elts : List Expr} {kk : Nat} {tpos : Pos} (a e it : Addr) (hne : e ≠ it) (hea : e ≠ a) (hia : a ≠ it) :
    Turn P w K (.Tuple elts kk tpos) (IteT K a) [e, it] e (fun i h => (∃ old, IsEnum h e it ((i : Nat) : Int) old) ∧ h.IsTupleIter it a i) where
  mem := List.mem_cons_self
  obj := by
    rintro i h ⟨⟨old, he⟩, o, ho, hc, hd⟩ b hb
    rcases List.mem_cons.mp hb with rfl | hb
    · exact ⟨_, he, fun v q => nomatch q⟩
    · rw [List.mem_singleton.mp hb]
      exact ⟨o, ho, fun v q => by rw [hd] at q; cases q⟩
  keep := by
    rintro i h h' ⟨⟨old, he⟩, hi⟩ k
    exact ⟨⟨old, k e List.mem_cons_self _ he⟩, hi.at fun o q => k it (List.mem_cons_of_mem _ List.mem_cons_self) o q⟩
  item := by
    intro X hP hw hK hc i pins s σ H E I hf st hg
    subst hP hw hK
    obtain ⟨⟨old, he⟩, hit⟩ := st
    obtain ⟨xs, x, hq, hx⟩ := hg
    obtain ⟨its, rv, p, hz⟩ := I.tuple hq
    obtain ⟨u, hu, ru⟩ := rv.get hx
    have hel : e < s.heap.objs.size := Heap.lt_size he
    have hil : it < s.heap.objs.size := by obtain ⟨_, q, _⟩ := hit; exact Heap.lt_size q
    have hlt : i < its.toArray.size := by
      rw [List.size_toArray]
      exact (List.getElem?_eq_some_iff.mp hu).1
    have D := Draws.tuple (prog := X.prog) (w := X.w) (A := X.A.in1) (I.ok.hd hc) it a hia its.toArray
    refine wpAny_pyNext_enum_itemC D he ⟨hit, p⟩ hlt hne (fun z => ?_) fun u2 h' tk hu2 ho st' hT hsz hk => ?_
    · rcases List.mem_cons.mp z with z | z
      · exact hne z
      · exact hea (List.mem_singleton.mp z)
    · have eu : u2 = u := by
        have h1 : its.toArray[i]? = some u := by simpa using hu
        have h2 : its.toArray[i]? = some u2 := hu2
        rw [h1] at h2
        exact (Option.some.inj h2).symm
      subst eu
      refine ⟨_, rfl, wpAny_letOwnedTupleGo_enum (s := { s with heap := h', toks := tk + 1 }) ho fun h'' he' sb => ?_⟩
      have hT2 : h''.get? s.heap.objs.size = some { cls := .type "tuple", data := .seq #[.int i tk, u2] } := (sb.2 _ (Nat.ne_of_gt hel)).trans hT
      have new : ObjOk X.prog X.w (upd H s.heap.objs.size (.tup [.int (i : Nat), x])) h'' s.heap.objs.size (.tup [.int (i : Nat), x]) :=
        ⟨by show 2 ≤ sizeLine; decide, [.int i tk, u2], .cons ⟨_, rfl⟩ (.cons ru .nil), ⟨_, hT2, rfl, _, rfl⟩⟩
      have I1 : Inv X pins σ (upd H s.heap.objs.size (.tup [.int (i : Nat), x])) { s with heap := h'', toks := tk + 1 } :=
        I.turnedNew (ch := [e, it]) (fun b ob hb q => by
          have b1 : b ≠ e := fun z => hb (by rw [z]; exact List.mem_cons_self)
          have b2 : b ≠ it := fun z => hb (by rw [z]; exact List.mem_cons_of_mem _ List.mem_cons_self)
          exact (sb.2 b b1).trans (hk b ob b1 b2 q)) hf (Nat.le_refl _) new
      refine ⟨.ref s.heap.objs.size, _, I1, rfl, ⟨_, x, rfl, I.hok.fresh (Nat.le_refl _), rfl, fun ys hy => by rw [I.tuple_inj hy hq]; exact hx⟩, ⟨⟨u2, ?_⟩, st'.1.at fun o q => (sb.2 it hne.symm).trans q⟩, fun b hb => ?_⟩
      · have e1 : ((i + 1 : Nat) : Int) = (i : Int) + 1 := by omega
        rw [e1]
        exact he'
      · have hb' : b < s.heap.objs.size := by
          rcases List.mem_cons.mp hb with z | z
          · rw [z]; exact hel
          · rw [List.mem_singleton.mp z]; exact hil
        rw [upd_ne (Nat.ne_of_lt hb')]
        exact (hf b hb).1
  done := by
    intro X hP hw hK hc i pins s σ H E I hf st hg
    subst hP hw hK
    obtain ⟨⟨old, he⟩, hit⟩ := st
    obtain ⟨xs, hq, hx⟩ := hg
    obtain ⟨its, rv, p, hz⟩ := I.tuple hq
    obtain ⟨f0, f1, f2, f3, f4, f5⟩ := hf it (List.mem_cons_of_mem _ List.mem_cons_self)
    have hl := rv.length
    have hn : i = its.toArray.size := by rw [List.size_toArray]; omega
    have D := Draws.tuple (prog := X.prog) (w := X.w) (A := X.A.in1) (I.ok.hd hc) it a hia its.toArray
    exact wpAny_pyNext_enum_endD D he ⟨by rw [← hn]; exact hit, p⟩ fun h' eb => ⟨rfl, I.turned (t' := s.toks) (fun b o hb q => eb b o hb q) f0 f1 f3 f4 f5⟩
  self := fun A i s Q E st h => let ⟨⟨_, he⟩, _⟩ := st; wpAny_pyIter_enum he h
def iEnumT (K : PySem.W.Frag) (ta : TA) : TI := fun σ H R => ta σ H fun vs H1 => ∃ a xs, vs = [.ref a] ∧ SqT K H1 a xs ∧ R (IteT K a) H1
theorem pi_enumT {X : Cx} {e : Expr} {ta : TA} {p pos tpos : Pos} {elts : List Expr} {kk : Nat} (hg : Gl X "enumerate") (hm : X.mg "enumerate" = none) (ha : PA X [e] ta) (hs : starEach [e] X.env = [(false, eval e X.env)] := by rfl) :
    PI X (.Tuple elts kk tpos) (.Call (.Name "enumerate" p) [e] [] pos) (iEnumT X.K ta) := by
  refine ⟨fun pins s σ H R I h => ?_⟩
  refine Call_ (ld_blt I hg hm boot_enumerate (PyProof.Rows.callWith_type1 (thn (ha.run pos pins s σ H _ I h) fun us s1 ⟨vs, H1, I1, r1, q1⟩ => ?_) hs rfl))
  obtain ⟨a, xs, rfl, hq, q⟩ := q1
  rw [Vals.ref1 r1]
  obtain ⟨its, rv, p', hz⟩ := I1.tuple hq
  have hal : (a : Nat) < s1.heap.objs.size := by obtain ⟨o, ho, _⟩ := id p'; exact Heap.lt_size ho
  refine EnT.calls p' fun h' he hit hk => wpAny_pyIter_enum he ?_
  have I2 : Inv X pins σ H1 { s1 with heap := h' } := I1.kept (t' := s1.toks) hk
  refine ⟨s1.heap.objs.size + 1, [s1.heap.objs.size + 1, s1.heap.objs.size], _, _, H1, rfl, I2, turn_enumT a (s1.heap.objs.size + 1) s1.heap.objs.size (Nat.succ_ne_self _) (Nat.ne_of_gt (Nat.lt_succ_of_lt hal)) (Nat.ne_of_lt hal), ⟨⟨.none, he⟩, hit⟩, fun b hb => ?_, q⟩
  have hle : s1.heap.objs.size ≤ b := by
    rcases List.mem_cons.mp hb with z | z
    · rw [z]; exact Nat.le_succ _
    · rw [List.mem_singleton.mp z]; exact Nat.le_refl _
  exact I1.fpOk hle (I1.hok.fresh hle)
theorem walk_enumT {K : PySem.W.Frag} {a : Addr} {xs : List V} : Walk (IteT K a) xs.length (fun H => SqT K H a xs) (YPair (fun i => some (.int (i : Nat))) (fun i => xs[i]?)) := by
  refine ⟨fun i _ hi q => ⟨xs, xs[i], q, List.getElem?_eq_getElem hi⟩, fun _ q => ⟨xs, q, rfl⟩, fun i H v H' _ q y => ?_⟩
  obtain ⟨T, x, h1, h2, h3, h4⟩ := y
  exact ⟨T, .int (i : Nat), x, h1, h2, h3, rfl, h4 xs q⟩
end Sp1

set_option Elab.async false
set_option linter.all false
set_option maxRecDepth 100000
set_option maxHeartbeats 4000000
namespace LA
theorem Red.length_le {n : Nat} {B : List Vec} (R : Red n B) : B.length ≤ n := by
  have h := asc_len (l := B.map pivot) (a := 0) (m := n) (List.pairwise_map.mpr R.asc) (fun x hx => by
    obtain ⟨b, hb, rfl⟩ := List.mem_map.mp hx
    exact ⟨Nat.zero_le _, (R.piv b hb).1⟩) (Nat.zero_le _)
  rw [List.length_map] at h
  omega
theorem reduced_take {S : List Vec} {i : Nat} (h : i < S.length) : reduced (S.take (i + 1)) = withVec (reduced (S.take i)) S[i] := by
  rw [List.take_add_one, List.getElem?_eq_getElem h]
  unfold reduced
  show List.foldl withVec [] (S.take i ++ [S[i]]) = _
  rw [List.foldl_append]
  rfl
end LA
namespace Sp1
open PySem PySem.Spec PyProof.Rows L2
/-- a list or a tuple of vectors -/
def Sv (K : PySem.W.Frag) (H : Hp) (v : V) (S : List LA.Vec) : Prop := ∃ a xs, v = .ref a ∧ (SqT K H a xs ∨ SqL K H a xs) ∧ Rws K H xs S
theorem Bt.sv {K : PySem.W.Frag} {H : Hp} {v : V} {S : List LA.Vec} (h : Bt K H v S) : Sv K H v S := by
  obtain ⟨a, xs, e, h1, h2⟩ := h
  exact ⟨a, xs, e, .inl h1, h2⟩
theorem Sv.keep {K : PySem.W.Frag} {H H' : Hp} {v : V} {S : List LA.Vec} (h : Sv K H v S) (s : Same H H') : Sv K H' v S := by
  obtain ⟨a, xs, e, h1, h2⟩ := h
  refine ⟨a, xs, e, ?_, h2.tk (Same.tk s)⟩
  rcases h1 with h1 | h1
  · exact .inl (Same.sqt s h1)
  · exact .inr (s.seq h1)
theorem tyx_tup {K : PySem.W.Frag} {H : Hp} {a : Addr} {xs : List V} (h : SqT K H a xs) : TyX K H (.ref a) (.type "tuple") := by
  rcases h with (h | ⟨o, h⟩) | ⟨o, its, n, h1, h2, _⟩
  · exact .base (.tup h)
  · exact .fTuple h
  · exact .kTuple h1 h2
section
variable {P : Program} {w : World} {K : PySem.W.Frag} {mg : Str → Option Value} {base : Heap}
/-! reduced_basis -/
abbrev s_reduced_basis : Stmt := top 18
abbrev N_reduced_basis : List Str := ["vectors", "basis", "vector"]
theorem sc_reduced_basis : FnScope N_reduced_basis ["vectors"] (defScope s_reduced_basis) := ⟨rfl, rfl, rfl, by decide +kernel, rfl, by decide +kernel, by decide +kernel⟩
/-- sizes that the elimination bears -/
structure Sizes (n : Nat) (S : List LA.Vec) (α β : Nat) : Prop where
  len : ∀ u ∈ S, u.length = n
  n500 : n ≤ 400
  s500 : S.length ≤ 400
  va : ∀ u ∈ S, LA.Small α u
  vb : ∀ i, ∀ c ∈ LA.reduced (S.take i), LA.Small β c
  sum : α + n * (β + 1) + β + 1 ≤ 9000
def sp_reduced_basis (K : PySem.W.Frag) : Sp := fun vs H Q _ => ∃ v S n α β, vs = [v] ∧ Sv K H v S ∧ Sizes n S α β ∧ ∀ v' H', Same H H' → Bt K H' v' (LA.reduced S) → Q v' H'
theorem ok_reduced_basis {f f1 : Addr} {fd fd1 : FuncData} {k : Nat} (D : Dn K mg "reduced_basis" s_reduced_basis ["vectors"] f fd) (D1 : Dn K mg "with_vector" s_with_vector ["basis", "vector"] f1 fd1)
    (G1 : FnOk P w K mg base CX0 k f1 fd1 ["basis", "vector"] (sp_with_vector K)) : FnOk P w K mg base CX0 (k + 1) f fd ["vectors"] (sp_reduced_basis K) := by
  refine D.F.ok sc_reduced_basis (fun vs H Q E h => ?_) (fun cdv A outer s H vs Q E hr h => ?_)
  · obtain ⟨v, S, n, α, β, rfl, _⟩ := h
    rfl
  · obtain ⟨v, S, n, α, β, rfl, ⟨a, xs, rfl, hS, hR⟩, z, q⟩ := h
    have nd := sc_reduced_basis.nd
    have turn : ∀ (i : Nat) (y : V) (H' : Hp) (b : V) (Qn : V → Hp → Prop), xs[i]? = some y → Same H H' → Bt K H' b (LA.reduced (S.take i)) →
        (∀ v' H'', Same H H'' → Bt K H'' v' (LA.reduced (S.take (i + 1))) → Qn v' H'') → sp_with_vector K [b, y] H' Qn (fun _ _ _ => False) := by
      intro i y H' b Qn hy s1 hb hq
      obtain ⟨hi, hrow⟩ := hR.at hy
      have hm := List.getElem_mem hi
      have hlt : ∀ u ∈ S.take i, u.length = n := fun u hu => z.len u (List.mem_of_mem_take hu)
      have red := LA.reduced_red hlt
      have hbl := red.length_le
      have hmul : (LA.reduced (S.take i)).length * (β + 1) ≤ n * (β + 1) := Nat.mul_le_mul_right _ hbl
      have h1 := z.n500
      have h2 := z.sum
      refine ⟨b, y, _, S[i], n, α, β, rfl, hb, hrow.keep s1, z.len _ hm, by omega, red, by omega, z.vb i, z.va _ hm, by omega, fun v' H'' s2 hb2 => hq v' H'' (s1.trans s2) ?_⟩
      rw [LA.reduced_take hi]
      exact hb2
    have start : ∀ p, H p = none → Bt K (upd H p (.tup [])) (.ref p) (LA.reduced (S.take 0)) := fun p np => by
      rw [List.take_zero]
      exact ⟨p, [], rfl, SqT.of upd_same, Rws.nil⟩
    have fin : ∀ (v' : V) (H' : Hp), Same H H' → Bt K H' v' (LA.reduced (S.take xs.length)) → Q v' H' := fun v' H' s1 hb => by
      rw [hR.1, List.take_length] at hb
      exact q v' H' s1 hb
    rcases hS with hS | hS
    · refine ⟨_, pss_cons (ps_set (i := 1) nd rfl (.inl rfl) (pe_tup pa_nil))
        (pss_cons (ps_for PassesOwn.never rfl (pi_tup (pv 0)) (pg_name (i := 2) nd rfl (.inl rfl))
          (pss_one (ps_set (i := 1) nd rfl (.inl rfl) (pe_call G1 hr (by rfl) D1.g D1.kp D1.b .nil pass0 (pa_cons (pv 1) (pa_cons (pv 2) pa_nil))))))
        (pss_one (ps_ret (pv 1)))), ?_⟩
      refine ⟨Nat.zero_le _, fun p np => ?_⟩
      refine ⟨_, rfl, a, rfl, ⟨_, Same.sqt (same_new np) hS⟩, for_tup (K := K) (a := a) (xs := xs) (fun i σ H' => Same H H' ∧ ∃ b y, σ = [some (.ref a), some b, y] ∧ Bt K H' b (LA.reduced (S.take i)))
        ⟨same_new np, _, none, rfl, start p np⟩ (fun i σ H' _ h => Same.sqt h.1 hS) ?_ ?_⟩
      · rintro i y σ H' hy ⟨s1, b, z', rfl, hb⟩
        exact ⟨_, rfl, _, rfl, turn i y H' b _ hy s1 hb fun v' H'' s2 hb2 => ⟨s2, v', _, rfl, hb2⟩⟩
      · rintro σ H' ⟨s1, b, z', rfl, hb⟩
        exact ⟨_, rfl, fin _ _ s1 hb⟩
    · refine ⟨_, pss_cons (ps_set (i := 1) nd rfl (.inl rfl) (pe_tup pa_nil))
        (pss_cons (ps_for PassesOwn.never rfl (pi_list (pv 0)) (pg_name (i := 2) nd rfl (.inl rfl))
          (pss_one (ps_set (i := 1) nd rfl (.inl rfl) (pe_call G1 hr (by rfl) D1.g D1.kp D1.b .nil pass0 (pa_cons (pv 1) (pa_cons (pv 2) pa_nil))))))
        (pss_one (ps_ret (pv 1)))), ?_⟩
      refine ⟨Nat.zero_le _, fun p np => ?_⟩
      refine ⟨_, rfl, a, rfl, ⟨_, (same_new np).seq hS⟩, for_list (K := K) (a := a) (xs := xs) (fun i σ H' => Same H H' ∧ ∃ b y, σ = [some (.ref a), some b, y] ∧ Bt K H' b (LA.reduced (S.take i)))
        ⟨same_new np, _, none, rfl, start p np⟩ (fun i σ H' _ h => h.1.seq hS) ?_ ?_⟩
      · rintro i y σ H' hy ⟨s1, b, z', rfl, hb⟩
        exact ⟨_, rfl, _, rfl, turn i y H' b _ hy s1 hb fun v' H'' s2 hb2 => ⟨s2, v', _, rfl, hb2⟩⟩
      · rintro σ H' ⟨s1, b, z', rfl, hb⟩
        exact ⟨_, rfl, fin _ _ s1 hb⟩
/-! is_vector -/
abbrev s_is_vector : Stmt := top 24
abbrev N_is_vector : List Str := ["candidate", "width", "entry"]
theorem sc_is_vector : FnScope N_is_vector ["candidate", "width"] (defScope s_is_vector) := ⟨rfl, rfl, rfl, by decide +kernel, rfl, by decide +kernel, by decide +kernel⟩
def sp_is_vector (K : PySem.W.Frag) : Sp := fun vs H Q _ => ∃ v u, vs = [v, .int (u.length : Int)] ∧ Vc K H v u ∧ u.length ≤ 500 ∧ ∀ H', Same H H' → Q (.bl true) H'
theorem ok_is_vector {f f1 : Addr} {fd fd1 : FuncData} {k : Nat} (D : Dn K mg "is_vector" s_is_vector ["candidate", "width"] f fd) (D1 : Dn K mg "is_integer" s_is_integer ["value"] f1 fd1)
    (G1 : FnOk P w K mg base CX0 k f1 fd1 ["value"] sp_is_integer) (m1 : mg "isinstance" = none) (m2 : mg "tuple" = none) (m3 : mg "len" = none) (m4 : mg "all" = none) :
    FnOk P w K mg base CX0 (k + 1) f fd ["candidate", "width"] (sp_is_vector K) := by
  refine D.F.ok sc_is_vector (fun vs H Q E h => ?_) (fun cdv A outer s H vs Q E hr h => ?_)
  · obtain ⟨v, u, rfl, _⟩ := h
    rfl
  · obtain ⟨v, u, rfl, ⟨a, rfl, hS⟩, hl, q⟩ := h
    have nd := sc_is_vector.nd
    refine ⟨_, pss_cons (ps_if (PW.pt (pw_or (pt_not (pt_val (pe_callB call_isi (by rfl) m1 (by decide +kernel) (pa_cons (pv 0) (pa_cons (pe_ty (n := "tuple") (by rfl) m2 (by decide +kernel)) pa_nil)))))
        (pw_or1 (pt_cmpR op_ne (pe_callB call_len_seq (by rfl) m3 PySem.boot_len (pa_cons (pv 0) pa_nil)) (pv 1) (nomark _))))) (pss_one (ps_ret pe_bl)) pss_nil)
      (pss_one (ps_ret (pe_callB (cr_all rfl) (by rfl) m4 (by decide +kernel) (pa_cons
        (pe_lc (own := [("entry", 2)]) (g := gName 2) (tt := tYes) rfl nd (pi_tup (pv 0)) (blkOk_by (N := N_is_vector) (sc := defScope s_is_vector) (by decide +kernel)) (fun _ _ _ _ _ => pg_name (i := 2) nd rfl (Or.inl rfl)) (fun _ _ _ _ _ => pts_nil)
          (fun _ _ _ _ _ => pe_call G1 hr (by rfl) D1.g D1.kp D1.b .nil pass0 (pa_cons (pv 2) pa_nil))) pa_nil)))), ?_⟩
    refine ⟨_, rfl, .ref a, .ty "tuple", _, _, true, rfl, .ty _, tyx_tup hS, kit_ty (by decide +kernel), true, rfl, ?_⟩
    refine iteF ?_
    refine ⟨_, rfl, a, _, rfl, .inr hS, _, rfl, rfl, _, rfl, ?_⟩
    rw [List.length_map]
    refine iteNS rfl ?_
    refine ⟨_, rfl, a, rfl, ⟨_, hS⟩, fun D nD => ?_⟩
    refine lc_it (walk_tup (K := K) (a := a) (xs := u.map V.int)) (Acc H D fun _ => V.bl true) (Acc.start nD) (fun i H' _ h => Same.sqt h.1 hS) ?_ ?_
    · rintro i x H1 H2 hi h ⟨rfl, hx⟩
      obtain ⟨hi', rfl⟩ := int_of hx
      refine ⟨rfl, ?_⟩
      dsimp only [tYes]
      refine iteT ?_
      exact ⟨_, rfl, _, rfl, h.turn nD (Same.refl _) (by omega) rfl⟩
    · rintro H1 h
      rw [List.length_map] at h
      refine ⟨D, (List.range u.length).map fun _ => true, rfl, SqL.of ?_, ?_⟩
      · rw [h.2, List.map_map]
        rfl
      · have : ((List.range u.length).map fun _ => true).all id = true := by
          rw [List.all_eq_true]
          intro x hx
          obtain ⟨_, _, rfl⟩ := List.mem_map.mp hx
          rfl
        rw [this]
        exact q H1 h.1
/-! check_width -/
abbrev s_check_width : Stmt := top 25
theorem sc_check_width : FnScope ["value"] ["value"] (defScope s_check_width) := ⟨rfl, rfl, rfl, by decide +kernel, rfl, by decide +kernel, by decide +kernel⟩
def sp_check_width : Sp := fun vs H Q _ => ∃ i : Int, vs = [.int i] ∧ 1 ≤ i ∧ i ≤ 64 ∧ Q .non H
theorem ok_check_width {f f1 : Addr} {fd fd1 : FuncData} {k : Nat} (D : Dn K mg "check_width" s_check_width ["value"] f fd) (D1 : Dn K mg "is_integer" s_is_integer ["value"] f1 fd1)
    (G1 : FnOk P w K mg base CX0 k f1 fd1 ["value"] sp_is_integer) {tm : Tok} (mM : mg "MAX_WIDTH" = some (.int 64 tm)) : FnOk P w K mg base CX0 (k + 1) f fd ["value"] sp_check_width := by
  refine D.F.ok sc_check_width (fun vs H Q E h => ?_) (fun cdv A outer s H vs Q E hr h => ?_)
  · obtain ⟨i, rfl, _⟩ := h
    rfl
  · obtain ⟨i, rfl, h1, h2, q⟩ := h
    refine ⟨_, pss_one (ps_if (PW.pt (pw_or (pt_not (pt_val (pe_call G1 hr (by rfl) D1.g D1.kp D1.b .nil pass0 (pa_cons (pv 0) pa_nil)))) (pw_or1 (pt_not (pt_chain op_le op_le pe_int (pv 0) (pe_glob (v := .int 64) rfl mM ⟨_, rfl⟩)))))) (pss_one ps_never) pss_nil), ?_⟩
    refine ⟨_, rfl, i, rfl, true, rfl, iteF ?_⟩
    refine ⟨_, rfl, _, _, rfl, rfl, _, rfl, ?_⟩
    rw [decide_eq_true h1]
    refine iteT ?_
    refine ⟨_, _, rfl, rfl, _, rfl, ?_⟩
    rw [decide_eq_true h2]
    exact iteF q
end
end Sp1

set_option Elab.async false
set_option linter.all false
set_option maxRecDepth 100000
set_option maxHeartbeats 4000000
namespace Sp1
open PySem PySem.Spec PyProof.Rows L2
section
variable {X : Cx} {pins : List (Addr × Obj)} {σ : L2.St} {H : Hp} {s : Shared}
abbrev in1x (X : Cx) : Cx := { X with A := X.A.in1 }
theorem inv_in1 (I : Inv X pins σ H s) : Inv (in1x X) pins σ H s :=
  ⟨⟨I.ok.mod, I.ok.kind, I.ok.glob, I.ok.blt, I.ok.above, I.ok.inj, I.ok.has, I.ok.cab, I.ok.hd, I.ok.frames, I.ok.stk, I.ok.exf, I.ok.bs, I.ok.bsz, I.ok.noex, I.ok.exfs, I.ok.funs, I.ok.frf⟩, I.os, I.bare, I.base, I.loc, I.cell, I.free, I.freeC, I.pin, I.hok, I.len⟩
theorem inv_out1 (ok : X.Ok) (I : Inv (in1x X) pins σ H s) : Inv X pins σ H s :=
  ⟨ok, I.os, I.bare, I.base, I.loc, I.cell, I.free, I.freeC, I.pin, I.hok, I.len⟩
/-- len(o), o an own instance with __len__ -/
theorem call_lenOwn {k : Nat} {C f : Addr} {fd : FuncData} {sp : Sp} (F : FnOk X.prog X.w X.K X.mg X.base CX0 k f fd ["self"] sp) (hr : Room (k + 1) X.A) (hb : L2.Binds X.K fd ["self"] [])
    (hs : PySem.W.findIn X.K (.ref C) "__len__" = some (some (.ref f))) (hf : PySem.W.isFn X.K (.ref f) = true) :
    CallR X (.builtin "len") (fun vs H Q => ∃ a dx fs, vs = [V.ref a] ∧ H a = some (.ins C dx fs) ∧ sp [.ref a] H (fun v H' => ∃ n : Nat, v = .int (n : Int) ∧ n ≤ 1000 ∧ Q (.int (n : Int)) H') (fun _ _ _ => False)) := by
  intro pins s σ H vs us Q I r h
  obtain ⟨a, dx, fs, rfl, ea, q⟩ := h
  rw [Vals.ref1 r]
  obtain ⟨mA, O, _, _, _, _⟩ := ins_get I.hok ea
  obtain ⟨od, J, _⟩ := O.look
  obtain ⟨m, Fm⟩ := I.fr
  refine PySem.W.len_K Fm I.ok.mod.kin J hs hf ?_
  refine thn (run_fn (X := in1x X) (vs := [.ref a]) (us := [.ref a]) F hr.in1 hb .nil pass0 (inv_in1 I) (.cons rfl .nil) q) fun u s' hu => ?_
  obtain ⟨v, H', I', rv, n, rfl, hn, q'⟩ := hu
  obtain ⟨t, rfl⟩ := rv
  have I2 := inv_out1 I.ok I'
  exact ⟨⟨by omega, by omega⟩, .int (n : Int), H', I2.tok _, ⟨_, rfl⟩, q'⟩
end
section
variable {P : Program} {w : World} {K : PySem.W.Frag} {mg : Str → Option Value} {base : Heap}
/-! check_vectors -/
abbrev s_check_vectors : Stmt := top 26
abbrev N_check_vectors : List Str := ["value", "width", "position", "vector"]
theorem sc_check_vectors : FnScope N_check_vectors ["value", "width"] (defScope s_check_vectors) := ⟨rfl, rfl, rfl, by decide +kernel, rfl, by decide +kernel, by decide +kernel⟩
def sp_check_vectors (K : PySem.W.Frag) : Sp := fun vs H Q _ => ∃ v S n, vs = [v, .int (n : Nat)] ∧ Sv K H v S ∧ (∀ u ∈ S, u.length = n) ∧ n ≤ 400 ∧ ∀ H', Same H H' → Q .non H'
theorem ok_check_vectors {f f1 : Addr} {fd fd1 : FuncData} {k : Nat} (D : Dn K mg "check_vectors" s_check_vectors ["value", "width"] f fd) (D1 : Dn K mg "is_vector" s_is_vector ["candidate", "width"] f1 fd1)
    (G1 : FnOk P w K mg base CX0 k f1 fd1 ["candidate", "width"] (sp_is_vector K)) (m1 : mg "isinstance" = none) (m2 : mg "list" = none) (m3 : mg "tuple" = none) (m4 : mg "enumerate" = none) :
    FnOk P w K mg base CX0 (k + 1) f fd ["value", "width"] (sp_check_vectors K) := by
  refine D.F.ok sc_check_vectors (fun vs H Q E h => ?_) (fun cdv A outer s H vs Q E hr h => ?_)
  · obtain ⟨v, S, n, rfl, _⟩ := h
    rfl
  · obtain ⟨v, S, n, rfl, ⟨a, xs, rfl, hS, hR⟩, hl, hn, q⟩ := h
    have nd := sc_check_vectors.nd
    have turn : ∀ (i : Nat) (y : V) (H' : Hp) (Qn : V → Hp → Prop) (Ex : XK), xs[i]? = some y → Same H H' → (∀ H'', Same H H'' → Qn (.bl true) H'') → sp_is_vector K [y, .int (n : Nat)] H' Qn Ex := by
      intro i y H' Qn Ex hy s1 hq
      obtain ⟨hi, hrow⟩ := hR.at hy
      have hm := hl _ (List.getElem_mem hi)
      exact ⟨y, S[i], by rw [hm], hrow.keep s1, by omega, fun H'' s2 => hq H'' (s1.trans s2)⟩
    rcases hS with hS | hS
    · refine ⟨_, pss_cons (ps_if (pt_not (pt_val (pe_callB call_isiT (by rfl) m1 (by decide +kernel) (pa_cons (pv 0) (pa_cons (pe_tup (pa_cons (pe_ty (n := "list") (by rfl) m2 (by decide +kernel)) (pa_cons (pe_ty (n := "tuple") (by rfl) m3 (by decide +kernel)) pa_nil))) pa_nil))))) (pss_one ps_never) pss_nil)
        (pss_one (ps_for PassesOwn.never rfl (pi_enumT (by rfl) m4 (pa_cons (pv 0) pa_nil)) (pg_tup rfl (pgs_cons (pg_name (i := 2) nd rfl (.inl rfl)) (pgs_cons (pg_name (i := 3) nd rfl (.inl rfl)) pgs_nil)))
          (pss_one (ps_if (pt_not (pt_val (pe_call G1 hr (by rfl) D1.g D1.kp D1.b .nil pass0 (pa_cons (pv 3) (pa_cons (pv 1) pa_nil))))) (pss_one ps_never) pss_nil)))), ?_⟩
      refine ⟨_, rfl, by show 2 ≤ sizeLine; decide, fun p np => ?_⟩
      have s0 : Same H (upd H p (.tup [.ty "list", .ty "tuple"])) := same_new np
      refine ⟨.ref a, p, _, .type "tuple", [.type "list", .type "tuple"], true, rfl, upd_same, .cons (.ty _) (.cons (.ty _) .nil), tyx_tup (Same.sqt s0 hS), kitAny_cons (b := false) (kit_ty (by decide +kernel)) (fun _ => kitAny_cons (b := true) (kit_ty (by decide +kernel)) (fun z => by cases z) fun _ => rfl) (fun z => by cases z), true, rfl, ?_⟩
      refine iteF ?_
      refine ⟨_, rfl, a, xs, rfl, Same.sqt s0 hS, ?_⟩
      refine for_it (walk_enumT (K := K) (a := a) (xs := xs)) (fun i σ H' => Same H H' ∧ ∃ y z, σ = [some (.ref a), some (.int (n : Nat)), y, z]) ⟨s0, none, none, rfl⟩ (fun i σ H' _ h => Same.sqt h.1 hS) ?_ ?_
      · rintro i x σ H1 H2 hi ⟨s1, y, z, rfl⟩ ⟨T, x1, x2, rfl, nT, rfl, g1, g2⟩
        refine ⟨T, _, rfl, SqT.of upd_same, rfl, _, _, rfl, _, _, rfl, rfl, ?_⟩
        refine ⟨_, rfl, _, rfl, ?_⟩
        dsimp only [tNil, List.append_nil]
        refine turn i x2 _ _ _ g2 (s1.trans (same_new nT)) fun H'' s2 => ?_
        refine ⟨true, rfl, iteF ?_⟩
        exact ⟨s2, _, _, rfl⟩
      · rintro σ H' ⟨s1, y, z, rfl⟩
        exact q H' s1
    · refine ⟨_, pss_cons (ps_if (pt_not (pt_val (pe_callB call_isiT (by rfl) m1 (by decide +kernel) (pa_cons (pv 0) (pa_cons (pe_tup (pa_cons (pe_ty (n := "list") (by rfl) m2 (by decide +kernel)) (pa_cons (pe_ty (n := "tuple") (by rfl) m3 (by decide +kernel)) pa_nil))) pa_nil))))) (pss_one ps_never) pss_nil)
        (pss_one (ps_for PassesOwn.never rfl (pi_enum (by rfl) m4 (pa_cons (pv 0) pa_nil)) (pg_tup rfl (pgs_cons (pg_name (i := 2) nd rfl (.inl rfl)) (pgs_cons (pg_name (i := 3) nd rfl (.inl rfl)) pgs_nil)))
          (pss_one (ps_if (pt_not (pt_val (pe_call G1 hr (by rfl) D1.g D1.kp D1.b .nil pass0 (pa_cons (pv 3) (pa_cons (pv 1) pa_nil))))) (pss_one ps_never) pss_nil)))), ?_⟩
      refine ⟨_, rfl, by show 2 ≤ sizeLine; decide, fun p np => ?_⟩
      have s0 : Same H (upd H p (.tup [.ty "list", .ty "tuple"])) := same_new np
      have tyL : TyX K (upd H p (.tup [.ty "list", .ty "tuple"])) (.ref a) (.type "list") := by
        rcases s0.seq hS with (h | ⟨o, h⟩) | ⟨o, its, n, h1, h2, _⟩
        · exact .base (.lst h)
        · exact .base (.frz h)
        · exact .kList h1 h2
      refine ⟨.ref a, p, _, .type "list", [.type "list", .type "tuple"], true, rfl, upd_same, .cons (.ty _) (.cons (.ty _) .nil), tyL, kitAny_cons (b := true) (kit_ty (by decide +kernel)) (fun z => by cases z) (fun _ => rfl), true, rfl, ?_⟩
      refine iteF ?_
      refine ⟨_, rfl, a, xs, rfl, s0.seq hS, ?_⟩
      refine for_it (walk_enum (K := K) (a := a) (xs := xs)) (fun i σ H' => Same H H' ∧ ∃ y z, σ = [some (.ref a), some (.int (n : Nat)), y, z]) ⟨s0, none, none, rfl⟩ (fun i σ H' _ h => h.1.seq hS) ?_ ?_
      · rintro i x σ H1 H2 hi ⟨s1, y, z, rfl⟩ ⟨T, x1, x2, rfl, nT, rfl, g1, g2⟩
        refine ⟨T, _, rfl, SqT.of upd_same, rfl, _, _, rfl, _, _, rfl, rfl, ?_⟩
        refine ⟨_, rfl, _, rfl, ?_⟩
        dsimp only [tNil, List.append_nil]
        refine turn i x2 _ _ _ g2 (s1.trans (same_new nT)) fun H'' s2 => ?_
        refine ⟨true, rfl, iteF ?_⟩
        exact ⟨s2, _, _, rfl⟩
      · rintro σ H' ⟨s1, y, z, rfl⟩
        exact q H' s1
/-! the class Space -/
theorem wb_ : ¬ (("_width" : Str) = "_basis") := by decide +kernel
theorem bw_ : ¬ (("_basis" : Str) = "_width") := by decide +kernel
def sf (n : Nat) (v : V) : List (Str × V) := putF "_basis" v (putF "_width" (.int (n : Nat)) [])
theorem sf_eq (n : Nat) (v : V) : sf n v = ([("_width", V.int (n : Nat)), ("_basis", v)] : List (Str × V)) := by
  show (if ("_width" : Str) = "_basis" then [(("_width" : Str), v)] else (("_width" : Str), V.int (n : Nat)) :: putF "_basis" v []) = _
  rw [if_neg wb_]
  rfl
theorem sf_w (n : Nat) (v : V) : (sf n v).lookup ("_width" : Str) = some (.int (n : Nat)) := by
  unfold sf
  rw [lookup_putF, if_neg wb_, lookup_putF, if_pos rfl]
theorem sf_b (n : Nat) (v : V) : (sf n v).lookup ("_basis" : Str) = some v := by
  unfold sf
  rw [lookup_putF, if_pos rfl]
/-- a space that stands at x -/
def Spc (K : PySem.W.Frag) (C : Addr) (H : Hp) (x : V) (n : Nat) (B : List LA.Vec) : Prop := ∃ a dx v, x = .ref a ∧ H a = some (.ins C dx (sf n v)) ∧ Bt K H v B
theorem Spc.keep {K : PySem.W.Frag} {C : Addr} {H H' : Hp} {x : V} {n : Nat} {B : List LA.Vec} (h : Spc K C H x n B) (s : Same H H') : Spc K C H' x n B := by
  obtain ⟨a, dx, v, e, h1, h2⟩ := h
  exact ⟨a, dx, v, e, s _ _ h1, h2.tk (Same.tk s)⟩
abbrev s_init : Stmt := inClass (top 27) 0
theorem sc_init : FnScope ["self", "width", "vectors"] ["self", "width", "vectors"] (defScope s_init) := ⟨rfl, rfl, rfl, by decide +kernel, rfl, by decide +kernel, by decide +kernel⟩
def sp_init (K : PySem.W.Frag) (C : Addr) : Sp := fun vs H Q _ => ∃ x dx v S n α β, vs = [.ref x, .int (n : Nat), v] ∧ H x = some (.ins C dx []) ∧ Sv K H v S ∧ Sizes n S α β ∧ 1 ≤ n ∧ n ≤ 64 ∧
  ∀ H' v', (∀ b o, b ≠ x → H b = some o → H' b = some o) → H' x = some (.ins C dx (sf n v')) → Bt K H' v' (LA.reduced S) → Q .non H'
structure SpTxt (K : PySem.W.Frag) (C : Addr) : Prop where
  cl : Cls K C
  nW : NoAttr K C "_width"
  nB : NoAttr K C "_basis"
theorem ok_init {dvs : List V} {f f1 f2 f3 : Addr} {fd fd1 fd2 fd3 : FuncData} {k : Nat} {C : Addr} (F : FunD K "__init__" "Space.__init__" (defArgs s_init) (defBody s_init) (defScope s_init) dvs [] f fd) (T : SpTxt K C)
    (D1 : Dn K mg "check_width" s_check_width ["value"] f1 fd1) (G1 : FnOk P w K mg base CX0 k f1 fd1 ["value"] sp_check_width)
    (D2 : Dn K mg "check_vectors" s_check_vectors ["value", "width"] f2 fd2) (G2 : FnOk P w K mg base CX0 k f2 fd2 ["value", "width"] (sp_check_vectors K))
    (D3 : Dn K mg "reduced_basis" s_reduced_basis ["vectors"] f3 fd3) (G3 : FnOk P w K mg base CX0 k f3 fd3 ["vectors"] (sp_reduced_basis K)) :
    FnOk P w K mg base CX0 (k + 1) f fd ["self", "width", "vectors"] (sp_init K C) := by
  refine F.ok sc_init (fun vs H Q E h => ?_) (fun cdv A outer s H vs Q E hr h => ?_)
  · obtain ⟨x, dx, v, S, n, α, β, rfl, _⟩ := h
    rfl
  · obtain ⟨x, dx, v, S, n, α, β, rfl, hx, hv, hz, h1, h64, q⟩ := h
    have nd := sc_init.nd
    refine ⟨_, PSs.nox (pss_cons (ps_expr (pe_call G1 hr (by rfl) D1.g D1.kp D1.b .nil pass0 (pa_cons (pv 1) pa_nil)))
      (pss_cons (ps_expr (pe_call G2 hr (by rfl) D2.g D2.kp D2.b .nil pass0 (pa_cons (pv 2) (pa_cons (pv 1) pa_nil))))
      (pss_cons (ps_fld (pv 0) (pv 1) rfl) (pss_one (ps_fld (pv 0) (pe_call G3 hr (by rfl) D3.g D3.kp D3.b .nil pass0 (pa_cons (pv 2) pa_nil)) rfl))))), ?_⟩
    refine ⟨_, rfl, _, rfl, by omega, by omega, ?_⟩
    refine ⟨_, rfl, _, rfl, v, S, n, rfl, hv, hz.len, hz.n500, fun H1 s1 => ?_⟩
    have hx1 := s1 _ _ hx
    refine ⟨_, rfl, _, rfl, x, C, dx, _, rfl, hx1, T.cl, T.nW, (by show 0 < 1000; decide), ?_⟩
    have hx2 : (upd H1 x (.ins C dx (putF "_width" (.int (n : Nat)) []))) x = some (.ins C dx (putF "_width" (.int (n : Nat)) [])) := upd_same
    have t1 : TK H1 (upd H1 x (.ins C dx (putF "_width" (.int (n : Nat)) []))) := ⟨fun b ys e => by rw [upd_ne (ne_of e hx1 (by intro z; cases z))]; exact e, fun b ob u e => by rw [upd_ne (ne_of e hx1 (by intro z; cases z))]; exact e⟩
    obtain ⟨a, xs, rfl, hS, hR⟩ := hv.keep s1
    have hv2 : Sv K (upd H1 x (.ins C dx (putF "_width" (.int (n : Nat)) []))) (.ref a) S := by
      refine ⟨a, xs, rfl, ?_, hR.tk t1⟩
      rcases hS with hS | hS
      · exact .inl (t1.sqt hS)
      · refine .inr ?_
        rcases hS with (h | ⟨o, h⟩) | h
        · exact .inl (.inl (by rw [upd_ne (ne_of h hx1 (by intro z; cases z))]; exact h))
        · exact .inl (.inr ⟨o, by rw [upd_ne (ne_of h hx1 (by intro z; cases z))]; exact h⟩)
        · exact .inr h
    refine ⟨_, rfl, .ref a, S, n, α, β, rfl, hv2, hz, fun v' H2 s2 hb => ?_⟩
    have hx3 := s2 _ _ hx2
    refine ⟨_, rfl, x, C, dx, _, rfl, hx3, T.cl, T.nB, (by show 1 < 1000; decide), ?_⟩
    refine q _ v' (fun b o hb2 e => by rw [upd_ne hb2]; exact s2 _ _ (by rw [upd_ne hb2]; exact s1 _ _ e)) upd_same (hb.tk ⟨fun b ys e => by rw [upd_ne (ne_of e hx3 (by intro z; cases z))]; exact e, fun b ob u e => by rw [upd_ne (ne_of e hx3 (by intro z; cases z))]; exact e⟩)
/-! __len__ -/
abbrev s_len : Stmt := inClass (top 27) 6
theorem sc_len : FnScope ["self"] ["self"] (defScope s_len) := ⟨rfl, rfl, rfl, by decide +kernel, rfl, by decide +kernel, by decide +kernel⟩
def sp_len (K : PySem.W.Frag) (C : Addr) : Sp := fun vs H Q _ => ∃ x n B, vs = [x] ∧ Spc K C H x n B ∧ Q (.int (B.length : Int)) H
theorem ok_len {f : Addr} {fd : FuncData} {k : Nat} {C : Addr} (F : Fun K "__len__" "Space.__len__" s_len f fd) (T : SpTxt K C) (m1 : mg "len" = none) : FnOk P w K mg base CX0 (k + 1) f fd ["self"] (sp_len K C) := by
  refine F.ok sc_len (fun vs H Q E h => ?_) (fun cdv A outer s H vs Q E hr h => ?_)
  · obtain ⟨x, n, B, rfl, _⟩ := h
    rfl
  · obtain ⟨x, n, B, rfl, ⟨a, dx, v, rfl, h1, b, xs, rfl, hS, hR⟩, q⟩ := h
    refine ⟨_, pss_one (ps_ret (pe_callB call_len_seq (by rfl) m1 PySem.boot_len (pa_cons (pe_fld (pv 0) rfl) pa_nil))), ?_⟩
    refine ⟨_, rfl, a, C, dx, _, _, rfl, h1, T.cl, T.nB, sf_b _ _, b, _, rfl, .inr hS, ?_⟩
    rw [hR.1]
    exact q
end
end Sp1

set_option Elab.async false
set_option linter.all false
set_option maxRecDepth 100000
set_option maxHeartbeats 4000000
namespace Sp1
open PySem PySem.Spec PyProof.Rows L2
/-- all but p stands as it stood -/
def SX (p : Addr) (H H' : Hp) : Prop := ∀ b o, b ≠ p → H b = some o → H' b = some o
theorem SX.refl (p : Addr) (H : Hp) : SX p H H := fun _ _ _ h => h
theorem SX.trans {p : Addr} {H H1 H2 : Hp} (a : SX p H H1) (b : SX p H1 H2) : SX p H H2 := fun c o hc h => b c o hc (a c o hc h)
theorem Same.sx {p : Addr} {H H' : Hp} (s : Same H H') : SX p H H' := fun b o _ h => s b o h
theorem SX.new {p q : Addr} {H H' : Hp} {o : HO} (a : SX p H H') (n : H q = none) : SX p H (upd H' q o) := fun b u hb e => by
  rw [upd_ne (ne_of_none e n)]
  exact a b u hb e
def PoolAt (H : Hp) (p : Addr) : Prop := ∃ a b : Int, H p = some (.lst [.int a, .int b]) ∧ 0 ≤ a ∧ 0 ≤ b ∧ b < 2147483647
theorem SX.tk {p : Addr} {H H' : Hp} (s : SX p H H') (h : ∃ xs, H p = some (.lst xs)) : TK H H' := by
  obtain ⟨xs, h⟩ := h
  exact ⟨fun b ys e => s b _ (ne_of e h (by intro z; cases z)) e, fun b o u e => s b _ (ne_of e h (by intro z; cases z)) e⟩
theorem PoolAt.lst {H : Hp} {p : Addr} (h : PoolAt H p) : ∃ xs, H p = some (.lst xs) := by
  obtain ⟨a, b, h, _⟩ := h
  exact ⟨_, h⟩
section
variable {P : Program} {w : World} {K : PySem.W.Frag} {mg : Str → Option Value} {base : Heap}
/-! _law_pool -/
abbrev s_pool : Stmt := top 29
abbrev N_pool : List Str := ["_law_script", "_law_k", "_law_cell", "_law_size", "_law_seed"]
theorem sc_pool : FnScope N_pool ["_law_script", "_law_k"] (defScope s_pool) := ⟨rfl, rfl, rfl, by decide +kernel, rfl, by decide +kernel, by decide +kernel⟩
def sp_pool (K : PySem.W.Frag) : Sp := fun vs H Q _ => ∃ (a : Addr) (ns : List Int) (k : Nat), vs = [.ref a, .int (k : Nat)] ∧ SqL K H a (ns.map V.int) ∧ k ≤ 1000 ∧ ∀ p H', Same H H' → H p = none → PoolAt H' p → Q (.ref p) H'
theorem ok_pool {f : Addr} {fd : FuncData} {k : Nat} (D : Dn K mg "_law_pool" s_pool ["_law_script", "_law_k"] f fd) (m1 : mg "len" = none) (m2 : mg "abs" = none) (m3 : mg "int" = none) :
    FnOk P w K mg base CX0 (k + 1) f fd ["_law_script", "_law_k"] (sp_pool K) := by
  refine D.F.ok sc_pool (fun vs H Q E h => ?_) (fun cdv A outer s H vs Q E hr h => ?_)
  · obtain ⟨a, ns, k, rfl, _⟩ := h
    rfl
  · obtain ⟨a, ns, k, rfl, hS, hk, q⟩ := h
    have nd := sc_pool.nd
    refine ⟨_, pss_cons (ps_set (i := 2) nd rfl (.inl rfl) pe_int)
      (pss_cons (ps_if (pt_cmpR op_lt (pv 1) (pe_callB call_len_seq (by rfl) m1 PySem.boot_len (pa_cons (pv 0) pa_nil)) (nomark _)) (pss_one (ps_set (i := 2) nd rfl (.inl rfl) (pe_ix ix_list (pv 0) (pv 1) (fun _ _ => rfl)))) pss_nil)
      (pss_cons (ps_set (i := 3) nd rfl (.inl rfl) (pe_callB call_abs (by rfl) m2 (by decide +kernel) (pa_cons (pv 2) pa_nil)))
      (pss_cons (ps_set (i := 4) nd rfl (.inl rfl) (pe_op op_mod (pe_op op_mul (pe_op op_add (pe_op op_add (pe_op op_mod (pv 3) pe_int) (pe_op op_mul pe_int (pv 1))) pe_int) pe_int) pe_int))
      (pss_one (ps_ret (pe_lst (pa_cons (pe_op op_mul (pv 3) (pe_callTy call_int1 (by rfl) m3 (by decide +kernel) (pa_cons (pe_cmpR op_ge (pv 3) (pe_op op_pow pe_int pe_int) (nomark _)) pa_nil))) (pa_cons (pv 4) pa_nil)))))))), ?_⟩
    have tail : ∀ (z : Int) (H1 : Hp), 0 ≤ z → Same H H1 → ∀ p, H1 p = none → Q (.ref p) (upd H1 p (.lst [.int (z * (if decide ((10 : Int) ^ (18 : Int).toNat ≤ z) = true then 1 else 0)), .int ((z % 2147483629 + 7919 * (k : Nat) + 31) * 48271 % 2147483647)])) := by
      intro z H1 h0 s1 p np
      refine q p _ (s1.trans (same_new np)) (s1.free np) ⟨_, _, upd_same, ?_, Int.emod_nonneg _ (by decide), Int.emod_lt_of_pos _ (by decide)⟩
      split
      · omega
      · omega
    refine ⟨_, rfl, _, rfl, a, _, rfl, .inl hS, _, _, rfl, rfl, _, rfl, ite2 (fun e => ?_) fun e => ?_⟩
    · have hlt : k < ns.length := by
        have := of_decide_eq_true e
        rw [List.length_map] at this
        omega
      refine ⟨_, rfl, _, rfl, a, _, _, _, rfl, rfl, hS, atI_nat (j := k) (by rw [List.getElem?_map, List.getElem?_eq_getElem hlt]; rfl), ?_⟩
      generalize ns[k] = c
      refine ⟨_, rfl, c, rfl, ?_⟩
      have h0 : (0 : Int) ≤ if c < 0 then -c else c := by split <;> omega
      generalize (if c < 0 then -c else c : Int) = z at h0
      have b0 := Int.emod_nonneg z (show (2147483629 : Int) ≠ 0 by decide)
      have b1 := Int.emod_lt_of_pos z (show (0 : Int) < 2147483629 by decide)
      refine ⟨_, rfl, _, _, rfl, rfl, (by decide : (0 : Int) < 2147483629), _, rfl, _, _, rfl, rfl, .inl ⟨by decide, by decide⟩, _, _, rfl, rfl, _, _, rfl, rfl, _, _, rfl, rfl, .inl ⟨by omega, by omega⟩, _, _, rfl, rfl, (by decide : (0 : Int) < 2147483647), ?_⟩
      refine ⟨_, rfl, _, rfl, _, _, rfl, rfl, ⟨by decide, by decide, by decide⟩, _, _, rfl, rfl, .inr ⟨_, rfl, ?_⟩⟩
      refine ⟨_, _, rfl, rfl, .inr ?_, _, rfl, by show 2 ≤ sizeLine; decide, tail z H h0 (Same.refl _)⟩
      split <;> exact ⟨by decide, by decide⟩
    · refine ⟨_, rfl, 0, rfl, ?_⟩
      have h0 : (0 : Int) ≤ if (0 : Int) < 0 then -0 else 0 := by decide
      generalize (if (0 : Int) < 0 then -0 else 0 : Int) = z at h0
      have b0 := Int.emod_nonneg z (show (2147483629 : Int) ≠ 0 by decide)
      have b1 := Int.emod_lt_of_pos z (show (0 : Int) < 2147483629 by decide)
      refine ⟨_, rfl, _, _, rfl, rfl, (by decide : (0 : Int) < 2147483629), _, rfl, _, _, rfl, rfl, .inl ⟨by decide, by decide⟩, _, _, rfl, rfl, _, _, rfl, rfl, _, _, rfl, rfl, .inl ⟨by omega, by omega⟩, _, _, rfl, rfl, (by decide : (0 : Int) < 2147483647), ?_⟩
      refine ⟨_, rfl, _, rfl, _, _, rfl, rfl, ⟨by decide, by decide, by decide⟩, _, _, rfl, rfl, .inr ⟨_, rfl, ?_⟩⟩
      refine ⟨_, _, rfl, rfl, .inr ?_, _, rfl, by show 2 ≤ sizeLine; decide, tail z H h0 (Same.refl _)⟩
      split <;> exact ⟨by decide, by decide⟩
/-! _law_draw -/
abbrev s_draw : Stmt := top 30
abbrev N_draw : List Str := ["_law_pool_here", "_law_count", "_law_found"]
theorem sc_draw : FnScope N_draw ["_law_pool_here", "_law_count"] (defScope s_draw) := ⟨rfl, rfl, rfl, by decide +kernel, rfl, by decide +kernel, by decide +kernel⟩
def sp_draw : Sp := fun vs H Q _ => ∃ (p : Addr) (c : Int), vs = [.ref p, .int c] ∧ PoolAt H p ∧ 0 < c ∧ c < 2 ^ 100 ∧ ∀ r H', 0 ≤ r → r < c → SX p H H' → PoolAt H' p → Q (.int r) H'
theorem ok_draw {f : Addr} {fd : FuncData} {k : Nat} (D : Dn K mg "_law_draw" s_draw ["_law_pool_here", "_law_count"] f fd) : FnOk P w K mg base CX0 (k + 1) f fd ["_law_pool_here", "_law_count"] sp_draw := by
  refine D.F.ok sc_draw (fun vs H Q E h => ?_) (fun cdv A outer s H vs Q E hr h => ?_)
  · obtain ⟨p, c, rfl, _⟩ := h
    rfl
  · obtain ⟨p, c, rfl, ⟨a, b, hp, ha, hb0, hb1⟩, hc, hc2, q⟩ := h
    have nd := sc_draw.nd
    have cdiv : ∀ i, CDivW i c := fun i => wide_div (b := 100) hc (by omega) (by decide) (by decide)
    have ix0 : ∀ {x y : V}, atI [x, y] 0 = some x := fun {x y} => atI_nat (j := 0) rfl
    have ix1 : ∀ {x y : V}, atI [x, y] 1 = some y := fun {x y} => atI_nat (j := 1) rfl
    refine ⟨_, pss_cons (ps_if (pt_cmpR op_gt (pe_ix ix_list (pv 0) pe_int (fun _ _ => rfl)) pe_int (nomark _))
        (pss_cons (ps_set (i := 2) nd rfl (.inl rfl) (pe_op op_mod (pe_ix ix_list (pv 0) pe_int (fun _ _ => rfl)) (pv 1)))
          (pss_cons (ps_asg (pe_op op_fdivW (pe_ix ix_list (pv 0) pe_int (fun _ _ => rfl)) (pv 1)) (pg_sub (pv 0) pe_int set_list)) (pss_one (ps_ret (pv 2))))) pss_nil)
      (pss_cons (ps_asg (pe_op op_mod (pe_op op_add (pe_op op_mul (pe_ix ix_list (pv 0) pe_int (fun _ _ => rfl)) pe_int) pe_int) pe_int) (pg_sub (pv 0) pe_int set_list))
      (pss_one (ps_ret (pe_op op_mod (pe_op op_fdiv (pe_op op_mod (pe_op op_mul (pe_ix ix_list (pv 0) pe_int (fun _ _ => rfl)) (pe_ix ix_list (pv 0) pe_int (fun _ _ => rfl))) pe_int) pe_int) (pv 1))))), ?_⟩
    refine ⟨_, rfl, p, _, _, _, rfl, rfl, SqL.of hp, ix0, _, _, rfl, rfl, _, rfl, ite2 (fun e => ?_) fun e => ?_⟩
    · have e0 : 0 < a := of_decide_eq_true e
      refine ⟨_, rfl, p, _, _, _, rfl, rfl, SqL.of hp, ix0, _, rfl, _, _, rfl, rfl, hc, ?_⟩
      refine ⟨_, rfl, p, _, _, _, rfl, rfl, SqL.of hp, ix0, _, rfl, _, _, rfl, rfl, cdiv _, ?_⟩
      refine ⟨_, rfl, p, _, _, 0, rfl, rfl, hp, rfl, ?_⟩
      refine ⟨_, rfl, q _ _ (Int.emod_nonneg _ (by omega)) (Int.emod_lt_of_pos _ hc) (fun b' o hb' eo => by rw [upd_ne hb']; exact eo) ⟨a / c, b, upd_same, Int.ediv_nonneg ha (by omega), hb0, hb1⟩⟩
    · refine ⟨_, rfl, p, _, _, _, rfl, rfl, SqL.of hp, ix1, _, _, rfl, rfl, .inl ⟨by omega, by omega⟩, _, _, rfl, rfl, _, _, rfl, rfl, (by decide : (0 : Int) < 2147483647), ?_⟩
      refine ⟨_, rfl, p, _, _, 1, rfl, rfl, hp, rfl, ?_⟩
      have h1 : (upd H p (.lst [.int a, .int ((b * 48271 + 11) % 2147483647)])) p = some (.lst [.int a, .int ((b * 48271 + 11) % 2147483647)]) := upd_same
      have c0 := Int.emod_nonneg (b * 48271 + 11) (show (2147483647 : Int) ≠ 0 by decide)
      have c1 := Int.emod_lt_of_pos (b * 48271 + 11) (show (0 : Int) < 2147483647 by decide)
      refine ⟨_, rfl, p, _, _, _, rfl, rfl, SqL.of h1, ix1, _, rfl, p, _, _, _, rfl, rfl, SqL.of h1, ix1, _, _, rfl, rfl, .inl ⟨by omega, by omega⟩, _, _, rfl, rfl, (by decide : (0 : Int) < 2147483629), _, _, rfl, rfl, ⟨by decide, by decide⟩, _, rfl, _, _, rfl, rfl, hc, ?_⟩
      exact q _ _ (Int.emod_nonneg _ (by omega)) (Int.emod_lt_of_pos _ hc) (fun b' o hb' eo => by rw [upd_ne hb']; exact eo) ⟨a, _, h1, ha, c0, c1⟩
end
end Sp1

set_option Elab.async false
set_option linter.all false
set_option maxRecDepth 100000
set_option maxHeartbeats 4000000
namespace Sp1
open PySem PySem.Spec PyProof.Rows L2
/-! vectors as data -/
def dv (u : LA.Vec) : PyData := .tuple (u.map PyData.int)
theorem lay_ints : ∀ u : LA.Vec, PyData.canLayAll0 (u.map PyData.int) = true ∧ PyData.depthAll (u.map PyData.int) = 0
  | [] => ⟨rfl, rfl⟩
  | x :: r => by
    obtain ⟨h1, h2⟩ := lay_ints r
    constructor
    · show (PyData.canLay0 (.int x) && PyData.canLayAll0 (r.map PyData.int)) = true
      rw [h1]
      rfl
    · show max (PyData.depth (.int x)) (PyData.depthAll (r.map PyData.int)) = 0
      rw [h2]
      rfl
theorem lay_dv (u : LA.Vec) : PyData.canLay0 (dv u) = true ∧ PyData.depth (dv u) = 1 := by
  obtain ⟨h1, h2⟩ := lay_ints u
  exact ⟨h1, by show PyData.depthAll _ + 1 = 1; rw [h2]⟩
theorem lay_rows : ∀ B : List LA.Vec, PyData.canLayAll0 (B.map dv) = true ∧ PyData.depthAll (B.map dv) ≤ 1
  | [] => ⟨rfl, Nat.zero_le _⟩
  | x :: r => by
    obtain ⟨h1, h2⟩ := lay_rows r
    obtain ⟨h3, h4⟩ := lay_dv x
    constructor
    · show (PyData.canLay0 (dv x) && PyData.canLayAll0 (r.map dv)) = true
      rw [h1, h3]
      rfl
    · show max (PyData.depth (dv x)) (PyData.depthAll (r.map dv)) ≤ 1
      omega
theorem shaped_l (B : List LA.Vec) : SeqAt.shaped (.list (B.map dv)) = true := by
  obtain ⟨h1, h2⟩ := lay_rows B
  exact Bool.and_eq_true_iff.mpr ⟨h1, decide_eq_true (by show PyData.depthAll _ + 1 ≤ 64; omega)⟩
theorem shaped_t (B : List LA.Vec) : SeqAt.shaped (.tuple (B.map dv)) = true := by
  obtain ⟨h1, h2⟩ := lay_rows B
  exact Bool.and_eq_true_iff.mpr ⟨h1, decide_eq_true (by show PyData.depthAll _ + 1 ≤ 64; omega)⟩
theorem dp_ints {K : PySem.W.Frag} {H : Hp} : ∀ u : LA.Vec, DpAll K H (u.map V.int) (u.map PyData.int)
  | [] => .nil
  | x :: r => .cons (.int x) (dp_ints r)
theorem dp_vc {K : PySem.W.Frag} {H : Hp} {v : V} {u : LA.Vec} (h : Vc K H v u) : Dp K H v (dv u) := by
  obtain ⟨a, rfl, h⟩ := h
  exact .tup h (dp_ints u)
theorem dp_rows {K : PySem.W.Frag} {H : Hp} : ∀ {xs : List V} {B : List LA.Vec}, Rws K H xs B → DpAll K H xs (B.map dv)
  | [], [], _ => .nil
  | [], _ :: _, h => by have := h.1; simp at this
  | _ :: _, [], h => by have := h.1; simp at this
  | x :: xs, u :: B, h => .cons (dp_vc (h.2 0 x u rfl rfl)) (dp_rows ⟨by have := h.1; simpa using this, fun i y v e1 e2 => h.2 (i + 1) y v e1 e2⟩)
theorem eqv_nil : ∀ ds : List PyData, PyData.eqv (.list ds) (.list []) = ds.isEmpty
  | [] => by simp [PyData.eqv, PyData.eqvAll]
  | x :: r => by simp [PyData.eqv, PyData.eqvAll]
section
variable {P : Program} {w : World} {K : PySem.W.Frag} {mg : Str → Option Value} {base : Heap}
/-! _law_vector -/
abbrev s_vector : Stmt := top 31
abbrev N_vector : List Str := ["_law_pool_here", "_law_width", "_law_size", "_law_sparse", "_law_found", "_law_at", "_law_entry"]
theorem sc_vector : FnScope N_vector ["_law_pool_here", "_law_width"] (defScope s_vector) := ⟨rfl, rfl, rfl, by decide +kernel, rfl, by decide +kernel, by decide +kernel⟩
def sp_vector (K : PySem.W.Frag) : Sp := fun vs H Q _ => ∃ (p : Addr) (n : Nat), vs = [.ref p, .int (n : Nat)] ∧ PoolAt H p ∧ n ≤ 64 ∧
  ∀ v u H', SX p H H' → PoolAt H' p → Vc K H' v u → u.length = n → (∀ x ∈ u, x.natAbs ≤ 10 ^ 20) → Q v H'
theorem ok_vector {f f1 : Addr} {fd fd1 : FuncData} {k : Nat} (D : Dn K mg "_law_vector" s_vector ["_law_pool_here", "_law_width"] f fd) (D1 : Dn K mg "_law_draw" s_draw ["_law_pool_here", "_law_count"] f1 fd1)
    (G1 : FnOk P w K mg base CX0 k f1 fd1 ["_law_pool_here", "_law_count"] sp_draw) (m1 : mg "range" = none) (m2 : mg "int" = none) (m3 : mg "tuple" = none) :
    FnOk P w K mg base CX0 (k + 1) f fd ["_law_pool_here", "_law_width"] (sp_vector K) := by
  refine D.F.ok sc_vector (fun vs H Q E h => ?_) (fun cdv A outer s H vs Q E hr h => ?_)
  · obtain ⟨p, n, rfl, _⟩ := h
    rfl
  · obtain ⟨p, n, rfl, hp, hn, q⟩ := h
    have nd := sc_vector.nd
    refine ⟨_, pss_cons (ps_set (i := 2) nd rfl (.inl rfl) (pe_ix ix_list (pe_lst (pa_cons pe_int (pa_cons pe_int (pa_cons pe_int (pa_cons (pe_op op_pow pe_int pe_int) pa_nil))))) (pe_call G1 hr (by rfl) D1.g D1.kp D1.b .nil pass0 (pa_cons (pv 0) (pa_cons pe_int pa_nil))) (fun _ _ => rfl)))
      (pss_cons (ps_set (i := 3) nd rfl (.inl rfl) (pe_call G1 hr (by rfl) D1.g D1.kp D1.b .nil pass0 (pa_cons (pv 0) (pa_cons pe_int pa_nil))))
      (pss_cons (ps_set (i := 4) nd rfl (.inl rfl) (pe_lst pa_nil))
      (pss_cons (ps_for PassesOwn.never rfl (pi_range1 (by rfl) m1 (pa_cons (pv 1) pa_nil)) (pg_name (i := 5) nd rfl (.inl rfl))
        (pss_cons (ps_set (i := 6) nd rfl (.inl rfl) (pe_op op_sub (pe_call G1 hr (by rfl) D1.g D1.kp D1.b .nil pass0 (pa_cons (pv 0) (pa_cons (pe_op op_add (pe_op op_mul pe_int (pv 2)) pe_int) pa_nil))) (pv 2)))
          (pss_one (ps_expr (pe_bm PySem.F.plainAttrs_list PySem.F.slot_list_append PySem.F.type_list_append mt_append (pv 4) (pa_cons (pe_op op_mul (pv 6) (pe_callTy call_int1 (by rfl) m2 (by decide +kernel) (pa_cons
            (pe_or (pe_cmpR op_eq (pv 3) pe_int (nomark _)) (pe_one (pe_cmpR op_eq (pe_call G1 hr (by rfl) D1.g D1.kp D1.b .nil pass0 (pa_cons (pv 0) (pa_cons pe_int pa_nil))) pe_int (nomark _)))) pa_nil))) pa_nil))))))
      (pss_one (ps_ret (pe_callTy call_tuple_of (by rfl) m3 (by decide +kernel) (pa_cons (pv 4) pa_nil))))))), ?_⟩
    refine ⟨_, _, rfl, rfl, ⟨by decide, by decide, by decide⟩, by show 4 ≤ sizeLine; decide, fun l nl => ?_⟩
    have npl : p ≠ l := by obtain ⟨xs, h⟩ := hp.lst; exact ne_of_none h nl
    have hp1 : PoolAt (upd H l (.lst [.int 2, .int 4, .int 9, .int (10 ^ (20 : Int).toNat)])) p := by
      obtain ⟨a, b, h, r⟩ := hp
      exact ⟨a, b, by rw [upd_ne npl]; exact h, r⟩
    refine ⟨_, rfl, p, 4, rfl, hp1, by decide, by decide, fun r H1 r0 r1 s1 hp2 => ?_⟩
    have hl1 := s1 l _ npl.symm upd_same
    obtain ⟨z, hz1, hz2, hz3⟩ : ∃ z : Int, atI [V.int 2, V.int 4, V.int 9, V.int (10 ^ (20 : Int).toNat)] r = some (.int z) ∧ 1 ≤ z ∧ z ≤ 10 ^ 20 := by
      have hr4 : r = 0 ∨ r = 1 ∨ r = 2 ∨ r = 3 := by omega
      rcases hr4 with rfl | rfl | rfl | rfl
      · exact ⟨2, atI_nat (j := 0) rfl, by decide, by decide⟩
      · exact ⟨4, atI_nat (j := 1) rfl, by decide, by decide⟩
      · exact ⟨9, atI_nat (j := 2) rfl, by decide, by decide⟩
      · exact ⟨_, atI_nat (j := 3) rfl, by decide, by decide⟩
    refine ⟨l, _, _, _, rfl, rfl, SqL.of hl1, hz1, ?_⟩
    have s01 : SX p H H1 := fun b o hb e => s1 b o hb (by rw [upd_ne (ne_of_none e nl)]; exact e)
    refine ⟨_, rfl, p, 3, rfl, hp2, by decide, by decide, fun sp H2 p0 p1 s2 hp3 => ?_⟩
    refine ⟨Nat.zero_le _, fun g ng => ?_⟩
    have npg : p ≠ g := by obtain ⟨xs, h⟩ := hp3.lst; exact ne_of_none h ng
    have s02 : SX p H H2 := s01.trans s2
    have g0 : H g = none := by
      cases e : H g with
      | none => rfl
      | some o =>
        rw [s02 g o npg.symm e] at ng
        cases ng
    refine ⟨_, rfl, (n : Nat), rfl, by omega, by omega, ?_⟩
    refine for_range (lo := 0) (n := (n : Int).toNat) (fun i σ H' => ∃ (u : LA.Vec) (y5 y6 : Option V), σ = [some (.ref p), some (.int (n : Nat)), some (.int z), some (.int sp), some (.ref g), y5, y6] ∧ PoolAt H' p ∧ H' g = some (.lst (u.map V.int)) ∧ u.length = i ∧ (∀ x ∈ u, x.natAbs ≤ 10 ^ 20) ∧ SX p H H')
      ⟨[], none, none, rfl, ?_, upd_same, rfl, (fun x hx => by cases hx), s02.new g0⟩ ?_ ?_
    · obtain ⟨a, b, h, rr⟩ := hp3
      exact ⟨a, b, by rw [upd_ne npg]; exact h, rr⟩
    · rintro i σ H' hi ⟨u, y5, y6, rfl, hq, hg, hul, hux, s3⟩
      refine ⟨_, rfl, _, rfl, 2, z, rfl, rfl, .inl ⟨by decide, by decide⟩, _, _, rfl, rfl, p, 2 * z + 1, rfl, hq, by omega, by omega, fun e0 H3 e1 e2 s4 hq2 => ?_⟩
      refine ⟨_, rfl, _, _, rfl, rfl, ?_⟩
      have hg2 := s4 g _ npg.symm hg
      have put : ∀ (b : Bool) (H4 : Hp), SX p H3 H4 → PoolAt H4 p → ∀ c : Int, c = (e0 - z) * (if b = true then 1 else 0) →
          ∃ (u' : LA.Vec) (y5' y6' : Option V), [some (V.ref p), some (.int (n : Nat)), some (.int z), some (.int sp), some (.ref g), some (.int (0 + (i : Nat))), some (.int (e0 - z))] = [some (.ref p), some (.int (n : Nat)), some (.int z), some (.int sp), some (.ref g), y5', y6'] ∧
            PoolAt (upd H4 g (.lst (u.map V.int ++ [.int c]))) p ∧ (upd H4 g (.lst (u.map V.int ++ [.int c]))) g = some (.lst (u'.map V.int)) ∧ u'.length = i + 1 ∧ (∀ x ∈ u', x.natAbs ≤ 10 ^ 20) ∧ SX p H (upd H4 g (.lst (u.map V.int ++ [.int c]))) := by
        intro b H4 s5 hq3 c hc
        refine ⟨u ++ [c], _, _, rfl, ?_, ?_, ?_, ?_, ?_⟩
        · obtain ⟨a, b, h, rr⟩ := hq3
          exact ⟨a, b, by rw [upd_ne npg]; exact h, rr⟩
        · rw [upd_same, List.map_append]
          rfl
        · rw [List.length_append, hul]
          rfl
        · intro x hx
          rcases List.mem_append.mp hx with hx | hx
          · exact hux x hx
          · rw [List.mem_singleton] at hx
            subst hx
            rw [hc]
            cases b
            · rw [if_neg Bool.false_ne_true]
              omega
            · rw [if_pos rfl]
              omega
        · exact ((s3.trans s4).trans s5).new g0
      refine ⟨_, rfl, .inl ⟨rfl, _, SqL.of hg2⟩, _, rfl, _, rfl, rfl, decide (V.int sp = V.int 0), rfl, ?_⟩
      refine ite2 (fun es => ?_) fun es => ?_
      · refine .inr ⟨_, rfl, ?_⟩
        refine ⟨_, _, rfl, rfl, .inr ⟨by decide, by decide⟩, g, _, _, rfl, rfl, hg2, by rw [List.length_map, hul]; exact small1000 (by omega), ?_⟩
        exact put true H3 (SX.refl _ _) hq2 _ rfl
      · refine ⟨_, rfl, p, 2, rfl, hq2, by decide, by decide, fun t H4 t0 t1 s5 hq3 => ?_⟩
        refine ⟨rfl, .inr ⟨_, rfl, ?_⟩⟩
        have hg3 := s5 g _ npg.symm hg2
        refine ⟨_, _, rfl, rfl, .inr (by split <;> exact ⟨by decide, by decide⟩), g, _, _, rfl, rfl, hg3, by rw [List.length_map, hul]; exact small1000 (by omega), ?_⟩
        exact put _ H4 s5 hq3 _ rfl
    · rintro σ H' ⟨u, y5, y6, rfl, hq, hg, hul, hux, s3⟩
      refine ⟨_, rfl, g, _, rfl, .inl ⟨SqL.of hg, fun t nt => ?_⟩⟩
      have npt : p ≠ t := by obtain ⟨xs, h⟩ := hq.lst; exact ne_of_none h nt
      refine q _ u _ (fun b o hb e => by rw [upd_ne (ne_of_none (s3 b o hb e) nt)]; exact s3 b o hb e) ?_ ⟨t, rfl, SqT.of upd_same⟩ (by rw [hul]; omega) hux
      obtain ⟨a, b, h, rr⟩ := hq
      exact ⟨a, b, by rw [upd_ne npt]; exact h, rr⟩
end
end Sp1

set_option Elab.async false
set_option linter.all false
set_option maxRecDepth 100000
set_option maxHeartbeats 4000000
namespace Sp1
open PySem PySem.Spec PyProof.Rows L2
theorem PoolAt.new {H : Hp} {p q : Addr} {o : HO} (h : PoolAt H p) (n : H q = none) : PoolAt (upd H q o) p := by
  obtain ⟨a, b, e, r⟩ := h
  exact ⟨a, b, by rw [upd_ne (ne_of_none e n)]; exact e, r⟩
theorem PoolAt.put {H : Hp} {p q : Addr} {o : HO} (h : PoolAt H p) (n : p ≠ q) : PoolAt (upd H q o) p := by
  obtain ⟨a, b, e, r⟩ := h
  exact ⟨a, b, by rw [upd_ne n]; exact e, r⟩
/-- all entries are at most m in size -/
def Ent (m : Nat) (S : List LA.Vec) : Prop := ∀ u ∈ S, ∀ x ∈ u, x.natAbs ≤ m
section
variable {P : Program} {w : World} {K : PySem.W.Frag} {mg : Str → Option Value} {base : Heap}
/-! _law_vectors -/
abbrev s_vectors : Stmt := top 32
abbrev N_vectors : List Str := ["_law_pool_here", "_law_width", "_law_most", "_law_found", "_law_turn", "_law_vector_here", "_law_one", "_law_other", "_law_at", "_law_entry"]
theorem sc_vectors : FnScope N_vectors ["_law_pool_here", "_law_width", "_law_most"] (defScope s_vectors) := ⟨rfl, rfl, rfl, by decide +kernel, rfl, by decide +kernel, by decide +kernel⟩
def sp_vectors (K : PySem.W.Frag) : Sp := fun vs H Q _ => ∃ (p : Addr) (n most : Nat), vs = [.ref p, .int (n : Nat), .int (most : Nat)] ∧ PoolAt H p ∧ n ≤ 64 ∧ most ≤ 8 ∧
  ∀ g xs S H', SX p H H' → PoolAt H' p → H g = none → H' g = some (.lst xs) → g ≠ p → Rws K H' xs S → S.length ≤ most → (∀ u ∈ S, u.length = n) → Ent (5 ^ most * 10 ^ 20) S → Q (.ref g) H'
theorem ok_vectors {f f1 f2 : Addr} {fd fd1 fd2 : FuncData} {k : Nat} (D : Dn K mg "_law_vectors" s_vectors ["_law_pool_here", "_law_width", "_law_most"] f fd) (D1 : Dn K mg "_law_draw" s_draw ["_law_pool_here", "_law_count"] f1 fd1)
    (G1 : FnOk P w K mg base CX0 k f1 fd1 ["_law_pool_here", "_law_count"] sp_draw) (D2 : Dn K mg "_law_vector" s_vector ["_law_pool_here", "_law_width"] f2 fd2) (G2 : FnOk P w K mg base CX0 k f2 fd2 ["_law_pool_here", "_law_width"] (sp_vector K))
    (m1 : mg "range" = none) (m2 : mg "len" = none) (m3 : mg "tuple" = none) (m4 : mg "enumerate" = none) : FnOk P w K mg base CX0 (k + 1) f fd ["_law_pool_here", "_law_width", "_law_most"] (sp_vectors K) := by
  refine D.F.ok sc_vectors (fun vs H Q E h => ?_) (fun cdv A outer s H vs Q E hr h => ?_)
  · obtain ⟨p, n, most, rfl, _⟩ := h
    rfl
  · obtain ⟨p, n, most, rfl, hp, hn, hm8, q⟩ := h
    have nd := sc_vectors.nd
    refine ⟨_, pss_cons (ps_set (i := 3) nd rfl (.inl rfl) (pe_lst pa_nil))
      (pss_cons (ps_for PassesOwn.never rfl (pi_range1 (by rfl) m1 (pa_cons (pe_call G1 hr (by rfl) D1.g D1.kp D1.b .nil pass0 (pa_cons (pv 0) (pa_cons (pe_op op_add (pv 2) pe_int) pa_nil))) pa_nil)) (pg_name (i := 4) nd rfl (.inl rfl))
        (pss_cons (ps_set (i := 5) nd rfl (.inl rfl) (pe_call G2 hr (by rfl) D2.g D2.kp D2.b .nil pass0 (pa_cons (pv 0) (pa_cons (pv 1) pa_nil))))
        (pss_cons (ps_if (PW.pt (pw_and (pt_cmpR (op_neD hr.units) (pv 3) (pe_lst pa_nil) (nomark _)) (pw_and1 (pt_cmpR op_eq (pe_call G1 hr (by rfl) D1.g D1.kp D1.b .nil pass0 (pa_cons (pv 0) (pa_cons pe_int pa_nil))) pe_int (nomark _)))))
            (pss_cons (ps_asg (pe_tup (pa_cons (pe_ix ix_list (pv 3) (pe_call G1 hr (by rfl) D1.g D1.kp D1.b .nil pass0 (pa_cons (pv 0) (pa_cons (pe_callB call_len_seq (by rfl) m2 PySem.boot_len (pa_cons (pv 3) pa_nil)) pa_nil))) (fun _ _ => rfl))
                (pa_cons (pe_ix ix_list (pv 3) (pe_call G1 hr (by rfl) D1.g D1.kp D1.b .nil pass0 (pa_cons (pv 0) (pa_cons (pe_callB call_len_seq (by rfl) m2 PySem.boot_len (pa_cons (pv 3) pa_nil)) pa_nil))) (fun _ _ => rfl)) pa_nil)))
                (pg_tup rfl (pgs_cons (pg_name (i := 6) nd rfl (.inl rfl)) (pgs_cons (pg_name (i := 7) nd rfl (.inr rfl)) pgs_nil))))
            (pss_one (ps_set (i := 5) nd rfl (.inl rfl) (pe_callTy call_tuple_of (by rfl) m3 (by decide +kernel) (pa_cons
              (pe_lc (own := [("_law_at", 8), ("_law_entry", 9)]) (g := gTup K 2 (gCons (gName 8) (gCons (gName 9) gNil))) (tt := tYes) rfl nd (pi_enumT (by rfl) m4 (pa_cons (pv 6) pa_nil)) (blkOk_by (N := N_vectors) (sc := defScope s_vectors) (by decide +kernel))
                (fun _ _ _ _ _ => pg_tup rfl (pgs_cons (pg_name (i := 8) nd rfl (Or.inl rfl)) (pgs_cons (pg_name (i := 9) nd rfl (Or.inl rfl)) pgs_nil))) (fun _ _ _ _ _ => pts_nil)
                (fun _ _ _ _ _ => pe_op op_sub (pe_op op_mul pe_int (pv 9)) (pe_op op_mul pe_int (pe_ix (r := rIxT K) ix_tup (pv 7) (pv 8) (fun _ _ => rfl))))) pa_nil))))) pss_nil)
        (pss_one (ps_expr (pe_bm PySem.F.plainAttrs_list PySem.F.slot_list_append PySem.F.type_list_append mt_append (pv 3) (pa_cons (pv 5) pa_nil)))))))
      (pss_one (ps_ret (pv 3)))), ?_⟩
    refine ⟨Nat.zero_le _, fun g ng => ?_⟩
    have npg : p ≠ g := by obtain ⟨xs, h⟩ := hp.lst; exact ne_of_none h ng
    have hp1 := hp.new (o := .lst []) ng
    refine ⟨_, rfl, _, rfl, _, _, rfl, rfl, p, (most : Int) + 1, rfl, hp1, by omega, by omega, fun m H1 r0 r1 s1 hp2 => ?_⟩
    have hg1 := s1 g _ npg.symm upd_same
    have s01 : SX p H H1 := fun b o hb e => s1 b o hb (by rw [upd_ne (ne_of_none e ng)]; exact e)
    refine ⟨m, rfl, by omega, by omega, ?_⟩
    refine for_range (lo := 0) (n := m.toNat) (fun i σ H' => ∃ (xs : List V) (S : List LA.Vec) (y4 y5 y6 y7 : Option V), σ = [some (.ref p), some (.int (n : Nat)), some (.int (most : Nat)), some (.ref g), y4, y5, y6, y7, none, none] ∧ PoolAt H' p ∧ H' g = some (.lst xs) ∧ Rws K H' xs S ∧ S.length = i ∧ (∀ u ∈ S, u.length = n) ∧ Ent (5 ^ i * 10 ^ 20) S ∧ SX p H H')
      ⟨[], [], none, none, none, none, rfl, hp2, hg1, Rws.nil, rfl, (fun u hu => by cases hu), (fun u hu => by cases hu), s01⟩ ?_ ?_
    · rintro i σ H' hi ⟨xs, S, y4, y5, y6, y7, rfl, hq, hg, hR, hSl, hSn, hE, s3⟩
      have hi8 : i < 8 + 1 := by omega
      refine ⟨_, rfl, _, rfl, p, n, rfl, hq, hn, fun v u H2 s4 hq2 hv hun hux => ?_⟩
      have tk4 : TK H' H2 := s4.tk hq.lst
      have hg2 := s4 g _ npg.symm hg
      -- the turn's end, whatever the vector
      have fin : ∀ (v' : V) (u' : LA.Vec) (H5 : Hp) (y4' y6' y7' : Option V), SX p H' H5 → PoolAt H5 p → H5 g = some (.lst xs) → Vc K H5 v' u' → u'.length = n → (∀ x ∈ u', x.natAbs ≤ 5 ^ (i + 1) * 10 ^ 20) →
          tSeq (tNext) tNext ⟨fun σ H'' => ∃ (xs : List V) (S : List LA.Vec) (y4 y5 y6 y7 : Option V), σ = [some (.ref p), some (.int (n : Nat)), some (.int (most : Nat)), some (.ref g), y4, y5, y6, y7, none, none] ∧ PoolAt H'' p ∧ H'' g = some (.lst xs) ∧ Rws K H'' xs S ∧ S.length = i + 1 ∧ (∀ u ∈ S, u.length = n) ∧ Ent (5 ^ (i + 1) * 10 ^ 20) S ∧ SX p H H'', fun _ _ => True, fun _ _ => True, fun _ _ => True⟩
            [some (.ref p), some (.int (n : Nat)), some (.int (most : Nat)), some (.ref g), y4', some v', y6', y7', none, none] (upd H5 g (.lst (xs ++ [v']))) := by
        intro v' u' H5 y4' y6' y7' s5 h5 hg5 hv5 hl5 hx5
        refine ⟨xs ++ [v'], S ++ [u'], y4', some v', y6', y7', rfl, h5.put npg, upd_same, ?_, by rw [List.length_append, hSl]; rfl, ?_, ?_, ?_⟩
        · have t5 : TK H' H5 := s5.tk hq.lst
          exact ((hR.tk t5).snoc hv5).tk (tk_lst hg5)
        · intro z hz
          rcases List.mem_append.mp hz with hz | hz
          · exact hSn z hz
          · rw [List.mem_singleton] at hz
            rw [hz]
            exact hl5
        · intro z hz x hx
          rcases List.mem_append.mp hz with hz | hz
          · refine Nat.le_trans (hE z hz x hx) (Nat.mul_le_mul_right _ (Nat.pow_le_pow_right (by decide) (by omega)))
          · rw [List.mem_singleton] at hz
            rw [hz] at hx
            exact hx5 x hx
        · exact (s3.trans s5).new (q := g) ng
      refine ⟨_, rfl, Nat.zero_le _, fun l nl => ?_⟩
      have hg3 : (upd H2 l (.lst [])) g = some (.lst xs) := by rw [upd_ne (ne_of_none hg2 nl)]; exact hg2
      have sl : Same H2 (upd H2 l (.lst [])) := same_new nl
      refine ⟨.list (S.map dv), .list [], .lst (SqL.of hg3) (dp_rows ((hR.tk tk4).tk (Same.tk sl))), .lst (SqL.of upd_same) .nil, shaped_l S, by decide, _, rfl, ?_⟩
      have hbase : ∀ x ∈ u, x.natAbs ≤ 5 ^ (i + 1) * 10 ^ 20 := fun x hx => Nat.le_trans (hux x hx) (Nat.le_mul_of_pos_left _ (Nat.pow_pos (by decide)))
      rw [eqv_nil]
      have done : ∀ H5, SX p (upd H2 l (.lst [])) H5 → PoolAt H5 p → H5 g = some (.lst xs) → Vc K H5 v u := fun H5 s5 h5 hg5 => (hv.tk (Same.tk sl)).tk (s5.tk (hq2.new nl).lst)
      have s42 : SX p H' (upd H2 l (.lst [])) := s4.trans (Same.sx sl)
      refine ite2 (fun e => ?_) fun e => ?_
      · have hS0 : 0 < S.length := by
          cases S with
          | nil => cases e
          | cons _ _ => exact Nat.succ_pos _
        refine ⟨_, rfl, p, 4, rfl, hq2.new nl, by decide, by decide, fun t H3 t0 t1 s5 hq3 => ⟨rfl, _, rfl, ite2 (fun et => ?_) fun et => ?_⟩⟩
        · have hg4 := s5 g _ npg.symm hg3
          have hxl : (xs.length : Int) = (S.length : Int) := by rw [hR.1]
          -- the two of found
          refine ⟨_, rfl, _, rfl, _, rfl, g, _, rfl, .inl (SqL.of hg4), p, (xs.length : Int), rfl, hq3, by omega, by omega, fun a1 H5 a10 a11 s6 hq4 => ?_⟩
          have hg5 := s6 g _ npg.symm hg4
          obtain ⟨i1, hi1, rfl⟩ : ∃ j : Nat, j < xs.length ∧ a1 = (j : Int) := ⟨a1.toNat, by omega, by omega⟩
          refine ⟨g, _, _, _, rfl, rfl, SqL.of hg5, atI_nat (List.getElem?_eq_getElem hi1), ?_⟩
          refine ⟨_, rfl, _, rfl, _, rfl, g, _, rfl, .inl (SqL.of hg5), p, (xs.length : Int), rfl, hq4, by omega, by omega, fun a2 H6 a20 a21 s7 hq5 => ?_⟩
          have hg6 := s7 g _ npg.symm hg5
          obtain ⟨i2, hi2, rfl⟩ : ∃ j : Nat, j < xs.length ∧ a2 = (j : Int) := ⟨a2.toNat, by omega, by omega⟩
          refine ⟨g, _, _, _, rfl, rfl, SqL.of hg6, atI_nat (List.getElem?_eq_getElem hi2), by show 2 ≤ sizeLine; decide, fun t2 nt2 => ?_⟩
          refine ⟨t2, _, rfl, SqT.of upd_same, rfl, _, _, rfl, _, _, rfl, rfl, ?_⟩
          have s46 : SX p H' H6 := ((s42.trans s5).trans s6).trans s7
          have tk6 : TK H' H6 := s46.tk hq.lst
          have st2 : Same H6 (upd H6 t2 (.tup [xs[i1], xs[i2]])) := same_new nt2
          have hR6 := (hR.tk tk6).tk (Same.tk st2)
          obtain ⟨j1, o1, e1, h1⟩ := hR6.at (List.getElem?_eq_getElem hi1)
          obtain ⟨j2, o2, e2, h2⟩ := hR6.at (List.getElem?_eq_getElem hi2)
          have l1 := hSn _ (List.getElem_mem j1)
          have l2 := hSn _ (List.getElem_mem j2)
          have b1 := hE _ (List.getElem_mem j1)
          have b2 := hE _ (List.getElem_mem j2)
          generalize S[i1] = c1 at h1 l1 b1
          generalize S[i2] = c2 at h2 l2 b2
          rw [e1, e2]
          rw [e1, e2] at st2
          refine ⟨_, rfl, o1, _, rfl, by rw [← e1, ← e2]; exact h1, fun D nD => ?_⟩
          rw [e1, e2] at h1 h2
          have hqt := hq5.new (o := .tup [V.ref o1, V.ref o2]) nt2
          have hgt := st2 g _ hg6
          refine lc_it (walk_enumT (K := K) (a := o1) (xs := c1.map V.int)) (Acc _ D fun j => V.int (2 * LA.e c1 j - 3 * LA.e c2 j)) (Acc.start nD) (fun j H' _ h => Same.sqt h.1 h1) ?_ ?_
          · rintro j x Ha Hb hj h ⟨T, x1, x2, rfl, nT, rfl, g1, g2⟩
            cases g1
            obtain ⟨hj', rfl⟩ := int_of g2
            refine ⟨T, _, rfl, SqT.of upd_same, rfl, _, _, rfl, _, _, rfl, rfl, rfl, ?_⟩
            dsimp only [tYes]
            refine iteT ?_
            refine ⟨_, rfl, 2, LA.e c1 j, rfl, rfl, .inl ⟨by decide, by decide⟩, _, rfl, _, rfl, o2, _, _, _, rfl, rfl, Same.sqt (h.1.trans (same_new nT)) h2, atI_nat (int_at (by omega)), 3, LA.e c2 j, rfl, rfl, .inl ⟨by decide, by decide⟩, _, _, rfl, rfl, ?_⟩
            exact h.turn nD (same_new nT) (by rw [List.length_map] at hj; omega) rfl
          · rintro Ha h
            rw [List.length_map] at h
            have hDp : D ≠ p := by obtain ⟨ys, h⟩ := hqt.lst; exact (ne_of_none h nD).symm
            refine ⟨D, _, rfl, .inl ⟨SqL.of h.2, fun z nz => ?_⟩⟩
            have sz : Same Ha (upd Ha z (.tup ((List.range c1.length).map fun j => V.int (2 * LA.e c1 j - 3 * LA.e c2 j)))) := same_new nz
            have sall : SX p H' (upd Ha z (.tup ((List.range c1.length).map fun j => V.int (2 * LA.e c1 j - 3 * LA.e c2 j)))) := (s46.trans (Same.sx st2)).trans ((Same.sx h.1).trans (Same.sx sz))
            have hcomb : ((List.range c1.length).map fun j => V.int (2 * LA.e c1 j - 3 * LA.e c2 j)) = (List.zipWith (fun x y => 2 * x - 3 * y) c1 c2).map V.int := by
              refine range_ints (by rw [List.length_zipWith]; omega) fun j _ => ?_
              rw [LA.e_zip (f := fun x y => 2 * x - 3 * y) (by omega) (by decide)]
            refine ⟨_, rfl, .inl ⟨rfl, _, SqL.of (sall g _ npg.symm hg)⟩, _, rfl, g, _, _, rfl, rfl, sall g _ npg.symm hg, by rw [hR.1, hSl]; exact small1000 (by omega), ?_⟩
            refine fin _ (List.zipWith (fun x y => 2 * x - 3 * y) c1 c2) _ _ _ _ sall ?_ (sall g _ npg.symm hg) ⟨z, rfl, ?_⟩ (by rw [List.length_zipWith]; omega) ?_
            · obtain ⟨a, b, e, r⟩ := hqt
              exact ⟨a, b, sz _ _ (h.1 _ _ e), r⟩
            · rw [← hcomb]
              exact SqT.of upd_same
            · intro x hx
              obtain ⟨j, hj, rfl⟩ := LA.mem_e hx
              rw [LA.e_zip (f := fun x y => 2 * x - 3 * y) (by omega) (by decide)]
              rw [List.length_zipWith] at hj
              have k1 := b1 _ (LA.e_mem (v := c1) (i := j) (by omega))
              have k2 := b2 _ (LA.e_mem (v := c2) (i := j) (by omega))
              have k3 : 5 ^ (i + 1) * 10 ^ 20 = 5 * (5 ^ i * 10 ^ 20) := by rw [Nat.pow_succ, Nat.mul_comm (5 ^ i) 5, Nat.mul_assoc]
              rw [k3]
              generalize 5 ^ i * 10 ^ 20 = M at k1 k2
              omega
        · have hg4 := s5 g _ npg.symm hg3
          refine ⟨_, rfl, .inl ⟨rfl, _, SqL.of hg4⟩, _, rfl, g, _, _, rfl, rfl, hg4, by rw [hR.1, hSl]; exact small1000 (by omega), ?_⟩
          exact fin v u H3 _ _ _ (s42.trans s5) hq3 hg4 (done H3 s5 hq3 hg4) hun hbase
      · refine ⟨_, rfl, .inl ⟨rfl, _, SqL.of hg3⟩, _, rfl, g, _, _, rfl, rfl, hg3, by rw [hR.1, hSl]; exact small1000 (by omega), ?_⟩
        exact fin v u _ _ _ _ s42 (hq2.new nl) hg3 (done _ (SX.refl _ _) (hq2.new nl) hg3) hun hbase
    · rintro σ H' ⟨xs, S, y4, y5, y6, y7, rfl, hq, hg, hR, hSl, hSn, hE, s3⟩
      refine ⟨_, rfl, q g xs S H' s3 hq ng hg npg.symm hR (by omega) hSn fun u hu x hx => ?_⟩
      exact Nat.le_trans (hE u hu x hx) (Nat.mul_le_mul_right _ (Nat.pow_le_pow_right (by decide) (by omega)))
end
end Sp1

set_option Elab.async false
set_option linter.all false
set_option maxRecDepth 100000
set_option maxHeartbeats 4000000
namespace LA
theorem perm_set {α : Type} : ∀ {L : List α} {d : Nat} (p : α) (h : d < L.length), (p :: L).Perm (L[d] :: L.set d p)
  | x :: L, 0, p, _ => List.Perm.swap _ _ _
  | x :: L, d + 1, p, h => (List.Perm.swap x p L).trans (((perm_set p (by rw [List.length_cons] at h; omega)).cons x).trans (List.Perm.swap _ _ _))
theorem swap_rows {rows E : List Vec} {P : List (Vec × Vec)} {k i : Nat} (h : rows = E ++ P.map (·.1)) (hk : E.length = k) (hi : k ≤ i) (hl : i < rows.length) :
    ∃ o T, P.Perm ((rows.getD i [], o) :: T) ∧ (rows.set k (rows.getD i [])).set i (rows.getD k []) = E ++ rows.getD i [] :: T.map (·.1) ∧ P.length = T.length + 1 := by
  obtain ⟨d, rfl⟩ : ∃ d, i = k + d := ⟨i - k, by omega⟩
  have hP : d < P.length := by rw [h, List.length_append, List.length_map] at hl; omega
  have g : ∀ j, j < P.length → rows.getD (k + j) [] = (P.map (·.1)).getD j [] := fun j hj => by
    rw [h, List.getD_eq_getElem?_getD, List.getElem?_append_right (by omega), hk, Nat.add_sub_cancel_left, ← List.getD_eq_getElem?_getD]
  have g0 := g 0 (by omega)
  have gd := g d hP
  rw [Nat.add_zero] at g0
  rw [g0, gd, h]
  have s1 : ∀ (L : List Vec) (x : Vec), (E ++ L).set k x = E ++ L.set 0 x := fun L x => by rw [List.set_append_right _ _ (by omega), hk, Nat.sub_self]
  have s2 : ∀ (L : List Vec) (x : Vec), (E ++ L).set (k + d) x = E ++ L.set d x := fun L x => by rw [List.set_append_right _ _ (by omega), hk, Nat.add_sub_cancel_left]
  rw [s1, s2]
  cases P with
  | nil => simp at hP
  | cons p0 P1 =>
    cases d with
    | zero => exact ⟨p0.2, P1, List.Perm.refl _, rfl, rfl⟩
    | succ d =>
      have hd : d < P1.length := by rw [List.length_cons] at hP; omega
      have e1 : (List.map (·.1) (p0 :: P1)).getD (d + 1) [] = P1[d].1 := by
        show (List.map (·.1) P1).getD d [] = _
        rw [List.getD_eq_getElem?_getD, List.getElem?_map, List.getElem?_eq_getElem hd]
        rfl
      rw [e1]
      refine ⟨P1[d].2, P1.set d p0, perm_set p0 hd, ?_, by rw [List.length_set]; rfl⟩
      show E ++ P1[d].1 :: (List.map (·.1) P1).set d p0.1 = _
      rw [List.map_set]
theorem mid_set {α : Type} {U : α → α} : ∀ {L : List α} {j : Nat} (h : j < L.length), ((L.take j).map U ++ L.drop j).set j (U L[j]) = (L.take (j + 1)).map U ++ L.drop (j + 1)
  | x :: L, 0, h => rfl
  | x :: L, j + 1, h => congrArg (U x :: ·) (mid_set (L := L) (j := j) (by rw [List.length_cons] at h; omega))
/-- the places from k on where the column is not 0 -/
def ab (rows : List Vec) (c k j : Nat) : List Int := ((List.range j).filter fun i => decide (e (rows.getD (k + i) []) c ≠ 0)).map fun i => ((k + i : Nat) : Int)
theorem ab_yes {rows : List Vec} {c k j : Nat} (h : e (rows.getD (k + j) []) c ≠ 0) : ab rows c k (j + 1) = ab rows c k j ++ [((k + j : Nat) : Int)] := by
  unfold ab
  rw [List.range_succ, List.filter_append, List.map_append, List.filter_cons_of_pos (by exact decide_eq_true h)]
  rfl
theorem ab_no {rows : List Vec} {c k j : Nat} (h : e (rows.getD (k + j) []) c = 0) : ab rows c k (j + 1) = ab rows c k j := by
  unfold ab
  rw [List.range_succ, List.filter_append, List.map_append, List.filter_cons_of_neg (by rw [decide_eq_true_eq]; exact fun z => z h)]
  simp
theorem ab_len (rows : List Vec) (c k j : Nat) : (ab rows c k j).length ≤ j := by
  unfold ab
  rw [List.length_map]
  exact Nat.le_trans (List.length_filter_le _ _) (by rw [List.length_range]; exact Nat.le_refl _)
theorem ab_mem {rows : List Vec} {c k j : Nat} {x : Int} (h : x ∈ ab rows c k j) : ∃ i, i < j ∧ x = ((k + i : Nat) : Int) ∧ e (rows.getD (k + i) []) c ≠ 0 := by
  unfold ab at h
  obtain ⟨i, hi, rfl⟩ := List.mem_map.mp h
  obtain ⟨h1, h2⟩ := List.mem_filter.mp hi
  exact ⟨i, List.mem_range.mp h1, rfl, of_decide_eq_true h2⟩
theorem ab_nil {rows : List Vec} {c k j : Nat} (h : ab rows c k j = []) : ∀ i, i < j → e (rows.getD (k + i) []) c = 0 := by
  intro i hi
  rcases Decidable.em (e (rows.getD (k + i) []) c = 0) with h2 | h2
  · exact h2
  · exfalso
    unfold ab at h
    rw [List.map_eq_nil_iff, List.filter_eq_nil_iff] at h
    exact h i (List.mem_range.mpr hi) (decide_eq_true h2)
end LA
namespace Sp1
open PySem PySem.Spec PyProof.Rows L2
/-- // by any number but 0 -/
theorem op_fdivX {X : Cx} : OpR X (binaryOp .FloorDiv) (rI (fun _ j => j ≠ 0 ∧ j.natAbs.log2 < 9000) fun i j => .int (i.fdiv j)) := opI fun i j _ _ _ _ _ hc q => floordiv_int hc.1 q (.inl (PyProof.noPylong_of_log2 hc.2))
/-- a row: a list of ints of its own -/
def Lr (r : Addr) (H : Hp) (v : V) (u : LA.Vec) : Prop := ∃ a, v = .ref a ∧ a ≠ r ∧ H a = some (.lst (u.map V.int))
def Lws (r : Addr) (H : Hp) (xs : List V) (B : List LA.Vec) : Prop := xs.length = B.length ∧ ∀ (i : Nat) (x : V) (u : LA.Vec), xs[i]? = some x → B[i]? = some u → Lr r H x u
theorem Lr.keep {r : Addr} {H H' : Hp} {v : V} {u : LA.Vec} (h : Lr r H v u) (s : SX r H H') : Lr r H' v u := by
  obtain ⟨a, e, n, h⟩ := h
  exact ⟨a, e, n, s a _ n h⟩
theorem Lws.keep {r : Addr} {H H' : Hp} {xs : List V} {B : List LA.Vec} (h : Lws r H xs B) (s : SX r H H') : Lws r H' xs B := ⟨h.1, fun i x u e1 e2 => (h.2 i x u e1 e2).keep s⟩
theorem Lws.nil {r : Addr} {H : Hp} : Lws r H [] [] := ⟨rfl, fun i x u h => by simp at h⟩
theorem Lws.snoc {r : Addr} {H : Hp} {xs : List V} {B : List LA.Vec} {x : V} {u : LA.Vec} (h : Lws r H xs B) (hx : Lr r H x u) : Lws r H (xs ++ [x]) (B ++ [u]) := by
  refine ⟨by rw [List.length_append, List.length_append, h.1]; rfl, fun i y v e1 e2 => ?_⟩
  rcases Nat.lt_trichotomy i xs.length with hi | hi | hi
  · rw [List.getElem?_append_left hi] at e1
    rw [List.getElem?_append_left (by rw [← h.1]; exact hi)] at e2
    exact h.2 i y v e1 e2
  · rw [List.getElem?_append_right (by omega), hi, Nat.sub_self] at e1
    rw [List.getElem?_append_right (by rw [← h.1]; omega), ← h.1, hi, Nat.sub_self] at e2
    cases e1
    cases e2
    exact hx
  · have := (List.getElem?_eq_some_iff.mp e1).1
    rw [List.length_append] at this
    have : i < xs.length + 1 := this
    omega
theorem Lws.set {r : Addr} {H : Hp} {xs : List V} {B : List LA.Vec} {x : V} {u : LA.Vec} {i : Nat} (h : Lws r H xs B) (hx : Lr r H x u) : Lws r H (xs.set i x) (B.set i u) := by
  refine ⟨by rw [List.length_set, List.length_set, h.1], fun j y v e1 e2 => ?_⟩
  by_cases hj : i = j
  · subst hj
    rw [List.getElem?_set_self'] at e1 e2
    cases hx1 : xs[i]? with
    | none => rw [hx1] at e1; cases e1
    | some z =>
      cases hx2 : B[i]? with
      | none => rw [hx2] at e2; cases e2
      | some z2 =>
        rw [hx1] at e1
        rw [hx2] at e2
        cases e1
        cases e2
        exact hx
  · rw [List.getElem?_set_ne hj] at e1 e2
    exact h.2 j y v e1 e2
theorem Lws.at {r : Addr} {H : Hp} {xs : List V} {B : List LA.Vec} (h : Lws r H xs B) {i : Nat} (hi : i < B.length) : ∃ a, xs[i]? = some (.ref a) ∧ a ≠ r ∧ H a = some (.lst ((B.getD i []).map V.int)) := by
  have h1 : i < xs.length := by rw [h.1]; exact hi
  obtain ⟨a, e, n, q⟩ := h.2 i xs[i] B[i] (List.getElem?_eq_getElem h1) (List.getElem?_eq_getElem hi)
  refine ⟨a, by rw [List.getElem?_eq_getElem h1, e], n, ?_⟩
  rw [List.getD_eq_getElem?_getD, List.getElem?_eq_getElem hi]
  exact q
theorem shaped_i (u : LA.Vec) : SeqAt.shaped (.list (u.map PyData.int)) = true := by
  obtain ⟨h1, h2⟩ := lay_ints u
  exact Bool.and_eq_true_iff.mpr ⟨h1, decide_eq_true (by show PyData.depthAll _ + 1 ≤ 64; omega)⟩
end Sp1
namespace LA
theorem mid_at {α : Type} {U : α → α} : ∀ {L : List α} {j : Nat} (h : j < L.length), ((L.take j).map U ++ L.drop j)[j]? = some L[j]
  | x :: L, 0, h => rfl
  | x :: L, j + 1, h => mid_at (U := U) (L := L) (j := j) (by rw [List.length_cons] at h; omega)
theorem upd_e {before : Int} {first u : Vec} {c n : Nat} (h1 : first.length = n) (h2 : u.length = n) (j : Nat) : e (upd before first c u) j = (e first c * e u j - e u c * e first j).fdiv before := by
  unfold upd
  rw [e_map (f := fun z => z.fdiv before) (Int.zero_fdiv _), e_zip (f := fun x y => e first c * x - e u c * y) (by rw [h1, h2]) (by simp)]
theorem at_behind {E M : List Vec} {x : Vec} {k j : Nat} (h : E.length = k) : (E ++ x :: M).getD (k + 1 + j) [] = M.getD j [] := by
  rw [List.getD_eq_getElem?_getD, List.getElem?_append_right (by omega), h, show k + 1 + j - k = j + 1 by omega, List.getElem?_cons_succ, ← List.getD_eq_getElem?_getD]
theorem at_here {E M : List Vec} {x : Vec} {k : Nat} (h : E.length = k) : (E ++ x :: M).getD k [] = x := by
  rw [List.getD_eq_getElem?_getD, List.getElem?_append_right (by omega), h, Nat.sub_self]
  rfl
theorem set_behind {E M : List Vec} {x y : Vec} {k j : Nat} (h : E.length = k) : (E ++ x :: M).set (k + 1 + j) y = E ++ x :: M.set j y := by
  rw [List.set_append_right _ _ (by omega), h, show k + 1 + j - k = j + 1 by omega]
  rfl
theorem two_lt {x : Int} {a : Nat} (h : x.natAbs ≤ 2 ^ a) : x.natAbs < 2 ^ (a + 1) := Nat.lt_of_le_of_lt h (Nat.pow_lt_pow_right (by decide) (Nat.lt_succ_self a))
end LA
namespace Sp1
open PySem PySem.Spec PyProof.Rows L2
theorem sx_put {r : Addr} {H : Hp} {o : HO} : SX r H (upd H r o) := fun b u hb e => by rw [upd_ne hb]; exact e
theorem ixn {n j : Nat} (h : j < n) : ixN n (j : Int) = some j := by
  unfold ixN
  rw [if_pos (Int.natCast_nonneg j), if_pos (by omega)]
  rfl
theorem Same.put {H0 H H' : Hp} {r : Addr} (h0 : H0 r = none) (a : Same H0 H) (s : SX r H H') : Same H0 H' := fun b x e => s b x (ne_of_none e h0) (a b x e)
end Sp1
namespace LA
theorem Gh.row_len {n c k j : Nat} {S rows E : List Vec} {before : Int} {P : List (Vec × Vec)} {R : List Vec} {C : List Nat} (g : Gh n S c rows k before E P R C) (h : k + j < rows.length) : (rows.getD (k + j) []).length = n := by
  have hj : j < P.length := by rw [g.rw, List.length_append, List.length_map, g.ek] at h; omega
  have : rows.getD (k + j) [] = P[j].1 := by
    rw [g.rw, List.getD_eq_getElem?_getD, List.getElem?_append_right (by rw [g.ek]; omega), g.ek, Nat.add_sub_cancel_left, List.getElem?_map, List.getElem?_eq_getElem hj]
    rfl
  rw [this]
  exact g.ln _ (List.getElem_mem hj)
end LA

set_option Elab.async false
set_option linter.all false
set_option maxRecDepth 100000
set_option maxHeartbeats 4000000
namespace Sp1
open PySem PySem.Spec PyProof.Rows L2
abbrev rListOf (K : PySem.W.Frag) : List V → Hp → VK → Prop := fun xs H Q => ∃ p ys, xs = [V.ref p] ∧ (SqL K H p ys ∨ SqT K H p ys) ∧ ∀ l, H l = none → Q (V.ref l) (upd H l (.lst ys))
abbrev rLenSq (K : PySem.W.Frag) : List V → Hp → VK → Prop := fun xs H Q => ∃ p ys, xs = [V.ref p] ∧ (SqL K H p ys ∨ SqT K H p ys) ∧ Q (V.int ys.length) H
section
variable {P : Program} {w : World} {K : PySem.W.Frag} {mg : Str → Option Value} {base : Heap}
abbrev s_rank : Stmt := top 33
abbrev N_rank : List Str := ["_law_vectors_here", "_law_rows", "_law_found", "_law_before", "_law_width", "_law_column", "_law_able", "_law_first", "_law_at", "_law_factor", "_law_crossed", "_law_vector_here", "_law_k", "_law_entry"]
theorem sc_rank : FnScope N_rank ["_law_vectors_here"] (defScope s_rank) := ⟨rfl, rfl, rfl, by decide +kernel, rfl, by decide +kernel, by decide +kernel⟩
def sp_rank (K : PySem.W.Frag) : Sp := fun vs H Q _ => ∃ (g : Addr) (xs : List V) (S : List LA.Vec) (n ℓ : Nat), vs = [.ref g] ∧ H g = some (.lst xs) ∧ Rws K H xs S ∧ (∀ u ∈ S, u.length = n) ∧ n ≤ 60 ∧ S.length ≤ 60 ∧ n + 1 ≤ 2 ^ ℓ ∧ LA.cost ℓ S ≤ 8000 ∧
  ∀ H', Same H H' → Q (.int ((LA.reduced S).length : Nat)) H'
theorem ok_rank {f : Addr} {fd : FuncData} {k : Nat} (D : Dn K mg "_law_rank" s_rank ["_law_vectors_here"] f fd) (m1 : mg "list" = none) (m2 : mg "max" = none) (m3 : mg "len" = none) (m4 : mg "range" = none) (m5 : mg "enumerate" = none) :
    FnOk P w K mg base CX0 (k + 1) f fd ["_law_vectors_here"] (sp_rank K) := by
  refine D.F.ok sc_rank (fun vs H Q E h => ?_) (fun cdv A outer s H vs Q E hr h => ?_)
  · obtain ⟨g, xs, S, n, ℓ, rfl, _⟩ := h
    rfl
  · obtain ⟨g, xs, S, n, ℓ, rfl, hg, hR, hSn, hn, hSl, hℓ, hcost, q⟩ := h
    have nd := sc_rank.nd
    refine ⟨_, pss_cons (ps_set (i := 1) nd rfl (.inr rfl) (pe_lc (own := [("_law_vector_here", 11)]) (g := gName 11) (tt := tYes) rfl nd (pi_list (pv 0)) (blkOk_by (N := N_rank) (sc := defScope s_rank) (by decide +kernel))
          (fun _ _ _ _ _ => pg_name (i := 11) nd rfl (Or.inl rfl)) (fun _ _ _ _ _ => pts_nil) (fun _ _ _ _ _ => pe_callTy (r := rListOf K) call_list_of (by rfl) m1 (by decide +kernel) (pa_cons (pv 11) pa_nil))))
      (pss_cons (ps_asg (pe_tup (pa_cons pe_int (pa_cons pe_int pa_nil))) (pg_tup rfl (pgs_cons (pg_name (i := 2) nd rfl (.inl rfl)) (pgs_cons (pg_name (i := 3) nd rfl (.inr rfl)) pgs_nil))))
      (pss_cons (ps_set (i := 4) nd rfl (.inl rfl) (pe_callB (cr_max rfl) (by rfl) m2 (by decide +kernel) (pa_cons (pe_op op_cat (pe_lst (pa_cons pe_int pa_nil))
          (pe_lc (own := [("_law_vector_here", 11)]) (g := gName 11) (tt := tYes) rfl nd (pi_list (pv 0)) (blkOk_by (N := N_rank) (sc := defScope s_rank) (by decide +kernel))
            (fun _ _ _ _ _ => pg_name (i := 11) nd rfl (Or.inl rfl)) (fun _ _ _ _ _ => pts_nil) (fun _ _ _ _ _ => pe_callB (r := rLenSq K) call_len_seq (by rfl) m3 PySem.boot_len (pa_cons (pv 11) pa_nil)))) pa_nil)))
      (pss_cons (ps_for PassesOwn.never rfl (pi_range1 (by rfl) m4 (pa_cons (pv 4) pa_nil)) (pg_name (i := 5) nd rfl (.inr rfl))
        (pss_cons (ps_setLc (i := 6) (own := [("_law_at", 8)]) (g := gName 8) rfl nd rfl rfl (sw_true rfl rfl rfl (by decide +kernel)) (pi_range2 (by rfl) m4 (pa_cons (pv 2) (pa_cons (pe_callB call_len_seq (by rfl) m3 PySem.boot_len (pa_cons (pv 1) pa_nil)) pa_nil)))
            (blkOk_by (N := N_rank) (sc := defScope s_rank) (by decide +kernel)) (fun _ _ _ _ _ => pg_name (i := 8) nd rfl (Or.inl rfl))
            (fun _ _ _ _ _ => pts_one (pt_cmpR op_ne (pe_ix (r := rIxL K) ix_list (pe_ix (r := rIxL K) ix_list (pv 1) (pv 8) (fun _ _ => rfl)) (pv 5) (fun _ _ => rfl)) pe_int (nomark _))) (fun _ _ _ _ _ => pv 8))
        (pss_one (ps_if (pt_cmpR (op_neD hr.units) (pv 6) (pe_lst pa_nil) (nomark _))
          (pss_cons (ps_asg (pe_tup (pa_cons (pe_ix ix_list (pv 1) (pe_ix ix_list (pv 6) pe_int (fun _ _ => rfl)) (fun _ _ => rfl)) (pa_cons (pe_ix ix_list (pv 1) (pv 2) (fun _ _ => rfl)) pa_nil)))
              (pg_tup rfl (pgs_cons (pg_sub (pv 1) (pv 2) set_list (fun _ => rfl)) (pgs_cons (pg_sub (pv 1) (pe_ix ix_list (pv 6) pe_int (fun _ _ => rfl)) set_list (fun _ => rfl)) pgs_nil))))
          (pss_cons (ps_set (i := 7) nd rfl (.inr rfl) (pe_ix ix_list (pv 1) (pv 2) (fun _ _ => rfl)))
          (pss_cons (ps_for PassesOwn.never rfl (pi_range2 (by rfl) m4 (pa_cons (pe_op op_add (pv 2) pe_int) (pa_cons (pe_callB call_len_seq (by rfl) m3 PySem.boot_len (pa_cons (pv 1) pa_nil)) pa_nil))) (pg_name (i := 8) nd rfl (.inl rfl))
            (pss_cons (ps_set (i := 9) nd rfl (.inr rfl) (pe_ix ix_list (pe_ix ix_list (pv 1) (pv 8) (fun _ _ => rfl)) (pv 5) (fun _ _ => rfl)))
            (pss_cons (ps_setLc (i := 10) (own := [("_law_k", 12), ("_law_entry", 13)]) (g := gTup K 2 (gCons (gName 12) (gCons (gName 13) gNil))) (tt := tYes) rfl nd rfl rfl (sw_true rfl rfl rfl (by decide +kernel)) (pi_enum (by rfl) m5 (pa_cons (pe_ix ix_list (pv 1) (pv 8) (fun _ _ => rfl)) pa_nil))
                (blkOk_by (N := N_rank) (sc := defScope s_rank) (by decide +kernel)) (fun _ _ _ _ _ => pg_tup rfl (pgs_cons (pg_name (i := 12) nd rfl (Or.inl rfl)) (pgs_cons (pg_name (i := 13) nd rfl (Or.inl rfl)) pgs_nil))) (fun _ _ _ _ _ => pts_nil)
                (fun _ _ _ _ _ => pe_op op_sub (pe_op op_mulW (pe_ix (r := rIxL K) ix_list (pv 7) (pv 5) (fun _ _ => rfl)) (pv 13)) (pe_op op_mulW (pv 9) (pe_ix (r := rIxL K) ix_list (pv 7) (pv 12) (fun _ _ => rfl)))))
            (pss_one (ps_asg (pe_lc (own := [("_law_entry", 13)]) (g := gName 13) (tt := tYes) rfl nd (pi_list (pv 10)) (blkOk_by (N := N_rank) (sc := defScope s_rank) (by decide +kernel))
                (fun _ _ _ _ _ => pg_name (i := 13) nd rfl (Or.inl rfl)) (fun _ _ _ _ _ => pts_nil) (fun _ _ _ _ _ => pe_op op_fdivX (pv 13) (pv 3))) (pg_sub (pv 1) (pv 8) set_list (fun _ => rfl)))))))
          (pss_one (ps_asg (pe_tup (pa_cons (pe_op op_add (pv 2) pe_int) (pa_cons (pe_ix ix_list (pv 7) (pv 5) (fun _ _ => rfl)) pa_nil))) (pg_tup rfl (pgs_cons (pg_name (i := 2) nd rfl (.inl rfl)) (pgs_cons (pg_name (i := 3) nd rfl (.inr rfl)) pgs_nil)))))))) pss_nil))))
      (pss_one (ps_ret (pv 2)))))), ?_⟩
    -- rows
    refine ⟨_, rfl, g, rfl, ⟨_, SqL.of hg⟩, fun r nr => ?_⟩
    refine lc_it (walk_list (K := K) (a := g) (xs := xs)) (fun i H' => Same H H' ∧ ∃ acc, H' r = some (.lst acc) ∧ Lws r H' acc (S.take i))
      ⟨same_new nr, [], upd_same, Lws.nil⟩ (fun i H' _ h => SqL.of (h.1 _ _ hg)) ?_ ?_
    · rintro i x Ha Hb hi ⟨s1, acc, eD, hacc⟩ ⟨rfl, hx⟩
      refine ⟨rfl, ?_⟩
      dsimp only [tYes]
      refine iteT ?_
      obtain ⟨hi', a, rfl, hv⟩ := (hR.tk (Same.tk s1)).at hx
      refine ⟨_, rfl, a, _, rfl, .inr hv, fun l nl => ?_⟩
      have sl : Same Hb (upd Hb l (.lst (S[i].map V.int))) := same_new nl
      refine ⟨acc, sl _ _ eD, small1000 (by rw [hacc.1, List.length_take]; omega), same_at nr (s1.trans sl), acc ++ [.ref l], upd_same, ?_⟩
      rw [List.take_add_one, List.getElem?_eq_getElem hi']
      have hlr : r ≠ l := ne_of_none eD nl
      exact ((hacc.keep (Same.sx sl)).keep sx_put).snoc ⟨l, rfl, hlr.symm, by rw [upd_ne hlr.symm]; exact upd_same⟩
    · rintro Ha ⟨sa, ys, hr0, hL⟩
      rw [hR.1, List.take_length] at hL
      refine ⟨by show 2 ≤ sizeLine; decide, fun t nt => ?_⟩
      refine ⟨t, _, rfl, SqT.of upd_same, rfl, _, _, rfl, _, _, rfl, rfl, ?_⟩
      have st : Same Ha (upd Ha t (.tup [V.int 0, V.int 1])) := same_new nt
      have sat := sa.trans st
      have hrt := st _ _ hr0
      have hLt := hL.keep (Same.sx st)
      generalize upd Ha t (.tup [V.int 0, V.int 1]) = Ht at sat hrt hLt
      -- width
      refine ⟨by show 1 ≤ sizeLine; decide, fun l nl => ?_⟩
      have sl : Same Ht (upd Ht l (.lst [V.int 0])) := same_new nl
      have hl : (upd Ht l (.lst [V.int 0])) l = some (.lst [V.int 0]) := upd_same
      have satl := sat.trans sl
      generalize upd Ht l (.lst [V.int 0]) = Hl at sl hl satl
      refine ⟨_, rfl, g, rfl, ⟨_, SqL.of (satl _ _ hg)⟩, fun D0 nD0 => ?_⟩
      refine lc_it (walk_list (K := K) (a := g) (xs := xs)) (Acc Hl D0 fun _ => V.int (n : Nat)) (Acc.start nD0) (fun i H' _ h => SqL.of (h.1 _ _ (satl _ _ hg))) ?_ ?_
      · rintro i x Hb Hc hi h ⟨rfl, hx⟩
        refine ⟨rfl, ?_⟩
        dsimp only [tYes]
        refine iteT ?_
        obtain ⟨hi', a, rfl, hv⟩ := (hR.tk (Same.tk (satl.trans h.1))).at hx
        refine ⟨_, rfl, a, _, rfl, .inr hv, ?_⟩
        exact h.turn nD0 (Same.refl _) (by have := hR.1; omega) (by rw [List.length_map, hSn _ (List.getElem_mem hi')])
      · rintro Hb h
        refine ⟨l, D0, _, _, rfl, rfl, h.1 _ _ hl, h.2, Nat.le_of_lt (small1000 (by rw [List.length_map, List.length_range, hR.1]; show 1 + S.length ≤ 1000; omega)), fun z nz => ?_⟩
        have hns : [V.int 0] ++ (List.range xs.length).map (fun _ => V.int (n : Nat)) = ((0 : Int) :: (List.range xs.length).map fun _ => ((n : Nat) : Int)).map V.int := by
          rw [List.map_cons, List.map_map]
          rfl
        refine ⟨z, (0 : Int) :: (List.range xs.length).map fun _ => ((n : Nat) : Int), rfl, by rw [← hns]; exact SqL.of upd_same, Nat.succ_pos _, fun m hm hle => ?_⟩
        have sz : Same Hb (upd Hb z (.lst ([V.int 0] ++ (List.range xs.length).map (fun _ => V.int (n : Nat))))) := same_new nz
        have sz2 := (satl.trans h.1).trans sz
        have hrz := sz _ _ (h.1 _ _ (sl _ _ hrt))
        have hLz := ((hLt.keep (Same.sx sl)).keep (Same.sx h.1)).keep (Same.sx sz)
        generalize upd Hb z (.lst ([V.int 0] ++ (List.range xs.length).map (fun _ => V.int (n : Nat)))) = Hz at sz2 hrz hLz
        obtain ⟨W, rfl, hSW, hWn⟩ : ∃ W : Nat, m = (W : Int) ∧ (∀ u ∈ S, u.length = W) ∧ W ≤ n := by
          rcases List.mem_cons.mp hm with rfl | hm
          · cases S with
            | nil => exact ⟨0, rfl, (fun u hu => by cases hu), Nat.zero_le _⟩
            | cons a S' =>
              have hx1 : 0 < xs.length := by rw [hR.1]; exact Nat.succ_pos _
              have := hle (n : Nat) (List.mem_cons_of_mem _ (List.mem_map.mpr ⟨0, List.mem_range.mpr hx1, rfl⟩))
              have hn0 : n = 0 := by omega
              exact ⟨n, by rw [hn0]; rfl, hSn, Nat.le_refl _⟩
          · obtain ⟨_, _, rfl⟩ := List.mem_map.mp hm
            exact ⟨n, rfl, hSn, Nat.le_refl _⟩
        -- the columns
        refine ⟨_, rfl, (W : Nat), rfl, by omega, by omega, ?_⟩
        refine for_range (lo := 0) (n := (W : Int).toNat) (fun c σ H' => ∃ (ys : List V) (rows : List LA.Vec) (kf : Nat) (before : Int) (y5 y6 y7 y8 y9 y10 : Option V), σ = [some (.ref g), some (.ref r), some (.int (kf : Nat)), some (.int before), some (.int (W : Nat)), y5, y6, y7, y8, y9, y10, none, none, none] ∧
            Same H H' ∧ H' r = some (.lst ys) ∧ Lws r H' ys rows ∧ LA.BSt W S c rows kf before ∧ rows.length = S.length)
          ⟨ys, S, 0, 1, none, none, none, none, none, none, rfl, sz2, hrz, hLz, LA.bst_start hSW, rfl⟩ ?_ ?_
        · rintro c σ Hi hci ⟨ys, rows, kf, before, y5, y6, y7, y8, y9, y10, rfl, si, hri, hLi, hB, hrl⟩
          have hcW : c < W := by omega
          obtain ⟨E0, PP, R, C, gh⟩ := hB
          have hkr : kf ≤ rows.length := by rw [gh.rw, List.length_append, gh.ek]; omega
          have hyl : ys.length = rows.length := hLi.1
          rw [Int.zero_add]
          have hc0 : c < 62 := by omega
          refine ⟨_, rfl, _, rfl, r, _, rfl, .inl (SqL.of hri), _, _, rfl, ⟨by omega, by omega, by omega, by omega⟩, fun D1 nD1 => ?_⟩
          have hD1r : r ≠ D1 := ne_of_none hri nD1
          refine lc_it (walk_range (lo := (kf : Int)) (n := ((ys.length : Int) - (kf : Int)).toNat)) (fun j H' => Same Hi H' ∧ H' D1 = some (.lst ((LA.ab rows c kf j).map V.int)))
            ⟨same_new nD1, upd_same⟩ (fun _ _ _ _ => trivial) ?_ ?_
          · rintro j x Hb Hc hj ⟨sb, eD⟩ ⟨rfl, rfl⟩
            refine ⟨rfl, ?_⟩
            obtain ⟨a, e1, na, qa⟩ := (hLi.keep (Same.sx sb)).at (i := kf + j) (by omega)
            have hrow : (rows.getD (kf + j) []).length = W := gh.row_len (by omega)
            refine ⟨_, rfl, _, rfl, r, _, _, _, rfl, rfl, SqL.of (sb _ _ hri), atI_nat e1, _, rfl, a, _, _, _, rfl, rfl, SqL.of qa, atI_nat (int_at (by omega)), rfl, _, rfl, ?_⟩
            refine ite2 (fun e => ?_) fun e => ?_
            · have hne : LA.e (rows.getD (kf + j) []) c ≠ 0 := fun z => by rw [z] at e; simp at e
              refine ⟨_, rfl, _, eD, small1000 (by rw [List.length_map]; have := LA.ab_len rows c kf j; omega), same_at nD1 sb, ?_⟩
              rw [upd_same, LA.ab_yes hne, List.map_append]
              rfl
            · have hz : LA.e (rows.getD (kf + j) []) c = 0 := by
                rcases Decidable.em (LA.e (rows.getD (kf + j) []) c = 0) with h | h
                · exact h
                · exact absurd (by rw [decide_eq_false (fun z => h (V.int.inj z))]; rfl) e
              refine ⟨sb, ?_⟩
              rw [LA.ab_no hz]
              exact eD
          · rintro Hb ⟨sb, eD⟩
            refine ⟨_, rfl, Nat.zero_le _, fun l2 nl2 => ?_⟩
            have sl2 : Same Hb (upd Hb l2 (.lst [])) := same_new nl2
            refine ⟨.list _, .list [], .lst (SqL.of (sl2 _ _ eD)) (dp_ints _), .lst (SqL.of upd_same) .nil, shaped_i _, by decide, _, rfl, ?_⟩
            have sil := sb.trans sl2
            have hrl2 := sil _ _ hri
            have hLl2 := hLi.keep (Same.sx sil)
            have hDl2 := sl2 _ _ eD
            generalize upd Hb l2 (.lst []) = Hl2 at sl2 sil hrl2 hLl2 hDl2
            have ss := si.trans sil
            rw [eqv_nil]
            generalize hab : LA.ab rows c kf ((ys.length : Int) - (kf : Int)).toNat = ab at eD hDl2
            refine ite2 (fun e => ?_) fun e => ?_
            · cases ab with
              | nil => cases e
              | cons a0 ar =>
                obtain ⟨i0, hi0, rfl, hne⟩ := LA.ab_mem (rows := rows) (c := c) (k := kf) (x := a0) (hab ▸ List.mem_cons_self)
                have hIl : kf + i0 < rows.length := by omega
                obtain ⟨o, T, hT1, hT2, hT3⟩ := LA.swap_rows gh.rw gh.ek (i := kf + i0) (by omega) hIl
                obtain ⟨hg1, _⟩ := gh.turn hcW hT1 hne
                obtain ⟨hb1, _, hb2⟩ := gh.size (ℓ := ℓ) (by omega)
                obtain ⟨ai, ei, ni, qi⟩ := hLl2.at (i := kf + i0) hIl
                obtain ⟨ak, ek, nk, qk⟩ := hLl2.at (i := kf) (by omega)
                have mfst := hT1.mem_iff.mpr (List.mem_cons_self (a := (rows.getD (kf + i0) [], o)) (l := T))
                have mT : ∀ p ∈ T, p ∈ PP := fun p hp => hT1.mem_iff.mpr (List.mem_cons_of_mem _ hp)
                have hfl := gh.ln _ mfst
                have hfb := hb2 _ mfst
                have b0 := gh.b0
                have hLi5 : ∀ {H5 : Hp}, SX r Hl2 H5 → Lws r H5 ((ys.set kf (.ref ai)).set (kf + i0) (.ref ak)) (E0 ++ rows.getD (kf + i0) [] :: T.map (·.1)) := fun {H5} s5 => by
                  rw [← hT2]
                  exact ((hLl2.keep s5).set ⟨ai, rfl, ni, s5 _ _ ni qi⟩).set ⟨ak, rfl, nk, s5 _ _ nk qk⟩
                generalize rows.getD (kf + i0) [] = first at hT1 hg1 hne qi mfst hfl hfb hLi5
                dsimp only at hfl hfb
                have hD1 : D1 ≠ r := hD1r.symm
                refine ⟨_, rfl, _, rfl, D1, _, _, _, rfl, rfl, SqL.of hDl2, atI_nat (j := 0) rfl, r, _, _, _, rfl, rfl, SqL.of hrl2, atI_nat ei, _, rfl, _, rfl, r, _, _, _, rfl, rfl, SqL.of hrl2, atI_nat ek, by show 2 ≤ sizeLine; decide, fun t2 nt2 => ?_⟩
                have st2 : Same Hl2 (upd Hl2 t2 (.tup [V.ref ai, V.ref ak])) := same_new nt2
                refine ⟨t2, _, rfl, SqT.of upd_same, rfl, _, _, rfl, _, rfl, _, rfl, r, _, _, _, rfl, rfl, st2 _ _ hrl2, ixn (by omega), _, _, rfl, _, rfl, _, rfl, D1, _, _, _, rfl, rfl, SqL.of (by rw [upd_ne hD1]; exact st2 _ _ hDl2), atI_nat (j := 0) rfl, r, _, _, _, rfl, rfl, upd_same, ixn (by rw [List.length_set]; omega), rfl, ?_⟩
                have s25 : SX r Hl2 (upd (upd (upd Hl2 t2 (.tup [V.ref ai, V.ref ak])) r (.lst (ys.set kf (.ref ai)))) r (.lst ((ys.set kf (.ref ai)).set (kf + i0) (.ref ak)))) := ((Same.sx st2).trans sx_put).trans sx_put
                have hr5 : (upd (upd (upd Hl2 t2 (.tup [V.ref ai, V.ref ak])) r (.lst (ys.set kf (.ref ai)))) r (.lst ((ys.set kf (.ref ai)).set (kf + i0) (.ref ak)))) r = some (.lst ((ys.set kf (.ref ai)).set (kf + i0) (.ref ak))) := upd_same
                have hL5 := hLi5 s25
                have s5 : Same H _ := Same.put nr ss s25
                generalize upd (upd (upd Hl2 t2 (.tup [V.ref ai, V.ref ak])) r (.lst (ys.set kf (.ref ai)))) r (.lst ((ys.set kf (.ref ai)).set (kf + i0) (.ref ak))) = H5 at s25 hr5 hL5 s5
                have hl5 : ((ys.set kf (.ref ai)).set (kf + i0) (.ref ak)).length = ys.length := by rw [List.length_set, List.length_set]
                generalize (ys.set kf (.ref ai)).set (kf + i0) (.ref ak) = ys5 at hr5 hL5 hl5
                have hPl : PP.length + kf = rows.length := by rw [gh.rw, List.length_append, List.length_map, gh.ek]; omega
                obtain ⟨af, ef, nf, qf⟩ := hL5.at (i := kf) (by rw [← hL5.1]; omega)
                rw [LA.at_here gh.ek] at qf
                refine ⟨_, rfl, _, rfl, r, _, _, _, rfl, rfl, SqL.of hr5, atI_nat ef, ?_⟩
                refine ⟨_, rfl, _, _, rfl, rfl, _, rfl, r, _, rfl, .inl (SqL.of hr5), _, _, rfl, ⟨by omega, by omega, by omega, by omega⟩, ?_⟩
                have mL : ∀ u ∈ T.map (·.1), u.length = W ∧ ∀ j, (LA.e u j).natAbs ≤ 2 ^ LA.cost ℓ S := fun u hu => by
                  obtain ⟨p, hp, rfl⟩ := List.mem_map.mp hu
                  exact ⟨gh.ln _ (mT p hp), hb2 _ (mT p hp)⟩
                have hLl : (T.map (·.1)).length = T.length := List.length_map ..
                generalize T.map (·.1) = L at mL hg1 hL5 hLl
                refine for_range (lo := (kf : Int) + 1) (n := ((ys5.length : Int) - ((kf : Int) + 1)).toNat) (fun j σ H' => ∃ (ys' : List V) (y8 y9 y10 : Option V), σ = [some (.ref g), some (.ref r), some (.int (kf : Nat)), some (.int before), some (.int (W : Nat)), some (.int (c : Nat)), some (.ref D1), some (.ref af), y8, y9, y10, none, none, none] ∧
                    Same H H' ∧ H' r = some (.lst ys') ∧ Lws r H' ys' (E0 ++ first :: ((L.take j).map (LA.upd before first c) ++ L.drop j)) ∧ H' af = some (.lst (first.map V.int)) ∧ ys'.length = ys.length)
                  ⟨ys5, _, _, _, rfl, s5, hr5, hL5, qf, hl5⟩ ?_ ?_
                · rintro j σ Hj hj ⟨ys', z8, z9, z10, rfl, sj, hrj, hLj, hfj, hlj⟩
                  have hjL : j < L.length := by omega
                  rw [show ((kf : Int) + 1 + (j : Nat)) = ((kf + 1 + j : Nat) : Int) by omega]
                  obtain ⟨au, eu, nu, qu⟩ := hLj.at (i := kf + 1 + j) (by rw [← hLj.1]; omega)
                  rw [LA.at_behind gh.ek, List.getD_eq_getElem?_getD, LA.mid_at hjL] at qu
                  obtain ⟨ul, ub⟩ := mL _ (List.getElem_mem hjL)
                  have hset : (E0 ++ first :: ((L.take j).map (LA.upd before first c) ++ L.drop j)).set (kf + 1 + j) (LA.upd before first c L[j]) = E0 ++ first :: ((L.take (j + 1)).map (LA.upd before first c) ++ L.drop (j + 1)) := by
                    rw [LA.set_behind gh.ek, LA.mid_set hjL]
                  have hup := LA.upd_e (before := before) (c := c) hfl ul
                  have hupl := LA.upd_len (before := before) (c := c) hfl ul
                  generalize LA.upd before first c L[j] = uu at hset hup hupl
                  change Hj au = some (.lst (L[j].map V.int)) at qu
                  generalize L[j] = u at qu ul ub hup
                  refine ⟨_, rfl, _, rfl, r, _, _, _, rfl, rfl, SqL.of hrj, atI_nat eu, _, rfl, au, _, _, _, rfl, rfl, SqL.of qu, atI_nat (int_at (by omega)), ?_⟩
                  refine ⟨_, rfl, _, rfl, r, _, _, _, rfl, rfl, SqL.of hrj, atI_nat eu, au, _, rfl, SqL.of qu, fun D2 nD2 => ?_⟩
                  refine lc_it (walk_enum (K := K) (a := au) (xs := u.map V.int)) (Acc Hj D2 fun i => V.int (LA.e first c * LA.e u i - LA.e u c * LA.e first i)) (Acc.start nD2) (fun i H' _ h => SqL.of (h.1 _ _ qu)) ?_ ?_
                  · rintro i x Hb Hc hi h ⟨T', x1, x2, rfl, nT, rfl, g1, g2⟩
                    cases g1
                    obtain ⟨hi', rfl⟩ := int_of g2
                    refine ⟨T', _, rfl, SqT.of upd_same, rfl, _, _, rfl, _, _, rfl, rfl, rfl, ?_⟩
                    dsimp only [tYes]
                    refine iteT ?_
                    have sT : Same Hb (upd Hb T' (.tup [V.int (i : Nat), V.int (LA.e u i)])) := same_new nT
                    have hfT := (h.1.trans sT) _ _ hfj
                    refine ⟨_, rfl, _, rfl, af, _, _, _, rfl, rfl, SqL.of hfT, atI_nat (int_at (by omega)), _, rfl, _, _, rfl, rfl, wide_mul (LA.two_lt (hfb c)) (LA.two_lt (ub i)) (by omega) (by omega) (by omega),
                      _, rfl, _, rfl, _, rfl, af, _, _, _, rfl, rfl, SqL.of hfT, atI_nat (int_at (by omega)), _, _, rfl, rfl, wide_mul (LA.two_lt (ub c)) (LA.two_lt (hfb i)) (by omega) (by omega) (by omega), _, _, rfl, rfl, ?_⟩
                    exact h.turn nD2 sT (by rw [List.length_map] at hi; omega) rfl
                  · rintro Hb h
                    rw [List.length_map] at h
                    refine ⟨_, rfl, D2, rfl, ⟨_, SqL.of h.2⟩, fun D3 nD3 => ?_⟩
                    refine lc_it (walk_list (K := K) (a := D2) (xs := (List.range u.length).map fun i => V.int (LA.e first c * LA.e u i - LA.e u c * LA.e first i))) (Acc Hb D3 fun i => V.int ((LA.e first c * LA.e u i - LA.e u c * LA.e first i).fdiv before)) (Acc.start nD3) (fun i H' _ h2 => SqL.of (h2.1 _ _ h.2)) ?_ ?_
                    · rintro i x Hc Hd hi h2 ⟨rfl, hx⟩
                      rw [List.length_map, List.length_range] at hi
                      rw [List.getElem?_map, List.getElem?_range hi] at hx
                      cases hx
                      refine ⟨rfl, ?_⟩
                      dsimp only [tYes]
                      refine iteT ?_
                      exact ⟨_, rfl, _, rfl, _, _, rfl, rfl, ⟨b0, Nat.lt_of_lt_of_le (PySem.Flt.log2_lt_of (by omega) (LA.two_lt hb1)) (by omega)⟩, h2.turn nD3 (Same.refl _) (by omega) rfl⟩
                    · rintro Hc h2
                      rw [List.length_map, List.length_range] at h2
                      have sjc := h.1.trans h2.1
                      have hD3r : D3 ≠ r := (ne_of_none (h.1 _ _ hrj) nD3).symm
                      refine ⟨_, rfl, _, rfl, r, _, _, _, rfl, rfl, sjc _ _ hrj, ixn (by omega), ?_⟩
                      refine ⟨_, _, _, _, rfl, Same.put nr (sj.trans sjc) sx_put, upd_same, ?_, by rw [upd_ne nf]; exact sjc _ _ hfj, by rw [List.length_set]; exact hlj⟩
                      rw [← hset]
                      refine ((hLj.keep (Same.sx sjc)).keep sx_put).set ⟨D3, rfl, hD3r, ?_⟩
                      rw [upd_ne hD3r, h2.2]
                      exact congrArg (fun z => some (HO.lst z)) (range_ints (by omega) fun i _ => (hup i).symm)
                · rintro σ Hj ⟨ys', z8, z9, z10, rfl, sj, hrj, hLj, hfj, hlj⟩
                  refine ⟨_, rfl, _, _, rfl, rfl, _, rfl, _, rfl, af, _, _, _, rfl, rfl, SqL.of hfj, atI_nat (int_at (by omega)), by show 2 ≤ sizeLine; decide, fun t3 nt3 => ⟨t3, _, rfl, SqT.of upd_same, rfl, _, _, rfl, _, _, rfl, rfl, ?_⟩⟩
                  have st3 : Same Hj (upd Hj t3 (.tup [V.int ((kf : Int) + 1), V.int (LA.e first c)])) := same_new nt3
                  refine ⟨ys', _, kf + 1, LA.e first c, _, _, _, _, _, _, rfl, sj.trans st3, st3 _ _ hrj, hLj.keep (Same.sx st3), ?_, by rw [← hLj.1, hlj, hyl, hrl]⟩
                  have : ((ys5.length : Int) - ((kf : Int) + 1)).toNat = L.length := by omega
                  rw [this, List.take_length, List.drop_length, List.append_nil]
                  exact ⟨_, _, _, _, hg1⟩
            · have hnil : ab = [] := by
                cases ab with
                | nil => rfl
                | cons a0 ar => exact absurd rfl e
              rw [hnil] at hab
              refine ⟨ys, rows, kf, before, _, _, _, _, _, _, rfl, ss, hrl2, hLl2, LA.bst_skip ⟨E0, PP, R, C, gh⟩ hcW fun i h1 h2 => ?_, hrl⟩
              have := LA.ab_nil hab (i - kf) (by omega)
              rw [show kf + (i - kf) = i by omega] at this
              exact this
        · rintro σ Hi ⟨ys, rows, kf, before, y5, y6, y7, y8, y9, y10, rfl, si, hri, hLi, hB, hrl⟩
          rw [Int.toNat_natCast] at hB
          refine ⟨_, rfl, ?_⟩
          rw [LA.rank_eq hB hSW]
          exact q _ si
end
end Sp1

set_option Elab.async false
set_option linter.all false
set_option maxRecDepth 100000
set_option maxHeartbeats 4000000
namespace LA
theorem erase_perm {α : Type} : ∀ {l : List α} {i : Nat} (h : i < l.length), (l[i] :: l.eraseIdx i).Perm l
  | x :: l, 0, h => List.Perm.refl _
  | x :: l, i + 1, h => (List.Perm.swap x (l[i]'(by rw [List.length_cons] at h; omega)) (l.eraseIdx i)).trans ((erase_perm (l := l) (i := i) (by rw [List.length_cons] at h; omega)).cons x)
theorem reduced_in {n : Nat} {S : List Vec} {u : Vec} (hS : ∀ v ∈ S, v.length = n) (hu : u.length = n) (h : Sp n S u) : reduced (S ++ [u]) = reduced S := by
  have hS2 : ∀ v ∈ S ++ [u], v.length = n := fun v hv => by
    rcases List.mem_append.mp hv with hv | hv
    · exact hS v hv
    · rw [List.mem_singleton.mp hv]; exact hu
  refine red_unique (reduced_red hS2) (reduced_red hS) fun v => ((reduced_sp hS2 v).trans ?_).trans (reduced_sp hS v).symm
  refine ⟨fun k => k.sub fun x hx hl => ?_, fun k => k.sub fun x hx hl => .mem (List.mem_append_left _ hx) hl⟩
  rcases List.mem_append.mp hx with hx | hx
  · exact .mem hx hl
  · rw [List.mem_singleton.mp hx]; exact h
end LA
namespace Sp1
open PySem PySem.Spec PyProof.Rows L2
theorem Rws.erase {K : PySem.W.Frag} {H : Hp} {xs : List V} {B : List LA.Vec} (h : Rws K H xs B) (k : Nat) : Rws K H (xs.eraseIdx k) (B.eraseIdx k) := by
  refine ⟨by rw [List.length_eraseIdx, List.length_eraseIdx, h.1], fun i x u e1 e2 => ?_⟩
  rw [List.getElem?_eraseIdx] at e1 e2
  by_cases hi : i < k
  · rw [if_pos hi] at e1 e2
    exact h.2 _ _ _ e1 e2
  · rw [if_neg hi] at e1 e2
    exact h.2 _ _ _ e1 e2
section
variable {P : Program} {w : World} {K : PySem.W.Frag} {mg : Str → Option Value} {base : Heap}
/-! _law_is_in -/
abbrev s_is_in : Stmt := top 34
abbrev N_is_in : List Str := ["_law_vector_here", "_law_vectors_here"]
theorem sc_is_in : FnScope N_is_in ["_law_vector_here", "_law_vectors_here"] (defScope s_is_in) := ⟨rfl, rfl, rfl, by decide +kernel, rfl, by decide +kernel, by decide +kernel⟩
def sp_is_in (K : PySem.W.Frag) : Sp := fun vs H Q _ => ∃ (v : V) (u : LA.Vec) (g : Addr) (xs : List V) (S : List LA.Vec) (n ℓ : Nat), vs = [v, .ref g] ∧ Vc K H v u ∧ u.length = n ∧ H g = some (.lst xs) ∧ Rws K H xs S ∧ (∀ u ∈ S, u.length = n) ∧ n ≤ 60 ∧ S.length ≤ 50 ∧ n + 1 ≤ 2 ^ ℓ ∧ LA.cost ℓ (S ++ [u]) ≤ 8000 ∧
  LA.Sp n S u ∧ ∀ H', Same H H' → Q (.bl true) H'
theorem ok_is_in {f f1 : Addr} {fd fd1 : FuncData} {k : Nat} (D : Dn K mg "_law_is_in" s_is_in ["_law_vector_here", "_law_vectors_here"] f fd) (D1 : Dn K mg "_law_rank" s_rank ["_law_vectors_here"] f1 fd1)
    (G1 : FnOk P w K mg base CX0 k f1 fd1 ["_law_vectors_here"] (sp_rank K)) : FnOk P w K mg base CX0 (k + 1) f fd ["_law_vector_here", "_law_vectors_here"] (sp_is_in K) := by
  refine D.F.ok sc_is_in (fun vs H Q E h => ?_) (fun cdv A outer s H vs Q E hr h => ?_)
  · obtain ⟨v, u, g, xs, S, n, ℓ, rfl, _⟩ := h
    rfl
  · obtain ⟨v, u, g, xs, S, n, ℓ, rfl, hv, hun, hg, hR, hSn, hn, hSl, hℓ, hcost, hsp, q⟩ := h
    have nd := sc_is_in.nd
    refine ⟨_, pss_one (ps_ret (pe_cmpR op_eq (pe_call G1 hr (by rfl) D1.g D1.kp D1.b .nil pass0 (pa_cons (pe_op op_cat (pv 1) (pe_lst (pa_cons (pv 0) pa_nil))) pa_nil)) (pe_call G1 hr (by rfl) D1.g D1.kp D1.b .nil pass0 (pa_cons (pv 1) pa_nil)) (nomark _))), ?_⟩
    refine ⟨_, rfl, _, rfl, by show 1 ≤ sizeLine; decide, fun l nl => ?_⟩
    have sl : Same H (upd H l (.lst [v])) := same_new nl
    have hl : (upd H l (.lst [v])) l = some (.lst [v]) := upd_same
    generalize upd H l (.lst [v]) = H1 at sl hl
    have hxl := hR.1
    refine ⟨g, l, _, _, rfl, rfl, sl _ _ hg, hl, Nat.le_of_lt (small1000 (by rw [hxl]; show S.length + 1 ≤ 1000; omega)), fun z nz => ?_⟩
    have sz : Same H1 (upd H1 z (.lst (xs ++ [v]))) := same_new nz
    have hz : (upd H1 z (.lst (xs ++ [v]))) z = some (.lst (xs ++ [v])) := upd_same
    generalize upd H1 z (.lst (xs ++ [v])) = H2 at sz hz
    have s2 := sl.trans sz
    have hS2 : ∀ w ∈ S ++ [u], w.length = n := fun w hw => by
      rcases List.mem_append.mp hw with hw | hw
      · exact hSn w hw
      · rw [List.mem_singleton.mp hw]; exact hun
    refine ⟨z, _, S ++ [u], n, ℓ, rfl, hz, (hR.tk (Same.tk s2)).snoc (hv.tk (Same.tk s2)), hS2, hn, by rw [List.length_append]; show S.length + 1 ≤ 60; omega, hℓ, hcost, fun H3 s3 => ?_⟩
    have s03 := s2.trans s3
    refine ⟨_, rfl, g, xs, S, n, ℓ, rfl, s03 _ _ hg, hR.tk (Same.tk s03), hSn, hn, by omega, hℓ, by rw [LA.cost_append] at hcost; omega, fun H4 s4 => ⟨rfl, ?_⟩⟩
    rw [LA.reduced_in hSn hun hsp]
    rw [decide_eq_true rfl]
    exact q _ (s03.trans s4)
end
end Sp1

set_option Elab.async false
set_option linter.all false
set_option maxRecDepth 100000
set_option maxHeartbeats 4000000
namespace LA
/-- what the law's draws give: at most 8 vectors of at most 7 entries below 2 ^ 90 -/
structure Good (n : Nat) (S : List Vec) : Prop where
  len : ∀ u ∈ S, u.length = n
  n7 : n ≤ 7
  s8 : S.length ≤ 8
  bd : ∀ u ∈ S, ∀ x ∈ u, x.natAbs < 2 ^ 90
theorem Good.cost {n : Nat} {S : List Vec} (g : Good n S) : LA.cost 3 S ≤ 744 := by
  have h := cost_le (ℓ := 3) (a := 90) (S := S) fun u hu => bw_le (by decide) (g.bd u hu)
  have := g.s8
  have : S.length * (90 + 3) ≤ 8 * 93 := Nat.mul_le_mul_right _ this
  omega
theorem Good.take {n : Nat} {S : List Vec} (g : Good n S) (i : Nat) : Good n (S.take i) :=
  ⟨fun u hu => g.len u (List.mem_of_mem_take hu), g.n7, by rw [List.length_take]; have := g.s8; omega, fun u hu => g.bd u (List.mem_of_mem_take hu)⟩
theorem Good.small {n : Nat} {S : List Vec} (g : Good n S) : ∀ c ∈ reduced S, Small 745 c := fun c hc i => by
  have h := canon_bd (ℓ := 3) g.len (by have := g.n7; show n + 1 ≤ 8; omega) hc i
  exact Nat.lt_of_le_of_lt h (Nat.pow_lt_pow_right (by decide) (by have := g.cost; omega))
theorem small_of {n a : Nat} {u : Vec} (h : ∀ x ∈ u, x.natAbs < 2 ^ a) : Small a u := fun i => by
  rcases Nat.lt_or_ge i u.length with hi | hi
  · exact h _ (e_mem hi)
  · rw [e_out hi]
    exact Nat.pow_pos (by decide)
theorem Good.sizes {n : Nat} {S : List Vec} (g : Good n S) : Sp1.Sizes n S 90 745 := by
  have h7 := g.n7
  have h8 := g.s8
  have : n * (745 + 1) ≤ 7 * 746 := Nat.mul_le_mul_right _ h7
  exact ⟨g.len, by omega, by omega, fun u hu => small_of (n := n) (g.bd u hu), fun i c hc => (g.take i).small c hc, by omega⟩
theorem Good.red {n : Nat} {S : List Vec} (g : Good n S) : Red n (reduced S) := reduced_red g.len
theorem Red.reduced {n : Nat} {B : List Vec} (R : Red n B) : LA.reduced B = B :=
  red_unique (reduced_red R.len) R fun v => reduced_sp R.len v
theorem Red.take {n : Nat} {B : List Vec} (R : Red n B) (i : Nat) : Red n (B.take i) :=
  ⟨fun b hb => R.len b (List.mem_of_mem_take hb), fun b hb => R.piv b (List.mem_of_mem_take hb), fun b hb => R.gcd b (List.mem_of_mem_take hb), R.asc.sublist (List.take_sublist _ _), fun b hb c hc => R.cl b (List.mem_of_mem_take hb) c (List.mem_of_mem_take hc)⟩
theorem Good.sizesB {n : Nat} {S : List Vec} (g : Good n S) : Sp1.Sizes n (reduced S) 745 745 := by
  have h7 := g.n7
  have hl := g.red.length_le
  have : n * (745 + 1) ≤ 7 * 746 := Nat.mul_le_mul_right _ h7
  refine ⟨g.red.len, by omega, by omega, g.small, fun i c hc => ?_, by omega⟩
  rw [(g.red.take i).reduced] at hc
  exact g.small c (List.mem_of_mem_take hc)
/-- t is c times u, c not 0 and small -/
def Scl (t u : Vec) : Prop := ∃ c : Int, c ≠ 0 ∧ c.natAbs ≤ 10 ∧ t = u.map fun x => c * x
theorem Scl.len {t u : Vec} (h : Scl t u) : t.length = u.length := by
  obtain ⟨c, _, _, rfl⟩ := h
  exact List.length_map ..
theorem Scl.fwd {n : Nat} {T : List Vec} {t u : Vec} (h : Scl t u) (ht : t ∈ T) (hl : u.length = n) : Sp n T u := by
  have hlt := h.len
  obtain ⟨c, h0, _, rfl⟩ := h
  exact .lin 1 0 c (.mem ht (by omega)) (.mem ht (by omega)) h0 hl fun i => by rw [e_map (f := fun x => c * x) (Int.mul_zero _)]; omega
theorem Scl.bwd {n : Nat} {S : List Vec} {t u : Vec} (h : Scl t u) (hu : u ∈ S) (hl : u.length = n) : Sp n S t := by
  have hlt := h.len
  obtain ⟨c, h0, _, rfl⟩ := h
  exact .lin c 0 1 (.mem hu hl) (.mem hu hl) (by decide) (by omega) fun i => by rw [e_map (f := fun x => c * x) (Int.mul_zero _)]; omega
theorem scaled_reduced {n : Nat} {S T : List Vec} (hS : ∀ u ∈ S, u.length = n) (h1 : ∀ t ∈ T, ∃ u ∈ S, Scl t u) (h2 : ∀ u ∈ S, ∃ t ∈ T, Scl t u) : reduced T = reduced S := by
  have hT : ∀ t ∈ T, t.length = n := fun t ht => by
    obtain ⟨u, hu, h⟩ := h1 t ht
    rw [h.len, hS u hu]
  refine red_unique (reduced_red hT) (reduced_red hS) fun v => ((reduced_sp hT v).trans ⟨fun k => k.sub fun x hx hl => ?_, fun k => k.sub fun x hx hl => ?_⟩).trans (reduced_sp hS v).symm
  · obtain ⟨u, hu, h⟩ := h1 x hx
    exact h.bwd hu (hS u hu)
  · obtain ⟨t, ht, h⟩ := h2 x hx
    exact h.fwd ht hl
theorem Scl.bd {t u : Vec} (h : Scl t u) (hu : ∀ x ∈ u, x.natAbs < 2 ^ 86) : ∀ x ∈ t, x.natAbs < 2 ^ 90 := by
  obtain ⟨c, _, h10, rfl⟩ := h
  intro x hx
  obtain ⟨y, hy, rfl⟩ := List.mem_map.mp hx
  have h1 := hu y hy
  rw [Int.natAbs_mul]
  have : c.natAbs * y.natAbs ≤ 10 * y.natAbs := Nat.mul_le_mul_right _ h10
  have h2 : (2 : Nat) ^ 90 = 16 * 2 ^ 86 := by decide
  omega
theorem ent_86 {S : List Vec} {m : Nat} (hm : m ≤ 8) (h : Sp1.Ent (5 ^ m * 10 ^ 20) S) : ∀ u ∈ S, ∀ x ∈ u, x.natAbs < 2 ^ 86 := fun u hu x hx => by
  have h1 := h u hu x hx
  have h2 : 5 ^ m * 10 ^ 20 ≤ 5 ^ 8 * 10 ^ 20 := Nat.mul_le_mul_right _ (Nat.pow_le_pow_right (by decide) hm)
  have h3 : 5 ^ 8 * 10 ^ 20 < 2 ^ 86 := by decide
  omega
theorem red46 : reduced [[4, -6]] = [[2, -3]] := by decide +kernel
end LA

set_option Elab.async false
set_option linter.all false
set_option maxRecDepth 100000
set_option maxHeartbeats 4000000
namespace Sp1
open PySem PySem.Spec PyProof.Rows L2
theorem dp_bt {K : PySem.W.Frag} {H : Hp} {v : V} {B : List LA.Vec} (h : Bt K H v B) : Dp K H v (.tuple (B.map dv)) := by
  obtain ⟨a, xs, rfl, hS, hR⟩ := h
  exact .tup hS (dp_rows hR)
theorem ne_same (B : List LA.Vec) : (!PyData.eqv (.tuple (B.map dv)) (.tuple (B.map dv))) = false := by
  rw [PySem.SeqAt.eqv_refl _ (Bool.and_eq_true_iff.mp (shaped_t B)).1]
  rfl
theorem use_init {K : PySem.W.Frag} {C : Addr} {v : V} {S : List LA.Vec} {n α β : Nat} {H1 : Hp} {x dx : Addr} {Q : Hp → Prop} {E : XK} (hv : Sv K H1 v S) (hz : Sizes n S α β) (h1 : 1 ≤ n) (h64 : n ≤ 64) (nx : H1 x = none) (ndx : H1 dx = none) (ne : dx ≠ x)
    (q : ∀ H2, Same H1 H2 → Spc K C H2 (.ref x) n (LA.reduced S) → Q H2) : sp_init K C [.ref x, .int (n : Nat), v] (upd (upd H1 dx (.own x)) x (.ins C dx [])) (fun v H2 => v = .non ∧ Q H2) E := by
  have s0 : Same H1 (upd (upd H1 dx (.own x)) x (.ins C dx [])) := fun b o e => by
    rw [upd_ne (ne_of_none e nx), upd_ne (ne_of_none e ndx)]
    exact e
  refine ⟨x, dx, v, S, n, α, β, rfl, upd_same, hv.keep s0, hz, h1, h64, fun H' v' keep hx' hb => ⟨rfl, q H' (fun b o e => ?_) ⟨x, dx, v', rfl, hx', hb⟩⟩⟩
  exact keep b o (ne_of_none e nx) (s0 b o e)
end Sp1

set_option Elab.async false
set_option linter.all false
set_option maxRecDepth 100000
set_option maxHeartbeats 4000000
namespace Sp1
open PySem PySem.Spec PyProof.Rows L2
section
variable {X : Cx}
/-- x in o, o an own instance with __contains__ that answers a bool -/
theorem op_inOwn {k : Nat} {C f : Addr} {fd : FuncData} {sp : Sp} {a1 a2 : Str} (F : FnOk X.prog X.w X.K X.mg X.base CX0 k f fd [a1, a2] sp) (hr : Room (k + 1) X.A) (hb : L2.Binds X.K fd [a1, a2] [])
    (hs : PySem.W.findIn X.K (.ref C) "__contains__" = some (some (.ref f))) (hf : PySem.W.isFn X.K (.ref f) = true) :
    OpR X (compareOp .In) (fun x y H Q => ∃ a dx fs, y = V.ref a ∧ H a = some (.ins C dx fs) ∧ sp [.ref a, x] H (fun v H' => ∃ b : Bool, v = .bl b ∧ Q (.bl b) H') (fun _ _ _ => False)) := by
  intro pins s σ H x y v u Q I rx ry h
  obtain ⟨a, dx, fs, rfl, ea, q⟩ := h
  obtain rfl : u = Value.ref a := ry
  obtain ⟨mA, O, _, _, _, _⟩ := ins_get I.hok ea
  obtain ⟨od, J, _⟩ := O.look
  obtain ⟨m, Fm⟩ := I.fr
  refine PySem.W.in_K Fm I.ok.mod.kin J hs hf ?_
  refine thn (run_fn (X := X) (vs := [.ref a, x]) (us := [.ref a, v]) F (hr.mono (by omega)) hb .nil pass0 I (.cons rfl (.cons rx .nil)) q) fun w s' hw => ?_
  obtain ⟨z, H', I', rv, b, rfl, q'⟩ := hw
  obtain rfl : w = Value.bool b := rv
  exact wpAny_truthy_bool ⟨.bl b, H', I', rfl, q'⟩
theorem op_notinOwn {k : Nat} {C f : Addr} {fd : FuncData} {sp : Sp} {a1 a2 : Str} (F : FnOk X.prog X.w X.K X.mg X.base CX0 k f fd [a1, a2] sp) (hr : Room (k + 1) X.A) (hb : L2.Binds X.K fd [a1, a2] [])
    (hs : PySem.W.findIn X.K (.ref C) "__contains__" = some (some (.ref f))) (hf : PySem.W.isFn X.K (.ref f) = true) :
    OpR X (compareOp .NotIn) (fun x y H Q => ∃ a dx fs, y = V.ref a ∧ H a = some (.ins C dx fs) ∧ sp [.ref a, x] H (fun v H' => ∃ b : Bool, v = .bl b ∧ Q (.bl (!b)) H') (fun _ _ _ => False)) := by
  intro pins s σ H x y v u Q I rx ry h
  obtain ⟨a, dx, fs, rfl, ea, q⟩ := h
  obtain rfl : u = Value.ref a := ry
  obtain ⟨mA, O, _, _, _, _⟩ := ins_get I.hok ea
  obtain ⟨od, J, _⟩ := O.look
  obtain ⟨m, Fm⟩ := I.fr
  refine PySem.W.notIn_K Fm I.ok.mod.kin J hs hf ?_
  refine thn (run_fn (X := X) (vs := [.ref a, x]) (us := [.ref a, v]) F (hr.mono (by omega)) hb .nil pass0 I (.cons rfl (.cons rx .nil)) q) fun w s' hw => ?_
  obtain ⟨z, H', I', rv, b, rfl, q'⟩ := hw
  obtain rfl : w = Value.bool b := rv
  exact wpAny_truthy_bool ⟨.bl (!b), H', I', rfl, q'⟩
end
end Sp1

set_option Elab.async false
set_option linter.all false
set_option maxRecDepth 100000
set_option maxHeartbeats 4000000
namespace LA
theorem reduced_snoc (S : List Vec) (u : Vec) : reduced (S ++ [u]) = withVec (reduced S) u := by
  unfold reduced
  rw [List.foldl_append]
  rfl
theorem withVec_len (B : List Vec) (u : Vec) : (withVec B u).length = B.length + (if isZero (rest B u) then 0 else 1) := by
  unfold withVec
  by_cases h : isZero (rest B u) = true
  · rw [if_pos h, if_pos h]
    rfl
  · rw [if_neg h, if_neg h, (sortP_perm _).length_eq, List.length_append]
    unfold rows
    rw [List.length_map]
    rfl
end LA
namespace Sp1
open PySem PySem.Spec PyProof.Rows L2
def ib : V → Bool
  | .int _ => true
  | _ => false
/-- an int, a bool or None -/
def Ibn (x : V) : Prop := (∃ i, x = .int i) ∨ (∃ b, x = .bl b) ∨ x = .non
section
variable {P : Program} {w : World} {K : PySem.W.Frag} {mg : Str → Option Value} {base : Heap}
def sp_is_integer2 : Sp := fun vs H Q _ => ∃ x, vs = [x] ∧ Ibn x ∧ Q (.bl (ib x)) H
theorem ok_is_integer2 {f : Addr} {fd : FuncData} {k : Nat} (D : Dn K mg "is_integer" s_is_integer ["value"] f fd) (m1 : mg "isinstance" = none) (m2 : mg "int" = none) (m3 : mg "bool" = none) :
    FnOk P w K mg base CX0 (k + 1) f fd ["value"] sp_is_integer2 := by
  refine D.F.ok sc_is_integer (fun vs H Q E h => ?_) (fun cdv A outer s H vs Q E hr h => ?_)
  · obtain ⟨x, rfl, _⟩ := h
    rfl
  · obtain ⟨x, rfl, hx, q⟩ := h
    refine ⟨_, pss_one (ps_ret (pe_and (pe_callB call_isi (by rfl) m1 (by decide +kernel) (pa_cons (pv 0) (pa_cons (pe_ty (n := "int") (by rfl) m2 (by decide +kernel)) pa_nil)))
      (pe_one (pe_not (pe_callB call_isi (by rfl) m1 (by decide +kernel) (pa_cons (pv 0) (pa_cons (pe_ty (n := "bool") (by rfl) m3 (by decide +kernel)) pa_nil))))))), ?_⟩
    rcases hx with ⟨i, rfl⟩ | ⟨b, rfl⟩ | rfl
    · refine ⟨_, rfl, .int i, .ty "int", _, _, true, rfl, .ty _, .base (.int i), kit_ty (by decide +kernel), true, rfl, iteT ?_⟩
      exact ⟨_, rfl, .int i, .ty "bool", _, _, false, rfl, .ty _, .base (.int i), kit_ty (by decide +kernel), false, rfl, q⟩
    · refine ⟨_, rfl, .bl b, .ty "int", _, _, true, rfl, .ty _, .base (.bl b), kit_ty (by decide +kernel), true, rfl, iteT ?_⟩
      exact ⟨_, rfl, .bl b, .ty "bool", _, _, true, rfl, .ty _, .base (.bl b), kit_ty (by decide +kernel), true, rfl, q⟩
    · refine ⟨_, rfl, .non, .ty "int", _, _, false, rfl, .ty _, .base .non, kit_ty (by decide +kernel), false, rfl, iteF ?_⟩
      exact q
/-- what is no tuple -/
def NoTup (K : PySem.W.Frag) (H : Hp) (x : V) : Prop := TyX K H x (.type "NoneType") ∨ TyX K H x (.type "int") ∨ TyX K H x (.type "str") ∨ TyX K H x (.type "list")
/-- is_vector: x, at width n, answers c -/
def VecOr (K : PySem.W.Frag) (H : Hp) (x : V) (n : Nat) (c : Bool) : Prop := (NoTup K H x ∧ c = false) ∨ ∃ a xs, x = .ref a ∧ SqT K H a xs ∧ xs.length ≤ 500 ∧ ((xs.length ≠ n ∧ c = false) ∨ (xs.length = n ∧ (∀ y ∈ xs, Ibn y) ∧ c = xs.all ib))
def sp_is_vector2 (K : PySem.W.Frag) : Sp := fun vs H Q _ => ∃ x n c, vs = [x, .int (n : Nat)] ∧ VecOr K H x n c ∧ ∀ H', Same H H' → Q (.bl c) H'
theorem ok_is_vector2 {f f1 : Addr} {fd fd1 : FuncData} {k : Nat} (D : Dn K mg "is_vector" s_is_vector ["candidate", "width"] f fd) (D1 : Dn K mg "is_integer" s_is_integer ["value"] f1 fd1)
    (G1 : FnOk P w K mg base CX0 k f1 fd1 ["value"] sp_is_integer2) (m1 : mg "isinstance" = none) (m2 : mg "tuple" = none) (m3 : mg "len" = none) (m4 : mg "all" = none) :
    FnOk P w K mg base CX0 (k + 1) f fd ["candidate", "width"] (sp_is_vector2 K) := by
  refine D.F.ok sc_is_vector (fun vs H Q E h => ?_) (fun cdv A outer s H vs Q E hr h => ?_)
  · obtain ⟨x, n, c, rfl, _⟩ := h
    rfl
  · obtain ⟨x, n, c, rfl, hv, q⟩ := h
    have nd := sc_is_vector.nd
    refine ⟨_, pss_cons (ps_if (PW.pt (pw_or (pt_not (pt_val (pe_callB call_isi (by rfl) m1 (by decide +kernel) (pa_cons (pv 0) (pa_cons (pe_ty (n := "tuple") (by rfl) m2 (by decide +kernel)) pa_nil)))))
        (pw_or1 (pt_cmpR op_ne (pe_callB call_len_seq (by rfl) m3 PySem.boot_len (pa_cons (pv 0) pa_nil)) (pv 1) (nomark _))))) (pss_one (ps_ret pe_bl)) pss_nil)
      (pss_one (ps_ret (pe_callB (cr_all rfl) (by rfl) m4 (by decide +kernel) (pa_cons
        (pe_lc (own := [("entry", 2)]) (g := gName 2) (tt := tYes) rfl nd (pi_tup (pv 0)) (blkOk_by (N := N_is_vector) (sc := defScope s_is_vector) (by decide +kernel)) (fun _ _ _ _ _ => pg_name (i := 2) nd rfl (Or.inl rfl)) (fun _ _ _ _ _ => pts_nil)
          (fun _ _ _ _ _ => pe_call G1 hr (by rfl) D1.g D1.kp D1.b .nil pass0 (pa_cons (pv 2) pa_nil))) pa_nil)))), ?_⟩
    rcases hv with ⟨hno, rfl⟩ | ⟨a, xs, rfl, hS, hl, hc⟩
    · rcases hno with t | t | t | t <;>
        exact ⟨_, rfl, x, .ty "tuple", _, _, false, rfl, .ty _, t, kit_ty (by decide +kernel), false, rfl, iteT (q _ (Same.refl _))⟩
    · refine ⟨_, rfl, .ref a, .ty "tuple", _, _, true, rfl, .ty _, tyx_tup hS, kit_ty (by decide +kernel), true, rfl, ?_⟩
      refine iteF ?_
      refine ⟨_, rfl, a, _, rfl, .inr hS, _, rfl, rfl, _, rfl, ?_⟩
      rcases hc with ⟨hne, rfl⟩ | ⟨rfl, hx, rfl⟩
      · rw [decide_eq_false (fun z => hne (by have := V.int.inj z; omega))]
        exact iteT (q _ (Same.refl _))
      · refine iteNS rfl ?_
        refine ⟨_, rfl, a, rfl, ⟨_, hS⟩, fun D nD => ?_⟩
        refine lc_it (walk_tup (K := K) (a := a) (xs := xs)) (Acc H D fun i => V.bl (ib (xs.getD i .non))) (Acc.start nD) (fun i H' _ h => Same.sqt h.1 hS) ?_ ?_
        · rintro i y H1 H2 hi h ⟨rfl, hy⟩
          refine ⟨rfl, ?_⟩
          dsimp only [tYes]
          refine iteT ?_
          refine ⟨_, rfl, y, rfl, hx y (List.mem_of_getElem? hy), ?_⟩
          exact h.turn nD (Same.refl _) (by omega) (by rw [List.getD_eq_getElem?_getD, hy]; rfl)
        · rintro H1 h
          have hbs : (List.range xs.length).map (fun i => V.bl (ib (xs.getD i .non))) = (xs.map ib).map V.bl := by
            apply List.ext_getElem
            · rw [List.length_map, List.length_range, List.length_map, List.length_map]
            · intro i h1 h2
              rw [List.length_map, List.length_range] at h1
              rw [List.getElem_map, List.getElem_range, List.getElem_map, List.getElem_map, List.getD_eq_getElem?_getD, List.getElem?_eq_getElem h1]
              rfl
          have h2 := h.2
          rw [hbs] at h2
          refine ⟨D, xs.map ib, rfl, SqL.of h2, ?_⟩
          rw [List.all_map]
          exact q _ h.1
/-! is_spanned -/
abbrev s_is_spanned : Stmt := top 16
theorem sc_is_spanned : FnScope ["basis", "vector"] ["basis", "vector"] (defScope s_is_spanned) := ⟨rfl, rfl, rfl, by decide +kernel, rfl, by decide +kernel, by decide +kernel⟩
def sp_is_spanned (K : PySem.W.Frag) : Sp := fun vs H Q _ => ∃ x v B u n a b, vs = [x, v] ∧ Bt K H x B ∧ Vc K H v u ∧ u.length = n ∧ n ≤ 1000 ∧ RowsOk n b B ∧ LA.Small a u ∧ a + B.length * (b + 1) ≤ 9000 ∧
  ∀ H', Same H H' → Q (.bl (LA.isZero (LA.rest B u))) H'
theorem ok_is_spanned {f f1 : Addr} {fd fd1 : FuncData} {k : Nat} (D : Dn K mg "is_spanned" s_is_spanned ["basis", "vector"] f fd) (D1 : Dn K mg "rest_beside" s_rest_beside ["basis", "vector"] f1 fd1)
    (G1 : FnOk P w K mg base CX0 k f1 fd1 ["basis", "vector"] (sp_rest_beside K)) (m1 : mg "any" = none) : FnOk P w K mg base CX0 (k + 1) f fd ["basis", "vector"] (sp_is_spanned K) := by
  refine D.F.ok sc_is_spanned (fun vs H Q E h => ?_) (fun cdv A outer s H vs Q E hr h => ?_)
  · obtain ⟨x, v, B, u, n, a, b, rfl, _⟩ := h
    rfl
  · obtain ⟨x, v, B, u, n, a, b, rfl, hB, hv, hun, hn, hrow, sa, hab, q⟩ := h
    refine ⟨_, pss_one (ps_ret (pe_not (pe_callB (call_anyT rfl) (by rfl) m1 (by decide +kernel) (pa_cons (pe_call G1 hr (by rfl) D1.g D1.kp D1.b .nil pass0 (pa_cons (pv 0) (pa_cons (pv 1) pa_nil))) pa_nil)))), ?_⟩
    refine ⟨_, rfl, _, rfl, x, v, B, u, n, a, b, rfl, hB, hv, hun, hn, hrow, sa, hab, fun v' H' s' hv' => ?_⟩
    obtain ⟨r, rfl, hr'⟩ := hv'
    refine ⟨r, _, rfl, hr', _, rfl, ?_⟩
    rw [Bool.not_not]
    exact q _ s'
/-! _law_is_in, both answers -/
def sp_is_in2 (K : PySem.W.Frag) : Sp := fun vs H Q _ => ∃ (v : V) (u : LA.Vec) (g : Addr) (xs : List V) (S : List LA.Vec) (n ℓ : Nat), vs = [v, .ref g] ∧ Vc K H v u ∧ u.length = n ∧ H g = some (.lst xs) ∧ Rws K H xs S ∧ (∀ u ∈ S, u.length = n) ∧ n ≤ 60 ∧ S.length ≤ 50 ∧ n + 1 ≤ 2 ^ ℓ ∧ LA.cost ℓ (S ++ [u]) ≤ 8000 ∧
  ∀ H', Same H H' → Q (.bl (LA.isZero (LA.rest (LA.reduced S) u))) H'
theorem ok_is_in2 {f f1 : Addr} {fd fd1 : FuncData} {k : Nat} (D : Dn K mg "_law_is_in" s_is_in ["_law_vector_here", "_law_vectors_here"] f fd) (D1 : Dn K mg "_law_rank" s_rank ["_law_vectors_here"] f1 fd1)
    (G1 : FnOk P w K mg base CX0 k f1 fd1 ["_law_vectors_here"] (sp_rank K)) : FnOk P w K mg base CX0 (k + 1) f fd ["_law_vector_here", "_law_vectors_here"] (sp_is_in2 K) := by
  refine D.F.ok sc_is_in (fun vs H Q E h => ?_) (fun cdv A outer s H vs Q E hr h => ?_)
  · obtain ⟨v, u, g, xs, S, n, ℓ, rfl, _⟩ := h
    rfl
  · obtain ⟨v, u, g, xs, S, n, ℓ, rfl, hv, hun, hg, hR, hSn, hn, hSl, hℓ, hcost, q⟩ := h
    have nd := sc_is_in.nd
    refine ⟨_, pss_one (ps_ret (pe_cmpR op_eq (pe_call G1 hr (by rfl) D1.g D1.kp D1.b .nil pass0 (pa_cons (pe_op op_cat (pv 1) (pe_lst (pa_cons (pv 0) pa_nil))) pa_nil)) (pe_call G1 hr (by rfl) D1.g D1.kp D1.b .nil pass0 (pa_cons (pv 1) pa_nil)) (nomark _))), ?_⟩
    refine ⟨_, rfl, _, rfl, by show 1 ≤ sizeLine; decide, fun l nl => ?_⟩
    have sl : Same H (upd H l (.lst [v])) := same_new nl
    have hl : (upd H l (.lst [v])) l = some (.lst [v]) := upd_same
    generalize upd H l (.lst [v]) = H1 at sl hl
    have hxl := hR.1
    refine ⟨g, l, _, _, rfl, rfl, sl _ _ hg, hl, Nat.le_of_lt (small1000 (by rw [hxl]; show S.length + 1 ≤ 1000; omega)), fun z nz => ?_⟩
    have sz : Same H1 (upd H1 z (.lst (xs ++ [v]))) := same_new nz
    have hz : (upd H1 z (.lst (xs ++ [v]))) z = some (.lst (xs ++ [v])) := upd_same
    generalize upd H1 z (.lst (xs ++ [v])) = H2 at sz hz
    have s2 := sl.trans sz
    have hS2 : ∀ w ∈ S ++ [u], w.length = n := fun w hw => by
      rcases List.mem_append.mp hw with hw | hw
      · exact hSn w hw
      · rw [List.mem_singleton.mp hw]; exact hun
    refine ⟨z, _, S ++ [u], n, ℓ, rfl, hz, (hR.tk (Same.tk s2)).snoc (hv.tk (Same.tk s2)), hS2, hn, by rw [List.length_append]; show S.length + 1 ≤ 60; omega, hℓ, hcost, fun H3 s3 => ?_⟩
    have s03 := s2.trans s3
    refine ⟨_, rfl, g, xs, S, n, ℓ, rfl, s03 _ _ hg, hR.tk (Same.tk s03), hSn, hn, by omega, hℓ, by rw [LA.cost_append] at hcost; omega, fun H4 s4 => ⟨rfl, ?_⟩⟩
    rw [LA.reduced_snoc, LA.withVec_len]
    have hb : decide (V.int (((LA.reduced S).length + (if LA.isZero (LA.rest (LA.reduced S) u) = true then 0 else 1) : Nat) : Int) = V.int ((LA.reduced S).length : Nat)) = LA.isZero (LA.rest (LA.reduced S) u) := by
      cases LA.isZero (LA.rest (LA.reduced S) u)
      · rw [if_neg Bool.false_ne_true]
        exact decide_eq_false fun z => by have := V.int.inj z; omega
      · rw [if_pos rfl]
        exact decide_eq_true rfl
    rw [hb]
    exact q _ (s03.trans s4)
/-! __contains__ -/
abbrev s_contains : Stmt := inClass (top 27) 7
theorem sc_contains : FnScope ["self", "x"] ["self", "x"] (defScope s_contains) := ⟨rfl, rfl, rfl, by decide +kernel, rfl, by decide +kernel, by decide +kernel⟩
def sp_contains (K : PySem.W.Frag) (C : Addr) : Sp := fun vs H Q _ => ∃ s x n B, vs = [s, x] ∧ Spc K C H s n B ∧
  ((VecOr K H x n false ∧ ∀ H', Same H H' → Q (.bl false) H') ∨ ∃ u a b, Vc K H x u ∧ u.length = n ∧ n ≤ 400 ∧ RowsOk n b B ∧ LA.Small a u ∧ a + B.length * (b + 1) ≤ 9000 ∧ ∀ H', Same H H' → Q (.bl (LA.isZero (LA.rest B u))) H')
theorem ok_contains {f f1 f2 : Addr} {fd fd1 fd2 : FuncData} {k : Nat} {C : Addr} (F : Fun K "__contains__" "Space.__contains__" s_contains f fd) (T : SpTxt K C)
    (D1 : Dn K mg "is_vector" s_is_vector ["candidate", "width"] f1 fd1) (G1 : FnOk P w K mg base CX0 k f1 fd1 ["candidate", "width"] (sp_is_vector2 K))
    (D2 : Dn K mg "is_spanned" s_is_spanned ["basis", "vector"] f2 fd2) (G2 : FnOk P w K mg base CX0 k f2 fd2 ["basis", "vector"] (sp_is_spanned K)) : FnOk P w K mg base CX0 (k + 1) f fd ["self", "x"] (sp_contains K C) := by
  refine F.ok sc_contains (fun vs H Q E h => ?_) (fun cdv A outer s H vs Q E hr h => ?_)
  · obtain ⟨s, x, n, B, rfl, _⟩ := h
    rfl
  · obtain ⟨sv, x, n, B, rfl, ⟨a, dx, v, rfl, h1, hB⟩, h⟩ := h
    refine ⟨_, pss_one (ps_ret (pe_and (pe_call G1 hr (by rfl) D1.g D1.kp D1.b .nil pass0 (pa_cons (pv 1) (pa_cons (pe_fld (pv 0) rfl) pa_nil))) (pe_one (pe_call G2 hr (by rfl) D2.g D2.kp D2.b .nil pass0 (pa_cons (pe_fld (pv 0) rfl) (pa_cons (pv 1) pa_nil)))))), ?_⟩
    refine ⟨_, rfl, _, rfl, a, C, dx, _, _, rfl, h1, T.cl, T.nW, sf_w _ _, ?_⟩
    rcases h with ⟨hv, q⟩ | ⟨u, al, be, hv, hun, hn, hrow, sa, hab, q⟩
    · exact ⟨x, n, false, rfl, hv, fun H' s' => ⟨false, rfl, iteF (q H' s')⟩⟩
    · have hvo : VecOr K H x n true := by
        obtain ⟨b, rfl, hS⟩ := hv
        refine .inr ⟨b, _, rfl, hS, by rw [List.length_map]; omega, .inr ⟨by rw [List.length_map]; exact hun, fun y hy => ?_, ?_⟩⟩
        · obtain ⟨i, _, rfl⟩ := List.mem_map.mp hy
          exact .inl ⟨i, rfl⟩
        · symm
          rw [List.all_eq_true]
          intro y hy
          obtain ⟨i, _, rfl⟩ := List.mem_map.mp hy
          rfl
      refine ⟨x, n, true, rfl, hvo, fun H' s' => ⟨true, rfl, iteT ?_⟩⟩
      refine ⟨_, rfl, a, C, dx, _, _, rfl, s' _ _ h1, T.cl, T.nB, sf_b _ _, _, rfl, v, x, B, u, n, al, be, rfl, hB.tk (Same.tk s'), hv.tk (Same.tk s'), hun, by omega, hrow, sa, hab, fun H2 s2 => q _ (s'.trans s2)⟩
end
end Sp1

set_option Elab.async false
set_option linter.all false
set_option maxRecDepth 100000
set_option maxHeartbeats 4000000
namespace LA
def unit (n p : Nat) : Vec := (List.range n).map fun a => if a = p then 1 else 0
def units (n : Nat) : List Vec := (List.range n).map (unit n)
theorem unit_len (n p : Nat) : (unit n p).length = n := by unfold unit; rw [List.length_map, List.length_range]
theorem units_len (n : Nat) : (units n).length = n := by unfold units; rw [List.length_map, List.length_range]
theorem units_mem {n : Nat} {u : Vec} (h : u ∈ units n) : ∃ p, p < n ∧ u = unit n p := by
  obtain ⟨p, hp, rfl⟩ := List.mem_map.mp h
  exact ⟨p, List.mem_range.mp hp, rfl⟩
theorem units_take {n i : Nat} (h : i < n) : (units n).take (i + 1) = (units n).take i ++ [unit n i] := by
  unfold units
  rw [List.take_add_one, List.getElem?_map, List.getElem?_range h]
  rfl
end LA
namespace Sp1
open PySem PySem.Spec PyProof.Rows L2
abbrev rTupOf (K : PySem.W.Frag) : List V → Hp → VK → Prop := fun xs H Q => ∃ p ys, xs = [V.ref p] ∧ ((SqL K H p ys ∧ ∀ t, H t = none → Q (.ref t) (upd H t (.tup ys))) ∨ (SqT K H p ys ∧ Q (.ref p) H))
abbrev s_uv : Stmt := top 19
abbrev uvScope : Scope := { kind := .function, names := [(Str.ofString ".0", .local), (Str.ofString "place", .cell), (Str.ofString "tuple", .globalImplicit), (Str.ofString "range", .globalImplicit), (Str.ofString "width", .cell)], isGenerator := false, isCoroutine := false }
section
variable {P : Program} {w : World} {K : PySem.W.Frag} {mg : Str → Option Value} {base : Heap}
abbrev N_uv : List Str := ["width", "place", "at"]
theorem sc_uv : FnScope N_uv ["width"] (defScope s_uv) := ⟨rfl, rfl, rfl, by decide +kernel, rfl, by decide +kernel, by decide +kernel⟩
def sp_uv (K : PySem.W.Frag) : Sp := fun vs H Q _ => ∃ n : Nat, vs = [.int (n : Nat)] ∧ n ≤ 64 ∧ ∀ v H', Same H H' → Bt K H' v (LA.units n) → Q v H'
theorem ok_uv {f : Addr} {fd : FuncData} {k : Nat} (D : Dn K mg "unit_vectors" s_uv ["width"] f fd) (m1 : mg "tuple" = none) (m2 : mg "range" = none) (m3 : mg "int" = none) : FnOk P w K mg base CX0 (k + 1) f fd ["width"] (sp_uv K) := by
  refine D.F.ok sc_uv (fun vs H Q E h => ?_) (fun cdv A outer s H vs Q E hr h => ?_)
  · obtain ⟨n, rfl, _⟩ := h
    rfl
  · obtain ⟨n, rfl, hn, q⟩ := h
    have nd := sc_uv.nd
    refine ⟨_, pss_one (ps_ret (pe_callTy call_tuple_of (by rfl) m1 (by decide +kernel) (pa_cons
      (pe_lc (own := [("place", 1)]) (g := gName 1) (tt := tYes) rfl nd (pi_range1 (by rfl) m2 (pa_cons (pv 0) pa_nil)) (blkOk_by (N := N_uv) (sc := defScope s_uv) (by decide +kernel))
        (fun _ _ _ _ _ => pg_name (i := 1) nd rfl (Or.inr rfl)) (fun _ _ _ _ _ => pts_nil)
        (fun _ _ _ _ _ => pe_callTy (r := rTupOf K) call_tuple_of (by rfl) m1 (by decide +kernel) (pa_cons
          (pe_lc (own := [("at", 2)]) (g := gName 2) (tt := tYes) rfl nd (pi_range1 (by rfl) m2 (pa_cons (pv 0) pa_nil)) (blkOk_by (N := N_uv) (sc := uvScope) (by decide +kernel))
            (fun _ _ _ _ _ => pg_name (i := 2) nd rfl (Or.inl rfl)) (fun _ _ _ _ _ => pts_nil)
            (fun _ _ _ _ _ => pe_callTy call_int1 (by rfl) m3 (by decide +kernel) (pa_cons (pe_cmpR op_eq (pv 2) (pv 1) (nomark _)) pa_nil))) pa_nil))) pa_nil))), ?_⟩
    refine ⟨_, rfl, (n : Nat), rfl, by omega, by omega, fun D nD => ?_⟩
    refine lc_it (walk_range (lo := 0) (n := ((n : Nat) : Int).toNat)) (fun i H' => Same H H' ∧ ∃ acc, H' D = some (.lst acc) ∧ Rws K H' acc ((LA.units n).take i)) ⟨same_new nD, [], upd_same, Rws.nil⟩ (fun _ _ _ _ => trivial) ?_ ?_
    · rintro i x H1 H2 hi ⟨s1, acc, eD, hacc⟩ ⟨rfl, rfl⟩
      have hin : i < n := by omega
      refine ⟨rfl, ?_⟩
      dsimp only [tYes]
      refine iteT ?_
      refine ⟨_, rfl, (n : Nat), rfl, by omega, by omega, fun D2 nD2 => ?_⟩
      refine lc_it (walk_range (lo := 0) (n := ((n : Nat) : Int).toNat)) (Acc H2 D2 fun a => V.int (if a = i then 1 else 0)) (Acc.start nD2) (fun _ _ _ _ => trivial) ?_ ?_
      · rintro j x H3 H4 hj h ⟨rfl, rfl⟩
        refine ⟨rfl, ?_⟩
        dsimp only [tYes]
        refine iteT ?_
        refine ⟨_, rfl, _, rfl, rfl, .inr ⟨_, rfl, ?_⟩⟩
        refine h.turn nD2 (Same.refl _) (by omega) ?_
        by_cases hji : j = i
        · subst hji
          rw [decide_eq_true rfl, if_pos rfl, if_pos rfl]
        · rw [decide_eq_false (fun z => hji (by have := V.int.inj z; omega)), if_neg Bool.false_ne_true, if_neg hji]
      · rintro H3 h
        rw [Int.toNat_natCast] at h
        refine ⟨D2, _, rfl, .inl ⟨SqL.of h.2, fun l nl => ?_⟩⟩
        have hcomb : (List.range n).map (fun a => V.int (if a = i then 1 else 0)) = (LA.unit n i).map V.int := by
          unfold LA.unit
          rw [List.map_map]
          rfl
        rw [hcomb]
        have sl : Same H3 (upd H3 l (.tup ((LA.unit n i).map V.int))) := same_new nl
        have el : (upd H3 l (.tup ((LA.unit n i).map V.int))) l = some (.tup ((LA.unit n i).map V.int)) := upd_same
        generalize upd H3 l (.tup ((LA.unit n i).map V.int)) = H5 at sl el
        have s25 := h.1.trans sl
        have eD5 := s25 _ _ eD
        refine ⟨acc, eD5, small1000 (by rw [hacc.1, List.length_take]; omega), same_at nD (s1.trans s25), acc ++ [.ref l], upd_same, ?_⟩
        rw [LA.units_take hin]
        exact ((hacc.tk (Same.tk s25)).snoc ⟨l, rfl, SqT.of el⟩).tk (tk_lst eD5)
    · rintro H1 ⟨s1, acc, eD, hacc⟩
      rw [Int.toNat_natCast, List.take_of_length_le (by rw [LA.units_len]; exact Nat.le_refl _)] at hacc
      refine ⟨D, _, rfl, .inl ⟨SqL.of eD, fun t nt => ?_⟩⟩
      have st : Same H1 (upd H1 t (.tup acc)) := same_new nt
      refine q _ _ (s1.trans st) ⟨t, acc, rfl, SqT.of upd_same, ?_⟩
      exact hacc.tk (Same.tk st)
end
end Sp1

set_option Elab.async false
set_option linter.all false
set_option maxRecDepth 100000
set_option maxHeartbeats 4000000
namespace LA
theorem units_good {n : Nat} (h : n ≤ 7) : Good n (units n) := by
  refine ⟨fun u hu => ?_, h, by rw [units_len]; omega, fun u hu x hx => ?_⟩
  · obtain ⟨p, _, rfl⟩ := units_mem hu
    exact unit_len n p
  · obtain ⟨p, _, rfl⟩ := units_mem hu
    unfold unit at hx
    obtain ⟨a, _, rfl⟩ := List.mem_map.mp hx
    split <;> decide
end LA
namespace Sp1
open PySem PySem.Spec PyProof.Rows L2
section
variable {X : Cx} {CX : CXT} {k i : Nat} {C f : Addr} {fd : FuncData} {ps : List Str} {sp : Sp} {dvs : List V} {ds : List Value} {E : XK} {x : Str} {p pos : Pos} {e : Expr} {es : List Expr} {t : TA}
/-- C(..) through a local that holds the class C -/
def tMakeL (i : Nat) (C : Addr) (sp : Sp) (dvs : List V) (E : XK) (t : TA) : TE := fun σ H Q => σ[i]? = some (some (.ref C)) ∧ tMake C sp dvs E t σ H Q
theorem pe_makeL (M : Mk X.K C f) (F : FnOk X.prog X.w X.K X.mg X.base CX k f fd ps sp) (hr : Room (k + 1) X.A) (hN : X.N[i]? = some x) (hv : Vis X.env.scope x) (hb : L2.Binds X.K fd ps ds) (hd : Vals dvs ds) (hx : Passes CX X E) (ha : PA X (e :: es) t)
    (hdb : (x == ("__debug__" : Str)) = false := by decide) (hcd : (x == ("__classdict__" : Str)) = false := by decide)
    (he : starEach (e :: es) X.env = (false, eval e X.env) :: starEach es X.env := by rfl) (hpl : (backTo pos (starEach es X.env)).any (·.1) = false := by rfl) : PE X (.Call (.Name x p) (e :: es) [] pos) (tMakeL i C sp dvs E t) := by
  refine ⟨fun pins s σ H Q I h => ?_⟩
  obtain ⟨hs, h⟩ := h
  refine wpAny_Call_Name_kw (thn ((pe_var (pos := p) (i := i) hN hv hdb hcd).run pins s σ H (fun v H1 => v = .ref C ∧ H1 = H) I ⟨.ref C, hs, rfl, rfl⟩) fun u s1 ⟨v, H1, I1, r1, ev, eH⟩ => ?_)
  subst ev
  rw [eH] at I1
  cases r1
  refine PySem.W.callWith_K (h₀ := X.base) I.ok.mod.kin M.kp (thn (ha.run pos pins s1 σ H _ I1 h) fun us s2 ⟨vs, H2, I2, r, q⟩ => ⟨I2.kIn, ?_⟩) he hpl
  exact run_make M F hr hb hd hx I2 r q
end
section
variable {P : Program} {w : World} {K : PySem.W.Frag} {mg : Str → Option Value} {base : Heap}
abbrev s_full : Stmt := inClass (top 27) 1
theorem sc_full : FnScope ["cls", "width"] ["cls", "width"] (defScope s_full) := ⟨rfl, rfl, rfl, by decide +kernel, rfl, by decide +kernel, by decide +kernel⟩
def sp_full (K : PySem.W.Frag) (C : Addr) : Sp := fun vs H Q _ => ∃ n : Nat, vs = [.ref C, .int (n : Nat)] ∧ 1 ≤ n ∧ n ≤ 7 ∧ ∀ x H', Same H H' → Spc K C H' x n (LA.reduced (LA.units n)) → Q x H'
theorem ok_full {f f1 f2 fI C : Addr} {fd fd1 fd2 fdI : FuncData} {k : Nat} (F : Fun K "full" "Space.full" s_full f fd) (M : Mk K C fI) (GI : FnOk P w K mg base CX0 k fI fdI ["self", "width", "vectors"] (sp_init K C)) (bI : L2.Binds K fdI ["self", "width", "vectors"] [])
    (D1 : Dn K mg "check_width" s_check_width ["value"] f1 fd1) (G1 : FnOk P w K mg base CX0 (k + 1) f1 fd1 ["value"] sp_check_width)
    (D2 : Dn K mg "unit_vectors" s_uv ["width"] f2 fd2) (G2 : FnOk P w K mg base CX0 (k + 1) f2 fd2 ["width"] (sp_uv K)) : FnOk P w K mg base CX0 (k + 2) f fd ["cls", "width"] (sp_full K C) := by
  refine F.ok sc_full (fun vs H Q E h => ?_) (fun cdv A outer s H vs Q E hr h => ?_)
  · obtain ⟨n, rfl, _⟩ := h
    rfl
  · obtain ⟨n, rfl, h1, h7, q⟩ := h
    refine ⟨_, pss_cons (ps_expr (pe_call G1 hr (by rfl) D1.g D1.kp D1.b .nil pass0 (pa_cons (pv 1) pa_nil)))
      (pss_one (ps_ret (pe_makeL (i := 0) M GI hr rfl (Or.inl rfl) bI .nil pass0 (pa_cons (pv 1) (pa_cons (pe_call G2 hr (by rfl) D2.g D2.kp D2.b .nil pass0 (pa_cons (pv 1) pa_nil)) pa_nil))))), ?_⟩
    refine ⟨_, rfl, _, rfl, by omega, by omega, ?_⟩
    refine ⟨rfl, _, rfl, _, rfl, n, rfl, by omega, fun v H1 s1 hB => ?_⟩
    refine fun x dx nx ndx ne => use_init (n := n) hB.sv (LA.units_good h7).sizes h1 (by omega) nx ndx ne fun H2 s2 hsp => q _ _ (s1.trans s2) hsp
end
end Sp1

set_option Elab.async false
set_option linter.all false
set_option maxRecDepth 100000
set_option maxHeartbeats 4000000
namespace PySem.W
open PySem PySem.Calls PyProof.Rows Builtin
section
variable {prog : Program} {w : World} {A : Around} {E : Value → Shared → Prop} {s : Shared} {K : Frag} {x C L f : Addr} {h₀ : Heap} {m : Str → Option Value} {ox : Obj} {od : Option Obj} {b tb : Value}
theorem own_ne_K {Q : Value → Shared → Prop} (hu : A.units < cLine) (hu1 : A.in1.units < cLine) (FF : Fr h₀ L s.heap m) (X₀ : K.In h₀) (I : InstAt s.heap x ox C od) (hb : Looks (model prog w) s.heap (typeOf b) tb) (hn : notFirst K C tb = true)
    (hs : findIn K (.ref C) "__eq__" = some (some (.ref f))) (hf : isFn K (.ref f) = true) (hne : findIn K (.ref C) "__ne__" = some (some (.builtin "object.__ne__"))) (hm : mroIn K C (.type "object") = some true)
    (h : wpAny (model prog w) A.in1 (call (.ref f) [.ref x, b]) (fun v s' => ∃ c, v = .bool c ∧ Q (.bool (!c)) s') E s) : wpAny (model prog w) A (richCompare .NotEq (.ref x) b) Q E s := by
  have X := X₀.keeps FF.keep
  have hi : Looks (model prog w) s.heap (isInstance (.ref x) (.type "object")) true := I.type.andThen (looks_mroIn X hm)
  have body : ∀ R : Result → Shared → Prop, (∀ c s', Q (.bool c) s' → R (.ok (.ret (.bool c))) s') → (∀ e s', E e s' → R (.error e) s') →
      wpAny (model prog w) A.in1 (Builtin.«object.__ne__» ⟨[.ref x, b], []⟩) (GQ.FinOf prog w A R) (fun e s' => R (.error e) s') s := by
    intro R hR hE
    unfold Builtin.«object.__ne__»
    repeat (first
      | with_reducible refine wpAny_cRoomFor hu1 ?_
      | (refine wpAny_bind (m := callSpecialIfBound? (.ref x) (Str.ofString "__eq__") [b])
          (ifBound_K X I hs hf (wpAny_mono h (fun r s' hr => by
            obtain ⟨c, rfl, hq⟩ := hr
            have hq' := hR _ _ hq
            repeat (first | exact hq' | exact wpAny_pure hq' | exact wpAny_truthy_bool hq' | (refine wpAny_bind (m := truthy (.bool _)) (wpAny_truthy_bool ?_)) | wp_step)) fun _ _ e => hE _ _ e)))
      | wp_step)
  have own_call : ∀ {Q' : Value → Shared → Prop}, wpAny (model prog w) A.in1 (Builtin.«object.__ne__» ⟨[.ref x, b], []⟩) (GQ.FinOf prog w A (wants Q' E)) (fun e s' => wants Q' E (.error e) s') s → wpAny (model prog w) A (call (.builtin "object.__ne__") ([.ref x] ++ [b])) Q' E s := fun h =>
    wpAny_call (codeAny_call_builtin F.cmp_object.ne.plain F.cmpEntry_ne (check_slot F.cmpKind_ne F.cmpSplit_ne hi (F.cmpArgs_ne _ _) h))
  have one : wpAny (model prog w) A (tryCompare (.ref x) "__ne__" b) (fun r s' => ∃ v, r = some v ∧ Q v s') E s := by
    unfold tryCompare
    refine wpAny_bind ?_
    simp only [callSpecialIfBound?, bindSpecialIfBound?]
    refine wpAny_holding (wpAny_bind (wpAny_bind (wpAny_bind (I.type.here ((looks_findIn X hne).here ?_)))))
    refine wpAny_bind (wpAny_askSetting (wpAny_ite ?_))
    have hbd := F.cmp_object.ne.bind (.ref x)
    have fin : wpAny (model prog w) A (call (.builtin "object.__ne__") ([.ref x] ++ [b]) >>= fun v => pure (some v)) (fun r s' => wpAny (model prog w) A (match r with | some .notImplemented | none => pure none | some v => pure (some v)) (fun r s' => ∃ v, r = some v ∧ Q v s') E s') E s := by
      refine wpAny_bind (own_call (body _ (fun c s' q => ?_) (fun e s' q => q)))
      exact wpAny_pure (wpAny_pure ⟨_, rfl, q⟩)
    split
    · rw [hbd]
      exact wpAny_bind (wpAny_pure (wpAny_pure (by exact fin)))
    · rw [hbd]
      exact wpAny_tryCatch (wpAny_bind (wpAny_pure (wpAny_pure (by exact fin))))
  unfold richCompare
  simp only [oneThing_ref]
  refine wpAny_holding (wpAny_bind (wpAny_cRoomFor hu ?_))
  refine wpAny_bind (I.type.here (wpAny_bind (hb.here ?_)))
  split
  · rename_i q
    have e : subIn K tb (.ref C) = some false := by
      rcases Bool.or_eq_true_iff.mp hn with e | e
      · rw [beq_iff_eq.mp e] at q; simp at q
      · exact beq_iff_eq.mp e
    refine wpAny_bind ((looks_subIn X e).here ?_)
    simp only [Bool.false_eq_true, if_false]
    refine wpAny_bind (wpAny_mono one (fun r s' z => ?_) fun _ _ e => e)
    obtain ⟨v, rfl, hq⟩ := z
    exact wpAny_pure hq
  · refine wpAny_bind (wpAny_pure ?_)
    simp only [Bool.false_eq_true, if_false]
    refine wpAny_bind (wpAny_mono one (fun r s' z => ?_) fun _ _ e => e)
    obtain ⟨v, rfl, hq⟩ := z
    exact wpAny_pure hq
end
end PySem.W

namespace LA
theorem dv_eqv (u v : Vec) : PySem.PyData.eqv (Sp1.dv u) (Sp1.dv v) = decide (u = v) := by
  show PySem.PyData.eqvAll (u.map PySem.PyData.int) (v.map PySem.PyData.int) = _
  exact PySem.W.ked_eqvAll u v
theorem rows_eqv : ∀ B C : List Vec, PySem.PyData.eqvAll (B.map Sp1.dv) (C.map Sp1.dv) = decide (B = C)
  | [], [] => rfl
  | [], _ :: _ => rfl
  | _ :: _, [] => rfl
  | x :: B, y :: C => by
    show (PySem.PyData.eqv (Sp1.dv x) (Sp1.dv y) && PySem.PyData.eqvAll (B.map Sp1.dv) (C.map Sp1.dv)) = _
    rw [dv_eqv, rows_eqv B C]
    by_cases h1 : x = y <;> by_cases h2 : B = C <;> simp [h1, h2]
theorem tup_eqv (B C : List Vec) : PySem.PyData.eqv (.tuple (B.map Sp1.dv)) (.tuple (C.map Sp1.dv)) = decide (B = C) := rows_eqv B C
end LA
namespace Sp1
open PySem PySem.Spec PyProof.Rows L2
section
variable {X : Cx}
/-- what is read of the second operand of an own == -/
abbrev rOwnCmp (K : PySem.W.Frag) (C : Addr) (sp : Sp) (g : Bool → V) : R2 := fun x y H Q => ∃ a dx fs t, x = V.ref a ∧ H a = some (.ins C dx fs) ∧ TyX K H y t ∧ PySem.W.notFirst K C t = true ∧ sp [.ref a, y] H (fun v H' => ∃ b : Bool, v = .bl b ∧ Q (g b) H') (fun _ _ _ => False)
theorem op_eqOwn {k : Nat} {C f : Addr} {fd : FuncData} {sp : Sp} {a1 a2 : Str} (F : FnOk X.prog X.w X.K X.mg X.base CX0 k f fd [a1, a2] sp) (hr : Room (k + 1) X.A) (hb : L2.Binds X.K fd [a1, a2] [])
    (hs : PySem.W.findIn X.K (.ref C) "__eq__" = some (some (.ref f))) (hf : PySem.W.isFn X.K (.ref f) = true) : OpR X (compareOp .Eq) (rOwnCmp X.K C sp V.bl) := by
  intro pins s σ H x y v u Q I rx ry h
  obtain ⟨a, dx, fs, t, rfl, ea, ty, hn, q⟩ := h
  obtain rfl : v = Value.ref a := rx
  obtain ⟨mA, O, _, _, _, _⟩ := ins_get I.hok ea
  obtain ⟨od, J, _⟩ := O.look
  obtain ⟨m, Fm⟩ := I.fr
  obtain ⟨P, Z, p, _⟩ := kit_of I ry ty
  refine PySem.W.cmp_K (op := .Eq) hr.units0 Fm I.ok.mod.kin J (Z.ty _ _ I.kIn p) hn hs hf ?_
  refine thn (run_fn (X := X) (vs := [.ref a, y]) (us := [.ref a, u]) F (hr.mono (by omega)) hb .nil pass0 I (.cons rfl (.cons ry .nil)) q) fun w s' hw => ?_
  obtain ⟨z, H', I', rv, b, rfl, q'⟩ := hw
  obtain rfl : w = Value.bool b := rv
  exact ⟨.bl b, H', I', rfl, q'⟩
theorem op_neOwn {k : Nat} {C f : Addr} {fd : FuncData} {sp : Sp} {a1 a2 : Str} (F : FnOk X.prog X.w X.K X.mg X.base CX0 k f fd [a1, a2] sp) (hr : Room (k + 2) X.A) (hb : L2.Binds X.K fd [a1, a2] [])
    (hs : PySem.W.findIn X.K (.ref C) "__eq__" = some (some (.ref f))) (hf : PySem.W.isFn X.K (.ref f) = true) (hne : PySem.W.findIn X.K (.ref C) "__ne__" = some (some (.builtin "object.__ne__"))) (hm : PySem.W.mroIn X.K C (.type "object") = some true) :
    OpR X (compareOp .NotEq) (rOwnCmp X.K C sp fun b => V.bl (!b)) := by
  intro pins s σ H x y v u Q I rx ry h
  obtain ⟨a, dx, fs, t, rfl, ea, ty, hn, q⟩ := h
  obtain rfl : v = Value.ref a := rx
  obtain ⟨mA, O, _, _, _, _⟩ := ins_get I.hok ea
  obtain ⟨od, J, _⟩ := O.look
  obtain ⟨m, Fm⟩ := I.fr
  obtain ⟨P, Z, p, _⟩ := kit_of I ry ty
  have hr' : Room (k + 1) X.A := hr.mono (by omega)
  refine PySem.W.own_ne_K hr.units0 hr.in1.units0 Fm I.ok.mod.kin J (Z.ty _ _ I.kIn p) hn hs hf hne hm ?_
  refine thn (run_fn (X := in1x X) (vs := [.ref a, y]) (us := [.ref a, u]) F hr'.in1 hb .nil pass0 (inv_in1 I) (.cons rfl (.cons ry .nil)) q) fun w s' hw => ?_
  obtain ⟨z, H', I', rv, b, rfl, q'⟩ := hw
  obtain rfl : w = Value.bool b := rv
  exact ⟨b, rfl, .bl (!b), H', inv_out1 I.ok I', rfl, q'⟩
end
end Sp1

set_option Elab.async false
set_option linter.all false
set_option maxRecDepth 100000
set_option maxHeartbeats 4000000
namespace Sp1
open PySem PySem.Spec PyProof.Rows L2
/-- what isinstance, == and property ask of the class -/
structure SpIs (K : PySem.W.Frag) (C : Addr) : Prop where
  ha : PySem.W.findIn K (.ref C) "__class__" = some (some (.builtin "object.__class__"))
  hn : PySem.W.specialIn K (.builtin "object.__class__") "__get__" = some (some (.builtin "getset_descriptor.__get__"))
  ht : PySem.W.takesIn K (.builtin "object.__class__") = some true
  hm : PySem.W.mroIn K C (.type "object") = some true
theorem Spc.ty {K : PySem.W.Frag} {C : Addr} {H : Hp} {x : V} {n : Nat} {B : List LA.Vec} (h : Spc K C H x n B) (c : Cls K C) (I : SpIs K C) : TyX K H x (.ref C) := by
  obtain ⟨a, dx, v, rfl, h1, _⟩ := h
  exact .base (.ins h1 c I.ha I.hn I.ht I.hm)
theorem kit_self {K : PySem.W.Frag} {t : Value} : PySem.W.kitOne K t t = some true := by
  unfold PySem.W.kitOne
  rw [if_pos (by simp)]
theorem first_self {K : PySem.W.Frag} {C : Addr} : PySem.W.notFirst K C (.ref C) = true := by
  unfold PySem.W.notFirst
  simp
section
variable {P : Program} {w : World} {K : PySem.W.Frag} {mg : Str → Option Value} {base : Heap}
/-! __eq__ -/
abbrev s_eq : Stmt := inClass (top 27) 8
theorem sc_eq : FnScope ["self", "other"] ["self", "other"] (defScope s_eq) := ⟨rfl, rfl, rfl, by decide +kernel, rfl, by decide +kernel, by decide +kernel⟩
def sp_eq (K : PySem.W.Frag) (C : Addr) : Sp := fun vs H Q _ => ∃ s x n B, vs = [s, x] ∧ Spc K C H s n B ∧
  ((∃ t, TyX K H x t ∧ PySem.W.kitOne K t (.ref C) = some false ∧ Q (.bl false) H) ∨ ∃ n' B', Spc K C H x n' B' ∧ Q (.bl (decide (n = n' ∧ B = B'))) H)
theorem ok_eq {f : Addr} {fd : FuncData} {k : Nat} {C : Addr} (F : Fun K "__eq__" "Space.__eq__" s_eq f fd) (T : SpTxt K C) (Is : SpIs K C) (mgC : mg "Space" = some (.ref C)) (m1 : mg "isinstance" = none) :
    FnOk P w K mg base CX0 (k + 1) f fd ["self", "other"] (sp_eq K C) := by
  refine F.ok sc_eq (fun vs H Q E h => ?_) (fun cdv A outer s H vs Q E hr h => ?_)
  · obtain ⟨s, x, n, B, rfl, _⟩ := h
    rfl
  · obtain ⟨sv, x, n, B, rfl, ⟨a, dx, v, rfl, h1, hB⟩, h⟩ := h
    refine ⟨_, pss_one (ps_ret (pe_and (pe_callB call_isi (by rfl) m1 (by decide +kernel) (pa_cons (pv 1) (pa_cons (pe_glob (v := .ref C) rfl mgC rfl) pa_nil)))
      (pe_and (pe_cmpR op_eq (pe_fld (pv 0) rfl) (pe_fld (pv 1) rfl) (nomark _)) (pe_one (pe_cmpR (op_eqD hr.units) (pe_fld (pv 0) rfl) (pe_fld (pv 1) rfl) (nomark _)))))), ?_⟩
    rcases h with ⟨t, ty, kt, q⟩ | ⟨n', B', hx, q⟩
    · exact ⟨_, rfl, x, .ref C, t, _, false, rfl, .own C, ty, kt, false, rfl, iteF q⟩
    · have ty := hx.ty T.cl Is
      obtain ⟨a', dx', v', rfl, h1', hB'⟩ := hx
      refine ⟨_, rfl, .ref a', .ref C, _, _, true, rfl, .own C, ty, kit_self, true, rfl, iteT ?_⟩
      refine ⟨_, rfl, a, C, dx, _, _, rfl, h1, T.cl, T.nW, sf_w _ _, _, rfl, a', C, dx', _, _, rfl, h1', T.cl, T.nW, sf_w _ _, rfl, _, rfl, ite2 (fun e => ?_) fun e => ?_⟩
      · have hn : n = n' := by have := V.int.inj (of_decide_eq_true e); omega
        refine ⟨_, rfl, a, C, dx, _, _, rfl, h1, T.cl, T.nB, sf_b _ _, _, rfl, a', C, dx', _, _, rfl, h1', T.cl, T.nB, sf_b _ _, .tuple _, .tuple _, dp_bt hB, dp_bt hB', shaped_t _, shaped_t _, ?_⟩
        have : PyData.eqv (.tuple (B.map dv)) (.tuple (B'.map dv)) = decide (n = n' ∧ B = B') := by
          rw [LA.tup_eqv]
          simp [hn]
        rw [this]
        exact q
      · have hn : ¬ n = n' := fun z => e (decide_eq_true (by rw [z]))
        have : decide (n = n' ∧ B = B') = false := decide_eq_false fun z => hn z.1
        rw [this] at q
        exact q
/-! _check_operand -/
abbrev s_chop : Stmt := inClass (top 27) 5
theorem sc_chop : FnScope ["self", "other"] ["self", "other"] (defScope s_chop) := ⟨rfl, rfl, rfl, by decide +kernel, rfl, by decide +kernel, by decide +kernel⟩
def sp_chop (K : PySem.W.Frag) (C : Addr) : Sp := fun vs H Q _ => ∃ s x n B B', vs = [s, x] ∧ Spc K C H s n B ∧ Spc K C H x n B' ∧ Q .non H
theorem ok_chop {f pW gW : Addr} {fd fdW : FuncData} {k : Nat} {C : Addr} (F : Fun K "_check_operand" "Space._check_operand" s_chop f fd) (T : SpTxt K C) (Is : SpIs K C) (mgC : mg "Space" = some (.ref C)) (m1 : mg "isinstance" = none)
    (PW_ : PropOf K C "width" pW gW) (GW : FnOk P w K mg base CX0 k gW fdW ["self"] (getSp C "_width")) (bW : L2.Binds K fdW ["self"] []) :
    FnOk P w K mg base CX0 (k + 2) f fd ["self", "other"] (sp_chop K C) := by
  refine F.ok sc_chop (fun vs H Q E h => ?_) (fun cdv A outer s H vs Q E hr h => ?_)
  · obtain ⟨s, x, n, B, B', rfl, _⟩ := h
    rfl
  · obtain ⟨sv, x, n, B, B', rfl, ⟨a, dx, v, rfl, h1, hB⟩, hx, q⟩ := h
    have ty := hx.ty T.cl Is
    obtain ⟨a', dx', v', rfl, h1', hB'⟩ := hx
    refine ⟨_, PSs.nox (pss_cons (ps_if (pt_not (pt_val (pe_callB call_isi (by rfl) m1 (by decide +kernel) (pa_cons (pv 1) (pa_cons (pe_glob (v := .ref C) rfl mgC rfl) pa_nil))))) (pss_one ps_never) pss_nil)
      (pss_one (ps_if (pt_cmpR op_ne (pe_fld (pv 0) rfl) (pe_prop (pv 1) T.cl PW_ GW hr bW .nil pass0 rfl) (nomark _)) (pss_one ps_never) pss_nil))), ?_⟩
    refine ⟨_, rfl, .ref a', .ref C, _, _, true, rfl, .own C, ty, kit_self, true, rfl, iteF ?_⟩
    refine ⟨_, rfl, a, C, dx, _, _, rfl, h1, T.cl, T.nW, sf_w _ _, _, rfl, a', dx', _, rfl, h1', a', dx', _, _, rfl, h1', sf_w _ _, rfl, _, rfl, ?_⟩
    exact iteNS rfl q
theorem sf_none {m : Str} (n : Nat) (v : V) (h1 : ¬ (m = "_basis")) (h2 : ¬ (m = "_width")) : (sf n v).lookup m = none := by
  unfold sf
  rw [lookup_putF, if_neg h1, lookup_putF, if_neg h2]
  rfl
/-! is_within -/
abbrev s_within : Stmt := inClass (top 27) 4
abbrev N_within : List Str := ["self", "other", "vector"]
theorem sc_within : FnScope N_within ["self", "other"] (defScope s_within) := ⟨rfl, rfl, rfl, by decide +kernel, rfl, by decide +kernel, by decide +kernel⟩
def sp_within (K : PySem.W.Frag) (C : Addr) : Sp := fun vs H Q _ => ∃ s x n B B' a b, vs = [s, x] ∧ Spc K C H s n B ∧ Spc K C H x n B' ∧ n ≤ 400 ∧ (∀ c ∈ B, c.length = n ∧ LA.Small a c) ∧ B.length ≤ 900 ∧ RowsOk n b B' ∧ a + B'.length * (b + 1) ≤ 9000 ∧
  ∀ H', Same H H' → Q (.bl (B.all fun c => LA.isZero (LA.rest B' c))) H'
theorem ok_within {f f1 f2 pB gB : Addr} {fd fd1 fd2 fdB : FuncData} {k : Nat} {C : Addr} (F : Fun K "is_within" "Space.is_within" s_within f fd) (T : SpTxt K C)
    (M1 : Meth K C "_check_operand" f1) (G1 : FnOk P w K mg base CX0 k f1 fd1 ["self", "other"] (sp_chop K C)) (b1 : L2.Binds K fd1 ["self", "other"] [])
    (D2 : Dn K mg "is_spanned" s_is_spanned ["basis", "vector"] f2 fd2) (G2 : FnOk P w K mg base CX0 k f2 fd2 ["basis", "vector"] (sp_is_spanned K))
    (PB : PropOf K C "basis" pB gB) (GB : FnOk P w K mg base CX0 k gB fdB ["self"] (getSp C "_basis")) (bB : L2.Binds K fdB ["self"] []) (m1 : mg "all" = none) :
    FnOk P w K mg base CX0 (k + 2) f fd ["self", "other"] (sp_within K C) := by
  refine F.ok sc_within (fun vs H Q E h => ?_) (fun cdv A outer s H vs Q E hr h => ?_)
  · obtain ⟨s, x, n, B, B', a, b, rfl, _⟩ := h
    rfl
  · obtain ⟨sv, x, n, B, B', al, be, rfl, hs, hx, hn, hB, hBl, hB', hab, q⟩ := h
    have nd := sc_within.nd
    have hr1 : Room k (A.deeper (envOfC "Space.is_within" (defScope s_within) s.heap.objs.size f cdv)) := hr.mono (by omega)
    refine ⟨_, PSs.nox (pss_cons (ps_expr (pe_meth (pv 0) T.cl M1 G1 hr1 b1 .nil pass0 (pa_cons (pv 1) pa_nil)))
      (pss_one (ps_ret (pe_callB (cr_all rfl) (by rfl) m1 (by decide +kernel) (pa_cons
        (pe_lc (own := [("vector", 2)]) (g := gName 2) (tt := tYes) rfl nd (pi_tup (pe_fld (pv 0) rfl)) (blkOk_by (N := N_within) (sc := defScope s_within) (by decide +kernel)) (fun _ _ _ _ _ => pg_name (i := 2) nd rfl (Or.inl rfl)) (fun _ _ _ _ _ => pts_nil)
          (fun _ _ _ _ _ => pe_call G2 hr1 (by rfl) D2.g D2.kp D2.b .nil pass0 (pa_cons (pe_prop (pv 1) T.cl PB GB hr bB .nil pass0 rfl) (pa_cons (pv 2) pa_nil)))) pa_nil))))), ?_⟩
    obtain ⟨a, dx, v, rfl, h1, hBt⟩ := id hs
    obtain ⟨a', dx', v', rfl, h1', hBt'⟩ := id hx
    obtain ⟨b, xs, rfl, hS, hR⟩ := id hBt
    refine ⟨_, rfl, a, dx, _, rfl, h1, sf_none _ _ (by decide +kernel) (by decide +kernel), _, rfl, .ref a, .ref a', n, B, B', rfl, hs, hx, ?_⟩
    refine ⟨_, rfl, a, C, dx, _, _, rfl, h1, T.cl, T.nB, sf_b _ _, b, rfl, ⟨_, hS⟩, fun D nD => ?_⟩
    have hxl := hR.1
    refine lc_it (walk_tup (K := K) (a := b) (xs := xs)) (Acc H D fun i => V.bl (LA.isZero (LA.rest B' (B.getD i [])))) (Acc.start nD) (fun i H' _ h => Same.sqt h.1 hS) ?_ ?_
    · rintro i y H1 H2 hi h ⟨rfl, hy⟩
      refine ⟨rfl, ?_⟩
      dsimp only [tYes]
      refine iteT ?_
      obtain ⟨hi', hv⟩ := hR.at hy
      have hm := hB _ (List.getElem_mem hi')
      refine ⟨_, rfl, a', dx', _, rfl, h.1 _ _ h1', a', dx', _, v', rfl, h.1 _ _ h1', sf_b _ _, _, rfl, v', y, B', B[i], n, al, be, rfl, hBt'.tk (Same.tk h.1), hv.keep h.1, hm.1, by omega, hB', hm.2, hab, fun H3 s3 => ?_⟩
      refine h.turn nD s3 (by omega) ?_
      rw [List.getD_eq_getElem?_getD, List.getElem?_eq_getElem hi']
      rfl
    · rintro H1 h
      have hbs : (List.range xs.length).map (fun i => V.bl (LA.isZero (LA.rest B' (B.getD i [])))) = (B.map fun c => LA.isZero (LA.rest B' c)).map V.bl := by
        apply List.ext_getElem
        · rw [List.length_map, List.length_range, List.length_map, List.length_map, hxl]
        · intro i h1 h2
          rw [List.length_map, List.length_range] at h1
          rw [List.getElem_map, List.getElem_range, List.getElem_map, List.getElem_map, List.getD_eq_getElem?_getD, List.getElem?_eq_getElem (by omega)]
          rfl
      have h2 := h.2
      rw [hbs] at h2
      refine ⟨D, B.map fun c => LA.isZero (LA.rest B' c), rfl, SqL.of h2, ?_⟩
      rw [List.all_map]
      exact q _ h.1
end
end Sp1

set_option Elab.async false
set_option linter.all false
set_option maxRecDepth 100000
set_option maxHeartbeats 4000000
namespace LA
theorem zero_eq {n : Nat} {u : Vec} (hu : u.length = n) (h : Zero u) : u = List.replicate n 0 :=
  ext (by rw [hu, List.length_replicate]) fun i => by rw [h i, e_rep]
theorem isZero_iff_sp {n : Nat} {S : List Vec} {u : Vec} (hS : ∀ v ∈ S, v.length = n) (hu : u.length = n) : isZero (rest (reduced S) u) = true ↔ Sp n S u := by
  have R := reduced_red hS
  constructor
  · intro h
    have hl := rest_len R.len hu
    have hz := zero_eq hl (isZero_iff.mp h)
    refine (rest_sp (S := S) (B := reduced S) (fun b hb => ⟨R.len b hb, (R.piv b hb).2, (reduced_sp hS b).mp (.mem hb (R.len b hb))⟩) hu).mp ?_
    rw [hz]
    exact .zero
  · intro h
    have h1 := congrArg List.length (reduced_in hS hu h)
    rw [reduced_snoc, withVec_len] at h1
    by_cases hz : isZero (rest (reduced S) u) = true
    · exact hz
    · rw [if_neg hz] at h1
      omega
/-- the span of S lies in that of T -/
def Le (n : Nat) (S T : List Vec) : Prop := ∀ v, Sp n S v → Sp n T v
theorem le_gens {n : Nat} {S T : List Vec} (hS : ∀ v ∈ S, v.length = n) : Le n S T ↔ ∀ v ∈ S, Sp n T v :=
  ⟨fun h v hv => h v (.mem hv (hS v hv)), fun h v hv => hv.sub fun u hu _ => h u hu⟩
theorem le_red {n : Nat} {S T : List Vec} (hS : ∀ v ∈ S, v.length = n) : Le n S T ↔ ∀ v ∈ reduced S, Sp n T v :=
  ⟨fun h v hv => h v ((reduced_sp hS v).mp (.mem hv ((reduced_red hS).len v hv))), fun h v hv => ((reduced_sp hS v).mpr hv).sub fun u hu _ => h u hu⟩
theorem all_gens {n : Nat} {S T : List Vec} (hS : ∀ v ∈ S, v.length = n) (hT : ∀ v ∈ T, v.length = n) : (S.all fun u => isZero (rest (reduced T) u)) = true ↔ Le n S T := by
  rw [List.all_eq_true, le_gens hS]
  exact forall_congr' fun u => ⟨fun h hu => (isZero_iff_sp hT (hS u hu)).mp (h hu), fun h hu => (isZero_iff_sp hT (hS u hu)).mpr (h hu)⟩
theorem all_red {n : Nat} {S T : List Vec} (hS : ∀ v ∈ S, v.length = n) (hT : ∀ v ∈ T, v.length = n) : ((reduced S).all fun u => isZero (rest (reduced T) u)) = true ↔ Le n S T := by
  rw [List.all_eq_true, le_red hS]
  have hl := (reduced_red hS).len
  exact forall_congr' fun u => ⟨fun h hu => (isZero_iff_sp hT (hl u hu)).mp (h hu), fun h hu => (isZero_iff_sp hT (hl u hu)).mpr (h hu)⟩
theorem bool_eq {a b : Bool} (h : a = true ↔ b = true) : a = b := by
  cases a <;> cases b <;> simp_all
theorem all_same {n : Nat} {S T : List Vec} (hS : ∀ v ∈ S, v.length = n) (hT : ∀ v ∈ T, v.length = n) : ((reduced S).all fun u => isZero (rest (reduced T) u)) = (S.all fun u => isZero (rest (reduced T) u)) :=
  bool_eq ((all_red hS hT).trans (all_gens hS hT).symm)
theorem eq_iff_le {n : Nat} {S T : List Vec} (hS : ∀ v ∈ S, v.length = n) (hT : ∀ v ∈ T, v.length = n) : reduced S = reduced T ↔ Le n S T ∧ Le n T S := by
  constructor
  · intro h
    refine ⟨fun v hv => ?_, fun v hv => ?_⟩
    · have := (reduced_sp hS v).mpr hv
      rw [h] at this
      exact (reduced_sp hT v).mp this
    · have := (reduced_sp hT v).mpr hv
      rw [← h] at this
      exact (reduced_sp hS v).mp this
  · intro ⟨h1, h2⟩
    exact red_unique (reduced_red hS) (reduced_red hT) fun v => ((reduced_sp hS v).trans ⟨h1 v, h2 v⟩).trans (reduced_sp hT v).symm
theorem eq_both {n : Nat} {S T : List Vec} (hS : ∀ v ∈ S, v.length = n) (hT : ∀ v ∈ T, v.length = n) : decide (reduced S = reduced T) = ((S.all fun u => isZero (rest (reduced T) u)) && (T.all fun u => isZero (rest (reduced S) u))) := by
  refine bool_eq ?_
  rw [decide_eq_true_iff, Bool.and_eq_true, all_gens hS hT, all_gens hT hS]
  exact eq_iff_le hS hT
theorem filt_nil {S : List Vec} {f : Vec → Bool} : (S.filter fun u => !f u).isEmpty = S.all f := by
  induction S with
  | nil => rfl
  | cons x r ih =>
    rw [List.all_cons, List.filter_cons]
    cases f x
    · rfl
    · rw [← ih]
      rfl
/-- all of Z^n -/
theorem units_full {n : Nat} : (reduced (units n)).length = n := by
  have hu : ∀ v ∈ units n, v.length = n := fun v hv => by
    obtain ⟨p, _, rfl⟩ := units_mem hv
    exact unit_len n p
  have R := reduced_red hu
  have hle := R.length_le
  have hge : n ≤ (reduced (units n)).length := by
    have hp : ∀ p, p < n → p ∈ (reduced (units n)).map pivot := fun p hp => by
      have hm : unit n p ∈ units n := List.mem_map.mpr ⟨p, List.mem_range.mpr hp, rfl⟩
      have he : ∀ i, e (unit n p) i = if i = p then 1 else 0 := fun i => by
        unfold unit
        by_cases hi : i < n
        · rw [e_in (by rw [List.length_map, List.length_range]; exact hi), List.getElem_map, List.getElem_range]
        · rw [e_out (by rw [List.length_map, List.length_range]; omega), if_neg (by omega)]
      have hpv : pivot (unit n p) = p := pivot_eq (by rw [he, if_pos rfl]; decide) fun i hi => by rw [he, if_neg (by omega)]
      have hz : ¬ Zero (unit n p) := fun z => by
        have := z p
        rw [he, if_pos rfl] at this
        cases this
      obtain ⟨b, hb, e⟩ := lead_mem R.ech ((reduced_sp hu _).mpr (.mem hm (unit_len n p))) hz
      rw [hpv] at e
      exact List.mem_map.mpr ⟨b, hb, e⟩
    have h2 : List.range n ⊆ (reduced (units n)).map pivot := fun p h => hp p (List.mem_range.mp h)
    have := (List.nodup_range (n := n)).length_le_of_subset h2
    rw [List.length_range, List.length_map] at this
    exact this
  omega
end LA

set_option Elab.async false
set_option linter.all false
set_option maxRecDepth 100000
set_option maxHeartbeats 4000000
namespace Sp1
open PySem PySem.Spec PyProof.Rows L2
section
variable {X : Cx} {e se : Expr} {te ts : TE} {pos p2 : Pos}
/-- e[::-1], e a list -/
def tRev (K : PySem.W.Frag) (te ts : TE) : TE := fun σ H Q => te σ H fun x H1 => ts σ H1 fun v H2 => v = .int (-1) ∧ ∃ a xs, x = .ref a ∧ SqL K H2 a xs ∧ ∀ p, H2 p = none → Q (.ref p) (upd H2 p (.lst xs.reverse))
theorem vals_reverse : ∀ {xs : List V} {us : List Value}, Vals xs us → Vals xs.reverse us.reverse
  | _, _, .nil => .nil
  | _, _, .cons r t => by
    rw [List.reverse_cons, List.reverse_cons]
    exact (vals_reverse t).append (.cons r .nil)
theorem pe_rev (he : PE X e te) (hs : PE X se ts) : PE X (.Subscript e (.Slice none none (some se) p2) pos) (tRev X.K te ts) := by
  refine ⟨fun pins s σ H Q I h => ?_⟩
  refine Subscript_ (thn (he.run pins s σ H _ I h) fun v s1 ⟨x, H1, I1, r1, q1⟩ => ?_)
  refine wpAny_Slice ?_
  rw [evalPart_none]
  refine wpAny_pure ?_
  refine wpAny_pure ?_
  rw [evalPart_some]
  refine thn (hs.run pins s1 σ H1 _ I1 q1) fun vs s3 ⟨y, H3, I3, r3, q3⟩ => ?_
  obtain ⟨rfl, a, xs, rfl, hx, q⟩ := q3
  obtain ⟨t, rfl⟩ := r3
  obtain rfl : v = Value.ref a := r1
  have I4 : Inv X pins σ H3 { s3 with heap := s3.heap.push { cls := .type "slice", data := .fields #[.none, .none, .int (-1) t] } } := I3.kept (t' := s3.toks) fun b ob q => Heap.get?_push_of_some _ q
  obtain ⟨its, r, ht, hz⟩ := I4.list hx
  show wpAny (model X.prog X.w) X.A (subscriptTail e (.Slice none none (some se) p2) (.ref a) (.ref s3.heap.objs.size)) (EP X pins σ Q) X.xe { s3 with heap := s3.heap.push { cls := .type "slice", data := .fields #[.none, .none, .int (-1) t] } }
  refine tail_any (ops := [.ref a, .ref s3.heap.objs.size]) ht.isList.typeIs slot_list_getitem.lookup ?_ (by with_unfolding_all rfl)
  refine wpAny_getItem_list_slice ht.isList (Heap.IsSliceOf.new ..) .none .none (.int (-1) t) (by decide) ?_ (by rw [List.size_toArray]; rw [← r.length]; exact hz)
  rw [PySem.W.krv_pick]
  refine ⟨.ref _, _, I4.laid (o := .lst xs.reverse) (fun b ob q => Heap.get?_push_of_some _ q) (Nat.le_refl _) ?_, rfl, q _ (I4.hok.fresh (Nat.le_refl _))⟩
  exact ⟨by rw [List.length_reverse]; exact hz, _, 0, vals_reverse r, Heap.get?_push_size _ rfl⟩
end
end Sp1

set_option Elab.async false
set_option linter.all false
set_option maxRecDepth 100000
set_option maxHeartbeats 4000000
namespace LA
theorem unit_e (n p i : Nat) (hp : p < n) : e (unit n p) i = if i = p then 1 else 0 := by
  unfold unit
  by_cases hi : i < n
  · rw [e_in (by rw [List.length_map, List.length_range]; exact hi), List.getElem_map, List.getElem_range]
  · rw [e_out (by rw [List.length_map, List.length_range]; omega), if_neg (by omega)]
theorem unit_pivot {n p : Nat} (hp : p < n) : pivot (unit n p) = p :=
  pivot_eq (by rw [unit_e n p p hp, if_pos rfl]; decide) fun i hi => by rw [unit_e n p i hp, if_neg (by omega)]
theorem units_red (n : Nat) : Red n (units n) := by
  refine ⟨fun u hu => ?_, fun u hu => ?_, fun u hu => ?_, ?_, fun u hu v hv h => ?_⟩
  · obtain ⟨p, _, rfl⟩ := units_mem hu
    exact unit_len n p
  · obtain ⟨p, hp, rfl⟩ := units_mem hu
    rw [unit_pivot hp, unit_e n p p hp, if_pos rfl]
    exact ⟨hp, by decide⟩
  · obtain ⟨p, hp, rfl⟩ := units_mem hu
    have h := gcdL_dvd (v := unit n p) p
    rw [unit_e n p p hp, if_pos rfl] at h
    exact Nat.dvd_one.mp (Int.ofNat_dvd.mp h)
  · unfold units
    rw [List.pairwise_map]
    refine List.Pairwise.imp_of_mem (fun {a b} ha hb h => ?_) (List.pairwise_lt_range (n := n))
    rw [unit_pivot (List.mem_range.mp ha), unit_pivot (List.mem_range.mp hb)]
    exact h
  · obtain ⟨p, hp, rfl⟩ := units_mem hu
    obtain ⟨q, hq, rfl⟩ := units_mem hv
    rw [unit_pivot hp, unit_pivot hq] at h
    rw [unit_pivot hp, unit_e n q p hq, if_neg h]
theorem units_reduced (n : Nat) : reduced (units n) = units n := (units_red n).reduced
theorem Good.nil {n : Nat} (h : n ≤ 7) : Good n [] := ⟨(fun u hu => by cases hu), h, by decide, (fun u hu => by cases hu)⟩
theorem Good.sub {n : Nat} {S T : List Vec} (g : Good n S) (h : ∀ u ∈ T, u ∈ S) (hl : T.length ≤ 8) : Good n T := ⟨fun u hu => g.len u (h u hu), g.n7, hl, fun u hu => g.bd u (h u hu)⟩
theorem Good.app {n : Nat} {S T : List Vec} (g : Good n S) (g' : Good n T) (hl : S.length + T.length ≤ 8) : Good n (S ++ T) :=
  ⟨fun u hu => (List.mem_append.mp hu).elim (g.len u) (g'.len u), g.n7, by rw [List.length_append]; exact hl, fun u hu => (List.mem_append.mp hu).elim (g.bd u) (g'.bd u)⟩
end LA
namespace Sp1
open PySem PySem.Spec PyProof.Rows L2
theorem ent_good {n m : Nat} {S : List LA.Vec} (hn : n ≤ 7) (hm : m ≤ 8) (hl : S.length ≤ m) (hS : ∀ u ∈ S, u.length = n) (hE : Ent (5 ^ m * 10 ^ 20) S) : LA.Good n S :=
  ⟨hS, hn, by omega, fun u hu x hx => Nat.lt_trans (LA.ent_86 hm hE u hu x hx) (by decide)⟩
theorem three_good {n : Nat} {S : List LA.Vec} (hn : n ≤ 7) (hl : S.length ≤ 8) (hS : ∀ u ∈ S, u.length = n) (hE : ∀ u ∈ S, ∀ x ∈ u, x.natAbs < 2 ^ 86) : LA.Good n (S.reverse.map fun u => u.map fun x => 3 * x) := by
  refine ⟨fun u hu => ?_, hn, by rw [List.length_map, List.length_reverse]; exact hl, fun u hu x hx => ?_⟩
  · obtain ⟨v, hv, rfl⟩ := List.mem_map.mp hu
    rw [List.length_map]
    exact hS v (List.mem_reverse.mp hv)
  · obtain ⟨v, hv, rfl⟩ := List.mem_map.mp hu
    obtain ⟨y, hy, rfl⟩ := List.mem_map.mp hx
    have := hE v (List.mem_reverse.mp hv) y hy
    have h90 : (2 : Nat) ^ 90 = 16 * 2 ^ 86 := by decide
    rw [Int.natAbs_mul]
    show 3 * y.natAbs < 2 ^ 90
    omega
def Rl (K : PySem.W.Frag) (H : Hp) (x : V) (S : List LA.Vec) : Prop := ∃ g ys, x = .ref g ∧ H g = some (.lst ys) ∧ Rws K H ys S
theorem Rl.keep {K : PySem.W.Frag} {H H' : Hp} {x : V} {S : List LA.Vec} (h : Rl K H x S) (s : Same H H') : Rl K H' x S := by
  obtain ⟨g, ys, e, h1, h2⟩ := h
  exact ⟨g, ys, e, s _ _ h1, h2.tk (Same.tk s)⟩
theorem Rl.sv {K : PySem.W.Frag} {H : Hp} {x : V} {S : List LA.Vec} (h : Rl K H x S) : Sv K H x S := by
  obtain ⟨g, ys, e, h1, h2⟩ := h
  exact ⟨g, ys, e, .inr (SqL.of h1), h2⟩
def Rls (K : PySem.W.Frag) (H : Hp) (xs : List V) (Ss : List (List LA.Vec)) : Prop := xs.length = Ss.length ∧ ∀ (i : Nat) (x : V) (S : List LA.Vec), xs[i]? = some x → Ss[i]? = some S → Rl K H x S
theorem Rls.at {K : PySem.W.Frag} {H : Hp} {xs : List V} {Ss : List (List LA.Vec)} (h : Rls K H xs Ss) {i : Nat} {x : V} (e : xs[i]? = some x) : ∃ hi : i < Ss.length, Rl K H x Ss[i] := by
  have h1 := (List.getElem?_eq_some_iff.mp e).1
  have hi : i < Ss.length := by rw [← h.1]; exact h1
  exact ⟨hi, h.2 i x _ e (List.getElem?_eq_getElem hi)⟩
theorem Rls.keep {K : PySem.W.Frag} {H H' : Hp} {xs : List V} {Ss : List (List LA.Vec)} (h : Rls K H xs Ss) (s : Same H H') : Rls K H' xs Ss := ⟨h.1, fun i x S e1 e2 => (h.2 i x S e1 e2).keep s⟩
def Spcs (K : PySem.W.Frag) (C : Addr) (H : Hp) (n : Nat) (xs : List V) (Ss : List (List LA.Vec)) : Prop := xs.length = Ss.length ∧ ∀ (i : Nat) (x : V) (S : List LA.Vec), xs[i]? = some x → Ss[i]? = some S → Spc K C H x n (LA.reduced S)
theorem Spcs.keep {K : PySem.W.Frag} {C : Addr} {H H' : Hp} {n : Nat} {xs : List V} {Ss : List (List LA.Vec)} (h : Spcs K C H n xs Ss) (s : Same H H') : Spcs K C H' n xs Ss := ⟨h.1, fun i x S e1 e2 => (h.2 i x S e1 e2).keep s⟩
theorem Spcs.at {K : PySem.W.Frag} {C : Addr} {H : Hp} {n : Nat} {xs : List V} {Ss : List (List LA.Vec)} (h : Spcs K C H n xs Ss) {i : Nat} {x : V} (e : xs[i]? = some x) : ∃ hi : i < Ss.length, Spc K C H x n (LA.reduced Ss[i]) := by
  have h1 := (List.getElem?_eq_some_iff.mp e).1
  have hi : i < Ss.length := by rw [← h.1]; exact h1
  exact ⟨hi, h.2 i x _ e (List.getElem?_eq_getElem hi)⟩
theorem Rws.cut {K : PySem.W.Frag} {H : Hp} {xs : List V} {S : List LA.Vec} (h : Rws K H xs S) (a b : Nat) : Rws K H ((xs.drop a).take b) ((S.drop a).take b) := by
  refine ⟨by rw [List.length_take, List.length_take, List.length_drop, List.length_drop, h.1], fun i x u e1 e2 => ?_⟩
  rw [List.getElem?_take] at e1 e2
  split at e1
  · rename_i hi
    rw [if_pos hi] at e2
    rw [List.getElem?_drop] at e1 e2
    exact h.2 _ x u e1 e2
  · cases e1
theorem Rws.app {K : PySem.W.Frag} {H : Hp} {xs ys : List V} {S T : List LA.Vec} (h : Rws K H xs S) (h' : Rws K H ys T) : Rws K H (xs ++ ys) (S ++ T) := by
  refine ⟨by rw [List.length_append, List.length_append, h.1, h'.1], fun i x u e1 e2 => ?_⟩
  rcases Nat.lt_or_ge i xs.length with hi | hi
  · rw [List.getElem?_append_left hi] at e1
    rw [List.getElem?_append_left (by rw [← h.1]; exact hi)] at e2
    exact h.2 i x u e1 e2
  · rw [List.getElem?_append_right hi] at e1
    rw [List.getElem?_append_right (by rw [← h.1]; exact hi), ← h.1] at e2
    exact h'.2 _ x u e1 e2
theorem Rws.rev {K : PySem.W.Frag} {H : Hp} {xs : List V} {S : List LA.Vec} (h : Rws K H xs S) : Rws K H xs.reverse S.reverse := by
  refine ⟨by rw [List.length_reverse, List.length_reverse, h.1], fun i x u e1 e2 => ?_⟩
  have hi := (List.getElem?_eq_some_iff.mp e1).1
  rw [List.length_reverse] at hi
  rw [List.getElem?_reverse hi] at e1
  rw [List.getElem?_reverse (by rw [← h.1]; exact hi), ← h.1] at e2
  exact h.2 _ x u e1 e2
theorem eqv_nil' {xs : List V} {K : PySem.W.Frag} {H : Hp} {S : List LA.Vec} : PyData.eqv (.list (S.map dv)) (.list []) = S.isEmpty := by
  rw [eqv_nil]
  cases S <;> rfl
section
variable {P : Program} {w : World} {K : PySem.W.Frag} {mg : Str → Option Value} {base : Heap}
abbrev k4Scope : Scope := { kind := .function, names := [(Str.ofString ".0", .local), (Str.ofString "_law_vector_here", .local), (Str.ofString "tuple", .globalImplicit)], isGenerator := false, isCoroutine := false }
abbrev s_law : Stmt := top 35
abbrev N_law : List Str := ["_law_script", "_law_k", "_law_pool_here", "_law_width", "_law_first", "_law_second", "_law_third", "_law_rows", "_law_spaces", "_law_at", "_law_one", "_law_place", "_law_other", "_law_within", "_law_back", "_law_entry", "_law_vector_here", "_law_vectors_here"]
theorem sc_law : FnScope N_law ["_law_script"] (defScope s_law) := ⟨rfl, rfl, rfl, by decide +kernel, rfl, by decide +kernel, by decide +kernel⟩
def sp_law (K : PySem.W.Frag) : Sp := fun vs H Q _ => ∃ (a : Addr) (ns : List Int), vs = [.ref a] ∧ SqL K H a (ns.map V.int) ∧ ns.length ≤ 63 ∧ ∀ H', Q (.bl true) H'
theorem ok_law {f C fI f1 f2 f3 f5 fF pF fE fW fL pB gB : Addr} {fd fdI fd1 fd2 fd3 fd5 fdF fdE fdW fdL fdB : FuncData} {mc : Value} (D : Dn K mg "law" s_law ["_law_script"] f fd) (T : SpTxt K C) (Is : SpIs K C)
    (mgC : mg "Space" = some (.ref C)) (M : Mk K C fI) (GI : FnOk P w K mg base CX0 7 fI fdI ["self", "width", "vectors"] (sp_init K C)) (bI : Binds K fdI ["self", "width", "vectors"] [])
    (cr : ClX.CRead K C mc) (cm : ClX.CMet K C mc "full" pF fF) (GF : FnR P w K mg base CX0 9 fF (sp_full K C))
    (GE : FnOk P w K mg base CX0 8 fE fdE ["self", "other"] (sp_eq K C)) (bE : Binds K fdE ["self", "other"] []) (aE : PySem.W.findIn K (.ref C) "__eq__" = some (some (.ref fE))) (iE : PySem.W.isFn K (.ref fE) = true)
    (aN : PySem.W.findIn K (.ref C) "__ne__" = some (some (.builtin "object.__ne__")))
    (kT : PySem.W.kitOne K (.type "tuple") (.ref C) = some false) (kS : PySem.W.kitOne K (.type "str") (.ref C) = some false) (nT : PySem.W.notFirst K C (.type "tuple") = true) (nS : PySem.W.notFirst K C (.type "str") = true)
    (MW : Meth K C "is_within" fW) (GW : FnOk P w K mg base CX0 9 fW fdW ["self", "other"] (sp_within K C)) (bW : Binds K fdW ["self", "other"] [])
    (GL : FnOk P w K mg base CX0 8 fL fdL ["self"] (sp_len K C)) (bL : Binds K fdL ["self"] []) (aL : PySem.W.findIn K (.ref C) "__len__" = some (some (.ref fL))) (iL : PySem.W.isFn K (.ref fL) = true)
    (PB : PropOf K C "basis" pB gB) (GB : FnOk P w K mg base CX0 8 gB fdB ["self"] (getSp C "_basis")) (bB : Binds K fdB ["self"] [])
    (D1 : Dn K mg "_law_pool" s_pool ["_law_script", "_law_k"] f1 fd1) (G1 : FnOk P w K mg base CX0 9 f1 fd1 ["_law_script", "_law_k"] (sp_pool K))
    (D2 : Dn K mg "_law_draw" s_draw ["_law_pool_here", "_law_count"] f2 fd2) (G2 : FnOk P w K mg base CX0 9 f2 fd2 ["_law_pool_here", "_law_count"] sp_draw)
    (D3 : Dn K mg "_law_vectors" s_vectors ["_law_pool_here", "_law_width", "_law_most"] f3 fd3) (G3 : FnOk P w K mg base CX0 9 f3 fd3 ["_law_pool_here", "_law_width", "_law_most"] (sp_vectors K))
    (D5 : Dn K mg "_law_is_in" s_is_in ["_law_vector_here", "_law_vectors_here"] f5 fd5) (G5 : FnOk P w K mg base CX0 8 f5 fd5 ["_law_vector_here", "_law_vectors_here"] (sp_is_in2 K))
    (m1 : mg "len" = none) (m2 : mg "range" = none) (m3 : mg "max" = none) (m4 : mg "min" = none) (m5 : mg "enumerate" = none) (m6 : mg "tuple" = none) (m7 : mg "list" = none) :
    FnOk P w K mg base CX0 11 f fd ["_law_script"] (sp_law K) := by
  refine D.F.ok sc_law (fun vs H Q E h => ?_) (fun cdv A outer s H vs Q E hr h => ?_)
  · obtain ⟨a, ns, rfl, _⟩ := h
    rfl
  · obtain ⟨a, ns, rfl, hS, hlen, q⟩ := h
    have nd := sc_law.nd
    have hr9 : Room 9 (A.deeper (envOfC "law" (defScope s_law) s.heap.objs.size f cdv)) := hr.mono (by omega)
    have hr8 : Room 8 (A.deeper (envOfC "law" (defScope s_law) s.heap.objs.size f cdv)) := hr.mono (by omega)
    refine ⟨_, pss_cons (ps_for PassesOwn.never rfl (pi_range1 (by rfl) m2 (pa_cons (pe_callB (call_max2 rfl) (by rfl) m3 (by decide +kernel) (pa_cons pe_int (pa_cons (pe_callB (call_min2 rfl) (by rfl) m4 (by decide +kernel) (pa_cons pe_int (pa_cons (pe_callB call_len_seq (by rfl) m1 PySem.boot_len (pa_cons (pv 0) pa_nil)) pa_nil))) pa_nil))) pa_nil)) (pg_name (i := 1) nd rfl (.inl rfl))
        (pss_cons (ps_set (i := 2) nd rfl (.inl rfl) (pe_call G1 hr9 (by rfl) D1.g D1.kp D1.b .nil pass0 (pa_cons (pv 0) (pa_cons (pv 1) pa_nil))))
        (pss_cons (ps_set (i := 3) nd rfl (.inr rfl) (pe_op op_add pe_int (pe_call G2 hr9 (by rfl) D2.g D2.kp D2.b .nil pass0 (pa_cons (pv 2) (pa_cons pe_int pa_nil)))))
        (pss_cons (ps_set (i := 4) nd rfl (.inl rfl) (pe_call G3 hr9 (by rfl) D3.g D3.kp D3.b .nil pass0 (pa_cons (pv 2) (pa_cons (pv 3) (pa_cons pe_int pa_nil)))))
        (pss_cons (ps_set (i := 5) nd rfl (.inl rfl) (pe_op op_cat (pe_slice sl_list (pv 4) po_none (po_some (pe_call G2 hr9 (by rfl) D2.g D2.kp D2.b .nil pass0 (pa_cons (pv 2) (pa_cons pe_int pa_nil))))) (pe_call G3 hr9 (by rfl) D3.g D3.kp D3.b .nil pass0 (pa_cons (pv 2) (pa_cons (pv 3) (pa_cons pe_int pa_nil))))))
        (pss_cons (ps_setLc (i := 6) (own := [("_law_vector_here", 16)]) (g := gName 16) (tt := tYes) rfl nd rfl rfl (sw_true rfl rfl rfl (by decide +kernel)) (pi_list (pe_rev (pv 4) (pe_un un_neg pe_int))) (blkOk_by (N := N_law) (sc := defScope s_law) (by decide +kernel))
          (fun _ _ _ _ _ => pg_name (i := 16) nd rfl (Or.inl rfl)) (fun _ _ _ _ _ => pts_nil)
          (fun _ _ _ _ _ => pe_callTy (r := rTupOf K) call_tuple_of (by rfl) m6 (by decide +kernel) (pa_cons
            (pe_lc (wi := iTup K (tVar 16)) (own := [("_law_entry", 15)]) (g := gName 15) (tt := tYes) rfl nd (pi_tup (pv 16)) (blkOk_by (N := N_law) (sc := k4Scope) (by decide +kernel)) (fun _ _ _ _ _ => pg_name (i := 15) nd rfl (Or.inl rfl)) (fun _ _ _ _ _ => pts_nil) (fun _ _ _ _ _ => pe_op op_mul pe_int (pv 15))) pa_nil)))
        (pss_cons (ps_set (i := 7) nd rfl (.inr rfl) (pe_lst (pa_cons (pv 4) (pa_cons (pv 5) (pa_cons (pv 6) (pa_cons (pe_lst pa_nil) (pa_cons (pe_callTy (r := rListOf K) call_list_of (by rfl) m7 (by decide +kernel) (pa_cons
            (pe_prop (ClX.pe_cmeth (pe_glob (v := .ref C) rfl mgC rfl) cr cm GF hr9 pass0 (pa_cons (pv 3) pa_nil)) T.cl PB GB hr9 bB .nil pass0 rfl) pa_nil)) pa_nil)))))))
        (pss_cons (ps_setLc (i := 8) (own := [("_law_vectors_here", 17)]) (g := gName 17) (tt := tYes) rfl nd rfl rfl (sw_true rfl rfl rfl (by decide +kernel)) (pi_list (pv 7)) (blkOk_by (N := N_law) (sc := defScope s_law) (by decide +kernel))
          (fun _ _ _ _ _ => pg_name (i := 17) nd rfl (Or.inl rfl)) (fun _ _ _ _ _ => pts_nil)
          (fun _ _ _ _ _ => pe_make M GI hr8 rfl mgC bI .nil pass0 (pa_cons (pv 3) (pa_cons (pv 17) pa_nil))))
        (pss_cons (ps_for PassesOwn.never rfl (pi_enum (by rfl) m5 (pa_cons (pv 8) pa_nil)) (pg_tup rfl (pgs_cons (pg_name (i := 9) nd rfl (.inr rfl)) (pgs_cons (pg_name (i := 10) nd rfl (.inl rfl)) pgs_nil)))
          (pss_cons (ps_for PassesOwn.never rfl (pi_enum (by rfl) m5 (pa_cons (pv 8) pa_nil)) (pg_tup rfl (pgs_cons (pg_name (i := 11) nd rfl (.inr rfl)) (pgs_cons (pg_name (i := 12) nd rfl (.inl rfl)) pgs_nil)))
            (pss_cons (ps_set (i := 13) nd rfl (.inl rfl) (pe_cmpR (op_eqD hr.units) (pe_lc (own := [("_law_vector_here", 16)]) (g := gName 16) rfl nd (pi_list (pe_ix (r := rIxL K) ix_list (pv 7) (pv 9) (fun _ _ => rfl))) (blkOk_by (N := N_law) (sc := defScope s_law) (by decide +kernel))
                (fun _ _ _ _ _ => pg_name (i := 16) nd rfl (Or.inl rfl)) (fun _ _ _ _ _ => pts_one (pt_not (pt_val (pe_call G5 hr8 (by rfl) D5.g D5.kp D5.b .nil pass0 (pa_cons (pv 16) (pa_cons (pe_ix (r := rIxL K) ix_list (pv 7) (pv 11) (fun _ _ => rfl)) pa_nil)))))) (fun _ _ _ _ _ => pv 16)) (pe_lst pa_nil) (nomark _)))
            (pss_cons (ps_set (i := 14) nd rfl (.inl rfl) (pe_cmpR (op_eqD hr.units) (pe_lc (own := [("_law_vector_here", 16)]) (g := gName 16) rfl nd (pi_list (pe_ix (r := rIxL K) ix_list (pv 7) (pv 11) (fun _ _ => rfl))) (blkOk_by (N := N_law) (sc := defScope s_law) (by decide +kernel))
                (fun _ _ _ _ _ => pg_name (i := 16) nd rfl (Or.inl rfl)) (fun _ _ _ _ _ => pts_one (pt_not (pt_val (pe_call G5 hr8 (by rfl) D5.g D5.kp D5.b .nil pass0 (pa_cons (pv 16) (pa_cons (pe_ix (r := rIxL K) ix_list (pv 7) (pv 9) (fun _ _ => rfl)) pa_nil)))))) (fun _ _ _ _ _ => pv 16)) (pe_lst pa_nil) (nomark _)))
            (pss_cons (ps_if (PW.pt (pw_or (pt_cmpR op_ne (pe_meth (pv 10) T.cl MW GW hr9 bW .nil pass0 (pa_cons (pv 12) pa_nil)) (pv 13) (nomark _))
                (pw_or1 (pt_cmpR op_ne (pe_cmpR (op_eqOwn GE hr9 bE aE iE) (pv 10) (pv 12) (nomark _)) (pe_and (pv 13) (pe_one (pv 14))) (nomark _))))) (pss_one (ps_ret pe_bl)) pss_nil)
            (pss_one (ps_if (pt_cmpR op_eq (pe_cmpR (op_neOwn GE hr bE aE iE aN Is.hm) (pv 10) (pv 12) (nomark _)) (pe_and (pv 13) (pe_one (pv 14))) (nomark _)) (pss_one (ps_ret pe_bl)) pss_nil))))))
          (pss_cons (ps_if (PW.pt (pw_or (pt_cmpR (op_eqOwn GE hr9 bE aE iE) (pv 10) (pe_prop (pv 10) T.cl PB GB hr9 bB .nil pass0 rfl) (nomark _)) (pw_or1 (pt_cmpR (op_eqOwn GE hr9 bE aE iE) (pv 10) pe_str (nomark _))))) (pss_one (ps_ret pe_bl)) pss_nil)
          (pss_one (ps_if (pt_cmpR (op_eqOwn GE hr9 bE aE iE) (pv 10) (pe_make M GI hr8 rfl mgC bI .nil pass0 (pa_cons (pe_op op_add (pv 3) pe_int) (pa_cons
              (pe_lc (own := [("_law_vector_here", 16)]) (g := gName 16) (tt := tYes) rfl nd (pi_list (pe_ix (r := rIxL K) ix_list (pv 7) (pv 9) (fun _ _ => rfl))) (blkOk_by (N := N_law) (sc := defScope s_law) (by decide +kernel))
                (fun _ _ _ _ _ => pg_name (i := 16) nd rfl (Or.inl rfl)) (fun _ _ _ _ _ => pts_nil) (fun _ _ _ _ _ => pe_op (r := rCatT K) op_catT (pv 16) (pe_tup (pa_cons pe_int pa_nil)))) pa_nil))) (nomark _)) (pss_one (ps_ret pe_bl)) pss_nil)))))
        (pss_one (ps_if (pt_cmpR op_ne (pe_callB (call_lenOwn GL hr9 bL aL iL) (by rfl) m1 PySem.boot_len (pa_cons (ClX.pe_cmeth (pe_glob (v := .ref C) rfl mgC rfl) cr cm GF hr9 pass0 (pa_cons (pv 3) pa_nil)) pa_nil)) (pv 3) (nomark _)) (pss_one (ps_ret pe_bl)) pss_nil)))))))))))
      (pss_one (ps_ret pe_bl)), ?_⟩
    have hM : ∃ M : Int, M = (if (if (ns.length : Int) < 5 then (ns.length : Int) else 5) > 1 then (if (ns.length : Int) < 5 then (ns.length : Int) else 5) else 1) ∧ 0 ≤ M ∧ M ≤ 5 := ⟨_, rfl, by split <;> split <;> omega, by split <;> split <;> omega⟩
    obtain ⟨M', hM', M0, M6⟩ := hM
    refine ⟨_, rfl, a, _, rfl, .inl hS, _, _, rfl, _, _, rfl, ?_⟩
    rw [List.length_map]
    refine ⟨M', by rw [hM'], by omega, by omega, ?_⟩
    refine for_range (lo := 0) (n := M'.toNat) (fun i σ H' => Same H H' ∧ ∃ (y1 y2 y3 y4 y5 y6 y7 y8 y9 y10 y11 y12 y13 y14 : Option V), σ = [some (.ref a), y1, y2, y3, y4, y5, y6, y7, y8, y9, y10, y11, y12, y13, y14, none, none, none]) ⟨Same.refl _, _, _, _, _, _, _, _, _, _, _, _, _, _, _, rfl⟩ ?_ ?_
    · rintro i σ H0 hi ⟨s0, y1, y2, y3, y4, y5, y6, y7, y8, y9, y10, y11, y12, y13, y14, rfl⟩
      rw [Int.zero_add]
      refine ⟨_, rfl, _, rfl, a, ns, i, rfl, s0.seq hS, by omega, fun p H1 s1 np hp1 => ?_⟩
      have npH : H p = none := by
        cases e : H p with
        | none => rfl
        | some o => rw [s0 _ _ e] at np; cases np
      have sH1 := s0.trans s1
      refine ⟨_, rfl, p, 5, rfl, hp1, by decide, by decide, fun r H2 r0 r1 s2 hp2 => ⟨_, _, rfl, rfl, ?_⟩⟩
      obtain ⟨n, hn, hn1, hn5⟩ : ∃ n : Nat, (1 : Int) + r = (n : Nat) ∧ 1 ≤ n ∧ n ≤ 5 := ⟨(1 + r).toNat, by omega, by omega, by omega⟩
      change gName 3 (V.int (1 + r)) _ _ _
      rw [hn]
      -- first
      refine ⟨_, rfl, _, rfl, p, n, 4, rfl, hp2, by omega, by decide, fun g1 xs1 S1 H3 s3 hp3 ng1 hg1 hgp1 hR1 hl1 hN1 hE1 => ?_⟩
      have good1 := ent_good (by omega) (by decide) hl1 hN1 hE1
      have e86 := LA.ent_86 (by decide) hE1
      -- second
      refine ⟨_, rfl, _, rfl, p, 5, rfl, hp3, by decide, by decide, fun r2 H4 r20 r21 s4 hp4 => ⟨_, rfl, g1, xs1, rfl, SqL.of (s4 _ _ hgp1 hg1), fun t1 nt1 => ?_⟩⟩
      have hg4 := s4 _ _ hgp1 hg1
      have hR4 := hR1.tk (s4.tk hp3.lst)
      have hcut : ∃ ca cb, cutV xs1 none (some r2) = (xs1.drop ca).take cb := ⟨_, _, rfl⟩
      obtain ⟨ca, cb, hcut⟩ := hcut
      rw [hcut]
      have st1 : Same H4 (upd H4 t1 (.lst ((xs1.drop ca).take cb))) := same_new nt1
      have et1 : (upd H4 t1 (.lst ((xs1.drop ca).take cb))) t1 = some (.lst ((xs1.drop ca).take cb)) := upd_same
      have npt : p ≠ t1 := by obtain ⟨zs, h⟩ := hp4.lst; exact ne_of_none h nt1
      have hp5 := hp4.new (o := .lst ((xs1.drop ca).take cb)) nt1
      generalize upd H4 t1 (.lst ((xs1.drop ca).take cb)) = H5 at st1 et1 hp5
      have hg5 := st1 _ _ hg4
      have hRc := (hR4.tk (Same.tk st1)).cut ca cb
      refine ⟨_, rfl, _, rfl, p, n, 2, rfl, hp5, by omega, by decide, fun g2 xs2 S2 H6 s6 hp6 ng2 hg2 hgp2 hR2 hl2 hN2 hE2 => ?_⟩
      have good2 := ent_good (by omega) (by decide) hl2 hN2 hE2
      have et6 := s6 _ _ npt.symm et1
      have hg6 := s6 _ _ hgp1 hg5
      have hlc : ((S1.drop ca).take cb).length ≤ 4 := by rw [List.length_take, List.length_drop]; omega
      have hxc := hRc.1
      have hx2 := hR2.1
      refine ⟨t1, g2, _, _, rfl, rfl, et6, hg2, Nat.le_of_lt (small1000 (by omega)), fun z nz => ?_⟩
      have tk6 : TK H5 H6 := s6.tk hp5.lst
      have sz : Same H6 (upd H6 z (.lst ((xs1.drop ca).take cb ++ xs2))) := same_new nz
      have ez : (upd H6 z (.lst ((xs1.drop ca).take cb ++ xs2))) z = some (.lst ((xs1.drop ca).take cb ++ xs2)) := upd_same
      have sH6 : Same H H6 := Same.put npH ((Same.put npH (Same.put npH (Same.put npH sH1 s2) s3) s4).trans st1) s6
      have hR16 := (hR4.tk (Same.tk st1)).tk tk6
      generalize upd H6 z (.lst ((xs1.drop ca).take cb ++ xs2)) = H7 at sz ez
      have sH7 := sH6.trans sz
      have rl2 : Rl K H7 (.ref z) ((S1.drop ca).take cb ++ S2) := ⟨z, _, rfl, ez, ((hRc.tk tk6).app hR2).tk (Same.tk sz)⟩
      have good2' : LA.Good n ((S1.drop ca).take cb ++ S2) := (good1.sub (fun u hu => List.mem_of_mem_drop (List.mem_of_mem_take hu)) (by omega)).app good2 (by omega)
      generalize (S1.drop ca).take cb ++ S2 = S2' at rl2 good2'
      have hR17 := hR16.tk (Same.tk sz)
      have hg7 := sz _ _ hg6
      have rl1 : Rl K H7 (.ref g1) S1 := ⟨g1, xs1, rfl, hg7, hR17⟩
      -- third
      refine ⟨_, rfl, 1, rfl, rfl, g1, xs1, rfl, SqL.of hg7, fun t2 nt2 => ?_⟩
      have st2 : Same H7 (upd H7 t2 (.lst xs1.reverse)) := same_new nt2
      have et2 : (upd H7 t2 (.lst xs1.reverse)) t2 = some (.lst xs1.reverse) := upd_same
      generalize upd H7 t2 (.lst xs1.reverse) = H8 at st2 et2
      have hR8 := (hR17.tk (Same.tk st2)).rev
      refine ⟨t2, rfl, ⟨_, SqL.of et2⟩, fun D3 nD3 => ?_⟩
      refine lc_it (walk_list (K := K) (a := t2) (xs := xs1.reverse)) (fun j H' => Same H8 H' ∧ ∃ acc, H' D3 = some (.lst acc) ∧ Rws K H' acc ((S1.reverse.take j).map fun u => u.map fun x => 3 * x)) ⟨same_new nD3, [], upd_same, Rws.nil⟩ (fun j H' _ h => SqL.of (h.1 _ _ et2)) ?_ ?_
      · rintro j y Ha Hb hj ⟨sa, acc, eD, hacc⟩ ⟨rfl, hy⟩
        refine ⟨rfl, ?_⟩
        dsimp only [tYes]
        refine iteT ?_
        obtain ⟨hj', hv⟩ := (hR8.tk (Same.tk sa)).at hy
        obtain ⟨av, rfl, hSv⟩ := hv
        have ul : S1.reverse[j].length = n := hN1 _ (List.mem_reverse.mp (List.getElem_mem hj'))
        have htake : S1.reverse.take (j + 1) = S1.reverse.take j ++ [S1.reverse[j]] := by rw [List.take_add_one, List.getElem?_eq_getElem hj']; rfl
        rw [htake, List.map_append]
        generalize S1.reverse[j] = u at hSv ul
        refine ⟨_, rfl, av, rfl, ⟨_, hSv⟩, fun D4 nD4 => ?_⟩
        refine lc_it (walk_tup (K := K) (a := av) (xs := u.map V.int)) (Acc Hb D4 fun k => V.int (3 * LA.e u k)) (Acc.start nD4) (fun k H' _ h => Same.sqt h.1 hSv) ?_ ?_
        · rintro k x Hc Hd hk h ⟨rfl, hx⟩
          obtain ⟨hk', rfl⟩ := int_of hx
          refine ⟨rfl, ?_⟩
          dsimp only [tYes]
          refine iteT ?_
          exact ⟨_, rfl, 3, LA.e u k, rfl, rfl, .inl ⟨by decide, by decide⟩, h.turn nD4 (Same.refl _) (by omega) rfl⟩
        · rintro Hc h
          rw [List.length_map, ul] at h
          refine ⟨D4, _, rfl, .inl ⟨SqL.of h.2, fun l nl => ?_⟩⟩
          have hcomb : (List.range n).map (fun k => V.int (3 * LA.e u k)) = (u.map fun x => 3 * x).map V.int :=
            range_ints (by rw [List.length_map]; exact ul) fun k _ => by rw [LA.e_map (f := fun x => 3 * x) (by decide)]
          rw [hcomb]
          have sl : Same Hc (upd Hc l (.tup ((u.map fun x => 3 * x).map V.int))) := same_new nl
          have el : (upd Hc l (.tup ((u.map fun x => 3 * x).map V.int))) l = some (.tup ((u.map fun x => 3 * x).map V.int)) := upd_same
          generalize upd Hc l (.tup ((u.map fun x => 3 * x).map V.int)) = He at sl el
          have s5 := h.1.trans sl
          have eD5 := s5 _ _ eD
          have hal := hacc.1
          refine ⟨acc, eD5, small1000 (by rw [hal, List.length_map, List.length_take, List.length_reverse]; omega), same_at nD3 (sa.trans s5), acc ++ [.ref l], upd_same, ?_⟩
          exact ((hacc.tk (Same.tk s5)).snoc ⟨l, rfl, SqT.of el⟩).tk (tk_lst eD5)
      · rintro H9 ⟨s89, acc3, eD3, hacc3⟩
        rw [List.length_reverse, hR1.1, ← List.length_reverse, List.take_length] at hacc3
        have s79 := st2.trans s89
        have rl3 : Rl K H9 (.ref D3) (S1.reverse.map fun u => u.map fun x => 3 * x) := ⟨D3, acc3, rfl, eD3, hacc3⟩
        have good3 := three_good (n := n) (S := S1) (by omega) (by omega) hN1 e86
        generalize (S1.reverse.map fun u => u.map fun x => 3 * x) = S3 at rl3 good3
        have rl1 := rl1.keep s79
        have rl2 := rl2.keep s79
        have sH9 := sH7.trans s79
        -- rows
        refine ⟨_, rfl, _, rfl, _, rfl, Nat.zero_le _, fun l0 nl0 => ?_⟩
        have sl0 : Same H9 (upd H9 l0 (.lst [])) := same_new nl0
        have el0 : (upd H9 l0 (.lst [])) l0 = some (.lst []) := upd_same
        generalize upd H9 l0 (.lst []) = H10 at sl0 el0
        refine ⟨rfl, _, rfl, n, rfl, hn1, by omega, fun xf Hf sf hspf => ?_⟩
        obtain ⟨af, dxf, vf, rfl, hxf, hBf⟩ := hspf
        rw [LA.units_reduced] at hBf
        obtain ⟨ab, xsu, rfl, hSu, hRu⟩ := hBf
        refine ⟨af, dxf, _, rfl, hxf, af, dxf, _, _, rfl, hxf, sf_b _ _, ab, xsu, rfl, .inr hSu, fun l5 nl5 => ?_⟩
        have sl5 : Same Hf (upd Hf l5 (.lst xsu)) := same_new nl5
        have el5 : (upd Hf l5 (.lst xsu)) l5 = some (.lst xsu) := upd_same
        have hRu5 := hRu.tk (Same.tk sl5)
        generalize upd Hf l5 (.lst xsu) = H11 at sl5 el5 hRu5
        refine ⟨by show 5 ≤ sizeLine; decide, fun R nR => ?_⟩
        have sR : Same H11 (upd H11 R (.lst [.ref g1, .ref z, .ref D3, .ref l0, .ref l5])) := same_new nR
        have eR : (upd H11 R (.lst [.ref g1, .ref z, .ref D3, .ref l0, .ref l5])) R = some (.lst [.ref g1, .ref z, .ref D3, .ref l0, .ref l5]) := upd_same
        generalize upd H11 R (.lst [.ref g1, .ref z, .ref D3, .ref l0, .ref l5]) = H12 at sR eR
        have s9C := ((sl0.trans sf).trans sl5).trans sR
        have sHC := sH9.trans s9C
        have gU := LA.units_good (n := n) (by omega)
        have rls : Rls K H12 [.ref g1, .ref z, .ref D3, .ref l0, .ref l5] [S1, S2', S3, [], LA.units n] := by
          refine ⟨rfl, fun i x S e1 e2 => ?_⟩
          match i, e1, e2 with
          | 0, e1, e2 => cases e1; cases e2; exact rl1.keep s9C
          | 1, e1, e2 => cases e1; cases e2; exact rl2.keep s9C
          | 2, e1, e2 => cases e1; cases e2; exact rl3.keep s9C
          | 3, e1, e2 => cases e1; cases e2; exact ⟨l0, [], rfl, ((sf.trans sl5).trans sR) _ _ el0, Rws.nil⟩
          | 4, e1, e2 => cases e1; cases e2; exact ⟨l5, xsu, rfl, sR _ _ el5, hRu5.tk (Same.tk sR)⟩
          | i + 5, e1, e2 => cases e1
        have goods : ∀ S ∈ [S1, S2', S3, [], LA.units n], LA.Good n S := by
          intro S hS
          simp only [List.mem_cons, List.not_mem_nil, or_false] at hS
          rcases hS with rfl | rfl | rfl | rfl | rfl
          · exact good1
          · exact good2'
          · exact good3
          · exact LA.Good.nil (by omega)
          · exact gU
        have hl5 : ([S1, S2', S3, [], LA.units n] : List (List LA.Vec)).length = 5 := rfl
        have hx5 : ([.ref g1, .ref z, .ref D3, .ref l0, .ref l5] : List V).length = 5 := rfl
        generalize ([S1, S2', S3, [], LA.units n] : List (List LA.Vec)) = Ss at rls goods hl5
        generalize ([.ref g1, .ref z, .ref D3, .ref l0, .ref l5] : List V) = rows at eR rls hx5
        -- the spaces
        refine ⟨_, rfl, R, rfl, ⟨_, SqL.of eR⟩, fun D5 nD5 => ?_⟩
        refine lc_it (walk_list (K := K) (a := R) (xs := rows)) (fun j H' => Same H12 H' ∧ ∃ acc, H' D5 = some (.lst acc) ∧ Spcs K C H' n acc (Ss.take j)) ⟨same_new nD5, [], upd_same, rfl, fun i x S h => by simp at h⟩ (fun j H' _ h => SqL.of (h.1 _ _ eR)) ?_ ?_
        · rintro j y Ha Hb hj ⟨sa, acc, eD, hacc⟩ ⟨rfl, hy⟩
          obtain ⟨hj', hrl⟩ := (rls.keep sa).at hy
          have gS := goods _ (List.getElem_mem hj')
          refine ⟨rfl, ?_⟩
          dsimp only [tYes]
          refine iteT ?_
          refine ⟨_, rfl, _, rfl, fun x dx nx ndx ne => use_init (n := n) hrl.sv gS.sizes hn1 (by omega) nx ndx ne fun H2 s2 hsp => ?_⟩
          have eD2 := s2 _ _ eD
          have hal : acc.length = j := by rw [hacc.1, List.length_take]; omega
          refine ⟨acc, eD2, small1000 (by omega), same_at nD5 (sa.trans s2), acc ++ [.ref x], upd_same, ?_⟩
          have tkx : ∀ y m B, Spc K C H2 y m B → Spc K C (upd H2 D5 (.lst (acc ++ [V.ref x]))) y m B := by
            rintro y m B ⟨b, dxb, vb, rfl, h1, h2⟩
            exact ⟨b, dxb, vb, rfl, by rw [upd_ne (ne_of h1 eD2 (by intro z; cases z))]; exact h1, h2.tk (tk_lst eD2)⟩
          have htk : Ss.take (j + 1) = Ss.take j ++ [Ss[j]] := by rw [List.take_add_one, List.getElem?_eq_getElem hj']; rfl
          rw [htk]
          have hal2 : acc.length = (Ss.take j).length := hacc.1
          refine ⟨by rw [List.length_append, List.length_append, hal2]; rfl, fun k y S e1 e2 => tkx _ _ _ ?_⟩
          rcases Nat.lt_trichotomy k acc.length with hk | hk | hk
          · rw [List.getElem?_append_left hk] at e1
            rw [List.getElem?_append_left (by omega)] at e2
            exact (hacc.2 k y S e1 e2).keep s2
          · rw [List.getElem?_append_right (by omega), hk, Nat.sub_self] at e1
            rw [List.getElem?_append_right (by omega), ← hal2, hk, Nat.sub_self] at e2
            cases e1
            cases e2
            exact hsp
          · have := (List.getElem?_eq_some_iff.mp e1).1
            rw [List.length_append] at this
            have : k < acc.length + 1 := this
            omega
        · rintro H13 ⟨s13, spl, eD5, hspl⟩
          rw [hx5, ← hl5, List.take_length] at hspl
          have rls := rls.keep s13
          have eR13 := s13 _ _ eR
          have sH13 := sHC.trans s13
          have hsl := hspl.1
          -- facts of one space
          have small : ∀ (S : List LA.Vec), S ∈ Ss → RowsOk n 745 (LA.reduced S) := fun S hS c hc => ⟨(goods S hS).red.len c hc, ((goods S hS).red.piv c hc).2, (goods S hS).small c hc⟩
          refine ⟨_, rfl, D5, spl, rfl, SqL.of eD5, ?_⟩
          refine for_it (walk_enum (K := K) (a := D5) (xs := spl)) (fun j σ H' => Same H13 H' ∧ ∃ (y9 y10 y11 y12 y13 y14 : Option V), σ = [some (.ref a), some (.int (i : Nat)), some (.ref p), some (.int (n : Nat)), some (.ref g1), some (.ref z), some (.ref D3), some (.ref R), some (.ref D5), y9, y10, y11, y12, y13, y14, none, none, none])
            ⟨Same.refl _, _, _, _, _, _, _, rfl⟩ (fun j σ H' _ h => h.1.seq (SqL.of eD5)) ?_ ?_
          · rintro i1 x1 σ Ha Hb hi1 ⟨sa, y9, y10, y11, y12, y13, y14, rfl⟩ ⟨T1, xi1, xs1', rfl, nT1, rfl, ga, gb⟩
            cases ga
            have sT1 : Same Ha (upd Ha T1 (.tup [V.int (i1 : Nat), xs1'])) := same_new nT1
            refine ⟨T1, _, rfl, SqT.of upd_same, rfl, _, _, rfl, _, _, rfl, rfl, ?_⟩
            have sab := sa.trans sT1
            generalize upd Ha T1 (.tup [V.int (i1 : Nat), xs1']) = H14 at sab
            obtain ⟨hj1, hsp1⟩ := hspl.at gb
            have mS1 := List.getElem_mem hj1
            have hrow1 : ∃ v1, rows[i1]? = some v1 := ⟨rows[i1], List.getElem?_eq_getElem (by omega)⟩
            obtain ⟨v1, hv1⟩ := hrow1
            obtain ⟨_, hrl1⟩ := rls.at hv1
            have gd1 := goods _ mS1
            have sm1 := small _ mS1
            generalize Ss[i1] = A1 at hsp1 hrl1 gd1 sm1
            refine ⟨_, rfl, D5, spl, rfl, SqL.of (sab _ _ eD5), ?_⟩
            refine for_it (walk_enum (K := K) (a := D5) (xs := spl)) (fun j σ H' => Same H13 H' ∧ ∃ (y11 y12 y13 y14 : Option V), σ = [some (.ref a), some (.int (i : Nat)), some (.ref p), some (.int (n : Nat)), some (.ref g1), some (.ref z), some (.ref D3), some (.ref R), some (.ref D5), some (.int (i1 : Nat)), some xs1', y11, y12, y13, y14, none, none, none])
              ⟨sab, _, _, _, _, rfl⟩ (fun j σ H' _ h => h.1.seq (SqL.of eD5)) ?_ ?_
            · rintro i2 x2 σ Hc Hd hi2 ⟨sc, y11, y12, y13, y14, rfl⟩ ⟨T2, xi2, xs2', rfl, nT2, rfl, gc, gd⟩
              cases gc
              have sT2 : Same Hc (upd Hc T2 (.tup [V.int (i2 : Nat), xs2'])) := same_new nT2
              refine ⟨T2, _, rfl, SqT.of upd_same, rfl, _, _, rfl, _, _, rfl, rfl, ?_⟩
              have scd := sc.trans sT2
              generalize upd Hc T2 (.tup [V.int (i2 : Nat), xs2']) = H15 at scd
              obtain ⟨hj2, hsp2⟩ := hspl.at gd
              have mS2 := List.getElem_mem hj2
              obtain ⟨v2, hv2⟩ : ∃ v2, rows[i2]? = some v2 := ⟨rows[i2], List.getElem?_eq_getElem (by omega)⟩
              obtain ⟨_, hrl2⟩ := rls.at hv2
              have gd2 := goods _ mS2
              have sm2 := small _ mS2
              generalize Ss[i2] = A2 at hsp2 hrl2 gd2 sm2
              obtain ⟨gA, yA, rfl, egA, hrA⟩ := id hrl1
              obtain ⟨gB, yB, rfl, egB, hrB⟩ := id hrl2
              have hcA := gd1.cost
              have hcB := gd2.cost
              have h8A := gd1.s8
              have h8B := gd2.s8
              -- within
              refine ⟨_, rfl, _, rfl, R, rows, _, _, rfl, rfl, SqL.of (scd _ _ eR13), atI_nat hv1, gA, rfl, ⟨_, SqL.of (scd _ _ egA)⟩, fun D6 nD6 => ?_⟩
              refine lc_it (walk_list (K := K) (a := gA) (xs := yA)) (fun k H' => Same H15 H' ∧ ∃ acc, H' D6 = some (.lst acc) ∧ Rws K H' acc ((A1.take k).filter fun u => !LA.isZero (LA.rest (LA.reduced A2) u))) ⟨same_new nD6, [], upd_same, Rws.nil⟩ (fun k H' _ h => SqL.of (h.1 _ _ (scd _ _ egA))) ?_ ?_
              · rintro k y He Hf hk ⟨se, acc, eD, hacc⟩ ⟨rfl, hy⟩
                obtain ⟨hk', hv⟩ := ((hrA.tk (Same.tk scd)).tk (Same.tk se)).at hy
                have mk := List.getElem_mem hk'
                have htk : A1.take (k + 1) = A1.take k ++ [A1[k]] := by rw [List.take_add_one, List.getElem?_eq_getElem hk']; rfl
                rw [htk, List.filter_append]
                have ul := gd1.len _ mk
                have hbw := LA.bw_le (by decide) (gd1.bd _ mk)
                generalize A1[k] = u at hv ul hbw
                refine ⟨rfl, ?_⟩
                refine ⟨_, rfl, _, rfl, _, rfl, R, rows, _, _, rfl, rfl, SqL.of (se _ _ (scd _ _ eR13)), atI_nat hv2, ?_⟩
                dsimp only [tNil, List.append_nil]
                refine ⟨y, u, gB, yB, A2, n, 3, rfl, hv, ul, se _ _ (scd _ _ egB), (hrB.tk (Same.tk scd)).tk (Same.tk se), gd2.len, by omega, by omega, by show n + 1 ≤ 8; omega, ?_, fun H7 s7 => ⟨_, rfl, ?_⟩⟩
                · rw [LA.cost_append, LA.cost_cons]
                  show LA.cost 3 A2 + (LA.bw u + 3 + 0) ≤ 8000
                  omega
                · have hal := hacc.1
                  have hfl : ((A1.take k).filter fun u => !LA.isZero (LA.rest (LA.reduced A2) u)).length ≤ 8 := Nat.le_trans (List.length_filter_le _ _) (by rw [List.length_take]; omega)
                  cases hb : LA.isZero (LA.rest (LA.reduced A2) u)
                  · refine ⟨_, rfl, acc, s7 _ _ eD, small1000 (by omega), same_at nD6 (se.trans s7), acc ++ [y], upd_same, ?_⟩
                    have e1 : ([u].filter fun u => !LA.isZero (LA.rest (LA.reduced A2) u)) = [u] := by rw [List.filter_cons, hb]; rfl
                    rw [e1]
                    exact ((hacc.tk (Same.tk s7)).snoc (hv.keep s7)).tk (tk_lst (s7 _ _ eD))
                  · refine ⟨se.trans s7, acc, s7 _ _ eD, ?_⟩
                    have e1 : ([u].filter fun u => !LA.isZero (LA.rest (LA.reduced A2) u)) = [] := by rw [List.filter_cons, hb]; rfl
                    rw [e1, List.append_nil]
                    exact hacc.tk (Same.tk s7)
              · rintro He ⟨se, acc, eD, hacc⟩
                rw [hrA.1, List.take_length] at hacc
                refine ⟨Nat.zero_le _, fun l nl => ?_⟩
                have sl : Same He (upd He l (.lst [])) := same_new nl
                refine ⟨.list _, .list [], .lst (SqL.of (sl _ _ eD)) (dp_rows (hacc.tk (Same.tk sl))), .lst (SqL.of upd_same) .nil, shaped_l _, by decide, ?_⟩
                rw [eqv_nil' (xs := []) (K := K) (H := H), LA.filt_nil]
                have s15 := scd.trans (se.trans sl)
                generalize upd He l (.lst []) = H16 at s15
                clear sl nl hacc eD se nD6
                -- back
                refine ⟨_, rfl, _, rfl, R, rows, _, _, rfl, rfl, SqL.of (s15 _ _ eR13), atI_nat hv2, gB, rfl, ⟨_, SqL.of (s15 _ _ egB)⟩, fun D6 nD6 => ?_⟩
                refine lc_it (walk_list (K := K) (a := gB) (xs := yB)) (fun k H' => Same H16 H' ∧ ∃ acc, H' D6 = some (.lst acc) ∧ Rws K H' acc ((A2.take k).filter fun u => !LA.isZero (LA.rest (LA.reduced A1) u))) ⟨same_new nD6, [], upd_same, Rws.nil⟩ (fun k H' _ h => SqL.of (h.1 _ _ (s15 _ _ egB))) ?_ ?_
                · rintro k y He Hf hk ⟨se, acc, eD, hacc⟩ ⟨rfl, hy⟩
                  obtain ⟨hk', hv⟩ := ((hrB.tk (Same.tk s15)).tk (Same.tk se)).at hy
                  have mk := List.getElem_mem hk'
                  have htk : A2.take (k + 1) = A2.take k ++ [A2[k]] := by rw [List.take_add_one, List.getElem?_eq_getElem hk']; rfl
                  rw [htk, List.filter_append]
                  have ul := gd2.len _ mk
                  have hbw := LA.bw_le (by decide) (gd2.bd _ mk)
                  generalize A2[k] = u at hv ul hbw
                  refine ⟨rfl, ?_⟩
                  refine ⟨_, rfl, _, rfl, _, rfl, R, rows, _, _, rfl, rfl, SqL.of (se _ _ (s15 _ _ eR13)), atI_nat hv1, ?_⟩
                  dsimp only [tNil, List.append_nil]
                  refine ⟨y, u, gA, yA, A1, n, 3, rfl, hv, ul, se _ _ (s15 _ _ egA), (hrA.tk (Same.tk s15)).tk (Same.tk se), gd1.len, by omega, by omega, by show n + 1 ≤ 8; omega, ?_, fun H7 s7 => ⟨_, rfl, ?_⟩⟩
                  · rw [LA.cost_append, LA.cost_cons]
                    show LA.cost 3 A1 + (LA.bw u + 3 + 0) ≤ 8000
                    omega
                  · have hal := hacc.1
                    have hfl : ((A2.take k).filter fun u => !LA.isZero (LA.rest (LA.reduced A1) u)).length ≤ 8 := Nat.le_trans (List.length_filter_le _ _) (by rw [List.length_take]; omega)
                    cases hb : LA.isZero (LA.rest (LA.reduced A1) u)
                    · refine ⟨_, rfl, acc, s7 _ _ eD, small1000 (by omega), same_at nD6 (se.trans s7), acc ++ [y], upd_same, ?_⟩
                      have e1 : ([u].filter fun u => !LA.isZero (LA.rest (LA.reduced A1) u)) = [u] := by rw [List.filter_cons, hb]; rfl
                      rw [e1]
                      exact ((hacc.tk (Same.tk s7)).snoc (hv.keep s7)).tk (tk_lst (s7 _ _ eD))
                    · refine ⟨se.trans s7, acc, s7 _ _ eD, ?_⟩
                      have e1 : ([u].filter fun u => !LA.isZero (LA.rest (LA.reduced A1) u)) = [] := by rw [List.filter_cons, hb]; rfl
                      rw [e1, List.append_nil]
                      exact hacc.tk (Same.tk s7)
                · rintro He ⟨se, acc, eD, hacc⟩
                  rw [hrB.1, List.take_length] at hacc
                  refine ⟨Nat.zero_le _, fun l nl => ?_⟩
                  have sl : Same He (upd He l (.lst [])) := same_new nl
                  refine ⟨.list _, .list [], .lst (SqL.of (sl _ _ eD)) (dp_rows (hacc.tk (Same.tk sl))), .lst (SqL.of upd_same) .nil, shaped_l _, by decide, ?_⟩
                  rw [eqv_nil' (xs := []) (K := K) (H := H), LA.filt_nil]
                  have s17 := s15.trans (se.trans sl)
                  generalize upd He l (.lst []) = H17 at s17
                  clear sl nl hacc eD se nD6
                  have hsame := LA.all_same (n := n) (S := A1) (T := A2) gd1.len gd2.len
                  have hboth := LA.eq_both (n := n) (S := A1) (T := A2) gd1.len gd2.len
                  have hl1' := gd1.red.length_le
                  have hl2' := gd2.red.length_le
                  have hB2 : (LA.reduced A2).length * (745 + 1) ≤ 5 * 746 := Nat.mul_le_mul_right _ (by omega)
                  have hBA : ∀ c ∈ LA.reduced A1, c.length = n ∧ LA.Small 745 c := fun c hc => ⟨(sm1 c hc).1, (sm1 c hc).2.2⟩
                  have ty2 := (hsp2.keep s17).ty T.cl Is
                  generalize hw1 : (A1.all fun u => LA.isZero (LA.rest (LA.reduced A2) u)) = w1 at hsame hboth
                  generalize hw2 : (A2.all fun u => LA.isZero (LA.rest (LA.reduced A1) u)) = w2 at hboth
                  obtain ⟨ax1, dx1, vb1, rfl, hx1, hB1⟩ := id hsp1
                  have hboth' : decide (n = n ∧ LA.reduced A1 = LA.reduced A2) = (w1 && w2) := by rw [← hboth]; simp
                  refine ⟨_, rfl, ax1, dx1, _, rfl, s17 _ _ hx1, sf_none _ _ (by decide +kernel) (by decide +kernel), _, rfl, _, _, n, LA.reduced A1, LA.reduced A2, 745, 745, rfl, hsp1.keep s17, hsp2.keep s17, by omega, hBA, by omega, sm2, by omega, fun H18 s18 => ?_⟩
                  have s19 := s17.trans s18
                  rw [hsame]
                  refine ⟨_, rfl, rfl, _, rfl, iteNS rfl ?_⟩
                  refine ⟨_, rfl, _, rfl, ax1, dx1, _, _, rfl, s19 _ _ hx1, (hsp2.keep s19).ty T.cl Is, first_self, _, _, n, LA.reduced A1, rfl, hsp1.keep s19, .inr ⟨n, LA.reduced A2, hsp2.keep s19, _, rfl, ?_⟩⟩
                  rw [hboth']
                  refine ⟨_, rfl, w1, rfl, ?_⟩
                  have fin : ∀ H', Same H13 H' → Same H13 H' ∧ ∃ (y11' y12' y13' y14' : Option V), [some (V.ref a), some (.int (i : Nat)), some (.ref p), some (.int (n : Nat)), some (.ref g1), some (.ref z), some (.ref D3), some (.ref R), some (.ref D5), some (.int (i1 : Nat)), some (.ref ax1), some (.int (i2 : Nat)), some xs2', some (.bl w1), some (.bl w2), none, none, none] = [some (V.ref a), some (.int (i : Nat)), some (.ref p), some (.int (n : Nat)), some (.ref g1), some (.ref z), some (.ref D3), some (.ref R), some (.ref D5), some (.int (i1 : Nat)), some (.ref ax1), y11', y12', y13', y14', none, none, none] := fun H' s' => ⟨s', _, _, _, _, rfl⟩
                  have third : ∀ b : Bool, b = (w1 && w2) → decide (V.bl (!b) = V.bl (w1 && w2)) = false := fun b hb => by
                    subst hb
                    cases w1 && w2 <;> rfl
                  cases w1
                  · refine iteF ⟨rfl, _, rfl, iteNS rfl ?_⟩
                    refine ⟨_, rfl, _, rfl, ax1, dx1, _, _, rfl, s19 _ _ hx1, (hsp2.keep s19).ty T.cl Is, first_self, _, _, n, LA.reduced A1, rfl, hsp1.keep s19, .inr ⟨n, LA.reduced A2, hsp2.keep s19, _, rfl, ?_⟩⟩
                    rw [hboth']
                    refine ⟨_, rfl, false, rfl, iteF ⟨rfl, _, rfl, iteF ?_⟩⟩
                    exact fin _ s19
                  · refine iteT ⟨_, rfl, rfl, _, rfl, iteNS rfl ?_⟩
                    refine ⟨_, rfl, _, rfl, ax1, dx1, _, _, rfl, s19 _ _ hx1, (hsp2.keep s19).ty T.cl Is, first_self, _, _, n, LA.reduced A1, rfl, hsp1.keep s19, .inr ⟨n, LA.reduced A2, hsp2.keep s19, _, rfl, ?_⟩⟩
                    rw [hboth']
                    refine ⟨_, rfl, true, rfl, iteT ⟨_, rfl, rfl, _, rfl, ?_⟩⟩
                    cases w2
                    · exact iteF (fin _ s19)
                    · exact iteF (fin _ s19)
            · rintro σ Hc ⟨sc, y11, y12, y13, y14, rfl⟩
              obtain ⟨ax1, dx1, vb1, rfl, hx1, hB1⟩ := id hsp1
              have hx1c := sc _ _ hx1
              have hspc := hsp1.keep sc
              obtain ⟨ab1, xb1, rfl, hSb1, hRb1⟩ := hB1.tk (Same.tk sc)
              refine ⟨_, rfl, _, rfl, ax1, dx1, _, rfl, hx1c, ax1, dx1, _, _, rfl, hx1c, sf_b _ _, ax1, dx1, _, .type "tuple", rfl, hx1c, tyx_tup hSb1, nT, _, _, n, LA.reduced A1, rfl, hspc, .inl ⟨.type "tuple", tyx_tup hSb1, kT, false, rfl, false, rfl, iteF ?_⟩⟩
              refine ⟨_, rfl, ax1, dx1, _, .type "str", rfl, hx1c, .base (.str _), nS, _, _, n, LA.reduced A1, rfl, hspc, .inl ⟨.type "str", .base (.str _), kS, false, rfl, false, rfl, iteF ?_⟩⟩
              -- one wider
              obtain ⟨gA, yA, rfl, egA, hrA⟩ := id hrl1
              refine ⟨_, rfl, _, rfl, _, _, rfl, rfl, _, rfl, _, rfl, R, rows, _, _, rfl, rfl, SqL.of (sc _ _ eR13), atI_nat hv1, gA, rfl, ⟨_, SqL.of (sc _ _ egA)⟩, fun D6 nD6 => ?_⟩
              refine lc_it (walk_list (K := K) (a := gA) (xs := yA)) (fun k H' => Same Hc H' ∧ ∃ acc, H' D6 = some (.lst acc) ∧ Rws K H' acc ((A1.take k).map fun u => u ++ [0])) ⟨same_new nD6, [], upd_same, Rws.nil⟩ (fun k H' _ h => SqL.of (h.1 _ _ (sc _ _ egA))) ?_ ?_
              · rintro k y He Hf hk ⟨se, acc, eD, hacc⟩ ⟨rfl, hy⟩
                obtain ⟨hk', hv⟩ := ((hrA.tk (Same.tk sc)).tk (Same.tk se)).at hy
                have mk := List.getElem_mem hk'
                have htk : A1.take (k + 1) = A1.take k ++ [A1[k]] := by rw [List.take_add_one, List.getElem?_eq_getElem hk']; rfl
                rw [htk, List.map_append]
                have ul := gd1.len _ mk
                generalize A1[k] = u at hv ul
                obtain ⟨av, rfl, hSv⟩ := hv
                refine ⟨rfl, ?_⟩
                dsimp only [tYes]
                refine iteT ?_
                refine ⟨_, rfl, by show 1 ≤ sizeLine; decide, fun t nt => ?_⟩
                have st : Same Hf (upd Hf t (.tup [V.int 0])) := same_new nt
                have et : (upd Hf t (.tup [V.int 0])) t = some (.tup [V.int 0]) := upd_same
                generalize upd Hf t (.tup [V.int 0]) = Hg at st et
                refine ⟨av, t, _, _, rfl, rfl, Same.sqt st hSv, SqT.of et, fun hz => ?_, Nat.le_of_lt (small1000 (by rw [List.length_map, ul]; show n + 1 ≤ 1000; omega)), (fun hz => by cases hz), fun _ q nq => ?_⟩
                · have := congrArg List.length hz
                  rw [List.length_map, ul] at this
                  simp at this
                  omega
                · have hcomb : u.map V.int ++ [V.int 0] = (u ++ [0]).map V.int := by rw [List.map_append]; rfl
                  rw [hcomb]
                  have sq : Same Hg (upd Hg q (.tup ((u ++ [0]).map V.int))) := same_new nq
                  have eq : (upd Hg q (.tup ((u ++ [0]).map V.int))) q = some (.tup ((u ++ [0]).map V.int)) := upd_same
                  generalize upd Hg q (.tup ((u ++ [0]).map V.int)) = Hh at sq eq
                  have s5 := st.trans sq
                  have hal := hacc.1
                  have h8A := gd1.s8
                  refine ⟨acc, s5 _ _ eD, small1000 (by rw [hal, List.length_map, List.length_take]; omega), same_at nD6 (se.trans s5), acc ++ [.ref q], upd_same, ?_⟩
                  exact ((hacc.tk (Same.tk s5)).snoc ⟨q, rfl, SqT.of eq⟩).tk (tk_lst (s5 _ _ eD))
              · rintro He ⟨se, acc, eD, hacc⟩
                rw [hrA.1, List.take_length] at hacc
                have gdw : LA.Good (n + 1) (A1.map fun u => u ++ [0]) := by
                  refine ⟨fun u hu => ?_, by omega, by rw [List.length_map]; exact gd1.s8, fun u hu x hx => ?_⟩
                  · obtain ⟨v, hv, rfl⟩ := List.mem_map.mp hu
                    rw [List.length_append, gd1.len v hv]
                    rfl
                  · obtain ⟨v, hv, rfl⟩ := List.mem_map.mp hu
                    rcases List.mem_append.mp hx with hx | hx
                    · exact gd1.bd v hv x hx
                    · rw [List.mem_singleton.mp hx]
                      decide
                have s20 := sc.trans se
                refine fun x dx nx ndx ne => use_init (n := n + 1) ⟨D6, acc, rfl, .inr (SqL.of eD), hacc⟩ gdw.sizes (by omega) (by omega) nx ndx ne fun H2 s2 hsp => ?_
                have s21 := s20.trans s2
                refine ⟨ax1, dx1, _, _, rfl, s21 _ _ hx1, hsp.ty T.cl Is, first_self, _, _, n, LA.reduced A1, rfl, hsp1.keep s21, .inr ⟨n + 1, _, hsp, _, rfl, _, rfl, ?_⟩⟩
                rw [decide_eq_false (fun z => by have := z.1; omega)]
                exact iteF ⟨s21, _, _, _, _, _, _, rfl⟩
          · rintro σ Ha ⟨sa, y9, y10, y11, y12, y13, y14, rfl⟩
            refine ⟨rfl, _, rfl, n, rfl, hn1, by omega, fun xf Hf sf hspf => ?_⟩
            obtain ⟨af, dxf, vf, rfl, hxf, hBf⟩ := id hspf
            refine ⟨af, dxf, _, rfl, hxf, .ref af, n, _, rfl, hspf, n, ?_, by omega, _, rfl, rfl, _, rfl, iteNS rfl ?_⟩
            · rw [LA.units_reduced, LA.units_len]
            · exact ⟨(sH13.trans sa).trans sf, _, _, _, _, _, _, _, _, _, _, _, _, _, _, rfl⟩
    · rintro σ H' ⟨s', y1, y2, y3, y4, y5, y6, y7, y8, y9, y10, y11, y12, y13, y14, rfl⟩
      exact q H'
end
end Sp1

set_option Elab.async false
set_option linter.all false
set_option maxRecDepth 100000
set_option maxHeartbeats 4000000
namespace Sp1
open PySem PySem.Spec PyProof.Rows L2
theorem kit_not {K : PySem.W.Frag} {C : Addr} {T : String} (h1 : PySem.W.isClsIn K C = true) (h2 : PySem.W.typeIn K (.ref C) = some (.type "type")) (h3 : PySem.W.subIn K (.type T) (.ref C) = some false) : PySem.W.kitOne K (.type T) (.ref C) = some false := by
  unfold PySem.W.kitOne
  rw [if_neg (by simp)]
  unfold PySem.W.kitCls
  have e : ((PySem.W.clsIn K C).isSome && PySem.W.typeIn K (.ref C) == some (.type "type")) = true := by
    have h1' : (PySem.W.clsIn K C).isSome = true := h1
    rw [h1', h2]
    simp
  show (if _ = true then _ else _) = _
  rw [if_pos e]
  exact h3
section
variable {P : Program} {w : World} {K : PySem.W.Frag} {mg : Str → Option Value} {base : Heap}
abbrev s_width : Stmt := inClass (top 27) 2
abbrev s_basis : Stmt := inClass (top 27) 3
theorem sc_width : FnScope ["self"] ["self"] (defScope s_width) := ⟨rfl, rfl, rfl, by decide +kernel, rfl, by decide +kernel, by decide +kernel⟩
theorem sc_basis : FnScope ["self"] ["self"] (defScope s_basis) := ⟨rfl, rfl, rfl, by decide +kernel, rfl, by decide +kernel, by decide +kernel⟩
theorem ok_width {f : Addr} {fd : FuncData} {k : Nat} {C : Addr} (F : Fun K "width" "Space.width" s_width f fd) (T : SpTxt K C) : FnOk P w K mg base CX0 (k + 1) f fd ["self"] (getSp C "_width") := by
  refine F.ok sc_width (fun vs H Q E h => ?_) (fun cdv A outer s H vs Q E hr h => ?_)
  · obtain ⟨a, dx, fs, v, rfl, _⟩ := h
    rfl
  · obtain ⟨a, dx, fs, v, rfl, ea, l, q⟩ := h
    exact ⟨_, pss_one (ps_ret (pe_fld (pv 0) rfl)), .ref a, rfl, a, C, dx, fs, v, rfl, ea, T.cl, T.nW, l, q⟩
theorem ok_basis {f : Addr} {fd : FuncData} {k : Nat} {C : Addr} (F : Fun K "basis" "Space.basis" s_basis f fd) (T : SpTxt K C) : FnOk P w K mg base CX0 (k + 1) f fd ["self"] (getSp C "_basis") := by
  refine F.ok sc_basis (fun vs H Q E h => ?_) (fun cdv A outer s H vs Q E hr h => ?_)
  · obtain ⟨a, dx, fs, v, rfl, _⟩ := h
    rfl
  · obtain ⟨a, dx, fs, v, rfl, ea, l, q⟩ := h
    exact ⟨_, pss_one (ps_ret (pe_fld (pv 0) rfl)), .ref a, rfl, a, C, dx, fs, v, rfl, ea, T.cl, T.nB, l, q⟩
end
end Sp1

set_option Elab.async false
set_option linter.all false
set_option maxRecDepth 100000
set_option maxHeartbeats 4000000
namespace Sp1
open PySem PySem.Spec PyProof.Rows L2
theorem all_mk {l : PySem.W.OpenLaw} {w : World} {K : PySem.W.Frag} {h : Heap} {mg : Str → Option Value} {fa : Addr} {C fI pF fF fE fW fL fCh pB gB pW gW : Addr} {fdF fdE fdW fdL fdCh fdB fdWd : FuncData} {mc : Value} {ocI kVI dcI pmI cdI ctI : Value} {odI anI : Option Addr} {slI : Array (Option Value)} {TD : Addr} {oT : Obj} {nT : Nat} {t0 : Addr} {tm : Tok}
    {f0 f1 f2 f3 f4 f5 f6 f7 f8 f9 f10 f11 f12 f13 f14 f15 f16 f17 f18 f19 f20 : Addr} {fd0 fd1 fd2 fd3 fd4 fd5 fd6 fd7 fd8 fd9 fd10 fd11 fd12 fd13 fd14 fd15 fd16 fd17 fd18 fd19 fd20 : FuncData}
    (X : K.In h) (G : h.Ns mainGlobals mg) (hfa : mg "law" = some (.ref fa))
    (a0 : PySem.W.nsIn K mainGlobals "is_integer" = some (some (.ref f0))) (F0 : Fun K "is_integer" "is_integer" s_is_integer f0 fd0)
    (a1 : PySem.W.nsIn K mainGlobals "common_divisor" = some (some (.ref f1))) (F1 : Fun K "common_divisor" "common_divisor" s_common_divisor f1 fd1)
    (a2 : PySem.W.nsIn K mainGlobals "pivot" = some (some (.ref f2))) (F2 : Fun K "pivot" "pivot" s_pivot f2 fd2)
    (a3 : PySem.W.nsIn K mainGlobals "divided" = some (some (.ref f3))) (F3 : Fun K "divided" "divided" s_divided f3 fd3)
    (a4 : PySem.W.nsIn K mainGlobals "positive" = some (some (.ref f4))) (F4 : Fun K "positive" "positive" s_positive f4 fd4)
    (a5 : PySem.W.nsIn K mainGlobals "cleared" = some (some (.ref f5))) (F5 : Fun K "cleared" "cleared" s_cleared f5 fd5)
    (a6 : PySem.W.nsIn K mainGlobals "rest_beside" = some (some (.ref f6))) (F6 : Fun K "rest_beside" "rest_beside" s_rest_beside f6 fd6)
    (a7 : PySem.W.nsIn K mainGlobals "with_vector" = some (some (.ref f7))) (F7 : Fun K "with_vector" "with_vector" s_with_vector f7 fd7)
    (a8 : PySem.W.nsIn K mainGlobals "reduced_basis" = some (some (.ref f8))) (F8 : Fun K "reduced_basis" "reduced_basis" s_reduced_basis f8 fd8)
    (a9 : PySem.W.nsIn K mainGlobals "is_vector" = some (some (.ref f9))) (F9 : Fun K "is_vector" "is_vector" s_is_vector f9 fd9)
    (a10 : PySem.W.nsIn K mainGlobals "check_width" = some (some (.ref f10))) (F10 : Fun K "check_width" "check_width" s_check_width f10 fd10)
    (a11 : PySem.W.nsIn K mainGlobals "check_vectors" = some (some (.ref f11))) (F11 : Fun K "check_vectors" "check_vectors" s_check_vectors f11 fd11)
    (a12 : PySem.W.nsIn K mainGlobals "_law_pool" = some (some (.ref f12))) (F12 : Fun K "_law_pool" "_law_pool" s_pool f12 fd12)
    (a13 : PySem.W.nsIn K mainGlobals "_law_draw" = some (some (.ref f13))) (F13 : Fun K "_law_draw" "_law_draw" s_draw f13 fd13)
    (a14 : PySem.W.nsIn K mainGlobals "_law_vector" = some (some (.ref f14))) (F14 : Fun K "_law_vector" "_law_vector" s_vector f14 fd14)
    (a15 : PySem.W.nsIn K mainGlobals "_law_vectors" = some (some (.ref f15))) (F15 : Fun K "_law_vectors" "_law_vectors" s_vectors f15 fd15)
    (a16 : PySem.W.nsIn K mainGlobals "_law_rank" = some (some (.ref f16))) (F16 : Fun K "_law_rank" "_law_rank" s_rank f16 fd16)
    (a17 : PySem.W.nsIn K mainGlobals "_law_is_in" = some (some (.ref f17))) (F17 : Fun K "_law_is_in" "_law_is_in" s_is_in f17 fd17)
    (a18 : PySem.W.nsIn K mainGlobals "is_spanned" = some (some (.ref f18))) (F18 : Fun K "is_spanned" "is_spanned" s_is_spanned f18 fd18)
    (a19 : PySem.W.nsIn K mainGlobals "unit_vectors" = some (some (.ref f19))) (F19 : Fun K "unit_vectors" "unit_vectors" s_uv f19 fd19)
    (a20 : PySem.W.nsIn K mainGlobals "law" = some (some (.ref f20))) (F20 : Fun K "law" "law" s_law f20 fd20)
    (aC : PySem.W.nsIn K mainGlobals "Space" = some (some (.ref C)))
    (aI : PySem.W.findIn K (.ref C) "__init__" = some (some (.ref fI)))
    (iI : PySem.W.isFn K (.ref fI) = true)
    (lI : K.lookup fI = some ⟨ocI, odI, .func (PySem.W.fnOf "__init__" "Space.__init__" (defArgs s_init) (defBody s_init) (defScope s_init) (.ref TD) kVI dcI pmI anI cdI ctI), slI⟩)
    (cI : PySem.W.codeIn K cdI "Space.__init__" = true)
    (kI : PySem.W.keepIn K (.ref fI) = true)
    (lT : K.lookup TD = some oT)
    (dT : oT.data = .seq #[.ref t0] nT)
    (rd : PySem.W.readsIn K C mc = true)
    (rg : PySem.W.specialIn K (.ref C) "__getattribute__" = some (some (.builtin "type.__getattribute__")))
    (cmA : PySem.W.findCls K (.ref C) mc "full" = some (.get (.builtin "classmethod.__get__") (.ref pF) .none (.ref C)))
    (cmR : ∃ rest, PySem.W.recIn K pF "classmethod" = some (.ref fF :: rest))
    (FF : Fun K "full" "Space.full" s_full fF fdF)
    (cmF : PySem.W.fnIn K fF = true)
    (atE : PySem.W.findIn K (.ref C) "__eq__" = some (some (.ref fE)))
    (isE : PySem.W.isFn K (.ref fE) = true)
    (FE : Fun K "__eq__" "Space.__eq__" s_eq fE fdE)
    (atW : PySem.W.findIn K (.ref C) "is_within" = some (some (.ref fW)))
    (isW : PySem.W.isFn K (.ref fW) = true)
    (FW : Fun K "is_within" "Space.is_within" s_within fW fdW)
    (kpW : PySem.W.keepIn K (.ref fW) = true)
    (atL : PySem.W.findIn K (.ref C) "__len__" = some (some (.ref fL)))
    (isL : PySem.W.isFn K (.ref fL) = true)
    (FL : Fun K "__len__" "Space.__len__" s_len fL fdL)
    (atCh : PySem.W.findIn K (.ref C) "_check_operand" = some (some (.ref fCh)))
    (isCh : PySem.W.isFn K (.ref fCh) = true)
    (FCh : Fun K "_check_operand" "Space._check_operand" s_chop fCh fdCh)
    (kpCh : PySem.W.keepIn K (.ref fCh) = true)
    (aB : PySem.W.findIn K (.ref C) "basis" = some (some (.ref pB)))
    (gtB : PySem.W.specialIn K (.ref pB) "__get__" = some (some (.builtin "property.__get__")))
    (tkB : PySem.W.takesIn K (.ref pB) = some true)
    (rcB : ∃ rest, PySem.W.recIn K pB "property" = some (.ref gB :: rest))
    (FB : Fun K "basis" "Space.basis" s_basis gB fdB)
    (aWd : PySem.W.findIn K (.ref C) "width" = some (some (.ref pW)))
    (gtWd : PySem.W.specialIn K (.ref pW) "__get__" = some (some (.builtin "property.__get__")))
    (tkWd : PySem.W.takesIn K (.ref pW) = some true)
    (rcWd : ∃ rest, PySem.W.recIn K pW "property" = some (.ref gW :: rest))
    (FWd : Fun K "width" "Space.width" s_width gW fdWd)
    (aN : PySem.W.findIn K (.ref C) "__ne__" = some (some (.builtin "object.__ne__")))
    (icC : PySem.W.isClsIn K C = true)
    (tyC : PySem.W.typeIn K (.ref C) = some (.type "type"))
    (suT : PySem.W.subIn K (.type "tuple") (.ref C) = some false)
    (suS : PySem.W.subIn K (.type "str") (.ref C) = some false)
    (nfT : PySem.W.notFirst K C (.type "tuple") = true)
    (nfS : PySem.W.notFirst K C (.type "str") = true)
    (ha : PySem.W.findIn K (.ref C) "__class__" = some (some (.builtin "object.__class__")))
    (hn : PySem.W.specialIn K (.builtin "object.__class__") "__get__" = some (some (.builtin "getset_descriptor.__get__")))
    (ht : PySem.W.takesIn K (.builtin "object.__class__") = some true)
    (hm : PySem.W.mroIn K C (.type "object") = some true)
    (pg : PySem.W.plainGet K C Str.empty = true)
    (hd : PySem.W.hasDictIn K C = true)
    (po : PySem.W.plainOver K C = true)
    (sa : PySem.W.findIn K (.ref C) "__setattr__" = some (some (.builtin "object.__setattr__")))
    (mk : PySem.W.makesIn K C = true)
    (kc : PySem.W.keepIn K (.ref C) = true)
    (nW : PySem.W.findIn K (.ref C) "_width" = some none)
    (nB : PySem.W.findIn K (.ref C) "_basis" = some none)
    (gG : PySem.W.nsIn K mainGlobals "gcd" = some (some (.builtin "math.gcd")))
    (gM : PySem.W.nsIn K mainGlobals "MAX_WIDTH" = some (some (.int 64 tm)))
    (z_isinstance : PySem.W.nsIn K mainGlobals "isinstance" = some none) (z_int : PySem.W.nsIn K mainGlobals "int" = some none) (z_bool : PySem.W.nsIn K mainGlobals "bool" = some none) (z_tuple : PySem.W.nsIn K mainGlobals "tuple" = some none) (z_zip : PySem.W.nsIn K mainGlobals "zip" = some none) (z_any : PySem.W.nsIn K mainGlobals "any" = some none) (z_sorted : PySem.W.nsIn K mainGlobals "sorted" = some none) (z_len : PySem.W.nsIn K mainGlobals "len" = some none) (z_all : PySem.W.nsIn K mainGlobals "all" = some none) (z_list : PySem.W.nsIn K mainGlobals "list" = some none) (z_enumerate : PySem.W.nsIn K mainGlobals "enumerate" = some none) (z_abs : PySem.W.nsIn K mainGlobals "abs" = some none) (z_range : PySem.W.nsIn K mainGlobals "range" = some none) (z_max : PySem.W.nsIn K mainGlobals "max" = some none) (z_min : PySem.W.nsIn K mainGlobals "min" = some none) :
    ∃ fd : FuncData, (∀ (s : Shared) (v : Value), BindsTo s fd ⟨[v], []⟩ [("_law_script", v)]) ∧ ∀ base : Heap, K.In base → base.Ns mainGlobals mg → FnOk l.prog w K mg base CX0 11 fa fd ["_law_script"] (sp_law K) := by
  have e := hfa.symm.trans (PySem.W.mg_of X G a20)
  cases e
  have m_isinstance := PySem.W.mg_none_of X G z_isinstance
  have m_int := PySem.W.mg_none_of X G z_int
  have m_bool := PySem.W.mg_none_of X G z_bool
  have m_tuple := PySem.W.mg_none_of X G z_tuple
  have m_zip := PySem.W.mg_none_of X G z_zip
  have m_any := PySem.W.mg_none_of X G z_any
  have m_sorted := PySem.W.mg_none_of X G z_sorted
  have m_len := PySem.W.mg_none_of X G z_len
  have m_all := PySem.W.mg_none_of X G z_all
  have m_list := PySem.W.mg_none_of X G z_list
  have m_enumerate := PySem.W.mg_none_of X G z_enumerate
  have m_abs := PySem.W.mg_none_of X G z_abs
  have m_range := PySem.W.mg_none_of X G z_range
  have m_max := PySem.W.mg_none_of X G z_max
  have m_min := PySem.W.mg_none_of X G z_min
  have D0 : Dn K mg "is_integer" s_is_integer ["value"] f0 fd0 := ⟨F0, PySem.W.mg_of X G a0, F0.binds (ps := ["value"]) fun _ _ _ _ _ _ us hl => match us, hl with | [_], _ => rfl⟩
  have D1 : Dn K mg "common_divisor" s_common_divisor ["numbers"] f1 fd1 := ⟨F1, PySem.W.mg_of X G a1, F1.binds (ps := ["numbers"]) fun _ _ _ _ _ _ us hl => match us, hl with | [_], _ => rfl⟩
  have D2 : Dn K mg "pivot" s_pivot ["vector"] f2 fd2 := ⟨F2, PySem.W.mg_of X G a2, F2.binds (ps := ["vector"]) fun _ _ _ _ _ _ us hl => match us, hl with | [_], _ => rfl⟩
  have D3 : Dn K mg "divided" s_divided ["vector"] f3 fd3 := ⟨F3, PySem.W.mg_of X G a3, F3.binds (ps := ["vector"]) fun _ _ _ _ _ _ us hl => match us, hl with | [_], _ => rfl⟩
  have D4 : Dn K mg "positive" s_positive ["vector"] f4 fd4 := ⟨F4, PySem.W.mg_of X G a4, F4.binds (ps := ["vector"]) fun _ _ _ _ _ _ us hl => match us, hl with | [_], _ => rfl⟩
  have D5 : Dn K mg "cleared" s_cleared ["vector", "row"] f5 fd5 := ⟨F5, PySem.W.mg_of X G a5, F5.binds (ps := ["vector", "row"]) fun _ _ _ _ _ _ us hl => match us, hl with | [_, _], _ => rfl⟩
  have D6 : Dn K mg "rest_beside" s_rest_beside ["basis", "vector"] f6 fd6 := ⟨F6, PySem.W.mg_of X G a6, F6.binds (ps := ["basis", "vector"]) fun _ _ _ _ _ _ us hl => match us, hl with | [_, _], _ => rfl⟩
  have D7 : Dn K mg "with_vector" s_with_vector ["basis", "vector"] f7 fd7 := ⟨F7, PySem.W.mg_of X G a7, F7.binds (ps := ["basis", "vector"]) fun _ _ _ _ _ _ us hl => match us, hl with | [_, _], _ => rfl⟩
  have D8 : Dn K mg "reduced_basis" s_reduced_basis ["vectors"] f8 fd8 := ⟨F8, PySem.W.mg_of X G a8, F8.binds (ps := ["vectors"]) fun _ _ _ _ _ _ us hl => match us, hl with | [_], _ => rfl⟩
  have D9 : Dn K mg "is_vector" s_is_vector ["candidate", "width"] f9 fd9 := ⟨F9, PySem.W.mg_of X G a9, F9.binds (ps := ["candidate", "width"]) fun _ _ _ _ _ _ us hl => match us, hl with | [_, _], _ => rfl⟩
  have D10 : Dn K mg "check_width" s_check_width ["value"] f10 fd10 := ⟨F10, PySem.W.mg_of X G a10, F10.binds (ps := ["value"]) fun _ _ _ _ _ _ us hl => match us, hl with | [_], _ => rfl⟩
  have D11 : Dn K mg "check_vectors" s_check_vectors ["value", "width"] f11 fd11 := ⟨F11, PySem.W.mg_of X G a11, F11.binds (ps := ["value", "width"]) fun _ _ _ _ _ _ us hl => match us, hl with | [_, _], _ => rfl⟩
  have D12 : Dn K mg "_law_pool" s_pool ["_law_script", "_law_k"] f12 fd12 := ⟨F12, PySem.W.mg_of X G a12, F12.binds (ps := ["_law_script", "_law_k"]) fun _ _ _ _ _ _ us hl => match us, hl with | [_, _], _ => rfl⟩
  have D13 : Dn K mg "_law_draw" s_draw ["_law_pool_here", "_law_count"] f13 fd13 := ⟨F13, PySem.W.mg_of X G a13, F13.binds (ps := ["_law_pool_here", "_law_count"]) fun _ _ _ _ _ _ us hl => match us, hl with | [_, _], _ => rfl⟩
  have D14 : Dn K mg "_law_vector" s_vector ["_law_pool_here", "_law_width"] f14 fd14 := ⟨F14, PySem.W.mg_of X G a14, F14.binds (ps := ["_law_pool_here", "_law_width"]) fun _ _ _ _ _ _ us hl => match us, hl with | [_, _], _ => rfl⟩
  have D15 : Dn K mg "_law_vectors" s_vectors ["_law_pool_here", "_law_width", "_law_most"] f15 fd15 := ⟨F15, PySem.W.mg_of X G a15, F15.binds (ps := ["_law_pool_here", "_law_width", "_law_most"]) fun _ _ _ _ _ _ us hl => match us, hl with | [_, _, _], _ => rfl⟩
  have D16 : Dn K mg "_law_rank" s_rank ["_law_vectors_here"] f16 fd16 := ⟨F16, PySem.W.mg_of X G a16, F16.binds (ps := ["_law_vectors_here"]) fun _ _ _ _ _ _ us hl => match us, hl with | [_], _ => rfl⟩
  have D17 : Dn K mg "_law_is_in" s_is_in ["_law_vector_here", "_law_vectors_here"] f17 fd17 := ⟨F17, PySem.W.mg_of X G a17, F17.binds (ps := ["_law_vector_here", "_law_vectors_here"]) fun _ _ _ _ _ _ us hl => match us, hl with | [_, _], _ => rfl⟩
  have D18 : Dn K mg "is_spanned" s_is_spanned ["basis", "vector"] f18 fd18 := ⟨F18, PySem.W.mg_of X G a18, F18.binds (ps := ["basis", "vector"]) fun _ _ _ _ _ _ us hl => match us, hl with | [_, _], _ => rfl⟩
  have D19 : Dn K mg "unit_vectors" s_uv ["width"] f19 fd19 := ⟨F19, PySem.W.mg_of X G a19, F19.binds (ps := ["width"]) fun _ _ _ _ _ _ us hl => match us, hl with | [_], _ => rfl⟩
  have D20 : Dn K mg "law" s_law ["_law_script"] fa fd20 := ⟨F20, PySem.W.mg_of X G a20, F20.binds (ps := ["_law_script"]) fun _ _ _ _ _ _ us hl => match us, hl with | [_], _ => rfl⟩
  have mG := PySem.W.mg_of X G gG
  have mM := PySem.W.mg_of X G gM
  have T : SpTxt K C := ⟨⟨pg, hd, po, sa⟩, nW, nB⟩
  have Is : SpIs K C := ⟨ha, hn, ht, hm⟩
  have mgC := PySem.W.mg_of X G aC
  have FI : FunD K "__init__" "Space.__init__" (defArgs s_init) (defBody s_init) (defScope s_init) [V.ref t0] [] fI (PySem.W.fnOf "__init__" "Space.__init__" (defArgs s_init) (defBody s_init) (defScope s_init) (.ref TD) kVI dcI pmI anI cdI ctI) := ⟨⟨ocI, odI, .ref TD, kVI, dcI, pmI, anI, cdI, ctI, slI, rfl, lI, cI, .inr ⟨by simp, TD, oT, [.ref t0], nT, rfl, lT, dT, .cons rfl .nil⟩, .inl rfl⟩, kI⟩
  have bI : Binds K (PySem.W.fnOf "__init__" "Space.__init__" (defArgs s_init) (defBody s_init) (defScope s_init) (.ref TD) kVI dcI pmI anI cdI ctI) ["self", "width", "vectors"] [] := by
    obtain ⟨ds, rv, hb⟩ := FunD.binds1 (ps := ["self", "width", "vectors"]) FI 3 1 (by simp) rfl fun _ _ _ _ _ _ _ us its hl hi => match us, its, hl, hi with | [_, _, _], [_], _, _ => ⟨_, rfl, rfl⟩
    cases rv
    exact hb
  have bF := FF.binds (ps := ["cls", "width"]) fun _ _ _ _ _ _ us hl => match us, hl with | [_, _], _ => rfl
  have bE := FE.binds (ps := ["self", "other"]) fun _ _ _ _ _ _ us hl => match us, hl with | [_, _], _ => rfl
  have bW := FW.binds (ps := ["self", "other"]) fun _ _ _ _ _ _ us hl => match us, hl with | [_, _], _ => rfl
  have bCh := FCh.binds (ps := ["self", "other"]) fun _ _ _ _ _ _ us hl => match us, hl with | [_, _], _ => rfl
  have bL := FL.binds (ps := ["self"]) fun _ _ _ _ _ _ us hl => match us, hl with | [_], _ => rfl
  have bB := FB.binds (ps := ["self"]) fun _ _ _ _ _ _ us hl => match us, hl with | [_], _ => rfl
  have bWd := FWd.binds (ps := ["self"]) fun _ _ _ _ _ _ us hl => match us, hl with | [_], _ => rfl
  obtain ⟨oc, od, kV, doc, pm, an, cdv, ct, osl, rfl, _, _⟩ := id F20.ex
  refine ⟨PySem.W.fnOf "law" "law" (defArgs s_law) (defBody s_law) (defScope s_law) .none kV doc pm an cdv ct, fun s v => .of_eq rfl, fun base _ _ => ?_⟩
  have H0 : ∀ k, FnOk l.prog w K mg base CX0 (k + 1) f0 fd0 ["value"] sp_is_integer := fun k => ok_is_integer D0 m_isinstance m_int m_bool
  have H1 : ∀ k, FnOk l.prog w K mg base CX0 (k + 1) f1 fd1 ["numbers"] (sp_common_divisor K) := fun k => ok_common_divisor D1 mG
  have H2 : ∀ k, FnOk l.prog w K mg base CX0 (k + 1) f2 fd2 ["vector"] (sp_pivot K) := fun k => ok_pivot D2
  have H3 : ∀ k, FnOk l.prog w K mg base CX0 (k + 2) f3 fd3 ["vector"] (sp_divided K) := fun k => ok_divided D3 D1 (H1 k) m_tuple
  have H4 : ∀ k, FnOk l.prog w K mg base CX0 (k + 2) f4 fd4 ["vector"] (sp_positive K) := fun k => ok_positive D4 D2 (H2 k) m_tuple
  have H5 : ∀ k, FnOk l.prog w K mg base CX0 (k + 3) f5 fd5 ["vector", "row"] (sp_cleared K) := fun k => ok_cleared D5 D2 (H2 (k + 1)) D1 (H1 (k + 1)) D3 (H3 k) m_zip
  have H6 : ∀ k, FnOk l.prog w K mg base CX0 (k + 4) f6 fd6 ["basis", "vector"] (sp_rest_beside K) := fun k => ok_rest_beside D6 D5 (H5 k)
  have H7 : FnOk l.prog w K mg base CX0 5 f7 fd7 ["basis", "vector"] (sp_with_vector K) := ok_with_vector (k := 3) D7 D6 (H6 0) D4 (H4 2) D3 (H3 2) D5 (H5 0) D2 H2 (by decide) m_any m_tuple m_sorted
  have H8 : FnOk l.prog w K mg base CX0 6 f8 fd8 ["vectors"] (sp_reduced_basis K) := ok_reduced_basis D8 D7 H7
  have H9 : ∀ k, FnOk l.prog w K mg base CX0 (k + 2) f9 fd9 ["candidate", "width"] (sp_is_vector K) := fun k => ok_is_vector D9 D0 (H0 k) m_isinstance m_tuple m_len m_all
  have H10 : ∀ k, FnOk l.prog w K mg base CX0 (k + 2) f10 fd10 ["value"] sp_check_width := fun k => ok_check_width D10 D0 (H0 k) mM
  have H11 : ∀ k, FnOk l.prog w K mg base CX0 (k + 3) f11 fd11 ["value", "width"] (sp_check_vectors K) := fun k => ok_check_vectors D11 D9 (H9 k) m_isinstance m_list m_tuple m_enumerate
  have HI := ok_init (P := l.prog) (w := w) (mg := mg) (base := base) (k := 6) FI T D10 (H10 4) D11 (H11 3) D8 H8
  have H13 : ∀ k, FnOk l.prog w K mg base CX0 (k + 1) f13 fd13 ["_law_pool_here", "_law_count"] sp_draw := fun k => ok_draw D13
  have H14 : ∀ k, FnOk l.prog w K mg base CX0 (k + 2) f14 fd14 ["_law_pool_here", "_law_width"] (sp_vector K) := fun k => ok_vector D14 D13 (H13 k) m_range m_int m_tuple
  have H15 := ok_vectors (P := l.prog) (w := w) (mg := mg) (base := base) (k := 8) D15 D13 (H13 7) D14 (H14 6) m_range m_len m_tuple m_enumerate
  have H16 : ∀ k, FnOk l.prog w K mg base CX0 (k + 1) f16 fd16 ["_law_vectors_here"] (sp_rank K) := fun k => ok_rank D16 m_list m_max m_len m_range m_enumerate
  have H17 := ok_is_in2 (P := l.prog) (w := w) (mg := mg) (base := base) (k := 7) D17 D16 (H16 6)
  have H18 : ∀ k, FnOk l.prog w K mg base CX0 (k + 5) f18 fd18 ["basis", "vector"] (sp_is_spanned K) := fun k => ok_is_spanned D18 D6 (H6 k) m_any
  have H19 : ∀ k, FnOk l.prog w K mg base CX0 (k + 1) f19 fd19 ["width"] (sp_uv K) := fun k => ok_uv D19 m_tuple m_range m_int
  have M : Mk K C fI := ⟨mk, aI, iI, kc⟩
  have HF := ok_full (P := l.prog) (w := w) (mg := mg) (base := base) (k := 7) FF M HI bI D10 (H10 6) D19 (H19 7)
  have GF : FnR l.prog w K mg base CX0 9 fF (sp_full K C) := (HF.raw bF .nil).imp fun vs H Q E h => by rw [List.append_nil]; exact h
  have HB : ∀ k, FnOk l.prog w K mg base CX0 (k + 1) gB fdB ["self"] (getSp C "_basis") := fun k => ok_basis FB T
  have HWd : ∀ k, FnOk l.prog w K mg base CX0 (k + 1) gW fdWd ["self"] (getSp C "_width") := fun k => ok_width FWd T
  have HE := ok_eq (P := l.prog) (w := w) (mg := mg) (base := base) (k := 7) FE T Is mgC m_isinstance
  have HCh := ok_chop (P := l.prog) (w := w) (mg := mg) (base := base) (k := 5) FCh T Is mgC m_isinstance ⟨aWd, gtWd, tkWd, rcWd⟩ (HWd 4) bWd
  have HW := ok_within (P := l.prog) (w := w) (mg := mg) (base := base) (k := 7) FW T ⟨atCh, isCh, kpCh⟩ HCh bCh D18 (H18 2) ⟨aB, gtB, tkB, rcB⟩ (HB 6) bB m_all
  have HL := ok_len (P := l.prog) (w := w) (mg := mg) (base := base) (k := 7) FL T m_len
  exact ok_law (fdF := fdF) D20 T Is mgC M HI bI ⟨rd, rg⟩ ⟨cmA, cmR, cmF⟩ GF HE bE atE isE aN (kit_not icC tyC suT) (kit_not icC tyC suS) nfT nfS ⟨atW, isW, kpW⟩ HW bW HL bL atL isL ⟨aB, gtB, tkB, rcB⟩ (HB 7) bB
    D12 (ok_pool (k := 8) D12 m_len m_abs m_int) D13 (H13 8) D15 H15 D17 H17 m_len m_range m_max m_min m_enumerate m_tuple m_list
end Sp1

set_option Elab.async false
set_option linter.all false
set_option maxRecDepth 100000
open PySem PySem.W PyProof.Rows in
set_option maxRecDepth 100000 in
set_option maxHeartbeats 0 in
theorem PySem.Challenge.cw_frugaltape_k04_order_and_equality_of_spa_holds : PySem.Challenge.rw_frugaltape_k04_order_and_equality_of_spa.Holds := by
  w_on; o_law; k_head; (case hw => w_witness2)
  k_fill
  refine L2.walk_of (l := PySem.Challenge.rw_frugaltape_k04_order_and_equality_of_spa) (n := 63) (k := 11) (x := "_law_script") (CX := fun _ => L2.CX0) (sp := fun w => Sp1.sp_law _) rfl (by decide) rfl ⟨rfl, by decide, by decide⟩ (fun w h Y => PySem.W.kIn_of Y) ?F (fun _ _ a ns hl _ hS => ⟨a, ns, rfl, hS, hl, fun _ => rfl⟩) fun _ _ _ _ _ z => z
  case F =>
    intro w mg fa h KX G hmg
    refine' Sp1.all_mk (mc := Value.type "type") KX G hmg ?a0 ?F0 ?a1 ?F1 ?a2 ?F2 ?a3 ?F3 ?a4 ?F4 ?a5 ?F5 ?a6 ?F6 ?a7 ?F7 ?a8 ?F8 ?a9 ?F9 ?a10 ?F10 ?a11 ?F11 ?a12 ?F12 ?a13 ?F13 ?a14 ?F14 ?a15 ?F15 ?a16 ?F16 ?a17 ?F17 ?a18 ?F18 ?a19 ?F19 ?a20 ?F20 ?aC ?aI ?iI ?lI ?cI ?kI ?lT ?dT ?rd ?rg ?cmA ?cmR ?FF ?cmF ?atE ?isE ?FE ?atW ?isW ?FW ?kpW ?atL ?isL ?FL ?atCh ?isCh ?FCh ?kpCh ?aB ?gtB ?tkB ?rcB ?FB ?aWd ?gtWd ?tkWd ?rcWd ?FWd ?aN ?icC ?tyC ?suT ?suS ?nfT ?nfS ?ha ?hn ?ht ?hm ?pg ?hd ?po ?sa ?mk ?kc ?nW ?nB ?gG ?gM ?z_isinstance ?z_int ?z_bool ?z_tuple ?z_zip ?z_any ?z_sorted ?z_len ?z_all ?z_list ?z_enumerate ?z_abs ?z_range ?z_max ?z_min
    (case a0 => k_is)
    (case F0 => exact L2.fun_mk (by k_is) (by k_is) (by k_is))
    (case a1 => k_is)
    (case F1 => exact L2.fun_mk (by k_is) (by k_is) (by k_is))
    (case a2 => k_is)
    (case F2 => exact L2.fun_mk (by k_is) (by k_is) (by k_is))
    (case a3 => k_is)
    (case F3 => exact L2.fun_mk (by k_is) (by k_is) (by k_is))
    (case a4 => k_is)
    (case F4 => exact L2.fun_mk (by k_is) (by k_is) (by k_is))
    (case a5 => k_is)
    (case F5 => exact L2.fun_mk (by k_is) (by k_is) (by k_is))
    (case a6 => k_is)
    (case F6 => exact L2.fun_mk (by k_is) (by k_is) (by k_is))
    (case a7 => k_is)
    (case F7 => exact L2.fun_mk (by k_is) (by k_is) (by k_is))
    (case a8 => k_is)
    (case F8 => exact L2.fun_mk (by k_is) (by k_is) (by k_is))
    (case a9 => k_is)
    (case F9 => exact L2.fun_mk (by k_is) (by k_is) (by k_is))
    (case a10 => k_is)
    (case F10 => exact L2.fun_mk (by k_is) (by k_is) (by k_is))
    (case a11 => k_is)
    (case F11 => exact L2.fun_mk (by k_is) (by k_is) (by k_is))
    (case a12 => k_is)
    (case F12 => exact L2.fun_mk (by k_is) (by k_is) (by k_is))
    (case a13 => k_is)
    (case F13 => exact L2.fun_mk (by k_is) (by k_is) (by k_is))
    (case a14 => k_is)
    (case F14 => exact L2.fun_mk (by k_is) (by k_is) (by k_is))
    (case a15 => k_is)
    (case F15 => exact L2.fun_mk (by k_is) (by k_is) (by k_is))
    (case a16 => k_is)
    (case F16 => exact L2.fun_mk (by k_is) (by k_is) (by k_is))
    (case a17 => k_is)
    (case F17 => exact L2.fun_mk (by k_is) (by k_is) (by k_is))
    (case a18 => k_is)
    (case F18 => exact L2.fun_mk (by k_is) (by k_is) (by k_is))
    (case a19 => k_is)
    (case F19 => exact L2.fun_mk (by k_is) (by k_is) (by k_is))
    (case a20 => k_is)
    (case F20 => exact L2.fun_mk (by k_is) (by k_is) (by k_is))
    (case aC => k_is)
    (case aI => k_is)
    (case iI => k_is)
    (case lI => k_is)
    (case cI => k_is)
    (case kI => k_is)
    (case lT => k_is)
    (case dT => rfl)
    (case rd => k_is)
    (case rg => k_is)
    (case cmA => k_is)
    (case cmR => exact ⟨_, by k_is⟩)
    (case FF => exact L2.fun_mk (by k_is) (by k_is) (by k_is))
    (case cmF => k_is)
    (case atE => k_is)
    (case isE => k_is)
    (case FE => exact L2.fun_mk (by k_is) (by k_is) (by k_is))
    (case atW => k_is)
    (case isW => k_is)
    (case FW => exact L2.fun_mk (by k_is) (by k_is) (by k_is))
    (case kpW => k_is)
    (case atL => k_is)
    (case isL => k_is)
    (case FL => exact L2.fun_mk (by k_is) (by k_is) (by k_is))
    (case atCh => k_is)
    (case isCh => k_is)
    (case FCh => exact L2.fun_mk (by k_is) (by k_is) (by k_is))
    (case kpCh => k_is)
    (case aB => k_is)
    (case gtB => k_is)
    (case tkB => k_is)
    (case rcB => exact ⟨_, by k_is⟩)
    (case FB => exact L2.fun_mk (by k_is) (by k_is) (by k_is))
    (case aWd => k_is)
    (case gtWd => k_is)
    (case tkWd => k_is)
    (case rcWd => exact ⟨_, by k_is⟩)
    (case FWd => exact L2.fun_mk (by k_is) (by k_is) (by k_is))
    (case aN => k_is)
    (case icC => k_is)
    (case tyC => k_is)
    (case suT => k_is)
    (case suS => k_is)
    (case nfT => k_is)
    (case nfS => k_is)
    (case ha => k_is)
    (case hn => k_is)
    (case ht => k_is)
    (case hm => k_is)
    (case pg => k_is)
    (case hd => k_is)
    (case po => k_is)
    (case sa => k_is)
    (case mk => k_is)
    (case kc => k_is)
    (case nW => k_is)
    (case nB => k_is)
    (case gG => k_is)
    (case gM => k_is)
    (case z_isinstance => k_is)
    (case z_int => k_is)
    (case z_bool => k_is)
    (case z_tuple => k_is)
    (case z_zip => k_is)
    (case z_any => k_is)
    (case z_sorted => k_is)
    (case z_len => k_is)
    (case z_all => k_is)
    (case z_list => k_is)
    (case z_enumerate => k_is)
    (case z_abs => k_is)
    (case z_range => k_is)
    (case z_max => k_is)
    (case z_min => k_is)

