/- ValueVersions: for every six numbers and a place, versions compare by their parts, the first one first, and the parts are what the text says. -/
import Derived.Test.YtipncjbgippkcaaDoorPg
import Derived.Test.YtipncjbgippkcaaDoorPh
import Derived.Test.YtipncjbgippkcaaDoorPa
import Derived.Test.YtipncjbgippkcaaDoorPb
import Derived.Deep.QuietTactic
import Derived.BigQuiet
import Derived.Deep.RegionWith
namespace Go.Proofs.YtipncjbgippkcaaDoor
open Go Go.RowKit

/-- Two rows of three numbers. -/
structure TwoR (x y : List Int) (B : Nat) (w wr : World) : Prop where
  one : wr.heap[B]? = some (.cells (x.map fun z => Value.int .i64 z).toArray 50 (0, 0))
  two : wr.heap[B + 1]? = some (.cells (y.map fun z => Value.int .i64 z).toArray 50 (0, 0))
  below : Below B w wr
theorem TwoR.lt {x y : List Int} {B : Nat} {w wr : World} (h : TwoR x y B w wr) : B + 1 < wr.heap.size := (Array.getElem?_eq_some_iff.1 h.two).1
theorem TwoR.grown {x y : List Int} {B : Nat} {w wr w' : World} (h : TwoR x y B w wr) (hb : Below wr.heap.size wr w') : TwoR x y B w w' :=
  ⟨(hb.block B (by have := h.lt; omega)).trans h.one, (hb.block (B + 1) h.lt).trans h.two, h.below.trans (hb.mono (by have := h.lt; omega))⟩
theorem TwoR.put1 {x y : List Int} {B : Nat} {w wr : World} (h : TwoR x y B w wr) (i : Nat) (z : Int) : TwoR (x.set i z) y B w (wr.setCell ⟨B, i, none⟩ (.int .i64 z)) := by
  refine ⟨?_, ?_, h.below.setCell (p := ⟨B, i, none⟩) (Nat.le_refl _) _⟩
  · show (wr.heap.modify B _)[B]? = _
    rw [Array.getElem?_modify, if_pos rfl, h.one]
    simp [List.map_set]
  · rw [Below.heap_setCell _ _ _ _ (by simp)]
    exact h.two
theorem TwoR.put2 {x y : List Int} {B : Nat} {w wr : World} (h : TwoR x y B w wr) (i : Nat) (z : Int) : TwoR x (y.set i z) B w (wr.setCell ⟨B + 1, i, none⟩ (.int .i64 z)) := by
  refine ⟨?_, ?_, h.below.setCell (p := ⟨B + 1, i, none⟩) (Nat.le_succ _) _⟩
  · rw [Below.heap_setCell _ _ _ _ (by simp)]
    exact h.one
  · show (wr.heap.modify (B + 1) _)[B + 1]? = _
    rw [Array.getElem?_modify, if_pos rfl, h.two]
    simp [List.map_set]
theorem TwoR.drew {x y : List Int} {B : Nat} {w wr : World} (h : TwoR x y B w wr) : TwoR x y B w wr.drew := ⟨h.one, h.two, h.below.drew⟩
theorem TwoR.cell1 {x y : List Int} {B : Nat} {w wr : World} (h : TwoR x y B w wr) (i : Nat) (hi : i < x.length) : wr.cell? ⟨B, i, none⟩ = some (.int .i64 x[i]) := by
  rw [Lib.cell_of_heap h.one]
  simp [hi]
theorem TwoR.cell2 {x y : List Int} {B : Nat} {w wr : World} (h : TwoR x y B w wr) (i : Nat) (hi : i < y.length) : wr.cell? ⟨B + 1, i, none⟩ = some (.int .i64 y[i]) := by
  rw [Lib.cell_of_heap h.two]
  simp [hi]
theorem TwoR.free1 {x y : List Int} {B : Nat} {w wr : World} (h : TwoR x y B w wr) (i : Nat) : wr.frozen? ⟨B, i, none⟩ = false := Lib.frozen_of_heap h.one i
theorem TwoR.free2 {x y : List Int} {B : Nat} {w wr : World} (h : TwoR x y B w wr) (i : Nat) : wr.frozen? ⟨B + 1, i, none⟩ = false := Lib.frozen_of_heap h.two i
theorem TwoR.start (a0 a1 a2 b0 b1 b2 : Int) (w : World) : TwoR [a0, a1, a2] [b0, b1, b2] w.heap.size w ((w.alloc (.cells #[.int .i64 a0, .int .i64 a1, .int .i64 a2] 50)).alloc (.cells #[.int .i64 b0, .int .i64 b1, .int .i64 b2] 50)) := by
  refine ⟨?_, ?_, ((Below.refl _ w).alloc (Nat.le_refl _) _).alloc (by simp) _⟩
  · rw [Below.heap_alloc _ _ _ (by simp)]
    exact heap_alloc_new w _
  · have := heap_alloc_new (w.alloc (.cells #[.int .i64 a0, .int .i64 a1, .int .i64 a2] 50)) (.cells #[.int .i64 b0, .int .i64 b1, .int .i64 b2] 50)
    rw [World.size_alloc] at this
    exact this
/-- The first k numbers as they became, the rest as they came. -/
def mixL (l : List Int) (f : Nat → Int) (k : Nat) : List Int := [if 0 < k then f 0 else l.getD 0 0, if 1 < k then f 1 else l.getD 1 0, if 2 < k then f 2 else l.getD 2 0]
theorem mixL_length (l : List Int) (f : Nat → Int) (k : Nat) : (mixL l f k).length = 3 := rfl
theorem mixL_set (l : List Int) (f : Nat → Int) (k : Nat) (h : k < 3) : (mixL l f k).set k (f k) = mixL l f (k + 1) := by
  match k, h with
  | 0, _ => rfl
  | 1, _ => rfl
  | 2, _ => rfl
  | k + 3, h => omega
theorem mixL_at (l : List Int) (f : Nat → Int) (k : Nat) (h : k < 3) : (mixL l f k)[k]'(by rw [mixL_length]; exact h) = l.getD k 0 := by
  match k, h with
  | 0, _ => rfl
  | 1, _ => rfl
  | 2, _ => rfl
  | k + 3, h => omega
theorem mixL_next (l : List Int) (f : Nat → Int) (k : Nat) (h : k < 3) : (mixL l f (k + 1))[k]'(by rw [mixL_length]; exact h) = f k := by
  match k, h with
  | 0, _ => rfl
  | 1, _ => rfl
  | 2, _ => rfl
  | k + 3, h => omega
def fA (l : List Int) (j : Nat) : Int := l.getD j 0 % 1000000
def fB (l m : List Int) (j : Nat) : Int := if fA l j % 3 = 0 then fA l j else fA m j
theorem fA_range (l : List Int) (j : Nat) : 0 ≤ fA l j ∧ fA l j ≤ 999999 := by unfold fA; omega
theorem fB_range (l m : List Int) (j : Nat) : 0 ≤ fB l m j ∧ fB l m j ≤ 999999 := by
  unfold fB
  have := fA_range l j
  have := fA_range m j
  split <;> omega
/-- How the first k numbers compare. -/
def cmpTo (f g : Nat → Int) : Nat → Int
  | 0 => 0
  | k + 1 => if cmpTo f g k = 0 then (if f k < g k then -1 else if g k < f k then 1 else 0) else cmpTo f g k
/-- The first k numbers with periods between them. -/
def dotTo (f : Nat → Int) : Nat → ByteArray
  | 0 => ⟨#[]⟩
  | k + 1 => (if k = 0 then dotTo f k else dotTo f k ++ ⟨#[46]⟩) ++ ⟨(Lib.itoa (f k)).toArray⟩
theorem dotTo_ver (f : Nat → Int) : dotTo f 3 = verT (f 0) (f 1) (f 2) := by
  apply ByteArray.ext
  apply Array.toList_inj.1
  simp [dotTo, verT]
theorem ver_check (s : ByteArray) (h : verOk s) : checkE ⟨4, 0, s, []⟩ = 0 := by
  have hp : shapeP ⟨4, 0, s, []⟩ := ⟨.inr rfl, .inl (.inr rfl), .inr rfl⟩
  unfold checkE
  rw [if_neg (by simp), if_neg (by simpa using hp), if_neg (by simp), if_neg (by simp), if_neg (by simp), if_pos rfl, if_pos h]
theorem ver_cmp (s t : ByteArray) (hs : verOk s) (ht : verOk t) : cmpP ⟨4, 0, s, []⟩ ⟨4, 0, t, []⟩ = (verCmp s t, 0) := by
  unfold cmpP
  rw [ver_check s hs, ver_check t ht, if_neg (by simp), if_neg (by simp), if_neg (by simp), if_neg (by simp), if_neg (by simp)]
theorem cmpTo_ver (f g : Nat → Int) (s t : ByteArray) (h0 : verN s 0 = f 0) (h1 : verN s 1 = f 1) (h2 : verN s 2 = f 2) (k0 : verN t 0 = g 0) (k1 : verN t 1 = g 1) (k2 : verN t 2 = g 2) : verCmp s t = cmpTo f g 3 := by
  unfold verCmp
  rw [h0, h1, h2, k0, k1, k2]
  simp only [cmpTo, signI, decide_eq_true_eq]
  by_cases c0 : f 0 < g 0
  · rw [if_pos (by omega), if_pos c0]
    simp [c0]
  · by_cases d0 : g 0 < f 0
    · rw [if_pos (by omega), if_neg c0]
      simp [c0, d0]
    · rw [if_neg (by omega)]
      by_cases c1 : f 1 < g 1
      · rw [if_pos (by omega), if_pos c1]
        simp [c0, d0, c1]
      · by_cases d1 : g 1 < f 1
        · rw [if_pos (by omega), if_neg c1]
          simp [c0, d0, c1, d1]
        · rw [if_neg (by omega)]
          by_cases c2 : f 2 < g 2
          · rw [if_pos (by omega), if_pos c2]
            simp [c0, d0, c1, d1, c2]
          · by_cases d2 : g 2 < f 2
            · rw [if_pos (by omega), if_neg c2]
              simp [c0, d0, c1, d1, c2, d2]
            · rw [if_neg (by omega)]
              simp [c0, d0, c1, d1, c2, d2]
theorem number_same (z : Int) (W : World) (hz : -9223372036854775808 ≤ z ∧ z ≤ 9223372036854775807) : Calls Tryd.prog 23 #[.int .i64 z] W fun e w' => e = .returned (.string ⟨(Lib.itoa z).toArray⟩) ∧ w' = W :=
  (refNumber_any z W hz.1 hz.2).mono (fun _ _ h => And.intro h.1 h.2.symm)
theorem quiet_plus {P : Program} {f : FuncId} {args : Array Value} {w : World} {n x : Nat} {v : Value} (h : ∀ W, Calls P f args W fun e w' => e = .returned v ∧ w' = W) : Calls P f args (w.drewN (n + x)) fun e w'' => e = .returned v ∧ ∃ m, w'' = w.drewN (n + m) :=
  (h _).mono fun _ _ ⟨he, hm⟩ => ⟨he, x, hm⟩
theorem itoa_small (n : Int) (h0 : 0 ≤ n) (h1 : n ≤ 999999) : (⟨(Lib.itoa n).toArray⟩ : ByteArray).size ≤ 20 := by
  show (Lib.itoa n).toArray.size ≤ 20
  rw [List.size_toArray]
  unfold Lib.itoa
  rw [if_neg (by omega)]
  exact digits_le _ (by omega)
theorem dotTo_size (f : Nat → Int) (hf : ∀ j, 0 ≤ f j ∧ f j ≤ 999999) : ∀ k, (dotTo f k).size ≤ 21 * k
  | 0 => Nat.zero_le _
  | k + 1 => by
    have ih := dotTo_size f hf k
    have h2 := itoa_small (f k) (hf k).1 (hf k).2
    have h1 : (⟨#[46]⟩ : ByteArray).size = 1 := rfl
    unfold dotTo
    rw [ByteArray.size_append]
    split
    · omega
    · rw [ByteArray.size_append]
      omega
set_option maxHeartbeats 8000000 in
set_option maxRecDepth 100000 in
theorem versions_walk (a0 a1 a2 b0 b1 b2 at_ : Int) (w : World) (E : Env w) (ha : (-9223372036854775808 ≤ a0 ∧ a0 ≤ 9223372036854775807) ∧ (-9223372036854775808 ≤ a1 ∧ a1 ≤ 9223372036854775807) ∧ (-9223372036854775808 ≤ a2 ∧ a2 ≤ 9223372036854775807))
    (hb : (-9223372036854775808 ≤ b0 ∧ b0 ≤ 9223372036854775807) ∧ (-9223372036854775808 ≤ b1 ∧ b1 ≤ 9223372036854775807) ∧ (-9223372036854775808 ≤ b2 ∧ b2 ≤ 9223372036854775807)) (hat : -9223372036854775808 ≤ at_ ∧ at_ ≤ 9223372036854775807) :
    Calls Tryd.prog 6 #[.agg #[.int .i64 a0, .int .i64 a1, .int .i64 a2], .agg #[.int .i64 b0, .int .i64 b1, .int .i64 b2], .int .i64 at_] w fun e w' => e = .returned (.bool true) ∧ Below w.heap.size w w' := by
  have hL : ∀ j, j < 3 → -9223372036854775808 ≤ [a0, a1, a2].getD j 0 ∧ [a0, a1, a2].getD j 0 ≤ 9223372036854775807 := by
    intro j hj
    have hc : j = 0 ∨ j = 1 ∨ j = 2 := by omega
    rcases hc with rfl | rfl | rfl
    · exact ha.1
    · exact ha.2.1
    · exact ha.2.2
  have hM : ∀ j, j < 3 → -9223372036854775808 ≤ [b0, b1, b2].getD j 0 ∧ [b0, b1, b2].getD j 0 ≤ 9223372036854775807 := by
    intro j hj
    have hc : j = 0 ∨ j = 1 ∨ j = 2 := by omega
    rcases hc with rfl | rfl | rfl
    · exact hb.1
    · exact hb.2.1
    · exact hb.2.2
  replace hL := Lib.hid hL
  replace hM := Lib.hid hM
  clear ha hb
  have hs := TwoR.start a0 a1 a2 b0 b1 b2 w
  go_enter Tryd.func6, Tryd.ntmps6
  go_upto_region 1 with (fail)
  generalize (w.alloc (.cells #[.int .i64 a0, .int .i64 a1, .int .i64 a2] 50)).alloc (.cells #[.int .i64 b0, .int .i64 b1, .int .i64 b2] 50) = w0 at hs ⊢
  go_wp2_with (go_at_call 8; refine (awake_any _ (E.below hs.below)).mono ?_)
  rintro e W ⟨rfl, B⟩
  have hs1 := hs.grown B
  generalize hla : [a0, a1, a2] = la at hs1 hL
  generalize hlb : [b0, b1, b2] = lb at hs1 hM
  clear hs B
  have hm0 : TwoR (mixL la (fA la) 0) (mixL lb (fB la lb) 0) w.heap.size w W := by rw [← hla, ← hlb] at hs1 ⊢; exact hs1
  clear hs1
  go_wp2
  go_loopw [7, 8, 9, 10] (fun s t c i wr => ∃ k : Nat, k ≤ 3 ∧ i = .int .i64 k ∧ c = .int .i64 (cmpTo (fA la) (fB la lb) k) ∧ s = .string (dotTo (fA la) k) ∧ t = .string (dotTo (fB la lb) k) ∧ TwoR (mixL la (fA la) k) (mixL lb (fB la lb) k) w.heap.size w wr) (fun _ _ _ i _ => 3 - (intOf i).toNat)
  case atStart => exact ⟨0, by omega, rfl, rfl, rfl, rfl, hm0⟩
  case round =>
    obtain ⟨k, hk, rfl, rfl, rfl, rfl, htr⟩ := hrel
    clear hm0
    by_cases hlt : k < 3
    · have hlt' : (k : Int) < 3 := by omega
      have c1 := htr.cell1 k (by rw [mixL_length]; exact hlt)
      have c2 := htr.cell2 k (by rw [mixL_length]; exact hlt)
      rw [mixL_at _ _ _ hlt] at c1 c2
      have f1 := htr.free1 k
      have f2 := htr.free2 k
      have m1 := Lib.hid (fun W => mod_any (la.getD k 0) 1000000 W (hL.out k hlt) (by omega) (by omega))
      have m2 := Lib.hid (fun W => mod_any (lb.getD k 0) 1000000 W (hM.out k hlt) (by omega) (by omega))
      have p1 := (htr.put1 k (fA la k)).put2 k (fA lb k)
      have hfb : fB la lb k = if fA la k % 3 = 0 then fA la k else fA lb k := rfl
      have hr1 := fA_range la k
      have hr2 := fA_range lb k
      obtain ⟨u, hu⟩ : ∃ u, fA la k = u := ⟨_, rfl⟩
      obtain ⟨v, hv⟩ : ∃ v, fA lb k = v := ⟨_, rfl⟩
      change Hid (∀ W, Calls _ _ _ W fun e w' => e = .returned (.int .i64 (fA la k)) ∧ W = w') at m1
      change Hid (∀ W, Calls _ _ _ W fun e w' => e = .returned (.int .i64 (fA lb k)) ∧ W = w') at m2
      rw [hu] at m1 p1 hfb hr1
      rw [hv] at m2 p1 hfb hr2
      generalize la.getD k 0 = xa at c1 m1
      generalize lb.getD k 0 = xb at c2 m2
      replace hu := Lib.hid hu
      replace hv := Lib.hid hv
      replace hfb := Lib.hid hfb
      replace p1 := Lib.hid p1
      go_upto_region 8 with (fail)
      go_cut [32] (fun _ wx => TwoR ((mixL la (fA la) k).set k u) ((mixL lb (fB la lb) k).set k v) w.heap.size w wx)
      case first =>
        go_region_with (first | (go_at_call 21; go_fit (m1.out _); rintro e w1 ⟨rfl, rfl⟩) | (go_at_call 21; go_fit (m2.out _); rintro e w1 ⟨rfl, rfl⟩))
        all_goals
          go_wp2
          go_meet
          case rel => exact p1.out.drew
      case rest =>
        clear c1 c2 m1 m2 p1 htr f1 f2
        have f2 := hcut.free2 k
        have e1 : ((mixL la (fA la) k).set k u)[k]'(by rw [List.length_set, mixL_length]; exact hlt) = u := List.getElem_set_self _
        have e2 : ((mixL lb (fB la lb) k).set k v)[k]'(by rw [List.length_set, mixL_length]; exact hlt) = v := List.getElem_set_self _
        have c1 := hcut.cell1 k (by rw [List.length_set, mixL_length]; exact hlt)
        have c2 := hcut.cell2 k (by rw [List.length_set, mixL_length]; exact hlt)
        rw [e1] at c1
        rw [e2] at c2
        clear e1 e2
        have hx : (mixL la (fA la) k).set k u = mixL la (fA la) (k + 1) := by rw [← hu.out]; exact mixL_set _ _ _ hlt
        rw [hx] at hcut
        clear hx
        by_cases h3 : u % 3 = 0
        · have hz : fB la lb k = u := by rw [hfb.out, if_pos h3]
          have ht2 := hcut.put2 k u
          rw [List.set_set, show (mixL lb (fB la lb) k).set k u = mixL lb (fB la lb) (k + 1) by rw [← hz]; exact mixL_set _ _ _ hlt] at ht2
          have h3t : u.tmod 3 = 0 := by rw [Int.tmod_eq_emod_of_nonneg hr1.1]; exact h3
          go_upto_region 11 with (fail)
          have d1 : (wc.setCell ⟨w.heap.size + 1, k, none⟩ (.int .i64 u)).cell? ⟨w.heap.size, k, none⟩ = some (.int .i64 u) := by
            have := ht2.cell1 k (by rw [mixL_length]; exact hlt)
            rw [mixL_next _ _ _ hlt, hu.out] at this
            exact this
          have d2 : (wc.setCell ⟨w.heap.size + 1, k, none⟩ (.int .i64 u)).cell? ⟨w.heap.size + 1, k, none⟩ = some (.int .i64 u) := by
            have := ht2.cell2 k (by rw [mixL_length]; exact hlt)
            rw [mixL_next _ _ _ hlt, hz] at this
            exact this
          replace ht2 := Lib.hid ht2
          have z1 := dotTo_size (fA la) (fA_range la) k
          have z2 := dotTo_size (fB la lb) (fB_range la lb) k
          have g1 : dotTo (fA la) (k + 1) = (if k = 0 then dotTo (fA la) k else dotTo (fA la) k ++ ⟨#[46]⟩) ++ ⟨(Lib.itoa u).toArray⟩ := by rw [← hu.out]; rfl
          have g2 : dotTo (fB la lb) (k + 1) = (if k = 0 then dotTo (fB la lb) k else dotTo (fB la lb) k ++ ⟨#[46]⟩) ++ ⟨(Lib.itoa u).toArray⟩ := by rw [← hz]; rfl
          have g3 : cmpTo (fA la) (fB la lb) (k + 1) = if cmpTo (fA la) (fB la lb) k = 0 then (if u < u then -1 else if u < u then 1 else 0) else cmpTo (fA la) (fB la lb) k := by
            have h : cmpTo (fA la) (fB la lb) (k + 1) = if cmpTo (fA la) (fB la lb) k = 0 then (if fA la k < fB la lb k then -1 else if fB la lb k < fA la k then 1 else 0) else cmpTo (fA la) (fB la lb) k := rfl
            rw [hu.out, hz] at h
            exact h
          have i1 := itoa_small u (by omega) (by omega)
          have i2 := itoa_small u (by omega) (by omega)
          have nu := fun (W : World) => number_same u W (by omega)
          have nz := fun (W : World) => number_same u W (by omega)
          generalize (⟨(Lib.itoa u).toArray⟩ : ByteArray) = DU at g1 i1 nu g2 i2 nz
          replace nu := Lib.hid nu
          replace nz := Lib.hid nz
          generalize dotTo (fA la) k = S at z1 g1
          generalize dotTo (fB la lb) k = T at z2 g2
          generalize cmpTo (fA la) (fB la lb) k = q at g3
          generalize wc.setCell ⟨w.heap.size + 1, k, none⟩ (.int .i64 u) = W2 at ht2 d1 d2 ⊢
          clear hcut c1 c2 f2 hfb h3 h3t hv
          by_cases hq : q = 0
          · subst hq
            have g3' : cmpTo (fA la) (fB la lb) (k + 1) = 0 := by rw [g3, if_pos rfl, if_neg (Int.lt_irrefl _), if_neg (Int.lt_irrefl _)]
            replace g3' := Lib.hid g3'
            clear g3
            replace g1 := Lib.hid g1
            replace g2 := Lib.hid g2
            have l1 : decide (u < u) = false := decide_eq_false (Int.lt_irrefl _)
            go_quiet (fail)
            go_upto_region 13 with (fail)
            go_quiet (fail)
            go_upto_region 15 with (fail)
            by_cases h0 : k = 0
            · have h0' : ¬ (0 : Int) < (k : Int) := by omega
              have k1 : dotTo (fA la) (k + 1) = S ++ DU := by rw [g1.out, if_pos h0]
              have k2 : dotTo (fB la lb) (k + 1) = T ++ DU := by rw [g2.out, if_pos h0]
              replace k1 := Lib.hid k1
              replace k2 := Lib.hid k2
              replace h0 := Lib.hid h0
              go_upto_region 17 with (fail)
              have y1 : ¬ 9223372036854775807 < S.size + DU.size := by omega
              have y2 : ¬ 9223372036854775807 < T.size + DU.size := by omega
              go_quiet (first | (go_at_call 23; with_reducible refine quiet_plus nu.out) | (go_at_call 23; with_reducible refine quiet_plus nz.out))
              go_wp2
              go_roundw
              case rel => exact ⟨k + 1, by omega, by go_num, by rw [g3'.out], by rw [k1.out], by rw [k2.out], ⟨ht2.out.one, ht2.out.two, ht2.out.below.os, ht2.out.below.tape, ht2.out.below.output, ht2.out.below.size, ht2.out.below.block⟩⟩
              case measure => simp [intOf]; omega
            · have h0' : (0 : Int) < (k : Int) := by omega
              have k1 : dotTo (fA la) (k + 1) = (S ++ ⟨#[46]⟩) ++ DU := by rw [g1.out, if_neg h0]
              have k2 : dotTo (fB la lb) (k + 1) = (T ++ ⟨#[46]⟩) ++ DU := by rw [g2.out, if_neg h0]
              replace k1 := Lib.hid k1
              replace k2 := Lib.hid k2
              replace h0 := Lib.hid h0
              go_upto_region 17 with (fail)
              have y1 : ¬ 9223372036854775807 < S.size + 1 + DU.size := by omega
              have y2 : ¬ 9223372036854775807 < T.size + 1 + DU.size := by omega
              go_quiet (first | (go_at_call 23; with_reducible refine quiet_plus nu.out) | (go_at_call 23; with_reducible refine quiet_plus nz.out))
              go_wp2
              go_roundw
              case rel => exact ⟨k + 1, by omega, by go_num, by rw [g3'.out], by rw [k1.out], by rw [k2.out], ⟨ht2.out.one, ht2.out.two, ht2.out.below.os, ht2.out.below.tape, ht2.out.below.output, ht2.out.below.size, ht2.out.below.block⟩⟩
              case measure => simp [intOf]; omega
          · have q1 : (q == 0) = false := by rw [beq_eq_false_iff_ne]; exact hq
            have g3' : cmpTo (fA la) (fB la lb) (k + 1) = q := by rw [g3, if_neg hq]
            replace g3' := Lib.hid g3'
            clear g3
            replace g1 := Lib.hid g1
            replace g2 := Lib.hid g2
            go_quiet (fail)
            go_upto_region 13 with (fail)
            go_quiet (fail)
            go_upto_region 15 with (fail)
            by_cases h0 : k = 0
            · have h0' : ¬ (0 : Int) < (k : Int) := by omega
              have k1 : dotTo (fA la) (k + 1) = S ++ DU := by rw [g1.out, if_pos h0]
              have k2 : dotTo (fB la lb) (k + 1) = T ++ DU := by rw [g2.out, if_pos h0]
              replace k1 := Lib.hid k1
              replace k2 := Lib.hid k2
              replace h0 := Lib.hid h0
              go_upto_region 17 with (fail)
              have y1 : ¬ 9223372036854775807 < S.size + DU.size := by omega
              have y2 : ¬ 9223372036854775807 < T.size + DU.size := by omega
              go_quiet (first | (go_at_call 23; with_reducible refine quiet_plus nu.out) | (go_at_call 23; with_reducible refine quiet_plus nz.out))
              go_wp2
              go_roundw
              case rel => exact ⟨k + 1, by omega, by go_num, by rw [g3'.out], by rw [k1.out], by rw [k2.out], ⟨ht2.out.one, ht2.out.two, ht2.out.below.os, ht2.out.below.tape, ht2.out.below.output, ht2.out.below.size, ht2.out.below.block⟩⟩
              case measure => simp [intOf]; omega
            · have h0' : (0 : Int) < (k : Int) := by omega
              have k1 : dotTo (fA la) (k + 1) = (S ++ ⟨#[46]⟩) ++ DU := by rw [g1.out, if_neg h0]
              have k2 : dotTo (fB la lb) (k + 1) = (T ++ ⟨#[46]⟩) ++ DU := by rw [g2.out, if_neg h0]
              replace k1 := Lib.hid k1
              replace k2 := Lib.hid k2
              replace h0 := Lib.hid h0
              go_upto_region 17 with (fail)
              have y1 : ¬ 9223372036854775807 < S.size + 1 + DU.size := by omega
              have y2 : ¬ 9223372036854775807 < T.size + 1 + DU.size := by omega
              go_quiet (first | (go_at_call 23; with_reducible refine quiet_plus nu.out) | (go_at_call 23; with_reducible refine quiet_plus nz.out))
              go_wp2
              go_roundw
              case rel => exact ⟨k + 1, by omega, by go_num, by rw [g3'.out], by rw [k1.out], by rw [k2.out], ⟨ht2.out.one, ht2.out.two, ht2.out.below.os, ht2.out.below.tape, ht2.out.below.output, ht2.out.below.size, ht2.out.below.block⟩⟩
              case measure => simp [intOf]; omega
        · have hz : fB la lb k = v := by rw [hfb.out, if_neg h3]
          have ht2 := hcut
          rw [show (mixL lb (fB la lb) k).set k v = mixL lb (fB la lb) (k + 1) by rw [← hz]; exact mixL_set _ _ _ hlt] at ht2
          have h3t : ¬ u.tmod 3 = 0 := by rw [Int.tmod_eq_emod_of_nonneg hr1.1]; exact h3
          go_upto_region 11 with (fail)
          have d1 : wc.cell? ⟨w.heap.size, k, none⟩ = some (.int .i64 u) := by
            have := ht2.cell1 k (by rw [mixL_length]; exact hlt)
            rw [mixL_next _ _ _ hlt, hu.out] at this
            exact this
          have d2 : wc.cell? ⟨w.heap.size + 1, k, none⟩ = some (.int .i64 v) := by
            have := ht2.cell2 k (by rw [mixL_length]; exact hlt)
            rw [mixL_next _ _ _ hlt, hz] at this
            exact this
          replace ht2 := Lib.hid ht2
          have z1 := dotTo_size (fA la) (fA_range la) k
          have z2 := dotTo_size (fB la lb) (fB_range la lb) k
          have g1 : dotTo (fA la) (k + 1) = (if k = 0 then dotTo (fA la) k else dotTo (fA la) k ++ ⟨#[46]⟩) ++ ⟨(Lib.itoa u).toArray⟩ := by rw [← hu.out]; rfl
          have g2 : dotTo (fB la lb) (k + 1) = (if k = 0 then dotTo (fB la lb) k else dotTo (fB la lb) k ++ ⟨#[46]⟩) ++ ⟨(Lib.itoa v).toArray⟩ := by rw [← hz]; rfl
          have g3 : cmpTo (fA la) (fB la lb) (k + 1) = if cmpTo (fA la) (fB la lb) k = 0 then (if u < v then -1 else if v < u then 1 else 0) else cmpTo (fA la) (fB la lb) k := by
            have h : cmpTo (fA la) (fB la lb) (k + 1) = if cmpTo (fA la) (fB la lb) k = 0 then (if fA la k < fB la lb k then -1 else if fB la lb k < fA la k then 1 else 0) else cmpTo (fA la) (fB la lb) k := rfl
            rw [hu.out, hz] at h
            exact h
          have i1 := itoa_small u (by omega) (by omega)
          have i2 := itoa_small v (by omega) (by omega)
          have nu := fun (W : World) => number_same u W (by omega)
          have nz := fun (W : World) => number_same v W (by omega)
          generalize (⟨(Lib.itoa u).toArray⟩ : ByteArray) = DU at g1 i1 nu
          generalize (⟨(Lib.itoa v).toArray⟩ : ByteArray) = DZ at g2 i2 nz
          replace nu := Lib.hid nu
          replace nz := Lib.hid nz
          generalize dotTo (fA la) k = S at z1 g1
          generalize dotTo (fB la lb) k = T at z2 g2
          generalize cmpTo (fA la) (fB la lb) k = q at g3
          generalize wc = W2 at ht2 d1 d2 ⊢
          clear hcut c1 c2 f2 hfb h3 h3t hv
          by_cases hq : q = 0
          · subst hq
            by_cases hl : u < v
            · have l1 : decide (u < v) = true := decide_eq_true hl
              have q1 : ((-1 : Int) == 0) = false := rfl
              have g3' : cmpTo (fA la) (fB la lb) (k + 1) = (-1) := by rw [g3, if_pos rfl, if_pos hl]
              replace g3' := Lib.hid g3'
              clear g3
              replace g1 := Lib.hid g1
              replace g2 := Lib.hid g2
              go_quiet (fail)
              go_upto_region 13 with (fail)
              go_quiet (fail)
              go_upto_region 15 with (fail)
              by_cases h0 : k = 0
              · have h0' : ¬ (0 : Int) < (k : Int) := by omega
                have k1 : dotTo (fA la) (k + 1) = S ++ DU := by rw [g1.out, if_pos h0]
                have k2 : dotTo (fB la lb) (k + 1) = T ++ DZ := by rw [g2.out, if_pos h0]
                replace k1 := Lib.hid k1
                replace k2 := Lib.hid k2
                replace h0 := Lib.hid h0
                go_upto_region 17 with (fail)
                have y1 : ¬ 9223372036854775807 < S.size + DU.size := by omega
                have y2 : ¬ 9223372036854775807 < T.size + DZ.size := by omega
                go_quiet (first | (go_at_call 23; with_reducible refine quiet_plus nu.out) | (go_at_call 23; with_reducible refine quiet_plus nz.out))
                go_wp2
                go_roundw
                case rel => exact ⟨k + 1, by omega, by go_num, by rw [g3'.out], by rw [k1.out], by rw [k2.out], ⟨ht2.out.one, ht2.out.two, ht2.out.below.os, ht2.out.below.tape, ht2.out.below.output, ht2.out.below.size, ht2.out.below.block⟩⟩
                case measure => simp [intOf]; omega
              · have h0' : (0 : Int) < (k : Int) := by omega
                have k1 : dotTo (fA la) (k + 1) = (S ++ ⟨#[46]⟩) ++ DU := by rw [g1.out, if_neg h0]
                have k2 : dotTo (fB la lb) (k + 1) = (T ++ ⟨#[46]⟩) ++ DZ := by rw [g2.out, if_neg h0]
                replace k1 := Lib.hid k1
                replace k2 := Lib.hid k2
                replace h0 := Lib.hid h0
                go_upto_region 17 with (fail)
                have y1 : ¬ 9223372036854775807 < S.size + 1 + DU.size := by omega
                have y2 : ¬ 9223372036854775807 < T.size + 1 + DZ.size := by omega
                go_quiet (first | (go_at_call 23; with_reducible refine quiet_plus nu.out) | (go_at_call 23; with_reducible refine quiet_plus nz.out))
                go_wp2
                go_roundw
                case rel => exact ⟨k + 1, by omega, by go_num, by rw [g3'.out], by rw [k1.out], by rw [k2.out], ⟨ht2.out.one, ht2.out.two, ht2.out.below.os, ht2.out.below.tape, ht2.out.below.output, ht2.out.below.size, ht2.out.below.block⟩⟩
                case measure => simp [intOf]; omega
            · have l1 : decide (u < v) = false := decide_eq_false hl
              by_cases hg : v < u
              · have l2 : decide (v < u) = true := decide_eq_true hg
                have g3' : cmpTo (fA la) (fB la lb) (k + 1) = 1 := by rw [g3, if_pos rfl, if_neg hl, if_pos hg]
                replace g3' := Lib.hid g3'
                clear g3
                replace g1 := Lib.hid g1
                replace g2 := Lib.hid g2
                go_quiet (fail)
                go_upto_region 13 with (fail)
                go_quiet (fail)
                go_upto_region 15 with (fail)
                by_cases h0 : k = 0
                · have h0' : ¬ (0 : Int) < (k : Int) := by omega
                  have k1 : dotTo (fA la) (k + 1) = S ++ DU := by rw [g1.out, if_pos h0]
                  have k2 : dotTo (fB la lb) (k + 1) = T ++ DZ := by rw [g2.out, if_pos h0]
                  replace k1 := Lib.hid k1
                  replace k2 := Lib.hid k2
                  replace h0 := Lib.hid h0
                  go_upto_region 17 with (fail)
                  have y1 : ¬ 9223372036854775807 < S.size + DU.size := by omega
                  have y2 : ¬ 9223372036854775807 < T.size + DZ.size := by omega
                  go_quiet (first | (go_at_call 23; with_reducible refine quiet_plus nu.out) | (go_at_call 23; with_reducible refine quiet_plus nz.out))
                  go_wp2
                  go_roundw
                  case rel => exact ⟨k + 1, by omega, by go_num, by rw [g3'.out], by rw [k1.out], by rw [k2.out], ⟨ht2.out.one, ht2.out.two, ht2.out.below.os, ht2.out.below.tape, ht2.out.below.output, ht2.out.below.size, ht2.out.below.block⟩⟩
                  case measure => simp [intOf]; omega
                · have h0' : (0 : Int) < (k : Int) := by omega
                  have k1 : dotTo (fA la) (k + 1) = (S ++ ⟨#[46]⟩) ++ DU := by rw [g1.out, if_neg h0]
                  have k2 : dotTo (fB la lb) (k + 1) = (T ++ ⟨#[46]⟩) ++ DZ := by rw [g2.out, if_neg h0]
                  replace k1 := Lib.hid k1
                  replace k2 := Lib.hid k2
                  replace h0 := Lib.hid h0
                  go_upto_region 17 with (fail)
                  have y1 : ¬ 9223372036854775807 < S.size + 1 + DU.size := by omega
                  have y2 : ¬ 9223372036854775807 < T.size + 1 + DZ.size := by omega
                  go_quiet (first | (go_at_call 23; with_reducible refine quiet_plus nu.out) | (go_at_call 23; with_reducible refine quiet_plus nz.out))
                  go_wp2
                  go_roundw
                  case rel => exact ⟨k + 1, by omega, by go_num, by rw [g3'.out], by rw [k1.out], by rw [k2.out], ⟨ht2.out.one, ht2.out.two, ht2.out.below.os, ht2.out.below.tape, ht2.out.below.output, ht2.out.below.size, ht2.out.below.block⟩⟩
                  case measure => simp [intOf]; omega
              · have l2 : decide (v < u) = false := decide_eq_false hg
                have g3' : cmpTo (fA la) (fB la lb) (k + 1) = 0 := by rw [g3, if_pos rfl, if_neg hl, if_neg hg]
                replace g3' := Lib.hid g3'
                clear g3
                replace g1 := Lib.hid g1
                replace g2 := Lib.hid g2
                go_quiet (fail)
                go_upto_region 13 with (fail)
                go_quiet (fail)
                go_upto_region 15 with (fail)
                by_cases h0 : k = 0
                · have h0' : ¬ (0 : Int) < (k : Int) := by omega
                  have k1 : dotTo (fA la) (k + 1) = S ++ DU := by rw [g1.out, if_pos h0]
                  have k2 : dotTo (fB la lb) (k + 1) = T ++ DZ := by rw [g2.out, if_pos h0]
                  replace k1 := Lib.hid k1
                  replace k2 := Lib.hid k2
                  replace h0 := Lib.hid h0
                  go_upto_region 17 with (fail)
                  have y1 : ¬ 9223372036854775807 < S.size + DU.size := by omega
                  have y2 : ¬ 9223372036854775807 < T.size + DZ.size := by omega
                  go_quiet (first | (go_at_call 23; with_reducible refine quiet_plus nu.out) | (go_at_call 23; with_reducible refine quiet_plus nz.out))
                  go_wp2
                  go_roundw
                  case rel => exact ⟨k + 1, by omega, by go_num, by rw [g3'.out], by rw [k1.out], by rw [k2.out], ⟨ht2.out.one, ht2.out.two, ht2.out.below.os, ht2.out.below.tape, ht2.out.below.output, ht2.out.below.size, ht2.out.below.block⟩⟩
                  case measure => simp [intOf]; omega
                · have h0' : (0 : Int) < (k : Int) := by omega
                  have k1 : dotTo (fA la) (k + 1) = (S ++ ⟨#[46]⟩) ++ DU := by rw [g1.out, if_neg h0]
                  have k2 : dotTo (fB la lb) (k + 1) = (T ++ ⟨#[46]⟩) ++ DZ := by rw [g2.out, if_neg h0]
                  replace k1 := Lib.hid k1
                  replace k2 := Lib.hid k2
                  replace h0 := Lib.hid h0
                  go_upto_region 17 with (fail)
                  have y1 : ¬ 9223372036854775807 < S.size + 1 + DU.size := by omega
                  have y2 : ¬ 9223372036854775807 < T.size + 1 + DZ.size := by omega
                  go_quiet (first | (go_at_call 23; with_reducible refine quiet_plus nu.out) | (go_at_call 23; with_reducible refine quiet_plus nz.out))
                  go_wp2
                  go_roundw
                  case rel => exact ⟨k + 1, by omega, by go_num, by rw [g3'.out], by rw [k1.out], by rw [k2.out], ⟨ht2.out.one, ht2.out.two, ht2.out.below.os, ht2.out.below.tape, ht2.out.below.output, ht2.out.below.size, ht2.out.below.block⟩⟩
                  case measure => simp [intOf]; omega
          · have q1 : (q == 0) = false := by rw [beq_eq_false_iff_ne]; exact hq
            have g3' : cmpTo (fA la) (fB la lb) (k + 1) = q := by rw [g3, if_neg hq]
            replace g3' := Lib.hid g3'
            clear g3
            replace g1 := Lib.hid g1
            replace g2 := Lib.hid g2
            go_quiet (fail)
            go_upto_region 13 with (fail)
            go_quiet (fail)
            go_upto_region 15 with (fail)
            by_cases h0 : k = 0
            · have h0' : ¬ (0 : Int) < (k : Int) := by omega
              have k1 : dotTo (fA la) (k + 1) = S ++ DU := by rw [g1.out, if_pos h0]
              have k2 : dotTo (fB la lb) (k + 1) = T ++ DZ := by rw [g2.out, if_pos h0]
              replace k1 := Lib.hid k1
              replace k2 := Lib.hid k2
              replace h0 := Lib.hid h0
              go_upto_region 17 with (fail)
              have y1 : ¬ 9223372036854775807 < S.size + DU.size := by omega
              have y2 : ¬ 9223372036854775807 < T.size + DZ.size := by omega
              go_quiet (first | (go_at_call 23; with_reducible refine quiet_plus nu.out) | (go_at_call 23; with_reducible refine quiet_plus nz.out))
              go_wp2
              go_roundw
              case rel => exact ⟨k + 1, by omega, by go_num, by rw [g3'.out], by rw [k1.out], by rw [k2.out], ⟨ht2.out.one, ht2.out.two, ht2.out.below.os, ht2.out.below.tape, ht2.out.below.output, ht2.out.below.size, ht2.out.below.block⟩⟩
              case measure => simp [intOf]; omega
            · have h0' : (0 : Int) < (k : Int) := by omega
              have k1 : dotTo (fA la) (k + 1) = (S ++ ⟨#[46]⟩) ++ DU := by rw [g1.out, if_neg h0]
              have k2 : dotTo (fB la lb) (k + 1) = (T ++ ⟨#[46]⟩) ++ DZ := by rw [g2.out, if_neg h0]
              replace k1 := Lib.hid k1
              replace k2 := Lib.hid k2
              replace h0 := Lib.hid h0
              go_upto_region 17 with (fail)
              have y1 : ¬ 9223372036854775807 < S.size + 1 + DU.size := by omega
              have y2 : ¬ 9223372036854775807 < T.size + 1 + DZ.size := by omega
              go_quiet (first | (go_at_call 23; with_reducible refine quiet_plus nu.out) | (go_at_call 23; with_reducible refine quiet_plus nz.out))
              go_wp2
              go_roundw
              case rel => exact ⟨k + 1, by omega, by go_num, by rw [g3'.out], by rw [k1.out], by rw [k2.out], ⟨ht2.out.one, ht2.out.two, ht2.out.below.os, ht2.out.below.tape, ht2.out.below.output, ht2.out.below.size, ht2.out.below.block⟩⟩
              case measure => simp [intOf]; omega
    · obtain rfl : k = 3 := by omega
      have A := verT_parts (fA la 0) (fA la 1) (fA la 2) (fA_range la 0) (fA_range la 1) (fA_range la 2)
      have Bv := verT_parts (fB la lb 0) (fB la lb 1) (fB la lb 2) (fB_range la lb 0) (fB_range la lb 1) (fB_range la lb 2)
      have q1 := dotTo_size (fA la) (fA_range la) 3
      have q2 := dotTo_size (fB la lb) (fB_range la lb) 3
      rw [← dotTo_ver] at A Bv
      have hcv := cmpTo_ver (fA la) (fB la lb) _ _ A.2.1 A.2.2.1 A.2.2.2 Bv.2.1 Bv.2.2.1 Bv.2.2.2
      generalize dotTo (fA la) 3 = S at A q1 hcv ⊢
      generalize dotTo (fB la lb) 3 = T at Bv q2 hcv ⊢
      have Ew := E.below htr.below
      have hcmp := compare_any ⟨4, 0, S, []⟩ ⟨4, 0, T, []⟩ none none 0 0 wr (by simp only; omega) (Nat.zero_le _) (fun s hs => by cases hs) (by simp only; omega) (Nat.zero_le _) (fun s hs => by cases hs) Ew.tabs (texts_none _ _) (texts_none _ _)
      rw [ver_cmp S T A.1 Bv.1, hcv] at hcmp
      have hpart := fun W => part_any S at_ W (by omega)
      unfold partV at hpart
      simp only [if_pos A.1] at hpart
      change Calls _ _ #[.agg #[.int .i64 4, .int .i64 0, .string S, .slice none 0 0], .agg #[.int .i64 4, .int .i64 0, .string T, .slice none 0 0]] _ (fun e w' => e = .returned (.tuple #[.int .i64 (cmpTo (fA la) (fB la lb) 3), .int .i64 0]) ∧ _) at hcmp
      replace hcmp := Lib.hid hcmp
      generalize cmpTo (fA la) (fB la lb) 3 = cc at hcmp ⊢
      have hcell := Lib.hid (fun (W : World) (hb : Below wr.heap.size wr W) (j : Nat) (hj : j < 3) => (htr.grown hb).cell1 j (by rw [mixL_length]; exact hj))
      have hbl := Lib.hid (fun (W : World) (hb : Below wr.heap.size wr W) => (htr.grown hb).below)
      clear hcv Bv htr Ew E
      by_cases ho : at_ < 0 ∨ 2 < at_
      · simp only [if_pos ho] at hpart
        unfold numE at hpart
        replace hpart := Lib.hid hpart
        replace A := Lib.hid A
        have hw : at_ < 0 ∨ (¬ at_ < 0 ∧ 2 < at_) := by omega
        clear ho
        rcases hw with h1 | ⟨h1, h2⟩
        all_goals
          go_wp2_with (first
            | (go_at_call 24; refine hcmp.out.mono ?_; rintro e w1 ⟨rfl, hb1⟩)
            | (go_at_call 26; refine (hpart.out _).mono ?_; rintro e w2 ⟨rfl, hb2⟩))
          go_ret
          exact ⟨rfl, hbl.out _ (hb1.trans (hb2.mono hb1.size))⟩
      · simp only [if_neg ho] at hpart
        unfold numE at hpart
        have hw : at_ = 0 ∨ at_ = 1 ∨ at_ = 2 := by omega
        clear ho
        rcases hw with rfl | rfl | rfl
        · change ∀ W, Calls _ _ _ _ (fun e w' => e = .returned (.tuple #[.int .i64 (verN S 0), .int .i64 0]) ∧ _) at hpart
          rw [A.2.1] at hpart
          replace hpart := Lib.hid hpart
          go_wp2_with (first
            | (go_at_call 24; refine hcmp.out.mono ?_; rintro e w1 ⟨rfl, hb1⟩)
            | (go_at_call 26; refine (hpart.out _).mono ?_; rintro e w2 ⟨rfl, hb2⟩; have hc0 : w2.cell? ⟨w.heap.size, 0, none⟩ = some (.int .i64 (fA la 0)) := hcell.out _ (hb1.trans (hb2.mono hb1.size)) 0 (by omega)))
          go_ret
          exact ⟨rfl, hbl.out _ (hb1.trans (hb2.mono hb1.size))⟩
        · change ∀ W, Calls _ _ _ _ (fun e w' => e = .returned (.tuple #[.int .i64 (verN S 1), .int .i64 0]) ∧ _) at hpart
          rw [A.2.2.1] at hpart
          replace hpart := Lib.hid hpart
          go_wp2_with (first
            | (go_at_call 24; refine hcmp.out.mono ?_; rintro e w1 ⟨rfl, hb1⟩)
            | (go_at_call 26; refine (hpart.out _).mono ?_; rintro e w2 ⟨rfl, hb2⟩; have hc0 : w2.cell? ⟨w.heap.size, 1, none⟩ = some (.int .i64 (fA la 1)) := hcell.out _ (hb1.trans (hb2.mono hb1.size)) 1 (by omega)))
          go_ret
          exact ⟨rfl, hbl.out _ (hb1.trans (hb2.mono hb1.size))⟩
        · change ∀ W, Calls _ _ _ _ (fun e w' => e = .returned (.tuple #[.int .i64 (verN S 2), .int .i64 0]) ∧ _) at hpart
          rw [A.2.2.2] at hpart
          replace hpart := Lib.hid hpart
          go_wp2_with (first
            | (go_at_call 24; refine hcmp.out.mono ?_; rintro e w1 ⟨rfl, hb1⟩)
            | (go_at_call 26; refine (hpart.out _).mono ?_; rintro e w2 ⟨rfl, hb2⟩; have hc0 : w2.cell? ⟨w.heap.size, 2, none⟩ = some (.int .i64 (fA la 2)) := hcell.out _ (hb1.trans (hb2.mono hb1.size)) 2 (by omega)))
          go_ret
          exact ⟨rfl, hbl.out _ (hb1.trans (hb2.mono hb1.size))⟩
end Go.Proofs.YtipncjbgippkcaaDoor
