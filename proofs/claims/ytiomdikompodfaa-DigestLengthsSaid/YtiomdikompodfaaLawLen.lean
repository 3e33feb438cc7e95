/- DigestLengths: for every key word and every n up to 299, the hash values of n and of n + 1 zero bytes are the document's, their frames differ, and the frame of both has 2 n + 17 bytes. -/
import Derived.Test.YtiomdikompodfaaInj
import Derived.Deep.RegionWith
import Derived.Deep.DrawnRows
import Derived.Deep.DeepFit
namespace Go.Proofs.Ytiomdikompodfaa
open Go Go.RowKit

theorem place300 (z : Int) : ∃ n : Nat, n < 300 ∧ (wrap64 (z.tmod 300 + 300)).tmod 300 = (n : Int) := by
  have hr := tmod_range z 300 (by omega)
  rw [show ((300 : Nat) : Int) = 300 from rfl] at hr
  generalize z.tmod 300 = r at hr ⊢
  rw [IntWalk.wrap64_in (r + 300) (by omega)]
  obtain ⟨s, hs⟩ : ∃ s : Nat, r + 300 = (s : Int) := ⟨(r + 300).toNat, by omega⟩
  refine ⟨s % 300, by omega, ?_⟩
  rw [hs, Int.tmod_eq_emod_of_nonneg (by omega), Int.natCast_emod]
  rfl
theorem frame_one (a1 : Option Addr) (n g : Nat) (w : World) (hn : n ≤ 1000) (hb : BytesAre a1 (List.replicate n 0) w) (ha : a1 ≠ none) (hg : w.cell? ⟨g, 0, none⟩ = some (.slice a1 n n)) :
    Calls Try.prog 12 #[.slice (some ⟨g, 0, none⟩) 1 1] w (MadeBytes (frameL [List.replicate n 0]) w) := by
  have hF : FieldsAre (some ⟨g, 0, none⟩) [List.replicate n 0] w := by
    intro i hi
    obtain rfl : i = 0 := by simpa using hi
    exact ⟨g, 0, a1, n, rfl, block_lt_of_cell hg, by simpa using hg, fun h => absurd h ha, by simp, hb⟩
  exact frame_any _ [List.replicate n 0] 1 w (by simp) (by simp; omega) (by simp) hF
theorem frame_two (a1 a2 : Option Addr) (n g : Nat) (w : World) (hn : n ≤ 1000) (hb1 : BytesAre a1 (List.replicate n 0) w) (hb2 : BytesAre a2 (List.replicate (n + 1) 0) w) (ha1 : a1 ≠ none) (ha2 : a2 ≠ none)
    (hg1 : w.cell? ⟨g, 0, none⟩ = some (.slice a1 n n)) (hg2 : w.cell? ⟨g, 1, none⟩ = some (.slice a2 (n + 1) (n + 1))) :
    Calls Try.prog 12 #[.slice (some ⟨g, 0, none⟩) 2 2] w fun e w' => (∃ (a : Option Addr) (c : Nat), e = .returned (.slice a (2 * n + 17) c)) ∧ Below w.heap.size w w' := by
  have hF : FieldsAre (some ⟨g, 0, none⟩) [List.replicate n 0, List.replicate (n + 1) 0] w := by
    intro i hi
    match i, hi with
    | 0, _ => exact ⟨g, 0, a1, n, rfl, block_lt_of_cell hg1, by simpa using hg1, fun h => absurd h ha1, by simp, hb1⟩
    | 1, _ => exact ⟨g, 0, a2, n + 1, rfl, block_lt_of_cell hg2, by simpa using hg2, fun h => absurd h ha2, by simp, hb2⟩
  refine (frame_any _ [List.replicate n 0, List.replicate (n + 1) 0] 2 w (by simp) (by simp; omega) (by simp) hF).mono ?_
  rintro e w' ⟨a, c, rfl, _, _, _, hbl, _⟩
  refine ⟨⟨a, c, ?_⟩, hbl⟩
  rw [show (frameL [List.replicate n 0, List.replicate (n + 1) 0]).length = 2 * n + 17 from by simp [frameL, lenB_length]; omega]

theorem wpAny_same {P : Program} {md : Region.Mode} {ops : Array Oper} {Q : Exit → Act → World → Prop} {fuel : Nat} {l l' : Array Bool} {a a' : Act} {w : World} (h : wpAny P md ops Q fuel l a w) (hl : l' = l) (ha : a' = a) : wpAny P md ops Q fuel l' a' w := by
  subst hl ha
  exact h
theorem cut_way {S G : Prop} (h : S → G) (s : S) : G := h s
theorem cell_new1 (w : World) (v : Value) (t : TypeId) : (w.alloc (.cells #[v] t)).cell? ⟨w.heap.size, 0, none⟩ = some v := by
  rw [Lib.cell_of_heap (heap_alloc_new w _)]
  rfl
theorem cell_old1 (w : World) (v u : Value) (t : TypeId) : ((w.alloc (.cells #[v] t)).alloc (.cells #[u] t)).cell? ⟨w.heap.size, 0, none⟩ = some v := by
  rw [((Below.refl _ (w.alloc (.cells #[v] t))).alloc (Nat.le_refl _) (.cells #[u] t)).cell (p := ⟨w.heap.size, 0, none⟩) (by simp)]
  exact cell_new1 w v t
theorem cell_new2 (w : World) (u v : Value) (t : TypeId) : ((w.alloc (.cells #[u] t)).alloc (.cells #[v] t)).cell? ⟨w.heap.size + 1, 0, none⟩ = some v := by
  have := cell_new1 (w.alloc (.cells #[u] t)) v t
  rwa [World.size_alloc] at this
theorem cell_kept2 (w : World) (v u : Value) (w' : World) {t : TypeId} (h : Below ((w.alloc (.cells #[v] t)).alloc (.cells #[u] t)).heap.size ((w.alloc (.cells #[v] t)).alloc (.cells #[u] t)) w') : w'.cell? ⟨w.heap.size + 1, 0, none⟩ = some u := by
  rw [h.cell (p := ⟨w.heap.size + 1, 0, none⟩) (by simp)]
  exact cell_new2 w v u t
theorem cell_kept1 (w : World) (u v : Value) (w' : World) {t : TypeId} (h : Below ((w.alloc (.cells #[u] t)).alloc (.cells #[v] t)).heap.size ((w.alloc (.cells #[u] t)).alloc (.cells #[v] t)) w') : w'.cell? ⟨w.heap.size, 0, none⟩ = some u := by
  rw [h.cell (p := ⟨w.heap.size, 0, none⟩) (by simp; omega)]
  exact cell_old1 w u v t

attribute [local go_sem ↓] Go.wp_at_zero Go.wp_at_succ
set_option maxHeartbeats 16000000 in
theorem lawLen_walk (k0 : UInt64) (z : Int) (w : World) :
    Calls Try.prog 7 #[.int .u64 (k0.toNat : Int), .int .i64 z] w fun e w' => e = .returned (.bool true) ∧ Below w.heap.size w w' := by
  have B := Below.refl w.heap.size w
  obtain ⟨n, hn, hne⟩ := place300 z
  replace hne := Lib.hid hne
  go_enter Try.func7, Try.ntmps7
  go_upto_region 4 with (go_at_call 8; refine (awake_any _).mono ?_; rintro e W ⟨rfl, hb0⟩; replace B := B.trans (hb0.mono B.size); clear hb0)
  rw [hne.out]
  clear hne
  have hmk1 := run_makeBytes W n (by omega)
  have hmk2 := run_makeBytes (W.alloc (.cells (madeCells #[.int .u8 0] n) 5)) (n + 1) (by omega)
  rw [show ((n + 1 : Nat) : Int) = (n : Int) + 1 from rfl] at hmk2
  simp only [World.size_alloc] at hmk2
  have hr1 := RowIs.made W n
  have hr2 := RowIs.made (W.alloc (.cells (madeCells #[.int .u8 0] n) 5)) (n + 1)
  simp only [World.size_alloc] at hr2
  go_upto_region 6 with (fail)
  have hb1 := hr1.bytes.below (Nat.le_refl _) ((Below.refl _ (W.alloc (.cells (madeCells #[.int .u8 0] n) 5))).alloc (Nat.le_refl _) (.cells (madeCells #[.int .u8 0] (n + 1)) 5))
  have hb2 := hr2.bytes
  have B5 := B.trans ((((Below.refl W.heap.size W).alloc (Nat.le_refl _) (.cells (madeCells #[.int .u8 0] n) 5)).alloc (by simp) (.cells (madeCells #[.int .u8 0] (n + 1)) 5)).mono B.size)
  clear hr1 hr2 hmk1 hmk2 B
  generalize (W.alloc (.cells (madeCells #[.int .u8 0] n) 5)).alloc (.cells (madeCells #[.int .u8 0] (n + 1)) 5) = W5 at hb1 hb2 B5 ⊢
  generalize W.heap.size + 1 = g2 at hb2 ⊢
  generalize W.heap.size = g1 at hb1 ⊢
  have hdr : Below W5.heap.size W5 W5.drew := (Below.refl _ W5).drew
  replace hb1 := hb1.below (Nat.le_refl _) hdr
  replace hb2 := hb2.below (Nat.le_refl _) hdr
  replace B5 := Lib.hid (B5.trans (hdr.mono B5.size))
  have hSb : ∀ W', Below W5.drew.heap.size W5.drew W' → Calls Try.prog 9 #[.int .u64 (k0.toNat : Int), .int .u64 0, .slice (some ⟨g1, 0, none⟩) (n) (n)] W' fun e w' => e = .returned (.int .u64 ((sipSum k0 0 (List.replicate (n) 0)).toNat : Int)) ∧ Below W'.heap.size W' w' := by
    intro W' h
    have := sum_any k0 0 (some ⟨g1, 0, none⟩) (List.replicate (n) 0) (n) W' (by simp; omega) (by simp) (hb1.below (Nat.le_refl _) h)
    rw [List.length_replicate] at this
    exact this
  have hRb : ∀ W', Below W5.drew.heap.size W5.drew W' → Calls Try.prog 10 #[.int .u64 (k0.toNat : Int), .int .u64 0, .slice (some ⟨g1, 0, none⟩) (n) (n)] W' fun e w' => e = .returned (.int .u64 ((sipSum k0 0 (List.replicate (n) 0)).toNat : Int)) ∧ Below W'.heap.size W' w' := by
    intro W' h
    have := refSum_any k0 0 (some ⟨g1, 0, none⟩) (List.replicate (n) 0) (n) W' (by simp; omega) (hb1.below (Nat.le_refl _) h)
    rw [List.length_replicate] at this
    exact this
  have hSc : ∀ W', Below W5.drew.heap.size W5.drew W' → Calls Try.prog 9 #[.int .u64 (k0.toNat : Int), .int .u64 0, .slice (some ⟨g2, 0, none⟩) (n + 1) (n + 1)] W' fun e w' => e = .returned (.int .u64 ((sipSum k0 0 (List.replicate (n + 1) 0)).toNat : Int)) ∧ Below W'.heap.size W' w' := by
    intro W' h
    have := sum_any k0 0 (some ⟨g2, 0, none⟩) (List.replicate (n + 1) 0) (n + 1) W' (by simp; omega) (by simp) (hb2.below (Nat.le_refl _) h)
    rw [List.length_replicate] at this
    exact this
  have hRc : ∀ W', Below W5.drew.heap.size W5.drew W' → Calls Try.prog 10 #[.int .u64 (k0.toNat : Int), .int .u64 0, .slice (some ⟨g2, 0, none⟩) (n + 1) (n + 1)] W' fun e w' => e = .returned (.int .u64 ((sipSum k0 0 (List.replicate (n + 1) 0)).toNat : Int)) ∧ Below W'.heap.size W' w' := by
    intro W' h
    have := refSum_any k0 0 (some ⟨g2, 0, none⟩) (List.replicate (n + 1) 0) (n + 1) W' (by simp; omega) (hb2.below (Nat.le_refl _) h)
    rw [List.length_replicate] at this
    exact this
  have hFb : ∀ W' g, Below W5.drew.heap.size W5.drew W' → W'.cell? ⟨g, 0, none⟩ = some (.slice (some ⟨g1, 0, none⟩) n n) → Calls Try.prog 12 #[.slice (some ⟨g, 0, none⟩) 1 1] W' (MadeBytes (frameL [List.replicate n 0]) W') :=
    fun W' g h hc => frame_one _ n g W' (by omega) (hb1.below (Nat.le_refl _) h) (by simp) hc
  have hFc : ∀ W' g, Below W5.drew.heap.size W5.drew W' → W'.cell? ⟨g, 0, none⟩ = some (.slice (some ⟨g2, 0, none⟩) (n + 1) (n + 1)) → Calls Try.prog 12 #[.slice (some ⟨g, 0, none⟩) 1 1] W' (MadeBytes (frameL [List.replicate (n + 1) 0]) W') :=
    fun W' g h hc => frame_one _ (n + 1) g W' (by omega) (hb2.below (Nat.le_refl _) h) (by simp) hc
  obtain ⟨p, hp⟩ : ∃ p : Nat, p = 2 * n := ⟨_, rfl⟩
  obtain ⟨m, hm⟩ : ∃ m : Nat, m = 2 * n + 17 := ⟨_, rfl⟩
  have e1 : IntKind.i64.wrap (2 * (n : Int)) = (p : Int) := by rw [IntWalk.i64_in _ (by omega)]; omega
  have e2 : IntKind.i64.wrap ((p : Int) + 17) = (m : Int) := by rw [IntWalk.i64_in _ (by omega)]; omega
  have hFd : ∀ W', Below W5.drew.heap.size W5.drew W' → Calls Try.prog 12 #[.slice (some ⟨W'.heap.size, 0, none⟩) 2 2] (W'.alloc (.cells #[.slice (some ⟨g1, 0, none⟩) n n, .slice (some ⟨g2, 0, none⟩) (n + 1) (n + 1)] 23)) fun e w' => (∃ (a : Option Addr) (c : Nat), e = .returned (.slice a m c)) ∧ Below (W'.alloc (.cells #[.slice (some ⟨g1, 0, none⟩) n n, .slice (some ⟨g2, 0, none⟩) (n + 1) (n + 1)] 23)).heap.size (W'.alloc (.cells #[.slice (some ⟨g1, 0, none⟩) n n, .slice (some ⟨g2, 0, none⟩) (n + 1) (n + 1)] 23)) w' :=
    fun W' h => by
      rw [hm]
      exact frame_two _ _ n _ _ (by omega) ((hb1.below (Nat.le_refl _) h).below (Nat.le_refl _) ((Below.refl _ W').alloc (Nat.le_refl _) _)) ((hb2.below (Nat.le_refl _) h).below (Nat.le_refl _) ((Below.refl _ W').alloc (Nat.le_refl _) _)) (by simp) (by simp) (by rw [Lib.cell_of_heap (heap_alloc_new W' _)]; rfl) (by rw [Lib.cell_of_heap (heap_alloc_new W' _)]; rfl)
  have hFb1 := fun W' (h : Below W5.drew.heap.size W5.drew W') => hFb (W'.alloc (.cells #[.slice (some ⟨g1, 0, none⟩) n n] 23)) W'.heap.size (link h ((Below.refl _ W').alloc (Nat.le_refl _) _)) (cell_new1 W' _ _)
  have hFb2 := fun W' (h : Below W5.drew.heap.size W5.drew W') => hFb ((W'.alloc (.cells #[.slice (some ⟨g1, 0, none⟩) n n] 23)).alloc (.cells #[.slice (some ⟨g2, 0, none⟩) (n + 1) (n + 1)] 23)) W'.heap.size (link h (link ((Below.refl _ W').alloc (Nat.le_refl _) _) ((Below.refl _ (W'.alloc (.cells #[.slice (some ⟨g1, 0, none⟩) n n] 23))).alloc (Nat.le_refl _) _))) (cell_old1 W' _ _ _)
  have hFb3 := fun W' (h : Below W5.drew.heap.size W5.drew W') => hFb ((W'.alloc (.cells #[.slice (some ⟨g2, 0, none⟩) (n + 1) (n + 1)] 23)).alloc (.cells #[.slice (some ⟨g1, 0, none⟩) n n] 23)) (W'.heap.size + 1) (link h (link ((Below.refl _ W').alloc (Nat.le_refl _) _) ((Below.refl _ (W'.alloc (.cells #[.slice (some ⟨g2, 0, none⟩) (n + 1) (n + 1)] 23))).alloc (Nat.le_refl _) _))) (cell_new2 W' _ _ _)
  have hFc1 := fun W' (h : Below W5.drew.heap.size W5.drew W') => hFc (W'.alloc (.cells #[.slice (some ⟨g2, 0, none⟩) (n + 1) (n + 1)] 23)) W'.heap.size (link h ((Below.refl _ W').alloc (Nat.le_refl _) _)) (cell_new1 W' _ _)
  obtain ⟨tB, htB⟩ : ∃ s : ByteArray, (⟨(frameL [List.replicate n 0]).toArray⟩ : ByteArray) = s := ⟨_, rfl⟩
  obtain ⟨tC, htC⟩ : ∃ s : ByteArray, (⟨(frameL [List.replicate (n + 1) 0]).toArray⟩ : ByteArray) = s := ⟨_, rfl⟩
  have htn : (tB.toList == tC.toList) = false := by
    rw [← htB, ← htC, ByteArray.toList_mk, ByteArray.toList_mk, beq_eq_false_iff_ne]
    intro h
    have := congrArg List.length h
    simp [frameL, lenB_length] at this
  replace htB := Lib.hid htB
  replace htC := Lib.hid htC
  generalize sipSum k0 0 (List.replicate n 0) = sb at hSb hRb
  generalize sipSum k0 0 (List.replicate (n + 1) 0) = sc at hSc hRc
  have s1 := Lib.hid (hSb W5.drew (Below.refl _ _))
  replace hRb := Lib.hid hRb
  replace hSc := Lib.hid hSc
  replace hRc := Lib.hid hRc
  replace hFb1 := Lib.hid hFb1
  replace hFb2 := Lib.hid hFb2
  replace hFb3 := Lib.hid hFb3
  replace hFc1 := Lib.hid hFc1
  replace hFc := Lib.hid hFc
  replace hFd := Lib.hid hFd
  clear hSb hFb hb1 hb2 hdr hp hm hn
  go_region_with (first
    | (go_at_call 9; go_fit s1.out; rintro e w20 ⟨rfl, b20⟩; have s2 := Lib.hid (hRb.out w20 b20); clear s1; replace b20 := Lib.hid b20)
    | (go_at_call 10; go_fit s2.out; rintro e w23 ⟨rfl, b23⟩; have c23 := link b20.out b23; have s3 := Lib.hid (hSc.out w23 c23); clear s2 b20 b23; replace c23 := Lib.hid c23)
    | (go_at_call 9; go_fit s3.out; rintro e w28 ⟨rfl, b28⟩; have c28 := link c23.out b28; have s4 := Lib.hid (hRc.out w28 c28); clear s3 c23 b28; replace c28 := Lib.hid c28)
    | (go_at_call 10; go_fit s4.out; rintro e w31 ⟨rfl, b31⟩; have c31 := link c28.out b31; have F1 := Lib.hid (hFb1.out w31 c31); have F2 := Lib.hid (hFb2.out w31 c31); have F3 := Lib.hid (hFb3.out w31 c31); clear s4 c28 b31; replace c31 := Lib.hid c31)
    | (go_at_call 12; go_fit F1.out; rintro e w37 ⟨a3, c3, rfl, hn3, -, hb3, b37, -⟩; have c37 := link c31.out (link ((Below.refl w31.heap.size w31).alloc (Nat.le_refl _) _) b37); have v3 := Lib.hid (fun W' (h : Below w37.heap.size w37 W') => conv_as (hb3.below (Nat.le_refl _) h) hn3 tB htB.out); have x1 := v3.out w37 (Below.refl _ _); have x2 := v3.out (w37.alloc (.cells #[.slice (some ⟨g2, 0, none⟩) (n + 1) (n + 1)] 23)) ((Below.refl _ w37).alloc (Nat.le_refl _) _); have G := Lib.hid (hFc1.out w37 c37); clear F1 F2 F3 c31 b37 hb3 hn3; replace c37 := Lib.hid c37)
    | (go_at_call 12; go_fit F2.out; rintro e w37 ⟨a3, c3, rfl, hn3, -, hb3, b37, -⟩; have c37 := link c31.out (link ((Below.refl w31.heap.size w31).alloc (Nat.le_refl _) _) (link ((Below.refl _ (w31.alloc (.cells #[.slice (some ⟨g1, 0, none⟩) n n] 23))).alloc (Nat.le_refl _) _) b37)); have v3 := Lib.hid (fun W' (h : Below w37.heap.size w37 W') => conv_as (hb3.below (Nat.le_refl _) h) hn3 tB htB.out); have x1 := v3.out w37 (Below.refl _ _); have G := Lib.hid (hFc.out w37 (w31.heap.size + 1) c37 (cell_kept2 w31 _ _ w37 b37)); clear F1 F2 F3 c31 b37 hb3 hn3; replace c37 := Lib.hid c37)
    | (go_at_call 12; go_fit F3.out; rintro e w37 ⟨a3, c3, rfl, hn3, -, hb3, b37, -⟩; have c37 := link c31.out (link ((Below.refl w31.heap.size w31).alloc (Nat.le_refl _) _) (link ((Below.refl _ (w31.alloc (.cells #[.slice (some ⟨g2, 0, none⟩) (n + 1) (n + 1)] 23))).alloc (Nat.le_refl _) _) b37)); have v3 := Lib.hid (fun W' (h : Below w37.heap.size w37 W') => conv_as (hb3.below (Nat.le_refl _) h) hn3 tB htB.out); have x1 := v3.out w37 (Below.refl _ _); have G := Lib.hid (hFc.out w37 w31.heap.size c37 (cell_kept1 w31 _ _ w37 b37)); clear F1 F2 F3 c31 b37 hb3 hn3; replace c37 := Lib.hid c37)
    | (go_at_call 12; go_fit G.out; rintro e w41 ⟨a4, c4, rfl, hn4, -, hb4, b41, -⟩; have d41 : Below w37.heap.size w37 w41 := (by first | exact b41 | exact link ((Below.refl w37.heap.size w37).alloc (Nat.le_refl _) _) b41); have c41 := link c37.out d41; have y3 := v3.out w41 d41; have y4 := conv_as hb4 hn4 tC htC.out; have H := Lib.hid (hFd.out w41 c41); clear G v3 c37 b41 d41 hb4 hn4; replace c41 := Lib.hid c41; go_wp2; (first | (refine wpAny_ready (rs := [24]) (by kernel_rfl) (by simp) ?_; refine AllReady.cons rfl (fun K hK => ?_) AllReady.nil; go_simp; refine hK _ _ ?_; clear hK K; refine wpAny_ready (rs := [25]) (by kernel_rfl) (by simp) ?_; refine AllReady.cons rfl (fun K hK => ?_) AllReady.nil; go_simp; refine hK _ _ ?_; clear hK K) | ((apply cut_way; focus (intro hS; refine wpAny_ready (rs := [20, 24]) (by kernel_rfl) (by simp) ?_; refine AllReady.cons rfl (fun K hK => ?_) (AllReady.cons rfl (fun K hK => ?_) AllReady.nil); (focus (go_simp; refine hK _ _ ?_; clear hK K; refine wpAny_ready (rs := [24]) (by kernel_rfl) (by simp) ?_; refine AllReady.cons rfl (fun K hK => ?_) AllReady.nil; go_simp; refine hK _ _ ?_; clear hK K; exact hS)); (focus (go_simp; refine hK _ _ ?_; clear hK K; refine wpAny_ready (rs := [20]) (by kernel_rfl) (by simp) ?_; refine AllReady.cons rfl (fun K hK => ?_) AllReady.nil; go_simp; refine hK _ _ ?_; clear hK K; exact wpAny_same hS (by kernel_rfl) rfl)))); refine wpAny_ready (rs := [25]) (by kernel_rfl) (by simp) ?_; refine AllReady.cons rfl (fun K hK => ?_) AllReady.nil; go_simp; refine hK _ _ ?_; clear hK K)); refine wpAny_ready (rs := [26]) (by kernel_rfl) (by simp) ?_; refine AllReady.cons rfl (fun K hK => ?_) AllReady.nil; go_simp; refine hK _ _ ?_; clear hK K; refine wpAny_ready (rs := [27]) (by kernel_rfl) (by simp) ?_; refine AllReady.cons rfl (fun K hK => ?_) AllReady.nil; go_simp; refine hK _ _ ?_; clear hK K; refine wpAny_take (i := 28) (v := .slice (some ⟨g1, 0, none⟩) n n) rfl (by kernel_rfl) (by kernel_rfl) (by kernel_rfl) (fun _ _ _ h => h) (Or.inl ⟨by kernel_rfl, fun w => by go_simp⟩) ?_; refine wpAny_take (i := 29) (v := .slice (some ⟨g2, 0, none⟩) (n + 1) (n + 1)) rfl (by kernel_rfl) (by kernel_rfl) (by kernel_rfl) (fun _ _ _ h => h) (Or.inl ⟨by kernel_rfl, fun w => by go_simp⟩) ?_; refine wpAny_take (i := 33) (v := .int .i64 (n : Int)) rfl (by kernel_rfl) (by kernel_rfl) (by kernel_rfl) (fun _ _ _ h => h) (Or.inl ⟨by kernel_rfl, fun w => by go_simp⟩) ?_; refine wpAny_take (i := 34) (v := .int .i64 (p : Int)) rfl (by kernel_rfl) (by kernel_rfl) (by kernel_rfl) (fun _ _ _ h => h) (Or.inl ⟨by kernel_rfl, fun w => by go_simp⟩) ?_; refine wpAny_take (i := 35) (v := .int .i64 (m : Int)) rfl (by kernel_rfl) (by kernel_rfl) (by kernel_rfl) (fun _ _ _ h => h) (Or.inl ⟨by kernel_rfl, fun w => by go_simp⟩) ?_)
    | (go_at_call 12; go_fit H.out; rintro e w49 ⟨⟨a5, c5, rfl⟩, b49⟩; have hend := Lib.hid (link B5.out (link c41.out (link ((Below.refl w41.heap.size w41).alloc (Nat.le_refl _) _) b49))); clear H c41 b49))
  all_goals (go_wp2; go_ret; exact ⟨rfl, hend.out⟩)
end Go.Proofs.Ytiomdikompodfaa
