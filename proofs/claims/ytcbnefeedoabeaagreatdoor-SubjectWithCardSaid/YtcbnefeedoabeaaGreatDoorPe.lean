/- Contracts of package subject's Check and of what it calls. Contracts of the document's answer for Check and of what it calls. -/
import Derived.Test.YtcbnefeedoabeaaGreatDoorPa
import Derived.Test.YtcbnefeedoabeaaGreatDoorPc
import Derived.Test.YtcbnefeedoabeaaGreatDoorPb
import Derived.Test.YtcbnefeedoabeaaGreatDoorPd
import Derived.BigRegion
import Derived.Deep.RegionWith
import Derived.Deep.DeepFit
import Derived.BigQuiet
/- Contracts of package subject's Check and of what it calls. -/
namespace Go.Proofs.YtcbnefeedoabeaaGreatDoor
open Go Go.RowKit

set_option maxHeartbeats 4000000 in
theorem isName_any (s : ByteArray) (w : World) (hs : s.size ≤ 9223372036854775807) (E : Env w) :
    Calls Tryz.prog 42 #[.string s] w fun e w' => e = .returned (.bool (nameB s)) ∧ Below w.heap.size w w' := by
  have hk := key_any words words_len s w hs E.res
  have hn : nameB s = (keyB words s && !(s.toList == [107, 101, 121])) := rfl
  rw [hn]
  cases h1 : keyB words s with
  | false =>
    rw [h1] at hk
    replace h1 := Lib.hid h1
    replace hk := Lib.hid hk
    rw [Bool.false_and]
    go_enter Tryz.func42, Tryz.ntmps42
    go_wp2_with (go_at_call 79; refine hk.out.mono ?_; rintro e w1 ⟨rfl, hb1⟩)
    go_ret
    exact ⟨rfl, hb1⟩
  | true =>
    rw [h1] at hk
    replace h1 := Lib.hid h1
    replace hk := Lib.hid hk
    rw [Bool.true_and]
    cases h2 : (s.toList == [107, 101, 121]) with
    | false =>
      go_enter Tryz.func42, Tryz.ntmps42
      go_wp2_with (go_at_call 79; refine hk.out.mono ?_; rintro e w1 ⟨rfl, hb1⟩)
      go_ret
      exact ⟨rfl, hb1⟩
    | true =>
      go_enter Tryz.func42, Tryz.ntmps42
      go_wp2_with (go_at_call 79; refine hk.out.mono ?_; rintro e w1 ⟨rfl, hb1⟩)
      go_ret
      exact ⟨rfl, hb1⟩
set_option maxHeartbeats 8000000 in
theorem checkAttributes_any {P : Nat → Prop} (a0 : Option Addr) (cp : Nat) (l : List Attr) (w : World) (E : Env w) (hA : AttrsP P a0 cp l w) (hF : ∀ a ∈ l, FitA a) (hl : l.length ≤ 9223372036854775000) :
    Calls Tryz.prog 111 #[.slice a0 (l.length : Nat) cp] w fun e w' => e = .returned (.int .i64 (attrsE l)) ∧ Below w.heap.size w w' := by
  by_cases h20 : 20 < l.length
  · have he : attrsE l = 5 := if_pos h20
    rw [he]
    go_enter Tryz.func111, Tryz.ntmps111
    go_wp2
    go_ret
    exact ⟨rfl, Below.refl _ _⟩
  · have he : attrsGo (prevN l 0) (l.drop 0) = attrsE l := (if_neg h20).symm
    generalize attrsE l = r at he ⊢
    replace he := Lib.hid he
    go_enter Tryz.func111, Tryz.ntmps111
    go_wp2
    go_loopw [3, 12] (fun p i wr => ∃ n : Nat, n ≤ l.length ∧ i = .int .i64 n ∧ p = .string (prevN l n) ∧ Hid (attrsGo (prevN l n) (l.drop n) = r) ∧ Below w.heap.size w wr) (fun _ i _ => l.length - (intOf i).toNat)
    case atStart => exact ⟨0, Nat.zero_le _, rfl, rfl, he, Below.refl _ _⟩
    case round =>
      obtain ⟨n, hn, rfl, rfl, hv, hbl⟩ := hrel
      by_cases hlt : n < l.length
      · obtain ⟨b, off, rfl, hP, hbk, hat⟩ := hA.at_ n hlt
        have hat2 := hat.same (SameB.of_below (P := P) hbl) hP hbk
        have hFa := hF l[n] (List.getElem_mem hlt)
        have hv2 := hv.out
        rw [attrsGo_at l n hlt] at hv2
        replace hv2 := Lib.hid hv2
        have hpn := prevN_succ l n hlt
        obtain ⟨q0, q1, q2, q3, pp, cc, q4, q5⟩ := hat2
        have hlt' : (n : Int) < (l.length : Int) := by omega
        have Er := E.below hbl
        obtain ⟨nx, hnx⟩ : ∃ nx, prevN l (n + 1) = nx := ⟨_, rfl⟩
        rw [hnx] at hpn
        have hv3 := hv2.out
        rw [hnx] at hv3
        have hfin : nx = prevN l (n + 1) := hnx.symm
        replace hfin := Lib.hid hfin
        clear hnx hv2 hv hat
        replace hv3 := Lib.hid hv3
        generalize prevN l n = pv at hv3 ⊢
        obtain ⟨a, ha⟩ : ∃ a, l[n] = a := ⟨_, rfl⟩
        rw [ha] at q0 q1 q2 q3 q4 q5 hFa hv3 hpn
        replace ha := Lib.hid ha
        obtain ⟨nm, k, m, t, ls⟩ := a
        obtain ⟨f1, f2, f3, f4⟩ := hFa
        simp only at q0 q1 q2 q3 q4 q5 hv3 hpn f1 f2 f3 f4
        subst hpn
        have hcn := Lib.hid (fun W (h : Env W) => isName_any nx W (by omega) h)
        have hcv := Lib.hid (fun W (h : Env W) (h2 : TextsAre pp ls W) => check_any ⟨k, m, t, ls⟩ pp cc W (by simp only; omega) (by simp only; omega) (fun s hs => by have := f4 s hs; omega) h.tabs h2)
        have q6 := q5.texts.are
        unfold Val.agg at hcv
        simp only at hcv
        cases hnb : nameB nx with
        | false =>
          have hv4 := hv3.out
          rw [if_neg (by rw [hnb]; simp)] at hv4
          subst hv4
          rw [hnb] at hcn
          replace hnb := Lib.hid hnb
          replace hv3 := Lib.hid hv3
          clear hcv
          go_wp2_with (go_at_call 42; refine (hcn.out _ (Er.below ((Below.refl _ wr).alloc (Nat.le_refl _) _))).mono ?_; rintro e w1 ⟨rfl, hb1⟩)
          go_ret
          exact ⟨rfl, (hbl.alloc hbl.size _).trans (hb1.mono (by simp; have := hbl.size; omega))⟩
        | true =>
          have hv4 := hv3.out
          rw [if_pos hnb] at hv4
          rw [hnb] at hcn
          replace hnb := Lib.hid hnb
          replace hv3 := Lib.hid hv3
          cases hle : leqT nx pv with
          | true =>
            rw [if_pos hle] at hv4
            subst hv4
            have hle' : (Op.bytesLess nx.toList pv.toList || nx.toList == pv.toList) = true := hle
            replace hle := Lib.hid hle
            clear hcv
            go_wp2_with (go_at_call 42; refine (hcn.out _ (Er.below ((Below.refl _ wr).alloc (Nat.le_refl _) _))).mono ?_; rintro e w1 ⟨rfl, hb1⟩; have hz1 := box_heap hb1; have hw1 := box_below hbl hbl.size hb1; have b0 : w1.cell? ⟨wr.heap.size, 0, none⟩ = some (.string nx) := (by rw [Lib.cell_of_heap hz1]; rfl))
            go_ret
            exact ⟨rfl, hw1⟩
          | false =>
            rw [if_neg (by rw [hle]; simp)] at hv4
            have hle' : (Op.bytesLess nx.toList pv.toList || nx.toList == pv.toList) = false := hle
            replace hle := Lib.hid hle
            by_cases hc : checkE ⟨k, m, t, ls⟩ = 0
            · rw [if_pos hc] at hv4
              rw [hc] at hcv
              replace hc := Lib.hid hc
              replace hv4 := Lib.hid hv4
              go_wp2_with (first | (go_at_call 42; refine (hcn.out _ (Er.below ((Below.refl _ wr).alloc (Nat.le_refl _) _))).mono ?_; rintro e w1 ⟨rfl, hb1⟩; have hz1 := box_heap hb1; have hw1 := box_below hbl hbl.size hb1; have b0 : w1.cell? ⟨wr.heap.size, 0, none⟩ = some (.string nx) := (by rw [Lib.cell_of_heap hz1]; rfl); have b1 : w1.cell? ⟨wr.heap.size, 1, none⟩ = some (.int .i64 k) := (by rw [Lib.cell_of_heap hz1]; rfl); have b2 : w1.cell? ⟨wr.heap.size, 2, none⟩ = some (.int .i64 m) := (by rw [Lib.cell_of_heap hz1]; rfl); have b3 : w1.cell? ⟨wr.heap.size, 3, none⟩ = some (.string t) := (by rw [Lib.cell_of_heap hz1]; rfl); have b4 : w1.cell? ⟨wr.heap.size, 4, none⟩ = some (.slice pp ls.length cc) := (by rw [Lib.cell_of_heap hz1]; rfl)) | (go_at_call 43; refine (hcv.out w1 (E.below hw1) (q6.below (Nat.le_refl _) (box_below (Below.refl _ wr) (Nat.le_refl _) hb1))).mono ?_; rintro e w2 ⟨rfl, hb2⟩; have b0' := (hb2.block wr.heap.size (Array.getElem?_eq_some_iff.1 hz1).1).trans hz1; have b00 : w2.cell? ⟨wr.heap.size, 0, none⟩ = some (.string nx) := (by rw [Lib.cell_of_heap b0']; rfl); have hw2 := hw1.trans (hb2.mono hw1.size)))
              go_roundw
              case rel => exact ⟨n + 1, by omega, by go_num, by rw [hfin.out], by rw [← hfin.out]; exact hv4, hw2⟩
              case measure => simp [intOf]; omega
            · rw [if_neg hc] at hv4
              rw [hv4] at hcv
              have hne : (r != 0) = true := by rw [← hv4]; simpa using hc
              replace hc := Lib.hid hc
              replace hv4 := Lib.hid hv4
              go_wp2_with (first | (go_at_call 42; refine (hcn.out _ (Er.below ((Below.refl _ wr).alloc (Nat.le_refl _) _))).mono ?_; rintro e w1 ⟨rfl, hb1⟩; have hz1 := box_heap hb1; have hw1 := box_below hbl hbl.size hb1; have b0 : w1.cell? ⟨wr.heap.size, 0, none⟩ = some (.string nx) := (by rw [Lib.cell_of_heap hz1]; rfl); have b1 : w1.cell? ⟨wr.heap.size, 1, none⟩ = some (.int .i64 k) := (by rw [Lib.cell_of_heap hz1]; rfl); have b2 : w1.cell? ⟨wr.heap.size, 2, none⟩ = some (.int .i64 m) := (by rw [Lib.cell_of_heap hz1]; rfl); have b3 : w1.cell? ⟨wr.heap.size, 3, none⟩ = some (.string t) := (by rw [Lib.cell_of_heap hz1]; rfl); have b4 : w1.cell? ⟨wr.heap.size, 4, none⟩ = some (.slice pp ls.length cc) := (by rw [Lib.cell_of_heap hz1]; rfl)) | (go_at_call 43; refine (hcv.out w1 (E.below hw1) (q6.below (Nat.le_refl _) (box_below (Below.refl _ wr) (Nat.le_refl _) hb1))).mono ?_; rintro e w2 ⟨rfl, hb2⟩; have b0' := (hb2.block wr.heap.size (Array.getElem?_eq_some_iff.1 hz1).1).trans hz1; have b00 : w2.cell? ⟨wr.heap.size, 0, none⟩ = some (.string nx) := (by rw [Lib.cell_of_heap b0']; rfl); have hw2 := hw1.trans (hb2.mono hw1.size)))
              go_ret
              exact ⟨rfl, hw2⟩
      · obtain rfl : n = l.length := by omega
        have hlt' : ¬ (l.length : Int) < (l.length : Int) := by omega
        have hr := hv.out
        rw [attrsGo_end _ _ _ (Nat.le_refl _)] at hr
        subst hr
        replace hv := Lib.hid hv
        go_wp2
        go_ret
        exact ⟨rfl, hbl⟩
set_option maxHeartbeats 8000000 in
theorem checkContext_any {P : Nat → Prop} (b : ByteArray) (x : Ctx) (p : Option Addr) (c : Nat) (w : World) (E : Env w) (hA : AttrsP P p c x.attrs w) (hF : FitC x) :
    Calls Tryz.prog 67 #[.string b, .agg #[.string x.kind, .string x.key, .slice p (x.attrs.length : Nat) c]] w fun e w' => e = .returned (.int .i64 (ctxE b x)) ∧ Below w.heap.size w w' := by
  obtain ⟨kd, ky, at_⟩ := x
  obtain ⟨f1, f2, f3, f4⟩ := hF
  simp only at f1 f2 f3 f4 hA ⊢
  have hv : ctxE b ⟨kd, ky, at_⟩ = if keyB words kd = true then (if leqT kd b = true then 9 else if ky.size = 0 ∨ validB ky = false then 2 else attrsE at_) else 6 := rfl
  generalize ctxE b ⟨kd, ky, at_⟩ = r at hv ⊢
  have hkey := Lib.hid (fun W (h : Env W) => key_any words words_len kd W (by omega) h.res)
  have hval := Lib.hid (fun W (h : Env W) => valid_any ky W (by omega) h.tabs)
  have hatt := Lib.hid (fun W (h : Env W) (h2 : AttrsP P p c at_ W) => checkAttributes_any p c at_ W h h2 f4 f3)
  have hb0 := (Below.refl w.heap.size w).alloc (Nat.le_refl _) (.cells #[.string kd, .string ky, .slice p (at_.length : Nat) c] 63)
  have E0 := E.below hb0
  cases h1 : keyB words kd with
  | false =>
    rw [if_neg (by rw [h1]; simp)] at hv
    subst hv
    rw [h1] at hkey
    replace h1 := Lib.hid h1
    go_enter Tryz.func67, Tryz.ntmps67
    go_wp2_with (go_at_call 79; refine (hkey.out _ E0).mono ?_; rintro e w1 ⟨rfl, hb1⟩; have hz1 := box_heap hb1; have hw1 := box_below (Below.refl w.heap.size w) (Nat.le_refl _) hb1; have b0 : w1.cell? ⟨w.heap.size, 0, none⟩ = some (.string kd) := (by rw [Lib.cell_of_heap hz1]; rfl); have b1 : w1.cell? ⟨w.heap.size, 1, none⟩ = some (.string ky) := (by rw [Lib.cell_of_heap hz1]; rfl))
    go_ret
    exact ⟨rfl, hw1⟩
  | true =>
    rw [if_pos h1] at hv
    rw [h1] at hkey
    replace h1 := Lib.hid h1
    cases h2 : leqT kd b with
    | true =>
      rw [if_pos h2] at hv
      subst hv
      have hle' : (Op.bytesLess kd.toList b.toList || kd.toList == b.toList) = true := h2
      replace h2 := Lib.hid h2
      go_enter Tryz.func67, Tryz.ntmps67
      go_wp2_with (go_at_call 79; refine (hkey.out _ E0).mono ?_; rintro e w1 ⟨rfl, hb1⟩; have hz1 := box_heap hb1; have hw1 := box_below (Below.refl w.heap.size w) (Nat.le_refl _) hb1; have b0 : w1.cell? ⟨w.heap.size, 0, none⟩ = some (.string kd) := (by rw [Lib.cell_of_heap hz1]; rfl); have b1 : w1.cell? ⟨w.heap.size, 1, none⟩ = some (.string ky) := (by rw [Lib.cell_of_heap hz1]; rfl))
      go_ret
      exact ⟨rfl, hw1⟩
    | false =>
      rw [if_neg (by rw [h2]; simp)] at hv
      have hle' : (Op.bytesLess kd.toList b.toList || kd.toList == b.toList) = false := h2
      replace h2 := Lib.hid h2
      by_cases h3 : ky.size = 0
      · rw [if_pos (.inl h3)] at hv
        subst hv
        obtain rfl := text_empty h3
        replace h3 := Lib.hid h3
        clear hval hatt
        go_enter Tryz.func67, Tryz.ntmps67
        go_wp2_with (go_at_call 79; refine (hkey.out _ E0).mono ?_; rintro e w1 ⟨rfl, hb1⟩; have hz1 := box_heap hb1; have hw1 := box_below (Below.refl w.heap.size w) (Nat.le_refl _) hb1; have b0 : w1.cell? ⟨w.heap.size, 0, none⟩ = some (.string kd) := (by rw [Lib.cell_of_heap hz1]; rfl); have b1 : w1.cell? ⟨w.heap.size, 1, none⟩ = some (.string ⟨#[]⟩) := (by rw [Lib.cell_of_heap hz1]; rfl))
        go_ret
        exact ⟨rfl, hw1⟩
      · have h4 := text_some h3
        cases h5 : validB ky with
        | false =>
          rw [if_pos (.inr h5)] at hv
          subst hv
          rw [h5] at hval
          replace h5 := Lib.hid h5
          replace h3 := Lib.hid h3
          go_enter Tryz.func67, Tryz.ntmps67
          go_wp2_with (first | (go_at_call 79; refine (hkey.out _ E0).mono ?_; rintro e w1 ⟨rfl, hb1⟩; have hz1 := box_heap hb1; have hw1 := box_below (Below.refl w.heap.size w) (Nat.le_refl _) hb1; have b0 : w1.cell? ⟨w.heap.size, 0, none⟩ = some (.string kd) := (by rw [Lib.cell_of_heap hz1]; rfl); have b1 : w1.cell? ⟨w.heap.size, 1, none⟩ = some (.string ky) := (by rw [Lib.cell_of_heap hz1]; rfl)) | (go_at_call 104; refine (hval.out _ (E.below hw1)).mono ?_; rintro e w2 ⟨rfl, hb2⟩; have hw2 := hw1.trans (hb2.mono hw1.size); have hz2 := (hb2.block w.heap.size (Array.getElem?_eq_some_iff.1 hz1).1).trans hz1; have c2 : w2.cell? ⟨w.heap.size, 2, none⟩ = some (.slice p at_.length c) := (by rw [Lib.cell_of_heap hz2]; rfl)))
          go_ret
          exact ⟨rfl, hw2⟩
        | true =>
          rw [if_neg (by rintro (h | h); exact h3 h; rw [h5] at h; cases h)] at hv
          rw [h5] at hval
          rw [← hv] at hatt
          replace h5 := Lib.hid h5
          replace h3 := Lib.hid h3
          replace hv := Lib.hid hv
          go_enter Tryz.func67, Tryz.ntmps67
          go_wp2_with (first | (go_at_call 79; refine (hkey.out _ E0).mono ?_; rintro e w1 ⟨rfl, hb1⟩; have hz1 := box_heap hb1; have hw1 := box_below (Below.refl w.heap.size w) (Nat.le_refl _) hb1; have b0 : w1.cell? ⟨w.heap.size, 0, none⟩ = some (.string kd) := (by rw [Lib.cell_of_heap hz1]; rfl); have b1 : w1.cell? ⟨w.heap.size, 1, none⟩ = some (.string ky) := (by rw [Lib.cell_of_heap hz1]; rfl)) | (go_at_call 104; refine (hval.out _ (E.below hw1)).mono ?_; rintro e w2 ⟨rfl, hb2⟩; have hw2 := hw1.trans (hb2.mono hw1.size); have hz2 := (hb2.block w.heap.size (Array.getElem?_eq_some_iff.1 hz1).1).trans hz1; have c2 : w2.cell? ⟨w.heap.size, 2, none⟩ = some (.slice p at_.length c) := (by rw [Lib.cell_of_heap hz2]; rfl)) | (go_at_call 111; refine (hatt.out _ (E.below hw2) (hA.same (SameB.of_below hw2))).mono ?_; rintro e w3 ⟨rfl, hb3⟩))
          go_ret
          exact ⟨rfl, hw2.trans (hb3.mono hw2.size)⟩
set_option maxHeartbeats 8000000 in
theorem check_subject {P : Nat → Prop} (a0 : Option Addr) (cp : Nat) (l : List Ctx) (w : World) (E : Env w) (hA : CtxsP P a0 cp l w) (hF : ∀ x ∈ l, FitC x) (hl : l.length ≤ 9223372036854775000) :
    Calls Tryz.prog 29 #[.agg #[.slice a0 (l.length : Nat) cp]] w fun e w' => e = .returned (.int .i64 (subjE l)) ∧ Below w.heap.size w w' := by
  have hb0 := (Below.refl w.heap.size w).alloc (Nat.le_refl _) (.cells #[.slice a0 (l.length : Nat) cp] 25)
  by_cases h4 : 4 < l.length
  · have he : subjE l = 5 := if_pos h4
    rw [he]
    replace hb0 := Lib.hid hb0
    go_enter Tryz.func29, Tryz.ntmps29
    go_wp2
    go_ret
    exact ⟨rfl, hb0.out⟩
  · have he : subjGo (prevK l 0) (l.drop 0) = subjE l := (if_neg h4).symm
    generalize subjE l = r at he ⊢
    replace he := Lib.hid he
    replace hb0 := Lib.hid hb0
    go_enter Tryz.func29, Tryz.ntmps29
    go_wp2
    go_loopw [3, 14] (fun p i wr => ∃ n : Nat, n ≤ l.length ∧ i = .int .i64 n ∧ p = .string (prevK l n) ∧ Hid (subjGo (prevK l n) (l.drop n) = r) ∧ Below w.heap.size w wr) (fun _ i _ => l.length - (intOf i).toNat)
    case atStart => exact ⟨0, Nat.zero_le _, rfl, rfl, he, hb0.out⟩
    case round =>
      obtain ⟨n, hn, rfl, rfl, hv, hbl⟩ := hrel
      by_cases hlt : n < l.length
      · obtain ⟨b, off, rfl, hP, hbk, hat⟩ := hA.at_ n hlt
        obtain ⟨q0, q1, pp, cc, q2, q5⟩ := hat.same (SameB.of_below (P := P) hbl) hP hbk
        have hFa := hF l[n] (List.getElem_mem hlt)
        have hv2 := hv.out
        rw [subjGo_at l n hlt] at hv2
        have hpn := prevK_succ l n hlt
        have hlt' : (n : Int) < (l.length : Int) := by omega
        have Er := E.below hbl
        obtain ⟨nx, hnx⟩ : ∃ nx, prevK l (n + 1) = nx := ⟨_, rfl⟩
        rw [hnx] at hpn hv2
        have hfin : nx = prevK l (n + 1) := hnx.symm
        replace hfin := Lib.hid hfin
        clear hnx hv hat
        generalize prevK l n = pv at hv2 ⊢
        obtain ⟨x, hx⟩ : ∃ x, l[n] = x := ⟨_, rfl⟩
        rw [hx] at q0 q1 q2 q5 hFa hv2 hpn
        replace hx := Lib.hid hx
        have hcc := Lib.hid (fun W (h : Env W) (h2 : AttrsP P pp cc x.attrs W) => checkContext_any pv x pp cc W h h2 hFa)
        obtain ⟨kd, ky, at_⟩ := x
        simp only at q0 q1 q2 q5 hcc hpn
        subst hpn
        generalize ctxE pv ⟨nx, ky, at_⟩ = r1 at hv2 hcc
        by_cases hc : r1 = 0
        · subst hc
          rw [if_pos rfl] at hv2
          replace hv2 := Lib.hid hv2
          go_wp2_with (go_at_call 67; refine (hcc.out _ (Er.below ((Below.refl _ wr).alloc (Nat.le_refl _) _)) (q5.same (SameB.of_below ((Below.refl _ wr).alloc (Nat.le_refl _) _)))).mono ?_; rintro e w1 ⟨rfl, hb1⟩; have hz1 := box_heap hb1; have hw1 := box_below hbl hbl.size hb1; have b0 : w1.cell? ⟨wr.heap.size, 0, none⟩ = some (.string nx) := (by rw [Lib.cell_of_heap hz1]; rfl))
          go_roundw
          case rel => exact ⟨n + 1, by omega, by go_num, by rw [hfin.out], by rw [← hfin.out]; exact hv2, hw1⟩
          case measure => simp [intOf]; omega
        · rw [if_neg hc] at hv2
          subst hv2
          have hne : (r1 != 0) = true := by simpa using hc
          replace hc := Lib.hid hc
          go_wp2_with (go_at_call 67; refine (hcc.out _ (Er.below ((Below.refl _ wr).alloc (Nat.le_refl _) _)) (q5.same (SameB.of_below ((Below.refl _ wr).alloc (Nat.le_refl _) _)))).mono ?_; rintro e w1 ⟨rfl, hb1⟩; have hz1 := box_heap hb1; have hw1 := box_below hbl hbl.size hb1; have b0 : w1.cell? ⟨wr.heap.size, 0, none⟩ = some (.string nx) := (by rw [Lib.cell_of_heap hz1]; rfl))
          go_ret
          exact ⟨rfl, hw1⟩
      · obtain rfl : n = l.length := by omega
        have hlt' : ¬ (l.length : Int) < (l.length : Int) := by omega
        have hr := hv.out
        rw [subjGo_end _ _ _ (Nat.le_refl _)] at hr
        subst hr
        replace hv := Lib.hid hv
        go_wp2
        go_ret
        exact ⟨rfl, hbl⟩
end Go.Proofs.YtcbnefeedoabeaaGreatDoor
/- Contracts of the document's answer for Check and of what it calls. -/
namespace Go.Proofs.YtcbnefeedoabeaaGreatDoor
open Go Go.RowKit

set_option maxHeartbeats 4000000 in
theorem refNamed_any (s : ByteArray) (w : World) (hs : s.size ≤ 9223372036854775807) :
    Calls Tryz.prog 47 #[.string s] w fun e w' => e = .returned (.bool (nameB s)) ∧ Below w.heap.size w w' := by
  have hk := refKey_any s w hs
  have hn : nameB s = (keyB words s && !(s.toList == [107, 101, 121])) := rfl
  rw [hn]
  cases h1 : keyB words s with
  | false =>
    rw [h1] at hk
    replace h1 := Lib.hid h1
    replace hk := Lib.hid hk
    rw [Bool.false_and]
    go_enter Tryz.func47, Tryz.ntmps47
    go_wp2_with (go_at_call 76; refine hk.out.mono ?_; rintro e w1 ⟨rfl, hb1⟩)
    go_ret
    exact ⟨rfl, hb1⟩
  | true =>
    rw [h1] at hk
    replace h1 := Lib.hid h1
    replace hk := Lib.hid hk
    rw [Bool.true_and]
    cases h2 : (s.toList == [107, 101, 121]) with
    | false =>
      go_enter Tryz.func47, Tryz.ntmps47
      go_wp2_with (go_at_call 76; refine hk.out.mono ?_; rintro e w1 ⟨rfl, hb1⟩)
      go_ret
      exact ⟨rfl, hb1⟩
    | true =>
      go_enter Tryz.func47, Tryz.ntmps47
      go_wp2_with (go_at_call 76; refine hk.out.mono ?_; rintro e w1 ⟨rfl, hb1⟩)
      go_ret
      exact ⟨rfl, hb1⟩
set_option maxHeartbeats 8000000 in
theorem refAttributes_any {P : Nat → Prop} (a0 : Option Addr) (cp : Nat) (l : List Attr) (w : World) (E : Env w) (hA : AttrsP P a0 cp l w) (hF : ∀ a ∈ l, FitA a) (hl : l.length ≤ 9223372036854775000) :
    Calls Tryz.prog 78 #[.slice a0 (l.length : Nat) cp] w fun e w' => e = .returned (.int .i64 (attrsE l)) ∧ Below w.heap.size w w' := by
  by_cases h20 : 20 < l.length
  · have he : attrsE l = 5 := if_pos h20
    rw [he]
    go_enter Tryz.func78, Tryz.ntmps78
    go_wp2
    go_ret
    exact ⟨rfl, Below.refl _ _⟩
  · have he : attrsGo (prevN l 0) (l.drop 0) = attrsE l := (if_neg h20).symm
    generalize attrsE l = r at he ⊢
    replace he := Lib.hid he
    go_enter Tryz.func78, Tryz.ntmps78
    go_wp2
    go_loopw [3] (fun i wr => ∃ n : Nat, n ≤ l.length ∧ i = .int .i64 n ∧ Hid (attrsGo (prevN l n) (l.drop n) = r) ∧ Below w.heap.size w wr) (fun i _ => l.length - (intOf i).toNat)
    case atStart => exact ⟨0, Nat.zero_le _, rfl, he, Below.refl _ _⟩
    case round =>
      obtain ⟨n, hn, rfl, hv, hbl⟩ := hrel
      by_cases hlt : n < l.length
      · obtain ⟨b, off, rfl, hP, hbk, hat⟩ := hA.at_ n hlt
        have hat2 := hat.same (SameB.of_below (P := P) hbl) hP hbk
        have hFa := hF l[n] (List.getElem_mem hlt)
        have hv2 := hv.out
        rw [attrsGo_at l n hlt] at hv2
        obtain ⟨q0, q1, q2, q3, pp, cc, q4, q5⟩ := hat2
        have hlt' : (n : Int) < (l.length : Int) := by omega
        have Er := E.below hbl
        have hbk2 : b < wr.heap.size := Nat.lt_of_lt_of_le hbk hbl.size
        -- the name ahead
        have hz : n ≠ 0 → wr.cell? ⟨b, off + (n - 1) * 5, none⟩ = some (.string (prevN l n)) := fun h0 => by
          obtain ⟨b', off', e', _, hbk', hat'⟩ := hA.at_ (n - 1) (by omega)
          cases e'
          have h1 := (hat'.same (SameB.of_below (P := P) hbl) hP hbk).c0
          have h2 := prevN_succ l (n - 1) (by omega)
          rw [show n - 1 + 1 = n by omega] at h2
          rw [h2]
          exact h1
        have hz0 : n = 0 → prevN l n = ByteArray.empty := fun h => by rw [h]; rfl
        replace hz := Lib.hid hz
        replace hz0 := Lib.hid hz0
        obtain ⟨q, hq⟩ : ∃ q, attrsGo (prevN l (n + 1)) (l.drop (n + 1)) = q := ⟨_, rfl⟩
        rw [hq] at hv2
        replace hv2 := Lib.hid hv2
        replace hq := Lib.hid hq
        clear hv hat
        generalize prevN l n = pv at hv2 hz hz0
        obtain ⟨a, ha⟩ : ∃ a, l[n] = a := ⟨_, rfl⟩
        rw [ha] at q0 q1 q2 q3 q4 q5 hFa hv2
        replace ha := Lib.hid ha
        obtain ⟨nx, k, m, t, ls⟩ := a
        obtain ⟨f1, f2, f3, f4⟩ := hFa
        simp only at q0 q1 q2 q3 q4 q5 hv2 f1 f2 f3 f4
        have hcn := Lib.hid (fun W => refNamed_any nx W (by omega))
        have hcv := Lib.hid (fun W (h : Env W) (h2 : TextsAre pp ls W) => refCheck_any ⟨k, m, t, ls⟩ pp cc W (by simp only; omega) (by simp only; omega) (fun s hs => by have := f4 s hs; omega) h.tabs h2)
        have q6 := q5.texts.are
        unfold Val.agg at hcv
        simp only at hcv
        cases hnb : nameB nx with
        | false =>
          have hv4 := hv2.out
          rw [if_neg (by rw [hnb]; simp)] at hv4
          subst hv4
          rw [hnb] at hcn
          replace hnb := Lib.hid hnb
          replace hv2 := Lib.hid hv2
          clear hcv
          go_wp2_with (go_at_call 47; refine (hcn.out _).mono ?_; rintro e w1 ⟨rfl, hb1⟩)
          go_ret
          exact ⟨rfl, hbl.trans (hb1.mono hbl.size)⟩
        | true =>
          have hv4 := hv2.out
          rw [if_pos hnb] at hv4
          rw [hnb] at hcn
          have hsz := nameB_size hnb
          replace hnb := Lib.hid hnb
          replace hv2 := Lib.hid hv2
          cases hle : leqT nx pv with
          | true =>
            rw [if_pos hle] at hv4
            subst hv4
            have hn0 : n ≠ 0 := fun h => by
              rw [hz0.out h, not_leqT_empty nx hsz.1] at hle
              cases hle
            have hle' : (Op.bytesLess nx.toList pv.toList || nx.toList == pv.toList) = true := hle
            replace hle := Lib.hid hle
            have hz1 := hz.out hn0
            obtain ⟨j, rfl⟩ : ∃ j, n = j + 1 := ⟨n - 1, by omega⟩
            rw [Nat.add_sub_cancel] at hz1
            clear hcv
            go_upto_region 8 with (go_at_call 47; refine (hcn.out _).mono ?_; rintro e w1 ⟨rfl, hb1⟩; have hw1 := hbl.trans (hb1.mono hbl.size); have c0 := (hb1.cell (p := ⟨b, off + (j + 1) * 5, none⟩) hbk2).trans q0; have c1 := (hb1.cell (p := ⟨b, off + j * 5, none⟩) hbk2).trans hz1)
            go_region
            all_goals
              go_wp2
              go_ret
              exact ⟨rfl, hw1.drew⟩
          | false =>
            rw [if_neg (by rw [hle]; simp)] at hv4
            have hle' : (Op.bytesLess nx.toList pv.toList || nx.toList == pv.toList) = false := hle
            replace hle := Lib.hid hle
            cases n with
            | zero =>
              clear hz hz0
              have ez : ((0 : Nat) : Int) = 0 := rfl
              rw [ez]
              rw [ez] at hlt'
              clear ez
              simp only [Nat.zero_mul, Nat.add_zero] at q0 q1 q2 q3 q4
              go_upto_region 8 with (go_at_call 47; refine (hcn.out _).mono ?_; rintro e w1 ⟨rfl, hb1⟩; have hw1 := hbl.trans (hb1.mono hbl.size); have c0 := (hb1.cell (p := ⟨b, off, none⟩) hbk2).trans q0)
              go_region
              all_goals
                have d1 : w1.drew.cell? ⟨b, off + 1, none⟩ = some (.int .i64 k) := (hb1.cell (p := ⟨b, off + 1, none⟩) hbk2).trans q1
                have d2 : w1.drew.cell? ⟨b, off + 2, none⟩ = some (.int .i64 m) := (hb1.cell (p := ⟨b, off + 2, none⟩) hbk2).trans q2
                have d3 : w1.drew.cell? ⟨b, off + 3, none⟩ = some (.string t) := (hb1.cell (p := ⟨b, off + 3, none⟩) hbk2).trans q3
                have d4 : w1.drew.cell? ⟨b, off + 4, none⟩ = some (.slice pp ls.length cc) := (hb1.cell (p := ⟨b, off + 4, none⟩) hbk2).trans q4
                have hx1 : Below wr.heap.size wr w1.drew := hb1.drew
                have hx0 : Below w.heap.size w w1.drew := hw1.drew
                clear hw1 hb1
                generalize w1.drew = w1 at d1 d2 d3 d4 hx1 hx0 ⊢
                by_cases hc : checkE ⟨k, m, t, ls⟩ = 0
                · rw [if_pos hc] at hv4
                  have hcv2 := hcv.out w1 (E.below hx0) (q6.below (Nat.le_refl _) hx1)
                  rw [hc] at hcv2
                  subst hv4
                  replace hc := Lib.hid hc
                  replace hcv2 := Lib.hid hcv2
                  go_wp2_with (go_at_call 48; refine hcv2.out.mono ?_; rintro e w2 ⟨rfl, hb2⟩)
                  go_roundw
                  case rel => exact ⟨0 + 1, by omega, by go_num, hq, hx0.trans (hb2.mono hx0.size)⟩
                  case measure => simp [intOf]; omega
                · rw [if_neg hc] at hv4
                  have hcv2 := hcv.out w1 (E.below hx0) (q6.below (Nat.le_refl _) hx1)
                  rw [hv4] at hcv2
                  have hne : (r != 0) = true := by rw [← hv4]; simpa using hc
                  replace hc := Lib.hid hc
                  replace hv4 := Lib.hid hv4
                  replace hcv2 := Lib.hid hcv2
                  go_wp2_with (go_at_call 48; refine hcv2.out.mono ?_; rintro e w2 ⟨rfl, hb2⟩)
                  go_ret
                  exact ⟨rfl, hx0.trans (hb2.mono hx0.size)⟩
            | succ j =>
              have hj' : (j : Int) + 1 < (l.length : Int) := by omega
              go_upto_region 8 with (go_at_call 47; refine (hcn.out _).mono ?_; rintro e w1 ⟨rfl, hb1⟩; have hw1 := hbl.trans (hb1.mono hbl.size); have c0 := (hb1.cell (p := ⟨b, off + (j + 1) * 5, none⟩) hbk2).trans q0; have c1 := (hb1.cell (p := ⟨b, off + j * 5, none⟩) hbk2).trans (hz.out (by omega)))
              go_region
              all_goals
                have d1 : w1.drew.cell? ⟨b, off + (j + 1) * 5 + 1, none⟩ = some (.int .i64 k) := (hb1.cell (p := ⟨b, off + (j + 1) * 5 + 1, none⟩) hbk2).trans q1
                have d2 : w1.drew.cell? ⟨b, off + (j + 1) * 5 + 2, none⟩ = some (.int .i64 m) := (hb1.cell (p := ⟨b, off + (j + 1) * 5 + 2, none⟩) hbk2).trans q2
                have d3 : w1.drew.cell? ⟨b, off + (j + 1) * 5 + 3, none⟩ = some (.string t) := (hb1.cell (p := ⟨b, off + (j + 1) * 5 + 3, none⟩) hbk2).trans q3
                have d4 : w1.drew.cell? ⟨b, off + (j + 1) * 5 + 4, none⟩ = some (.slice pp ls.length cc) := (hb1.cell (p := ⟨b, off + (j + 1) * 5 + 4, none⟩) hbk2).trans q4
                have hx1 : Below wr.heap.size wr w1.drew := hb1.drew
                have hx0 : Below w.heap.size w w1.drew := hw1.drew
                clear hw1 hb1
                generalize w1.drew = w1 at d1 d2 d3 d4 hx1 hx0 ⊢
                by_cases hc : checkE ⟨k, m, t, ls⟩ = 0
                · rw [if_pos hc] at hv4
                  have hcv2 := hcv.out w1 (E.below hx0) (q6.below (Nat.le_refl _) hx1)
                  rw [hc] at hcv2
                  subst hv4
                  replace hc := Lib.hid hc
                  replace hcv2 := Lib.hid hcv2
                  go_wp2_with (go_at_call 48; refine hcv2.out.mono ?_; rintro e w2 ⟨rfl, hb2⟩)
                  go_roundw
                  case rel => exact ⟨(j + 1) + 1, by omega, by go_num, hq, hx0.trans (hb2.mono hx0.size)⟩
                  case measure => simp [intOf]; omega
                · rw [if_neg hc] at hv4
                  have hcv2 := hcv.out w1 (E.below hx0) (q6.below (Nat.le_refl _) hx1)
                  rw [hv4] at hcv2
                  have hne : (r != 0) = true := by rw [← hv4]; simpa using hc
                  replace hc := Lib.hid hc
                  replace hv4 := Lib.hid hv4
                  replace hcv2 := Lib.hid hcv2
                  go_wp2_with (go_at_call 48; refine hcv2.out.mono ?_; rintro e w2 ⟨rfl, hb2⟩)
                  go_ret
                  exact ⟨rfl, hx0.trans (hb2.mono hx0.size)⟩
      · obtain rfl : n = l.length := by omega
        have hlt' : ¬ (l.length : Int) < (l.length : Int) := by omega
        have hr := hv.out
        rw [attrsGo_end _ _ _ (Nat.le_refl _)] at hr
        subst hr
        replace hv := Lib.hid hv
        go_wp2
        go_ret
        exact ⟨rfl, hbl⟩
set_option maxHeartbeats 8000000 in
theorem refCheck_subject {P : Nat → Prop} (a0 : Option Addr) (cp : Nat) (l : List Ctx) (w : World) (E : Env w) (hA : CtxsP P a0 cp l w) (hF : ∀ x ∈ l, FitC x) (hl : l.length ≤ 9223372036854775000) :
    Calls Tryz.prog 39 #[.agg #[.slice a0 (l.length : Nat) cp]] w fun e w' => e = .returned (.int .i64 (subjE l)) ∧ Below w.heap.size w w' := by
  have hb0 := (Below.refl w.heap.size w).alloc (Nat.le_refl _) (.cells #[.slice a0 (l.length : Nat) cp] 25)
  by_cases h4 : 4 < l.length
  · have he : subjE l = 5 := if_pos h4
    rw [he]
    replace hb0 := Lib.hid hb0
    go_enter Tryz.func39, Tryz.ntmps39
    go_wp2
    go_ret
    exact ⟨rfl, hb0.out⟩
  · have he : subjGo (prevK l 0) (l.drop 0) = subjE l := (if_neg h4).symm
    generalize subjE l = r at he ⊢
    replace he := Lib.hid he
    have hz0 := heap_alloc_new w (.cells #[.slice a0 (l.length : Nat) cp] 25)
    replace hb0 := Lib.hid hb0
    have hsl : w.heap.size < (w.alloc (.cells #[.slice a0 (l.length : Nat) cp] 25)).heap.size := by simp
    go_enter Tryz.func39, Tryz.ntmps39
    go_wp2
    generalize w.alloc (.cells #[.slice a0 (l.length : Nat) cp] 25) = w0 at hz0 hb0 hsl ⊢
    go_loopw [3] (fun i wr => ∃ n : Nat, n ≤ l.length ∧ i = .int .i64 n ∧ Hid (subjGo (prevK l n) (l.drop n) = r) ∧ Below w0.heap.size w0 wr) (fun i _ => l.length - (intOf i).toNat)
    case atStart => exact ⟨0, Nat.zero_le _, rfl, he, Below.refl _ _⟩
    case round =>
      obtain ⟨n, hn, rfl, hv, hbl0⟩ := hrel
      have hbl : Below w.heap.size w wr := hb0.out.trans (hbl0.mono hb0.out.size)
      have hsz := (hbl0.block _ hsl).trans hz0
      have sc : wr.cell? ⟨w.heap.size, 0, none⟩ = some (.slice a0 l.length cp) := by rw [Lib.cell_of_heap hsz]; rfl
      have hsb : w.heap.size < wr.heap.size := (Array.getElem?_eq_some_iff.1 hsz).1
      replace hsz := Lib.hid hsz
      have hback : ∀ W, Below w.heap.size w W → Below w0.heap.size w0 wr → True := fun _ _ _ => trivial
      by_cases hlt : n < l.length
      · obtain ⟨b, off, rfl, hP, hbk, hat⟩ := hA.at_ n hlt
        obtain ⟨q0, q1, pp, cc, q2, q5⟩ := hat.same (SameB.of_below (P := P) hbl) hP hbk
        have hFa := hF l[n] (List.getElem_mem hlt)
        have hv2 := hv.out
        rw [subjGo_at l n hlt] at hv2
        have hlt' : (n : Int) < (l.length : Int) := by omega
        have Er := E.below hbl
        have hbk2 : b < wr.heap.size := Nat.lt_of_lt_of_le hbk hbl.size
        have hz : n ≠ 0 → wr.cell? ⟨b, off + (n - 1) * 3, none⟩ = some (.string (prevK l n)) := fun h0 => by
          obtain ⟨b', off', e', _, hbk', hat'⟩ := hA.at_ (n - 1) (by omega)
          cases e'
          have h1 := (hat'.same (SameB.of_below (P := P) hbl) hP hbk).c0
          have h2 := prevK_succ l (n - 1) (by omega)
          rw [show n - 1 + 1 = n by omega] at h2
          rw [h2]
          exact h1
        have hz0x : n = 0 → prevK l n = ByteArray.empty := fun h => by rw [h]; rfl
        replace hz := Lib.hid hz
        replace hz0x := Lib.hid hz0x
        obtain ⟨q, hq⟩ : ∃ q, subjGo (prevK l (n + 1)) (l.drop (n + 1)) = q := ⟨_, rfl⟩
        rw [hq] at hv2
        replace hq := Lib.hid hq
        clear hv hat hback
        generalize prevK l n = pv at hv2 hz hz0x
        obtain ⟨x, hx⟩ : ∃ x, l[n] = x := ⟨_, rfl⟩
        rw [hx] at q0 q1 q2 q5 hFa hv2
        replace hx := Lib.hid hx
        obtain ⟨nx, ky, at_⟩ := x
        obtain ⟨f1, f2, f3, f4⟩ := hFa
        simp only at q0 q1 q2 q5 f1 f2 f3 f4
        have hkey := Lib.hid (fun W => refKey_any nx W (by omega))
        have hval := Lib.hid (fun W (h : Env W) => refValid_any ky W (by omega) h.tabs)
        have hatt := Lib.hid (fun W (h : Env W) (h2 : AttrsP P pp cc at_ W) => refAttributes_any pp cc at_ W h h2 f4 f3)
        have hv3 : ctxE pv ⟨nx, ky, at_⟩ = if keyB words nx = true then (if leqT nx pv = true then 9 else if ky.size = 0 ∨ validB ky = false then 2 else attrsE at_) else 6 := rfl
        generalize ctxE pv ⟨nx, ky, at_⟩ = r1 at hv2 hv3
        cases h1 : keyB words nx with
        | false =>
          rw [if_neg (by rw [h1]; simp)] at hv3
          rw [hv3, if_neg (by decide)] at hv2
          subst hv2
          rw [h1] at hkey
          replace h1 := Lib.hid h1
          clear hval hatt
          go_wp2_with (go_at_call 76; refine (hkey.out _).mono ?_; rintro e w1 ⟨rfl, hb1⟩; have hz1 := box_heap hb1; have hw1 := box_below (Below.refl wr.heap.size wr) (Nat.le_refl _) hb1; have b0 : w1.cell? ⟨wr.heap.size, 0, none⟩ = some (.string nx) := (by rw [Lib.cell_of_heap hz1]; rfl); have s0 : w1.cell? ⟨w.heap.size, 0, none⟩ = some (.slice (some ⟨b, off, none⟩) l.length cp) := (hw1.cell (p := ⟨w.heap.size, 0, none⟩) hsb).trans sc)
          go_ret
          exact ⟨rfl, hbl.trans (hw1.mono hbl.size)⟩
        | true =>
          rw [if_pos h1] at hv3
          rw [h1] at hkey
          have hsz1 := keyB_size h1
          replace h1 := Lib.hid h1
          cases h2 : leqT nx pv with
          | true =>
            rw [if_pos h2] at hv3
            rw [hv3, if_neg (by decide)] at hv2
            subst hv2
            have hn0 : n ≠ 0 := fun h => by
              rw [hz0x.out h, not_leqT_empty nx hsz1.1] at h2
              cases h2
            have hle' : (Op.bytesLess nx.toList pv.toList || nx.toList == pv.toList) = true := h2
            replace h2 := Lib.hid h2
            have hz1x := hz.out hn0
            obtain ⟨j, rfl⟩ : ∃ j, n = j + 1 := ⟨n - 1, by omega⟩
            rw [Nat.add_sub_cancel] at hz1x
            clear hval hatt
            go_upto_region 9 with (go_at_call 76; refine (hkey.out _).mono ?_; rintro e w1 ⟨rfl, hb1⟩; have hz1 := box_heap hb1; have hw1 := box_below (Below.refl wr.heap.size wr) (Nat.le_refl _) hb1; have b0 : w1.cell? ⟨wr.heap.size, 0, none⟩ = some (.string nx) := (by rw [Lib.cell_of_heap hz1]; rfl); have s0 : w1.cell? ⟨w.heap.size, 0, none⟩ = some (.slice (some ⟨b, off, none⟩) l.length cp) := (hw1.cell (p := ⟨w.heap.size, 0, none⟩) hsb).trans sc; have p0 := (hw1.cell (p := ⟨b, off + j * 3, none⟩) hbk2).trans hz1x)
            go_region
            all_goals
              go_wp2
              go_ret
              exact ⟨rfl, hbl.trans (hw1.drew.mono hbl.size)⟩
          | false =>
            rw [if_neg (by rw [h2]; simp)] at hv3
            have hle' : (Op.bytesLess nx.toList pv.toList || nx.toList == pv.toList) = false := h2
            replace h2 := Lib.hid h2
            cases n with
            | zero =>
              clear hz hz0x
              have ez : ((0 : Nat) : Int) = 0 := rfl
              rw [ez]
              rw [ez] at hlt'
              clear ez
              simp only [Nat.zero_mul, Nat.add_zero] at q0 q1 q2
              go_upto_region 9 with (go_at_call 76; refine (hkey.out _).mono ?_; rintro e w1 ⟨rfl, hb1⟩; have hz1 := box_heap hb1; have hw1 := box_below (Below.refl wr.heap.size wr) (Nat.le_refl _) hb1; have b0 : w1.cell? ⟨wr.heap.size, 0, none⟩ = some (.string nx) := (by rw [Lib.cell_of_heap hz1]; rfl); have s0 : w1.cell? ⟨w.heap.size, 0, none⟩ = some (.slice (some ⟨b, off, none⟩) l.length cp) := (hw1.cell (p := ⟨w.heap.size, 0, none⟩) hsb).trans sc)
              go_region
              all_goals
                have hxz : w1.drew.heap[wr.heap.size]? = some (.cells #[.string nx, .string ky, .slice pp (at_.length : Nat) cc] 63 (0, 0)) := hz1
                have d1 : w1.drew.cell? ⟨wr.heap.size, 1, none⟩ = some (.string ky) := by rw [Lib.cell_of_heap hxz]; rfl
                have hx1 : Below wr.heap.size wr w1.drew := hw1.drew
                have hxl : wr.heap.size < w1.drew.heap.size := (Array.getElem?_eq_some_iff.1 hxz).1
                clear hw1 hb1 b0 hz1
                generalize w1.drew = w1 at d1 hxz hx1 hxl ⊢
                by_cases h3 : ky.size = 0
                · rw [if_pos (.inl h3)] at hv3
                  obtain rfl := text_empty h3
                  replace h3 := Lib.hid h3
                  rw [hv3] at hv2
                  rw [if_neg (by decide)] at hv2
                  subst hv2
                  go_wp2
                  go_ret
                  exact ⟨rfl, hbl.trans (hx1.mono hbl.size)⟩
                · have h4 := text_some h3
                  cases h5 : validB ky with
                  | false =>
                    rw [if_pos (.inr h5)] at hv3
                    rw [hv3, if_neg (by decide)] at hv2
                    subst hv2
                    rw [h5] at hval
                    replace h5 := Lib.hid h5
                    replace h3 := Lib.hid h3
                    go_wp2_with (go_at_call 77; refine (hval.out _ (Er.below hx1)).mono ?_; rintro e w2 ⟨rfl, hb2⟩; have hx2 := hx1.trans (hb2.mono hx1.size); have hz2 := (hb2.block wr.heap.size hxl).trans hxz; have e2 : w2.cell? ⟨wr.heap.size, 2, none⟩ = some (.slice pp at_.length cc) := (by rw [Lib.cell_of_heap hz2]; rfl))
                    go_ret
                    exact ⟨rfl, hbl.trans (hx2.mono hbl.size)⟩
                  | true =>
                    rw [if_neg (by rintro (h | h); exact h3 h; rw [h5] at h; cases h)] at hv3
                    rw [h5] at hval
                    rw [← hv3] at hatt
                    replace h5 := Lib.hid h5
                    replace h3 := Lib.hid h3
                    replace hv3 := Lib.hid hv3
                    by_cases hc : r1 = 0
                    · subst hc
                      rw [if_pos rfl] at hv2
                      subst hv2
                      go_wp2_with (first | (go_at_call 77; refine (hval.out _ (Er.below hx1)).mono ?_; rintro e w2 ⟨rfl, hb2⟩; have hx2 := hx1.trans (hb2.mono hx1.size); have hz2 := (hb2.block wr.heap.size hxl).trans hxz; have e2 : w2.cell? ⟨wr.heap.size, 2, none⟩ = some (.slice pp at_.length cc) := (by rw [Lib.cell_of_heap hz2]; rfl)) | (go_at_call 78; refine (hatt.out _ (Er.below hx2) (q5.same (SameB.of_below hx2))).mono ?_; rintro e w3 ⟨rfl, hb3⟩; have hx3 := hx2.trans (hb3.mono hx2.size)))
                      go_roundw
                      case rel => exact ⟨0 + 1, by omega, by go_num, hq, hbl0.trans (hx3.mono hbl0.size)⟩
                      case measure => simp [intOf]; omega
                    · rw [if_neg hc] at hv2
                      have hne : (r1 != 0) = true := by simpa using hc
                      subst hv2
                      replace hc := Lib.hid hc
                      go_wp2_with (first | (go_at_call 77; refine (hval.out _ (Er.below hx1)).mono ?_; rintro e w2 ⟨rfl, hb2⟩; have hx2 := hx1.trans (hb2.mono hx1.size); have hz2 := (hb2.block wr.heap.size hxl).trans hxz; have e2 : w2.cell? ⟨wr.heap.size, 2, none⟩ = some (.slice pp at_.length cc) := (by rw [Lib.cell_of_heap hz2]; rfl)) | (go_at_call 78; refine (hatt.out _ (Er.below hx2) (q5.same (SameB.of_below hx2))).mono ?_; rintro e w3 ⟨rfl, hb3⟩; have hx3 := hx2.trans (hb3.mono hx2.size)))
                      go_ret
                      exact ⟨rfl, hbl.trans (hx3.mono hbl.size)⟩
            | succ j =>
              have hj' : (j : Int) + 1 < (l.length : Int) := by omega
              have hz1x := hz.out (by omega)
              rw [Nat.add_sub_cancel] at hz1x
              go_upto_region 9 with (go_at_call 76; refine (hkey.out _).mono ?_; rintro e w1 ⟨rfl, hb1⟩; have hz1 := box_heap hb1; have hw1 := box_below (Below.refl wr.heap.size wr) (Nat.le_refl _) hb1; have b0 : w1.cell? ⟨wr.heap.size, 0, none⟩ = some (.string nx) := (by rw [Lib.cell_of_heap hz1]; rfl); have s0 : w1.cell? ⟨w.heap.size, 0, none⟩ = some (.slice (some ⟨b, off, none⟩) l.length cp) := (hw1.cell (p := ⟨w.heap.size, 0, none⟩) hsb).trans sc; have p0 := (hw1.cell (p := ⟨b, off + j * 3, none⟩) hbk2).trans hz1x)
              go_region
              all_goals
                have hxz : w1.drew.heap[wr.heap.size]? = some (.cells #[.string nx, .string ky, .slice pp (at_.length : Nat) cc] 63 (0, 0)) := hz1
                have d1 : w1.drew.cell? ⟨wr.heap.size, 1, none⟩ = some (.string ky) := by rw [Lib.cell_of_heap hxz]; rfl
                have hx1 : Below wr.heap.size wr w1.drew := hw1.drew
                have hxl : wr.heap.size < w1.drew.heap.size := (Array.getElem?_eq_some_iff.1 hxz).1
                clear hw1 hb1 b0 hz1
                generalize w1.drew = w1 at d1 hxz hx1 hxl ⊢
                by_cases h3 : ky.size = 0
                · rw [if_pos (.inl h3)] at hv3
                  obtain rfl := text_empty h3
                  replace h3 := Lib.hid h3
                  rw [hv3] at hv2
                  rw [if_neg (by decide)] at hv2
                  subst hv2
                  go_wp2
                  go_ret
                  exact ⟨rfl, hbl.trans (hx1.mono hbl.size)⟩
                · have h4 := text_some h3
                  cases h5 : validB ky with
                  | false =>
                    rw [if_pos (.inr h5)] at hv3
                    rw [hv3, if_neg (by decide)] at hv2
                    subst hv2
                    rw [h5] at hval
                    replace h5 := Lib.hid h5
                    replace h3 := Lib.hid h3
                    go_wp2_with (go_at_call 77; refine (hval.out _ (Er.below hx1)).mono ?_; rintro e w2 ⟨rfl, hb2⟩; have hx2 := hx1.trans (hb2.mono hx1.size); have hz2 := (hb2.block wr.heap.size hxl).trans hxz; have e2 : w2.cell? ⟨wr.heap.size, 2, none⟩ = some (.slice pp at_.length cc) := (by rw [Lib.cell_of_heap hz2]; rfl))
                    go_ret
                    exact ⟨rfl, hbl.trans (hx2.mono hbl.size)⟩
                  | true =>
                    rw [if_neg (by rintro (h | h); exact h3 h; rw [h5] at h; cases h)] at hv3
                    rw [h5] at hval
                    rw [← hv3] at hatt
                    replace h5 := Lib.hid h5
                    replace h3 := Lib.hid h3
                    replace hv3 := Lib.hid hv3
                    by_cases hc : r1 = 0
                    · subst hc
                      rw [if_pos rfl] at hv2
                      subst hv2
                      go_wp2_with (first | (go_at_call 77; refine (hval.out _ (Er.below hx1)).mono ?_; rintro e w2 ⟨rfl, hb2⟩; have hx2 := hx1.trans (hb2.mono hx1.size); have hz2 := (hb2.block wr.heap.size hxl).trans hxz; have e2 : w2.cell? ⟨wr.heap.size, 2, none⟩ = some (.slice pp at_.length cc) := (by rw [Lib.cell_of_heap hz2]; rfl)) | (go_at_call 78; refine (hatt.out _ (Er.below hx2) (q5.same (SameB.of_below hx2))).mono ?_; rintro e w3 ⟨rfl, hb3⟩; have hx3 := hx2.trans (hb3.mono hx2.size)))
                      go_roundw
                      case rel => exact ⟨(j + 1) + 1, by omega, by go_num, hq, hbl0.trans (hx3.mono hbl0.size)⟩
                      case measure => simp [intOf]; omega
                    · rw [if_neg hc] at hv2
                      have hne : (r1 != 0) = true := by simpa using hc
                      subst hv2
                      replace hc := Lib.hid hc
                      go_wp2_with (first | (go_at_call 77; refine (hval.out _ (Er.below hx1)).mono ?_; rintro e w2 ⟨rfl, hb2⟩; have hx2 := hx1.trans (hb2.mono hx1.size); have hz2 := (hb2.block wr.heap.size hxl).trans hxz; have e2 : w2.cell? ⟨wr.heap.size, 2, none⟩ = some (.slice pp at_.length cc) := (by rw [Lib.cell_of_heap hz2]; rfl)) | (go_at_call 78; refine (hatt.out _ (Er.below hx2) (q5.same (SameB.of_below hx2))).mono ?_; rintro e w3 ⟨rfl, hb3⟩; have hx3 := hx2.trans (hb3.mono hx2.size)))
                      go_ret
                      exact ⟨rfl, hbl.trans (hx3.mono hbl.size)⟩
      · obtain rfl : n = l.length := by omega
        have hlt' : ¬ (l.length : Int) < (l.length : Int) := by omega
        have hr := hv.out
        rw [subjGo_end _ _ _ (Nat.le_refl _)] at hr
        subst hr
        replace hv := Lib.hid hv
        go_wp2
        go_ret
        exact ⟨rfl, hbl⟩
end Go.Proofs.YtcbnefeedoabeaaGreatDoor
