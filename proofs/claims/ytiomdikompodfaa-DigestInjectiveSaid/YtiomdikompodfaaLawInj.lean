/- DigestInjective: for every two lists of fields, and the first one's bytes divided at any place, their frames are the same exactly if the lists are. -/
import Derived.Test.YtiomdikompodfaaInj
import Derived.Deep.RegionWith
import Derived.Deep.DrawnRows
import Derived.Deep.DeepFit
namespace Go.Proofs.Ytiomdikompodfaa
open Go Go.RowKit

attribute [local go_sem ↓] Go.wp_at_zero Go.wp_at_succ
set_option maxHeartbeats 16000000 in
set_option maxRecDepth 100000 in
theorem lawInj_walk (a0 b0 : Option Addr) (fa fb : List (List UInt8)) (ca cb : Nat) (z1 z2 : Int) (w : World) (hla : fa.length ≤ 9223372036854775807) (hlb : fb.length ≤ 9223372036854775807) (hca : fa.length ≤ ca) (hcb : fb.length ≤ cb)
    (ha : ∀ f ∈ fa, f.length ≤ 9223372036854775807) (hb : ∀ f ∈ fb, f.length ≤ 9223372036854775807) (hA : FieldsAre a0 fa w) (hB : FieldsAre b0 fb w) (hat : -9223372036854775808 ≤ z1 ∧ z1 ≤ 9223372036854775807) (hto : -9223372036854775808 ≤ z2 ∧ z2 ≤ 9223372036854775807) :
    Calls Try.prog 5 #[.slice a0 (fa.length : Nat) ca, .slice b0 (fb.length : Nat) cb, .int .i64 z1, .int .i64 z2] w fun e w' => e = .returned (.bool true) ∧ Below w.heap.size w w' := by
  have B := Below.refl w.heap.size w
  replace hat := Lib.hid hat
  replace hto := Lib.hid hto
  go_enter Try.func5, Try.ntmps5
  go_upto_region 3 with (go_at_call 8; refine (awake_any _).mono ?_; rintro e W ⟨rfl, hb0⟩; replace B := B.trans (hb0.mono B.size); clear hb0)
  have hA1 := hA.below (Nat.le_refl _) B
  have hB1 := hB.below (Nat.le_refl _) B
  have hcut1 := Lib.hid (cut_any a0 fa ca W hla hca hA1 ha)
  clear hA hB hA1
  go_upto_region 4 with (first | (go_at_call 11; with_reducible refine hcut1.out.mono ?_; rintro e W1 ⟨rfl, hF1, hb1⟩; replace hB1 := hB1.below (Nat.le_refl _) hb1; have hcut2 := Lib.hid (cut_any b0 fb cb W1 hlb hcb hB1 hb)) | (go_at_call 11; with_reducible refine hcut2.out.mono ?_; rintro e W2 ⟨rfl, hF2, hb2⟩))
  have hFA := hF1.below (Nat.le_refl _) hb2
  have B2 := B.trans ((hb1.mono B.size).trans (hb2.mono (Nat.le_trans B.size hb1.size)))
  have la := cutL_length fa
  have lb := cutL_length fb
  have ea := cutL_each fa
  have eb := cutL_each fb
  clear hF1 hB1 hcut1 hcut2 hb1 hb2 B hla hlb hca hcb ha hb
  generalize W1.heap.size = g1 at hF2 ⊢
  generalize W.heap.size = g0 at hFA ⊢
  generalize cutL fa = A at hFA la ea ⊢
  generalize cutL fb = C at hF2 lb eb ⊢
  go_upto_if 22 with (fail)
  go_cut [1, 9, 10, 11] (fun b _ _ _ wx => ∃ (D : List (List UInt8)) (aD : Option Addr) (cD : Nat), b = .slice aD (D.length : Nat) cD ∧ D.length ≤ cD ∧ D.length ≤ 1000 ∧ (∀ f ∈ D, f.length ≤ 100000) ∧ FieldsAre aD D wx ∧ FieldsAre (some ⟨g0, 0, none⟩) A wx ∧ Below w.heap.size w wx)
  case first =>
    by_cases hA0 : 0 < A.length
    case neg =>
      have hA0' : ¬ (0 : Int) < (A.length : Int) := by omega
      go_wp2
      go_meet
      case rel => exact ⟨C, _, _, rfl, Nat.le_refl _, by omega, fun f h => Nat.le_trans (eb f h) (by omega), hF2, hFA, B2⟩

    case pos =>
      have hA0' : (0 : Int) < (A.length : Int) := by omega
      rw [show decide (0 < A.length) = true from decide_eq_true hA0]
      have hnil := own_made W2.heap.size [] W2 (Nat.le_refl _) (by simp)
      have hbn := (Below.refl W2.heap.size W2).alloc (Nat.le_refl _) (.cells (Lib.byteCells []).toArray 5)
      simp only [Lib.byteCells, List.map_nil, List.length_nil] at hnil hbn
      go_wp2
      generalize W2.alloc (.cells #[] 5) = W3 at hnil hbn ⊢
      go_loopw [9, 10] (fun v i wr => ∃ n : Nat, n ≤ A.length ∧ i = .int .i64 n ∧ Own W2.heap.size v (A.take n).flatten wr ∧ Below W2.heap.size W2 wr) (fun _ i _ => A.length - (intOf i).toNat)
      case atStart => exact ⟨0, Nat.zero_le _, rfl, hnil, hbn⟩
      case round =>
        obtain ⟨n, hn, rfl, hown, hbl⟩ := hrel
        clear hnil hbn
        have hfl := flat_le (A.take n) (fun g hg => ea g (List.mem_of_mem_take hg))
        have hfl2 : (A.take n).flatten.length ≤ 6000 := by
          rw [List.length_take] at hfl
          omega
        clear hfl
        by_cases hlt : n < A.length
        case pos =>
          obtain ⟨b, off, a1, c1, he, hbk, hc, hnc, _, hby⟩ := hFA n hlt
          cases he
          have hm := ea A[n] (List.getElem_mem hlt)
          have hcw := hbl.cell (p := ⟨g0, 0 + n, none⟩) hbk
          rw [hc, Nat.zero_add] at hcw
          have hby2 := hby.below (Nat.le_refl _) hbl
          have hnx := Lib.hid (flat_take A n hlt)
          have hlt' : (n : Int) < (A.length : Int) := by omega
          have hsz := hbl.size
          replace hbl := Lib.hid hbl
          replace hc := Lib.hid hc
          generalize (A.take n).flatten = L at hown hfl2 hnx
          generalize A[n] = f at hm hby hby2 hcw hnx
          go_wp2_with (at_builtin; refine wpList_ownL rfl _ _ rfl f a1 c1 hown rfl rfl hnc hby2 (by omega) hsz ?_)
          intro v' w2 hown2 hb2
          go_wp2
          go_roundw
          case rel => exact ⟨n + 1, by omega, by go_num, by rw [hnx.out]; exact hown2, hbl.out.trans hb2⟩
          case measure => simp [intOf]; omega
        case neg =>
          obtain rfl : n = A.length := by omega
          rw [List.take_of_length_le (Nat.le_refl _)] at hown hfl2
          generalize A.flatten = L at hown hfl2
          have hlt' : ¬ (A.length : Int) < (A.length : Int) := by omega
          have hsz := hbl.size
          obtain ⟨k, hk, hke⟩ := place_of z1 L.length hfl2
          by_cases hz : z2.tmod 2 = 0
          case neg =>
            obtain ⟨aL, cL, rfl, -, -, -⟩ := hown.shape
            go_wp2
            go_meet
            case rel => exact ⟨C, _, _, rfl, Nat.le_refl _, by omega, fun f h => Nat.le_trans (eb f h) (by omega), hF2.below (Nat.le_refl _) hbl, hFA.below (Nat.le_refl _) hbl, B2.trans (hbl.mono B2.size)⟩
          case pos =>
            rcases hown.shape2 with ⟨rfl, rfl⟩ | ⟨g, c, rfl, hcc, hbb⟩
            case' inl =>
              obtain rfl : k = 0 := by simpa using hk
              go_upto_region 12 with (fail)
              go_region
              have hb9 := ((Below.refl wr.heap.size wr).alloc (Nat.le_refl _) (.cells #[.slice none 0 0, .slice none 0 0] 23)).drew
              have hF9 := (fields_made2 none none 0 0 0 0 [] [] wr rfl rfl (by simp) (by simp) (by simp) (by simp) (bytes_none _ _ _ rfl) (bytes_none _ _ _ rfl)).below (Nat.le_refl _) (Below.refl _ _).drew
              generalize (wr.alloc (.cells #[.slice none 0 0, .slice none 0 0] 23)).drew = wt at hb9 hF9 ⊢
              obtain ⟨D, hD⟩ : ∃ D : List (List UInt8), [[], []] = D := ⟨_, rfl⟩
              have eD : ∀ f ∈ D, f.length ≤ 100000 := by rw [← hD]; simp
            case' inr =>
              obtain ⟨N, hN⟩ : ∃ N, L.length = N := ⟨_, rfl⟩
              rw [hN] at hfl2 hcc hk hke ⊢
              go_upto_region 12 with (fail)
              go_region
              have hb9 := ((Below.refl wr.heap.size wr).alloc (Nat.le_refl _) (.cells #[.slice (some ⟨g, 0, none⟩) k c, .slice (if c = k then some ⟨g, 0, none⟩ else some ⟨g, k, none⟩) (N - k) (c - k)] 23)).drew
              have hd9 : BytesAre (if c = k then some ⟨g, 0, none⟩ else some ⟨g, k, none⟩) (L.drop k) wr := by
                split
                · exact bytes_none _ _ _ (List.drop_eq_nil_of_le (by omega))
                · have := hbb.drop (n := k) rfl
                  rwa [Nat.zero_add] at this
              have hF9 := (fields_made2 (some ⟨g, 0, none⟩) (if c = k then some ⟨g, 0, none⟩ else some ⟨g, k, none⟩) c (c - k) k (N - k) (L.take k) (L.drop k) wr (by rw [List.length_take]; omega) (by rw [List.length_drop, hN]) (by simp) (by split <;> simp) (by omega) (by omega) (hbb.take k) hd9).below (Nat.le_refl _) (Below.refl _ _).drew
              generalize (wr.alloc (.cells #[.slice (some ⟨g, 0, none⟩) k c, .slice (if c = k then some ⟨g, 0, none⟩ else some ⟨g, k, none⟩) (N - k) (c - k)] 23)).drew = wt at hb9 hF9 ⊢
              generalize (if c = k then some (⟨g, 0, none⟩ : Addr) else some ⟨g, k, none⟩) = a9 at hd9 ⊢
              obtain ⟨D, hD⟩ : ∃ D : List (List UInt8), [L.take k, L.drop k] = D := ⟨_, rfl⟩
              have eD : ∀ f ∈ D, f.length ≤ 100000 := by
                rw [← hD]
                intro f hf
                simp at hf
                rcases hf with rfl | rfl
                · rw [List.length_take]; omega
                · rw [List.length_drop]; omega
            all_goals
              rw [hD] at hF9
              have hD2 : D.length = 2 := by rw [← hD]; rfl
              go_wp2
              go_meet
              case rel => exact ⟨D, _, 2, by rw [hD2], by omega, by omega, eD, hF9, (hFA.below (Nat.le_refl _) hbl).below (Nat.le_refl _) hb9, (B2.trans (hbl.mono B2.size)).trans (hb9.mono (Nat.le_trans B2.size hsz))⟩
  case rest =>
    obtain ⟨D, aD, cD, rfl, hcD2, nD, eD, hFD, hFt, hbt⟩ := hcut
    clear hF2 hFA B2 eb lb hat hto
    obtain ⟨wt, hwt⟩ : ∃ wt : World, wt = wc := ⟨_, rfl⟩
    subst hwt
    have ea' : ∀ f ∈ A, f.length ≤ 100000 := fun f h => Nat.le_trans (ea f h) (by omega)
    go_wp2
    go_loopw [12, 13] (fun s i wr => ∃ (n : Nat) (b : Bool), n ≤ A.length ∧ i = .int .i64 n ∧ s = .bool b ∧ (b = true → A.length = D.length ∧ A.take n = D.take n) ∧ (b = false → A ≠ D) ∧ Below wt.heap.size wt wr) (fun _ i _ => A.length - (intOf i).toNat)
    case atStart =>
      refine ⟨0, decide (A.length = D.length), Nat.zero_le _, rfl, ?_, fun h => ⟨of_decide_eq_true h, rfl⟩, fun h e => of_decide_eq_false h (by rw [e]), Below.refl _ _⟩
      congr 1
      rw [Bool.eq_iff_iff]
      simp
      omega
    case round =>
      obtain ⟨n, b, hn, rfl, rfl, hbt1, hbf, hbl⟩ := hrel
      cases b with
      | false =>
        have hne := hbf rfl
        clear hbt1 hbf
        have hdr : Below wr.heap.size wr wr.drew := (Below.refl _ _).drew
        have hbw := hbl.trans (hdr.mono hbl.size)
        have hcall1 := Lib.hid (frame_any (some ⟨g0, 0, none⟩) A A.length wr.drew (by omega) ea' (Nat.le_refl _) (hFt.below (Nat.le_refl _) hbw))
        have hcall2 := Lib.hid (fun W' (h : Below wr.drew.heap.size wr.drew W') => frame_any aD D cD W' nD eD hcD2 (hFD.below (Nat.le_refl _) (link hbw h)))
        have hbe := Lib.hid (hbt.trans (hbw.mono hbt.size))
        obtain ⟨tA, htA⟩ : ∃ s : ByteArray, (⟨(frameL A).toArray⟩ : ByteArray) = s := ⟨_, rfl⟩
        obtain ⟨tD, htD⟩ : ∃ s : ByteArray, (⟨(frameL D).toArray⟩ : ByteArray) = s := ⟨_, rfl⟩
        have htn : (tA.toList == tD.toList) = false := by
          rw [← htA, ← htD, ByteArray.toList_mk, ByteArray.toList_mk, beq_eq_false_iff_ne]
          exact fun h => hne (frameL_inj A D ea' eD h)
        replace htA := Lib.hid htA
        replace htD := Lib.hid htD
        go_upto_region 18 with (fail)
        clear hFt hFD hbl hbt hdr hbw nD eD hcD2 ea ea' la hne
        go_region_with (first
          | (go_at_call 12; go_fit hcall1.out; rintro e w2 ⟨a2, c2, rfl, hn2, -, hb2, hbl2, -⟩; have cw2 := conv_as hb2 hn2 tA htA.out; have hf2 := Lib.hid (fun W' (h : Below w2.heap.size w2 W') => conv_as (hb2.below (Nat.le_refl _) h) hn2 tA htA.out); have hd2 := Lib.hid (hcall2.out w2 hbl2); clear hb2 hn2 hcall1 hcall2; replace hbl2 := Lib.hid hbl2)
          | (go_at_call 12; go_fit hd2.out; rintro e w3 ⟨a3, c3, rfl, hn3, -, hb3, hbl3, -⟩; have cx2 := hf2.out w3 hbl3; have cx3 := conv_as hb3 hn3 tD htD.out; have hend := Lib.hid (link hbe.out (link hbl2.out hbl3)); clear hb3 hn3 cw2 hf2 hd2 hbl2 hbl3))
        all_goals (go_wp2; go_ret; exact ⟨rfl, hend.out⟩)
      | true =>
        obtain ⟨hAD, htk⟩ := hbt1 rfl
        clear hbt1 hbf
        by_cases hlt : n < A.length
        · obtain ⟨p1, o1, a1, c1, he1, hk1, hc1, hn1, -, hy1⟩ := hFt n hlt
          cases he1
          have hlt3 : n < D.length := by omega
          obtain ⟨p2, o2, a2, c2, rfl, hk2, hc2, hn2, -, hy2⟩ := hFD n hlt3
          have hdr : Below wr.heap.size wr wr.drew := (Below.refl _ _).drew
          have hbw := hbl.trans (hdr.mono hbl.size)
          have q1 := hbw.cell (p := ⟨g0, 0 + n, none⟩) hk1
          have q2 := hbw.cell (p := ⟨p2, o2 + n, none⟩) hk2
          rw [hc1, Nat.zero_add] at q1
          rw [hc2] at q2
          have hlt' : (n : Int) < (A.length : Int) := by omega
          have hlt2 : (n : Int) < (D.length : Int) := by omega
          have hy1' := hy1.below (Nat.le_refl _) hbw
          have hy2' := hy2.below (Nat.le_refl _) hbw
          have hnext : A[n] = D[n] → A.take (n + 1) = D.take (n + 1) := fun h => by
            rw [List.take_succ_eq_append_getElem hlt, List.take_succ_eq_append_getElem hlt3, htk, h]
          have hdiff : A[n] ≠ D[n] → A ≠ D := fun h e => h (by subst e; rfl)
          replace hnext := Lib.hid hnext
          replace hdiff := Lib.hid hdiff
          replace hbl := Lib.hid hbl
          replace hbt := Lib.hid hbt
          clear hc1 hc2 hy1 hy2 htk hdr
          generalize A[n] = f1 at hy1' q1 hnext hdiff
          generalize D[n] = f2 at hy2' q2 hnext hdiff
          replace hAD := Lib.hid hAD
          by_cases heq : f1 = f2
          · subst heq
            obtain ⟨t1, ht1⟩ : ∃ s : ByteArray, (⟨f1.toArray⟩ : ByteArray) = s := ⟨_, rfl⟩
            have cv1 := conv_as hy1' hn1 t1 ht1
            have cv2 := conv_as hy2' hn2 t1 ht1
            clear ht1 hy1' hy2' hn1 hn2
            go_upto_region 17 with (fail)
            go_region_with (fail)
            all_goals
              go_wp2
              refine ⟨⟨n + 1, true, by omega, by go_num, rfl, fun _ => ⟨hAD.out, hnext.out rfl⟩, (fun h => (by cases h)), hbw⟩, ?_⟩
              simp [intOf]; omega
          · obtain ⟨t1, ht1⟩ : ∃ s : ByteArray, (⟨f1.toArray⟩ : ByteArray) = s := ⟨_, rfl⟩
            obtain ⟨t2, ht2⟩ : ∃ s : ByteArray, (⟨f2.toArray⟩ : ByteArray) = s := ⟨_, rfl⟩
            have htn : (t1.toList == t2.toList) = false := by
              rw [← ht1, ← ht2, ByteArray.toList_mk, ByteArray.toList_mk, beq_eq_false_iff_ne]
              exact heq
            have cv1 := conv_as hy1' hn1 t1 ht1
            have cv2 := conv_as hy2' hn2 t2 ht2
            replace heq := Lib.hid heq
            clear ht1 ht2 hy1' hy2' hn1 hn2
            go_upto_region 17 with (fail)
            go_region_with (fail)
            all_goals
              go_wp2
              refine ⟨⟨n + 1, false, by omega, by go_num, rfl, (fun h => (by cases h)), fun _ => hdiff.out heq.out, hbw⟩, ?_⟩
              simp [intOf]; omega
        · obtain rfl : n = A.length := by omega
          have hlt' : ¬ (A.length : Int) < (A.length : Int) := by omega
          have hAE : A = D := by rw [List.take_of_length_le (Nat.le_refl _), hAD, List.take_of_length_le (Nat.le_refl _)] at htk; exact htk
          have hdr : Below wr.heap.size wr wr.drew := (Below.refl _ _).drew
          have hbw := hbl.trans (hdr.mono hbl.size)
          have hcall1 := Lib.hid (frame_any (some ⟨g0, 0, none⟩) A A.length wr.drew (by omega) ea' (Nat.le_refl _) (hFt.below (Nat.le_refl _) hbw))
          have hcall2 := Lib.hid (fun W' (h : Below wr.drew.heap.size wr.drew W') => frame_any aD D cD W' nD eD hcD2 (hFD.below (Nat.le_refl _) (link hbw h)))
          have hbe := Lib.hid (hbt.trans (hbw.mono hbt.size))
          obtain ⟨tA, htA⟩ : ∃ s : ByteArray, (⟨(frameL A).toArray⟩ : ByteArray) = s := ⟨_, rfl⟩
          have htD : (⟨(frameL D).toArray⟩ : ByteArray) = tA := by rw [← htA, hAE]
          replace htA := Lib.hid htA
          replace htD := Lib.hid htD
          go_upto_region 18 with (fail)
          clear hFt hFD hbl hbt hdr hbw nD eD hcD2 ea ea' la hAE hAD htk
          go_region_with (first
            | (go_at_call 12; go_fit hcall1.out; rintro e w2 ⟨a2, c2, rfl, hn2, -, hb2, hbl2, -⟩; have cw2 := conv_as hb2 hn2 tA htA.out; have hf2 := Lib.hid (fun W' (h : Below w2.heap.size w2 W') => conv_as (hb2.below (Nat.le_refl _) h) hn2 tA htA.out); have hd2 := Lib.hid (hcall2.out w2 hbl2); clear hb2 hn2 hcall1 hcall2; replace hbl2 := Lib.hid hbl2)
            | (go_at_call 12; go_fit hd2.out; rintro e w3 ⟨a3, c3, rfl, hn3, -, hb3, hbl3, -⟩; have cx2 := hf2.out w3 hbl3; have cx3 := conv_as hb3 hn3 tA htD.out; have hend := Lib.hid (link hbe.out (link hbl2.out hbl3)); clear hb3 hn3 cw2 hf2 hd2 hbl2 hbl3))
          all_goals (go_wp2; go_ret; exact ⟨rfl, hend.out⟩)
end Go.Proofs.Ytiomdikompodfaa
