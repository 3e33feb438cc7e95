/- Contract of the document's answer for which number a text is. -/
import Derived.Test.YtfdmeinfjfmnlaaDoorParse
namespace Go.Proofs.YtfdmeinfjfmnlaaDoor
open Go Go.RowKit

theorem foldl_ge : ∀ (l : List UInt8) (a : Nat), a * 10 ^ l.length ≤ l.foldl (fun n c => 10 * n + (c.toNat - 48)) a
  | [], a => by simp
  | c :: t, a => by
    have h := foldl_ge t (10 * a + (c.toNat - 48))
    simp only [List.foldl_cons, List.length_cons, Nat.pow_succ]
    refine Nat.le_trans ?_ h
    rw [Nat.mul_comm (10 ^ t.length) 10, ← Nat.mul_assoc, Nat.mul_comm a 10]
    exact Nat.mul_le_mul_right _ (by omega)
theorem foldl_lt : ∀ (l : List UInt8) (a : Nat), l.all isD = true → l.foldl (fun n c => 10 * n + (c.toNat - 48)) a < (a + 1) * 10 ^ l.length
  | [], a, _ => by simp
  | c :: t, a, h => by
    rw [List.all_cons, Bool.and_eq_true] at h
    have h1 := foldl_lt t (10 * a + (c.toNat - 48)) h.2
    have hc : c.toNat ≤ 57 := by have := h.1; unfold isD at this; simp only [Bool.and_eq_true, decide_eq_true_eq] at this; exact this.2
    simp only [List.foldl_cons, List.length_cons, Nat.pow_succ]
    refine Nat.lt_of_lt_of_le h1 ?_
    rw [Nat.mul_comm (10 ^ t.length) 10, ← Nat.mul_assoc]
    exact Nat.mul_le_mul_right _ (by omega)
theorem valN_lt (l : List UInt8) (h : l.all isD = true) (h13 : l.length ≤ 13) : valN l < 10000000000000 := by
  have h1 := foldl_lt l 0 h
  rw [Nat.zero_add, Nat.one_mul] at h1
  exact Nat.lt_of_lt_of_le h1 (Nat.le_trans (Nat.pow_le_pow_right (by omega) h13) (by decide))
theorem valN_long (l : List UInt8) (h : l.all isD = true) (h13 : 13 < l.length) (h0 : ¬ l.head? = some 48) : 1099511627776 < valN l := by
  cases l with
  | nil => simp at h13
  | cons c t =>
    have hc : 49 ≤ c.toNat := by
      rw [List.all_cons, Bool.and_eq_true] at h
      have h1 := h.1
      unfold isD at h1
      simp only [Bool.and_eq_true, decide_eq_true_eq] at h1
      have : ¬ c = 48 := fun e => h0 (by rw [e]; rfl)
      have h2 : ¬ c.toNat = 48 := fun e => this (UInt8.toNat_inj.1 e)
      omega
    have h1 := foldl_ge t (10 * 0 + (c.toNat - 48))
    have h2 : 10 ^ 13 ≤ 10 ^ t.length := Nat.pow_le_pow_right (by omega) (by simp at h13; omega)
    have h3 : 1 * 10 ^ t.length ≤ (10 * 0 + (c.toNat - 48)) * 10 ^ t.length := Nat.mul_le_mul_right _ (by omega)
    have h4 : (1099511627776 : Nat) < 10 ^ 13 := by decide
    show 1099511627776 < t.foldl (fun n c => 10 * n + (c.toNat - 48)) (10 * 0 + (c.toNat - 48))
    omega

set_option maxHeartbeats 8000000 in
set_option maxRecDepth 100000 in
theorem refParse_any (s : ByteArray) (w : World) (hs : s.size ≤ 9223372036854775807) :
    Calls Tryd.prog 25 #[.string s] w fun e w' => e = .returned (parseV s) ∧ w = w' := by
  obtain ⟨d, N, hv, hcase⟩ : ∃ (d : ByteArray) (N : Bool), parseV s = parseD (isZ s) N d.data.toList ∧
      ((N = true ∧ d.size < s.size ∧ 0 < s.size ∧ s.get! 0 = 45 ∧ d = s.extract 1 s.size) ∨ (N = false ∧ d = s ∧ ¬ (0 < s.size ∧ s.get! 0 = 45))) := by
    have hl : s.data.toList.length = s.size := rfl
    by_cases hneg : 0 < s.size ∧ s.get! 0 = 45
    · have e0 : s.data.toList = 45 :: s.data.toList.drop 1 := by
        have := drop_at s 0 hneg.1
        rw [hneg.2] at this
        exact this
      have hp : Lib.hasPrefix s.data.toList [45] = true := by rw [e0]; simp [Lib.hasPrefix, List.isPrefixOf]
      have e1 : (s.extract 1 s.size).data.toList = s.data.toList.drop 1 := by
        rw [Lib.extract_data, List.take_of_length_le (by rw [List.length_drop]; omega)]
      refine ⟨s.extract 1 s.size, true, ?_, .inl ⟨rfl, ?_, hneg.1, hneg.2, rfl⟩⟩
      · unfold parseV
        rw [hp, e1]
        unfold Lib.trimPrefix
        rw [if_pos hp]
        rfl
      · rw [ByteArray.size_extract]; omega
    · have hp : Lib.hasPrefix s.data.toList [45] = false := by
        by_cases h0 : 0 < s.size
        · have := drop_at s 0 h0
          rw [show s.data.toList = s.data.toList.drop 0 from rfl, this]
          have hne : ¬ s.get! 0 = 45 := fun e => hneg ⟨h0, e⟩
          simp [Lib.hasPrefix, List.isPrefixOf, Ne.symm hne]
        · have : s.data.toList = [] := List.length_eq_zero_iff.1 (by omega)
          rw [this]
          rfl
      refine ⟨s, false, ?_, .inr ⟨rfl, rfl, hneg⟩⟩
      unfold parseV
      rw [hp]
      unfold Lib.trimPrefix
      rw [if_neg (by rw [hp]; simp)]
  have hzq := isZ_eq s
  have hstart : (N = true ∧ (d.size : Int) < (s.size : Int) ∧ 0 < s.size ∧ d = s.extract 1 s.size ∧ (∀ h : 0 < s.size, (((s[0]'h).toNat : Int) == 45) = true)) ∨ (N = false ∧ d = s ∧ s.size = 0) ∨
      (N = false ∧ d = s ∧ 0 < s.size ∧ (∀ h : 0 < s.size, (((s[0]'h).toNat : Int) == 45) = false)) := by
    rcases hcase with ⟨hN, h1, h2, h3, h4⟩ | ⟨hN, h1, h2⟩
    · refine .inl ⟨hN, by omega, h2, h4, fun h => ?_⟩
      rw [← get_bang s 0 h, h3]
      rfl
    · by_cases h0 : s.size = 0
      · exact .inr (.inl ⟨hN, h1, h0⟩)
      · refine .inr (.inr ⟨hN, h1, by omega, fun h => ?_⟩)
        rw [← get_bang s 0 h]
        exact beqN (d := 45) (fun e => h2 ⟨by omega, e⟩) 45 rfl
  clear hcase
  replace hv := Lib.hid hv
  have hds : d.size ≤ 9223372036854775807 := by
    rcases hstart with ⟨_, h, _⟩ | ⟨_, rfl, _⟩ | ⟨_, rfl, _⟩ <;> omega
  rcases hstart with ⟨rfl, hlen, hp0, hdx, he⟩ | ⟨rfl, rfl, h0⟩ | ⟨rfl, rfl, hp0, he⟩
  · have he0 := he hp0
    clear he
    have hp1 : (1 : Int) ≤ (s.size : Int) := by omega
    replace hzq := Lib.hid hzq
    go_enter Tryd.func25, Tryd.ntmps25
    go_wp2
    rw [← hdx]
    replace hdx := Lib.hid hdx
    go_loop [5] (fun i => ∃ k : Nat, k ≤ d.size ∧ i = .int .i64 k ∧ (d.data.toList.take k).all isD = true) (fun i => d.size - (intOf i).toNat)
    case atStart => exact ⟨0, Nat.zero_le _, rfl, rfl⟩
    case round =>
      obtain ⟨k, hk, rfl, hall⟩ := hrel
      by_cases hlt : k < d.size
      · have hg := get_bang d k hlt
        cases hdg : isD (d.get! k) with
        | true =>
          have hal2 : (d.data.toList.take (k + 1)).all isD = true := by rw [take_get d k hlt, List.all_append, hall]; simp [hdg]
          have hb1 : 48 ≤ (d.get! k).toNat ∧ (d.get! k).toNat ≤ 57 := by simpa [isD] using hdg
          rw [hg] at hb1
          have q1 : (48 : Int) ≤ (d[k].toNat : Int) := by omega
          have q2 : (d[k].toNat : Int) ≤ 57 := by omega
          clear hb1
          replace hal2 := Lib.hid hal2
          replace hall := Lib.hid hall
          replace hg := Lib.hid hg
          replace hdg := Lib.hid hdg
          go_wp2
          go_round
          case rel => exact ⟨k + 1, by omega, by go_num, hal2.out⟩
          case measure => simp [intOf]; omega
        | false =>
          have hget : d.data.toList[k]? = some (d.get! k) := by rw [get_list d k hlt]; simp [List.getD, hlt]
          have hvb := Lib.hid (hv.out.trans (parseD_bad _ _ _ (all_not hget hdg)))
          have hb1 : (d[k].toNat : Int) < 48 ∨ (48 : Int) ≤ (d[k].toNat : Int) ∧ (57 : Int) < (d[k].toNat : Int) := by
            rw [hg] at hdg
            unfold isD at hdg
            simp only [Bool.and_eq_false_iff, decide_eq_false_iff_not] at hdg
            omega
          replace hget := Lib.hid hget
          replace hall := Lib.hid hall
          replace hg := Lib.hid hg
          replace hdg := Lib.hid hdg
          rcases hb1 with q1 | ⟨q1, q2⟩
          all_goals
            go_wp2
            go_ret2
            refine ⟨ret_v ?_, rfl⟩
            rw [hvb.out]
            rfl
      · obtain rfl : k = d.size := by omega
        rw [take_all] at hall
        by_cases hd0 : d.size = 0
        · have hnil : d.data.toList = [] := List.length_eq_zero_iff.1 hd0
          have hvb := hv.out
          rw [hnil] at hvb
          replace hvb := Lib.hid (hvb.trans (parseD_empty _ _))
          have hem : d.toList = [] := by rw [ByteArray.toList_eq]; exact hnil
          have hem2 : d.toList.isEmpty = true := by rw [hem]; rfl
          replace hem := Lib.hid hem
          replace hnil := Lib.hid hnil
          replace hall := Lib.hid hall
          go_wp2
          go_ret2
          refine ⟨ret_v ?_, rfl⟩
          rw [hvb.out]
          rfl
        · have hpos : 0 < d.size := by omega
          have hne : d.data.toList ≠ [] := fun e => hd0 (by have : d.data.toList.length = d.size := rfl; rw [e] at this; simpa using this.symm)
          have hhd : d.data.toList.head? = some (d.get! 0) := by rw [show d.data.toList = d.data.toList.drop 0 from rfl, drop_at d 0 hpos]; rfl
          have hem : d.toList.isEmpty = false := by rw [ByteArray.toList_eq]; simpa using hne
          have hem2 : ¬ d.toList = [] := by rw [ByteArray.toList_eq]; exact hne
          have hg0 := get_bang d 0 hpos
          by_cases hbad : d.get! 0 = 48 ∧ isZ s = false
          · obtain ⟨hc, hz⟩ := hbad
            have q48 : ((d[0].toNat : Int) == 48) = true := by rw [← hg0, hc]; rfl
            have hvb := hv.out
            have hzq' := hzq.out
            rw [hz] at hzq' hvb
            replace hvb := Lib.hid (hvb.trans (parseD_zero _ _ (by rw [hhd, hc])))
            replace hg0 := Lib.hid hg0
            replace hne := Lib.hid hne
            replace hhd := Lib.hid hhd
            replace hc := Lib.hid hc
            replace hall := Lib.hid hall
            go_wp2
            go_ret2
            refine ⟨ret_v ?_, rfl⟩
            rw [hvb.out]
            rfl
          · have hh : ¬ (d.data.toList.head? = some 48 ∧ isZ s = false) := by
              rintro ⟨h1, h2⟩
              rw [hhd] at h1
              exact hbad ⟨Option.some.inj h1, h2⟩
            have hcase2 : (((d[0].toNat : Int) == 48) = true ∧ (s.toList == [48]) = true) ∨ ((d[0].toNat : Int) == 48) = false := by
              by_cases hc : d.get! 0 = 48
              · left
                refine ⟨by rw [← hg0, hc]; rfl, ?_⟩
                rw [hzq.out]
                cases hz : isZ s with
                | true => rfl
                | false => exact absurd ⟨hc, hz⟩ hbad
              · right
                rw [← hg0]
                exact beqN hc 48 rfl
            have h13z : 13 < d.size → ¬ d.data.toList.head? = some 48 := by
              intro h13 h1
              apply hh
              refine ⟨h1, ?_⟩
              unfold isZ
              rw [decide_eq_false_iff_not]
              intro e
              have e2 := congrArg List.length e
              have e3 : s.data.toList.length = s.size := rfl
              simp at e2
              omega
            replace hg0 := Lib.hid hg0
            replace hne := Lib.hid hne
            replace hhd := Lib.hid hhd
            replace hh := Lib.hid hh
            replace hbad := Lib.hid hbad
            by_cases h13 : 13 < d.size
            · have hvb := Lib.hid (hv.out.trans (parseD_big _ _ _ hne.out hh.out hall (valN_long _ hall h13 (h13z h13))))
              replace hall := Lib.hid hall
              replace h13z := Lib.hid h13z
              rcases hcase2 with ⟨q48, q48z⟩ | q48
              all_goals
                go_wp2
                go_ret2
                refine ⟨ret_v ?_, rfl⟩
                rw [hvb.out]
                rfl
            · clear h13z
              have h13' : (d.size : Int) ≤ 13 := by omega
              have hfin : (1099511627776 < valN d.data.toList ∧ parseV s = numE 0 3) ∨ (¬ 1099511627776 < valN d.data.toList ∧ parseV s = numE (-(valN d.data.toList : Int)) 0) := by
                by_cases hbig : 1099511627776 < valN d.data.toList
                · exact .inl ⟨hbig, hv.out.trans (parseD_big _ _ _ hne.out hh.out hall hbig)⟩
                · exact .inr ⟨hbig, hv.out.trans (parseD_ok _ _ _ hne.out hh.out hall hbig)⟩
              replace hall := Lib.hid hall
              replace hfin := Lib.hid hfin
              rcases hcase2 with ⟨q48, q48z⟩ | q48
              all_goals
                go_wp2
                go_loop [6, 7] (fun n i => ∃ k : Nat, k ≤ d.size ∧ i = .int .i64 k ∧ n = .int .i64 ((valN (d.data.toList.take k) : Nat) : Int)) (fun _ i => d.size - (intOf i).toNat)
                case atStart => exact ⟨0, Nat.zero_le _, rfl, rfl⟩
                case round =>
                  obtain ⟨k, hk2, rfl, rfl⟩ := hrel
                  by_cases hlt2 : k < d.size
                  · have hg := get_bang d k hlt2
                    have hvs := valN_snoc (d.data.toList.take k) (d.get! k)
                    rw [← take_get d k hlt2] at hvs
                    have hdg : isD (d.get! k) = true := by
                      have := List.all_eq_true.1 hall.out (d.get! k)
                      apply this
                      rw [get_list d k hlt2]
                      simp only [List.getD]
                      rw [List.getElem?_eq_getElem (by exact hlt2)]
                      exact List.getElem_mem _
                    have hb1 : 48 ≤ (d.get! k).toNat ∧ (d.get! k).toNat ≤ 57 := by simpa [isD] using hdg
                    have hvl : valN (d.data.toList.take k) < 10000000000000 := by
                      apply valN_lt
                      · rw [List.all_eq_true]
                        intro c hc
                        exact List.all_eq_true.1 hall.out c (List.mem_of_mem_take hc)
                      · rw [List.length_take]; omega
                    rw [hg] at hb1 hvs
                    have q1 : (48 : Int) ≤ (d[k].toNat : Int) := by omega
                    have q2 : (d[k].toNat : Int) ≤ 57 := by omega
                    generalize valN (d.data.toList.take k) = v at hvs hvl
                    have hstep : (10 * (v : Int) + ((d[k].toNat : Int) - 48)) = ((valN (d.data.toList.take (k + 1)) : Nat) : Int) := by omega
                    have hv13 : (v : Int) < 10000000000000 := by omega
                    clear hb1
                    replace hstep := Lib.hid hstep
                    replace hvs := Lib.hid hvs
                    replace hg := Lib.hid hg
                    replace hdg := Lib.hid hdg
                    go_wp2
                    go_round
                    case rel => exact ⟨k + 1, by omega, by go_num, by rw [hstep.out]⟩
                    case measure => simp [intOf]; omega
                  · obtain rfl : k = d.size := by omega
                    rw [take_all]
                    have hfin' := hfin.out
                    clear hfin
                    generalize valN d.data.toList = v at hfin'
                    rcases hfin' with ⟨hb, hvb⟩ | ⟨hb, hvb⟩
                    · have hb' : (1099511627776 : Int) < (v : Int) := by omega
                      replace hvb := Lib.hid hvb
                      clear hb
                      go_wp2
                      go_ret2
                      refine ⟨ret_v ?_, rfl⟩
                      rw [hvb.out]
                      rfl
                    · have hb' : (v : Int) ≤ 1099511627776 := by omega
                      replace hvb := Lib.hid hvb
                      clear hb
                      go_wp2
                      go_ret2
                      refine ⟨ret_v ?_, rfl⟩
                      rw [hvb.out]
                      rfl
  · obtain rfl : d = ⟨#[]⟩ := by
      cases d with | mk a =>
      congr 1
      exact Array.eq_empty_of_size_eq_zero h0
    have hvb := Lib.hid (hv.out.trans (parseD_empty _ _))
    clear hzq h0 hds hs hv
    go_enter Tryd.func25, Tryd.ntmps25
    go_wp2
    go_loop [5] (fun i => i = .int .i64 0) (fun _ => 0)
    case atStart => rfl
    case round =>
      subst hrel
      go_wp2
      go_ret2
      refine ⟨ret_v ?_, rfl⟩
      rw [hvb.out]
      rfl
  · have he0 := he hp0
    clear he
    have hp1 : (0 : Int) < (d.size : Int) := by omega
    replace hzq := Lib.hid hzq
    go_enter Tryd.func25, Tryd.ntmps25
    go_wp2
    go_loop [5] (fun i => ∃ k : Nat, k ≤ d.size ∧ i = .int .i64 k ∧ (d.data.toList.take k).all isD = true) (fun i => d.size - (intOf i).toNat)
    case atStart => exact ⟨0, Nat.zero_le _, rfl, rfl⟩
    case round =>
      obtain ⟨k, hk, rfl, hall⟩ := hrel
      by_cases hlt : k < d.size
      · have hg := get_bang d k hlt
        cases hdg : isD (d.get! k) with
        | true =>
          have hal2 : (d.data.toList.take (k + 1)).all isD = true := by rw [take_get d k hlt, List.all_append, hall]; simp [hdg]
          have hb1 : 48 ≤ (d.get! k).toNat ∧ (d.get! k).toNat ≤ 57 := by simpa [isD] using hdg
          rw [hg] at hb1
          have q1 : (48 : Int) ≤ (d[k].toNat : Int) := by omega
          have q2 : (d[k].toNat : Int) ≤ 57 := by omega
          clear hb1
          replace hal2 := Lib.hid hal2
          replace hall := Lib.hid hall
          replace hg := Lib.hid hg
          replace hdg := Lib.hid hdg
          go_wp2
          go_round
          case rel => exact ⟨k + 1, by omega, by go_num, hal2.out⟩
          case measure => simp [intOf]; omega
        | false =>
          have hget : d.data.toList[k]? = some (d.get! k) := by rw [get_list d k hlt]; simp [List.getD, hlt]
          have hvb := Lib.hid (hv.out.trans (parseD_bad _ _ _ (all_not hget hdg)))
          have hb1 : (d[k].toNat : Int) < 48 ∨ (48 : Int) ≤ (d[k].toNat : Int) ∧ (57 : Int) < (d[k].toNat : Int) := by
            rw [hg] at hdg
            unfold isD at hdg
            simp only [Bool.and_eq_false_iff, decide_eq_false_iff_not] at hdg
            omega
          replace hget := Lib.hid hget
          replace hall := Lib.hid hall
          replace hg := Lib.hid hg
          replace hdg := Lib.hid hdg
          rcases hb1 with q1 | ⟨q1, q2⟩
          all_goals
            go_wp2
            go_ret2
            refine ⟨ret_v ?_, rfl⟩
            rw [hvb.out]
            rfl
      · obtain rfl : k = d.size := by omega
        rw [take_all] at hall
        by_cases hd0 : d.size = 0
        · have hnil : d.data.toList = [] := List.length_eq_zero_iff.1 hd0
          have hvb := hv.out
          rw [hnil] at hvb
          replace hvb := Lib.hid (hvb.trans (parseD_empty _ _))
          have hem : d.toList = [] := by rw [ByteArray.toList_eq]; exact hnil
          have hem2 : d.toList.isEmpty = true := by rw [hem]; rfl
          replace hem := Lib.hid hem
          replace hnil := Lib.hid hnil
          replace hall := Lib.hid hall
          go_wp2
          go_ret2
          refine ⟨ret_v ?_, rfl⟩
          rw [hvb.out]
          rfl
        · have hpos : 0 < d.size := by omega
          have hne : d.data.toList ≠ [] := fun e => hd0 (by have : d.data.toList.length = d.size := rfl; rw [e] at this; simpa using this.symm)
          have hhd : d.data.toList.head? = some (d.get! 0) := by rw [show d.data.toList = d.data.toList.drop 0 from rfl, drop_at d 0 hpos]; rfl
          have hem : d.toList.isEmpty = false := by rw [ByteArray.toList_eq]; simpa using hne
          have hem2 : ¬ d.toList = [] := by rw [ByteArray.toList_eq]; exact hne
          have hg0 := get_bang d 0 hpos
          by_cases hbad : d.get! 0 = 48 ∧ isZ d = false
          · obtain ⟨hc, hz⟩ := hbad
            have q48 : ((d[0].toNat : Int) == 48) = true := by rw [← hg0, hc]; rfl
            have hvb := hv.out
            have hzq' := hzq.out
            rw [hz] at hzq' hvb
            replace hvb := Lib.hid (hvb.trans (parseD_zero _ _ (by rw [hhd, hc])))
            replace hg0 := Lib.hid hg0
            replace hne := Lib.hid hne
            replace hhd := Lib.hid hhd
            replace hc := Lib.hid hc
            replace hall := Lib.hid hall
            go_wp2
            go_ret2
            refine ⟨ret_v ?_, rfl⟩
            rw [hvb.out]
            rfl
          · have hh : ¬ (d.data.toList.head? = some 48 ∧ isZ d = false) := by
              rintro ⟨h1, h2⟩
              rw [hhd] at h1
              exact hbad ⟨Option.some.inj h1, h2⟩
            have hcase2 : (((d[0].toNat : Int) == 48) = true ∧ (d.toList == [48]) = true) ∨ ((d[0].toNat : Int) == 48) = false := by
              by_cases hc : d.get! 0 = 48
              · left
                refine ⟨by rw [← hg0, hc]; rfl, ?_⟩
                rw [hzq.out]
                cases hz : isZ d with
                | true => rfl
                | false => exact absurd ⟨hc, hz⟩ hbad
              · right
                rw [← hg0]
                exact beqN hc 48 rfl
            have h13z : 13 < d.size → ¬ d.data.toList.head? = some 48 := by
              intro h13 h1
              apply hh
              refine ⟨h1, ?_⟩
              unfold isZ
              rw [decide_eq_false_iff_not]
              intro e
              have e2 := congrArg List.length e
              have e3 : d.data.toList.length = d.size := rfl
              simp at e2
              omega
            replace hg0 := Lib.hid hg0
            replace hne := Lib.hid hne
            replace hhd := Lib.hid hhd
            replace hh := Lib.hid hh
            replace hbad := Lib.hid hbad
            by_cases h13 : 13 < d.size
            · have hvb := Lib.hid (hv.out.trans (parseD_big _ _ _ hne.out hh.out hall (valN_long _ hall h13 (h13z h13))))
              replace hall := Lib.hid hall
              replace h13z := Lib.hid h13z
              rcases hcase2 with ⟨q48, q48z⟩ | q48
              all_goals
                go_wp2
                go_ret2
                refine ⟨ret_v ?_, rfl⟩
                rw [hvb.out]
                rfl
            · clear h13z
              have h13' : (d.size : Int) ≤ 13 := by omega
              have hfin : (1099511627776 < valN d.data.toList ∧ parseV d = numE 0 3) ∨ (¬ 1099511627776 < valN d.data.toList ∧ parseV d = numE (valN d.data.toList : Int) 0) := by
                by_cases hbig : 1099511627776 < valN d.data.toList
                · exact .inl ⟨hbig, hv.out.trans (parseD_big _ _ _ hne.out hh.out hall hbig)⟩
                · exact .inr ⟨hbig, hv.out.trans (parseD_ok _ _ _ hne.out hh.out hall hbig)⟩
              replace hall := Lib.hid hall
              replace hfin := Lib.hid hfin
              rcases hcase2 with ⟨q48, q48z⟩ | q48
              all_goals
                go_wp2
                go_loop [6, 7] (fun n i => ∃ k : Nat, k ≤ d.size ∧ i = .int .i64 k ∧ n = .int .i64 ((valN (d.data.toList.take k) : Nat) : Int)) (fun _ i => d.size - (intOf i).toNat)
                case atStart => exact ⟨0, Nat.zero_le _, rfl, rfl⟩
                case round =>
                  obtain ⟨k, hk2, rfl, rfl⟩ := hrel
                  by_cases hlt2 : k < d.size
                  · have hg := get_bang d k hlt2
                    have hvs := valN_snoc (d.data.toList.take k) (d.get! k)
                    rw [← take_get d k hlt2] at hvs
                    have hdg : isD (d.get! k) = true := by
                      have := List.all_eq_true.1 hall.out (d.get! k)
                      apply this
                      rw [get_list d k hlt2]
                      simp only [List.getD]
                      rw [List.getElem?_eq_getElem (by exact hlt2)]
                      exact List.getElem_mem _
                    have hb1 : 48 ≤ (d.get! k).toNat ∧ (d.get! k).toNat ≤ 57 := by simpa [isD] using hdg
                    have hvl : valN (d.data.toList.take k) < 10000000000000 := by
                      apply valN_lt
                      · rw [List.all_eq_true]
                        intro c hc
                        exact List.all_eq_true.1 hall.out c (List.mem_of_mem_take hc)
                      · rw [List.length_take]; omega
                    rw [hg] at hb1 hvs
                    have q1 : (48 : Int) ≤ (d[k].toNat : Int) := by omega
                    have q2 : (d[k].toNat : Int) ≤ 57 := by omega
                    generalize valN (d.data.toList.take k) = v at hvs hvl
                    have hstep : (10 * (v : Int) + ((d[k].toNat : Int) - 48)) = ((valN (d.data.toList.take (k + 1)) : Nat) : Int) := by omega
                    have hv13 : (v : Int) < 10000000000000 := by omega
                    clear hb1
                    replace hstep := Lib.hid hstep
                    replace hvs := Lib.hid hvs
                    replace hg := Lib.hid hg
                    replace hdg := Lib.hid hdg
                    go_wp2
                    go_round
                    case rel => exact ⟨k + 1, by omega, by go_num, by rw [hstep.out]⟩
                    case measure => simp [intOf]; omega
                  · obtain rfl : k = d.size := by omega
                    rw [take_all]
                    have hfin' := hfin.out
                    clear hfin
                    generalize valN d.data.toList = v at hfin'
                    rcases hfin' with ⟨hb, hvb⟩ | ⟨hb, hvb⟩
                    · have hb' : (1099511627776 : Int) < (v : Int) := by omega
                      replace hvb := Lib.hid hvb
                      clear hb
                      go_wp2
                      go_ret2
                      refine ⟨ret_v ?_, rfl⟩
                      rw [hvb.out]
                      rfl
                    · have hb' : (v : Int) ≤ 1099511627776 := by omega
                      replace hvb := Lib.hid hvb
                      clear hb
                      go_wp2
                      go_ret2
                      refine ⟨ret_v ?_, rfl⟩
                      rw [hvb.out]
                      rfl
end Go.Proofs.YtfdmeinfjfmnlaaDoor
