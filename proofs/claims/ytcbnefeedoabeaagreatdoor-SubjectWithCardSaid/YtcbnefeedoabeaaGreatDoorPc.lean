/- Contracts: refParse_any. Contracts of the document's parts of a version. Contracts: validString_any. Contracts: refValid_any, refValid_loop. Contract of the document's check of a list of texts. Contract of the document's check of a value. Two texts that differ. Contracts of the document's equality of values. What the listed package-level variables hold in a world: the two tables of utf8, the reserved words. -/
import Derived.Test.YtcbnefeedoabeaaGreatDoorProg
import Derived.Test.YtcbnefeedoabeaaGreatDoorPa
import Derived.Test.YtcbnefeedoabeaaGreatDoorShelfV
import Derived.Laws.Cover1
import Derived.BigRegion
import Derived.Deep.DeepFit
import Derived.Test.YtcbnefeedoabeaaGreatDoorPb
/- Contracts: refParse_any. -/
namespace Go.Proofs.YtcbnefeedoabeaaGreatDoor
open Go Go.RowKit

set_option maxHeartbeats 8000000 in
set_option maxRecDepth 100000 in
theorem refParse_any (s : ByteArray) (w : World) (hs : s.size ≤ 9223372036854775807) :
    Calls Tryz.prog 134 #[.string s] w fun e w' => e = .returned (parseV s) ∧ w = w' := by
  obtain ⟨d, N, hv, hcase⟩ : ∃ (d : ByteArray) (N : Bool), parseV s = parseD (isZ s) N d.data.toList ∧
      ((N = true ∧ d.size < s.size ∧ 0 < s.size ∧ s.get! 0 = 45 ∧ d = s.extract 1 s.size) ∨ (N = false ∧ d = s ∧ ¬ (0 < s.size ∧ s.get! 0 = 45))) := by
    have hl : s.data.toList.length = s.size := rfl
    by_cases hneg : 0 < s.size ∧ s.get! 0 = 45
    · have e0 : s.data.toList = 45 :: s.data.toList.drop 1 := by
        have := drop_at s 0 hneg.1
        rw [hneg.2] at this
        exact this
      have hp : Lib.hasPrefix s.data.toList [45] = true := by rw [e0]; simp [Lib.hasPrefix, List.isPrefixOf]
      have e1 : (s.extract 1 s.size).data.toList = s.data.toList.drop 1 := by
        rw [Lib.extract_data, List.take_of_length_le (by rw [List.length_drop]; omega)]
      refine ⟨s.extract 1 s.size, true, ?_, .inl ⟨rfl, ?_, hneg.1, hneg.2, rfl⟩⟩
      · unfold parseV
        rw [hp, e1]
        unfold Lib.trimPrefix
        rw [if_pos hp]
        rfl
      · rw [ByteArray.size_extract]; omega
    · have hp : Lib.hasPrefix s.data.toList [45] = false := by
        by_cases h0 : 0 < s.size
        · have := drop_at s 0 h0
          rw [show s.data.toList = s.data.toList.drop 0 from rfl, this]
          have hne : ¬ s.get! 0 = 45 := fun e => hneg ⟨h0, e⟩
          simp [Lib.hasPrefix, List.isPrefixOf, Ne.symm hne]
        · have : s.data.toList = [] := List.length_eq_zero_iff.1 (by omega)
          rw [this]
          rfl
      refine ⟨s, false, ?_, .inr ⟨rfl, rfl, hneg⟩⟩
      unfold parseV
      rw [hp]
      unfold Lib.trimPrefix
      rw [if_neg (by rw [hp]; simp)]
  have hzq := isZ_eq s
  have hstart : (N = true ∧ (d.size : Int) < (s.size : Int) ∧ 0 < s.size ∧ d = s.extract 1 s.size ∧ (∀ h : 0 < s.size, (((s[0]'h).toNat : Int) == 45) = true)) ∨ (N = false ∧ d = s ∧ s.size = 0) ∨
      (N = false ∧ d = s ∧ 0 < s.size ∧ (∀ h : 0 < s.size, (((s[0]'h).toNat : Int) == 45) = false)) := by
    rcases hcase with ⟨hN, h1, h2, h3, h4⟩ | ⟨hN, h1, h2⟩
    · refine .inl ⟨hN, by omega, h2, h4, fun h => ?_⟩
      rw [← get_bang s 0 h, h3]
      rfl
    · by_cases h0 : s.size = 0
      · exact .inr (.inl ⟨hN, h1, h0⟩)
      · refine .inr (.inr ⟨hN, h1, by omega, fun h => ?_⟩)
        rw [← get_bang s 0 h]
        exact beqN (d := 45) (fun e => h2 ⟨by omega, e⟩) 45 rfl
  clear hcase
  replace hv := Lib.hid hv
  have hds : d.size ≤ 9223372036854775807 := by
    rcases hstart with ⟨_, h, _⟩ | ⟨_, rfl, _⟩ | ⟨_, rfl, _⟩ <;> omega
  rcases hstart with ⟨rfl, hlen, hp0, hdx, he⟩ | ⟨rfl, rfl, h0⟩ | ⟨rfl, rfl, hp0, he⟩
  · have he0 := he hp0
    clear he
    have hp1 : (1 : Int) ≤ (s.size : Int) := by omega
    replace hzq := Lib.hid hzq
    go_enter Tryz.func134, Tryz.ntmps134
    go_wp2
    rw [← hdx]
    replace hdx := Lib.hid hdx
    go_loop [5] (fun i => ∃ k : Nat, k ≤ d.size ∧ i = .int .i64 k ∧ (d.data.toList.take k).all isD = true) (fun i => d.size - (intOf i).toNat)
    case atStart => exact ⟨0, Nat.zero_le _, rfl, rfl⟩
    case round =>
      obtain ⟨k, hk, rfl, hall⟩ := hrel
      by_cases hlt : k < d.size
      · have hg := get_bang d k hlt
        cases hdg : isD (d.get! k) with
        | true =>
          have hal2 : (d.data.toList.take (k + 1)).all isD = true := by rw [take_get d k hlt, List.all_append, hall]; simp [hdg]
          have hb1 : 48 ≤ (d.get! k).toNat ∧ (d.get! k).toNat ≤ 57 := by simpa [isD] using hdg
          rw [hg] at hb1
          have q1 : (48 : Int) ≤ (d[k].toNat : Int) := by omega
          have q2 : (d[k].toNat : Int) ≤ 57 := by omega
          clear hb1
          replace hal2 := Lib.hid hal2
          replace hall := Lib.hid hall
          replace hg := Lib.hid hg
          replace hdg := Lib.hid hdg
          go_wp2
          go_round
          case rel => exact ⟨k + 1, by omega, by go_num, hal2.out⟩
          case measure => simp [intOf]; omega
        | false =>
          have hget : d.data.toList[k]? = some (d.get! k) := by rw [get_list d k hlt]; simp [List.getD, hlt]
          have hvb := Lib.hid (hv.out.trans (parseD_bad _ _ _ (all_not hget hdg)))
          have hb1 : (d[k].toNat : Int) < 48 ∨ (48 : Int) ≤ (d[k].toNat : Int) ∧ (57 : Int) < (d[k].toNat : Int) := by
            rw [hg] at hdg
            unfold isD at hdg
            simp only [Bool.and_eq_false_iff, decide_eq_false_iff_not] at hdg
            omega
          replace hget := Lib.hid hget
          replace hall := Lib.hid hall
          replace hg := Lib.hid hg
          replace hdg := Lib.hid hdg
          rcases hb1 with q1 | ⟨q1, q2⟩
          all_goals
            go_wp2
            go_ret2
            refine ⟨ret_v ?_, rfl⟩
            rw [hvb.out]
            rfl
      · obtain rfl : k = d.size := by omega
        rw [take_all] at hall
        by_cases hd0 : d.size = 0
        · have hnil : d.data.toList = [] := List.length_eq_zero_iff.1 hd0
          have hvb := hv.out
          rw [hnil] at hvb
          replace hvb := Lib.hid (hvb.trans (parseD_empty _ _))
          have hem : d.toList = [] := by rw [ByteArray.toList_eq]; exact hnil
          have hem2 : d.toList.isEmpty = true := by rw [hem]; rfl
          replace hem := Lib.hid hem
          replace hnil := Lib.hid hnil
          replace hall := Lib.hid hall
          go_wp2
          go_ret2
          refine ⟨ret_v ?_, rfl⟩
          rw [hvb.out]
          rfl
        · have hpos : 0 < d.size := by omega
          have hne : d.data.toList ≠ [] := fun e => hd0 (by have : d.data.toList.length = d.size := rfl; rw [e] at this; simpa using this.symm)
          have hhd : d.data.toList.head? = some (d.get! 0) := by rw [show d.data.toList = d.data.toList.drop 0 from rfl, drop_at d 0 hpos]; rfl
          have hem : d.toList.isEmpty = false := by rw [ByteArray.toList_eq]; simpa using hne
          have hem2 : ¬ d.toList = [] := by rw [ByteArray.toList_eq]; exact hne
          have hg0 := get_bang d 0 hpos
          by_cases hbad : d.get! 0 = 48 ∧ isZ s = false
          · obtain ⟨hc, hz⟩ := hbad
            have q48 : ((d[0].toNat : Int) == 48) = true := by rw [← hg0, hc]; rfl
            have hvb := hv.out
            have hzq' := hzq.out
            rw [hz] at hzq' hvb
            replace hvb := Lib.hid (hvb.trans (parseD_zero _ _ (by rw [hhd, hc])))
            replace hg0 := Lib.hid hg0
            replace hne := Lib.hid hne
            replace hhd := Lib.hid hhd
            replace hc := Lib.hid hc
            replace hall := Lib.hid hall
            go_wp2
            go_ret2
            refine ⟨ret_v ?_, rfl⟩
            rw [hvb.out]
            rfl
          · have hh : ¬ (d.data.toList.head? = some 48 ∧ isZ s = false) := by
              rintro ⟨h1, h2⟩
              rw [hhd] at h1
              exact hbad ⟨Option.some.inj h1, h2⟩
            have hcase2 : (((d[0].toNat : Int) == 48) = true ∧ (s.toList == [48]) = true) ∨ ((d[0].toNat : Int) == 48) = false := by
              by_cases hc : d.get! 0 = 48
              · left
                refine ⟨by rw [← hg0, hc]; rfl, ?_⟩
                rw [hzq.out]
                cases hz : isZ s with
                | true => rfl
                | false => exact absurd ⟨hc, hz⟩ hbad
              · right
                rw [← hg0]
                exact beqN hc 48 rfl
            have h13z : 13 < d.size → ¬ d.data.toList.head? = some 48 := by
              intro h13 h1
              apply hh
              refine ⟨h1, ?_⟩
              unfold isZ
              rw [decide_eq_false_iff_not]
              intro e
              have e2 := congrArg List.length e
              have e3 : s.data.toList.length = s.size := rfl
              simp at e2
              omega
            replace hg0 := Lib.hid hg0
            replace hne := Lib.hid hne
            replace hhd := Lib.hid hhd
            replace hh := Lib.hid hh
            replace hbad := Lib.hid hbad
            by_cases h13 : 13 < d.size
            · have hvb := Lib.hid (hv.out.trans (parseD_big _ _ _ hne.out hh.out hall (valN_long _ hall h13 (h13z h13))))
              replace hall := Lib.hid hall
              replace h13z := Lib.hid h13z
              rcases hcase2 with ⟨q48, q48z⟩ | q48
              all_goals
                go_wp2
                go_ret2
                refine ⟨ret_v ?_, rfl⟩
                rw [hvb.out]
                rfl
            · clear h13z
              have h13' : (d.size : Int) ≤ 13 := by omega
              have hfin : (1099511627776 < valN d.data.toList ∧ parseV s = numE 0 3) ∨ (¬ 1099511627776 < valN d.data.toList ∧ parseV s = numE (-(valN d.data.toList : Int)) 0) := by
                by_cases hbig : 1099511627776 < valN d.data.toList
                · exact .inl ⟨hbig, hv.out.trans (parseD_big _ _ _ hne.out hh.out hall hbig)⟩
                · exact .inr ⟨hbig, hv.out.trans (parseD_ok _ _ _ hne.out hh.out hall hbig)⟩
              replace hall := Lib.hid hall
              replace hfin := Lib.hid hfin
              rcases hcase2 with ⟨q48, q48z⟩ | q48
              all_goals
                go_wp2
                go_loop [6, 7] (fun n i => ∃ k : Nat, k ≤ d.size ∧ i = .int .i64 k ∧ n = .int .i64 ((valN (d.data.toList.take k) : Nat) : Int)) (fun _ i => d.size - (intOf i).toNat)
                case atStart => exact ⟨0, Nat.zero_le _, rfl, rfl⟩
                case round =>
                  obtain ⟨k, hk2, rfl, rfl⟩ := hrel
                  by_cases hlt2 : k < d.size
                  · have hg := get_bang d k hlt2
                    have hvs := valN_snoc (d.data.toList.take k) (d.get! k)
                    rw [← take_get d k hlt2] at hvs
                    have hdg : isD (d.get! k) = true := by
                      have := List.all_eq_true.1 hall.out (d.get! k)
                      apply this
                      rw [get_list d k hlt2]
                      simp only [List.getD]
                      rw [List.getElem?_eq_getElem (by exact hlt2)]
                      exact List.getElem_mem _
                    have hb1 : 48 ≤ (d.get! k).toNat ∧ (d.get! k).toNat ≤ 57 := by simpa [isD] using hdg
                    have hvl : valN (d.data.toList.take k) < 10000000000000 := by
                      apply valN_lt
                      · rw [List.all_eq_true]
                        intro c hc
                        exact List.all_eq_true.1 hall.out c (List.mem_of_mem_take hc)
                      · rw [List.length_take]; omega
                    rw [hg] at hb1 hvs
                    have q1 : (48 : Int) ≤ (d[k].toNat : Int) := by omega
                    have q2 : (d[k].toNat : Int) ≤ 57 := by omega
                    generalize valN (d.data.toList.take k) = v at hvs hvl
                    have hstep : (10 * (v : Int) + ((d[k].toNat : Int) - 48)) = ((valN (d.data.toList.take (k + 1)) : Nat) : Int) := by omega
                    have hv13 : (v : Int) < 10000000000000 := by omega
                    clear hb1
                    replace hstep := Lib.hid hstep
                    replace hvs := Lib.hid hvs
                    replace hg := Lib.hid hg
                    replace hdg := Lib.hid hdg
                    go_wp2
                    go_round
                    case rel => exact ⟨k + 1, by omega, by go_num, by rw [hstep.out]⟩
                    case measure => simp [intOf]; omega
                  · obtain rfl : k = d.size := by omega
                    rw [take_all]
                    have hfin' := hfin.out
                    clear hfin
                    generalize valN d.data.toList = v at hfin'
                    rcases hfin' with ⟨hb, hvb⟩ | ⟨hb, hvb⟩
                    · have hb' : (1099511627776 : Int) < (v : Int) := by omega
                      replace hvb := Lib.hid hvb
                      clear hb
                      go_wp2
                      go_ret2
                      refine ⟨ret_v ?_, rfl⟩
                      rw [hvb.out]
                      rfl
                    · have hb' : (v : Int) ≤ 1099511627776 := by omega
                      replace hvb := Lib.hid hvb
                      clear hb
                      go_wp2
                      go_ret2
                      refine ⟨ret_v ?_, rfl⟩
                      rw [hvb.out]
                      rfl
  · obtain rfl : d = ⟨#[]⟩ := by
      cases d with | mk a =>
      congr 1
      exact Array.eq_empty_of_size_eq_zero h0
    have hvb := Lib.hid (hv.out.trans (parseD_empty _ _))
    clear hzq h0 hds hs hv
    go_enter Tryz.func134, Tryz.ntmps134
    go_wp2
    go_loop [5] (fun i => i = .int .i64 0) (fun _ => 0)
    case atStart => rfl
    case round =>
      subst hrel
      go_wp2
      go_ret2
      refine ⟨ret_v ?_, rfl⟩
      rw [hvb.out]
      rfl
  · have he0 := he hp0
    clear he
    have hp1 : (0 : Int) < (d.size : Int) := by omega
    replace hzq := Lib.hid hzq
    go_enter Tryz.func134, Tryz.ntmps134
    go_wp2
    go_loop [5] (fun i => ∃ k : Nat, k ≤ d.size ∧ i = .int .i64 k ∧ (d.data.toList.take k).all isD = true) (fun i => d.size - (intOf i).toNat)
    case atStart => exact ⟨0, Nat.zero_le _, rfl, rfl⟩
    case round =>
      obtain ⟨k, hk, rfl, hall⟩ := hrel
      by_cases hlt : k < d.size
      · have hg := get_bang d k hlt
        cases hdg : isD (d.get! k) with
        | true =>
          have hal2 : (d.data.toList.take (k + 1)).all isD = true := by rw [take_get d k hlt, List.all_append, hall]; simp [hdg]
          have hb1 : 48 ≤ (d.get! k).toNat ∧ (d.get! k).toNat ≤ 57 := by simpa [isD] using hdg
          rw [hg] at hb1
          have q1 : (48 : Int) ≤ (d[k].toNat : Int) := by omega
          have q2 : (d[k].toNat : Int) ≤ 57 := by omega
          clear hb1
          replace hal2 := Lib.hid hal2
          replace hall := Lib.hid hall
          replace hg := Lib.hid hg
          replace hdg := Lib.hid hdg
          go_wp2
          go_round
          case rel => exact ⟨k + 1, by omega, by go_num, hal2.out⟩
          case measure => simp [intOf]; omega
        | false =>
          have hget : d.data.toList[k]? = some (d.get! k) := by rw [get_list d k hlt]; simp [List.getD, hlt]
          have hvb := Lib.hid (hv.out.trans (parseD_bad _ _ _ (all_not hget hdg)))
          have hb1 : (d[k].toNat : Int) < 48 ∨ (48 : Int) ≤ (d[k].toNat : Int) ∧ (57 : Int) < (d[k].toNat : Int) := by
            rw [hg] at hdg
            unfold isD at hdg
            simp only [Bool.and_eq_false_iff, decide_eq_false_iff_not] at hdg
            omega
          replace hget := Lib.hid hget
          replace hall := Lib.hid hall
          replace hg := Lib.hid hg
          replace hdg := Lib.hid hdg
          rcases hb1 with q1 | ⟨q1, q2⟩
          all_goals
            go_wp2
            go_ret2
            refine ⟨ret_v ?_, rfl⟩
            rw [hvb.out]
            rfl
      · obtain rfl : k = d.size := by omega
        rw [take_all] at hall
        by_cases hd0 : d.size = 0
        · have hnil : d.data.toList = [] := List.length_eq_zero_iff.1 hd0
          have hvb := hv.out
          rw [hnil] at hvb
          replace hvb := Lib.hid (hvb.trans (parseD_empty _ _))
          have hem : d.toList = [] := by rw [ByteArray.toList_eq]; exact hnil
          have hem2 : d.toList.isEmpty = true := by rw [hem]; rfl
          replace hem := Lib.hid hem
          replace hnil := Lib.hid hnil
          replace hall := Lib.hid hall
          go_wp2
          go_ret2
          refine ⟨ret_v ?_, rfl⟩
          rw [hvb.out]
          rfl
        · have hpos : 0 < d.size := by omega
          have hne : d.data.toList ≠ [] := fun e => hd0 (by have : d.data.toList.length = d.size := rfl; rw [e] at this; simpa using this.symm)
          have hhd : d.data.toList.head? = some (d.get! 0) := by rw [show d.data.toList = d.data.toList.drop 0 from rfl, drop_at d 0 hpos]; rfl
          have hem : d.toList.isEmpty = false := by rw [ByteArray.toList_eq]; simpa using hne
          have hem2 : ¬ d.toList = [] := by rw [ByteArray.toList_eq]; exact hne
          have hg0 := get_bang d 0 hpos
          by_cases hbad : d.get! 0 = 48 ∧ isZ d = false
          · obtain ⟨hc, hz⟩ := hbad
            have q48 : ((d[0].toNat : Int) == 48) = true := by rw [← hg0, hc]; rfl
            have hvb := hv.out
            have hzq' := hzq.out
            rw [hz] at hzq' hvb
            replace hvb := Lib.hid (hvb.trans (parseD_zero _ _ (by rw [hhd, hc])))
            replace hg0 := Lib.hid hg0
            replace hne := Lib.hid hne
            replace hhd := Lib.hid hhd
            replace hc := Lib.hid hc
            replace hall := Lib.hid hall
            go_wp2
            go_ret2
            refine ⟨ret_v ?_, rfl⟩
            rw [hvb.out]
            rfl
          · have hh : ¬ (d.data.toList.head? = some 48 ∧ isZ d = false) := by
              rintro ⟨h1, h2⟩
              rw [hhd] at h1
              exact hbad ⟨Option.some.inj h1, h2⟩
            have hcase2 : (((d[0].toNat : Int) == 48) = true ∧ (d.toList == [48]) = true) ∨ ((d[0].toNat : Int) == 48) = false := by
              by_cases hc : d.get! 0 = 48
              · left
                refine ⟨by rw [← hg0, hc]; rfl, ?_⟩
                rw [hzq.out]
                cases hz : isZ d with
                | true => rfl
                | false => exact absurd ⟨hc, hz⟩ hbad
              · right
                rw [← hg0]
                exact beqN hc 48 rfl
            have h13z : 13 < d.size → ¬ d.data.toList.head? = some 48 := by
              intro h13 h1
              apply hh
              refine ⟨h1, ?_⟩
              unfold isZ
              rw [decide_eq_false_iff_not]
              intro e
              have e2 := congrArg List.length e
              have e3 : d.data.toList.length = d.size := rfl
              simp at e2
              omega
            replace hg0 := Lib.hid hg0
            replace hne := Lib.hid hne
            replace hhd := Lib.hid hhd
            replace hh := Lib.hid hh
            replace hbad := Lib.hid hbad
            by_cases h13 : 13 < d.size
            · have hvb := Lib.hid (hv.out.trans (parseD_big _ _ _ hne.out hh.out hall (valN_long _ hall h13 (h13z h13))))
              replace hall := Lib.hid hall
              replace h13z := Lib.hid h13z
              rcases hcase2 with ⟨q48, q48z⟩ | q48
              all_goals
                go_wp2
                go_ret2
                refine ⟨ret_v ?_, rfl⟩
                rw [hvb.out]
                rfl
            · clear h13z
              have h13' : (d.size : Int) ≤ 13 := by omega
              have hfin : (1099511627776 < valN d.data.toList ∧ parseV d = numE 0 3) ∨ (¬ 1099511627776 < valN d.data.toList ∧ parseV d = numE (valN d.data.toList : Int) 0) := by
                by_cases hbig : 1099511627776 < valN d.data.toList
                · exact .inl ⟨hbig, hv.out.trans (parseD_big _ _ _ hne.out hh.out hall hbig)⟩
                · exact .inr ⟨hbig, hv.out.trans (parseD_ok _ _ _ hne.out hh.out hall hbig)⟩
              replace hall := Lib.hid hall
              replace hfin := Lib.hid hfin
              rcases hcase2 with ⟨q48, q48z⟩ | q48
              all_goals
                go_wp2
                go_loop [6, 7] (fun n i => ∃ k : Nat, k ≤ d.size ∧ i = .int .i64 k ∧ n = .int .i64 ((valN (d.data.toList.take k) : Nat) : Int)) (fun _ i => d.size - (intOf i).toNat)
                case atStart => exact ⟨0, Nat.zero_le _, rfl, rfl⟩
                case round =>
                  obtain ⟨k, hk2, rfl, rfl⟩ := hrel
                  by_cases hlt2 : k < d.size
                  · have hg := get_bang d k hlt2
                    have hvs := valN_snoc (d.data.toList.take k) (d.get! k)
                    rw [← take_get d k hlt2] at hvs
                    have hdg : isD (d.get! k) = true := by
                      have := List.all_eq_true.1 hall.out (d.get! k)
                      apply this
                      rw [get_list d k hlt2]
                      simp only [List.getD]
                      rw [List.getElem?_eq_getElem (by exact hlt2)]
                      exact List.getElem_mem _
                    have hb1 : 48 ≤ (d.get! k).toNat ∧ (d.get! k).toNat ≤ 57 := by simpa [isD] using hdg
                    have hvl : valN (d.data.toList.take k) < 10000000000000 := by
                      apply valN_lt
                      · rw [List.all_eq_true]
                        intro c hc
                        exact List.all_eq_true.1 hall.out c (List.mem_of_mem_take hc)
                      · rw [List.length_take]; omega
                    rw [hg] at hb1 hvs
                    have q1 : (48 : Int) ≤ (d[k].toNat : Int) := by omega
                    have q2 : (d[k].toNat : Int) ≤ 57 := by omega
                    generalize valN (d.data.toList.take k) = v at hvs hvl
                    have hstep : (10 * (v : Int) + ((d[k].toNat : Int) - 48)) = ((valN (d.data.toList.take (k + 1)) : Nat) : Int) := by omega
                    have hv13 : (v : Int) < 10000000000000 := by omega
                    clear hb1
                    replace hstep := Lib.hid hstep
                    replace hvs := Lib.hid hvs
                    replace hg := Lib.hid hg
                    replace hdg := Lib.hid hdg
                    go_wp2
                    go_round
                    case rel => exact ⟨k + 1, by omega, by go_num, by rw [hstep.out]⟩
                    case measure => simp [intOf]; omega
                  · obtain rfl : k = d.size := by omega
                    rw [take_all]
                    have hfin' := hfin.out
                    clear hfin
                    generalize valN d.data.toList = v at hfin'
                    rcases hfin' with ⟨hb, hvb⟩ | ⟨hb, hvb⟩
                    · have hb' : (1099511627776 : Int) < (v : Int) := by omega
                      replace hvb := Lib.hid hvb
                      clear hb
                      go_wp2
                      go_ret2
                      refine ⟨ret_v ?_, rfl⟩
                      rw [hvb.out]
                      rfl
                    · have hb' : (v : Int) ≤ 1099511627776 := by omega
                      replace hvb := Lib.hid hvb
                      clear hb
                      go_wp2
                      go_ret2
                      refine ⟨ret_v ?_, rfl⟩
                      rw [hvb.out]
                      rfl
end Go.Proofs.YtcbnefeedoabeaaGreatDoor
/- Contracts of the document's parts of a version. -/
namespace Go.Proofs.YtcbnefeedoabeaaGreatDoor
open Go Go.RowKit

/-- Three numbers in a block, zeros in the block ahead of it. -/
structure Out3 (l : List Int) (B : Nat) (w wr : World) : Prop where
  first : wr.heap[B]? = some (.cells #[.int .i64 0, .int .i64 0, .int .i64 0] 122 (0, 0))
  here : wr.heap[B + 1]? = some (.cells (l.map fun z => Value.int .i64 z).toArray 122 (0, 0))
  below : Below B w wr
theorem Out3.start (w : World) : Out3 [0, 0, 0] w.heap.size w ((w.alloc (.cells #[.int .i64 0, .int .i64 0, .int .i64 0] 122)).alloc (.cells #[.int .i64 0, .int .i64 0, .int .i64 0] 122)) := by
  refine ⟨?_, ?_, ((Below.refl _ w).alloc (Nat.le_refl _) _).alloc (by simp) _⟩
  · rw [Below.heap_alloc _ _ _ (by simp)]
    exact heap_alloc_new w _
  · have := heap_alloc_new (w.alloc (.cells #[.int .i64 0, .int .i64 0, .int .i64 0] 122)) (.cells #[.int .i64 0, .int .i64 0, .int .i64 0] 122)
    rw [World.size_alloc] at this
    exact this
theorem Out3.put {l : List Int} {B : Nat} {w wr : World} (h : Out3 l B w wr) (i : Nat) (z : Int) : Out3 (l.set i z) B w (wr.setCell ⟨B + 1, i, none⟩ (.int .i64 z)) := by
  refine ⟨?_, ?_, h.below.setCell (p := ⟨B + 1, i, none⟩) (Nat.le_succ _) _⟩
  · rw [Below.heap_setCell _ _ _ _ (by simp)]
    exact h.first
  · show (wr.heap.modify (B + 1) _)[B + 1]? = _
    rw [Array.getElem?_modify, if_pos rfl, h.here]
    simp [List.map_set]
theorem Out3.cell {l : List Int} {B : Nat} {w wr : World} (h : Out3 l B w wr) (i : Nat) (hi : i < l.length) : wr.cell? ⟨B + 1, i, none⟩ = some (.int .i64 l[i]) := by
  rw [Lib.cell_of_heap h.here]
  simp [hi]
theorem Out3.free {l : List Int} {B : Nat} {w wr : World} (h : Out3 l B w wr) (i : Nat) : wr.frozen? ⟨B + 1, i, none⟩ = false := Lib.frozen_of_heap h.here i
theorem Out3.zero {l : List Int} {B : Nat} {w wr : World} (h : Out3 l B w wr) (i : Nat) (hi : i < 3) : wr.cell? ⟨B, i, none⟩ = some (.int .i64 0) := by
  rw [Lib.cell_of_heap h.first]
  have hc : i = 0 ∨ i = 1 ∨ i = 2 := by omega
  rcases hc with rfl | rfl | rfl <;> rfl
theorem Out3.free0 {l : List Int} {B : Nat} {w wr : World} (h : Out3 l B w wr) (i : Nat) : wr.frozen? ⟨B, i, none⟩ = false := Lib.frozen_of_heap h.first i
theorem fillV_length (s : ByteArray) (k : Nat) : (fillV s k).length = 3 := rfl

set_option maxHeartbeats 8000000 in
theorem refParts_any (s : ByteArray) (w : World) (hs : s.size ≤ 9223372036854775806) :
    Calls Tryz.prog 86 #[.string s] w fun e w' => e = .returned (verV s) ∧ Below w.heap.size w w' := by
  go_enter Tryz.func86, Tryz.ntmps86
  go_wp2
  have hs0 := Out3.start w
  generalize (w.alloc (.cells #[.int .i64 0, .int .i64 0, .int .i64 0] 122)).alloc (.cells #[.int .i64 0, .int .i64 0, .int .i64 0] 122) = w0 at hs0 ⊢
  go_loopw [5, 6, 7, 8, 9] (fun at_ i _ _ _ wr => ∃ k : Nat, k ≤ 3 ∧ i = .int .i64 k ∧ at_ = .int .i64 (startAt s k : Nat) ∧ Hid (∀ j, j < k → partOk s j) ∧ (k < 3 → startAt s k ≤ s.size) ∧ startAt s k ≤ s.size + 1 ∧ Out3 (fillV s k) w.heap.size w wr) (fun _ i _ _ _ _ => 3 - (intOf i).toNat)
  case atStart => exact ⟨0, by omega, rfl, rfl, Lib.hid (fun j h => by omega), fun _ => Nat.zero_le _, Nat.zero_le _, hs0⟩
  case round =>
    obtain ⟨k, hk, rfl, rfl, hok, hle, hle1, hout⟩ := hrel
    clear hs0
    by_cases hlt : k < 3
    · have hp := hle hlt
      clear hle hle1
      have hlt' : (k : Int) < 3 := by omega
      obtain ⟨p, hpe⟩ : ∃ p, startAt s k = p := ⟨_, rfl⟩
      rw [hpe] at hp ⊢
      replace hpe := Lib.hid hpe
      go_wp2
      go_loop [5] (fun v => ∃ q : Nat, q ≤ s.size ∧ p ≤ q ∧ v = .int .i64 q ∧ Hid (∀ j, p ≤ j → j < q → s.get! j ≠ 46)) (fun v => s.size - (intOf v).toNat)
      case atStart => exact ⟨p, hp, Nat.le_refl _, rfl, Lib.hid (fun j h1 h2 => by omega)⟩
      case round =>
        obtain ⟨q, hq, hpq, rfl, hno⟩ := hrel
        have z0 := hout.zero 0 (by omega)
        have z1 := hout.zero 1 (by omega)
        have z2 := hout.zero 2 (by omega)
        have zf := hout.free0
        have hbl := hout.below
        by_cases hin : q < s.size
        · have hg := get_bang s q hin
          by_cases hd : s.get! q = 46
          · have hnd := nextDot_eq s p q hpq hq hno.out (.inr hd)
            have hd2 : (s[q].toNat : Int) = 46 := by rw [← hg, hd]; rfl
            have hseg : segAt s k = s.extract p q := by unfold segAt; rw [hpe.out, hnd]
            have hpart : partOk s k ↔ (parseP (s.extract p q)).2 = 0 ∧ 0 ≤ (parseP (s.extract p q)).1 ∧ (parseP (s.extract p q)).1 ≤ 999999 ∧ (k < 2 ↔ q < s.size) := by unfold partOk verN; rw [hseg, hpe.out, hnd]
            have hvn : verN s k = (parseP (s.extract p q)).1 := by unfold verN; rw [hseg]
            have hcall := refParse_any (s.extract p q) wr (by rw [ByteArray.size_extract]; omega)
            rw [parseV_eq] at hcall; unfold numE at hcall
            have herr := parseP_err (s.extract p q)
            have hbnd := parseP_le (s.extract p q)
            generalize (parseP (s.extract p q)).1 = n at hcall hpart hvn hbnd
            generalize (parseP (s.extract p q)).2 = e at hcall hpart herr
            replace hcall := Lib.hid hcall
            replace hseg := Lib.hid hseg
            clear hno
            have hin' : (q : Int) < (s.size : Int) := by omega
            clear hg hd
            by_cases hp2 : partOk s k
            · obtain ⟨rfl, h0, h9, hk2⟩ := hpart.1 hp2
              have hkk : k < 2 := hk2.2 hin
              have hkk' : (k : Int) < 2 := by omega
              have hok2 := Lib.hid (fun (j : Nat) (hj : j < k + 1) => (show partOk s j from if h : j < k then hok.out j h else (by have e9 : j = k := (by omega); rw [e9]; exact hp2)))
              have hst : startAt s (k + 1) = q + 1 := by show nextDot s (startAt s k) + 1 = q + 1; rw [hpe.out, hnd]
              have hput := hout.put k n
              rw [← hvn, fillV_set s k hlt, hvn] at hput
              have hcl := hout.cell k (by rw [fillV_length]; exact hlt)
              have hcf := hout.free k
              replace hst := Lib.hid hst
              clear z0 z1 z2 zf hpart hp2 hk2 hnd hvn herr hbnd
              go_wp2_with (go_at_call 134; refine hcall.out.mono ?_; rintro e9 w9 ⟨rfl, rfl⟩)
              go_roundw
              case rel => exact ⟨k + 1, by omega, by go_num, by rw [hst.out]; go_num, hok2, fun _ => by rw [hst.out]; omega, by rw [hst.out]; omega, hput⟩
              case measure => simp [intOf]; omega
            · have hvb := Lib.hid (verV_bad s k hlt hp2)
              have hway : e = 1 ∨ e = 3 ∨ (e = 0 ∧ n < 0) ∨ (e = 0 ∧ 0 ≤ n ∧ 999999 < n) ∨ (e = 0 ∧ 0 ≤ n ∧ n ≤ 999999 ∧ ¬ (k < 2 ↔ q < s.size)) := by
                by_cases g0 : e = 0
                · by_cases g1 : n < 0
                  · exact .inr (.inr (.inl ⟨g0, g1⟩))
                  · by_cases g2 : 999999 < n
                    · exact .inr (.inr (.inr (.inl ⟨g0, by omega, g2⟩)))
                    · exact .inr (.inr (.inr (.inr ⟨g0, by omega, by omega, fun g => hp2 (hpart.2 ⟨g0, by omega, by omega, g⟩)⟩)))
                · rcases herr with h | h | h
                  · exact absurd h g0
                  · exact .inl h
                  · exact .inr (.inl h)
              clear hpart hp2 hnd hvn herr hout hok
              rcases hway with rfl | rfl | ⟨rfl, g1⟩ | ⟨rfl, g1, g2⟩ | ⟨rfl, g1, g2, g3⟩
              · go_wp2_with (go_at_call 134; refine hcall.out.mono ?_; rintro e9 w9 ⟨rfl, rfl⟩)
                refine bodyPost_ret (v := .tuple #[.agg #[.int .i64 0, .int .i64 0, .int .i64 0], .bool false]) (by simp [results, Tryz.results86, go_sem, z0, z1, z2]) rfl ⟨by rw [hvb.out], ?_⟩
                exact ((hbl.setCell (p := ⟨w.heap.size, 0, none⟩) (Nat.le_refl _) _).setCell (p := ⟨w.heap.size, 1, none⟩) (Nat.le_refl _) _).setCell (p := ⟨w.heap.size, 2, none⟩) (Nat.le_refl _) _
              · go_wp2_with (go_at_call 134; refine hcall.out.mono ?_; rintro e9 w9 ⟨rfl, rfl⟩)
                refine bodyPost_ret (v := .tuple #[.agg #[.int .i64 0, .int .i64 0, .int .i64 0], .bool false]) (by simp [results, Tryz.results86, go_sem, z0, z1, z2]) rfl ⟨by rw [hvb.out], ?_⟩
                exact ((hbl.setCell (p := ⟨w.heap.size, 0, none⟩) (Nat.le_refl _) _).setCell (p := ⟨w.heap.size, 1, none⟩) (Nat.le_refl _) _).setCell (p := ⟨w.heap.size, 2, none⟩) (Nat.le_refl _) _
              · go_wp2_with (go_at_call 134; refine hcall.out.mono ?_; rintro e9 w9 ⟨rfl, rfl⟩)
                refine bodyPost_ret (v := .tuple #[.agg #[.int .i64 0, .int .i64 0, .int .i64 0], .bool false]) (by simp [results, Tryz.results86, go_sem, z0, z1, z2]) rfl ⟨by rw [hvb.out], ?_⟩
                exact ((hbl.setCell (p := ⟨w.heap.size, 0, none⟩) (Nat.le_refl _) _).setCell (p := ⟨w.heap.size, 1, none⟩) (Nat.le_refl _) _).setCell (p := ⟨w.heap.size, 2, none⟩) (Nat.le_refl _) _
              · go_wp2_with (go_at_call 134; refine hcall.out.mono ?_; rintro e9 w9 ⟨rfl, rfl⟩)
                refine bodyPost_ret (v := .tuple #[.agg #[.int .i64 0, .int .i64 0, .int .i64 0], .bool false]) (by simp [results, Tryz.results86, go_sem, z0, z1, z2]) rfl ⟨by rw [hvb.out], ?_⟩
                exact ((hbl.setCell (p := ⟨w.heap.size, 0, none⟩) (Nat.le_refl _) _).setCell (p := ⟨w.heap.size, 1, none⟩) (Nat.le_refl _) _).setCell (p := ⟨w.heap.size, 2, none⟩) (Nat.le_refl _) _
              · have hkk : ¬ (k : Int) < 2 := fun h => g3 ⟨fun _ => hin, fun _ => by omega⟩
                have hkd : decide ((k : Int) < 2) = false := decide_eq_false hkk
                clear g3
                go_wp2_with (go_at_call 134; refine hcall.out.mono ?_; rintro e9 w9 ⟨rfl, rfl⟩)
                refine bodyPost_ret (v := .tuple #[.agg #[.int .i64 0, .int .i64 0, .int .i64 0], .bool false]) (by simp [results, Tryz.results86, go_sem, z0, z1, z2]) rfl ⟨by rw [hvb.out], ?_⟩
                exact ((hbl.setCell (p := ⟨w.heap.size, 0, none⟩) (Nat.le_refl _) _).setCell (p := ⟨w.heap.size, 1, none⟩) (Nat.le_refl _) _).setCell (p := ⟨w.heap.size, 2, none⟩) (Nat.le_refl _) _
          · have hd2 : ¬ (s[q].toNat : Int) = 46 := by
              rw [← hg]
              intro h
              exact hd (UInt8.toNat_inj.1 (by show _ = 46; omega))
            have hno2 := Lib.hid (fun (j : Nat) (h1 : p ≤ j) (h2 : j < q + 1) => (show s.get! j ≠ 46 from if h : j < q then hno.out j h1 h else (by have e : j = q := (by omega); rw [e]; exact hd)))
            replace hg := Lib.hid hg
            replace hd := Lib.hid hd
            clear z0 z1 z2 zf hbl hno
            go_wp2
            go_round
            case rel => exact ⟨q + 1, by omega, by omega, by go_num, hno2⟩
            case measure => simp [intOf]; omega
        · obtain rfl : q = s.size := by omega
          have hnd := nextDot_eq s p s.size hpq (Nat.le_refl _) hno.out (.inl rfl)
          have hseg : segAt s k = s.extract p s.size := by unfold segAt; rw [hpe.out, hnd]
          have hpart : partOk s k ↔ (parseP (s.extract p s.size)).2 = 0 ∧ 0 ≤ (parseP (s.extract p s.size)).1 ∧ (parseP (s.extract p s.size)).1 ≤ 999999 ∧ (k < 2 ↔ s.size < s.size) := by unfold partOk verN; rw [hseg, hpe.out, hnd]
          have hvn : verN s k = (parseP (s.extract p s.size)).1 := by unfold verN; rw [hseg]
          have hcall := refParse_any (s.extract p s.size) wr (by rw [ByteArray.size_extract]; omega)
          rw [parseV_eq] at hcall; unfold numE at hcall
          have herr := parseP_err (s.extract p s.size)
          have hbnd := parseP_le (s.extract p s.size)
          generalize (parseP (s.extract p s.size)).1 = n at hcall hpart hvn hbnd
          generalize (parseP (s.extract p s.size)).2 = e at hcall hpart herr
          replace hcall := Lib.hid hcall
          replace hseg := Lib.hid hseg
          clear hno
          have hin' : ¬ (s.size : Int) < (s.size : Int) := by omega
          by_cases hp2 : partOk s k
          · obtain ⟨rfl, h0, h9, hk2⟩ := hpart.1 hp2
            have hkk : ¬ k < 2 := fun h => hin (hk2.1 h)
            have hkk' : ¬ (k : Int) < 2 := by omega
            have hok2 := Lib.hid (fun (j : Nat) (hj : j < k + 1) => (show partOk s j from if h : j < k then hok.out j h else (by have e9 : j = k := (by omega); rw [e9]; exact hp2)))
            have hst : startAt s (k + 1) = s.size + 1 := by show nextDot s (startAt s k) + 1 = s.size + 1; rw [hpe.out, hnd]
            have hput := hout.put k n
            rw [← hvn, fillV_set s k hlt, hvn] at hput
            have hcl := hout.cell k (by rw [fillV_length]; exact hlt)
            have hcf := hout.free k
            replace hst := Lib.hid hst
            clear z0 z1 z2 zf hpart hp2 hk2 hnd hvn herr hbnd
            go_wp2_with (go_at_call 134; refine hcall.out.mono ?_; rintro e9 w9 ⟨rfl, rfl⟩)
            go_roundw
            case rel => exact ⟨k + 1, by omega, by go_num, by rw [hst.out]; go_num, hok2, fun _ => by rw [hst.out]; omega, by rw [hst.out]; omega, hput⟩
            case measure => simp [intOf]; omega
          · have hvb := Lib.hid (verV_bad s k hlt hp2)
            have hway : e = 1 ∨ e = 3 ∨ (e = 0 ∧ n < 0) ∨ (e = 0 ∧ 0 ≤ n ∧ 999999 < n) ∨ (e = 0 ∧ 0 ≤ n ∧ n ≤ 999999 ∧ ¬ (k < 2 ↔ s.size < s.size)) := by
              by_cases g0 : e = 0
              · by_cases g1 : n < 0
                · exact .inr (.inr (.inl ⟨g0, g1⟩))
                · by_cases g2 : 999999 < n
                  · exact .inr (.inr (.inr (.inl ⟨g0, by omega, g2⟩)))
                  · exact .inr (.inr (.inr (.inr ⟨g0, by omega, by omega, fun g => hp2 (hpart.2 ⟨g0, by omega, by omega, g⟩)⟩)))
              · rcases herr with h | h | h
                · exact absurd h g0
                · exact .inl h
                · exact .inr (.inl h)
            clear hpart hp2 hnd hvn herr hout hok
            rcases hway with rfl | rfl | ⟨rfl, g1⟩ | ⟨rfl, g1, g2⟩ | ⟨rfl, g1, g2, g3⟩
            · go_wp2_with (go_at_call 134; refine hcall.out.mono ?_; rintro e9 w9 ⟨rfl, rfl⟩)
              refine bodyPost_ret (v := .tuple #[.agg #[.int .i64 0, .int .i64 0, .int .i64 0], .bool false]) (by simp [results, Tryz.results86, go_sem, z0, z1, z2]) rfl ⟨by rw [hvb.out], ?_⟩
              exact ((hbl.setCell (p := ⟨w.heap.size, 0, none⟩) (Nat.le_refl _) _).setCell (p := ⟨w.heap.size, 1, none⟩) (Nat.le_refl _) _).setCell (p := ⟨w.heap.size, 2, none⟩) (Nat.le_refl _) _
            · go_wp2_with (go_at_call 134; refine hcall.out.mono ?_; rintro e9 w9 ⟨rfl, rfl⟩)
              refine bodyPost_ret (v := .tuple #[.agg #[.int .i64 0, .int .i64 0, .int .i64 0], .bool false]) (by simp [results, Tryz.results86, go_sem, z0, z1, z2]) rfl ⟨by rw [hvb.out], ?_⟩
              exact ((hbl.setCell (p := ⟨w.heap.size, 0, none⟩) (Nat.le_refl _) _).setCell (p := ⟨w.heap.size, 1, none⟩) (Nat.le_refl _) _).setCell (p := ⟨w.heap.size, 2, none⟩) (Nat.le_refl _) _
            · go_wp2_with (go_at_call 134; refine hcall.out.mono ?_; rintro e9 w9 ⟨rfl, rfl⟩)
              refine bodyPost_ret (v := .tuple #[.agg #[.int .i64 0, .int .i64 0, .int .i64 0], .bool false]) (by simp [results, Tryz.results86, go_sem, z0, z1, z2]) rfl ⟨by rw [hvb.out], ?_⟩
              exact ((hbl.setCell (p := ⟨w.heap.size, 0, none⟩) (Nat.le_refl _) _).setCell (p := ⟨w.heap.size, 1, none⟩) (Nat.le_refl _) _).setCell (p := ⟨w.heap.size, 2, none⟩) (Nat.le_refl _) _
            · go_wp2_with (go_at_call 134; refine hcall.out.mono ?_; rintro e9 w9 ⟨rfl, rfl⟩)
              refine bodyPost_ret (v := .tuple #[.agg #[.int .i64 0, .int .i64 0, .int .i64 0], .bool false]) (by simp [results, Tryz.results86, go_sem, z0, z1, z2]) rfl ⟨by rw [hvb.out], ?_⟩
              exact ((hbl.setCell (p := ⟨w.heap.size, 0, none⟩) (Nat.le_refl _) _).setCell (p := ⟨w.heap.size, 1, none⟩) (Nat.le_refl _) _).setCell (p := ⟨w.heap.size, 2, none⟩) (Nat.le_refl _) _
            · have hkk : (k : Int) < 2 := by by_cases h : k < 2; omega; exact absurd ⟨fun h2 => absurd h2 h, fun h2 => absurd h2 hin⟩ g3
              have hkd : decide ((k : Int) < 2) = true := decide_eq_true hkk
              clear g3
              go_wp2_with (go_at_call 134; refine hcall.out.mono ?_; rintro e9 w9 ⟨rfl, rfl⟩)
              refine bodyPost_ret (v := .tuple #[.agg #[.int .i64 0, .int .i64 0, .int .i64 0], .bool false]) (by simp [results, Tryz.results86, go_sem, z0, z1, z2]) rfl ⟨by rw [hvb.out], ?_⟩
              exact ((hbl.setCell (p := ⟨w.heap.size, 0, none⟩) (Nat.le_refl _) _).setCell (p := ⟨w.heap.size, 1, none⟩) (Nat.le_refl _) _).setCell (p := ⟨w.heap.size, 2, none⟩) (Nat.le_refl _) _
    · obtain rfl : k = 3 := by omega
      have hv : verV s = .tuple #[.agg #[.int .i64 (verN s 0), .int .i64 (verN s 1), .int .i64 (verN s 2)], .bool true] := by
        unfold verV
        rw [if_pos ⟨hok.out 0 (by omega), hok.out 1 (by omega), hok.out 2 (by omega)⟩]
      replace hv := Lib.hid hv
      have d0 : wr.cell? ⟨w.heap.size + 1, 0, none⟩ = some (.int .i64 (verN s 0)) := hout.cell 0 (by rw [fillV_length]; omega)
      have d1 : wr.cell? ⟨w.heap.size + 1, 1, none⟩ = some (.int .i64 (verN s 1)) := hout.cell 1 (by rw [fillV_length]; omega)
      have d2 : wr.cell? ⟨w.heap.size + 1, 2, none⟩ = some (.int .i64 (verN s 2)) := hout.cell 2 (by rw [fillV_length]; omega)
      have z0 := hout.zero 0 (by omega)
      have z1 := hout.zero 1 (by omega)
      have z2 := hout.zero 2 (by omega)
      have zf := hout.free0
      have hbl := hout.below
      clear hout hok hle hle1
      go_wp2
      refine bodyPost_ret (v := .tuple #[.agg #[.int .i64 (verN s 0), .int .i64 (verN s 1), .int .i64 (verN s 2)], .bool true]) (by simp [results, Tryz.results86, go_sem, z0, z1, z2]) rfl ⟨by rw [hv.out], ?_⟩
      exact ((hbl.setCell (p := ⟨w.heap.size, 0, none⟩) (Nat.le_refl _) _).setCell (p := ⟨w.heap.size, 1, none⟩) (Nat.le_refl _) _).setCell (p := ⟨w.heap.size, 2, none⟩) (Nat.le_refl _) _
end Go.Proofs.YtcbnefeedoabeaaGreatDoor
/- Contracts: validString_any. -/
namespace Go.Proofs.YtcbnefeedoabeaaGreatDoor
open Go Go.RowKit

/-- The two tables of package unicode/utf8 hold what its text lays. -/
def Tabs (w : World) : Prop := Lib.Utf8Tabs 4 5 w
theorem validString_any (s : ByteArray) (w : World) (hs : s.size ≤ 9223372036854775807) (hT : Tabs w) :
    Calls Tryz.prog 128 #[.string s] w fun e w' => e = .returned (.bool (Lib.validD s.data.toList)) ∧ Below w.heap.size w w' :=
  Any.utf8_ValidString Tryz.laysValid s w hs hT

theorem cell_below {w w' : World} {b o : Nat} {v : Value} (h : w.cell? ⟨b, o, none⟩ = some v) (hb : Below w.heap.size w w') : w'.cell? ⟨b, o, none⟩ = some v := by
  by_cases hlt : b < w.heap.size
  · rw [hb.cell (p := ⟨b, o, none⟩) hlt]; exact h
  · exfalso
    simp [World.cell?, Array.getElem?_eq_none (Nat.le_of_not_lt hlt)] at h
theorem Tabs.below {w w' : World} (h : Tabs w) (hb : Below w.heap.size w w') : Tabs w' :=
  ⟨fun c hc => cell_below (h.1 c hc) hb, fun i hi => ⟨cell_below (h.2 i hi).1 hb, cell_below (h.2 i hi).2 hb⟩⟩
end Go.Proofs.YtcbnefeedoabeaaGreatDoor
/- Contracts: refValid_any, refValid_loop. -/
namespace Go.Proofs.YtcbnefeedoabeaaGreatDoor
open Go Go.RowKit

set_option maxHeartbeats 2000000 in
theorem refValid_loop (s : ByteArray) (w : World) (hs : s.size ≤ 200) (hv : Lib.validD s.data.toList = true) (hT : Tabs w) :
    Calls Tryz.prog 77 #[.string s] w fun e w' => e = .returned (.bool (validB s)) ∧ Below w.heap.size w w' := by
  go_enter Tryz.func77, Tryz.ntmps77
  go_wp2_with (go_at_call 128; refine (validString_any _ _ (by omega) hT).mono ?_; rintro e w0 ⟨rfl, hb0⟩)
  go_loop [3] (fun i => ∃ k : Nat, k ≤ s.size ∧ i = .int .i64 k ∧ plainTo s k) (fun i => s.size - (intOf i).toNat)
  case atStart => exact ⟨0, Nat.zero_le _, rfl, fun i hi => by omega⟩
  case round =>
    obtain ⟨k, hk, rfl, hto⟩ := hrel
    by_cases hlt : k < s.size
    · have hg := get_bang s k hlt
      by_cases hok : okC (s.get! k).toNat
      · have hnext := Lib.hid (plainTo_succ hto hok)
        replace hto := Lib.hid hto
        replace hv := Lib.hid hv
        rw [hg] at hok
        unfold okC at hok
        obtain ⟨hok1, hok2⟩ := hok
        have hno : ((s[k].toNat : Int) == 127) = false := by simp; omega
        have hlo : (32 : Int) ≤ (s[k].toNat : Int) := by omega
        replace hg := Lib.hid hg
        clear hok1 hok2
        go_wp2
        go_round
        case rel => exact ⟨k + 1, by omega, by go_num, hnext.out⟩
        case measure => simp [intOf]; omega
      · have hnot := Lib.hid (validB_ctl hlt hok)
        replace hto := Lib.hid hto
        replace hv := Lib.hid hv
        rw [hg] at hok
        unfold okC at hok
        by_cases h32 : (s[k].toNat : Int) < 32
        · replace hg := Lib.hid hg
          replace hok := Lib.hid hok
          go_wp2
          go_ret
          exact ⟨ret_bool hnot.out.symm, hb0⟩
        · have h127 : ((s[k].toNat : Int) == 127) = true := by simp; omega
          replace hg := Lib.hid hg
          clear hok
          go_wp2
          go_ret
          exact ⟨ret_bool hnot.out.symm, hb0⟩
    · obtain rfl : k = s.size := by omega
      have hk := Lib.hid (validB_yes hs hv hto)
      replace hto := Lib.hid hto
      replace hv := Lib.hid hv
      go_wp2
      go_ret
      exact ⟨ret_bool hk.out.symm, hb0⟩

theorem refValid_any (s : ByteArray) (w : World) (hm : s.size ≤ 9223372036854775807) (hT : Tabs w) :
    Calls Tryz.prog 77 #[.string s] w fun e w' => e = .returned (.bool (validB s)) ∧ Below w.heap.size w w' := by
  by_cases h1 : s.size ≤ 200
  · cases hv : Lib.validD s.data.toList with
    | true => exact refValid_loop s w h1 hv hT
    | false =>
      have hk := Lib.hid (validB_bad hv)
      go_enter Tryz.func77, Tryz.ntmps77
      go_wp2_with (go_at_call 128; refine (validString_any _ _ hm hT).mono ?_; rintro e w0 ⟨rfl, hb0⟩)
      go_ret
      exact ⟨ret_bool hk.out.symm, hb0⟩
  · have hk := Lib.hid (validB_long h1)
    have h3 : 200 < s.size := by omega
    clear h1
    go_enter Tryz.func77, Tryz.ntmps77
    go_wp2
    go_ret
    exact ⟨ret_bool hk.out.symm, Below.refl _ _⟩
end Go.Proofs.YtcbnefeedoabeaaGreatDoor
/- Contract of the document's check of a list of texts. -/
namespace Go.Proofs.YtcbnefeedoabeaaGreatDoor
open Go Go.RowKit

set_option maxHeartbeats 8000000 in
theorem refList_any (a0 : Option Addr) (l : List ByteArray) (cap : Nat) (w : World) (hl : l.length ≤ 9223372036854775806) (hs : ∀ s ∈ l, s.size ≤ 9223372036854775806) (hT : Tabs w) (hA : TextsAre a0 l w) :
    Calls Tryz.prog 87 #[.slice a0 (l.length : Nat) cap] w fun e w' => e = .returned (.int .i64 (listE l)) ∧ Below w.heap.size w w' := by
  by_cases h20 : 20 < l.length
  · have he : listE l = 5 := if_pos h20
    rw [he]
    go_enter Tryz.func87, Tryz.ntmps87
    go_wp2
    go_ret
    exact ⟨rfl, Below.refl _ _⟩
  · have he : listE l = if l.all validB = true then (if ascB l = true then 0 else 9) else 2 := if_neg h20
    replace he := Lib.hid he
    go_enter Tryz.func87, Tryz.ntmps87
    go_wp2
    go_loopw [3] (fun i wr => ∃ n : Nat, n ≤ l.length ∧ i = .int .i64 n ∧ Hid ((l.take n).all validB = true) ∧ Below w.heap.size w wr) (fun i _ => l.length - (intOf i).toNat)
    case atStart => exact ⟨0, Nat.zero_le _, rfl, Lib.hid rfl, Below.refl _ _⟩
    case round =>
      obtain ⟨n, hn, rfl, hv, hbl⟩ := hrel
      by_cases hlt : n < l.length
      · obtain ⟨b, off, rfl, hbk, hc⟩ := hA n hlt
        have hcw := hbl.cell (p := ⟨b, off + n, none⟩) hbk
        rw [hc] at hcw
        have hlt' : (n : Int) < (l.length : Int) := by omega
        have hcall := Lib.hid (refValid_any l[n] wr (by have := hs l[n] (List.getElem_mem hlt); omega) (hT.below hbl))
        cases hvb : validB l[n] with
        | true =>
          have hv2 := Lib.hid (validAll_step l n hlt hv.out hvb)
          rw [hvb] at hcall
          replace hvb := Lib.hid hvb
          generalize l[n] = s at hcw hcall
          go_wp2_with (go_at_call 77; refine hcall.out.mono ?_; rintro e w1 ⟨rfl, hb1⟩)
          go_roundw
          case rel => exact ⟨n + 1, by omega, by go_num, hv2, hbl.trans (hb1.mono hbl.size)⟩
          case measure => simp [intOf]; omega
        | false =>
          have hno := validAll_no l n hlt hvb
          have he2 := he.out
          rw [if_neg (by rw [hno]; simp)] at he2
          replace he2 := Lib.hid he2
          rw [hvb] at hcall
          replace hvb := Lib.hid hvb
          replace hno := Lib.hid hno
          generalize l[n] = s at hcw hcall
          go_wp2_with (go_at_call 77; refine hcall.out.mono ?_; rintro e w1 ⟨rfl, hb1⟩)
          go_ret
          exact ⟨by rw [he2.out]; rfl, hbl.trans (hb1.mono hbl.size)⟩
      · obtain rfl : n = l.length := by omega
        have hlt' : ¬ (l.length : Int) < (l.length : Int) := by omega
        have hall := hv.out
        rw [List.take_of_length_le (Nat.le_refl _)] at hall
        have he2 := he.out
        rw [if_pos hall] at he2
        replace he2 := Lib.hid he2
        replace hall := Lib.hid hall
        clear he hv
        obtain ⟨wm, hwm⟩ : ∃ wm : World, wm = wr := ⟨_, rfl⟩
        subst hwm
        go_wp2
        go_loopw [4] (fun i wr => ∃ n : Nat, 1 ≤ n ∧ (n ≤ l.length ∨ n = 1) ∧ i = .int .i64 n ∧ Hid (∀ i, i < n → ascAt l i = true) ∧ Below wm.heap.size wm wr) (fun i _ => l.length - (intOf i).toNat)
        case atStart => exact ⟨1, by omega, .inr rfl, rfl, Lib.hid (fun i h => by obtain rfl : i = 0 := (by omega); rfl), Below.refl _ _⟩
        case round =>
          obtain ⟨n, h1, hn2, rfl, hasc, hb2⟩ := hrel
          by_cases hlt2 : n < l.length
          · obtain ⟨b, off, rfl, hbk, hc⟩ := hA n hlt2
            obtain ⟨b', off', he', hbk', hc'⟩ := hA (n - 1) (by omega)
            cases he'
            have hbw := hbl.trans (hb2.mono hbl.size)
            have q1 := hbw.cell (p := ⟨b, off + n, none⟩) hbk
            have q2 := hbw.cell (p := ⟨b, off + (n - 1), none⟩) hbk'
            rw [hc] at q1
            rw [hc'] at q2
            obtain ⟨m, rfl⟩ : ∃ m, n = m + 1 := ⟨n - 1, by omega⟩
            simp only [Nat.add_sub_cancel] at q2
            have hltm : ((m : Int) + 1) < (l.length : Int) := by omega
            have hltm2 : (m : Int) < (l.length : Int) := by omega
            have hat : ascAt l (m + 1) = !leqT l[m + 1] (l[m]'(by omega)) := by simp [ascAt, hlt2, show m < l.length by omega]
            replace hc := Lib.hid hc
            replace hc' := Lib.hid hc'
            obtain ⟨s1, e1⟩ : ∃ s1, l[m + 1] = s1 := ⟨_, rfl⟩
            obtain ⟨s2, e2⟩ : ∃ s2, l[m]'(by omega) = s2 := ⟨_, rfl⟩
            rw [e1] at q1 hat
            rw [e2] at q2 hat
            replace e1 := Lib.hid e1
            replace e2 := Lib.hid e2
            cases hle : leqT s1 s2 with
            | false =>
              rw [hle] at hat
              have hle' : (Op.bytesLess s1.toList s2.toList || s1.toList == s2.toList) = false := hle
              have hasc2 := Lib.hid (fun (i : Nat) (h : i < m + 1 + 1) => (show ascAt l i = true from if h2 : i < m + 1 then hasc.out i h2 else (by have e : i = m + 1 := (by omega); rw [e]; exact hat)))
              replace hle := Lib.hid hle
              replace hat := Lib.hid hat
              go_upto_region 11 with (fail)
              go_region
              all_goals
                go_wp2
                refine ⟨⟨m + 1 + 1, by omega, .inl (by omega), by go_num, hasc2, hb2.drew⟩, ?_⟩
                simp [intOf]; omega
            | true =>
              rw [hle] at hat
              have hno := ascB_no l (m + 1) hlt2 hat
              have he3 := he2.out
              rw [if_neg (by rw [hno]; simp)] at he3
              replace he3 := Lib.hid he3
              have hle' : (Op.bytesLess s1.toList s2.toList || s1.toList == s2.toList) = true := hle
              replace hle := Lib.hid hle
              replace hat := Lib.hid hat
              replace hno := Lib.hid hno
              go_upto_region 11 with (fail)
              go_region
              all_goals
                go_wp2
                go_ret
                exact ⟨by rw [he3.out]; rfl, hbw.drew⟩
          · have hlt3 : ¬ (n : Int) < (l.length : Int) := by omega
            have hyes := ascB_yes l (fun i hi => hasc.out i (by omega))
            have he3 := he2.out
            rw [if_pos hyes] at he3
            replace he3 := Lib.hid he3
            replace hyes := Lib.hid hyes
            go_wp2
            go_ret
            exact ⟨by rw [he3.out]; rfl, hbl.trans (hb2.mono hbl.size)⟩
end Go.Proofs.YtcbnefeedoabeaaGreatDoor
/- Contract of the document's check of a value. -/
namespace Go.Proofs.YtcbnefeedoabeaaGreatDoor
open Go Go.RowKit

/-- A value as the program holds it. -/
def Val.agg (x : Val) (a0 : Option Addr) (cap : Nat) : Value := .agg #[.int .i64 x.kind, .int .i64 x.num, .string x.text, .slice a0 (x.list.length : Nat) cap]
theorem text_empty {s : ByteArray} (h : s.size = 0) : s = ⟨#[]⟩ := by
  apply ByteArray.ext
  exact Array.eq_empty_of_size_eq_zero h
theorem text_some {s : ByteArray} (h : ¬ s.size = 0) : s.toList.isEmpty = false := by
  rw [ByteArray.toList_eq]
  have hl : s.data.toList.length = s.size := rfl
  cases hs : s.data.toList with
  | nil => rw [hs] at hl; simp at hl; omega
  | cons c t => rfl
set_option maxHeartbeats 8000000 in
theorem refShape_any (k n : Int) (t : ByteArray) (a0 : Option Addr) (len cap : Nat) (w : World) (hk : 1 ≤ k ∧ k ≤ 5) (b : Bool)
    (hb : b = decide (((k = 1 ∨ k = 2) ∨ n = 0) ∧ ((k = 3 ∨ k = 4) ∨ t.size = 0) ∧ (k = 5 ∨ len = 0))) :
    Calls Tryz.prog 85 #[.agg #[.int .i64 k, .int .i64 n, .string t, .slice a0 len cap]] w fun e w' => e = .returned (.bool b) ∧ Below w.heap.size w w' := by
  have hkk : k = 1 ∨ k = 2 ∨ k = 3 ∨ k = 4 ∨ k = 5 := by omega
  have hB := (Below.refl w.heap.size w).alloc (Nat.le_refl _) (.cells #[.int .i64 k, .int .i64 n, .string t, .slice a0 len cap] 41)
  replace hB := Lib.hid hB
  clear hk
  by_cases h1 : n = 0
  all_goals
    by_cases h2 : t.size = 0
    all_goals
      by_cases h3 : len = 0
      all_goals
        rcases hkk with rfl | rfl | rfl | rfl | rfl
        all_goals
          simp [h1, h2, h3] at hb
          subst hb
          try subst h1
          try subst h3
          try (obtain rfl := text_empty h2)
          try (have h4 := text_some h2)
          try (have h5 : ((len : Int) == 0) = false := by rw [beq_eq_false_iff_ne]; omega)
          try (have h6 : (n == 0) = false := by rw [beq_eq_false_iff_ne]; exact h1)
          try (replace h2 := Lib.hid h2)
          go_enter Tryz.func85, Tryz.ntmps85
          go_wp2
          go_ret
          exact ⟨rfl, hB.out⟩
theorem refShape_val (x : Val) (a0 : Option Addr) (cap : Nat) (w : World) (hk : 1 ≤ x.kind ∧ x.kind ≤ 5) :
    Calls Tryz.prog 85 #[x.agg a0 cap] w fun e w' => e = .returned (.bool (decide (shapeP x))) ∧ Below w.heap.size w w' :=
  refShape_any x.kind x.num x.text a0 x.list.length cap w hk _ rfl
set_option maxHeartbeats 8000000 in
theorem refCheck_any (x : Val) (a0 : Option Addr) (cap : Nat) (w : World) (ht : x.text.size ≤ 9223372036854775806) (hl : x.list.length ≤ 9223372036854775806) (hs : ∀ s ∈ x.list, s.size ≤ 9223372036854775806) (hT : Tabs w) (hA : TextsAre a0 x.list w) :
    Calls Tryz.prog 48 #[x.agg a0 cap] w fun e w' => e = .returned (.int .i64 (checkE x)) ∧ Below w.heap.size w w' := by
  have hB := (Below.refl w.heap.size w).alloc (Nat.le_refl _) (.cells #[.int .i64 x.kind, .int .i64 x.num, .string x.text, .slice a0 x.list.length cap] 41)
  by_cases hk : x.kind < 1 ∨ 5 < x.kind
  · have he : checkE x = 7 := if_pos hk
    rw [he]
    replace he := Lib.hid he
    replace hB := Lib.hid hB
    unfold Val.agg
    rcases hk with hk | hk
    all_goals
      go_enter Tryz.func48, Tryz.ntmps48
      go_wp2
      go_ret
      exact ⟨rfl, hB.out⟩
  · have hk2 : 1 ≤ x.kind ∧ x.kind ≤ 5 := by omega
    have hsh := Lib.hid (fun W => refShape_val x a0 cap W hk2)
    have he : checkE x = _ := if_neg hk
    by_cases hp : shapeP x
    · rw [if_neg (by simpa using hp)] at he
      have hd : decide (shapeP x) = true := decide_eq_true hp
      rw [hd] at hsh
      clear hd
      obtain ⟨k, n, t, l⟩ := x
      replace hp := Lib.hid hp
      replace hsh := Lib.hid hsh.out
      unfold Val.agg at hsh ⊢
      simp only at hk2 he hsh hA hs hl ht hB ⊢
      have b0 : (w.alloc (.cells #[.int .i64 k, .int .i64 n, .string t, .slice a0 l.length cap] 41)).cell? ⟨w.heap.size, 0, none⟩ = some (.int .i64 k) := by rw [Lib.cell_of_heap (heap_alloc_new w _)]; rfl
      have b1 : (w.alloc (.cells #[.int .i64 k, .int .i64 n, .string t, .slice a0 l.length cap] 41)).cell? ⟨w.heap.size, 1, none⟩ = some (.int .i64 n) := by rw [Lib.cell_of_heap (heap_alloc_new w _)]; rfl
      have b2 : (w.alloc (.cells #[.int .i64 k, .int .i64 n, .string t, .slice a0 l.length cap] 41)).cell? ⟨w.heap.size, 2, none⟩ = some (.string t) := by rw [Lib.cell_of_heap (heap_alloc_new w _)]; rfl
      have b3 : (w.alloc (.cells #[.int .i64 k, .int .i64 n, .string t, .slice a0 l.length cap] 41)).cell? ⟨w.heap.size, 3, none⟩ = some (.slice a0 l.length cap) := by rw [Lib.cell_of_heap (heap_alloc_new w _)]; rfl
      replace hB := Lib.hid hB
      replace ht := Lib.hid ht
      replace hl := Lib.hid hl
      clear hk
      have hkk : k = 1 ∨ k = 2 ∨ k = 3 ∨ k = 4 ∨ k = 5 := by omega
      clear hk2
      rcases hkk with rfl | rfl | rfl | rfl | rfl
      · rw [if_pos rfl] at he
        by_cases g : n = 0 ∨ n = 1
        · rw [if_pos g] at he
          rw [he]
          replace he := Lib.hid he
          rcases g with rfl | rfl
          all_goals
            go_enter Tryz.func48, Tryz.ntmps48
            go_wp2_with (go_at_call 85; refine (hsh.out _).mono ?_; rintro e w1 ⟨rfl, hb1⟩; have c1 := hb1.cell (p := ⟨w.heap.size, 1, none⟩) (by simp); have c2 := hb1.cell (p := ⟨w.heap.size, 2, none⟩) (by simp); have c3 := hb1.cell (p := ⟨w.heap.size, 3, none⟩) (by simp); have c0 := hb1.cell (p := ⟨w.heap.size, 0, none⟩) (by simp); rw [b0] at c0; rw [b1] at c1; rw [b2] at c2; rw [b3] at c3)
            go_ret
            exact ⟨rfl, hB.out.trans (hb1.mono hB.out.size)⟩
        · rw [if_neg g] at he
          rw [he]
          replace he := Lib.hid he
          have g0 : (n != 0) = true := by simp; omega
          have g1 : (n != 1) = true := by simp; omega
          have g2 : ¬ n = 0 := by omega
          have g3 : ¬ n = 1 := by omega
          clear g
          go_enter Tryz.func48, Tryz.ntmps48
          go_wp2_with (go_at_call 85; refine (hsh.out _).mono ?_; rintro e w1 ⟨rfl, hb1⟩; have c1 := hb1.cell (p := ⟨w.heap.size, 1, none⟩) (by simp); have c2 := hb1.cell (p := ⟨w.heap.size, 2, none⟩) (by simp); have c3 := hb1.cell (p := ⟨w.heap.size, 3, none⟩) (by simp); have c0 := hb1.cell (p := ⟨w.heap.size, 0, none⟩) (by simp); rw [b0] at c0; rw [b1] at c1; rw [b2] at c2; rw [b3] at c3)
          go_ret
          exact ⟨rfl, hB.out.trans (hb1.mono hB.out.size)⟩
      · rw [if_neg (by decide), if_pos rfl] at he
        by_cases g : n < -1099511627776
        · rw [if_pos (.inl g)] at he
          rw [he]
          replace he := Lib.hid he
          go_enter Tryz.func48, Tryz.ntmps48
          go_wp2_with (go_at_call 85; refine (hsh.out _).mono ?_; rintro e w1 ⟨rfl, hb1⟩; have c1 := hb1.cell (p := ⟨w.heap.size, 1, none⟩) (by simp); have c2 := hb1.cell (p := ⟨w.heap.size, 2, none⟩) (by simp); have c3 := hb1.cell (p := ⟨w.heap.size, 3, none⟩) (by simp); have c0 := hb1.cell (p := ⟨w.heap.size, 0, none⟩) (by simp); rw [b0] at c0; rw [b1] at c1; rw [b2] at c2; rw [b3] at c3)
          go_ret
          exact ⟨rfl, hB.out.trans (hb1.mono hB.out.size)⟩
        · by_cases g2 : 1099511627776 < n
          · rw [if_pos (.inr g2)] at he
            rw [he]
            replace he := Lib.hid he
            go_enter Tryz.func48, Tryz.ntmps48
            go_wp2_with (go_at_call 85; refine (hsh.out _).mono ?_; rintro e w1 ⟨rfl, hb1⟩; have c1 := hb1.cell (p := ⟨w.heap.size, 1, none⟩) (by simp); have c2 := hb1.cell (p := ⟨w.heap.size, 2, none⟩) (by simp); have c3 := hb1.cell (p := ⟨w.heap.size, 3, none⟩) (by simp); have c0 := hb1.cell (p := ⟨w.heap.size, 0, none⟩) (by simp); rw [b0] at c0; rw [b1] at c1; rw [b2] at c2; rw [b3] at c3)
            go_ret
            exact ⟨rfl, hB.out.trans (hb1.mono hB.out.size)⟩
          · rw [if_neg (by omega)] at he
            rw [he]
            replace he := Lib.hid he
            go_enter Tryz.func48, Tryz.ntmps48
            go_wp2_with (go_at_call 85; refine (hsh.out _).mono ?_; rintro e w1 ⟨rfl, hb1⟩; have c1 := hb1.cell (p := ⟨w.heap.size, 1, none⟩) (by simp); have c2 := hb1.cell (p := ⟨w.heap.size, 2, none⟩) (by simp); have c3 := hb1.cell (p := ⟨w.heap.size, 3, none⟩) (by simp); have c0 := hb1.cell (p := ⟨w.heap.size, 0, none⟩) (by simp); rw [b0] at c0; rw [b1] at c1; rw [b2] at c2; rw [b3] at c3)
            go_ret
            exact ⟨rfl, hB.out.trans (hb1.mono hB.out.size)⟩
      · rw [if_neg (by decide), if_neg (by decide), if_pos rfl] at he
        have hval := Lib.hid (fun W (h : Tabs W) => refValid_any t W (by have := ht.out; omega) h)
        cases g : validB t with
        | true =>
          rw [if_pos g] at he
          rw [he]
          rw [g] at hval
          replace he := Lib.hid he
          replace g := Lib.hid g
          go_enter Tryz.func48, Tryz.ntmps48
          go_wp2_with (first | (go_at_call 85; refine (hsh.out _).mono ?_; rintro e w1 ⟨rfl, hb1⟩; have c1 := hb1.cell (p := ⟨w.heap.size, 1, none⟩) (by simp); have c2 := hb1.cell (p := ⟨w.heap.size, 2, none⟩) (by simp); have c3 := hb1.cell (p := ⟨w.heap.size, 3, none⟩) (by simp); have c0 := hb1.cell (p := ⟨w.heap.size, 0, none⟩) (by simp); rw [b0] at c0; rw [b1] at c1; rw [b2] at c2; rw [b3] at c3) | (go_at_call 77; refine (hval.out _ ((hT.below hB.out).below hb1)).mono ?_; rintro e w2 ⟨rfl, hb2⟩))
          go_ret
          exact ⟨rfl, hB.out.trans ((hb1.trans (hb2.mono hb1.size)).mono hB.out.size)⟩
        | false =>
          rw [if_neg (by rw [g]; decide)] at he
          rw [he]
          rw [g] at hval
          replace he := Lib.hid he
          replace g := Lib.hid g
          go_enter Tryz.func48, Tryz.ntmps48
          go_wp2_with (first | (go_at_call 85; refine (hsh.out _).mono ?_; rintro e w1 ⟨rfl, hb1⟩; have c1 := hb1.cell (p := ⟨w.heap.size, 1, none⟩) (by simp); have c2 := hb1.cell (p := ⟨w.heap.size, 2, none⟩) (by simp); have c3 := hb1.cell (p := ⟨w.heap.size, 3, none⟩) (by simp); have c0 := hb1.cell (p := ⟨w.heap.size, 0, none⟩) (by simp); rw [b0] at c0; rw [b1] at c1; rw [b2] at c2; rw [b3] at c3) | (go_at_call 77; refine (hval.out _ ((hT.below hB.out).below hb1)).mono ?_; rintro e w2 ⟨rfl, hb2⟩))
          go_ret
          exact ⟨rfl, hB.out.trans ((hb1.trans (hb2.mono hb1.size)).mono hB.out.size)⟩
      · rw [if_neg (by decide), if_neg (by decide), if_neg (by decide), if_pos rfl] at he
        have hpt := Lib.hid (fun W => refParts_any t W ht.out)
        by_cases g : verOk t
        · rw [if_pos g] at he
          have e1 : verV t = .tuple #[.agg #[.int .i64 (verN t 0), .int .i64 (verN t 1), .int .i64 (verN t 2)], .bool true] := if_pos g
          rw [e1] at hpt
          rw [he]
          replace he := Lib.hid he
          replace g := Lib.hid g
          replace e1 := Lib.hid e1
          go_enter Tryz.func48, Tryz.ntmps48
          go_wp2_with (first | (go_at_call 85; refine (hsh.out _).mono ?_; rintro e w1 ⟨rfl, hb1⟩; have c1 := hb1.cell (p := ⟨w.heap.size, 1, none⟩) (by simp); have c2 := hb1.cell (p := ⟨w.heap.size, 2, none⟩) (by simp); have c3 := hb1.cell (p := ⟨w.heap.size, 3, none⟩) (by simp); have c0 := hb1.cell (p := ⟨w.heap.size, 0, none⟩) (by simp); rw [b0] at c0; rw [b1] at c1; rw [b2] at c2; rw [b3] at c3) | (go_at_call 86; refine (hpt.out _).mono ?_; rintro e w2 ⟨rfl, hb2⟩))
          go_ret
          exact ⟨rfl, hB.out.trans (((hb1.trans (hb2.mono hb1.size)).alloc (Nat.le_trans hb1.size hb2.size) _).mono hB.out.size)⟩
        · rw [if_neg g] at he
          have e1 : verV t = .tuple #[.agg #[.int .i64 0, .int .i64 0, .int .i64 0], .bool false] := if_neg g
          rw [e1] at hpt
          rw [he]
          replace he := Lib.hid he
          replace g := Lib.hid g
          replace e1 := Lib.hid e1
          go_enter Tryz.func48, Tryz.ntmps48
          go_wp2_with (first | (go_at_call 85; refine (hsh.out _).mono ?_; rintro e w1 ⟨rfl, hb1⟩; have c1 := hb1.cell (p := ⟨w.heap.size, 1, none⟩) (by simp); have c2 := hb1.cell (p := ⟨w.heap.size, 2, none⟩) (by simp); have c3 := hb1.cell (p := ⟨w.heap.size, 3, none⟩) (by simp); have c0 := hb1.cell (p := ⟨w.heap.size, 0, none⟩) (by simp); rw [b0] at c0; rw [b1] at c1; rw [b2] at c2; rw [b3] at c3) | (go_at_call 86; refine (hpt.out _).mono ?_; rintro e w2 ⟨rfl, hb2⟩))
          go_ret
          exact ⟨rfl, hB.out.trans (((hb1.trans (hb2.mono hb1.size)).alloc (Nat.le_trans hb1.size hb2.size) _).mono hB.out.size)⟩
      · rw [if_neg (by decide), if_neg (by decide), if_neg (by decide), if_neg (by decide)] at he
        have hls := Lib.hid (fun W (h : Tabs W) (h2 : TextsAre a0 l W) => refList_any a0 l cap W hl.out hs h h2)
        rw [he]
        replace he := Lib.hid he
        generalize listE l = r at hls
        go_enter Tryz.func48, Tryz.ntmps48
        go_wp2_with (first | (go_at_call 85; refine (hsh.out _).mono ?_; rintro e w1 ⟨rfl, hb1⟩; have c1 := hb1.cell (p := ⟨w.heap.size, 1, none⟩) (by simp); have c2 := hb1.cell (p := ⟨w.heap.size, 2, none⟩) (by simp); have c3 := hb1.cell (p := ⟨w.heap.size, 3, none⟩) (by simp); have c0 := hb1.cell (p := ⟨w.heap.size, 0, none⟩) (by simp); rw [b0] at c0; rw [b1] at c1; rw [b2] at c2; rw [b3] at c3) | (go_at_call 87; refine (hls.out _ ((hT.below hB.out).below hb1) ((hA.below (Nat.le_refl _) hB.out).below (Nat.le_refl _) hb1)).mono ?_; rintro e w2 ⟨rfl, hb2⟩))
        go_ret
        exact ⟨rfl, hB.out.trans ((hb1.trans (hb2.mono hb1.size)).mono hB.out.size)⟩
    · rw [if_pos hp] at he
      rw [he]
      replace he := Lib.hid he
      replace hB := Lib.hid hB
      have hd : decide (shapeP x) = false := decide_eq_false hp
      rw [hd] at hsh
      clear hd
      replace hp := Lib.hid hp
      unfold Val.agg at hsh ⊢
      have h1 := hk2.1
      have h5 := hk2.2
      clear hk
      go_enter Tryz.func48, Tryz.ntmps48
      go_wp2_with (go_at_call 85; refine (hsh.out _).mono ?_; rintro e w1 ⟨rfl, hb1⟩)
      go_ret
      exact ⟨rfl, hB.out.trans (hb1.mono hB.out.size)⟩
end Go.Proofs.YtcbnefeedoabeaaGreatDoor
/- Two texts that differ. -/
namespace Go.Proofs.YtcbnefeedoabeaaGreatDoor
open Go Go.RowKit

theorem bytes_differ {a b : ByteArray} (h : ¬ a = b) : (a.toList == b.toList) = false := by
  rw [beq_eq_false_iff_ne, ByteArray.toList_eq, ByteArray.toList_eq]
  exact fun e => h (ByteArray.ext (Array.toList_inj.1 e))

end Go.Proofs.YtcbnefeedoabeaaGreatDoor
/- Contracts of the document's equality of values. -/
namespace Go.Proofs.YtcbnefeedoabeaaGreatDoor
open Go Go.RowKit

set_option maxHeartbeats 8000000 in
theorem refSame_any (a0 b0 : Option Addr) (l m : List ByteArray) (ca cb : Nat) (w : World) (hl : l.length ≤ 9223372036854775806) (hA : TextsAre a0 l w) (hB : TextsAre b0 m w) :
    Calls Tryz.prog 50 #[.slice a0 (l.length : Nat) ca, .slice b0 (m.length : Nat) cb] w fun e w' => e = .returned (.bool (decide (l = m))) ∧ Below w.heap.size w w' := by
  by_cases hlen : l.length = m.length
  · obtain ⟨r, hr⟩ : ∃ r, decide (l = m) = r := ⟨_, rfl⟩
    rw [hr]
    rw [← hlen]
    replace hr := Lib.hid hr
    replace hlen := Lib.hid hlen
    go_enter Tryz.func50, Tryz.ntmps50
    go_wp2
    go_loopw [5] (fun i wr => ∃ n : Nat, n ≤ l.length ∧ i = .int .i64 n ∧ Hid (l.take n = m.take n) ∧ Below w.heap.size w wr) (fun i _ => l.length - (intOf i).toNat)
    case atStart => exact ⟨0, Nat.zero_le _, rfl, Lib.hid rfl, Below.refl _ _⟩
    case round =>
      obtain ⟨n, hn, rfl, htk, hbl⟩ := hrel
      by_cases hlt : n < l.length
      · have hltm : n < m.length := by have := hlen.out; omega
        obtain ⟨b, off, rfl, hbk, hc⟩ := hA n hlt
        obtain ⟨b', off', rfl, hbk', hc'⟩ := hB n hltm
        have q1 := hbl.cell (p := ⟨b, off + n, none⟩) hbk
        have q2 := hbl.cell (p := ⟨b', off' + n, none⟩) hbk'
        rw [hc] at q1
        rw [hc'] at q2
        have hlt' : (n : Int) < (l.length : Int) := by omega
        have hnext : l[n] = m[n] → l.take (n + 1) = m.take (n + 1) := fun h => by
          rw [List.take_succ_eq_append_getElem hlt, List.take_succ_eq_append_getElem hltm, htk.out, h]
        have hdiff : l[n] ≠ m[n] → r = false := fun h => by
          rw [← hr.out]
          exact decide_eq_false fun e => h (by subst e; rfl)
        replace hnext := Lib.hid hnext
        replace hdiff := Lib.hid hdiff
        replace hc := Lib.hid hc
        replace hc' := Lib.hid hc'
        obtain ⟨s1, e1⟩ : ∃ s1, l[n] = s1 := ⟨_, rfl⟩
        obtain ⟨s2, e2⟩ : ∃ s2, m[n] = s2 := ⟨_, rfl⟩
        rw [e1] at q1 hnext hdiff
        rw [e2] at q2 hnext hdiff
        replace e1 := Lib.hid e1
        replace e2 := Lib.hid e2
        clear htk
        by_cases heq : s1 = s2
        · subst heq
          go_upto_region 6 with (fail)
          go_region
          all_goals
            go_wp2
            refine ⟨⟨n + 1, by omega, by go_num, Lib.hid (hnext.out rfl), hbl.drew⟩, ?_⟩
            simp [intOf]; omega
        · have hd := bytes_differ heq
          replace heq := Lib.hid heq
          go_upto_region 6 with (fail)
          go_region
          all_goals
            go_wp2
            go_ret
            exact ⟨by rw [hdiff.out heq.out]; rfl, hbl.drew⟩
      · obtain rfl : n = l.length := by omega
        have hlt' : ¬ (l.length : Int) < (l.length : Int) := by omega
        have hyes : r = true := by
          rw [← hr.out]
          have h := htk.out
          rw [List.take_of_length_le (Nat.le_refl _), hlen.out, List.take_of_length_le (Nat.le_refl _)] at h
          exact decide_eq_true h
        replace hyes := Lib.hid hyes
        clear htk
        go_wp2
        go_ret
        exact ⟨by rw [hyes.out]; rfl, hbl⟩
  · have hr : decide (l = m) = false := decide_eq_false fun e => hlen (by rw [e])
    rw [hr]
    replace hr := Lib.hid hr
    have hl2 : ¬ (l.length : Int) = (m.length : Int) := by omega
    have hl3 : ((l.length : Int) != (m.length : Int)) = true := by simp; omega
    go_enter Tryz.func50, Tryz.ntmps50
    go_wp2
    go_ret
    exact ⟨rfl, Below.refl _ _⟩
def signI (x y : Bool) : Int := if x then -1 else if y then 1 else 0
def eqV (x y : Val) : Bool := decide (x.kind = y.kind ∧ x.num = y.num ∧ x.text = y.text ∧ x.list = y.list)
set_option maxHeartbeats 8000000 in
theorem refEqual_any (x y : Val) (a0 b0 : Option Addr) (ca cb : Nat) (w : World) (hl : x.list.length ≤ 9223372036854775806) (hA : TextsAre a0 x.list w) (hB : TextsAre b0 y.list w) :
    Calls Tryz.prog 20 #[x.agg a0 ca, y.agg b0 cb] w fun e w' => e = .returned (.bool (eqV x y)) ∧ Below w.heap.size w w' := by
  obtain ⟨k, n, t, l⟩ := x
  obtain ⟨k', n', t', l'⟩ := y
  simp only at hA hB hl
  unfold Val.agg
  have hb := ((Below.refl w.heap.size w).alloc (Nat.le_refl _) (.cells #[.int .i64 k, .int .i64 n, .string t, .slice a0 l.length ca] 41)).alloc (by simp) (.cells #[.int .i64 k', .int .i64 n', .string t', .slice b0 l'.length cb] 41)
  have hsm := Lib.hid (refSame_any a0 b0 l l' ca cb _ hl (hA.below (Nat.le_refl _) hb) (hB.below (Nat.le_refl _) hb))
  replace hb := Lib.hid hb
  by_cases h1 : k = k'
  · subst h1
    by_cases h2 : n = n'
    · subst h2
      by_cases h3 : t = t'
      · subst h3
        have he : eqV ⟨k, n, t, l⟩ ⟨k, n, t, l'⟩ = decide (l = l') := by unfold eqV; simp
        rw [he]
        generalize decide (l = l') = r at hsm
        go_enter Tryz.func20, Tryz.ntmps20
        go_wp2_with (go_at_call 50; refine hsm.out.mono ?_; rintro e w1 ⟨rfl, hb1⟩)
        go_ret
        exact ⟨rfl, hb.out.trans (hb1.mono hb.out.size)⟩
      · have he : eqV ⟨k, n, t, l⟩ ⟨k, n, t', l'⟩ = false := by unfold eqV; simp [h3]
        rw [he]
        have hd := bytes_differ h3
        replace h3 := Lib.hid h3
        go_enter Tryz.func20, Tryz.ntmps20
        go_wp2
        go_ret
        exact ⟨rfl, hb.out⟩
    · have he : eqV ⟨k, n, t, l⟩ ⟨k, n', t', l'⟩ = false := by unfold eqV; simp [h2]
      rw [he]
      have hd : (n == n') = false := by rw [beq_eq_false_iff_ne]; exact h2
      go_enter Tryz.func20, Tryz.ntmps20
      go_wp2
      go_ret
      exact ⟨rfl, hb.out⟩
  · have he : eqV ⟨k, n, t, l⟩ ⟨k', n', t', l'⟩ = false := by unfold eqV; simp [h1]
    rw [he]
    have hd : (k == k') = false := by rw [beq_eq_false_iff_ne]; exact h1
    go_enter Tryz.func20, Tryz.ntmps20
    go_wp2
    go_ret
    exact ⟨rfl, hb.out⟩
end Go.Proofs.YtcbnefeedoabeaaGreatDoor
/- What the listed package-level variables hold in a world: the two tables of utf8, the reserved words. -/
namespace Go.Proofs.YtcbnefeedoabeaaGreatDoor
open Go Go.RowKit

structure Env (w : World) : Prop where
  tabs : Tabs w
  res : Res words w
theorem Env.below {w w' : World} (h : Env w) (hb : Below w.heap.size w w') : Env w' := ⟨h.tabs.below hb, h.res.below hb h.res.glob⟩
theorem words_len : words.length ≤ 1000 := by decide
end Go.Proofs.YtcbnefeedoabeaaGreatDoor
