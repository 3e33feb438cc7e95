/- Contract of the document's end of a quoted text. Contracts: refUnq_in, refUnquote_any. Contract of the document's reading of a list in source form: its plain part. Contract of the document's reading of a list in source form. What the document's reading of a value's source form comes to: its plain part. Contract of the document's reading of a value's source form. -/
import Derived.Test.YtmijfcdmnibnpaaGreatDoorProg
import Derived.Test.YtmijfcdmnibnpaaGreatDoorPa
import Derived.Test.YtmijfcdmnibnpaaGreatDoorPb
import Derived.Test.YtmijfcdmnibnpaaGreatDoorPc
import Derived.Test.YtmijfcdmnibnpaaGreatDoorPf
import Derived.Deep.DeepCutAuto
import Derived.Test.YtmijfcdmnibnpaaGreatDoorTrip
import Derived.Deep.CutBlock
/- Contract of the document's end of a quoted text. -/
namespace Go.Proofs.YtmijfcdmnibnpaaGreatDoor
open Go Go.RowKit

set_option maxHeartbeats 4000000 in
theorem refEnd_any (s : ByteArray) (i : Nat) (w : World) (hs : s.size ≤ 9223372036854775000) (hi : i ≤ s.size) :
    Calls Tryz.prog 50 #[.string s, .int .i64 (i : Int)] w fun e w' => e = .returned (.int .i64 (endAt s (i + 1))) ∧ w = w' := by
  obtain ⟨r, hr⟩ : ∃ r, endAt s (i + 1) = r := ⟨_, rfl⟩
  rw [hr]
  go_enter Tryz.func50, Tryz.ntmps50
  go_wp2
  replace hr := Lib.hid hr
  go_loop [5] (fun v => ∃ k : Nat, k ≤ s.size + 1 ∧ v = .int .i64 k ∧ Hid (endAt s k = r)) (fun v => s.size + 1 - (intOf v).toNat)
  case atStart => exact ⟨i + 1, by omega, rfl, hr⟩
  case round =>
    obtain ⟨k, hk, rfl, hk2⟩ := hrel
    by_cases hlt : k < s.size
    · have hlt' : (k : Int) < (s.size : Int) := by omega
      have hg := get_bang s k hlt
      by_cases h1 : s.get! k = 92
      · have hn := Lib.hid ((endAt_esc s k hlt h1).symm.trans hk2.out)
        have hb : (s[k].toNat : Int) = 92 := by rw [← hg, h1]; rfl
        replace h1 := Lib.hid h1
        replace hg := Lib.hid hg
        clear hk2
        go_wp2
        go_round
        case rel => exact ⟨k + 2, by omega, by go_num, hn⟩
        case measure => simp [intOf]; omega
      · by_cases h2 : s.get! k = 34
        · have hn := Lib.hid ((endAt_quote s k hlt h2).symm.trans hk2.out)
          have hb : (s[k].toNat : Int) = 34 := by rw [← hg, h2]; rfl
          replace h1 := Lib.hid h1
          replace h2 := Lib.hid h2
          replace hg := Lib.hid hg
          clear hk2
          go_wp2
          go_ret
          exact ⟨by rw [← hn.out]; rfl, rfl⟩
        · have hn := Lib.hid ((endAt_next s k hlt h1 h2).symm.trans hk2.out)
          have hb : ¬ (s[k].toNat : Int) = 92 := by rw [← hg]; intro h; exact h1 (UInt8.toNat_inj.1 (by show _ = 92; omega))
          have hb2 : ¬ (s[k].toNat : Int) = 34 := by rw [← hg]; intro h; exact h2 (UInt8.toNat_inj.1 (by show _ = 34; omega))
          replace h1 := Lib.hid h1
          replace h2 := Lib.hid h2
          replace hg := Lib.hid hg
          clear hk2
          go_wp2
          go_round
          case rel => exact ⟨k + 1, by omega, by go_num, hn⟩
          case measure => simp [intOf]; omega
    · have hlt' : ¬ (k : Int) < (s.size : Int) := by omega
      have hr1 := Lib.hid (hk2.out.symm.trans (endAt_out s k (by omega)))
      go_wp2
      go_ret
      exact ⟨by rw [hr1.out]; rfl, rfl⟩
end Go.Proofs.YtmijfcdmnibnpaaGreatDoor
/- Contracts: refUnq_in, refUnquote_any. -/
namespace Go.Proofs.YtmijfcdmnibnpaaGreatDoor
open Go Go.RowKit

/-- What the loop holds: the bytes so far, and that what is still to be read leads to the result. -/
def RqRel (s : ByteArray) (R : Option (List UInt8)) (w : World) (v i : Value) (wr : World) : Prop :=
  ∃ (k : Nat) (out : List UInt8), 1 ≤ k ∧ k + 1 ≤ s.size ∧ i = .int .i64 k ∧ unS ((s.data.toList.take (s.size - 1)).drop k) false out = R ∧ out.length ≤ k ∧ Own w.heap.size v out wr ∧ Below w.heap.size w wr

set_option maxHeartbeats 8000000 in
set_option maxRecDepth 100000 in
theorem refUnq_in (s : ByteArray) (w : World) (hs : s.size ≤ 140737488355328) (hT : Tabs w) (hin : 2 ≤ s.size ∧ s.get! 0 = 34 ∧ s.get! (s.size - 1) = 34) :
    Calls Tryz.prog 25 #[.string s] w fun e w' => e = .returned (unqV s) ∧ Below w.heap.size w w' := by
  obtain ⟨R, hR⟩ : ∃ R, unS (inner s) false [] = R := ⟨_, rfl⟩
  have hv := Lib.hid (unqV_in hin)
  rw [hR] at hv
  rw [inner_eq] at hR
  obtain ⟨h2, h0, h1⟩ := hin
  have e0 := ne34 s 0 (by omega)
  have e1 := ne34 s (s.size - 1) (by omega)
  rw [decide_eq_false (fun h => h h0)] at e0
  rw [decide_eq_false (fun h => h h1)] at e1
  replace h0 := Lib.hid h0
  replace h1 := Lib.hid h1
  replace hR := Lib.hid hR
  go_enter Tryz.func25, Tryz.ntmps25
  go_wp2
  clear e0 e1
  go_loopw [5, 6] (fun v i wr => RqRel s R w v i wr) (fun _ i _ => s.size - (intOf i).toNat)
  case atStart => exact ⟨1, [], Nat.le_refl _, by omega, rfl, hR.out, by simp, own_nil _ _, Below.refl _ _⟩
  case round =>
    obtain ⟨k, out, hk1, hk2, rfl, hun, hol, hown, hbw⟩ := hrel
    have hzb := hbw.size
    by_cases hlt : k + 1 < s.size
    · have hb := (s[k]).toNat_lt
      rw [rest_at s k hlt] at hun
      by_cases c34 : s[k] = 34
      · have q34 : ((s[k].toNat : Int) == 34) = true := by rw [c34]; rfl
        rw [unS, if_pos c34] at hun
        subst hun
        replace c34 := Lib.hid c34
        go_wp2
        go_ret2
        refine ⟨ret_v ?_, hbw⟩
        rw [hv.out]
        rfl
      · have q34 : ((s[k].toNat : Int) == 34) = false := beqN c34 34 rfl
        rw [unS, if_neg c34] at hun
        by_cases c92 : s[k] = 92
        · have q92 : ((s[k].toNat : Int) == 92) = true := by rw [c92]; rfl
          rw [if_pos c92] at hun
          replace c34 := Lib.hid c34
          replace c92 := Lib.hid c92
          by_cases hlast : k + 2 < s.size
          · rw [rest_at s (k + 1) hlast] at hun
            have hnl : ((k : Int) + 1 < (s.size : Int) - 1) := by omega
            cases he : isEsc s[k + 1] with
            | true =>
              rw [unS, if_pos he] at hun
              have hcc : s[k + 1] = 34 ∨ s[k + 1] = 92 := by simpa [isEsc] using he
              replace he := Lib.hid he
              replace hun := Lib.hid hun
              rcases hcc with hcc | hcc
              · have p34 : ((s[k + 1].toNat : Int) != 34) = false := by rw [hcc]; rfl
                replace hcc := Lib.hid hcc
                go_wp2_with (at_builtin; refine wpList_own1 rfl _ _ rfl s[k + 1] hown rfl rfl ?c1 hzb ?_)
                case c1 => omega
                intro v' w2 hown' hb2
                go_wp2
                go_roundw
                case rel => exact ⟨k + 2, _, by omega, by omega, by go_num, hun.out, by rw [List.length_append]; simp; omega, hown', hbw.trans hb2⟩
                case measure => simp [intOf]; omega
              · have p34 : ((s[k + 1].toNat : Int) != 34) = true := by rw [hcc]; rfl
                have p92 : ((s[k + 1].toNat : Int) != 92) = false := by rw [hcc]; rfl
                replace hcc := Lib.hid hcc
                go_wp2_with (at_builtin; refine wpList_own1 rfl _ _ rfl s[k + 1] hown rfl rfl ?c1 hzb ?_)
                case c1 => omega
                intro v' w2 hown' hb2
                go_wp2
                go_roundw
                case rel => exact ⟨k + 2, _, by omega, by omega, by go_num, hun.out, by rw [List.length_append]; simp; omega, hown', hbw.trans hb2⟩
                case measure => simp [intOf]; omega
            | false =>
              rw [unS, if_neg (by rw [he]; simp)] at hun
              subst hun
              have n34 : ¬ s[k + 1] = 34 := by rintro e; rw [e] at he; cases he
              have n92 : ¬ s[k + 1] = 92 := by rintro e; rw [e] at he; cases he
              have p34 : ((s[k + 1].toNat : Int) != 34) = true := bneN n34 34 rfl
              have p92 : ((s[k + 1].toNat : Int) != 92) = true := bneN n92 92 rfl
              replace n34 := Lib.hid n34
              replace n92 := Lib.hid n92
              replace he := Lib.hid he
              go_wp2
              go_ret2
              refine ⟨ret_v ?_, hbw⟩
              rw [hv.out]
              rfl
          · rw [rest_end s (k + 1) (by omega), unS] at hun
            subst hun
            have hnl : ((s.size : Int) - 1 ≤ (k : Int) + 1) := by omega
            go_wp2
            go_ret2
            refine ⟨ret_v ?_, hbw⟩
            rw [hv.out]
            rfl
        · have q92 : ((s[k].toNat : Int) == 92) = false := beqN c92 92 rfl
          rw [if_neg c92] at hun
          replace c34 := Lib.hid c34
          replace c92 := Lib.hid c92
          replace hun := Lib.hid hun
          go_wp2_with (at_builtin; refine wpList_own1 rfl _ _ rfl s[k] hown rfl rfl ?c1 hzb ?_)
          case c1 => omega
          intro v' w2 hown' hb2
          go_wp2
          go_roundw
          case rel => exact ⟨k + 1, _, by omega, by omega, by go_num, hun.out, by rw [List.length_append]; simp; omega, hown', hbw.trans hb2⟩
          case measure => simp [intOf]; omega
    · rw [rest_end s k (by omega), unS] at hun
      subst hun
      have hcv := Own.string hown
      have hosz : (⟨out.toArray⟩ : ByteArray).size ≤ 9223372036854775807 := by show out.toArray.size ≤ _; simp; omega
      replace hown := Lib.hid hown
      have hT' := hT.below hbw
      cases hvd : validB ⟨out.toArray⟩ with
      | true =>
        go_wp2_with (go_at_call 42; refine (refValid_any _ _ hosz hT').mono ?_; rintro e w2 ⟨rfl, hb2⟩; have hcv2 := Own.string (hown.out.below hb2))
        go_ret2
        refine ⟨ret_v ?_, hbw.trans (hb2.mono hzb)⟩
        rw [hv.out, unqIn, if_pos hvd]
        rfl
      | false =>
        go_wp2_with (go_at_call 42; refine (refValid_any _ _ hosz hT').mono ?_; rintro e w2 ⟨rfl, hb2⟩)
        go_ret2
        refine ⟨ret_v ?_, hbw.trans (hb2.mono hzb)⟩
        rw [hv.out, unqIn, if_neg (by rw [hvd]; simp)]
        rfl

set_option maxHeartbeats 4000000 in
theorem refUnquote_any (s : ByteArray) (w : World) (hs : s.size ≤ 140737488355328) (hT : Tabs w) :
    Calls Tryz.prog 25 #[.string s] w fun e w' => e = .returned (unqV s) ∧ Below w.heap.size w w' := by
  by_cases h2 : 2 ≤ s.size
  · have e0 := ne34 s 0 (by omega)
    have e1 := ne34 s (s.size - 1) (by omega)
    by_cases h0 : s.get! 0 = 34
    · by_cases h1 : s.get! (s.size - 1) = 34
      · exact refUnq_in s w hs hT ⟨h2, h0, h1⟩
      · have hv := Lib.hid (unqV_bad fun h => h1 h.2.2)
        rw [decide_eq_false (fun h => h h0)] at e0
        rw [decide_eq_true h1] at e1
        replace h0 := Lib.hid h0
        replace h1 := Lib.hid h1
        go_enter Tryz.func25, Tryz.ntmps25
        go_wp2
        go_ret2
        refine ⟨ret_v ?_, Below.refl _ _⟩
        rw [hv.out]
        rfl
    · have hv := Lib.hid (unqV_bad fun h => h0 h.2.1)
      rw [decide_eq_true h0] at e0
      replace h0 := Lib.hid h0
      clear e1
      go_enter Tryz.func25, Tryz.ntmps25
      go_wp2
      go_ret2
      refine ⟨ret_v ?_, Below.refl _ _⟩
      rw [hv.out]
      rfl
  · have hv := Lib.hid (unqV_bad fun h => h2 h.1)
    have h2' : (s.size : Int) < 2 := by omega
    clear h2
    go_enter Tryz.func25, Tryz.ntmps25
    go_wp2
    go_ret2
    refine ⟨ret_v ?_, Below.refl _ _⟩
    rw [hv.out]
    rfl
end Go.Proofs.YtmijfcdmnibnpaaGreatDoor
/- Contract of the document's reading of a list in source form: its plain part. -/
namespace Go.Proofs.YtmijfcdmnibnpaaGreatDoor
open Go Go.RowKit

theorem ext_list (a b : ByteArray) (h : a.data.toList = b.data.toList) : a = b := ByteArray.ext (Array.toList_inj.1 h)
theorem rest_list (s : ByteArray) (j : Nat) : (s.extract j s.size).data.toList = s.data.toList.drop j := by
  have hl : s.data.toList.length = s.size := rfl
  rw [Lib.extract_data, List.take_of_length_le (by rw [List.length_drop]; omega)]
theorem rest_drop (s : ByteArray) (j k : Nat) : (s.extract j s.size).data.toList.drop k = s.data.toList.drop (j + k) := by
  rw [rest_list, List.drop_drop]
theorem rest_rest (s : ByteArray) (j k : Nat) : (s.extract j s.size).extract k (s.extract j s.size).size = s.extract (j + k) s.size := by
  apply ext_list
  rw [rest_list, rest_drop, rest_list]
theorem rest_front (s : ByteArray) (j k : Nat) : (s.extract j s.size).extract 0 k = s.extract j (j + k) := by
  apply ext_list
  rw [Lib.extract_data, rest_list, Lib.extract_data, List.drop_zero]
  congr 1
  omega
theorem rest_get (s : ByteArray) (j : Nat) (h : j < s.size) : (s.extract j s.size).get! 0 = s.get! j := by
  have h1 := drop_at s j h
  have hz : 0 < (s.extract j s.size).size := by rw [ByteArray.size_extract]; omega
  have h2 := drop_at (s.extract j s.size) 0 hz
  rw [rest_drop, rest_drop] at h2
  simp only [Nat.add_zero] at h2
  rw [h1] at h2
  exact (List.cons.inj h2).1.symm
/-- What a list's texts come to where a round begins, at place i: the texts so far, and the rest of the list. -/
def headP (s : ByteArray) (acc : List ByteArray) (f i : Nat) : Option (List ByteArray) :=
  if s.extract i s.size = ⟨#[93]⟩ then some acc
  else if acc = [] then elemsF f (s.extract i s.size)
  else if Lib.hasPrefix (s.extract i s.size).data.toList [44, 32] = true then (elemsF f (s.extract (i + 2) s.size)).map (acc ++ ·)
  else none
theorem elems_out (s : ByteArray) (j f : Nat) (h : s.size ≤ j) : elemsF f (s.extract j s.size) = none :=
  elemsF_empty _ _ (by rw [ByteArray.size_extract]; omega)
theorem elems_plain (s : ByteArray) (j f : Nat) (h : j < s.size) (hq : s.get! j ≠ 34) : elemsF f (s.extract j s.size) = none := by
  cases hd : endL ((s.extract j s.size).data.toList.drop 1) with
  | none => exact elemsF_none _ _ hd
  | some d =>
    refine elemsF_bad _ _ d hd (unqP_first _ ?_)
    have hz := endL_le _ _ hd
    rw [rest_drop, List.length_drop] at hz
    have hl : s.data.toList.length = s.size := rfl
    rw [rest_front s j (d + 1)]
    have h1 := drop_at s j h
    have hz2 : 0 < (s.extract j (j + (d + 1))).size := by rw [ByteArray.size_extract]; omega
    have h2 := drop_at (s.extract j (j + (d + 1))) 0 hz2
    rw [Lib.extract_data] at h2
    simp only [List.drop_zero] at h2
    rw [h1, show j + (d + 1) - j = d + 1 by omega, List.take_succ_cons] at h2
    rw [← (List.cons.inj h2).1]
    exact hq
theorem elems_open (s : ByteArray) (j f : Nat) (he : endAt s (j + 1) < 0) : elemsF f (s.extract j s.size) = none := by
  refine elemsF_none _ _ ?_
  rw [rest_drop]
  unfold endAt at he
  cases hd : endL (s.data.toList.drop (j + 1)) with
  | none => rfl
  | some d => rw [hd] at he; simp only at he; omega
theorem end_at (s : ByteArray) (j : Nat) (he : 0 ≤ endAt s (j + 1)) : ∃ d : Nat, endL ((s.extract j s.size).data.toList.drop 1) = some d ∧ endAt s (j + 1) = ((j + (d + 1) : Nat) : Int) ∧ j + (d + 1) ≤ s.size ∧ 0 < d := by
  rw [rest_drop]
  unfold endAt at he ⊢
  cases hd : endL (s.data.toList.drop (j + 1)) with
  | none => rw [hd] at he; simp at he
  | some d =>
    have hz := endL_le _ _ hd
    have hl : s.data.toList.length = s.size := rfl
    rw [List.length_drop] at hz
    exact ⟨d, rfl, by simp only; omega, by omega, by omega⟩
theorem elems_full (s : ByteArray) (j f d : Nat) (hd : endL ((s.extract j s.size).data.toList.drop 1) = some d) (hk : j + (d + 1) = s.size) : elemsF f (s.extract j s.size) = none := by
  have e : (s.extract j s.size).extract (d + 1) (s.extract j s.size).size = ⟨#[]⟩ := by
    rw [rest_rest, hk]
    apply ext_list
    rw [rest_list, List.drop_eq_nil_of_le (by exact Nat.le_refl _)]
  by_cases hu : (unqP ((s.extract j s.size).extract 0 (d + 1))).2 = 0
  · refine elemsF_cut _ _ d hd ?_ ?_
    · rw [e]; decide
    · rw [e]; decide
  · exact elemsF_bad _ _ d hd hu
theorem elems_bad (s : ByteArray) (j f d : Nat) (hd : endL ((s.extract j s.size).data.toList.drop 1) = some d) (hu : (unqP (s.extract j (j + (d + 1)))).2 ≠ 0) : elemsF f (s.extract j s.size) = none :=
  elemsF_bad _ _ d hd (by rw [rest_front _ _ _]; exact hu)
/-- One text more. -/
theorem elems_next (s : ByteArray) (acc : List ByteArray) (j f d : Nat) (hf : s.size - j ≤ f) (hj : j < s.size) (hd : endL ((s.extract j s.size).data.toList.drop 1) = some d) (hk : j + (d + 1) ≤ s.size) (hu : (unqP (s.extract j (j + (d + 1)))).2 = 0) :
    ∃ g, s.size - (j + (d + 1)) ≤ g ∧ (elemsF f (s.extract j s.size)).map (acc ++ ·) = headP s (acc ++ [(unqP (s.extract j (j + (d + 1)))).1]) g (j + (d + 1)) := by
  have hf2 := rest_front s j (d + 1)
  have hr2 := rest_rest s j (d + 1)
  have hz : (s.extract j s.size).size = s.size - j := by rw [ByteArray.size_extract]; omega
  obtain ⟨g, rfl⟩ : ∃ g, f = g + 1 := ⟨f - 1, by omega⟩
  refine ⟨g, by omega, ?_⟩
  unfold headP
  by_cases h1 : s.extract (j + (d + 1)) s.size = ⟨#[93]⟩
  · rw [if_pos h1, elemsF_last _ _ d (by omega) hd (by rw [hf2]; exact hu) (by rw [hr2]; exact h1), hf2]
    rfl
  · rw [if_neg h1, if_neg (by simp)]
    by_cases h2 : Lib.hasPrefix (s.extract (j + (d + 1)) s.size).data.toList [44, 32] = true
    · rw [if_pos h2, elemsF_next _ _ d hd (by rw [hf2]; exact hu) (by rw [hr2]; exact h1) (by rw [hr2]; exact h2), hf2, hr2, rest_rest, Option.map_map]
      congr 1
      funext x
      simp
    · rw [if_neg h2, elemsF_cut _ _ d hd (by rw [hr2]; exact h1) (by rw [hr2]; exact h2)]
      rfl
end Go.Proofs.YtmijfcdmnibnpaaGreatDoor
/- Contract of the document's reading of a list in source form. -/
namespace Go.Proofs.YtmijfcdmnibnpaaGreatDoor
open Go Go.RowKit

/-- What the loop holds at place i. -/
structure RE (s : ByteArray) (R : Option (List ByteArray)) (B : Nat) (v : Value) (i : Nat) (w wr : World) : Prop where
  ex : ∃ (acc : List ByteArray) (f : Nat), OwnT B v acc wr ∧ 2 * acc.length ≤ i ∧ s.size - i ≤ f ∧ R = headP s acc f i
  lt : i < s.size
  below : Below B w wr
/-- What holds behind the separator. -/
structure RT (s : ByteArray) (R : Option (List ByteArray)) (B : Nat) (v : Value) (j : Nat) (w wr : World) : Prop where
  ex : ∃ (acc : List ByteArray) (f : Nat), OwnT B v acc wr ∧ 2 * acc.length ≤ j ∧ s.size - j ≤ f ∧ R = (elemsF f (s.extract j s.size)).map (acc ++ ·)
  below : Below B w wr
theorem one_last (s : ByteArray) (i : Nat) (h : i < s.size) : s.extract i s.size = ⟨#[93]⟩ ↔ s.get! i = 93 ∧ i + 1 = s.size := by
  have hl : s.data.toList.length = s.size := rfl
  constructor
  · intro e
    have h1 := rest_list s i
    rw [e, drop_at s i h] at h1
    have h2 : ([93] : List UInt8) = s.get! i :: s.data.toList.drop (i + 1) := h1
    have h3 := List.cons.inj h2
    refine ⟨h3.1.symm, ?_⟩
    have h4 := congrArg List.length h3.2
    rw [List.length_drop] at h4
    simp at h4
    omega
  · rintro ⟨h1, h2⟩
    apply ext_list
    rw [rest_list, drop_at s i h, h1, List.drop_eq_nil_of_le (by omega)]
theorem two_sep (s : ByteArray) (i : Nat) : Lib.hasPrefix (s.extract i s.size).data.toList [44, 32] = true ↔ i + 2 ≤ s.size ∧ (s.extract i (i + 2)).toList = [44, 32] := by
  have hl : s.data.toList.length = s.size := rfl
  rw [rest_list, ByteArray.toList_eq, Lib.extract_data, show i + 2 - i = 2 by omega]
  unfold Lib.hasPrefix
  rw [List.isPrefixOf_iff_prefix]
  constructor
  · intro h
    have h1 := h.length_le
    rw [List.length_drop] at h1
    have h2 := List.prefix_iff_eq_take.1 h
    exact ⟨by simp at h1; omega, by rw [h2]; rfl⟩
  · rintro ⟨_, h2⟩
    rw [List.prefix_iff_eq_take]
    exact h2.symm
set_option maxHeartbeats 8000000 in
theorem elements_any (s : ByteArray) (w : World) (hs : s.size ≤ 1900000) (h1 : 1 < s.size) (hT : Tabs w) (R : Option (List ByteArray)) (hR : R = headP s [] s.size 1) :
    Calls Tryz.prog 26 #[.string s] w fun e w' => (∃ (a : Option Addr) (c : Nat), e = .returned (.tuple #[.slice a ((R.getD []).length : Nat) c, .bool R.isSome]) ∧ TextsFrom w.heap.size a (R.getD []) w' ∧ (a = none → c = 0) ∧ (R.getD []).length ≤ c) ∧ Below w.heap.size w w' := by
  have hst : RE s R w.heap.size (.slice none 0 0) 1 w w := ⟨⟨[], s.size, ownT_nil _ _, Nat.zero_le _, by omega, hR⟩, h1, Below.refl _ _⟩
  clear hR
  replace hst := Lib.hid hst
  go_enter Tryz.func26, Tryz.ntmps26
  go_wp2
  go_loopw [4, 5, 6, 7, 8] (fun v x _ _ _ wr => ∃ i : Nat, x = .int .i64 i ∧ Hid (RE s R w.heap.size v i w wr)) (fun _ x _ _ _ _ => s.size - (intOf x).toNat)
  case atStart => exact ⟨1, rfl, hst⟩
  case round =>
    obtain ⟨i, rfl, hrel⟩ := hrel
    clear hst
    obtain ⟨⟨acc, f, hown, hai, hf, hR⟩, hlt, hbel⟩ := hrel.out
    clear hrel
    have hlt' : (i : Int) < (s.size : Int) := by omega
    have hg := get_bang s i hlt
    obtain ⟨a1, c1, rfl, hn1, hc1, ht1⟩ := hown.texts
    by_cases hx : s.extract i s.size = ⟨#[93]⟩
    · have hR2 : R = some acc := by rw [hR]; unfold headP; rw [if_pos hx]
      obtain ⟨g1, g2⟩ := (one_last s i hlt).1 hx
      have hb : (s[i].toNat : Int) = 93 := by rw [← hg, g1]; rfl
      have hz : (i : Int) + 1 = (s.size : Int) := by omega
      subst hR2
      clear hR hx g1 hg hown
      obtain ⟨n, hn⟩ : ∃ n, acc.length = n := ⟨_, rfl⟩
      rw [hn] at hc1 hai ⊢
      replace hn := Lib.hid hn
      go_wp2
      go_ret2
      exact ⟨⟨a1, c1, by rw [← hn.out]; rfl, ht1, hn1, by rw [← hn.out] at hc1; exact hc1⟩, hbel⟩
    · have hnx : ¬ (s.get! i = 93 ∧ i + 1 = s.size) := fun h => hx ((one_last s i hlt).2 h)
      unfold headP at hR
      rw [if_neg hx] at hR
      replace hx := Lib.hid hx
      replace hR := Lib.hid hR
      obtain ⟨n, hn⟩ : ∃ n, acc.length = n := ⟨_, rfl⟩
      rw [hn] at hc1 hai hown ⊢
      replace hn := Lib.hid hn
      go_upto_region 3 with (fail)
      go_cut [19] (fun v wx => v = .bool true ∧ wx = wr)
      case first =>
        by_cases hb0 : s.get! i = 93
        · have hb : (s[i].toNat : Int) = 93 := by rw [← hg, hb0]; rfl
          have hz : ¬ (i : Int) + 1 = (s.size : Int) := fun h => hnx ⟨hb0, by omega⟩
          replace hb0 := Lib.hid hb0
          replace hg := Lib.hid hg
          clear hnx
          go_wp2
          go_meet
          case rel => exact ⟨congrArg Value.bool (bne_iff_ne.2 hz), rfl⟩
        · have hb : ¬ (s[i].toNat : Int) = 93 := by rw [← hg]; intro h; exact hb0 (UInt8.toNat_inj.1 (by show _ = 93; omega))
          replace hb0 := Lib.hid hb0
          replace hg := Lib.hid hg
          clear hnx
          go_wp2
          go_meet
          case rel => exact ⟨rfl, rfl⟩
      case rest =>
        obtain ⟨rfl, rfl⟩ := hcut
        clear hnx hx hg
        go_upto_if 22 with (fail)
        go_cut [5] (fun v wx => ∃ j : Nat, v = .int .i64 j ∧ i ≤ j ∧ Hid (RT s R w.heap.size (.slice a1 n c1) j w wx))
        case first =>
          by_cases hacc : acc = []
          · have hn0 : n = 0 := by rw [← hn.out, hacc]; rfl
            have hR2 := hR.out
            rw [if_pos hacc] at hR2
            subst hacc
            replace hR2 := Lib.hid hR2
            subst hn0
            go_wp2
            go_meet
            case rel =>
              refine ⟨i, rfl, Nat.le_refl _, Lib.hid ⟨⟨[], f, hown, Nat.zero_le _, hf, ?_⟩, hbel⟩⟩
              rw [hR2.out]
              cases elemsF f (s.extract i s.size) <;> simp
          · have hn0 : 0 < n := by rw [← hn.out]; exact List.length_pos_iff.2 hacc
            have hn1' : (0 : Int) < (n : Int) := by omega
            have hR2 := hR.out
            rw [if_neg hacc] at hR2
            by_cases hp : Lib.hasPrefix (s.extract i s.size).data.toList [44, 32] = true
            · rw [if_pos hp] at hR2
              obtain ⟨u1, u2⟩ := (two_sep s i).1 hp
              obtain ⟨i2, hi2⟩ : ∃ i2, i + 2 = i2 := ⟨_, rfl⟩
              rw [hi2] at u1 u2 hR2
              have u3 : ((s.extract i i2).toList == [44, 32]) = true := by rw [u2]; rfl
              have u5 : (i : Int) + 2 = (i2 : Int) := by omega
              have u6 : i ≤ i2 := by omega
              have u4 : ¬ (s.size : Int) < (i2 : Int) := by omega
              replace hi2 := Lib.hid hi2
              replace hacc := Lib.hid hacc
              replace hp := Lib.hid hp
              replace hR2 := Lib.hid hR2
              clear u2
              go_wp2
              go_meet
              case rel => exact ⟨i2, rfl, u6, Lib.hid ⟨⟨acc, f, hown, by rw [hn.out]; omega, by omega, hR2.out⟩, hbel⟩⟩
            · rw [if_neg hp] at hR2
              replace hR2 := Lib.hid hR2
              replace hacc := Lib.hid hacc
              by_cases u1 : i + 2 ≤ s.size
              · obtain ⟨i2, hi2⟩ : ∃ i2, i + 2 = i2 := ⟨_, rfl⟩
                have u3 : ((s.extract i i2).toList == [44, 32]) = false := by
                  rw [beq_eq_false_iff_ne]
                  exact fun h => hp ((two_sep s i).2 ⟨u1, by rw [hi2]; exact h⟩)
                have u5 : (i : Int) + 2 = (i2 : Int) := by omega
                have u6 : i ≤ i2 := by omega
                have u7 : i2 ≤ s.size := by omega
                have u4 : ¬ (s.size : Int) < (i2 : Int) := by omega
                replace hi2 := Lib.hid hi2
                clear u1
                replace hp := Lib.hid hp
                go_wp2
                go_ret2
                have e := hR2.out
                subst e
                exact ⟨⟨none, 0, rfl, fun i hi => by simp at hi, fun _ => rfl, Nat.le_refl _⟩, hbel⟩
              · have u4 : (s.size : Int) < (i : Int) + 2 := by omega
                replace hp := Lib.hid hp
                go_wp2
                go_ret2
                have e := hR2.out
                subst e
                exact ⟨⟨none, 0, rfl, fun i hi => by simp at hi, fun _ => rfl, Nat.le_refl _⟩, hbel⟩
        case rest =>
          obtain ⟨j, rfl, hij, hrt⟩ := hcut
          obtain ⟨⟨acc2, f2, hown2, haj, hf2, hR2⟩, hbel2⟩ := hrt.out
          clear hrt hR hown ht1 hn hlt' hf hai
          by_cases hj : j < s.size
          · have hj' : (j : Int) < (s.size : Int) := by omega
            have hg := get_bang s j hj
            by_cases hq : s.get! j = 34
            · have hb : (s[j].toNat : Int) = 34 := by rw [← hg, hq]; rfl
              have hend := refEnd_any s j wc (by omega) (by omega)
              by_cases hneg : endAt s (j + 1) < 0
              · have hno := elems_open s j f2 hneg
                rw [hno] at hR2
                generalize endAt s (j + 1) = k at hend hneg
                replace hend := Lib.hid hend
                replace hR2 := Lib.hid hR2
                replace hno := Lib.hid hno
                replace hq := Lib.hid hq
                replace hg := Lib.hid hg
                go_wp2_with (go_at_call 50; refine hend.out.mono ?_; rintro e w1 ⟨rfl, rfl⟩)
                go_ret2
                have e := hR2.out
                subst e
                exact ⟨⟨none, 0, rfl, fun i hi => by simp at hi, fun _ => rfl, Nat.le_refl _⟩, hbel2⟩
              · obtain ⟨d, hd, hke, hkl, hd0⟩ := end_at s j (by omega)
                obtain ⟨k, hk⟩ : ∃ k, j + (d + 1) = k := ⟨_, rfl⟩
                rw [hk] at hke hkl
                rw [hke] at hend
                clear hke hneg
                have hk0 : ¬ (k : Int) < 0 := by omega
                have hjk : j ≤ k := by omega
                replace hend := Lib.hid hend
                by_cases hfull : k = s.size
                · have hno := elems_full s j f2 d hd (by omega)
                  rw [hno] at hR2
                  have hkf : ¬ (k : Int) < (s.size : Int) := by omega
                  have hkf2 : (s.size : Int) ≤ (k : Int) := by omega
                  replace hR2 := Lib.hid hR2
                  replace hno := Lib.hid hno
                  replace hq := Lib.hid hq
                  replace hg := Lib.hid hg
                  replace hd := Lib.hid hd
                  replace hk := Lib.hid hk
                  replace hfull := Lib.hid hfull
                  go_wp2_with (go_at_call 50; refine hend.out.mono ?_; rintro e w1 ⟨rfl, rfl⟩)
                  go_ret2
                  have e := hR2.out
                  subst e
                  exact ⟨⟨none, 0, rfl, fun i hi => by simp at hi, fun _ => rfl, Nat.le_refl _⟩, hbel2⟩
                · have hks : k < s.size := by omega
                  have hks' : (k : Int) < (s.size : Int) := by omega
                  have hks2 : ¬ (s.size : Int) ≤ (k : Int) := by omega
                  have hun := refUnquote_any (s.extract j k) wc (by rw [ByteArray.size_extract]; omega) (hT.below hbel2)
                  rw [unqV_eq] at hun
                  by_cases hu : (unqP (s.extract j k)).2 = 0
                  · obtain ⟨g, hg2, hnx⟩ := elems_next s acc2 j f2 d hf2 hj hd (by omega) (by rw [hk]; exact hu)
                    rw [hk] at hg2 hnx
                    rw [hnx] at hR2
                    rw [hu] at hun
                    generalize (unqP (s.extract j k)).1 = t at hun hR2
                    clear hnx
                    have hal : acc2.length + 1 ≤ 1000000 := by omega
                    replace hun := Lib.hid hun
                    replace hR2 := Lib.hid hR2
                    replace hu := Lib.hid hu
                    replace hq := Lib.hid hq
                    replace hg := Lib.hid hg
                    replace hd := Lib.hid hd
                    replace hk := Lib.hid hk
                    go_wp2_with (first
                      | (go_at_call 50; refine hend.out.mono ?_; rintro e w1 ⟨rfl, rfl⟩)
                      | (go_at_call 25; refine hun.out.mono ?_; rintro e w2 ⟨rfl, hb2⟩; have hbel3 := hbel2.trans (hb2.mono hbel2.size); have hbel4 := hbel3.alloc hbel3.size (.cells #[.string t] 9); have hown3 := (hown2.below hb2).below ((Below.refl _ w2).alloc (Nat.le_refl _) (.cells #[.string t] 9)))
                      | (at_builtin; refine wpList_ownT rfl _ _ rfl [t] (some ⟨w2.heap.size, 0, none⟩) 1 hown3 rfl rfl (by intro h; cases h) (texts_one t w2) (by simpa using hal) hbel4.size ?_; intro v5 w5 hown5 hb5))
                    go_roundw
                    case rel =>
                      refine ⟨k, rfl, Lib.hid ⟨⟨acc2 ++ [t], g, hown5, ?_, hg2, hR2.out⟩, hks, hbel4.trans hb5⟩⟩
                      rw [List.length_append, List.length_singleton]
                      have := hk.out
                      omega
                    case measure =>
                      have := hk.out
                      simp [intOf]
                      omega
                  · have hno := elems_bad s j f2 d hd (by rw [hk]; exact hu)
                    rw [hno] at hR2
                    obtain ⟨er, her⟩ : ∃ er, (unqP (s.extract j k)).2 = er := ⟨_, rfl⟩
                    rw [her] at hun hu
                    generalize (unqP (s.extract j k)).1 = t at hun
                    have hne : (er != 0) = true := by simpa using hu
                    replace her := Lib.hid her
                    replace hun := Lib.hid hun
                    replace hR2 := Lib.hid hR2
                    replace hno := Lib.hid hno
                    replace hq := Lib.hid hq
                    replace hg := Lib.hid hg
                    replace hd := Lib.hid hd
                    replace hk := Lib.hid hk
                    go_wp2_with (first
                      | (go_at_call 50; refine hend.out.mono ?_; rintro e w1 ⟨rfl, rfl⟩)
                      | (go_at_call 25; refine hun.out.mono ?_; rintro e w2 ⟨rfl, hb2⟩; have hbel3 := hbel2.trans (hb2.mono hbel2.size)))
                    go_ret2
                    have e := hR2.out
                    subst e
                    exact ⟨⟨none, 0, rfl, fun i hi => by simp at hi, fun _ => rfl, Nat.le_refl _⟩, hbel3⟩
            · have hb : ¬ (s[j].toNat : Int) = 34 := by rw [← hg]; intro h; exact hq (UInt8.toNat_inj.1 (by show _ = 34; omega))
              have hbb : ((s[j].toNat : Int) != 34) = true := bne_iff_ne.2 hb
              have hno := elems_plain s j f2 hj hq
              rw [hno] at hR2
              replace hR2 := Lib.hid hR2
              replace hno := Lib.hid hno
              replace hq := Lib.hid hq
              replace hg := Lib.hid hg
              go_wp2
              go_ret2
              have e := hR2.out
              subst e
              exact ⟨⟨none, 0, rfl, fun i hi => by simp at hi, fun _ => rfl, Nat.le_refl _⟩, hbel2⟩
          · have hj' : ¬ (j : Int) < (s.size : Int) := by omega
            have hj2 : (s.size : Int) ≤ (j : Int) := by omega
            have hno := elems_out s j f2 (by omega)
            rw [hno] at hR2
            replace hR2 := Lib.hid hR2
            replace hno := Lib.hid hno
            go_wp2
            go_ret2
            have e := hR2.out
            subst e
            exact ⟨⟨none, 0, rfl, fun i hi => by simp at hi, fun _ => rfl, Nat.le_refl _⟩, hbel2⟩
end Go.Proofs.YtmijfcdmnibnpaaGreatDoor
/- What the document's reading of a value's source form comes to: its plain part. -/
namespace Go.Proofs.YtmijfcdmnibnpaaGreatDoor
open Go Go.RowKit

/-- The value that the document's reading tries, and whether there is one. -/
def refV (s : ByteArray) : Val × Bool :=
  if s = ⟨#[116, 114, 117, 101]⟩ then (⟨1, 1, ⟨#[]⟩, []⟩, true)
  else if s = ⟨#[102, 97, 108, 115, 101]⟩ then (⟨1, 0, ⟨#[]⟩, []⟩, true)
  else if 0 < s.size ∧ s.get! 0 = 34 then (⟨3, 0, (unqP s).1, []⟩, decide ((unqP s).2 = 0))
  else if 1 < s.size ∧ s.get! 0 = 91 then (⟨5, 0, ⟨#[]⟩, (headP s [] s.size 1).getD []⟩, (headP s [] s.size 1).isSome)
  else if (parseP s).2 = 0 then (⟨2, (parseP s).1, ⟨#[]⟩, []⟩, true)
  else (⟨4, 0, s, []⟩, true)
theorem has_one (s : ByteArray) (c : UInt8) : Lib.hasPrefix s.data.toList [c] = true ↔ 0 < s.size ∧ s.get! 0 = c := by
  have hl : s.data.toList.length = s.size := rfl
  unfold Lib.hasPrefix
  rw [List.isPrefixOf_iff_prefix]
  constructor
  · intro h
    have h1 := h.length_le
    have h0 : 0 < s.size := by simp at h1; omega
    have h2 := drop_at s 0 h0
    rw [List.drop_zero] at h2
    rw [h2] at h
    obtain ⟨t, ht⟩ := h
    exact ⟨h0, (List.cons.inj ht).1.symm⟩
  · rintro ⟨h0, h2⟩
    have h3 := drop_at s 0 h0
    rw [List.drop_zero, h2] at h3
    exact ⟨s.data.toList.drop 1, h3.symm⟩
theorem head_list (s : ByteArray) (h1 : 1 < s.size) (h0 : s.get! 0 = 91) : headP s [] s.size 1 = listP s := by
  have hp : Lib.hasPrefix s.data.toList [91] = true := (has_one s 91).2 ⟨by omega, h0⟩
  have h3 := drop_at s 0 (by omega)
  rw [List.drop_zero, h0] at h3
  unfold headP listP
  by_cases h : s = ⟨#[91, 93]⟩
  · rw [if_pos h, if_pos]
    subst h
    apply ext_list
    rw [rest_list]
    rfl
  · rw [if_neg h, if_pos hp, if_neg, if_pos rfl]
    intro h4
    apply h
    apply ext_list
    rw [h3, ← rest_list s 1, h4]
theorem checkE_version (s : ByteArray) (h : ¬ verOk s) : checkE ⟨4, 0, s, []⟩ ≠ 0 := by
  unfold checkE
  have hp : shapeP ⟨4, 0, s, []⟩ := ⟨.inr rfl, .inl (.inr rfl), .inr rfl⟩
  rw [if_neg (by simp), if_neg (by simpa using hp), if_neg (by simp), if_neg (by simp), if_neg (by simp), if_pos rfl, if_neg h]
  decide
theorem index_some (l : List UInt8) (h : 0 ≤ Lib.indexByte l 46) : ∃ j : Nat, l[j]? = some 46 := by
  apply Classical.byContradiction
  intro hn
  have := index_none l (fun c hc e => by
    subst e
    obtain ⟨j, hj⟩ := List.getElem?_of_mem hc
    exact hn ⟨j, hj⟩)
  omega
theorem parseR_ref (s : ByteArray) : parseR s = if (refV s).2 = true ∧ checkE (refV s).1 = 0 then ((refV s).1, 0) else (⟨0, 0, ⟨#[]⟩, []⟩, 1) := by
  by_cases ht : s = ⟨#[116, 114, 117, 101]⟩
  · have h1 : formP s = 1 := by unfold formP; rw [if_pos (.inl ht)]
    have e : readP s = refV s := by
      unfold readP refV
      rw [if_pos h1, if_pos ht, if_pos ht]
    unfold parseR
    rw [e]
  · by_cases hf : s = ⟨#[102, 97, 108, 115, 101]⟩
    · have h1 : formP s = 1 := by unfold formP; rw [if_pos (.inr hf)]
      have e : readP s = refV s := by
        unfold readP refV
        rw [if_pos h1, if_neg ht, if_neg ht, if_pos hf]
      unfold parseR
      rw [e]
    · have hfo : ¬ (s = ⟨#[116, 114, 117, 101]⟩ ∨ s = ⟨#[102, 97, 108, 115, 101]⟩) := fun h => h.elim ht hf
      by_cases hq : 0 < s.size ∧ s.get! 0 = 34
      · have h1 : formP s = 3 := by unfold formP; rw [if_neg hfo, if_pos ((has_one s 34).2 hq)]
        have e : readP s = refV s := by
          unfold readP refV
          rw [h1, if_neg (by decide), if_neg (by decide), if_pos rfl, if_neg ht, if_neg hf, if_pos hq]
        unfold parseR
        rw [e]
      · have hq2 : ¬ Lib.hasPrefix s.data.toList [34] = true := fun h => hq ((has_one s 34).1 h)
        by_cases hl : 1 < s.size ∧ s.get! 0 = 91
        · have h1 : formP s = 5 := by unfold formP; rw [if_neg hfo, if_neg hq2, if_pos ((has_one s 91).2 ⟨by omega, hl.2⟩)]
          have e : readP s = refV s := by
            unfold readP refV
            rw [h1, if_neg (by decide), if_neg (by decide), if_neg (by decide), if_neg (by decide), if_neg ht, if_neg hf, if_neg hq, if_pos hl, head_list s hl.1 hl.2]
          unfold parseR
          rw [e]
        · by_cases hb : Lib.hasPrefix s.data.toList [91] = true
          · obtain ⟨b0, b1⟩ := (has_one s 91).1 hb
            have hz : s.size = 1 := by
              apply Classical.byContradiction
              intro h
              exact hl ⟨by omega, b1⟩
            have hs : s = ⟨#[91]⟩ := by
              have h3 := drop_at s 0 b0
              rw [List.drop_zero, b1, List.drop_eq_nil_of_le (by show s.size ≤ 1; omega)] at h3
              exact ext_list _ _ h3
            subst hs
            have a1 : (readP ⟨#[91]⟩).2 = false := by decide +kernel
            have a2 : ¬ checkE (refV ⟨#[91]⟩).1 = 0 := by decide +kernel
            unfold parseR
            rw [if_neg (fun h => absurd (a1.symm.trans h.1) (by decide)), if_neg (fun h => a2 h.2)]
          · by_cases hd : 0 ≤ Lib.indexByte s.data.toList 46
            · have h1 : formP s = 4 := by unfold formP; rw [if_neg hfo, if_neg hq2, if_neg hb, if_pos hd]
              obtain ⟨j, hj⟩ := index_some _ hd
              have hp := parseP_dot s j hj
              have e : readP s = refV s := by
                unfold readP refV
                rw [h1, if_neg (by decide), if_neg (by decide), if_neg (by decide), if_pos rfl, if_neg ht, if_neg hf, if_neg hq, if_neg hl, if_neg hp]
              unfold parseR
              rw [e]
            · have h1 : formP s = 2 := by unfold formP; rw [if_neg hfo, if_neg hq2, if_neg hb, if_neg hd]
              have e1 : readP s = (⟨2, (parseP s).1, ⟨#[]⟩, []⟩, decide ((parseP s).2 = 0)) := by
                unfold readP
                rw [h1, if_neg (by decide), if_pos rfl]
              by_cases hp : (parseP s).2 = 0
              · have e2 : refV s = (⟨2, (parseP s).1, ⟨#[]⟩, []⟩, true) := by
                  unfold refV
                  rw [if_neg ht, if_neg hf, if_neg hq, if_neg hl, if_pos hp]
                unfold parseR
                rw [e1, e2, decide_eq_true hp]
              · have e2 : refV s = (⟨4, 0, s, []⟩, true) := by
                  unfold refV
                  rw [if_neg ht, if_neg hf, if_neg hq, if_neg hl, if_neg hp]
                have hv := checkE_version s (fun h => hd (ver_dot s h))
                unfold parseR
                rw [e1, e2, if_neg (fun h => hp (of_decide_eq_true h.1)), if_neg (fun h => hv h.2)]
end Go.Proofs.YtmijfcdmnibnpaaGreatDoor
/- Contract of the document's reading of a value's source form. -/
namespace Go.Proofs.YtmijfcdmnibnpaaGreatDoor
open Go Go.RowKit

theorem four0 {wr : World} {V : Nat} {v0 v1 v2 v3 : Value} (h : wr.heap[V]? = some (.cells #[v0, v1, v2, v3] 29 (0, 0))) (u : Value) : (wr.setCell ⟨V, 0, none⟩ u).heap[V]? = some (.cells #[u, v1, v2, v3] 29 (0, 0)) := by
  show (wr.heap.modify V _)[V]? = _
  rw [Array.getElem?_modify, if_pos rfl, h]
  rfl
theorem four1 {wr : World} {V : Nat} {v0 v1 v2 v3 : Value} (h : wr.heap[V]? = some (.cells #[v0, v1, v2, v3] 29 (0, 0))) (u : Value) : (wr.setCell ⟨V, 1, none⟩ u).heap[V]? = some (.cells #[v0, u, v2, v3] 29 (0, 0)) := by
  show (wr.heap.modify V _)[V]? = _
  rw [Array.getElem?_modify, if_pos rfl, h]
  rfl
theorem four2 {wr : World} {V : Nat} {v0 v1 v2 v3 : Value} (h : wr.heap[V]? = some (.cells #[v0, v1, v2, v3] 29 (0, 0))) (u : Value) : (wr.setCell ⟨V, 2, none⟩ u).heap[V]? = some (.cells #[v0, v1, u, v3] 29 (0, 0)) := by
  show (wr.heap.modify V _)[V]? = _
  rw [Array.getElem?_modify, if_pos rfl, h]
  rfl
theorem four3 {wr : World} {V : Nat} {v0 v1 v2 v3 : Value} (h : wr.heap[V]? = some (.cells #[v0, v1, v2, v3] 29 (0, 0))) (u : Value) : (wr.setCell ⟨V, 3, none⟩ u).heap[V]? = some (.cells #[v0, v1, v2, u] 29 (0, 0)) := by
  show (wr.heap.modify V _)[V]? = _
  rw [Array.getElem?_modify, if_pos rfl, h]
  rfl
theorem PV.put {x : Val} {a : Option Addr} {c B V : Nat} {w wr : World} (h : PV x a c B V w wr) (hV : B < V) (y : Val) (b : Option Addr) (d : Nat) :
    PV y b d B V w ((((wr.setCell ⟨V, 0, none⟩ (.int .i64 y.kind)).setCell ⟨V, 1, none⟩ (.int .i64 y.num)).setCell ⟨V, 2, none⟩ (.string y.text)).setCell ⟨V, 3, none⟩ (.slice b (y.list.length : Nat) d)) := by
  refine ⟨?_, ?_, (((h.below.setCell (p := ⟨V, 0, none⟩) (Nat.le_of_lt hV) _).setCell (p := ⟨V, 1, none⟩) (Nat.le_of_lt hV) _).setCell (p := ⟨V, 2, none⟩) (Nat.le_of_lt hV) _).setCell (p := ⟨V, 3, none⟩) (Nat.le_of_lt hV) _⟩
  · rw [Below.heap_setCell _ _ _ _ (by show B ≠ V; omega), Below.heap_setCell _ _ _ _ (by show B ≠ V; omega), Below.heap_setCell _ _ _ _ (by show B ≠ V; omega), Below.heap_setCell _ _ _ _ (by show B ≠ V; omega)]
    exact h.first
  · exact four3 (four2 (four1 (four0 h.val _) _) _) _
theorem refV_small (s : ByteArray) : (refV s).1.text.size ≤ s.size ∧ (refV s).1.list.length ≤ s.size ∧ ∀ t ∈ (refV s).1.list, t.size ≤ s.size := by
  unfold refV
  split
  · exact ⟨Nat.zero_le _, Nat.zero_le _, fun t ht => by simp at ht⟩
  · split
    · exact ⟨Nat.zero_le _, Nat.zero_le _, fun t ht => by simp at ht⟩
    · split
      · exact ⟨unqP_size s, Nat.zero_le _, fun t ht => by simp at ht⟩
      · split
        · rename_i h
          rw [head_list s h.1 h.2]
          exact ⟨Nat.zero_le _, (listP_small s).1, (listP_small s).2⟩
        · split
          · exact ⟨Nat.zero_le _, Nat.zero_le _, fun t ht => by simp at ht⟩
          · exact ⟨Nat.le_refl _, Nat.zero_le _, fun t ht => by simp at ht⟩
/-- What the switch leaves. -/
structure SW (s : ByteArray) (B V : Nat) (w wr : World) : Prop where
  ex : ∃ (a : Option Addr) (c : Nat), PV (refV s).1 a c B V w wr ∧ TextsFrom (V + 1) a (refV s).1.list wr ∧ (a = none → c = 0) ∧ (refV s).1.list.length ≤ c
  yes : (refV s).2 = true
set_option maxHeartbeats 8000000 in
theorem refParseVal_any (s : ByteArray) (w : World) (hs : s.size ≤ 1900000) (hT : Tabs w) :
    Calls Tryz.prog 11 #[.string s] w fun e w' => ReadEnd (parseR s).1 (.int .i64 (parseR s).2) w.heap.size w e w' := by
  have hpv0 : PV ⟨0, 0, ⟨#[]⟩, []⟩ none 0 w.heap.size (w.heap.size + 1) w ((w.alloc (.cells #[.int .i64 0, .int .i64 0, .string ⟨#[]⟩, .slice none 0 0] 29)).alloc (.cells #[.int .i64 0, .int .i64 0, .string ⟨#[]⟩, .slice none 0 0] 29)) := by
    refine ⟨?_, ?_, ((Below.refl _ w).alloc (Nat.le_refl _) _).alloc (by simp) _⟩
    · rw [Below.heap_alloc _ _ _ (by simp)]
      exact heap_alloc_new w _
    · have := heap_alloc_new (w.alloc (.cells #[.int .i64 0, .int .i64 0, .string ⟨#[]⟩, .slice none 0 0] 29)) (.cells #[.int .i64 0, .int .i64 0, .string ⟨#[]⟩, .slice none 0 0] 29)
      rw [World.size_alloc] at this
      exact this
  have hPR := parseR_ref s
  obtain ⟨R, hR⟩ : ∃ R, parseR s = R := ⟨_, rfl⟩
  rw [hR] at hPR
  rw [hR]
  replace hR := Lib.hid hR
  replace hPR := Lib.hid hPR
  go_enter Tryz.func11, Tryz.ntmps11
  go_upto_block 0 with (fail)
  have hw0 : w.heap.size + 2 ≤ ((w.alloc (.cells #[.int .i64 0, .int .i64 0, .string ⟨#[]⟩, .slice none 0 0] 29)).alloc (.cells #[.int .i64 0, .int .i64 0, .string ⟨#[]⟩, .slice none 0 0] 29)).heap.size := by simp
  generalize (w.alloc (.cells #[.int .i64 0, .int .i64 0, .string ⟨#[]⟩, .slice none 0 0] 29)).alloc (.cells #[.int .i64 0, .int .i64 0, .string ⟨#[]⟩, .slice none 0 0] 29) = w0 at hpv0 hw0 ⊢
  have hV : w.heap.size < w.heap.size + 1 := Nat.lt_succ_self _
  go_cut [4] (fun v wx => v = .pointer (some ⟨w.heap.size + 1, 0, none⟩) ∧ Hid (SW s w.heap.size (w.heap.size + 1) w wx))
  case first =>
    have hpf := hpv0.facts
    obtain ⟨⟨z0, z1, z2, z3⟩, -, -⟩ := hpf
    have zf : ∀ i, w0.frozen? ⟨w.heap.size + 1, i, none⟩ = false := Lib.frozen_of_heap hpv0.val
    simp only at z0 z1 z2 z3
    by_cases ht : s = ⟨#[116, 114, 117, 101]⟩
    · have hrf : refV s = (⟨1, 1, ⟨#[]⟩, []⟩, true) := by unfold refV; rw [if_pos ht]
      have e1 : (s.toList == [116, 114, 117, 101]) = true := by rw [ht, ByteArray.toList_eq]; rfl
      have hput := hpv0.put hV ⟨1, 1, ⟨#[]⟩, []⟩ none 0
      replace hrf := Lib.hid hrf
      replace hput := Lib.hid hput
      replace ht := Lib.hid ht
      go_wp2
      go_meet
      case rel =>
        refine ⟨rfl, Lib.hid ⟨⟨none, 0, ?_, ?_, fun _ => rfl, ?_⟩, by rw [hrf.out]⟩⟩
        · rw [hrf.out]; exact hput.out
        · rw [hrf.out]; exact fun i hi => by simp at hi
        · rw [hrf.out]; exact Nat.le_refl _
    · have d1 : (s.toList == [116, 114, 117, 101]) = false := by
        have := bytes_differ ht
        rw [show (⟨#[116, 114, 117, 101]⟩ : ByteArray).toList = [116, 114, 117, 101] from by rw [ByteArray.toList_eq]] at this
        exact this
      by_cases hf : s = ⟨#[102, 97, 108, 115, 101]⟩
      · have hrf : refV s = (⟨1, 0, ⟨#[]⟩, []⟩, true) := by unfold refV; rw [if_neg ht, if_pos hf]
        have e1 : (s.toList == [102, 97, 108, 115, 101]) = true := by rw [hf, ByteArray.toList_eq]; rfl
        have hput := hpv0.put hV ⟨1, 0, ⟨#[]⟩, []⟩ none 0
        replace hrf := Lib.hid hrf
        replace hput := Lib.hid hput
        replace ht := Lib.hid ht
        replace hf := Lib.hid hf
        go_wp2
        go_meet
        case rel =>
          refine ⟨rfl, Lib.hid ⟨⟨none, 0, ?_, ?_, ?_, ?_⟩, by rw [hrf.out]⟩⟩
          · rw [hrf.out]; exact hput.out
          · rw [hrf.out]; exact fun i hi => by simp at hi
          · exact fun _ => rfl
          · rw [hrf.out]; exact Nat.le_refl _
      · have d2 : (s.toList == [102, 97, 108, 115, 101]) = false := by
          have := bytes_differ hf
          rw [show (⟨#[102, 97, 108, 115, 101]⟩ : ByteArray).toList = [102, 97, 108, 115, 101] from by rw [ByteArray.toList_eq]] at this
          exact this
        by_cases hq : 0 < s.size ∧ s.get! 0 = 34
        · have hg := get_bang s 0 hq.1
          have hb : (s[0].toNat : Int) = 34 := by rw [← hg, hq.2]; rfl
          have hz := hq.1
          have hz' : (0 : Int) < (s.size : Int) := by omega
          have hun := refUnquote_any s w0 (by omega) (hT.below hpv0.below)
          rw [unqV_eq] at hun
          replace hg := Lib.hid hg
          by_cases hu : (unqP s).2 = 0
          · have hrf : refV s = (⟨3, 0, (unqP s).1, []⟩, true) := by unfold refV; rw [if_neg ht, if_neg hf, if_pos hq, decide_eq_true hu]
            rw [hu] at hun
            generalize (unqP s).1 = t at hun hrf
            replace hun := Lib.hid hun
            replace hrf := Lib.hid hrf
            replace hu := Lib.hid hu
            replace hq := Lib.hid hq
            replace ht := Lib.hid ht
            replace hf := Lib.hid hf
            clear z0 z1 z2 z3 zf
            go_wp2_with (go_at_call 25; refine hun.out.mono ?_; rintro e w1 ⟨rfl, hb1⟩; have hp1 := hpv0.grown hb1; obtain ⟨⟨x0, x1, x2, x3⟩, ⟨y0, y1, y2, y3⟩, yf⟩ := hp1.facts; simp only at x0 x1 x2 x3; have xf : ∀ i, w1.frozen? ⟨w.heap.size + 1, i, none⟩ = false := Lib.frozen_of_heap hp1.val; have hbl := hp1.below; have hput := Lib.hid (hp1.put hV ⟨3, 0, t, []⟩ none 0))
            go_meet
            case rel =>
              refine ⟨rfl, Lib.hid ⟨⟨none, 0, ?_, ?_, ?_, ?_⟩, by rw [hrf.out]⟩⟩
              · rw [hrf.out]; exact hput.out
              · rw [hrf.out]; exact fun i hi => by simp at hi
              · exact fun _ => rfl
              · rw [hrf.out]; exact Nat.le_refl _
          · have hrf : (refV s).2 = false := by unfold refV; rw [if_neg ht, if_neg hf, if_pos hq]; exact decide_eq_false hu
            have hR2 := hPR.out
            rw [if_neg (fun h => absurd (hrf.symm.trans h.1) (by decide))] at hR2
            obtain ⟨er, her⟩ : ∃ er, (unqP s).2 = er := ⟨_, rfl⟩
            rw [her] at hun hu
            generalize (unqP s).1 = t at hun
            have hne : (er != 0) = true := by simpa using hu
            replace hun := Lib.hid hun
            replace hrf := Lib.hid hrf
            replace hR2 := Lib.hid hR2
            replace her := Lib.hid her
            replace hq := Lib.hid hq
            replace ht := Lib.hid ht
            replace hf := Lib.hid hf
            clear z0 z1 z2 z3 zf
            go_wp2_with (go_at_call 25; refine hun.out.mono ?_; rintro e w1 ⟨rfl, hb1⟩; have hp1 := hpv0.grown hb1; obtain ⟨⟨x0, x1, x2, x3⟩, ⟨y0, y1, y2, y3⟩, yf⟩ := hp1.facts; simp only at x0 x1 x2 x3; have xf : ∀ i, w1.frozen? ⟨w.heap.size + 1, i, none⟩ = false := Lib.frozen_of_heap hp1.val; have hbl := hp1.below)
            have e := hR2.out
            subst e
            refine bodyPost_ret (v := .tuple #[.agg #[.int .i64 0, .int .i64 0, .string ⟨#[]⟩, .slice none 0 0], .int .i64 1]) (by simp [results, Tryz.results11, go_sem, y0, y1, y2, y3]) rfl (readEnd_plain (x := ⟨0, 0, ⟨#[]⟩, []⟩) rfl hbl _ _ _ _)
        · by_cases hl : 1 < s.size ∧ s.get! 0 = 91
          · have hg := get_bang s 0 (by omega)
            have hz := hl.1
            have hz0 : 0 < s.size := by omega
            have hz' : (1 : Int) < (s.size : Int) := by omega
            have hz'' : (0 : Int) < (s.size : Int) := by omega
            have hb : (s[0].toNat : Int) = 91 := by rw [← hg, hl.2]; rfl
            have hel := fun R h => elements_any s w0 hs hz (hT.below hpv0.below) R h
            have hel := hel _ rfl
            obtain ⟨Q, hQ⟩ : ∃ Q, headP s [] s.size 1 = Q := ⟨_, rfl⟩
            rw [hQ] at hel
            replace hg := Lib.hid hg
            cases Q with
            | none =>
              have hrf : (refV s).2 = false := by unfold refV; rw [if_neg ht, if_neg hf, if_neg hq, if_pos hl, hQ]; rfl
              have hR2 := hPR.out
              rw [if_neg (fun h => absurd (hrf.symm.trans h.1) (by decide))] at hR2
              change Calls _ _ _ _ (fun e w' => (∃ (a : Option Addr) (c : Nat), e = .returned (.tuple #[.slice a 0 c, .bool false]) ∧ _) ∧ _) at hel
              replace hel := Lib.hid hel
              replace hrf := Lib.hid hrf
              replace hR2 := Lib.hid hR2
              replace hQ := Lib.hid hQ
              replace hl := Lib.hid hl
              replace hq := Lib.hid hq
              replace ht := Lib.hid ht
              replace hf := Lib.hid hf
              clear z0 z1 z2 z3 zf
              go_wp2_with (go_at_call 26; refine hel.out.mono ?_; rintro e w1 ⟨⟨aa, ca, rfl, _⟩, hb1⟩; have hp1 := hpv0.grown hb1; obtain ⟨⟨x0, x1, x2, x3⟩, ⟨y0, y1, y2, y3⟩, yf⟩ := hp1.facts; simp only at x0 x1 x2 x3; have xf : ∀ i, w1.frozen? ⟨w.heap.size + 1, i, none⟩ = false := Lib.frozen_of_heap hp1.val; have hbl := hp1.below)
              have e := hR2.out
              subst e
              refine bodyPost_ret (v := .tuple #[.agg #[.int .i64 0, .int .i64 0, .string ⟨#[]⟩, .slice none 0 0], .int .i64 1]) (by simp [results, Tryz.results11, go_sem, y0, y1, y2, y3]) rfl (readEnd_plain (x := ⟨0, 0, ⟨#[]⟩, []⟩) rfl hbl _ _ _ _)
            | some L =>
              have hrf : refV s = (⟨5, 0, ⟨#[]⟩, L⟩, true) := by unfold refV; rw [if_neg ht, if_neg hf, if_neg hq, if_pos hl, hQ]; rfl
              change Calls _ _ _ _ (fun e w' => (∃ (a : Option Addr) (c : Nat), e = .returned (.tuple #[.slice a (L.length : Nat) c, .bool true]) ∧ TextsFrom w0.heap.size a L w' ∧ (a = none → c = 0) ∧ L.length ≤ c) ∧ _) at hel
              replace hel := Lib.hid hel
              replace hrf := Lib.hid hrf
              replace hQ := Lib.hid hQ
              replace hl := Lib.hid hl
              replace hq := Lib.hid hq
              replace ht := Lib.hid ht
              replace hf := Lib.hid hf
              clear z0 z1 z2 z3 zf
              go_wp2_with (go_at_call 26; refine hel.out.mono ?_; rintro e w1 ⟨⟨aa, ca, rfl, htx, hnx, hcx⟩, hb1⟩; have hp1 := hpv0.grown hb1; obtain ⟨⟨x0, x1, x2, x3⟩, ⟨y0, y1, y2, y3⟩, yf⟩ := hp1.facts; simp only at x0 x1 x2 x3; have xf : ∀ i, w1.frozen? ⟨w.heap.size + 1, i, none⟩ = false := Lib.frozen_of_heap hp1.val; have hbl := hp1.below; have hput := Lib.hid (hp1.put hV ⟨5, 0, ⟨#[]⟩, L⟩ aa ca))
              go_meet
              case rel =>
                refine ⟨rfl, Lib.hid ⟨⟨aa, ca, ?_, ?_, ?_, ?_⟩, by rw [hrf.out]⟩⟩
                · rw [hrf.out]; exact hput.out
                · rw [hrf.out]; exact (((((htx.mono (by show w.heap.size + 1 + 1 ≤ _; omega)).set (B' := w.heap.size + 1) (by omega) 0 _).set (B' := w.heap.size + 1) (by omega) 1 _).set (B' := w.heap.size + 1) (by omega) 2 _).set (B' := w.heap.size + 1) (by omega) 3 _)
                · exact hnx
                · rw [hrf.out]; exact hcx
          · by_cases hz : 0 < s.size
            · have hg := get_bang s 0 hz
              have hz'' : (0 : Int) < (s.size : Int) := by omega
              have hb34 : ¬ (s[0].toNat : Int) = 34 := by rw [← hg]; intro h; exact hq ⟨hz, UInt8.toNat_inj.1 (by show _ = 34; omega)⟩
              by_cases hz1 : 1 < s.size
              · have hz' : (1 : Int) < (s.size : Int) := by omega
                have hb91 : ¬ (s[0].toNat : Int) = 91 := by rw [← hg]; intro h; exact hl ⟨hz1, UInt8.toNat_inj.1 (by show _ = 91; omega)⟩
                replace hg := Lib.hid hg
                have hpn := refParse_any s w0 (by omega)
                rw [parseV_eq] at hpn
                unfold numE at hpn
                by_cases hp : (parseP s).2 = 0
                · have hrf : refV s = (⟨2, (parseP s).1, ⟨#[]⟩, []⟩, true) := by unfold refV; rw [if_neg ht, if_neg hf, if_neg hq, if_neg hl, if_pos hp]
                  rw [hp] at hpn
                  generalize (parseP s).1 = n at hpn hrf
                  have hput := Lib.hid (hpv0.put hV ⟨2, n, ⟨#[]⟩, []⟩ none 0)
                  replace hpn := Lib.hid hpn
                  replace hrf := Lib.hid hrf
                  replace hp := Lib.hid hp
                  replace hl := Lib.hid hl
                  replace hq := Lib.hid hq
                  replace ht := Lib.hid ht
                  replace hf := Lib.hid hf
                  go_wp2_with (go_at_call 27; refine hpn.out.mono ?_; rintro e w1 ⟨rfl, rfl⟩)
                  go_meet
                  case rel =>
                    refine ⟨rfl, Lib.hid ⟨⟨none, 0, ?_, ?_, ?_, ?_⟩, by rw [hrf.out]⟩⟩
                    · rw [hrf.out]; exact hput.out
                    · rw [hrf.out]; exact fun i hi => by simp at hi
                    · exact fun _ => rfl
                    · rw [hrf.out]; exact Nat.le_refl _
                · have hrf : refV s = (⟨4, 0, s, []⟩, true) := by unfold refV; rw [if_neg ht, if_neg hf, if_neg hq, if_neg hl, if_neg hp]
                  obtain ⟨er, her⟩ : ∃ er, (parseP s).2 = er := ⟨_, rfl⟩
                  rw [her] at hpn hp
                  generalize (parseP s).1 = n at hpn
                  have hne : (er != 0) = true := by simpa using hp
                  have hput := Lib.hid ((hpv0.put hV ⟨2, n, ⟨#[]⟩, []⟩ none 0).put hV ⟨4, 0, s, []⟩ none 0)
                  replace hpn := Lib.hid hpn
                  replace hrf := Lib.hid hrf
                  replace her := Lib.hid her
                  replace hl := Lib.hid hl
                  replace hq := Lib.hid hq
                  replace ht := Lib.hid ht
                  replace hf := Lib.hid hf
                  go_wp2_with (go_at_call 27; refine hpn.out.mono ?_; rintro e w1 ⟨rfl, rfl⟩)
                  go_meet
                  case rel =>
                    refine ⟨rfl, Lib.hid ⟨⟨none, 0, ?_, ?_, ?_, ?_⟩, by rw [hrf.out]⟩⟩
                    · rw [hrf.out]; exact hput.out
                    · rw [hrf.out]; exact fun i hi => by simp at hi
                    · exact fun _ => rfl
                    · rw [hrf.out]; exact Nat.le_refl _
              · have hz' : ¬ (1 : Int) < (s.size : Int) := by omega
                replace hg := Lib.hid hg
                have hpn := refParse_any s w0 (by omega)
                rw [parseV_eq] at hpn
                unfold numE at hpn
                by_cases hp : (parseP s).2 = 0
                · have hrf : refV s = (⟨2, (parseP s).1, ⟨#[]⟩, []⟩, true) := by unfold refV; rw [if_neg ht, if_neg hf, if_neg hq, if_neg hl, if_pos hp]
                  rw [hp] at hpn
                  generalize (parseP s).1 = n at hpn hrf
                  have hput := Lib.hid (hpv0.put hV ⟨2, n, ⟨#[]⟩, []⟩ none 0)
                  replace hpn := Lib.hid hpn
                  replace hrf := Lib.hid hrf
                  replace hp := Lib.hid hp
                  replace hl := Lib.hid hl
                  replace hq := Lib.hid hq
                  replace ht := Lib.hid ht
                  replace hf := Lib.hid hf
                  go_wp2_with (go_at_call 27; refine hpn.out.mono ?_; rintro e w1 ⟨rfl, rfl⟩)
                  go_meet
                  case rel =>
                    refine ⟨rfl, Lib.hid ⟨⟨none, 0, ?_, ?_, ?_, ?_⟩, by rw [hrf.out]⟩⟩
                    · rw [hrf.out]; exact hput.out
                    · rw [hrf.out]; exact fun i hi => by simp at hi
                    · exact fun _ => rfl
                    · rw [hrf.out]; exact Nat.le_refl _
                · have hrf : refV s = (⟨4, 0, s, []⟩, true) := by unfold refV; rw [if_neg ht, if_neg hf, if_neg hq, if_neg hl, if_neg hp]
                  obtain ⟨er, her⟩ : ∃ er, (parseP s).2 = er := ⟨_, rfl⟩
                  rw [her] at hpn hp
                  generalize (parseP s).1 = n at hpn
                  have hne : (er != 0) = true := by simpa using hp
                  have hput := Lib.hid ((hpv0.put hV ⟨2, n, ⟨#[]⟩, []⟩ none 0).put hV ⟨4, 0, s, []⟩ none 0)
                  replace hpn := Lib.hid hpn
                  replace hrf := Lib.hid hrf
                  replace her := Lib.hid her
                  replace hl := Lib.hid hl
                  replace hq := Lib.hid hq
                  replace ht := Lib.hid ht
                  replace hf := Lib.hid hf
                  go_wp2_with (go_at_call 27; refine hpn.out.mono ?_; rintro e w1 ⟨rfl, rfl⟩)
                  go_meet
                  case rel =>
                    refine ⟨rfl, Lib.hid ⟨⟨none, 0, ?_, ?_, ?_, ?_⟩, by rw [hrf.out]⟩⟩
                    · rw [hrf.out]; exact hput.out
                    · rw [hrf.out]; exact fun i hi => by simp at hi
                    · exact fun _ => rfl
                    · rw [hrf.out]; exact Nat.le_refl _
            · have hz'' : ¬ (0 : Int) < (s.size : Int) := by omega
              have hz' : ¬ (1 : Int) < (s.size : Int) := by omega
              have hpn := refParse_any s w0 (by omega)
              rw [parseV_eq] at hpn
              unfold numE at hpn
              by_cases hp : (parseP s).2 = 0
              · have hrf : refV s = (⟨2, (parseP s).1, ⟨#[]⟩, []⟩, true) := by unfold refV; rw [if_neg ht, if_neg hf, if_neg hq, if_neg hl, if_pos hp]
                rw [hp] at hpn
                generalize (parseP s).1 = n at hpn hrf
                have hput := Lib.hid (hpv0.put hV ⟨2, n, ⟨#[]⟩, []⟩ none 0)
                replace hpn := Lib.hid hpn
                replace hrf := Lib.hid hrf
                replace hp := Lib.hid hp
                replace hl := Lib.hid hl
                replace hq := Lib.hid hq
                replace ht := Lib.hid ht
                replace hf := Lib.hid hf
                go_wp2_with (go_at_call 27; refine hpn.out.mono ?_; rintro e w1 ⟨rfl, rfl⟩)
                go_meet
                case rel =>
                  refine ⟨rfl, Lib.hid ⟨⟨none, 0, ?_, ?_, ?_, ?_⟩, by rw [hrf.out]⟩⟩
                  · rw [hrf.out]; exact hput.out
                  · rw [hrf.out]; exact fun i hi => by simp at hi
                  · exact fun _ => rfl
                  · rw [hrf.out]; exact Nat.le_refl _
              · have hrf : refV s = (⟨4, 0, s, []⟩, true) := by unfold refV; rw [if_neg ht, if_neg hf, if_neg hq, if_neg hl, if_neg hp]
                obtain ⟨er, her⟩ : ∃ er, (parseP s).2 = er := ⟨_, rfl⟩
                rw [her] at hpn hp
                generalize (parseP s).1 = n at hpn
                have hne : (er != 0) = true := by simpa using hp
                have hput := Lib.hid ((hpv0.put hV ⟨2, n, ⟨#[]⟩, []⟩ none 0).put hV ⟨4, 0, s, []⟩ none 0)
                replace hpn := Lib.hid hpn
                replace hrf := Lib.hid hrf
                replace her := Lib.hid her
                replace hl := Lib.hid hl
                replace hq := Lib.hid hq
                replace ht := Lib.hid ht
                replace hf := Lib.hid hf
                go_wp2_with (go_at_call 27; refine hpn.out.mono ?_; rintro e w1 ⟨rfl, rfl⟩)
                go_meet
                case rel =>
                  refine ⟨rfl, Lib.hid ⟨⟨none, 0, ?_, ?_, ?_, ?_⟩, by rw [hrf.out]⟩⟩
                  · rw [hrf.out]; exact hput.out
                  · rw [hrf.out]; exact fun i hi => by simp at hi
                  · exact fun _ => rfl
                  · rw [hrf.out]; exact Nat.le_refl _
  case rest =>
    obtain ⟨rfl, hsw⟩ := hcut
    obtain ⟨⟨a, c, hpv, ht2, hn1, hc1⟩, hyes⟩ := hsw.out
    clear hsw
    have hPR2 := hPR.out
    rw [hyes] at hPR2
    have hsmall : (refV s).1.text.size ≤ 2000000 ∧ (refV s).1.list.length ≤ 2000000 ∧ ∀ t ∈ (refV s).1.list, t.size ≤ 2000000 := by
      obtain ⟨r1, r2, r3⟩ := refV_small s
      exact ⟨by omega, by omega, fun t h => by have := r3 t h; omega⟩
    generalize (refV s).1 = x at hpv ht2 hn1 hc1 hPR2 hsmall
    have hck := refCheck_any x a c wc (by omega) (by omega) (fun t h => by have := hsmall.2.2 t h; omega) (hT.below hpv.below) ht2.texts
    clear hsmall hyes
    obtain ⟨⟨c0, c1, c2, c3⟩, ⟨z0, z1, z2, z3⟩, zf⟩ := hpv.facts
    clear z0 z1 z2 z3 zf
    obtain ⟨k, n, t, l⟩ := x
    unfold Val.agg at hck
    simp only at ht2 hn1 hc1 hpv c0 c1 c2 c3
    by_cases he : checkE ⟨k, n, t, l⟩ = 0
    · have hR2 := hPR2
      rw [if_pos ⟨rfl, he⟩] at hR2
      subst hR2
      rw [he] at hck
      clear he hPR2 hPR
      replace hck := Lib.hid hck
      go_wp2_with (go_at_call 20; refine hck.out.mono ?_; rintro e w3 ⟨rfl, hb3⟩; have hp3 := hpv.grown hb3; have ht3 := ht2.below hb3; obtain ⟨⟨d0, d1, d2, d3⟩, ⟨z0, z1, z2, z3⟩, zf⟩ := hp3.facts; simp only at d0 d1 d2 d3; have hbl := hp3.below)
      refine bodyPost_ret (v := .tuple #[.agg #[.int .i64 k, .int .i64 n, .string t, .slice a l.length c], .int .i64 0]) (by simp [results, Tryz.results11, go_sem, z0, z1, z2, z3]) rfl ⟨⟨a, c, rfl, ?_, hn1, hc1⟩, below_four hbl _ _ _ _⟩
      exact (((((ht3.set (B' := w.heap.size) (by omega) 0 _).set (B' := w.heap.size) (by omega) 1 _).set (B' := w.heap.size) (by omega) 2 _).set (B' := w.heap.size) (by omega) 3 _)).mono (by omega)
    · have hR2 := hPR2
      rw [if_neg (fun h => he h.2)] at hR2
      subst hR2
      have hne : (checkE ⟨k, n, t, l⟩ != 0) = true := by simpa using he
      generalize checkE ⟨k, n, t, l⟩ = ce at hck hne
      clear he hPR2 hPR
      replace hck := Lib.hid hck
      go_wp2_with (go_at_call 20; refine hck.out.mono ?_; rintro e w3 ⟨rfl, hb3⟩; have hp3 := hpv.grown hb3; obtain ⟨-, ⟨z0, z1, z2, z3⟩, zf⟩ := hp3.facts; have hbl := hp3.below)
      refine bodyPost_ret (v := .tuple #[.agg #[.int .i64 0, .int .i64 0, .string ⟨#[]⟩, .slice none 0 0], .int .i64 1]) (by simp [results, Tryz.results11, go_sem, z0, z1, z2, z3]) rfl (readEnd_plain (x := ⟨0, 0, ⟨#[]⟩, []⟩) rfl hbl _ _ _ _)
end Go.Proofs.YtmijfcdmnibnpaaGreatDoor
