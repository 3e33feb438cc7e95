/- Contract of the document's answer for a text without its quotation marks. -/
import Derived.Test.YtfdmeinfjfmnlaaDoorUnquote
namespace Go.Proofs.YtfdmeinfjfmnlaaDoor
open Go Go.RowKit

theorem inner_eq (s : ByteArray) : inner s = (s.data.toList.take (s.size - 1)).drop 1 := by
  unfold inner
  rw [List.drop_take, show s.size - 1 - 1 = s.size - 2 by omega]
theorem rest_at (s : ByteArray) (k : Nat) (h : k + 1 < s.size) : (s.data.toList.take (s.size - 1)).drop k = s[k] :: (s.data.toList.take (s.size - 1)).drop (k + 1) := by
  have hl : s.data.toList.length = s.size := rfl
  have h' : k < (s.data.toList.take (s.size - 1)).length := by rw [List.length_take]; omega
  rw [List.drop_eq_getElem_cons h']
  congr 1
  rw [List.getElem_take]
  rfl
theorem rest_end (s : ByteArray) (k : Nat) (h : s.size ≤ k + 1) : (s.data.toList.take (s.size - 1)).drop k = [] := by
  apply List.drop_eq_nil_of_le
  rw [List.length_take]
  omega
theorem beqN {c d : UInt8} (h : ¬ c = d) (n : Int) (hn : (d.toNat : Int) = n) : ((c.toNat : Int) == n) = false := by
  rw [beq_eq_false_iff_ne]
  intro e
  exact h (UInt8.toNat_inj.1 (by omega))
theorem bneN {c d : UInt8} (h : ¬ c = d) (n : Int) (hn : (d.toNat : Int) = n) : ((c.toNat : Int) != n) = true := by
  unfold bne
  rw [beqN h n hn]
  rfl

/-- What the loop holds: the bytes so far, and that what is still to be read leads to the result. -/
def RqRel (s : ByteArray) (R : Option (List UInt8)) (w : World) (v i : Value) (wr : World) : Prop :=
  ∃ (k : Nat) (out : List UInt8), 1 ≤ k ∧ k + 1 ≤ s.size ∧ i = .int .i64 k ∧ unS ((s.data.toList.take (s.size - 1)).drop k) false out = R ∧ out.length ≤ k ∧ Own w.heap.size v out wr ∧ Below w.heap.size w wr

set_option maxHeartbeats 8000000 in
set_option maxRecDepth 100000 in
theorem refUnq_in (s : ByteArray) (w : World) (hs : s.size ≤ 140737488355328) (hT : Tabs w) (hin : 2 ≤ s.size ∧ s.get! 0 = 34 ∧ s.get! (s.size - 1) = 34) :
    Calls Tryd.prog 21 #[.string s] w fun e w' => e = .returned (unqV s) ∧ Below w.heap.size w w' := by
  obtain ⟨R, hR⟩ : ∃ R, unS (inner s) false [] = R := ⟨_, rfl⟩
  have hv := Lib.hid (unqV_in hin)
  rw [hR] at hv
  rw [inner_eq] at hR
  obtain ⟨h2, h0, h1⟩ := hin
  have e0 := ne34 s 0 (by omega)
  have e1 := ne34 s (s.size - 1) (by omega)
  rw [decide_eq_false (fun h => h h0)] at e0
  rw [decide_eq_false (fun h => h h1)] at e1
  replace h0 := Lib.hid h0
  replace h1 := Lib.hid h1
  replace hR := Lib.hid hR
  go_enter Tryd.func21, Tryd.ntmps21
  go_wp2
  clear e0 e1
  go_loopw [5, 6] (fun v i wr => RqRel s R w v i wr) (fun _ i _ => s.size - (intOf i).toNat)
  case atStart => exact ⟨1, [], Nat.le_refl _, by omega, rfl, hR.out, by simp, own_nil _ _, Below.refl _ _⟩
  case round =>
    obtain ⟨k, out, hk1, hk2, rfl, hun, hol, hown, hbw⟩ := hrel
    have hzb := hbw.size
    by_cases hlt : k + 1 < s.size
    · have hb := (s[k]).toNat_lt
      rw [rest_at s k hlt] at hun
      by_cases c34 : s[k] = 34
      · have q34 : ((s[k].toNat : Int) == 34) = true := by rw [c34]; rfl
        rw [unS, if_pos c34] at hun
        subst hun
        replace c34 := Lib.hid c34
        go_wp2
        go_ret2
        refine ⟨ret_v ?_, hbw⟩
        rw [hv.out]
        rfl
      · have q34 : ((s[k].toNat : Int) == 34) = false := beqN c34 34 rfl
        rw [unS, if_neg c34] at hun
        by_cases c92 : s[k] = 92
        · have q92 : ((s[k].toNat : Int) == 92) = true := by rw [c92]; rfl
          rw [if_pos c92] at hun
          replace c34 := Lib.hid c34
          replace c92 := Lib.hid c92
          by_cases hlast : k + 2 < s.size
          · rw [rest_at s (k + 1) hlast] at hun
            have hnl : ((k : Int) + 1 < (s.size : Int) - 1) := by omega
            cases he : isEsc s[k + 1] with
            | true =>
              rw [unS, if_pos he] at hun
              have hcc : s[k + 1] = 34 ∨ s[k + 1] = 92 := by simpa [isEsc] using he
              replace he := Lib.hid he
              replace hun := Lib.hid hun
              rcases hcc with hcc | hcc
              · have p34 : ((s[k + 1].toNat : Int) != 34) = false := by rw [hcc]; rfl
                replace hcc := Lib.hid hcc
                go_wp2_with (at_builtin; refine wpList_own1 rfl _ _ rfl s[k + 1] hown rfl rfl ?c1 hzb ?_)
                case c1 => omega
                intro v' w2 hown' hb2
                go_wp2
                go_roundw
                case rel => exact ⟨k + 2, _, by omega, by omega, by go_num, hun.out, by rw [List.length_append]; simp; omega, hown', hbw.trans hb2⟩
                case measure => simp [intOf]; omega
              · have p34 : ((s[k + 1].toNat : Int) != 34) = true := by rw [hcc]; rfl
                have p92 : ((s[k + 1].toNat : Int) != 92) = false := by rw [hcc]; rfl
                replace hcc := Lib.hid hcc
                go_wp2_with (at_builtin; refine wpList_own1 rfl _ _ rfl s[k + 1] hown rfl rfl ?c1 hzb ?_)
                case c1 => omega
                intro v' w2 hown' hb2
                go_wp2
                go_roundw
                case rel => exact ⟨k + 2, _, by omega, by omega, by go_num, hun.out, by rw [List.length_append]; simp; omega, hown', hbw.trans hb2⟩
                case measure => simp [intOf]; omega
            | false =>
              rw [unS, if_neg (by rw [he]; simp)] at hun
              subst hun
              have n34 : ¬ s[k + 1] = 34 := by rintro e; rw [e] at he; cases he
              have n92 : ¬ s[k + 1] = 92 := by rintro e; rw [e] at he; cases he
              have p34 : ((s[k + 1].toNat : Int) != 34) = true := bneN n34 34 rfl
              have p92 : ((s[k + 1].toNat : Int) != 92) = true := bneN n92 92 rfl
              replace n34 := Lib.hid n34
              replace n92 := Lib.hid n92
              replace he := Lib.hid he
              go_wp2
              go_ret2
              refine ⟨ret_v ?_, hbw⟩
              rw [hv.out]
              rfl
          · rw [rest_end s (k + 1) (by omega), unS] at hun
            subst hun
            have hnl : ((s.size : Int) - 1 ≤ (k : Int) + 1) := by omega
            go_wp2
            go_ret2
            refine ⟨ret_v ?_, hbw⟩
            rw [hv.out]
            rfl
        · have q92 : ((s[k].toNat : Int) == 92) = false := beqN c92 92 rfl
          rw [if_neg c92] at hun
          replace c34 := Lib.hid c34
          replace c92 := Lib.hid c92
          replace hun := Lib.hid hun
          go_wp2_with (at_builtin; refine wpList_own1 rfl _ _ rfl s[k] hown rfl rfl ?c1 hzb ?_)
          case c1 => omega
          intro v' w2 hown' hb2
          go_wp2
          go_roundw
          case rel => exact ⟨k + 1, _, by omega, by omega, by go_num, hun.out, by rw [List.length_append]; simp; omega, hown', hbw.trans hb2⟩
          case measure => simp [intOf]; omega
    · rw [rest_end s k (by omega), unS] at hun
      subst hun
      have hcv := Own.string hown
      have hosz : (⟨out.toArray⟩ : ByteArray).size ≤ 9223372036854775807 := by show out.toArray.size ≤ _; simp; omega
      replace hown := Lib.hid hown
      have hT' := hT.below hbw
      cases hvd : validB ⟨out.toArray⟩ with
      | true =>
        go_wp2_with (go_at_call 17; refine (refValid_any _ _ hosz hT').mono ?_; rintro e w2 ⟨rfl, hb2⟩; have hcv2 := Own.string (hown.out.below hb2))
        go_ret2
        refine ⟨ret_v ?_, hbw.trans (hb2.mono hzb)⟩
        rw [hv.out, unqIn, if_pos hvd]
        rfl
      | false =>
        go_wp2_with (go_at_call 17; refine (refValid_any _ _ hosz hT').mono ?_; rintro e w2 ⟨rfl, hb2⟩)
        go_ret2
        refine ⟨ret_v ?_, hbw.trans (hb2.mono hzb)⟩
        rw [hv.out, unqIn, if_neg (by rw [hvd]; simp)]
        rfl

set_option maxHeartbeats 4000000 in
theorem refUnquote_any (s : ByteArray) (w : World) (hs : s.size ≤ 140737488355328) (hT : Tabs w) :
    Calls Tryd.prog 21 #[.string s] w fun e w' => e = .returned (unqV s) ∧ Below w.heap.size w w' := by
  by_cases h2 : 2 ≤ s.size
  · have e0 := ne34 s 0 (by omega)
    have e1 := ne34 s (s.size - 1) (by omega)
    by_cases h0 : s.get! 0 = 34
    · by_cases h1 : s.get! (s.size - 1) = 34
      · exact refUnq_in s w hs hT ⟨h2, h0, h1⟩
      · have hv := Lib.hid (unqV_bad fun h => h1 h.2.2)
        rw [decide_eq_false (fun h => h h0)] at e0
        rw [decide_eq_true h1] at e1
        replace h0 := Lib.hid h0
        replace h1 := Lib.hid h1
        go_enter Tryd.func21, Tryd.ntmps21
        go_wp2
        go_ret2
        refine ⟨ret_v ?_, Below.refl _ _⟩
        rw [hv.out]
        rfl
    · have hv := Lib.hid (unqV_bad fun h => h0 h.2.1)
      rw [decide_eq_true h0] at e0
      replace h0 := Lib.hid h0
      clear e1
      go_enter Tryd.func21, Tryd.ntmps21
      go_wp2
      go_ret2
      refine ⟨ret_v ?_, Below.refl _ _⟩
      rw [hv.out]
      rfl
  · have hv := Lib.hid (unqV_bad fun h => h2 h.1)
    have h2' : (s.size : Int) < 2 := by omega
    clear h2
    go_enter Tryd.func21, Tryd.ntmps21
    go_wp2
    go_ret2
    refine ⟨ret_v ?_, Below.refl _ _⟩
    rw [hv.out]
    rfl
end Go.Proofs.YtfdmeinfjfmnlaaDoor
