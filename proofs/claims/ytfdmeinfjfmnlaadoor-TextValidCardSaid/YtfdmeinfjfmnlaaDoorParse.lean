/- Contract of text.ParseNumber: which number a text is, or the error. -/
import Derived.Test.YtfdmeinfjfmnlaaDoorNum
namespace Go.Proofs.YtfdmeinfjfmnlaaDoor
open Go Go.RowKit

def isD (c : UInt8) : Bool := decide (48 ≤ c.toNat) && decide (c.toNat ≤ 57)
/-- The value of digits. -/
def valN (l : List UInt8) : Nat := l.foldl (fun n c => 10 * n + (c.toNat - 48)) 0
theorem valN_snoc (l : List UInt8) (c : UInt8) : valN (l ++ [c]) = 10 * valN l + (c.toNat - 48) := by simp [valN]
def numE (n e : Int) : Value := .tuple #[.int .i64 n, .int .i64 e]
/-- What digits come to: whether the text is "0", whether it has a sign, and the digits. -/
def parseD (z neg : Bool) (D : List UInt8) : Value :=
  if D = [] ∨ (D.head? = some 48 ∧ z = false) ∨ D.all isD = false then numE 0 1
  else if 1099511627776 < valN D then numE 0 3
  else numE (if neg then -(valN D : Int) else (valN D : Int)) 0
def isZ (s : ByteArray) : Bool := decide (s.data.toList = [48])
def parseV (s : ByteArray) : Value := parseD (isZ s) (Lib.hasPrefix s.data.toList [45]) (Lib.trimPrefix s.data.toList [45])

theorem digB_rune (s : ByteArray) (pos : Nat) (h : pos < s.size) : digB ((Utf8.decode s pos).1 : Nat) = isD (s.get! pos) := by
  rw [get_bang s pos h]
  unfold digB isD
  by_cases ha : (s[pos]'h).toNat < 128
  · rw [decode_ascii s pos h ha]
    rw [Bool.eq_iff_iff]
    simp only [Bool.and_eq_true, decide_eq_true_eq]
    omega
  · have := (decode_high s pos h (by omega)).1
    rw [Bool.eq_iff_iff]
    simp only [Bool.and_eq_true, decide_eq_true_eq]
    omega
theorem digit_rune (s : ByteArray) (pos : Nat) (h : pos < s.size) (hd : isD (s.get! pos) = true) : (Utf8.decode s pos).1 = (s.get! pos).toNat ∧ (Utf8.decode s pos).2 = 1 := by
  rw [get_bang s pos h] at hd ⊢
  unfold isD at hd
  simp only [Bool.and_eq_true, decide_eq_true_eq] at hd
  rw [decode_ascii s pos h (by omega)]
  exact ⟨rfl, rfl⟩
theorem take_get (s : ByteArray) (k : Nat) (h : k < s.size) : s.data.toList.take (k + 1) = s.data.toList.take k ++ [s.get! k] := by
  rw [take_snoc s k h, get_bang s k h]
theorem cap_step (v x : Nat) (hx : x ≤ 9) : min (10 * min v 1099511627777 + x) 1099511627777 = min (10 * v + x) 1099511627777 := by omega

/-- What the loop holds: the value of the digits so far, capped. -/
def PnRel (d : ByteArray) (I : Nat) (nv : Value) (w wr : World) : Prop :=
  ∃ pos : Nat, pos ≤ d.size ∧ (d.data.toList.take pos).all isD = true ∧ nv = .int .i64 ((min (valN (d.data.toList.take pos)) 1099511627777 : Nat) : Int) ∧ wr.heap[I]? = some (.stringIter d pos) ∧ Below w.heap.size w wr

theorem parseD_empty (z N : Bool) : parseD z N [] = numE 0 1 := by unfold parseD; rw [if_pos (Or.inl rfl)]
theorem parseD_zero (N : Bool) (D : List UInt8) (h : D.head? = some 48) : parseD false N D = numE 0 1 := by unfold parseD; rw [if_pos (Or.inr (Or.inl ⟨h, rfl⟩))]
theorem parseD_bad (z N : Bool) (D : List UInt8) (h : D.all isD = false) : parseD z N D = numE 0 1 := by unfold parseD; rw [if_pos (Or.inr (Or.inr h))]
theorem parseD_big (z N : Bool) (D : List UInt8) (h0 : D ≠ []) (h1 : ¬ (D.head? = some 48 ∧ z = false)) (h2 : D.all isD = true) (h3 : 1099511627776 < valN D) : parseD z N D = numE 0 3 := by
  unfold parseD
  rw [if_neg, if_pos h3]
  rintro (h | h | h)
  · exact h0 h
  · exact h1 h
  · rw [h2] at h; cases h
theorem parseD_ok (z N : Bool) (D : List UInt8) (h0 : D ≠ []) (h1 : ¬ (D.head? = some 48 ∧ z = false)) (h2 : D.all isD = true) (h3 : ¬ 1099511627776 < valN D) : parseD z N D = numE (if N then -(valN D : Int) else (valN D : Int)) 0 := by
  unfold parseD
  rw [if_neg, if_neg h3]
  rintro (h | h | h)
  · exact h0 h
  · exact h1 h
  · rw [h2] at h; cases h
theorem isZ_eq (s : ByteArray) : (s.toList == [48]) = isZ s := by
  unfold isZ
  rw [ByteArray.toList_eq, Bool.eq_iff_iff]
  simp
theorem all_not {l : List UInt8} {k : Nat} {c : UInt8} (h : l[k]? = some c) (hc : isD c = false) : l.all isD = false := by
  rw [List.all_eq_false]
  exact ⟨c, List.mem_of_getElem? h, by rw [hc]; simp⟩

set_option maxHeartbeats 8000000 in
theorem parse_any (s : ByteArray) (w : World) :
    Calls Tryd.prog 23 #[.string s] w fun e w' => e = .returned (parseV s) ∧ Below w.heap.size w w' := by
  obtain ⟨D, hD⟩ : ∃ D, D = Lib.trimPrefix s.data.toList [45] := ⟨_, rfl⟩
  obtain ⟨N, hN⟩ : ∃ N, N = Lib.hasPrefix s.data.toList [45] := ⟨_, rfl⟩
  obtain ⟨d, hd⟩ : ∃ d : ByteArray, d = ⟨D.toArray⟩ := ⟨_, rfl⟩
  have hcut : Calls Tryd.prog 37 #[.string s, .string ⟨#[45]⟩] w fun e w' => e = .returned (.tuple #[.string d, .bool N]) ∧ w = w' := by
    rw [hd, hD, hN]
    exact (Tryd.strings_CutPrefix s ⟨#[45]⟩ w).mono fun e w' h => ⟨h.1, h.2.symm⟩
  have hdl : d.data.toList = D := by rw [hd]
  have hv : parseV s = parseD (isZ s) N d.data.toList := by rw [hdl, hD, hN]; rfl
  clear hD hN hd hdl D
  by_cases h0 : d.size = 0
  · obtain rfl : d = ⟨#[]⟩ := by
      cases d with | mk a =>
      congr 1
      exact Array.eq_empty_of_size_eq_zero h0
    replace hv := Lib.hid (hv.trans (parseD_empty _ _))
    clear h0
    go_enter Tryd.func23, Tryd.ntmps23
    go_wp2_with (go_at_call 37; refine hcut.mono ?_; rintro e w' ⟨rfl, rfl⟩)
    go_ret2
    refine ⟨ret_v ?_, Below.refl _ _⟩
    rw [hv.out]
    rfl
  · have hpos : 0 < d.size := by omega
    have hne : d.data.toList ≠ [] := by
      intro e
      have : d.data.toList.length = d.size := rfl
      rw [e] at this
      simp at this
      omega
    have hhd : d.data.toList.head? = some (d.get! 0) := by rw [show d.data.toList = d.data.toList.drop 0 from rfl, drop_at d 0 hpos]; rfl
    have hem : d.toList.isEmpty = false := by rw [ByteArray.toList_eq]; simpa using hne
    have hem2 : ¬ d.toList = [] := by rw [ByteArray.toList_eq]; exact hne
    have hzq := isZ_eq s
    have hg0 := get_bang d 0 hpos
    by_cases hbad : d.get! 0 = 48 ∧ isZ s = false
    · obtain ⟨hc, hz⟩ := hbad
      have q48 : ((d[0].toNat : Int) == 48) = true := by rw [← hg0, hc]; rfl
      rw [hz] at hzq hv
      replace hv := Lib.hid (hv.trans (parseD_zero _ _ (by rw [hhd, hc])))
      replace hg0 := Lib.hid hg0
      replace hne := Lib.hid hne
      replace hhd := Lib.hid hhd
      replace hc := Lib.hid hc
      go_enter Tryd.func23, Tryd.ntmps23
      go_wp2_with (go_at_call 37; refine hcut.mono ?_; rintro e w' ⟨rfl, rfl⟩)
      go_ret2
      refine ⟨ret_v ?_, Below.refl _ _⟩
      rw [hv.out]
      rfl
    · have hh : ¬ (d.data.toList.head? = some 48 ∧ isZ s = false) := by
        rintro ⟨h1, h2⟩
        rw [hhd] at h1
        exact hbad ⟨Option.some.inj h1, h2⟩
      have hcase : (((d[0].toNat : Int) == 48) = true ∧ (s.toList == [48]) = true) ∨ ((d[0].toNat : Int) == 48) = false := by
        by_cases hc : d.get! 0 = 48
        · left
          refine ⟨by rw [← hg0, hc]; rfl, ?_⟩
          rw [hzq]
          cases hz : isZ s with
          | true => rfl
          | false => exact absurd ⟨hc, hz⟩ hbad
        · right
          rw [← hg0]
          exact beqN hc 48 rfl
      replace hv := Lib.hid hv
      replace hg0 := Lib.hid hg0
      replace hne := Lib.hid hne
      replace hhd := Lib.hid hhd
      replace hh := Lib.hid hh
      replace hbad := Lib.hid hbad
      clear hzq
      rcases hcase with ⟨q48, hzq⟩ | q48
      all_goals
        go_enter Tryd.func23, Tryd.ntmps23
        go_wp2_with (go_at_call 37; refine hcut.mono ?_; rintro e w' ⟨rfl, rfl⟩)
        go_loopw [6] (fun nv wr => PnRel d w.heap.size nv w wr) (fun _ wr => d.size - wr.iterPos w.heap.size)
        case atStart =>
          refine ⟨0, Nat.zero_le _, rfl, rfl, ?_, (Below.refl _ w).alloc (Nat.le_refl _) _⟩
          simpa using World.iter_heap w d 0
        case round =>
          obtain ⟨pos, hpos', hall, rfl, hit, hbw⟩ := hrel
          have hsz : w.heap.size < wr.heap.size := (Array.getElem?_eq_some_iff.1 hit).1
          have hmea : wr.iterPos w.heap.size = pos := by simp only [World.iterPos, hit]
          by_cases hp : pos < d.size
          · have hnx : ∀ ty, (Instr.next (.pointer (some ⟨w.heap.size, 0, none⟩)) true ty).run Tryd.prog wr = _ := fun ty => Lib.run_next_any_at wr w.heap.size d pos ty hit hp
            have hd1 := decode_le d pos
            have hdr := digB_rune d pos hp
            have hit2 := Lib.iterAt_heap wr w.heap.size d pos (pos + (Utf8.decode d pos).2) hit
            have hbw2 := Lib.below_iterAt hbw (k := w.heap.size) (Nat.le_refl _) d (pos + (Utf8.decode d pos).2)
            cases hdg : isD (d.get! pos) with
            | true =>
              obtain ⟨e1, e2⟩ := digit_rune d pos hp hdg
              have hvs := valN_snoc (d.data.toList.take pos) (d.get! pos)
              rw [← take_get d pos hp] at hvs
              have hal2 : (d.data.toList.take (pos + 1)).all isD = true := by rw [take_get d pos hp, List.all_append, hall]; simp [hdg]
              rw [hdg] at hdr
              rw [e2] at hnx hit2 hbw2
              clear e2
              have hb1 : 48 ≤ (d.get! pos).toNat ∧ (d.get! pos).toNat ≤ 57 := by simpa [isD] using hdg
              have hcap := cap_step (valN (d.data.toList.take pos)) ((d.get! pos).toNat - 48) (by omega)
              rw [← hvs] at hcap
              rw [← e1] at hcap hb1
              clear e1
              have hmin : min (valN (d.data.toList.take pos)) 1099511627777 ≤ 1099511627777 := Nat.min_le_right _ _
              generalize (Utf8.decode d pos).1 = r at hnx hd1 hdr hcap hb1
              generalize min (valN (d.data.toList.take pos)) 1099511627777 = v at hcap hmin
              generalize hW1 : wr.iterAt w.heap.size d (pos + 1) = W1 at hit2 hbw2 hnx
              obtain ⟨b1, b2⟩ := hb1
              replace hW1 := Lib.hid hW1
              replace hit := Lib.hid hit
              replace hit2 := Lib.hid hit2
              replace hmea := Lib.hid hmea
              replace hall := Lib.hid hall
              replace hal2 := Lib.hid hal2
              replace hvs := Lib.hid hvs
              replace hcap := Lib.hid hcap
              replace hdg := Lib.hid hdg
              go_wp2_with (go_at_call 27; refine (isDigit_any _ _).mono ?_; rintro e w' ⟨rfl, rfl⟩)
              go_roundw
              case rel => exact ⟨pos + 1, by omega, hal2.out, (by rw [← hcap.out]; refine congrArg _ ?_; omega), hit2.out, hbw2⟩
              case measure => rw [hmea.out]; simp only [World.iterPos, hit2.out]; omega
            | false =>
              rw [hdg] at hdr
              have hget : d.data.toList[pos]? = some (d.get! pos) := by rw [get_list d pos hp]; simp [List.getD, hp]
              have hvb := Lib.hid (hv.out.trans (parseD_bad _ _ _ (all_not hget hdg)))
              generalize (Utf8.decode d pos).1 = r at hnx hd1 hdr
              generalize hW1 : wr.iterAt w.heap.size d _ = W1 at hit2 hbw2 hnx
              replace hW1 := Lib.hid hW1
              replace hit := Lib.hid hit
              replace hit2 := Lib.hid hit2
              replace hmea := Lib.hid hmea
              replace hall := Lib.hid hall
              replace hget := Lib.hid hget
              replace hdg := Lib.hid hdg
              go_wp2_with (go_at_call 27; refine (isDigit_any _ _).mono ?_; rintro e w' ⟨rfl, rfl⟩)
              go_ret2
              refine ⟨ret_v ?_, hbw2⟩
              rw [hvb.out]
              rfl
          · obtain rfl : pos = d.size := by omega
            have hnx : ∀ ty, (Instr.next (.pointer (some ⟨w.heap.size, 0, none⟩)) true ty).run Tryd.prog wr = _ := fun ty => Lib.run_next_end_at wr w.heap.size d d.size ty hit hp
            rw [take_all] at hall ⊢
            replace hit := Lib.hid hit
            replace hmea := Lib.hid hmea
            by_cases hbig : 1099511627776 < valN d.data.toList
            · have hvb := Lib.hid (hv.out.trans (parseD_big _ _ _ hne.out hh.out hall hbig))
              have hm : min (valN d.data.toList) 1099511627777 = 1099511627777 := by omega
              rw [hm]
              replace hm := Lib.hid hm
              replace hall := Lib.hid hall
              go_wp2
              go_ret2
              refine ⟨ret_v ?_, hbw⟩
              rw [hvb.out]
              rfl
            · have hvb := Lib.hid (hv.out.trans (parseD_ok _ _ _ hne.out hh.out hall hbig))
              have hm : min (valN d.data.toList) 1099511627777 = valN d.data.toList := by omega
              rw [hm]
              replace hm := Lib.hid hm
              replace hall := Lib.hid hall
              generalize valN d.data.toList = v at hbig hvb
              have hsm : (v : Int) ≤ 1099511627776 := by omega
              replace hbig := Lib.hid hbig
              cases N with
              | true =>
                go_wp2
                go_ret2
                refine ⟨ret_v ?_, hbw⟩
                rw [hvb.out]
                rfl
              | false =>
                go_wp2
                go_ret2
                refine ⟨ret_v ?_, hbw⟩
                rw [hvb.out]
                rfl
end Go.Proofs.YtfdmeinfjfmnlaaDoor
