/- Contract of the law's call: one drawn read by the program and by the document, with the same answer and the same error. -/
import Derived.Test.YtkmnmddengnjlaaWMod
import Derived.Lib.QuietBelow
import Derived.StillTailTactics
import Derived.Deep.CutBlock
namespace Go.Proofs.Ytkmnmddengnjlaa
open Go Go.RowKit

/-- Of what was there only these three blocks may have turned. -/
structure Kept3 (R Q C : Nat) (w w' : World) : Prop where
  os : w'.os = w.os
  tape : w'.tape = w.tape
  output : w'.output = w.output
  size : w.heap.size ≤ w'.heap.size
  block : ∀ k, k < w.heap.size → k ≠ R → k ≠ Q → k ≠ C → w'.heap[k]? = w.heap[k]?
theorem Kept3.refl (R Q C : Nat) (w : World) : Kept3 R Q C w w := ⟨rfl, rfl, rfl, Nat.le_refl _, fun _ _ _ _ _ => rfl⟩
theorem Kept3.one {R Q C X : Nat} {w w' : World} (h : Kept X w w') (hX : X = R ∨ X = Q ∨ X = C) : Kept3 R Q C w w' :=
  ⟨h.os, h.tape, h.output, h.size, fun k hk h1 h2 h3 => h.block k hk (by omega)⟩
theorem Kept3.trans {R Q C : Nat} {a b c : World} (h : Kept3 R Q C a b) (k : Kept3 R Q C b c) : Kept3 R Q C a c :=
  ⟨k.os.trans h.os, k.tape.trans h.tape, k.output.trans h.output, Nat.le_trans h.size k.size, fun n hn h1 h2 h3 => (k.block n (Nat.lt_of_lt_of_le hn h.size) h1 h2 h3).trans (h.block n hn h1 h2 h3)⟩
theorem Kept3.below {R Q C B : Nat} {w w' : World} (h : Kept3 R Q C w w') (hR : B ≤ R) (hQ : B ≤ Q) (hC : B ≤ C) (hB : B ≤ w.heap.size) : Below B w w' :=
  ⟨h.os, h.tape, h.output, h.size, fun k hk => h.block k (by omega) (by omega) (by omega) (by omega)⟩
/-- Where the blocks lie. -/
structure Lay (cl : List UInt8) (ca : Option Addr) (C lo R hi Q : Nat) : Prop where
  hC : C < lo
  hlo : lo ≤ R
  hRQ : R < Q
  hhi : hi ≤ C
  hca : ∀ b off, ca = some ⟨b, off, none⟩ → 0 < cl.length → b < C
/-- Both readers stand alike, and the choices. -/
structure Both (cl : List UInt8) (ca : Option Addr) (cc C at_ : Nat) (l : List UInt8) (e : Int) (lo R : Nat) (l2 : List UInt8) (e2 : Int) (hi Q : Nat) (w : World) : Prop where
  codes : Codes cl ca cc C at_ w
  r : Rd l e lo R w
  q : Rq l2 e2 hi Q w
section
variable {cl : List UInt8} {ca : Option Addr} {cc C at_ at2 : Nat} {l l2 l' : List UInt8} {e e2 e' : Int} {lo R hi Q : Nat} {w w' : World}
theorem Both.afterR (h : Both cl ca cc C at_ l e lo R l2 e2 hi Q w) (L : Lay cl ca C lo R hi Q) (k : Kept R w w') (hr : Rd l' e' lo R w') : Both cl ca cc C at_ l' e' lo R l2 e2 hi Q w' := by
  have h1 := L.hC; have h2 := L.hlo; have h3 := L.hRQ; have h4 := L.hhi
  exact ⟨h.codes.kept k (by omega) (fun b off e0 hl => by have := L.hca b off e0 hl; omega), hr, h.q.kept k (by omega) (by omega)⟩
theorem Both.afterC (h : Both cl ca cc C at_ l e lo R l2 e2 hi Q w) (L : Lay cl ca C lo R hi Q) (k : Kept C w w') (hc : Codes cl ca cc C at2 w') : Both cl ca cc C at2 l e lo R l2 e2 hi Q w' := by
  have h1 := L.hC; have h2 := L.hlo; have h3 := L.hRQ; have h4 := L.hhi
  exact ⟨hc, h.r.kept k (by omega) h2, h.q.kept k (by omega) (by omega)⟩
theorem Both.afterQ (h : Both cl ca cc C at_ l e lo R l2 e2 hi Q w) (L : Lay cl ca C lo R hi Q) (k : Kept Q w w') (hq : Rq l' e' hi Q w') : Both cl ca cc C at_ l e lo R l' e' hi Q w' := by
  have h1 := L.hC; have h2 := L.hlo; have h3 := L.hRQ; have h4 := L.hhi
  exact ⟨h.codes.kept k (by omega) (fun b off e0 hl => by have := L.hca b off e0 hl; omega), h.r.kept k (.inr (by omega)) h2, hq⟩
theorem Rq.lt (h : Rq l e hi Q w) : Q < w.heap.size := by
  obtain ⟨_, _, _, _, h, _⟩ := h
  exact h.lt
theorem Rq.top (h : Rq l e hi Q w) : hi ≤ w.heap.size := by
  obtain ⟨_, _, _, _, h, _⟩ := h
  exact h.bytes.top
theorem Both.grown (h : Both cl ca cc C at_ l e lo R l2 e2 hi Q w) (L : Lay cl ca C lo R hi Q) (hb : Below w.heap.size w w') : Both cl ca cc C at_ l e lo R l2 e2 hi Q w' := by
  have h5 := h.q.lt
  exact ⟨h.codes.below hb, h.r.below L.hlo hb, h.q.kept (Kept.of_below (C := w.heap.size) hb) h.q.top (by omega)⟩
end
/-- What call returns: true; both readers stand alike again, and a choice was used if one was left. -/
def Called (cl : List UInt8) (ca : Option Addr) (cc C at_ lo R hi Q : Nat) (w : World) (en : Ending) (w' : World) : Prop :=
  en = .returned (.bool true) ∧ Kept3 R Q C w w' ∧ ∃ l e at2, (at_ < cl.length → at_ < at2) ∧ Both cl ca cc C at2 l e lo R l e hi Q w'
/-- What stands behind the switch. -/
def Switched (cl : List UInt8) (ca : Option Addr) (cc C at_ lo R hi Q : Nat) (w : World) (v : Value) (w' : World) : Prop :=
  v = .bool true ∧ Kept3 R Q C w w' ∧ ∃ l e at2, (at_ < cl.length → at_ < at2) ∧ Both cl ca cc C at2 l e lo R l e hi Q w'
/-- The place behind a draw. -/
def nextAt (cl : List UInt8) (at_ : Nat) : Nat := if at_ < cl.length then at_ + 1 else at_
theorem nextAt_lt (cl : List UInt8) (at_ : Nat) : (at_ < cl.length → at_ < nextAt cl at_) ∧ at_ ≤ nextAt cl at_ := by
  unfold nextAt
  split <;> omega
set_option maxHeartbeats 16000000 in
set_option maxRecDepth 100000 in
theorem call_any (cl : List UInt8) (ca : Option Addr) (cc C at_ : Nat) (l : List UInt8) (e : Int) (lo R hi Q : Nat) (w : World) (hl : cl.length ≤ 1000000) (L : Lay cl ca C lo R hi Q) (h : Both cl ca cc C at_ l e lo R l e hi Q w) :
    Calls Try.prog 22 #[.pointer (some ⟨R, 0, none⟩), .pointer (some ⟨Q, 0, none⟩), .pointer (some ⟨C, 0, none⟩)] w (Called cl ca cc C at_ lo R hi Q w) := by
  have hn := next_any cl ca cc C at_ 7 w hl (by omega) (by omega) h.codes
  have hlt7 := nextN_lt cl at_ 7 (by omega)
  obtain ⟨q, hq, hq0, hq7⟩ : ∃ q : Int, ((nextN cl at_ 7 : Nat) : Int) = q ∧ 0 ≤ q ∧ q < 7 := ⟨_, rfl, by omega, by omega⟩
  rw [hq] at hn
  clear hq hlt7
  replace hn := Lib.hid hn
  replace h := Lib.hid h
  go_enter Try.func22, Try.ntmps22
  go_upto_block 0 with (go_at_call 37; refine hn.out.mono ?_; rintro en w1 ⟨rfl, hkc, hc1⟩)
  change Codes cl ca cc C (nextAt cl at_) w1 at hc1
  have hB := h.out.afterC L hkc hc1
  have hK := Kept3.one (R := R) (Q := Q) hkc (.inr (.inr rfl))
  have hA1 := nextAt_lt cl at_
  generalize nextAt cl at_ = at1 at hB hA1
  clear hn h hkc hc1
  go_cut [7] (fun v wx => Switched cl ca cc C at_ lo R hi Q w v wx)
  case first =>
    have hq : q = 0 ∨ q = 1 ∨ q = 2 ∨ q = 3 ∨ q = 4 ∨ q = 5 ∨ q = 6 := by omega
    rcases hq with rfl | rfl | rfl | rfl | rfl | rfl | rfl
    · have cA := Lib.hid (number_any hB.r)
      have cB := Lib.hid (fun w' (hq : Rq l e hi Q w') => refNumber_any' hq)
      generalize (numR l e).1 = v at cA cB
      go_wp2_with (first | (go_at_call 29; refine cA.out.mono ?_; rintro en w2 ⟨rfl, hk2, hr2⟩; have hB2 := Lib.hid (hB.afterR L hk2 hr2); have cB2 := Lib.hid (cB.out _ hB2.out.q)) | (go_at_call 32; refine cB2.out.mono ?_; rintro en w3 ⟨rfl, hk3, hq3⟩; have hB3 := Lib.hid (hB2.out.afterQ L hk3 hq3)))
      go_meet
      case rel => exact ⟨rfl, (hK.trans (Kept3.one hk2 (.inl rfl))).trans (Kept3.one hk3 (.inr (.inl rfl))), _, _, at1, hA1.1, hB3.out⟩
    · have cA := Lib.hid (word_any hB.r)
      have cB := Lib.hid (fun w' (hq : Rq l e hi Q w') => refRWord_any hq)
      generalize (wordR l e).1 = v at cA cB
      go_wp2_with (first | (go_at_call 30; refine cA.out.mono ?_; rintro en w2 ⟨rfl, hk2, hr2⟩; have hB2 := Lib.hid (hB.afterR L hk2 hr2); have cB2 := Lib.hid (cB.out _ hB2.out.q)) | (go_at_call 38; refine cB2.out.mono ?_; rintro en w3 ⟨rfl, hk3, hq3⟩; have hB3 := Lib.hid (hB2.out.afterQ L hk3 hq3)))
      go_meet
      case rel => exact ⟨rfl, (hK.trans (Kept3.one hk2 (.inl rfl))).trans (Kept3.one hk3 (.inr (.inl rfl))), _, _, at1, hA1.1, hB3.out⟩
    · have cA := Lib.hid (bool_any hB.r)
      have cB := Lib.hid (fun w' (hq : Rq l e hi Q w') => refRBool_any hq)
      generalize (boolR l e).1 = v at cA cB
      go_wp2_with (first | (go_at_call 39; refine cA.out.mono ?_; rintro en w2 ⟨rfl, hk2, hr2⟩; have hB2 := Lib.hid (hB.afterR L hk2 hr2); have cB2 := Lib.hid (cB.out _ hB2.out.q)) | (go_at_call 40; refine cB2.out.mono ?_; rintro en w3 ⟨rfl, hk3, hq3⟩; have hB3 := Lib.hid (hB2.out.afterQ L hk3 hq3)))
      go_meet
      case rel => exact ⟨rfl, (hK.trans (Kept3.one hk2 (.inl rfl))).trans (Kept3.one hk3 (.inr (.inl rfl))), _, _, at1, hA1.1, hB3.out⟩
    · have hnx := next_any cl ca cc C at1 12 w1 hl (by omega) (by omega) hB.codes
      have hr12 := nextN_lt cl at1 12 (by omega)
      obtain ⟨q2, hq2, hq20, hq212⟩ : ∃ q : Int, ((nextN cl at1 12 : Nat) : Int) = q ∧ 0 ≤ q ∧ q < 12 := ⟨_, rfl, by omega, by omega⟩
      rw [hq2] at hnx
      clear hq2 hr12
      replace hnx := Lib.hid hnx
      have hA2 := nextAt_lt cl at1
      go_wp2_with (go_at_call 37; refine hnx.out.mono ?_; rintro en w2 ⟨rfl, hkc, hc2⟩)
      change Codes cl ca cc C (nextAt cl at1) w2 at hc2
      have hB' := hB.afterC L hkc hc2
      replace hK := hK.trans (Kept3.one (R := R) (Q := Q) hkc (.inr (.inr rfl)))
      generalize nextAt cl at1 = at2 at hB' hA2
      clear hB hkc hc2 hnx
      have cA := Lib.hid (text_any (q2 - 1) hB'.r)
      have cB := Lib.hid (fun w' (hq : Rq l e hi Q w') => refRText_any (q2 - 1) hq)
      generalize (textR (q2 - 1) l e).1 = v at cA cB
      go_wp2_with (first | (go_at_call 31; refine cA.out.mono ?_; rintro en w3 ⟨rfl, hk2, hr2⟩; have hB2 := Lib.hid (hB'.afterR L hk2 hr2); have cB2 := Lib.hid (cB.out _ hB2.out.q)) | (go_at_call 41; refine cB2.out.mono ?_; rintro en w4 ⟨rfl, hk3, hq3⟩; have hB3 := Lib.hid (hB2.out.afterQ L hk3 hq3)))
      go_meet
      case rel => exact ⟨rfl, (hK.trans (Kept3.one hk2 (.inl rfl))).trans (Kept3.one hk3 (.inr (.inl rfl))), _, _, at2, fun h => by have := hA1.1 h; have := hA2.2; omega, hB3.out⟩
    · have hnx := next_any cl ca cc C at1 12 w1 hl (by omega) (by omega) hB.codes
      have hr12 := nextN_lt cl at1 12 (by omega)
      obtain ⟨q2, hq2, hq20, hq212⟩ : ∃ q : Int, ((nextN cl at1 12 : Nat) : Int) = q ∧ 0 ≤ q ∧ q < 12 := ⟨_, rfl, by omega, by omega⟩
      rw [hq2] at hnx
      clear hq2 hr12
      replace hnx := Lib.hid hnx
      have hA2 := nextAt_lt cl at1
      go_wp2_with (go_at_call 37; refine hnx.out.mono ?_; rintro en w2 ⟨rfl, hkc, hc2⟩)
      change Codes cl ca cc C (nextAt cl at1) w2 at hc2
      have hB' := hB.afterC L hkc hc2
      replace hK := hK.trans (Kept3.one (R := R) (Q := Q) hkc (.inr (.inr rfl)))
      generalize nextAt cl at1 = at2 at hB' hA2
      clear hB hkc hc2 hnx
      have cA := Lib.hid (count_any (q2 - 1) hB'.r)
      have cB := Lib.hid (fun w' (hq : Rq l e hi Q w') => refCount_any (q2 - 1) hq)
      generalize (atR (q2 - 1) 5 l e).1 = v at cA cB
      go_wp2_with (first | (go_at_call 42; refine cA.out.mono ?_; rintro en w3 ⟨rfl, hk2, hr2⟩; have hB2 := Lib.hid (hB'.afterR L hk2 hr2); have cB2 := Lib.hid (cB.out _ hB2.out.q)) | (go_at_call 43; refine cB2.out.mono ?_; rintro en w4 ⟨rfl, hk3, hq3⟩; have hB3 := Lib.hid (hB2.out.afterQ L hk3 hq3)))
      go_meet
      case rel => exact ⟨rfl, (hK.trans (Kept3.one hk2 (.inl rfl))).trans (Kept3.one hk3 (.inr (.inl rfl))), _, _, at2, fun h => by have := hA1.1 h; have := hA2.2; omega, hB3.out⟩
    · have hnx := next_any cl ca cc C at1 8 w1 hl (by omega) (by omega) hB.codes
      obtain ⟨q2, hq2⟩ : ∃ q : Int, ((nextN cl at1 8 : Nat) : Int) = q := ⟨_, rfl⟩
      rw [hq2] at hnx
      clear hq2
      replace hnx := Lib.hid hnx
      have hA2 := nextAt_lt cl at1
      go_upto_region 16 with (fail)
      by_cases h1 : q2 = 1
      · subst h1
        go_upto_region 17 with (go_at_call 37; refine hnx.out.mono ?_; rintro en w2 ⟨rfl, hkc, hc2⟩)
        change Codes cl ca cc C (nextAt cl at1) w2 at hc2
        have hB' := hB.afterC L hkc hc2
        replace hK := hK.trans (Kept3.one (R := R) (Q := Q) hkc (.inr (.inr rfl)))
        generalize nextAt cl at1 = at2 at hB' hA2
        clear hB hkc hc2 hnx
        have hny := next_any cl ca cc C at2 3 w2 hl (by omega) (by omega) hB'.codes
        have hr3 := nextN_lt cl at2 3 (by omega)
        obtain ⟨q3, hq3, hq30, hq33⟩ : ∃ q : Int, ((nextN cl at2 3 : Nat) : Int) = q ∧ 0 ≤ q ∧ q < 3 := ⟨_, rfl, by omega, by omega⟩
        rw [hq3] at hny
        clear hq3 hr3
        replace hny := Lib.hid hny
        have hA3 := nextAt_lt cl at2
        go_upto_region 18 with (go_at_call 37; refine hny.out.mono ?_; rintro en w3 ⟨rfl, hkc, hc3⟩)
        change Codes cl ca cc C (nextAt cl at2) w3 at hc3
        have hB'' := hB'.afterC L hkc hc3
        replace hK := hK.trans (Kept3.one (R := R) (Q := Q) hkc (.inr (.inr rfl)))
        generalize nextAt cl at2 = at3 at hB'' hA3
        clear hB' hkc hc3 hny
        have cA := Lib.hid (failR_any q3 (by omega) hB''.r)
        have cB := Lib.hid (fun w' (hq : Rq l e hi Q w') => failQ_any q3 (by omega) hq)
        go_wp2_with (first | (go_at_call 44; refine cA.out.mono ?_; rintro en w4 ⟨rfl, hk2, hr2⟩; have hB2 := Lib.hid (hB''.afterR L hk2 hr2); have cB2 := Lib.hid (cB.out _ hB2.out.q)) | (go_at_call 45; refine cB2.out.mono ?_; rintro en w5 ⟨rfl, hk3, hq3⟩; have hB3 := Lib.hid (hB2.out.afterQ L hk3 hq3)))
        go_meet
        case rel => exact ⟨rfl, (hK.trans (Kept3.one hk2 (.inl rfl))).trans (Kept3.one hk3 (.inr (.inl rfl))), _, _, at3, fun h => by have := hA1.1 h; have := hA2.2; have := hA3.2; omega, hB3.out⟩
      · have h1' : (q2 == 1) = false := by simp [h1]
        go_wp2_with (go_at_call 37; refine hnx.out.mono ?_; rintro en w2 ⟨rfl, hkc, hc2⟩)
        change Codes cl ca cc C (nextAt cl at1) w2 at hc2
        have hB' := hB.afterC L hkc hc2
        replace hK := hK.trans (Kept3.one (R := R) (Q := Q) hkc (.inr (.inr rfl)))
        generalize nextAt cl at1 = at2 at hB' hA2
        clear hB hkc hc2 hnx
        go_wp2
        go_meet
        case rel => exact ⟨rfl, hK, _, _, at2, fun h => by have := hA1.1 h; have := hA2.2; omega, hB'⟩
    · have cA := Lib.hid (end_any hB.r)
      have cB := Lib.hid (refEnd_any hB.q)
      have hB2 := Lib.hid (hB.grown L ((Below.refl _ w1).drew))
      have hK2 := hK.trans (Kept3.one (R := R) (Q := Q) (C := C) ((Kept.refl R w1).drew) (.inl rfl))
      generalize endR l e = v at cA cB
      go_wp2_with (first | (go_at_call 23; refine cA.out.mono ?_; rintro en w2 ⟨rfl, rfl⟩) | (go_at_call 24; refine cB.out.mono ?_; rintro en w3 ⟨rfl, rfl⟩))
      go_meet
      case rel => exact ⟨rfl, hK2, _, _, at1, hA1.1, hB2.out⟩
  case rest =>
    obtain ⟨rfl, hK2, l3, e3, at3, hA3, hB3⟩ := hcut
    have hB4 := hB3.grown L ((Below.refl _ wc).drew)
    have hK4 := hK2.trans (Kept3.one (R := R) (Q := Q) (C := C) ((Kept.refl R wc).drew) (.inl rfl))
    have c2 := hB4.q.err
    have cE := Lib.hid (err_any hB4.r)
    replace hB4 := Lib.hid hB4
    clear hB3 hB hK2 hK
    go_upto_region 22 with (fail)
    go_region_with (go_at_call 27; go_fit cE.out; rintro en w2 ⟨rfl, rfl⟩)
    all_goals
      go_wp2
      go_ret
      exact ⟨rfl, hK4, _, _, at3, hA3, hB4.out⟩
end Go.Proofs.Ytkmnmddengnjlaa
