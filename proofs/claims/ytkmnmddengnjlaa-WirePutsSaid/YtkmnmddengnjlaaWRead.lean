/- Contracts of the package's reader: Number, take, atMost, Count, Text, Bool. -/
import Derived.Test.YtkmnmddengnjlaaWRd
namespace Go.Proofs.Ytkmnmddengnjlaa
open Go Go.RowKit

/-- What a read of a number returns, what is left then, and the error. -/
def numR (l : List UInt8) (e : Int) : Int × List UInt8 × Int :=
  if e = 0 then (if (readG 0 0 l).2.2 = 0 then (unz (readG 0 0 l).1, l.drop (readG 0 0 l).2.1, 0) else (0, l, (readG 0 0 l).2.2)) else (0, l, e)
def takeR (n : Nat) (l : List UInt8) (e : Int) : List UInt8 × List UInt8 × Int :=
  if e = 0 then (if n ≤ l.length then (l.take n, l.drop n, 0) else ([], l, 16)) else ([], l, e)
def atR (most x : Int) (l : List UInt8) (e : Int) : Nat × List UInt8 × Int :=
  if (numR l e).2.2 = 0 then (if (numR l e).1 < 0 then (0, (numR l e).2.1, 3) else if most < (numR l e).1 then (0, (numR l e).2.1, x) else ((numR l e).1.toNat, (numR l e).2.1, 0)) else (0, (numR l e).2.1, (numR l e).2.2)
def textR (most : Int) (l : List UInt8) (e : Int) : ByteArray × List UInt8 × Int :=
  (⟨(takeR (atR most 4 l e).1 (atR most 4 l e).2.1 (atR most 4 l e).2.2).1.toArray⟩, (takeR (atR most 4 l e).1 (atR most 4 l e).2.1 (atR most 4 l e).2.2).2)
def boolR (l : List UInt8) (e : Int) : Bool × List UInt8 × Int :=
  if (takeR 1 l e).2.2 = 0 then (if 1 < ((takeR 1 l e).1.getD 0 0).toNat then (false, (takeR 1 l e).2.1, 1) else (((takeR 1 l e).1.getD 0 0).toNat == 1, (takeR 1 l e).2)) else (false, (takeR 1 l e).2)
/-- Bytes as a number, the most significant one first. -/
def beN (l : List UInt8) : Nat := l.foldl (fun v x => v * 256 + x.toNat) 0
def wordR (l : List UInt8) (e : Int) : Nat × List UInt8 × Int := (beN (takeR 8 l e).1, (takeR 8 l e).2)
def failR (x : Int) (e : Int) : Int := if e = 0 then x else e
/-- What a read leaves: the error, and what is left to read if there is none. -/
theorem RdR.rd {a : Option Addr} {c : Nat} {l : List UInt8} {e : Int} {lo R : Nat} {w : World} (h : RdR a c l e lo R w) : Rd l e lo R w := ⟨a, c, l, h, fun _ => rfl⟩
theorem RdR.rd' {a : Option Addr} {c : Nat} {l l' : List UInt8} {e : Int} {lo R : Nat} {w : World} (h : RdR a c l e lo R w) (he : e ≠ 0) : Rd l' e lo R w := ⟨a, c, l, h, fun h => absurd h he⟩
/-- The slice from place n on. -/
def cutA (a : Option Addr) (c n : Nat) : Option Addr := match a with
  | some ⟨b, off, none⟩ => if c = n then some ⟨b, off, none⟩ else some ⟨b, off + n, none⟩
  | _ => a
theorem RdR.head {a : Option Addr} {c : Nat} {l : List UInt8} {e : Int} {lo R : Nat} {w : World} (h : RdR a c l e lo R w) (n : Nat) (hn : n ≤ l.length) :
    RdR (cutA a c n) (c - n) (l.drop n) e lo R (w.setCell ⟨R, 0, none⟩ (.slice (cutA a c n) ((l.drop n).length : Nat) (c - n))) := by
  have hle := h.le
  rcases h.shape with rfl | ⟨b, off, rfl⟩
  · have hc := h.nil rfl
    refine h.setRest _ _ _ (fun _ => by omega) (by rw [List.length_drop]; omega) (by omega) (by rw [List.length_drop]; omega) (.inl rfl) ?_
    rw [List.drop_eq_nil_of_le (by omega)]
    exact BIn.nil h.bytes.top
  · have hs : ∃ b' off', cutA (some ⟨b, off, none⟩) c n = some ⟨b', off', none⟩ := by
      unfold cutA
      simp only
      split
      · exact ⟨_, _, rfl⟩
      · exact ⟨_, _, rfl⟩
    refine h.setRest _ _ _ (fun hx => by obtain ⟨_, _, hs⟩ := hs; rw [hs] at hx; cases hx) (by rw [List.length_drop]; omega) (by omega) (by rw [List.length_drop]; omega) (.inr hs) ?_
    exact h.bytes.cut n c hle
theorem RdR.ways {b off c n m : Nat} {l : List UInt8} {e : Int} {lo R : Nat} {w : World} (h : RdR (cutA (some ⟨b, off, none⟩) c n) (c - n) l e lo R (w.setCell ⟨R, 0, none⟩ (.slice (cutA (some ⟨b, off, none⟩) c n) m (c - n)))) :
    (c = n → Rd l e lo R (w.setCell ⟨R, 0, none⟩ (.slice (some ⟨b, off, none⟩) m 0))) ∧ (¬ c = n → Rd l e lo R (w.setCell ⟨R, 0, none⟩ (.slice (some ⟨b, off + n, none⟩) m (c - n)))) := by
  constructor
  · rintro rfl
    have e1 : cutA (some ⟨b, off, none⟩) c c = some ⟨b, off, none⟩ := if_pos rfl
    rw [e1, Nat.sub_self] at h
    exact h.rd
  · intro hn
    have e1 : cutA (some ⟨b, off, none⟩) c n = some ⟨b, off + n, none⟩ := if_neg hn
    rw [e1] at h
    exact h.rd
set_option maxHeartbeats 8000000 in
theorem number_ok {a : Option Addr} {c : Nat} {l : List UInt8} {lo R : Nat} {w : World} (h : RdR a c l 0 lo R w) (v n : Nat) (hg : readG 0 0 l = (v, n, 0)) :
    Calls Try.prog 29 #[.pointer (some ⟨R, 0, none⟩)] w fun en w' => en = .returned (.int .i64 (unz v)) ∧ Kept R w w' ∧ Rd (l.drop n) 0 lo R w' := by
  have hfit := readG_fits l 0 0 (by omega) (by decide)
  rw [hg] at hfit
  have hv : v < 18446744073709551616 ∧ 0 < n ∧ n ≤ l.length := by
    rcases hfit with ⟨e, he, h0⟩ | ⟨v', n', h1, h2, h3, h4⟩
    · injection h0 with h1 h2
      injection h2 with h3 h4
      omega
    · injection h1 with h5 h6
      injection h6 with h7 h8
      subst h5 h7
      exact ⟨h2, h3, by omega⟩
  obtain ⟨hv, hn0, hnl⟩ := hv
  have hG := readGroups_any a l c w h.small h.bytes.are
  rw [hg] at hG
  have hU := Lib.hid (fun W => unfold_any v W hv)
  have hd := h.head n hnl
  rw [List.length_drop] at hd
  have c0 := h.c0
  have c1 := h.c1
  have hf := h.f
  have hle := h.le
  obtain ⟨b, off, rfl⟩ : ∃ b off, a = some ⟨b, off, none⟩ := by
    rcases h.shape with rfl | hs
    · have := h.nil rfl
      omega
    · exact hs
  obtain ⟨m, hm⟩ : ∃ m, l.length = m := ⟨_, rfl⟩
  rw [hm] at hG c0 hd hle hnl
  obtain ⟨hdA, hdB⟩ := hd.ways
  have hnl' : (n : Int) ≤ (m : Int) := by omega
  clear hd hfit h hv hg hm
  replace hG := Lib.hid hG
  replace hdA := Lib.hid hdA
  replace hdB := Lib.hid hdB
  go_enter Try.func29, Try.ntmps29
  go_wp2_with (first | (go_at_call 46; refine hG.out.mono ?_; rintro e w1 ⟨rfl, rfl⟩) | (go_at_call 47; refine (hU.out _).mono ?_; rintro e w1 ⟨rfl, rfl⟩))
  all_goals
    go_ret
    first
      | exact ⟨rfl, (Kept.refl R _).setCell 0 _, hdA.out ‹_›⟩
      | exact ⟨rfl, (Kept.refl R _).setCell 0 _, hdB.out ‹_›⟩
set_option maxHeartbeats 8000000 in
theorem number_bad {a : Option Addr} {c : Nat} {l : List UInt8} {lo R : Nat} {w : World} (h : RdR a c l 0 lo R w) (x : Int) (hx : x = 16 ∨ x = 3 ∨ x = 1) (hg : readG 0 0 l = (0, 0, x)) :
    Calls Try.prog 29 #[.pointer (some ⟨R, 0, none⟩)] w fun en w' => en = .returned (.int .i64 0) ∧ Kept R w w' ∧ RdR a c l x lo R w' := by
  have hG := readGroups_any a l c w h.small h.bytes.are
  rw [hg] at hG
  have hF := Lib.hid (failR_ok x (by omega) h)
  have c0 := h.c0
  have c1 := h.c1
  have hb : (x == 0) = false := by rcases hx with rfl | rfl | rfl <;> rfl
  clear h hg hx
  replace hG := Lib.hid hG
  go_enter Try.func29, Try.ntmps29
  go_wp2_with (first | (go_at_call 46; refine hG.out.mono ?_; rintro e w1 ⟨rfl, rfl⟩) | (go_at_call 44; refine hF.out.mono ?_; rintro e w1 ⟨rfl, hk, hr⟩))
  go_ret
  exact ⟨rfl, hk, hr⟩
set_option maxHeartbeats 4000000 in
theorem number_any {l : List UInt8} {e : Int} {lo R : Nat} {w : World} (h : Rd l e lo R w) :
    Calls Try.prog 29 #[.pointer (some ⟨R, 0, none⟩)] w fun en w' => en = .returned (.int .i64 (numR l e).1) ∧ Kept R w w' ∧ Rd (numR l e).2.1 (numR l e).2.2 lo R w' := by
  obtain ⟨a, c, l', h, hl⟩ := h
  by_cases he : e = 0
  · subst he
    obtain rfl := hl rfl
    rcases readG_fits l' 0 0 (by omega) (by decide) with ⟨x, hx, hg⟩ | ⟨v, n, hg, _⟩
    · have hx0 : x ≠ 0 := by omega
      have hr : numR l' 0 = (0, l', x) := by unfold numR; rw [if_pos rfl, hg, if_neg hx0]
      rw [hr]
      exact (number_bad h x hx hg).mono fun _ _ ⟨h1, h2, h3⟩ => ⟨h1, h2, h3.rd⟩
    · have hr : numR l' 0 = (unz v, l'.drop n, 0) := by unfold numR; rw [if_pos rfl, hg, if_pos rfl]
      rw [hr]
      exact number_ok h v n hg
  · have hr : numR l e = (0, l, e) := if_neg he
    rw [hr]
    have hb : (e == 0) = false := by simp [he]
    have c1 := h.c1
    replace h := Lib.hid h
    replace hl := Lib.hid hl
    clear hr
    go_enter Try.func29, Try.ntmps29
    go_wp2
    go_ret
    exact ⟨rfl, Kept.refl _ _, a, c, l', h.out, hl.out⟩
/-- What take returns and leaves. -/
def Taken (n : Nat) (l : List UInt8) (e : Int) (lo R : Nat) (w : World) (en : Ending) (w' : World) : Prop :=
  ∃ (a : Option Addr) (c : Nat), en = .returned (.slice a ((takeR n l e).1.length : Nat) c) ∧ BIn lo R a (takeR n l e).1 w' ∧ (takeR n l e).1.length ≤ c ∧ Kept R w w' ∧ Rd (takeR n l e).2.1 (takeR n l e).2.2 lo R w'
set_option maxHeartbeats 8000000 in
theorem take_ok {a : Option Addr} {c : Nat} {l : List UInt8} {lo R : Nat} {w : World} (h : RdR a c l 0 lo R w) (n : Nat) (hn : n ≤ l.length) :
    Calls Try.prog 48 #[.pointer (some ⟨R, 0, none⟩), .int .i64 (n : Nat)] w (Taken n l 0 lo R w) := by
  have hr : takeR n l 0 = (l.take n, l.drop n, 0) := by unfold takeR; rw [if_pos rfl, if_pos hn]
  unfold Taken
  rw [hr]
  have hd := h.head n hn
  rw [List.length_drop] at hd
  have c0 := h.c0
  have c1 := h.c1
  have hf := h.f
  have hle := h.le
  have hfit := h.fit
  have htl : (l.take n).length = n := by rw [List.length_take]; omega
  have hbt := (h.bytes.take n).kept (X := R) (w' := w.setCell ⟨R, 0, none⟩ (.slice (cutA a c n) ((l.length - n : Nat) : Nat) (c - n))) ((Kept.refl R w).setCell 0 _) (.inr (Nat.le_refl _))
  have hrd := hd.rd
  obtain ⟨m, hm⟩ : ∃ m, l.length = m := ⟨_, rfl⟩
  rw [hm] at hd hrd c0 hle hn hbt
  rcases h.shape with rfl | ⟨b, off, rfl⟩
  · have hc := h.nil rfl
    obtain rfl : c = 0 := hc
    obtain rfl : m = 0 := by omega
    obtain rfl : n = 0 := by omega
    rw [htl]
    clear hd hm h hle hn hfit htl
    replace hbt := Lib.hid hbt
    replace hrd := Lib.hid hrd
    show Calls _ _ #[_, .int .i64 0] _ _
    go_enter Try.func48, Try.ntmps48
    go_wp2
    go_ret
    exact ⟨none, 0, rfl, hbt.out, by simp, (Kept.refl R _).setCell 0 _, hrd.out⟩
  · obtain ⟨hdA, hdB⟩ := hd.ways
    have hnm : (n : Int) ≤ (m : Int) := by omega
    have hnc : (n : Int) ≤ (c : Int) := by omega
    have hnc2 : n ≤ c := by omega
    have hnm2 : n ≤ m := hn
    have hbA : c = n → BIn lo R (some ⟨b, off, none⟩) (l.take n) (w.setCell ⟨R, 0, none⟩ (.slice (some ⟨b, off, none⟩) (m - n) 0)) := fun e => (h.bytes.take n).kept (X := R) ((Kept.refl R w).setCell 0 _) (.inr (Nat.le_refl _))
    have hbB : ¬ c = n → BIn lo R (some ⟨b, off, none⟩) (l.take n) (w.setCell ⟨R, 0, none⟩ (.slice (some ⟨b, off + n, none⟩) (m - n) (c - n))) := fun e => (h.bytes.take n).kept (X := R) ((Kept.refl R w).setCell 0 _) (.inr (Nat.le_refl _))
    rw [htl]
    clear hd hrd hbt hm h htl
    replace hdA := Lib.hid hdA
    replace hdB := Lib.hid hdB
    replace hbA := Lib.hid hbA
    replace hbB := Lib.hid hbB
    replace hfit := Lib.hid hfit
    go_enter Try.func48, Try.ntmps48
    go_wp2
    all_goals
      go_ret
      first
        | exact ⟨_, _, rfl, hbA.out ‹_›, by omega, (Kept.refl R _).setCell 0 _, hdA.out ‹_›⟩
        | exact ⟨_, _, rfl, hbB.out ‹_›, by omega, (Kept.refl R _).setCell 0 _, hdB.out ‹_›⟩
theorem take_any {l : List UInt8} {e : Int} {lo R : Nat} {w : World} (n : Nat) (h : Rd l e lo R w) :
    Calls Try.prog 48 #[.pointer (some ⟨R, 0, none⟩), .int .i64 (n : Nat)] w (Taken n l e lo R w) := by
  obtain ⟨a, c, l', h, hl⟩ := h
  by_cases he : e = 0
  · subst he
    obtain rfl := hl rfl
    by_cases hn : n ≤ l'.length
    · exact take_ok h n hn
    · have hr : takeR n l' 0 = ([], l', 16) := by unfold takeR; rw [if_pos rfl, if_neg hn]
      unfold Taken
      rw [hr]
      have hF := failR_ok 16 (by omega) h
      have c0 := h.c0
      have c1 := h.c1
      have hb : ∀ w', Kept R w w' → BIn lo R none [] w' := fun w' k => BIn.nil (Nat.le_trans (Nat.le_of_lt h.lt) k.size)
      have hn' : (l'.length : Int) < (n : Int) := by omega
      replace hF := Lib.hid hF
      replace hb := Lib.hid hb
      clear h hr hl hn
      go_enter Try.func48, Try.ntmps48
      go_wp2_with (go_at_call 44; refine hF.out.mono ?_; rintro e w1 ⟨rfl, hk, hr⟩)
      go_ret
      exact ⟨none, 0, rfl, hb.out _ hk, by simp, hk, hr.rd⟩
  · have hr : takeR n l e = ([], l, e) := if_neg he
    unfold Taken
    rw [hr]
    have hb : (e == 0) = false := by simp [he]
    have c1 := h.c1
    have hb2 : BIn lo R none [] w := BIn.nil (Nat.le_of_lt h.lt)
    replace h := Lib.hid h
    replace hl := Lib.hid hl
    replace hb2 := Lib.hid hb2
    clear hr
    go_enter Try.func48, Try.ntmps48
    go_wp2
    go_ret
    exact ⟨none, 0, rfl, hb2.out, by simp, Kept.refl _ _, a, c, l', h.out, hl.out⟩
end Go.Proofs.Ytkmnmddengnjlaa
