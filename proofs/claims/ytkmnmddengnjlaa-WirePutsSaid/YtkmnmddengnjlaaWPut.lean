/- Contracts of the package's and the document's PutNumber, PutBool, PutText. -/
import Derived.Test.YtkmnmddengnjlaaWNum
import Derived.Lib.ConvBytes
namespace Go.Proofs.Ytkmnmddengnjlaa
open Go Go.RowKit

/-- A slice of bytes: what it holds, and that it is well formed. -/
structure Src (a0 : Option Addr) (l : List UInt8) (cap : Nat) (w : World) : Prop where
  nil : a0 = none → cap = 0
  le : l.length ≤ cap
  bytes : BytesAre a0 l w
theorem Src.below {a : Option Addr} {l : List UInt8} {c : Nat} {w w' : World} {B : Nat} (h : Src a l c w) (hB : w.heap.size ≤ B) (hb : Below B w w') : Src a l c w' := ⟨h.nil, h.le, h.bytes.below hB hb⟩
theorem fields2 {a0 a1 : Option Addr} {l0 l1 : List UInt8} {c0 c1 : Nat} {w : World} (h0 : Src a0 l0 c0 w) (h1 : Src a1 l1 c1 w) :
    FieldsAre (some ⟨w.heap.size, 0, none⟩) [l0, l1] (w.alloc (.cells #[.slice a0 (l0.length : Nat) c0, .slice a1 (l1.length : Nat) c1] 22)) := by
  have hb : Below w.heap.size w (w.alloc (.cells #[.slice a0 (l0.length : Nat) c0, .slice a1 (l1.length : Nat) c1] 22)) := (Below.refl _ w).alloc (Nat.le_refl _) _
  intro i hi
  match i, hi with
  | 0, _ => exact ⟨_, 0, a0, c0, rfl, by simp, by rw [Lib.cell_of_heap (heap_alloc_new w _)]; rfl, h0.nil, h0.le, (h0.below (Nat.le_refl _) hb).bytes⟩
  | 1, _ => exact ⟨_, 0, a1, c1, rfl, by simp, by rw [Lib.cell_of_heap (heap_alloc_new w _)]; rfl, h1.nil, h1.le, (h1.below (Nat.le_refl _) hb).bytes⟩
  | i + 2, hi => exact absurd hi (by simp)
theorem fields3 {a0 a1 a2 : Option Addr} {l0 l1 l2 : List UInt8} {c0 c1 c2 : Nat} {w : World} (h0 : Src a0 l0 c0 w) (h1 : Src a1 l1 c1 w) (h2 : Src a2 l2 c2 w) :
    FieldsAre (some ⟨w.heap.size, 0, none⟩) [l0, l1, l2] (w.alloc (.cells #[.slice a0 (l0.length : Nat) c0, .slice a1 (l1.length : Nat) c1, .slice a2 (l2.length : Nat) c2] 22)) := by
  have hb : Below w.heap.size w (w.alloc (.cells #[.slice a0 (l0.length : Nat) c0, .slice a1 (l1.length : Nat) c1, .slice a2 (l2.length : Nat) c2] 22)) := (Below.refl _ w).alloc (Nat.le_refl _) _
  intro i hi
  match i, hi with
  | 0, _ => exact ⟨_, 0, a0, c0, rfl, by simp, by rw [Lib.cell_of_heap (heap_alloc_new w _)]; rfl, h0.nil, h0.le, (h0.below (Nat.le_refl _) hb).bytes⟩
  | 1, _ => exact ⟨_, 0, a1, c1, rfl, by simp, by rw [Lib.cell_of_heap (heap_alloc_new w _)]; rfl, h1.nil, h1.le, (h1.below (Nat.le_refl _) hb).bytes⟩
  | 2, _ => exact ⟨_, 0, a2, c2, rfl, by simp, by rw [Lib.cell_of_heap (heap_alloc_new w _)]; rfl, h2.nil, h2.le, (h2.below (Nat.le_refl _) hb).bytes⟩
  | i + 3, hi => exact absurd hi (by simp)
/-- The package's join of two rows, called at a row that the call made. -/
theorem join2 {a0 a1 : Option Addr} {l0 l1 : List UInt8} {c0 c1 : Nat} {w : World} (h0 : Src a0 l0 c0 w) (h1 : Src a1 l1 c1 w) (hl : l0.length + l1.length ≤ 1000000) :
    Calls Try.prog 34 #[.slice (some ⟨w.heap.size, 0, none⟩) 2 2] (w.alloc (.cells #[.slice a0 (l0.length : Nat) c0, .slice a1 (l1.length : Nat) c1] 22)) (MadeB (l0 ++ l1) w) := by
  have h := join_any (some ⟨w.heap.size, 0, none⟩) [l0, l1] 2 _ (by simp) (by simp; omega) (fields2 h0 h1)
  rw [show [l0, l1].flatten = l0 ++ l1 from by simp] at h
  refine Calls.mono h ?_
  rintro e w' ⟨b1, d1, he, k1, k2, k3, k4, hb⟩
  exact ⟨b1, d1, he, k1, k2, k3, k4, ((Below.refl _ w).alloc (Nat.le_refl _) _).trans (hb.mono (by simp))⟩
theorem join3 {a0 a1 a2 : Option Addr} {l0 l1 l2 : List UInt8} {c0 c1 c2 : Nat} {w : World} (h0 : Src a0 l0 c0 w) (h1 : Src a1 l1 c1 w) (h2 : Src a2 l2 c2 w) (hl : l0.length + l1.length + l2.length ≤ 1000000) :
    Calls Try.prog 34 #[.slice (some ⟨w.heap.size, 0, none⟩) 3 3] (w.alloc (.cells #[.slice a0 (l0.length : Nat) c0, .slice a1 (l1.length : Nat) c1, .slice a2 (l2.length : Nat) c2] 22)) (MadeB (l0 ++ (l1 ++ l2)) w) := by
  have h := join_any (some ⟨w.heap.size, 0, none⟩) [l0, l1, l2] 3 _ (by simp) (by simp; omega) (fields3 h0 h1 h2)
  rw [show [l0, l1, l2].flatten = l0 ++ (l1 ++ l2) from by simp] at h
  refine Calls.mono h ?_
  rintro e w' ⟨b1, d1, he, k1, k2, k3, k4, hb⟩
  exact ⟨b1, d1, he, k1, k2, k3, k4, ((Below.refl _ w).alloc (Nat.le_refl _) _).trans (hb.mono (by simp))⟩
theorem MadeB.after {l : List UInt8} {w w1 : World} {e : Ending} {w' : World} (h : MadeB l w1 e w') (hb : Below w.heap.size w w1) : MadeB l w e w' := by
  obtain ⟨b1, d1, he, k1, k2, k3, k4, h⟩ := h
  exact ⟨b1, d1, he, k1, k2, k3, k4, hb.trans (h.mono hb.size)⟩
theorem putNumber_any (a0 : Option Addr) (l : List UInt8) (cap : Nat) (n : Int) (w : World) (hl : l.length ≤ 900000) (hS : Src a0 l cap w) (h0 : -9223372036854775808 ≤ n) (h1 : n ≤ 9223372036854775807) :
    Calls Try.prog 10 #[.slice a0 (l.length : Nat) cap, .int .i64 n] w (MadeB (l ++ numB n) w) := by
  have hg := Lib.hid (fun W => groups_any n W h0 h1)
  have hlen := numB_len n h0 h1
  generalize numB n = L at hg hlen ⊢
  clear h0 h1
  go_enter Try.func10, Try.ntmps10
  go_wp2_with (go_at_call 35; refine (hg.out _).mono ?_)
  rintro e w1 ⟨a1, c1, rfl, k1, k2, k3, k4, hb⟩
  have hj := Lib.hid (join2 (hS.below (Nat.le_refl _) hb) ⟨k1, k2, k4⟩ (by omega))
  go_wp2_with (go_at_call 34; refine hj.out.mono ?_)
  rintro e w2 ⟨b1, d1, rfl, m1, m2, m3, m4, hb2⟩
  go_wp2
  go_ret
  exact ⟨b1, d1, by simp, m1, m2, m3, m4, hb.trans (hb2.mono hb.size)⟩
theorem join2_at {a0 a1 : Option Addr} {l0 l1 : List UInt8} {c0 c1 : Nat} {w : World} (h0 : Src a0 l0 c0 w) (h1 : Src a1 l1 c1 w) (hl : l0.length + l1.length ≤ 1000000) (g : Nat) (hg : g = w.heap.size) (m1 k1 : Nat) (hm : m1 = l1.length) (hk : k1 = c1) :
    Calls Try.prog 34 #[.slice (some ⟨g, 0, none⟩) 2 2] (w.alloc (.cells #[.slice a0 (l0.length : Nat) c0, .slice a1 m1 k1] 22)) (MadeB (l0 ++ l1) w) := by
  subst hg hm hk
  exact join2 h0 h1 hl
theorem src_one (c : UInt8) (w : World) : Src (some ⟨w.heap.size, 0, none⟩) [c] 1 (w.alloc (.cells #[.int .u8 (c.toNat : Int)] 5)) := by
  refine ⟨by simp, by simp, fun i hi => ?_⟩
  obtain rfl : i = 0 := by simpa using hi
  exact ⟨w.heap.size, 0, rfl, by simp, by rw [Lib.cell_of_heap (heap_alloc_new w _)]; rfl⟩
theorem putBool_any (a0 : Option Addr) (l : List UInt8) (cap : Nat) (v : Bool) (w : World) (hl : l.length ≤ 900000) (hS : Src a0 l cap w) :
    Calls Try.prog 14 #[.slice a0 (l.length : Nat) cap, .bool v] w (MadeB (l ++ boolB v) w) := by
  cases v with
  | true =>
    have hb : Below w.heap.size w (w.alloc (.cells #[.int .u8 1] 5)) := (Below.refl _ w).alloc (Nat.le_refl _) _
    have hj := Lib.hid (join2_at (hS.below (Nat.le_refl _) hb) (src_one 1 w) (by simp; omega) (w.heap.size + 1) (by simp) 1 1 rfl rfl)
    go_enter Try.func14, Try.ntmps14
    go_wp2_with (go_at_call 34; refine hj.out.mono ?_)
    rintro e w2 ⟨b1, d1, rfl, m1, m2, m3, m4, hb2⟩
    go_wp2
    go_ret
    exact ⟨b1, d1, by simp [boolB], m1, m2, m3, m4, hb.trans (hb2.mono hb.size)⟩
  | false =>
    have hb : Below w.heap.size w (w.alloc (.cells #[.int .u8 0] 5)) := (Below.refl _ w).alloc (Nat.le_refl _) _
    have hj := Lib.hid (join2_at (hS.below (Nat.le_refl _) hb) (src_one 0 w) (by simp; omega) (w.heap.size + 1) (by simp) 1 1 rfl rfl)
    go_enter Try.func14, Try.ntmps14
    go_wp2_with (go_at_call 34; refine hj.out.mono ?_)
    rintro e w2 ⟨b1, d1, rfl, m1, m2, m3, m4, hb2⟩
    go_wp2
    go_ret
    exact ⟨b1, d1, by simp [boolB], m1, m2, m3, m4, hb.trans (hb2.mono hb.size)⟩
theorem conv_src (q : ByteArray) (V : World) : ∃ (V1 : World) (cap : Nat), (convert 9 22 (.string q)).run Try.prog V = .ok (.slice (some ⟨V.heap.size, 0, none⟩) q.size cap) V1 ∧ Below V.heap.size V V1 ∧ Src (some ⟨V.heap.size, 0, none⟩) q.data.toList cap V1 := by
  refine ⟨Lib.bytesWorld V 5 q, _, Lib.run_convert_string_bytes V 9 22 5 q Try.underlying9 Try.underlying22 Try.underlying5, ?_, ?_⟩
  · exact ⟨rfl, rfl, rfl, by rw [Lib.bytesWorld_size]; omega, fun k hk => Lib.bytesWorld_at_old V _ q k hk⟩
  · refine ⟨by simp, grownCap_ge _ _ _ _, fun i hi => ⟨V.heap.size, 0, rfl, by rw [Lib.bytesWorld_size]; omega, ?_⟩⟩
    have hi2 : i < q.data.size := hi
    rw [Nat.zero_add, Lib.bytesWorld_cell V _ q i hi]
    simp
    rw [Array.getElem?_eq_getElem hi2]
    rfl
set_option maxHeartbeats 4000000 in
theorem putText_any (a0 : Option Addr) (l : List UInt8) (cap : Nat) (s : ByteArray) (w : World) (hl : l.length ≤ 900000) (hs : s.size ≤ 90000) (hS : Src a0 l cap w) :
    Calls Try.prog 16 #[.slice a0 (l.length : Nat) cap, .string s] w (MadeB (l ++ textB s) w) := by
  have hg := Lib.hid (fun W => groups_any (s.size : Int) W (by omega) (by omega))
  have hlen := numB_len (s.size : Int) (by omega) (by omega)
  have ht : textB s = numB (s.size : Int) ++ s.data.toList := rfl
  have hsz : s.data.toList.length = s.size := rfl
  rw [ht]
  generalize numB (s.size : Int) = L at hg hlen ⊢
  replace hsz := Lib.hid hsz
  clear ht
  go_enter Try.func16, Try.ntmps16
  go_wp2_with (go_at_call 35; refine (hg.out _).mono ?_)
  rintro e w1 ⟨a1, c1, rfl, k1, k2, k3, k4, hb⟩
  obtain ⟨V1, c2, hrun, hb1, hs2⟩ := conv_src s w1
  have hk : Src a1 L c1 w1 := ⟨k1, k2, k4⟩
  have hj := Lib.hid (join3 ((hS.below (Nat.le_refl _) hb).below (Nat.le_refl _) hb1) (hk.below (Nat.le_refl _) hb1) hs2 (by rw [hsz.out]; omega))
  rw [hsz.out] at hj
  go_wp2_with (go_at_call 34; refine hj.out.mono ?_)
  rintro e w2 ⟨b1, d1, rfl, m1, m2, m3, m4, hb2⟩
  go_wp2
  go_ret
  exact ⟨b1, d1, by simp, m1, m2, m3, m4, hb.trans ((hb1.trans (hb2.mono hb1.size)).mono hb.size)⟩
end Go.Proofs.Ytkmnmddengnjlaa
