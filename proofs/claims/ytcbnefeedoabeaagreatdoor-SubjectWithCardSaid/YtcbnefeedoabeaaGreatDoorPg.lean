/- The draw's list of choices: what it holds, and its contracts. The draw's texts, versions and lists, and the contract of its Text. The draw's values: each is valid and of the kind that was asked. The draw's lists; a value of any kind. The draw's numbers that are often out of range. -/
import Derived.Test.YtcbnefeedoabeaaGreatDoorProg
import Derived.Test.YtcbnefeedoabeaaGreatDoorPa
import Derived.BigRegion
import Derived.Deep.RegionWith
import Derived.Deep.DeepFit
import Derived.IntWalk
import Derived.Deep.DeepCutAuto
import Derived.Test.YtcbnefeedoabeaaGreatDoorPc
import Derived.Test.YtcbnefeedoabeaaGreatDoorPd
/- The draw's list of choices: what it holds, and its contracts. -/
namespace Go.Proofs.YtcbnefeedoabeaaGreatDoor
open Go Go.RowKit

/-- Of what was there only block C may have turned. -/
structure Kept (C : Nat) (w w' : World) : Prop where
  os : w'.os = w.os
  tape : w'.tape = w.tape
  output : w'.output = w.output
  size : w.heap.size ≤ w'.heap.size
  block : ∀ k, k < w.heap.size → k ≠ C → w'.heap[k]? = w.heap[k]?
theorem Kept.refl (C : Nat) (w : World) : Kept C w w := ⟨rfl, rfl, rfl, Nat.le_refl _, fun _ _ _ => rfl⟩
theorem Kept.trans {C : Nat} {a b c : World} (h : Kept C a b) (k : Kept C b c) : Kept C a c :=
  ⟨k.os.trans h.os, k.tape.trans h.tape, k.output.trans h.output, Nat.le_trans h.size k.size, fun n hn hc => (k.block n (Nat.lt_of_lt_of_le hn h.size) hc).trans (h.block n hn hc)⟩
theorem Kept.of_below {C : Nat} {w w' : World} (h : Below w.heap.size w w') : Kept C w w' := ⟨h.os, h.tape, h.output, h.size, fun k hk _ => h.block k hk⟩
theorem Kept.below {C B : Nat} {w w' : World} (h : Kept C w w') (hC : B ≤ C) (hB : B ≤ w.heap.size) : Below B w w' :=
  ⟨h.os, h.tape, h.output, h.size, fun k hk => h.block k (Nat.lt_of_lt_of_le hk hB) (by omega)⟩
theorem Kept.drew {C : Nat} {w w' : World} (h : Kept C w w') : Kept C w w'.drew := ⟨h.os, h.tape, h.output, h.size, h.block⟩
theorem Kept.alloc {C : Nat} {w w' : World} (h : Kept C w w') (o : Obj) : Kept C w (w'.alloc o) := h.trans (Kept.of_below ((Below.refl _ w').alloc (Nat.le_refl _) o))
theorem Kept.setCell {C : Nat} {w w' : World} (h : Kept C w w') (i : Nat) (v : Value) : Kept C w (w'.setCell ⟨C, i, none⟩ v) :=
  ⟨h.os, h.tape, h.output, by simpa using h.size, fun k hk hc => by rw [Below.heap_setCell _ _ _ _ hc]; exact h.block k hk hc⟩
theorem Kept.cell {C : Nat} {w w' : World} (h : Kept C w w') {p : Addr} (hp : p.block < w.heap.size) (hc : p.block ≠ C) : w'.cell? p = w.cell? p := World.cell?_of_block (w := w) (h.block p.block hp hc)
/-- The choices lie in block C, at of them are used. -/
structure Codes (l : List UInt8) (a0 : Option Addr) (cap C at_ : Nat) (w : World) : Prop where
  here : w.heap[C]? = some (.cells #[.slice a0 (l.length : Nat) cap, .int .i64 (at_ : Int)] 68 (0, 0))
  bytes : ∀ i (h : i < l.length), ∃ (b off : Nat), a0 = some ⟨b, off, none⟩ ∧ b < w.heap.size ∧ b ≠ C ∧ w.cell? ⟨b, off + i, none⟩ = some (.int .u8 (l[i].toNat : Int))
  le : at_ ≤ l.length
theorem Codes.lt {l : List UInt8} {a0 : Option Addr} {cap C at_ : Nat} {w : World} (h : Codes l a0 cap C at_ w) : C < w.heap.size := (Array.getElem?_eq_some_iff.1 h.here).1
theorem Codes.below {l : List UInt8} {a0 : Option Addr} {cap C at_ : Nat} {w w' : World} (h : Codes l a0 cap C at_ w) (hb : Below w.heap.size w w') : Codes l a0 cap C at_ w' := by
  refine ⟨(hb.block C h.lt).trans h.here, fun i hi => ?_, h.le⟩
  obtain ⟨b, off, he, hlt, hc, hv⟩ := h.bytes i hi
  exact ⟨b, off, he, Nat.lt_of_lt_of_le hlt hb.size, hc, (hb.cell (p := ⟨b, off + i, none⟩) hlt).trans hv⟩
theorem Codes.put {l : List UInt8} {a0 : Option Addr} {cap C at_ : Nat} {w : World} (h : Codes l a0 cap C at_ w) (hlt : at_ < l.length) : Codes l a0 cap C (at_ + 1) (w.setCell ⟨C, 1, none⟩ (.int .i64 ((at_ : Int) + 1))) := by
  refine ⟨?_, fun i hi => ?_, hlt⟩
  · show (w.heap.modify C _)[C]? = _
    rw [Array.getElem?_modify, if_pos rfl, h.here]
    rfl
  · obtain ⟨b, off, he, hb, hc, hv⟩ := h.bytes i hi
    refine ⟨b, off, he, by simpa using hb, hc, ?_⟩
    rw [World.cell?_setCell_other w _ _ _ (fun e => hc (by injection e with e1 _; exact e1.symm))]
    exact hv
theorem left_any (l : List UInt8) (a0 : Option Addr) (cap C at_ : Nat) (w : World) (h : Codes l a0 cap C at_ w) :
    Calls Tryz.prog 40 #[.pointer (some ⟨C, 0, none⟩)] w fun e w' => e = .returned (.bool (decide (at_ < l.length))) ∧ w' = w.drew := by
  have c0 : w.cell? ⟨C, 0, none⟩ = some (.slice a0 (l.length : Nat) cap) := by rw [Lib.cell_of_heap h.here]; rfl
  have c1 : w.cell? ⟨C, 1, none⟩ = some (.int .i64 (at_ : Int)) := by rw [Lib.cell_of_heap h.here]; rfl
  have hd : decide ((at_ : Int) < (l.length : Int)) = decide (at_ < l.length) := by rw [Bool.eq_iff_iff]; simp
  go_enter Tryz.func40, Tryz.ntmps40
  go_upto_region 1 with (fail)
  go_region
  all_goals
    go_wp2
    go_ret
    exact ⟨rfl, rfl⟩
/-- The next choice from 0 to n - 1. -/
def nextN (l : List UInt8) (at_ n : Nat) : Nat := if at_ < l.length then (l.getD at_ 0).toNat % n else 0
theorem nextN_lt (l : List UInt8) (at_ n : Nat) (h : 0 < n) : nextN l at_ n < n := by
  unfold nextN
  split
  · exact Nat.mod_lt _ h
  · exact h
set_option maxHeartbeats 4000000 in
theorem next_any (l : List UInt8) (a0 : Option Addr) (cap C at_ n : Nat) (w : World) (hl : l.length ≤ 1000000) (h0 : 0 < n) (hn : n ≤ 256) (h : Codes l a0 cap C at_ w) :
    Calls Tryz.prog 15 #[.pointer (some ⟨C, 0, none⟩), .int .i64 (n : Int)] w fun e w' => e = .returned (.int .i64 (nextN l at_ n : Nat)) ∧ Kept C w w' ∧ ∃ at2, Codes l a0 cap C at2 w' := by
  have hle := h.le
  by_cases hlt : at_ < l.length
  · obtain ⟨b, off, rfl, hb, hc, hv⟩ := h.bytes at_ hlt
    have hL := left_any l _ cap C at_ w h
    rw [decide_eq_true hlt] at hL
    have hc0 : w.drew.cell? ⟨C, 0, none⟩ = some (.slice (some ⟨b, off, none⟩) (l.length : Nat) cap) := by show w.cell? _ = _; rw [Lib.cell_of_heap h.here]; rfl
    have hc1 : w.drew.cell? ⟨C, 1, none⟩ = some (.int .i64 (at_ : Int)) := by show w.cell? _ = _; rw [Lib.cell_of_heap h.here]; rfl
    have hf : ∀ i, w.drew.frozen? ⟨C, i, none⟩ = false := fun i => Lib.frozen_of_heap (w := w) h.here i
    have hdr : Codes l (some ⟨b, off, none⟩) cap C at_ w.drew := h.below ((Below.refl _ w).drew)
    have hp : Codes l (some ⟨b, off, none⟩) cap C (at_ + 1) (w.setCell ⟨C, 1, none⟩ (.int .i64 ((at_ : Int) + 1))).drew := hdr.put hlt
    have hv2 : (w.setCell ⟨C, 1, none⟩ (.int .i64 ((at_ : Int) + 1))).drew.cell? ⟨b, off + at_, none⟩ = some (.int .u8 (l[at_].toNat : Int)) := by
      obtain ⟨b', off', he, _, _, h5⟩ := hp.bytes at_ hlt
      cases he
      exact h5
    have hp0 : (w.setCell ⟨C, 1, none⟩ (.int .i64 ((at_ : Int) + 1))).drew.cell? ⟨C, 0, none⟩ = some (.slice (some ⟨b, off, none⟩) (l.length : Nat) cap) := by rw [Lib.cell_of_heap hp.here]; rfl
    have hp1 : (w.setCell ⟨C, 1, none⟩ (.int .i64 ((at_ : Int) + 1))).drew.cell? ⟨C, 1, none⟩ = some (.int .i64 ((at_ : Int) + 1)) := by rw [Lib.cell_of_heap hp.here]; rfl
    have hkept : Kept C w (w.setCell ⟨C, 1, none⟩ (.int .i64 ((at_ : Int) + 1))).drew := (Kept.refl C w).drew.setCell 1 _
    have hres : nextN l at_ n = l[at_].toNat % n := by unfold nextN; rw [if_pos hlt]; simp [List.getD, hlt]
    have hb8 := l[at_].toNat_lt
    rw [hres]
    replace hres := Lib.hid hres
    replace hL := Lib.hid hL
    have hlt' : (at_ : Int) < (l.length : Int) := by omega
    have hmod : ((l[at_].toNat : Int)).tmod (n : Int) = ((l[at_].toNat % n : Nat) : Int) := by rw [Int.tmod_eq_emod_of_nonneg (by omega), Int.natCast_emod]
    have hn0 : ¬ (n : Int) = 0 := by omega
    generalize l[at_].toNat = z at hv hv2 hb8 hmod ⊢
    clear hdr hv hb h
    go_enter Tryz.func15, Tryz.ntmps15
    go_upto_region 4 with (go_at_call 40; refine hL.out.mono ?_; rintro e w1 ⟨rfl, rfl⟩)
    generalize (w.setCell ⟨C, 1, none⟩ (.int .i64 ((at_ : Int) + 1))).drew = w2 at hp hp0 hp1 hv2 hkept ⊢
    clear hc0 hc1 hf
    go_region
    all_goals
      go_wp2
      go_ret
      exact ⟨rfl, hkept.drew, _, hp.below ((Below.refl _ w2).drew)⟩
  · have hL := left_any l _ cap C at_ w h
    rw [decide_eq_false hlt] at hL
    have hres : nextN l at_ n = 0 := by unfold nextN; rw [if_neg hlt]
    rw [hres]
    replace hL := Lib.hid hL
    go_enter Tryz.func15, Tryz.ntmps15
    go_wp2_with (go_at_call 40; refine hL.out.mono ?_; rintro e w1 ⟨rfl, rfl⟩)
    go_ret
    exact ⟨rfl, (Kept.refl C w).drew, _, h.below ((Below.refl _ w).drew)⟩
/-- A slice of bytes that came in. -/
def BytesOf (a0 : Option Addr) (l : List UInt8) (w : World) : Prop := ∀ i (h : i < l.length), ∃ (b off : Nat), a0 = some ⟨b, off, none⟩ ∧ b < w.heap.size ∧ w.cell? ⟨b, off + i, none⟩ = some (.int .u8 (l[i].toNat : Int))
theorem codes_new (l : List UInt8) (a0 : Option Addr) (cap n : Nat) (w : World) (hn : n ≤ l.length) (hB : BytesOf a0 l w) : Codes (l.take n) a0 cap w.heap.size 0 (w.alloc (.cells #[.slice a0 (n : Nat) cap, .int .i64 0] 68)) := by
  have hl : (l.take n).length = n := by rw [List.length_take]; omega
  refine ⟨?_, fun i hi => ?_, Nat.zero_le _⟩
  · rw [hl]
    exact heap_alloc_new w _
  · obtain ⟨b, off, he, hb, hv⟩ := hB i (by omega)
    refine ⟨b, off, he, by simp; omega, by omega, ?_⟩
    rw [((Below.refl _ w).alloc (Nat.le_refl _) (.cells #[.slice a0 (n : Nat) cap, .int .i64 0] 68)).cell (p := ⟨b, off + i, none⟩) hb, hv]
    simp
theorem new_any (l : List UInt8) (a0 : Option Addr) (cap n : Nat) (w : World) (hl : l.length ≤ 9223372036854775807) (hc : l.length ≤ cap) (hn : n ≤ 1000) (hB : BytesOf a0 l w) :
    Calls Tryz.prog 9 #[.slice a0 (l.length : Nat) cap, .int .i64 (n : Int)] w fun e w' => e = .returned (.pointer (some ⟨w.heap.size, 0, none⟩)) ∧ Codes (l.take n) a0 cap w.heap.size 0 w' ∧ Below w.heap.size w w' := by
  by_cases h : n < l.length
  · have hk := codes_new l a0 cap n w (by omega) hB
    have h' : (n : Int) < (l.length : Int) := by omega
    have hc2 : n ≤ cap := by omega
    have hc3 : (n : Int) ≤ (cap : Int) := by omega
    replace hk := Lib.hid hk
    obtain ⟨m, hm⟩ : ∃ m, l.length = m := ⟨_, rfl⟩
    rw [hm] at h' ⊢
    go_enter Tryz.func9, Tryz.ntmps9
    go_wp2
    go_ret
    exact ⟨rfl, hk.out, (Below.refl _ w).alloc (Nat.le_refl _) _⟩
  · have hk := codes_new l a0 cap l.length w (Nat.le_refl _) hB
    rw [List.take_of_length_le (Nat.le_refl _)] at hk
    rw [List.take_of_length_le (by omega)]
    have h' : ¬ (n : Int) < (l.length : Int) := by omega
    replace hk := Lib.hid hk
    go_enter Tryz.func9, Tryz.ntmps9
    go_wp2
    go_ret
    exact ⟨rfl, hk.out, (Below.refl _ w).alloc (Nat.le_refl _) _⟩
end Go.Proofs.YtcbnefeedoabeaaGreatDoor
/- The draw's texts, versions and lists, and the contract of its Text. -/
namespace Go.Proofs.YtcbnefeedoabeaaGreatDoor
open Go Go.RowKit

def drawTexts : List ByteArray := [⟨#[115, 101]⟩, ⟨#[100, 101]⟩, ⟨#[117, 115]⟩, ⟨#[112, 114, 111]⟩, ⟨#[102, 114, 101, 101]⟩, ⟨#[]⟩, ⟨#[97, 34, 98]⟩, ⟨#[99, 92]⟩, ⟨#[195, 169]⟩, ⟨#[112, 114, 111, 115, 101]⟩, ⟨#[120, 32, 121]⟩]
def drawVersions : List ByteArray := [⟨#[49, 46, 48, 46, 48]⟩, ⟨#[49, 46, 50, 46, 51]⟩, ⟨#[49, 46, 49, 48, 46, 48]⟩, ⟨#[50, 46, 48, 46, 49]⟩, ⟨#[48, 46, 48, 46, 48]⟩, ⟨#[57, 57, 57, 57, 57, 57, 46, 48, 46, 57, 57, 57, 57, 57, 57]⟩]
def drawLists : List (List ByteArray) := [[], [⟨#[112, 114, 111]⟩], [⟨#[100, 101]⟩, ⟨#[115, 101]⟩], [⟨#[]⟩, ⟨#[102, 114, 101, 101]⟩, ⟨#[117, 115]⟩], [⟨#[120, 32, 121]⟩]]
/-- What the draw's variables hold; C is the block of the choices. -/
structure DrawG (C : Nat) (w : World) : Prop where
  t : ∀ i (h : i < drawTexts.length), w.cell? ⟨0, i, none⟩ = some (.string drawTexts[i])
  v : ∀ i (h : i < drawVersions.length), w.cell? ⟨1, i, none⟩ = some (.string drawVersions[i])
  ls : ∀ i (h : i < drawLists.length), ∃ (a : Option Addr) (c : Nat), w.cell? ⟨2, i, none⟩ = some (.slice a (drawLists[i].length : Nat) c) ∧ (a = none → c = 0) ∧ drawLists[i].length ≤ c ∧
    ∀ j (hj : j < drawLists[i].length), ∃ (b off : Nat), a = some ⟨b, off, none⟩ ∧ b ≠ C ∧ b < w.heap.size ∧ w.cell? ⟨b, off + j, none⟩ = some (.string drawLists[i][j])
  nt : 0 ≠ C
  nv : 1 ≠ C
  nl : 2 ≠ C
theorem DrawG.kept {C : Nat} {w w' : World} (h : DrawG C w) (k : Kept C w w') : DrawG C w' := by
  refine ⟨fun i hi => ?_, fun i hi => ?_, fun i hi => ?_, h.nt, h.nv, h.nl⟩
  · have h1 := h.t i hi
    rw [k.cell (p := ⟨0, i, none⟩) (block_lt_of_cell h1) h.nt]
    exact h1
  · have h1 := h.v i hi
    rw [k.cell (p := ⟨1, i, none⟩) (block_lt_of_cell h1) h.nv]
    exact h1
  · obtain ⟨a, c, h1, h2, h3, h4⟩ := h.ls i hi
    refine ⟨a, c, ?_, h2, h3, fun j hj => ?_⟩
    · rw [k.cell (p := ⟨2, i, none⟩) (block_lt_of_cell h1) h.nl]
      exact h1
    · obtain ⟨b, off, e1, e2, e3, e4⟩ := h4 j hj
      exact ⟨b, off, e1, e2, Nat.lt_of_lt_of_le e3 k.size, by rw [k.cell (p := ⟨b, off + j, none⟩) e3 e2]; exact e4⟩
set_option maxHeartbeats 4000000 in
theorem text_any (l : List UInt8) (a0 : Option Addr) (cap C at_ : Nat) (w : World) (hl : l.length ≤ 1000000) (h : Codes l a0 cap C at_ w) (hG : DrawG C w) :
    Calls Tryz.prog 32 #[.pointer (some ⟨C, 0, none⟩)] w fun e w' => (∃ s ∈ drawTexts, e = .returned (.string s)) ∧ Kept C w w' ∧ ∃ at2, Codes l a0 cap C at2 w' := by
  have hn := next_any l a0 cap C at_ 11 w hl (by omega) (by omega) h
  have hlt := nextN_lt l at_ 11 (by omega)
  generalize nextN l at_ 11 = r at hn hlt
  have hr : r < drawTexts.length := hlt
  have hr' : (r : Int) < 11 := by omega
  obtain ⟨s, hs⟩ : ∃ s, drawTexts[r] = s := ⟨_, rfl⟩
  have hmem : s ∈ drawTexts := by rw [← hs]; exact List.getElem_mem hr
  replace hn := Lib.hid hn
  have ht := hG.t r hr
  rw [hs] at ht
  replace hs := Lib.hid hs
  replace hr := Lib.hid hr
  go_enter Tryz.func32, Tryz.ntmps32
  go_wp2_with (go_at_call 15; refine hn.out.mono ?_; rintro e w1 ⟨rfl, hk, at2, hc2⟩; have ht2 : w1.cell? ⟨0, r, none⟩ = some (.string s) := (by rw [hk.cell (p := ⟨0, r, none⟩) (block_lt_of_cell ht) hG.nt]; exact ht))
  go_ret
  exact ⟨⟨s, hmem, rfl⟩, hk, at2, hc2⟩
end Go.Proofs.YtcbnefeedoabeaaGreatDoor
/- The draw's values: each is valid and of the kind that was asked. -/
namespace Go.Proofs.YtcbnefeedoabeaaGreatDoor
open Go Go.RowKit

theorem Codes.other {l : List UInt8} {a0 : Option Addr} {cap C at_ at2 B : Nat} {w w1 : World} (h0 : Codes l a0 cap C at_ w) (h : Codes l a0 cap C at2 w1) (hB : w.heap.size ≤ B) (i : Nat) (v : Value) : Codes l a0 cap C at2 (w1.setCell ⟨B, i, none⟩ v) := by
  refine ⟨?_, fun j hj => ?_, h.le⟩
  · rw [Below.heap_setCell _ _ _ _ (by have := h0.lt; show C ≠ B; omega)]
    exact h.here
  · obtain ⟨b, off, he, hlt, hc, hv⟩ := h.bytes j hj
    obtain ⟨b', off', he', hlt', _, _⟩ := h0.bytes j hj
    rw [he] at he'
    cases he'
    refine ⟨b, off, he, by simpa using hlt, hc, ?_⟩
    rw [World.cell?_setCell_other w1 _ _ _ (fun e => by injection e with e1 _; omega)]
    exact hv
/-- The texts of a slice whose block is B or a later one. -/
def TextsFrom (B : Nat) (a0 : Option Addr) (l : List ByteArray) (w : World) : Prop := ∀ i (h : i < l.length), ∃ (b off : Nat), a0 = some ⟨b, off, none⟩ ∧ B ≤ b ∧ b < w.heap.size ∧ w.cell? ⟨b, off + i, none⟩ = some (.string l[i])
theorem TextsFrom.texts {B : Nat} {a0 : Option Addr} {l : List ByteArray} {w : World} (h : TextsFrom B a0 l w) : TextsAre a0 l w := fun i hi => by
  obtain ⟨b, off, e1, _, e3, e4⟩ := h i hi
  exact ⟨b, off, e1, e3, e4⟩
theorem TextsFrom.set {B B' : Nat} {a0 : Option Addr} {l : List ByteArray} {w : World} (h : TextsFrom B a0 l w) (hB : B' < B) (j : Nat) (v : Value) : TextsFrom B a0 l (w.setCell ⟨B', j, none⟩ v) := fun i hi => by
  obtain ⟨b, off, e1, e2, e3, e4⟩ := h i hi
  refine ⟨b, off, e1, e2, by simpa using e3, ?_⟩
  rw [World.cell?_setCell_other _ _ _ _ (fun e => by injection e with e5 _; omega)]
  exact e4
theorem TextsFrom.mono {B B' : Nat} {a0 : Option Addr} {l : List ByteArray} {w : World} (h : TextsFrom B a0 l w) (hB : B' ≤ B) : TextsFrom B' a0 l w := fun i hi => by
  obtain ⟨b, off, e1, e2, e3, e4⟩ := h i hi
  exact ⟨b, off, e1, Nat.le_trans hB e2, e3, e4⟩
/-- A drawn value. -/
structure Drawn (k : Int) (x : Val) : Prop where
  kind : x.kind = k
  ok : checkE x = 0
  text : x.text.size ≤ 100
  len : x.list.length ≤ 20
  each : ∀ s ∈ x.list, s.size ≤ 100
theorem texts_ok : drawTexts.all (fun s => validB s && decide (s.size ≤ 100)) = true := by decide +kernel
theorem versions_ok : drawVersions.all (fun s => decide (verOk s) && decide (s.size ≤ 100)) = true := by decide +kernel
theorem lists_ok : drawLists.all (fun l => decide (listE l = 0) && decide (l.length ≤ 20) && l.all fun s => decide (s.size ≤ 100)) = true := by decide +kernel
theorem drawn_bool (r : Int) (h : r = 0 ∨ r = 1) : Drawn 1 ⟨1, r, ⟨#[]⟩, []⟩ := by
  refine ⟨rfl, ?_, Nat.zero_le _, Nat.zero_le _, fun s hs => by simp at hs⟩
  rcases h with rfl | rfl <;> decide
theorem drawn_num (r : Int) (h0 : -1099511627776 ≤ r) (h1 : r ≤ 1099511627776) : Drawn 2 ⟨2, r, ⟨#[]⟩, []⟩ := by
  refine ⟨rfl, ?_, Nat.zero_le _, Nat.zero_le _, fun s hs => by simp at hs⟩
  unfold checkE
  rw [if_neg (by simp), if_neg (not_not_intro ⟨.inl (.inr rfl), .inr rfl, .inr rfl⟩), if_neg (by simp), if_pos rfl, if_neg (by simp only; omega)]
theorem drawn_text (s : ByteArray) (h : s ∈ drawTexts) : Drawn 3 ⟨3, 0, s, []⟩ := by
  have h1 := List.all_eq_true.1 texts_ok s h
  simp only [Bool.and_eq_true, decide_eq_true_eq] at h1
  refine ⟨rfl, ?_, h1.2, Nat.zero_le _, fun s hs => by simp at hs⟩
  unfold checkE
  rw [if_neg (by simp), if_neg (not_not_intro ⟨.inr rfl, .inl (.inl rfl), .inr rfl⟩), if_neg (by simp), if_neg (by simp), if_pos rfl, if_pos h1.1]
theorem drawn_version (s : ByteArray) (h : s ∈ drawVersions) : Drawn 4 ⟨4, 0, s, []⟩ := by
  have h1 := List.all_eq_true.1 versions_ok s h
  simp only [Bool.and_eq_true, decide_eq_true_eq] at h1
  refine ⟨rfl, ?_, h1.2, Nat.zero_le _, fun s hs => by simp at hs⟩
  unfold checkE
  rw [if_neg (by simp), if_neg (not_not_intro ⟨.inr rfl, .inl (.inr rfl), .inr rfl⟩), if_neg (by simp), if_neg (by simp), if_neg (by simp), if_pos rfl, if_pos h1.1]
theorem drawn_list (l : List ByteArray) (h : l ∈ drawLists) : Drawn 5 ⟨5, 0, ⟨#[]⟩, l⟩ := by
  have h1 := List.all_eq_true.1 lists_ok l h
  simp only [Bool.and_eq_true, decide_eq_true_eq, List.all_eq_true] at h1
  refine ⟨rfl, ?_, Nat.zero_le _, h1.1.2, fun s hs => by simpa using h1.2 s hs⟩
  unfold checkE
  rw [if_neg (by simp), if_neg (not_not_intro ⟨.inr rfl, .inr rfl, .inl rfl⟩), if_neg (by simp), if_neg (by simp), if_neg (by simp), if_neg (by simp)]
  exact h1.1.1
theorem Kept.other {C B : Nat} {w w' : World} (h : Kept C w w') (hB : w.heap.size ≤ B) (i : Nat) (v : Value) : Kept C w (w'.setCell ⟨B, i, none⟩ v) :=
  ⟨h.os, h.tape, h.output, by simpa using h.size, fun k hk hc => by rw [Below.heap_setCell _ _ _ _ (by show k ≠ B; omega)]; exact h.block k hk hc⟩
set_option maxHeartbeats 4000000 in
theorem value_bool (l : List UInt8) (a0 : Option Addr) (cap C at_ : Nat) (w : World) (hl : l.length ≤ 1000000) (h : Codes l a0 cap C at_ w) :
    Calls Tryz.prog 41 #[.pointer (some ⟨C, 0, none⟩), .int .i64 1] w (fun e w' => (∃ (x : Val) (a : Option Addr) (c : Nat), e = .returned (x.agg a c) ∧ Drawn 1 x ∧ TextsFrom w.heap.size a x.list w' ∧ (a = none → c = 0) ∧ x.list.length ≤ c) ∧ Kept C w w' ∧ ∃ at2, Codes l a0 cap C at2 w') := by
  have hc0 := h.below ((Below.refl _ w).alloc (Nat.le_refl _) (.cells #[.int .i64 0, .int .i64 0, .string ⟨#[]⟩, .slice none 0 0] 41))
  have hk0 : Kept C w (w.alloc (.cells #[.int .i64 0, .int .i64 0, .string ⟨#[]⟩, .slice none 0 0] 41)) := Kept.of_below ((Below.refl _ w).alloc (Nat.le_refl _) _)
  have hz : (w.alloc (.cells #[.int .i64 0, .int .i64 0, .string ⟨#[]⟩, .slice none 0 0] 41)).heap[w.heap.size]? = some (.cells #[.int .i64 0, .int .i64 0, .string ⟨#[]⟩, .slice none 0 0] 41 (0, 0)) := heap_alloc_new w _
  have hne : w.heap.size ≠ C := by have := h.lt; omega
  go_enter Tryz.func41, Tryz.ntmps41
  go_upto_region 1 with (fail)
  generalize w.alloc (.cells #[.int .i64 0, .int .i64 0, .string ⟨#[]⟩, .slice none 0 0] 41) = w0 at hc0 hk0 hz ⊢
  have hzl : w.heap.size < w0.heap.size := (Array.getElem?_eq_some_iff.1 hz).1
  have hn := Lib.hid (next_any l a0 cap C at_ 2 w0 hl (by omega) (by omega) hc0)
  have hr := nextN_lt l at_ 2 (by omega)
  generalize nextN l at_ 2 = r at hn hr
  go_wp2_with (go_at_call 15; refine hn.out.mono ?_; rintro e w1 ⟨rfl, hk1, at2, hc1⟩; have hz1 := (hk1.block w.heap.size hzl hne).trans hz; have z0 : w1.cell? ⟨w.heap.size, 0, none⟩ = some (.int .i64 0) := (by rw [Lib.cell_of_heap hz1]; rfl); have z1 : w1.cell? ⟨w.heap.size, 1, none⟩ = some (.int .i64 0) := (by rw [Lib.cell_of_heap hz1]; rfl); have z2 : w1.cell? ⟨w.heap.size, 2, none⟩ = some (.string ⟨#[]⟩) := (by rw [Lib.cell_of_heap hz1]; rfl); have z3 : w1.cell? ⟨w.heap.size, 3, none⟩ = some (.slice none 0 0) := (by rw [Lib.cell_of_heap hz1]; rfl); have zf : ∀ i, w1.frozen? ⟨w.heap.size, i, none⟩ = false := Lib.frozen_of_heap hz1)
  refine bodyPost_ret (v := .agg #[.int .i64 1, .int .i64 (r : Int), .string ⟨#[]⟩, .slice none 0 0]) (by simp [results, Tryz.results41, go_sem, z0, z1, z2, z3]) rfl ⟨⟨⟨1, r, ⟨#[]⟩, []⟩, none, 0, rfl, drawn_bool _ (by omega), fun i hi => by simp at hi, fun _ => rfl, by simp⟩, ?_, at2, ?_⟩
  · exact ((((hk0.trans hk1).other (Nat.le_refl _) 0 _).other (Nat.le_refl _) 1 _).other (Nat.le_refl _) 2 _).other (Nat.le_refl _) 3 _
  · exact h.other (h.other (h.other (h.other hc1 (Nat.le_refl _) 0 _) (Nat.le_refl _) 1 _) (Nat.le_refl _) 2 _) (Nat.le_refl _) 3 _
set_option maxHeartbeats 4000000 in
theorem value_text (l : List UInt8) (a0 : Option Addr) (cap C at_ : Nat) (w : World) (hl : l.length ≤ 1000000) (h : Codes l a0 cap C at_ w) (hG : DrawG C w) :
    Calls Tryz.prog 41 #[.pointer (some ⟨C, 0, none⟩), .int .i64 3] w (fun e w' => (∃ (x : Val) (a : Option Addr) (c : Nat), e = .returned (x.agg a c) ∧ Drawn 3 x ∧ TextsFrom w.heap.size a x.list w' ∧ (a = none → c = 0) ∧ x.list.length ≤ c) ∧ Kept C w w' ∧ ∃ at2, Codes l a0 cap C at2 w') := by
  have hc0 := h.below ((Below.refl _ w).alloc (Nat.le_refl _) (.cells #[.int .i64 0, .int .i64 0, .string ⟨#[]⟩, .slice none 0 0] 41))
  have hk0 : Kept C w (w.alloc (.cells #[.int .i64 0, .int .i64 0, .string ⟨#[]⟩, .slice none 0 0] 41)) := Kept.of_below ((Below.refl _ w).alloc (Nat.le_refl _) _)
  have hz : (w.alloc (.cells #[.int .i64 0, .int .i64 0, .string ⟨#[]⟩, .slice none 0 0] 41)).heap[w.heap.size]? = some (.cells #[.int .i64 0, .int .i64 0, .string ⟨#[]⟩, .slice none 0 0] 41 (0, 0)) := heap_alloc_new w _
  have hne : w.heap.size ≠ C := by have := h.lt; omega
  go_enter Tryz.func41, Tryz.ntmps41
  go_upto_region 1 with (fail)
  generalize w.alloc (.cells #[.int .i64 0, .int .i64 0, .string ⟨#[]⟩, .slice none 0 0] 41) = w0 at hc0 hk0 hz ⊢
  have hzl : w.heap.size < w0.heap.size := (Array.getElem?_eq_some_iff.1 hz).1
  have hn := Lib.hid (text_any l a0 cap C at_ w0 hl hc0 (hG.kept hk0))
  go_wp2_with (go_at_call 32; refine hn.out.mono ?_; rintro e w1 ⟨⟨s, hs, rfl⟩, hk1, at2, hc1⟩; replace hs := Lib.hid hs; have hz1 := (hk1.block w.heap.size hzl hne).trans hz; have z0 : w1.cell? ⟨w.heap.size, 0, none⟩ = some (.int .i64 0) := (by rw [Lib.cell_of_heap hz1]; rfl); have z1 : w1.cell? ⟨w.heap.size, 1, none⟩ = some (.int .i64 0) := (by rw [Lib.cell_of_heap hz1]; rfl); have z2 : w1.cell? ⟨w.heap.size, 2, none⟩ = some (.string ⟨#[]⟩) := (by rw [Lib.cell_of_heap hz1]; rfl); have z3 : w1.cell? ⟨w.heap.size, 3, none⟩ = some (.slice none 0 0) := (by rw [Lib.cell_of_heap hz1]; rfl); have zf : ∀ i, w1.frozen? ⟨w.heap.size, i, none⟩ = false := Lib.frozen_of_heap hz1)
  refine bodyPost_ret (v := .agg #[.int .i64 3, .int .i64 0, .string s, .slice none 0 0]) (by simp [results, Tryz.results41, go_sem, z0, z1, z2, z3]) rfl ⟨⟨⟨3, 0, s, []⟩, none, 0, rfl, drawn_text _ hs.out, fun i hi => by simp at hi, fun _ => rfl, by simp⟩, ?_, at2, ?_⟩
  · exact ((((hk0.trans hk1).other (Nat.le_refl _) 0 _).other (Nat.le_refl _) 1 _).other (Nat.le_refl _) 2 _).other (Nat.le_refl _) 3 _
  · exact h.other (h.other (h.other (h.other hc1 (Nat.le_refl _) 0 _) (Nat.le_refl _) 1 _) (Nat.le_refl _) 2 _) (Nat.le_refl _) 3 _
set_option maxHeartbeats 4000000 in
theorem value_version (l : List UInt8) (a0 : Option Addr) (cap C at_ : Nat) (w : World) (hl : l.length ≤ 1000000) (h : Codes l a0 cap C at_ w) (hG : DrawG C w) :
    Calls Tryz.prog 41 #[.pointer (some ⟨C, 0, none⟩), .int .i64 4] w (fun e w' => (∃ (x : Val) (a : Option Addr) (c : Nat), e = .returned (x.agg a c) ∧ Drawn 4 x ∧ TextsFrom w.heap.size a x.list w' ∧ (a = none → c = 0) ∧ x.list.length ≤ c) ∧ Kept C w w' ∧ ∃ at2, Codes l a0 cap C at2 w') := by
  have hc0 := h.below ((Below.refl _ w).alloc (Nat.le_refl _) (.cells #[.int .i64 0, .int .i64 0, .string ⟨#[]⟩, .slice none 0 0] 41))
  have hk0 : Kept C w (w.alloc (.cells #[.int .i64 0, .int .i64 0, .string ⟨#[]⟩, .slice none 0 0] 41)) := Kept.of_below ((Below.refl _ w).alloc (Nat.le_refl _) _)
  have hz : (w.alloc (.cells #[.int .i64 0, .int .i64 0, .string ⟨#[]⟩, .slice none 0 0] 41)).heap[w.heap.size]? = some (.cells #[.int .i64 0, .int .i64 0, .string ⟨#[]⟩, .slice none 0 0] 41 (0, 0)) := heap_alloc_new w _
  have hne : w.heap.size ≠ C := by have := h.lt; omega
  go_enter Tryz.func41, Tryz.ntmps41
  go_upto_region 1 with (fail)
  generalize w.alloc (.cells #[.int .i64 0, .int .i64 0, .string ⟨#[]⟩, .slice none 0 0] 41) = w0 at hc0 hk0 hz ⊢
  have hzl : w.heap.size < w0.heap.size := (Array.getElem?_eq_some_iff.1 hz).1
  have hn := Lib.hid (next_any l a0 cap C at_ 6 w0 hl (by omega) (by omega) hc0)
  have hr := nextN_lt l at_ 6 (by omega)
  generalize nextN l at_ 6 = r at hn hr
  have hr2 : r < drawVersions.length := hr
  have hr' : (r : Int) < 6 := by omega
  obtain ⟨s, hs⟩ : ∃ s, drawVersions[r] = s := ⟨_, rfl⟩
  have hmem : s ∈ drawVersions := by rw [← hs]; exact List.getElem_mem hr2
  have ht := (hG.kept hk0).v r hr2
  rw [hs] at ht
  replace hs := Lib.hid hs
  replace hr2 := Lib.hid hr2
  replace hmem := Lib.hid hmem
  go_wp2_with (go_at_call 15; refine hn.out.mono ?_; rintro e w1 ⟨rfl, hk1, at2, hc1⟩; have ht2 : w1.cell? ⟨1, r, none⟩ = some (.string s) := (by rw [hk1.cell (p := ⟨1, r, none⟩) (block_lt_of_cell ht) hG.nv]; exact ht); have hz1 := (hk1.block w.heap.size hzl hne).trans hz; have z0 : w1.cell? ⟨w.heap.size, 0, none⟩ = some (.int .i64 0) := (by rw [Lib.cell_of_heap hz1]; rfl); have z1 : w1.cell? ⟨w.heap.size, 1, none⟩ = some (.int .i64 0) := (by rw [Lib.cell_of_heap hz1]; rfl); have z2 : w1.cell? ⟨w.heap.size, 2, none⟩ = some (.string ⟨#[]⟩) := (by rw [Lib.cell_of_heap hz1]; rfl); have z3 : w1.cell? ⟨w.heap.size, 3, none⟩ = some (.slice none 0 0) := (by rw [Lib.cell_of_heap hz1]; rfl); have zf : ∀ i, w1.frozen? ⟨w.heap.size, i, none⟩ = false := Lib.frozen_of_heap hz1)
  refine bodyPost_ret (v := .agg #[.int .i64 4, .int .i64 0, .string s, .slice none 0 0]) (by simp [results, Tryz.results41, go_sem, z0, z1, z2, z3]) rfl ⟨⟨⟨4, 0, s, []⟩, none, 0, rfl, drawn_version _ hmem.out, fun i hi => by simp at hi, fun _ => rfl, by simp⟩, ?_, at2, ?_⟩
  · exact ((((hk0.trans hk1).other (Nat.le_refl _) 0 _).other (Nat.le_refl _) 1 _).other (Nat.le_refl _) 2 _).other (Nat.le_refl _) 3 _
  · exact h.other (h.other (h.other (h.other hc1 (Nat.le_refl _) 0 _) (Nat.le_refl _) 1 _) (Nat.le_refl _) 2 _) (Nat.le_refl _) 3 _
def drawNums : List Int := [0, 1, 17, 18, 19, (-5), 64, 1099511627776, (-1099511627776)]
theorem nums_ok : drawNums.all (fun r => decide (-1099511627776 ≤ r) && decide (r ≤ 1099511627776)) = true := by decide
set_option maxHeartbeats 4000000 in
theorem value_num (l : List UInt8) (a0 : Option Addr) (cap C at_ : Nat) (w : World) (hl : l.length ≤ 1000000) (h : Codes l a0 cap C at_ w) :
    Calls Tryz.prog 41 #[.pointer (some ⟨C, 0, none⟩), .int .i64 2] w (fun e w' => (∃ (x : Val) (a : Option Addr) (c : Nat), e = .returned (x.agg a c) ∧ Drawn 2 x ∧ TextsFrom w.heap.size a x.list w' ∧ (a = none → c = 0) ∧ x.list.length ≤ c) ∧ Kept C w w' ∧ ∃ at2, Codes l a0 cap C at2 w') := by
  have hc0 := h.below ((Below.refl _ w).alloc (Nat.le_refl _) (.cells #[.int .i64 0, .int .i64 0, .string ⟨#[]⟩, .slice none 0 0] 41))
  have hk0 : Kept C w (w.alloc (.cells #[.int .i64 0, .int .i64 0, .string ⟨#[]⟩, .slice none 0 0] 41)) := Kept.of_below ((Below.refl _ w).alloc (Nat.le_refl _) _)
  have hz : (w.alloc (.cells #[.int .i64 0, .int .i64 0, .string ⟨#[]⟩, .slice none 0 0] 41)).heap[w.heap.size]? = some (.cells #[.int .i64 0, .int .i64 0, .string ⟨#[]⟩, .slice none 0 0] 41 (0, 0)) := heap_alloc_new w _
  have hne : w.heap.size ≠ C := by have := h.lt; omega
  go_enter Tryz.func41, Tryz.ntmps41
  go_upto_region 1 with (fail)
  generalize w.alloc (.cells #[.int .i64 0, .int .i64 0, .string ⟨#[]⟩, .slice none 0 0] 41) = w0 at hc0 hk0 hz ⊢
  have hzl : w.heap.size < w0.heap.size := (Array.getElem?_eq_some_iff.1 hz).1
  go_upto_region 6 with (fail)
  have hb9 := (Below.refl w0.heap.size w0).alloc (Nat.le_refl _) (.cells #[.int .i64 0, .int .i64 1, .int .i64 17, .int .i64 18, .int .i64 19, .int .i64 (-5), .int .i64 64, .int .i64 1099511627776, .int .i64 (-1099511627776)] 3)
  have hrow : ∀ i (hi : i < drawNums.length), (w0.alloc (.cells #[.int .i64 0, .int .i64 1, .int .i64 17, .int .i64 18, .int .i64 19, .int .i64 (-5), .int .i64 64, .int .i64 1099511627776, .int .i64 (-1099511627776)] 3)).cell? ⟨w0.heap.size, i, none⟩ = some (.int .i64 drawNums[i]) := by
    intro i hi
    rw [Lib.cell_of_heap (heap_alloc_new w0 _)]
    have hi9 : i < 9 := hi
    match i, hi9 with
    | 0, _ => rfl
    | 1, _ => rfl
    | 2, _ => rfl
    | 3, _ => rfl
    | 4, _ => rfl
    | 5, _ => rfl
    | 6, _ => rfl
    | 7, _ => rfl
    | 8, _ => rfl
    | i + 9, h => omega
  have hz := (hb9.block _ hzl).trans hz
  have hzl : w.heap.size < (w0.alloc (.cells #[.int .i64 0, .int .i64 1, .int .i64 17, .int .i64 18, .int .i64 19, .int .i64 (-5), .int .i64 64, .int .i64 1099511627776, .int .i64 (-1099511627776)] 3)).heap.size := by simp; omega
  have hc0 := hc0.below hb9
  have hk0 := hk0.trans (Kept.of_below (C := C) hb9)
  have hgC : w0.heap.size ≠ C := by have h1 := h.lt; have h2 := hk0.size; simp at hzl; omega
  have hg9 : w0.heap.size < (w0.alloc (.cells #[.int .i64 0, .int .i64 1, .int .i64 17, .int .i64 18, .int .i64 19, .int .i64 (-5), .int .i64 64, .int .i64 1099511627776, .int .i64 (-1099511627776)] 3)).heap.size := by simp
  generalize w0.alloc (.cells #[.int .i64 0, .int .i64 1, .int .i64 17, .int .i64 18, .int .i64 19, .int .i64 (-5), .int .i64 64, .int .i64 1099511627776, .int .i64 (-1099511627776)] 3) = w5 at hz hzl hc0 hk0 hrow hg9 ⊢
  generalize w0.heap.size = g at hrow hg9 hgC ⊢
  have hn := Lib.hid (next_any l a0 cap C at_ 9 w5 hl (by omega) (by omega) hc0)
  have hr := nextN_lt l at_ 9 (by omega)
  generalize nextN l at_ 9 = r at hn hr
  have hr2 : r < drawNums.length := hr
  have hr' : (r : Int) < 9 := by omega
  obtain ⟨z, hs⟩ : ∃ z, drawNums[r] = z := ⟨_, rfl⟩
  have hin := List.all_eq_true.1 nums_ok z (by rw [← hs]; exact List.getElem_mem hr2)
  simp only [Bool.and_eq_true, decide_eq_true_eq] at hin
  have ht := hrow r hr2
  rw [hs] at ht
  replace hs := Lib.hid hs
  replace hr2 := Lib.hid hr2
  replace hin := Lib.hid hin
  clear hrow hb9
  go_wp2_with (go_at_call 15; refine hn.out.mono ?_; rintro e w1 ⟨rfl, hk1, at2, hc1⟩; have ht2 : w1.cell? ⟨g, r, none⟩ = some (.int .i64 z) := (by rw [hk1.cell (p := ⟨g, r, none⟩) hg9 hgC]; exact ht); have hz1 := (hk1.block w.heap.size hzl hne).trans hz; have z0 : w1.cell? ⟨w.heap.size, 0, none⟩ = some (.int .i64 0) := (by rw [Lib.cell_of_heap hz1]; rfl); have z1 : w1.cell? ⟨w.heap.size, 1, none⟩ = some (.int .i64 0) := (by rw [Lib.cell_of_heap hz1]; rfl); have z2 : w1.cell? ⟨w.heap.size, 2, none⟩ = some (.string ⟨#[]⟩) := (by rw [Lib.cell_of_heap hz1]; rfl); have z3 : w1.cell? ⟨w.heap.size, 3, none⟩ = some (.slice none 0 0) := (by rw [Lib.cell_of_heap hz1]; rfl); have zf : ∀ i, w1.frozen? ⟨w.heap.size, i, none⟩ = false := Lib.frozen_of_heap hz1)
  refine bodyPost_ret (v := .agg #[.int .i64 2, .int .i64 z, .string ⟨#[]⟩, .slice none 0 0]) (by simp [results, Tryz.results41, go_sem, z0, z1, z2, z3]) rfl ⟨⟨⟨2, z, ⟨#[]⟩, []⟩, none, 0, rfl, drawn_num _ hin.out.1 hin.out.2, fun i hi => by simp at hi, fun _ => rfl, by simp⟩, ?_, at2, ?_⟩
  · exact ((((hk0.trans hk1).other (Nat.le_refl _) 0 _).other (Nat.le_refl _) 1 _).other (Nat.le_refl _) 2 _).other (Nat.le_refl _) 3 _
  · exact h.other (h.other (h.other (h.other hc1 (Nat.le_refl _) 0 _) (Nat.le_refl _) 1 _) (Nat.le_refl _) 2 _) (Nat.le_refl _) 3 _
end Go.Proofs.YtcbnefeedoabeaaGreatDoor
/- The draw's lists; a value of any kind. -/
namespace Go.Proofs.YtcbnefeedoabeaaGreatDoor
open Go Go.RowKit

set_option maxHeartbeats 4000000 in
theorem value_list (l : List UInt8) (a0 : Option Addr) (cap C at_ : Nat) (w : World) (hl : l.length ≤ 1000000) (h : Codes l a0 cap C at_ w) (hG : DrawG C w) :
    Calls Tryz.prog 41 #[.pointer (some ⟨C, 0, none⟩), .int .i64 5] w (fun e w' => (∃ (x : Val) (a : Option Addr) (c : Nat), e = .returned (x.agg a c) ∧ Drawn 5 x ∧ TextsFrom w.heap.size a x.list w' ∧ (a = none → c = 0) ∧ x.list.length ≤ c) ∧ Kept C w w' ∧ ∃ at2, Codes l a0 cap C at2 w') := by
  have hc0 := h.below ((Below.refl _ w).alloc (Nat.le_refl _) (.cells #[.int .i64 0, .int .i64 0, .string ⟨#[]⟩, .slice none 0 0] 41))
  have hk0 : Kept C w (w.alloc (.cells #[.int .i64 0, .int .i64 0, .string ⟨#[]⟩, .slice none 0 0] 41)) := Kept.of_below ((Below.refl _ w).alloc (Nat.le_refl _) _)
  have hz : (w.alloc (.cells #[.int .i64 0, .int .i64 0, .string ⟨#[]⟩, .slice none 0 0] 41)).heap[w.heap.size]? = some (.cells #[.int .i64 0, .int .i64 0, .string ⟨#[]⟩, .slice none 0 0] 41 (0, 0)) := heap_alloc_new w _
  have hne : w.heap.size ≠ C := by have := h.lt; omega
  go_enter Tryz.func41, Tryz.ntmps41
  go_upto_region 1 with (fail)
  generalize w.alloc (.cells #[.int .i64 0, .int .i64 0, .string ⟨#[]⟩, .slice none 0 0] 41) = w0 at hc0 hk0 hz ⊢
  have hzl : w.heap.size < w0.heap.size := (Array.getElem?_eq_some_iff.1 hz).1
  have hn := Lib.hid (next_any l a0 cap C at_ 5 w0 hl (by omega) (by omega) hc0)
  have hr := nextN_lt l at_ 5 (by omega)
  generalize nextN l at_ 5 = r at hn hr
  have hr2 : r < drawLists.length := hr
  have hr' : (r : Int) < 5 := by omega
  obtain ⟨L, hs⟩ : ∃ L, drawLists[r] = L := ⟨_, rfl⟩
  have hmem : L ∈ drawLists := by rw [← hs]; exact List.getElem_mem hr2
  obtain ⟨aL, cL, ht, hnL, hcL, htx⟩ := (hG.kept hk0).ls r hr2
  rw [hs] at ht hcL htx
  have hL20 := (drawn_list L hmem).len
  simp only at hL20
  replace hs := Lib.hid hs
  replace hr2 := Lib.hid hr2
  replace hmem := Lib.hid hmem
  go_wp2_with (first
    | (go_at_call 15; refine hn.out.mono ?_; rintro e w1 ⟨rfl, hk1, at2, hc1⟩; have ht2 : w1.cell? ⟨2, r, none⟩ = some (.slice aL (L.length : Nat) cL) := (by rw [hk1.cell (p := ⟨2, r, none⟩) (block_lt_of_cell ht) hG.nl]; exact ht); have htx2 : TextsAre aL L w1 := (fun j hj => (by obtain ⟨b, off, e1, e2, e3, e4⟩ := htx j hj; exact ⟨b, off, e1, Nat.lt_of_lt_of_le e3 hk1.size, by rw [hk1.cell (p := ⟨b, off + j, none⟩) e3 e2]; exact e4⟩)))
    | (at_builtin; refine wpList_ownT rfl _ _ rfl L aL cL (ownT_nil w1.heap.size w1) rfl rfl hnL htx2 (by simp; omega) (Nat.le_refl _) ?_; intro v5 w5 hown5 hb5; rw [List.nil_append] at hown5; obtain ⟨a5, c5, rfl, hn5, hc5, ht5⟩ := hown5.texts; have hk5 : Kept C w0 w5 := hk1.trans (Kept.of_below hb5); have hz1 := (hk5.block w.heap.size hzl hne).trans hz; have z0 : w5.cell? ⟨w.heap.size, 0, none⟩ = some (.int .i64 0) := (by rw [Lib.cell_of_heap hz1]; rfl); have z1 : w5.cell? ⟨w.heap.size, 1, none⟩ = some (.int .i64 0) := (by rw [Lib.cell_of_heap hz1]; rfl); have z2 : w5.cell? ⟨w.heap.size, 2, none⟩ = some (.string ⟨#[]⟩) := (by rw [Lib.cell_of_heap hz1]; rfl); have z3 : w5.cell? ⟨w.heap.size, 3, none⟩ = some (.slice none 0 0) := (by rw [Lib.cell_of_heap hz1]; rfl); have zf : ∀ i, w5.frozen? ⟨w.heap.size, i, none⟩ = false := Lib.frozen_of_heap hz1))
  have hc5' := hc1.below hb5
  have hzl1 := Nat.lt_of_lt_of_le hzl hk1.size
  refine bodyPost_ret (v := .agg #[.int .i64 5, .int .i64 0, .string ⟨#[]⟩, .slice a5 L.length c5]) (by simp [results, Tryz.results41, go_sem, z0, z1, z2, z3]) rfl ⟨⟨⟨5, 0, ⟨#[]⟩, L⟩, a5, c5, rfl, drawn_list _ hmem.out, fun i hi => ?_, hn5, hc5⟩, ?_, at2, ?_⟩
  · have ht6 : TextsFrom w1.heap.size a5 L w5 := ht5
    exact ((((ht6.set hzl1 0 _).set hzl1 1 _).set hzl1 2 _).set hzl1 3 _).mono (Nat.le_of_lt hzl1) i hi
  · exact ((((hk0.trans hk5).other (Nat.le_refl _) 0 _).other (Nat.le_refl _) 1 _).other (Nat.le_refl _) 2 _).other (Nat.le_refl _) 3 _
  · exact h.other (h.other (h.other (h.other hc5' (Nat.le_refl _) 0 _) (Nat.le_refl _) 1 _) (Nat.le_refl _) 2 _) (Nat.le_refl _) 3 _
/-- A value of the kind that is asked. -/
theorem value_any (k : Int) (hk : 1 ≤ k ∧ k ≤ 5) (l : List UInt8) (a0 : Option Addr) (cap C at_ : Nat) (w : World) (hl : l.length ≤ 1000000) (h : Codes l a0 cap C at_ w) (hG : DrawG C w) :
    Calls Tryz.prog 41 #[.pointer (some ⟨C, 0, none⟩), .int .i64 k] w (fun e w' => (∃ (x : Val) (a : Option Addr) (c : Nat), e = .returned (x.agg a c) ∧ Drawn k x ∧ TextsFrom w.heap.size a x.list w' ∧ (a = none → c = 0) ∧ x.list.length ≤ c) ∧ Kept C w w' ∧ ∃ at2, Codes l a0 cap C at2 w') := by
  have hc : k = 1 ∨ k = 2 ∨ k = 3 ∨ k = 4 ∨ k = 5 := by omega
  rcases hc with rfl | rfl | rfl | rfl | rfl
  · exact value_bool l a0 cap C at_ w hl h
  · exact value_num l a0 cap C at_ w hl h
  · exact value_text l a0 cap C at_ w hl h hG
  · exact value_version l a0 cap C at_ w hl h hG
  · exact value_list l a0 cap C at_ w hl h hG
set_option maxHeartbeats 4000000 in
/-- A value of any kind. -/
theorem any_any (l : List UInt8) (a0 : Option Addr) (cap C at_ : Nat) (w : World) (hl : l.length ≤ 1000000) (h : Codes l a0 cap C at_ w) (hG : DrawG C w) :
    Calls Tryz.prog 16 #[.pointer (some ⟨C, 0, none⟩)] w (fun e w' => (∃ (x : Val) (a : Option Addr) (c : Nat), e = .returned (x.agg a c) ∧ (∃ k, (1 ≤ k ∧ k ≤ 5) ∧ Drawn k x) ∧ TextsFrom w.heap.size a x.list w' ∧ (a = none → c = 0) ∧ x.list.length ≤ c) ∧ Kept C w w' ∧ ∃ at2, Codes l a0 cap C at2 w') := by
  have hc0 := h.below ((Below.refl _ w).alloc (Nat.le_refl _) (.cells #[.int .i64 0, .int .i64 0, .string ⟨#[]⟩, .slice none 0 0] 41))
  have hk0 : Kept C w (w.alloc (.cells #[.int .i64 0, .int .i64 0, .string ⟨#[]⟩, .slice none 0 0] 41)) := Kept.of_below ((Below.refl _ w).alloc (Nat.le_refl _) _)
  have hz : (w.alloc (.cells #[.int .i64 0, .int .i64 0, .string ⟨#[]⟩, .slice none 0 0] 41)).heap[w.heap.size]? = some (.cells #[.int .i64 0, .int .i64 0, .string ⟨#[]⟩, .slice none 0 0] 41 (0, 0)) := heap_alloc_new w _
  have hne : w.heap.size ≠ C := by have := h.lt; omega
  go_enter Tryz.func16, Tryz.ntmps16
  go_upto_region 1 with (fail)
  generalize w.alloc (.cells #[.int .i64 0, .int .i64 0, .string ⟨#[]⟩, .slice none 0 0] 41) = w0 at hc0 hk0 hz ⊢
  have hzl : w.heap.size < w0.heap.size := (Array.getElem?_eq_some_iff.1 hz).1
  have hn := Lib.hid (next_any l a0 cap C at_ 5 w0 hl (by omega) (by omega) hc0)
  have hr := nextN_lt l at_ 5 (by omega)
  generalize nextN l at_ 5 = r at hn hr
  have hr' : (r : Int) < 5 := by omega
  have hG0 := hG.kept hk0
  go_wp2_with (first
    | (go_at_call 15; refine hn.out.mono ?_; rintro e w1 ⟨rfl, hk1, at1, hc1⟩; have hv := Lib.hid (value_any (1 + (r : Int)) (by omega) l a0 cap C at1 w1 hl hc1 (hG0.kept hk1)))
    | (go_at_call 41; refine hv.out.mono ?_; rintro e w5 ⟨⟨⟨k, n, t, L⟩, a5, c5, rfl, hd, ht5, hn5, hc5⟩, hk2, at2, hcd2⟩; have hk5 := hk1.trans hk2; have hz1 := (hk5.block w.heap.size hzl hne).trans hz; have z0 : w5.cell? ⟨w.heap.size, 0, none⟩ = some (.int .i64 0) := (by rw [Lib.cell_of_heap hz1]; rfl); have z1 : w5.cell? ⟨w.heap.size, 1, none⟩ = some (.int .i64 0) := (by rw [Lib.cell_of_heap hz1]; rfl); have z2 : w5.cell? ⟨w.heap.size, 2, none⟩ = some (.string ⟨#[]⟩) := (by rw [Lib.cell_of_heap hz1]; rfl); have z3 : w5.cell? ⟨w.heap.size, 3, none⟩ = some (.slice none 0 0) := (by rw [Lib.cell_of_heap hz1]; rfl); have zf : ∀ i, w5.frozen? ⟨w.heap.size, i, none⟩ = false := Lib.frozen_of_heap hz1; unfold Val.agg))
  have hzl1 := Nat.lt_of_lt_of_le hzl hk1.size
  refine bodyPost_ret (v := .agg #[.int .i64 k, .int .i64 n, .string t, .slice a5 L.length c5]) (by simp [results, Tryz.results16, go_sem, z0, z1, z2, z3]) rfl ⟨⟨⟨k, n, t, L⟩, a5, c5, rfl, ⟨_, by omega, hd⟩, ?_, hn5, hc5⟩, ?_, at2, ?_⟩
  · exact ((((ht5.set hzl1 0 _).set hzl1 1 _).set hzl1 2 _).set hzl1 3 _).mono (Nat.le_of_lt hzl1)
  · exact ((((hk0.trans hk5).other (Nat.le_refl _) 0 _).other (Nat.le_refl _) 1 _).other (Nat.le_refl _) 2 _).other (Nat.le_refl _) 3 _
  · exact h.other (h.other (h.other (h.other hcd2 (Nat.le_refl _) 0 _) (Nat.le_refl _) 1 _) (Nat.le_refl _) 2 _) (Nat.le_refl _) 3 _
end Go.Proofs.YtcbnefeedoabeaaGreatDoor
/- The draw's numbers that are often out of range. -/
namespace Go.Proofs.YtcbnefeedoabeaaGreatDoor
open Go Go.RowKit

def drawNumbers : List Int := [0, (-1), 1, 2, 8, 9, 10000, 10001, 1099511627776, 1099511627777, (-1099511627777), 1099511627777, 4, 5, 6]
set_option maxHeartbeats 4000000 in
theorem drawNum_any (l : List UInt8) (a0 : Option Addr) (cap C at_ : Nat) (w : World) (hl : l.length ≤ 1000000) (h : Codes l a0 cap C at_ w) :
    Calls Tryz.prog 33 #[.pointer (some ⟨C, 0, none⟩)] w (fun e w' => (∃ z : Int, e = .returned (.int .i64 z)) ∧ Kept C w w' ∧ ∃ at2, Codes l a0 cap C at2 w') := by
  have hb9 := (Below.refl w.heap.size w).alloc (Nat.le_refl _) (.cells #[.int .i64 0, .int .i64 (-1), .int .i64 1, .int .i64 2, .int .i64 8, .int .i64 9, .int .i64 10000, .int .i64 10001, .int .i64 1099511627776, .int .i64 1099511627777, .int .i64 (-1099511627777), .int .i64 1099511627777, .int .i64 4, .int .i64 5, .int .i64 6] 3)
  have hrow : ∀ i (hi : i < drawNumbers.length), (w.alloc (.cells #[.int .i64 0, .int .i64 (-1), .int .i64 1, .int .i64 2, .int .i64 8, .int .i64 9, .int .i64 10000, .int .i64 10001, .int .i64 1099511627776, .int .i64 1099511627777, .int .i64 (-1099511627777), .int .i64 1099511627777, .int .i64 4, .int .i64 5, .int .i64 6] 3)).cell? ⟨w.heap.size, i, none⟩ = some (.int .i64 drawNumbers[i]) := by
    intro i hi
    rw [Lib.cell_of_heap (heap_alloc_new w _)]
    have hi9 : i < 15 := hi
    match i, hi9 with
    | 0, _ => rfl
    | 1, _ => rfl
    | 2, _ => rfl
    | 3, _ => rfl
    | 4, _ => rfl
    | 5, _ => rfl
    | 6, _ => rfl
    | 7, _ => rfl
    | 8, _ => rfl
    | 9, _ => rfl
    | 10, _ => rfl
    | 11, _ => rfl
    | 12, _ => rfl
    | 13, _ => rfl
    | 14, _ => rfl
    | i + 15, h => omega
  have hc0 := h.below hb9
  have hk0 := Kept.of_below (C := C) hb9
  have hgC : w.heap.size ≠ C := by have h1 := h.lt; omega
  have hg9 : w.heap.size < (w.alloc (.cells #[.int .i64 0, .int .i64 (-1), .int .i64 1, .int .i64 2, .int .i64 8, .int .i64 9, .int .i64 10000, .int .i64 10001, .int .i64 1099511627776, .int .i64 1099511627777, .int .i64 (-1099511627777), .int .i64 1099511627777, .int .i64 4, .int .i64 5, .int .i64 6] 3)).heap.size := by simp
  go_enter Tryz.func33, Tryz.ntmps33
  go_upto_region 2 with (fail)
  generalize w.alloc (.cells #[.int .i64 0, .int .i64 (-1), .int .i64 1, .int .i64 2, .int .i64 8, .int .i64 9, .int .i64 10000, .int .i64 10001, .int .i64 1099511627776, .int .i64 1099511627777, .int .i64 (-1099511627777), .int .i64 1099511627777, .int .i64 4, .int .i64 5, .int .i64 6] 3) = w5 at hc0 hk0 hrow hg9 ⊢
  generalize w.heap.size = g at hrow hg9 hgC ⊢
  have hn := Lib.hid (next_any l a0 cap C at_ 15 w5 hl (by omega) (by omega) hc0)
  have hr := nextN_lt l at_ 15 (by omega)
  generalize nextN l at_ 15 = r at hn hr
  have hr2 : r < drawNumbers.length := hr
  have hr' : (r : Int) < 15 := by omega
  obtain ⟨z, hs⟩ : ∃ z, drawNumbers[r] = z := ⟨_, rfl⟩
  have ht := hrow r hr2
  rw [hs] at ht
  replace hs := Lib.hid hs
  replace hr2 := Lib.hid hr2
  clear hrow hb9
  go_wp2_with (go_at_call 15; refine hn.out.mono ?_; rintro e w1 ⟨rfl, hk1, at2, hc1⟩; have ht2 : w1.cell? ⟨g, r, none⟩ = some (.int .i64 z) := (by rw [hk1.cell (p := ⟨g, r, none⟩) hg9 hgC]; exact ht))
  go_ret
  exact ⟨⟨z, rfl⟩, hk0.trans hk1, at2, hc1⟩
end Go.Proofs.YtcbnefeedoabeaaGreatDoor
