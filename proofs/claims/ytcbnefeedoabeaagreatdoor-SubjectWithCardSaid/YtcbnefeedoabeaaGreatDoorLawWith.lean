/- SubjectWith: the subject with another value of an attribute, or the error: it is found there, and nothing else changes. -/
import Derived.Test.YtcbnefeedoabeaaGreatDoorKc
import Derived.Test.YtcbnefeedoabeaaGreatDoorPu
import Derived.Test.YtcbnefeedoabeaaGreatDoorPo
import Derived.Test.YtcbnefeedoabeaaGreatDoorKa
namespace Go.Proofs.YtcbnefeedoabeaaGreatDoor
open Go Go.RowKit

/-- A value that comes in. -/
structure ValFit (v : Val) : Prop where
  text : v.text.size ≤ 9223372036854775000
  list : v.list.length ≤ 1000
  each : ∀ s ∈ v.list, s.size ≤ 9223372036854775000
theorem new90 {a : Option Addr} {l : List UInt8} {c : Nat} {w : World} (h : BytesIn a l c w) : Calls Tryz.prog 9 #[.slice a (l.length : Nat) c, .int .i64 90] w fun e w' => e = .returned (.pointer (some ⟨w.heap.size, 0, none⟩)) ∧ Codes (l.take 90) a c w.heap.size 0 w' ∧ Below w.heap.size w w' :=
  new_any l a c 90 w (by have := h.le; have := h.bound; omega) h.le (by omega) h.at_
/-- What is kept of the subject, behind the choices. -/
structure SubjK (T C B : Nat) (l : List UInt8) (a0 : Option Addr) (cap : Nat) (p : Option Addr) (c : Nat) (L : List Ctx) (w0 w : World) : Prop where
  box : w.heap[T]? = some (.cells #[.slice p (L.length : Nat) c] 25 (0, 0))
  row : CtxsP (fun b => B ≤ b ∧ b ≠ T) p c L w
  fit : ∀ x ∈ L, FitC x
  len : L.length ≤ 8
  few : ∀ x ∈ L, x.attrs.length ≤ 25
  kept : Kept C w0 w
  codes : ∃ at2, Codes l a0 cap C at2 w
theorem SubjK.step {T C B : Nat} {l : List UInt8} {a0 : Option Addr} {cap : Nat} {p : Option Addr} {c : Nat} {L : List Ctx} {w0 w w' : World} (h : SubjK T C B l a0 cap p c L w0 w) (hT : T ≠ C) (hC : C < B) (k : Kept C w w') (hc : ∃ at2, Codes l a0 cap C at2 w') : SubjK T C B l a0 cap p c L w0 w' :=
  ⟨(k.block T (Array.getElem?_eq_some_iff.1 h.box).1 hT).trans h.box, h.row.same ⟨k.size, fun b hb hl => k.block b hl (by omega)⟩, h.fit, h.len, h.few, h.kept.trans k, hc⟩
set_option linter.unusedSimpArgs false in
set_option linter.unusedVariables false in
set_option maxHeartbeats 16000000 in
set_option maxRecDepth 100000 in
theorem with_walk (a1 : Option Addr) (l1 : List UInt8) (c1 : Nat) (kind name : ByteArray) (v : Val) (a : Option Addr) (d : Nat) (w : World) (E : Env w) (G : DrawL w) (h1 : BytesIn a1 l1 c1 w) (hkd : kind.size ≤ 9223372036854775000) (hnm : name.size ≤ 9223372036854775000) (hV : ListP (fun _ => True) a d v.list w) (hvt : v.text.size ≤ 9223372036854775000) (hve : ∀ s ∈ v.list, s.size ≤ 9223372036854775000) :
    Calls Tryz.prog 4 #[.slice a1 (l1.length : Nat) c1, .string kind, .string name, v.agg a d] w fun e w' => e = .returned (.bool true) ∧ Below w.heap.size w w' := by
  have hVk : ListP (fun b => b < w.heap.size) a d v.list w := hV.mono fun b hb _ => hb
  have hb0 := (Below.refl w.heap.size w).alloc (Nat.le_refl _) (.cells #[.int .i64 v.kind, .int .i64 v.num, .string v.text, .slice a (v.list.length : Nat) d] 41)
  have hz0 := heap_alloc_new w (.cells #[.int .i64 v.kind, .int .i64 v.num, .string v.text, .slice a (v.list.length : Nat) d] 41)
  have hg0 : w.heap.size < (w.alloc (.cells #[.int .i64 v.kind, .int .i64 v.num, .string v.text, .slice a (v.list.length : Nat) d] 41)).heap.size := by simp
  unfold Val.agg
  go_enter Tryz.func4, Tryz.ntmps4
  go_upto_region 1 with (fail)
  generalize w.alloc (.cells #[.int .i64 v.kind, .int .i64 v.num, .string v.text, .slice a (v.list.length : Nat) d] 41) = w0 at hb0 hz0 hg0 ⊢
  go_upto_region 3 with (go_at_call 7; refine (awake_any _ (E.below hb0)).mono ?_; rintro e w1 ⟨rfl, hb1⟩)
  have B1 : Below w.heap.size w w1 := hb0.trans (hb1.mono hb0.size)
  have z1 := (hb1.block _ hg0).trans hz0
  have hg1 := Nat.lt_of_lt_of_le hg0 hb1.size
  clear hb0 hz0 hg0 hb1
  have r3 : w1.cell? ⟨w.heap.size, 3, none⟩ = some (.slice a v.list.length d) := by rw [Lib.cell_of_heap z1]; rfl
  by_cases h40 : 40 < v.list.length
  · have h40I : (40 : Int) < (v.list.length : Int) := by omega
    go_wp2
    go_ret
    exact ⟨rfl, B1⟩
  · have h40I : ¬ ((40 : Int) < (v.list.length : Int)) := by omega
    go_upto_region 5 with (fail)
    have hn1 := Lib.hid (new90 (h1.below B1))
    have hl1 : (l1.take 90).length ≤ 1000000 := by rw [List.length_take]; omega
    go_upto_region 6 with (go_at_call 9; with_reducible refine hn1.out.mono ?_; rintro e w3 ⟨rfl, hcd3, hb3⟩)
    have hG3 := (G.below B1).fresh hb3
    have hsub1 := Lib.hid (subject_any _ a1 c1 w1.heap.size 0 w3 hl1 hcd3 hG3)
    have hC3 := hcd3.lt
    go_upto_region 7 with (go_at_call 10; with_reducible refine hsub1.out.mono ?_; rintro e w5 ⟨⟨es1, v1, rfl, hd1, hr5⟩, hk5, at5, hc5⟩; obtain ⟨pA, cA, rfl, -, -, -, -⟩ := hr5.form)
    have hbT := (Below.refl w5.heap.size w5).alloc (Nat.le_refl _) (.cells #[.slice pA (es1.length : Nat) cA] 25)
    have zT := heap_alloc_new w5 (.cells #[.slice pA (es1.length : Nat) cA] 25)
    generalize w5.alloc (.cells #[.slice pA (es1.length : Nat) cA] 25) = w6 at hbT zT ⊢
    have hTs : w5.heap.size < w6.heap.size := (Array.getElem?_eq_some_iff.1 zT).1
    have hcx6 : CtxsP (fun b => w3.heap.size ≤ b ∧ b < w5.heap.size) pA cA (es1.map CEl.x) w6 := by
      obtain ⟨a0', cap', hv, hcx⟩ := hr5.ctxs
      injection hv with e1 e2 e3
      subst e1
      subst e3
      exact (hcx.mono fun b hb h => ⟨h.elim id (fun e => (hr5.lt b e).1), hb⟩).same (SameB.of_below hbT)
    have hk6 : Kept w1.heap.size w3 w6 := hk5.trans (Kept.of_below hbT)
    have hc6 := hc5.below hbT
    have hCT : w1.heap.size < w5.heap.size := Nat.lt_of_lt_of_le hC3 hk5.size
    have hw35 := hk5.size
    have hfA : ∀ x ∈ es1.map CEl.x, FitC x ∧ x.attrs.length ≤ 20 := fun x hx => ⟨hd1.fit x hx, by
      obtain ⟨kd, hk, hd⟩ := hd1.each x hx
      have := hd.len hk
      omega⟩
    have hlA := hd1.len
    have hlen1 : (es1.map CEl.x).length = es1.length := List.length_map ..
    rw [hlen1] at hlA
    have hB6 : Below w.heap.size w w6 := B1.trans ((hb3.trans (hk6.below (Nat.le_refl _) (by omega))).mono B1.size)
    clear hr5 hk5 hc5 hsub1 hn1 hbT hd1 r3
    obtain ⟨LA, hLA⟩ : ∃ LA, es1.map CEl.x = LA := ⟨_, rfl⟩
    rw [hLA] at hcx6 hfA
    rw [← hlen1, hLA] at zT hlA ⊢
    clear hlen1 hLA
    obtain ⟨C, hCe⟩ : ∃ C, w1.heap.size = C := ⟨_, rfl⟩
    rw [hCe] at hcd3 hG3 hC3 hk6 hc6 hCT hg1 ⊢
    obtain ⟨T, hTe⟩ : ∃ T, w5.heap.size = T := ⟨_, rfl⟩
    rw [hTe] at hCT hw35 hTs hcx6 zT ⊢
    have hn5 := next_any (l1.take 90) a1 c1 C at5 5 w6 hl1 (by omega) (by omega) hc6
    have hr5 := nextN_lt (l1.take 90) at5 5 (by omega)
    generalize nextN (l1.take 90) at5 5 = r5 at hn5 hr5
    replace hn5 := Lib.hid hn5
    go_upto_if 40 with (go_at_call 15; refine hn5.out.mono ?_; rintro e w7 ⟨rfl, hk7, at7, hc7⟩)
    have z7 := (hk7.block T hTs (by omega)).trans zT
    have hcx7 := hcx6.same (⟨hk7.size, fun b hb hl => hk7.block b hl (by omega)⟩ : SameB (fun b => w3.heap.size ≤ b ∧ b < T) w6 w7)
    have hT7 := Nat.lt_of_lt_of_le hTs hk7.size
    have hk37 := hk6.trans hk7
    clear hn5 hcx6 zT
    go_cut [] (fun wx => ∃ p c LX, SubjK T C w3.heap.size (l1.take 90) a1 c1 p c LX w3 wx)
    case first =>
      by_cases hr1 : r5 = 1
      · subst hr1
        have t0 : w7.cell? ⟨T, 0, none⟩ = some (.slice pA LA.length cA) := by rw [Lib.cell_of_heap z7]; rfl
        have hsp := Lib.hid (spoil_any (P := fun b => w3.heap.size ≤ b ∧ b < T) pA cA LA (l1.take 90) a1 c1 C at7 w7 hl1 hc7 (hG3.kept hk37) (fun b hb => ⟨by omega, by omega⟩) hcx7 hlA hfA)
        unfold Spoilt at hsp
        go_wp2_with (go_at_call 11; refine hsp.out.mono ?_; rintro e w8 ⟨⟨es8, v8, rfl, hr8, hn8, hs8⟩, hk8, at8, hc8⟩; obtain ⟨p8, c8, rfl, -, -, -, -⟩ := hr8.form; have z8 := (hk8.block T hT7 (by omega)).trans z7; have y0 : w8.cell? ⟨T, 0, none⟩ = some (.slice pA LA.length cA) := (by rw [Lib.cell_of_heap z8]; rfl); have yf : ∀ i, w8.frozen? ⟨T, i, none⟩ = false := Lib.frozen_of_heap z8)
        obtain ⟨L8, hL8⟩ : ∃ L8, es8.map CEl.x = L8 := ⟨_, rfl⟩
        obtain ⟨p9, c9, hv9, hcx9⟩ := hr8.ctxsB hL8
        injection hv9 with e1 e2 e3
        subst e1
        subst e3
        have hl8 : L8.length = es8.length := by rw [← hL8, List.length_map]
        have hcx10 : CtxsP (fun b => w3.heap.size ≤ b ∧ b ≠ T) p8 c8 L8 w8 := hcx9.mono fun b _ hb => by omega
        have hk38 := hk37.trans hk8
        have z9 : (w8.setCell ⟨T, 0, none⟩ (.slice p8 (es8.length : Nat) c8)).heap[T]? = some (.cells #[.slice p8 (es8.length : Nat) c8] 25 (0, 0)) := box_put z8 _
        rw [← hl8] at z9 ⊢
        have hcx11 := hcx10.same ((SameB.refl (fun b => w3.heap.size ≤ b ∧ b ≠ T) w8).set (B := T) (fun h => h.2 rfl) 0 (.slice p8 (L8.length : Nat) c8))
        have hk39 := hk38.other' (X := T) (by omega) 0 (.slice p8 (L8.length : Nat) c8)
        have hc9 := hcd3.other hc8 (B := T) (by omega) 0 (.slice p8 (L8.length : Nat) c8)
        have hsm : ∀ x ∈ L8, SmallC x := fun x hx => by
          rw [← hL8] at hx
          obtain ⟨e, he, rfl⟩ := List.mem_map.1 hx
          exact hs8 e he
        clear hr8 hsp hcx9 hcx10 hc8
        go_meet
        case rel => exact ⟨p8, c8, L8, z9, hcx11, fun x hx => (hsm x hx).fit, by omega, fun x hx => (hsm x hx).few, hk39, at8, hc9⟩
      · have hrb : ((r5 : Int) == 1) = false := by simp; omega
        go_wp2
        go_meet
        case rel => exact ⟨pA, cA, LA, z7, hcx7.mono fun b _ hb => by omega, fun x hx => (hfA x hx).1, by omega, fun x hx => by have := (hfA x hx).2; omega, hk37, at7, hc7⟩
    case rest =>
      obtain ⟨p, c, LX, hSK⟩ := hcut
      clear hcx7 z7 hT7 hk37 hk7 hc7 hr5 hk6 hc6 hTs hlA hfA hw35
      have hw3c := hSK.kept.size
      have hK0 := (Below.refl wc.heap.size wc).alloc (Nat.le_refl _) (.cells #[.string ⟨#[117, 115, 101, 114]⟩, .string ⟨#[100, 101, 118, 105, 99, 101]⟩, .string kind] 9)
      have hN0 := hK0.alloc hK0.size (.cells #[.string ⟨#[112, 108, 97, 110]⟩, .string ⟨#[97, 103, 101]⟩, .string ⟨#[122, 101, 116, 97]⟩, .string ⟨#[107, 101, 121]⟩, .string name] 9)
      have zK : ((wc.alloc (.cells #[.string ⟨#[117, 115, 101, 114]⟩, .string ⟨#[100, 101, 118, 105, 99, 101]⟩, .string kind] 9)).alloc (.cells #[.string ⟨#[112, 108, 97, 110]⟩, .string ⟨#[97, 103, 101]⟩, .string ⟨#[122, 101, 116, 97]⟩, .string ⟨#[107, 101, 121]⟩, .string name] 9)).heap[wc.heap.size]? = some (.cells #[.string ⟨#[117, 115, 101, 114]⟩, .string ⟨#[100, 101, 118, 105, 99, 101]⟩, .string kind] 9 (0, 0)) := (Lib.alloc_old _ _ _ (by simp)).trans (heap_alloc_new wc _)
      have zN : ((wc.alloc (.cells #[.string ⟨#[117, 115, 101, 114]⟩, .string ⟨#[100, 101, 118, 105, 99, 101]⟩, .string kind] 9)).alloc (.cells #[.string ⟨#[112, 108, 97, 110]⟩, .string ⟨#[97, 103, 101]⟩, .string ⟨#[122, 101, 116, 97]⟩, .string ⟨#[107, 101, 121]⟩, .string name] 9)).heap[wc.heap.size + 1]? = some (.cells #[.string ⟨#[112, 108, 97, 110]⟩, .string ⟨#[97, 103, 101]⟩, .string ⟨#[122, 101, 116, 97]⟩, .string ⟨#[107, 101, 121]⟩, .string name] 9 (0, 0)) := by have := heap_alloc_new (wc.alloc (.cells #[.string ⟨#[117, 115, 101, 114]⟩, .string ⟨#[100, 101, 118, 105, 99, 101]⟩, .string kind] 9)) (.cells #[.string ⟨#[112, 108, 97, 110]⟩, .string ⟨#[97, 103, 101]⟩, .string ⟨#[122, 101, 116, 97]⟩, .string ⟨#[107, 101, 121]⟩, .string name] 9); simpa using this
      have hs9 : ((wc.alloc (.cells #[.string ⟨#[117, 115, 101, 114]⟩, .string ⟨#[100, 101, 118, 105, 99, 101]⟩, .string kind] 9)).alloc (.cells #[.string ⟨#[112, 108, 97, 110]⟩, .string ⟨#[97, 103, 101]⟩, .string ⟨#[122, 101, 116, 97]⟩, .string ⟨#[107, 101, 121]⟩, .string name] 9)).heap.size = wc.heap.size + 2 := by simp
      go_upto_region 11 with (fail)
      generalize (wc.alloc (.cells #[.string ⟨#[117, 115, 101, 114]⟩, .string ⟨#[100, 101, 118, 105, 99, 101]⟩, .string kind] 9)).alloc (.cells #[.string ⟨#[112, 108, 97, 110]⟩, .string ⟨#[97, 103, 101]⟩, .string ⟨#[122, 101, 116, 97]⟩, .string ⟨#[107, 101, 121]⟩, .string name] 9) = w9 at hN0 zK zN hs9 ⊢
      have hSK9 := hSK.step (by omega) hC3 (Kept.of_below hN0) (by obtain ⟨at2, h⟩ := hSK.codes; exact ⟨at2, h.below hN0⟩)
      obtain ⟨kf, hkf⟩ : ∃ kf : Nat → ByteArray, (fun i => ([⟨#[117, 115, 101, 114]⟩, ⟨#[100, 101, 118, 105, 99, 101]⟩, kind] : List ByteArray).getD i ⟨#[]⟩) = kf := ⟨_, rfl⟩
      obtain ⟨nf, hnf⟩ : ∃ nf : Nat → ByteArray, (fun i => ([⟨#[112, 108, 97, 110]⟩, ⟨#[97, 103, 101]⟩, ⟨#[122, 101, 116, 97]⟩, ⟨#[107, 101, 121]⟩, name] : List ByteArray).getD i ⟨#[]⟩) = nf := ⟨_, rfl⟩
      have hks : ∀ i, i < 3 → (kf i).size ≤ 9223372036854775000 := fun i hi => by
        subst hkf
        rcases (show i = 0 ∨ i = 1 ∨ i = 2 by omega) with rfl | rfl | rfl
        · show (4 : Nat) ≤ _; omega
        · show (6 : Nat) ≤ _; omega
        · exact hkd
      have hns : ∀ i, i < 5 → (nf i).size ≤ 9223372036854775000 := fun i hi => by
        subst hnf
        rcases (show i = 0 ∨ i = 1 ∨ i = 2 ∨ i = 3 ∨ i = 4 by omega) with rfl | rfl | rfl | rfl | rfl
        · show (4 : Nat) ≤ _; omega
        · show (3 : Nat) ≤ _; omega
        · show (4 : Nat) ≤ _; omega
        · show (3 : Nat) ≤ _; omega
        · exact hnm
      have cK : ∀ i, i < 3 → w9.cell? ⟨wc.heap.size, i, none⟩ = some (.string (kf i)) := fun i hi => by
        rw [Lib.cell_of_heap zK, ← hkf]
        rcases (show i = 0 ∨ i = 1 ∨ i = 2 by omega) with rfl | rfl | rfl <;> rfl
      have cN : ∀ i, i < 5 → w9.cell? ⟨wc.heap.size + 1, i, none⟩ = some (.string (nf i)) := fun i hi => by
        rw [Lib.cell_of_heap zN, ← hnf]
        rcases (show i = 0 ∨ i = 1 ∨ i = 2 ∨ i = 3 ∨ i = 4 by omega) with rfl | rfl | rfl | rfl | rfl <;> rfl
      obtain ⟨K, hKe⟩ : ∃ K, wc.heap.size = K := ⟨_, rfl⟩
      rw [hKe] at cK cN hs9 hw3c ⊢
      obtain ⟨N, hNe⟩ : ∃ N, K + 1 = N := ⟨_, rfl⟩
      rw [hNe] at cN ⊢
      have hS9 : ∀ W, Kept C w9 W → (fun w' => (∀ i, i < 3 → w'.cell? ⟨K, i, none⟩ = some (.string (kf i))) ∧ (∀ i, i < 5 → w'.cell? ⟨N, i, none⟩ = some (.string (nf i)))) W := fun W h => ⟨fun i hi => (h.cell (p := ⟨K, i, none⟩) (by show K < _; omega) (by show K ≠ C; omega)).trans (cK i hi), fun i hi => (h.cell (p := ⟨N, i, none⟩) (by show N < _; omega) (by show N ≠ C; omega)).trans (cN i hi)⟩
      replace hS9 := Lib.hid hS9
      have hG9 := hG3.kept hSK9.kept
      obtain ⟨at9, hc9⟩ := hSK9.codes
      have hw39 := hSK9.kept.size
      clear hkf hnf cK cN zK zN hK0 hN0 hSK
      go_cut [13, 14, 15] (fun s13 s14 s15 wx => ∃ (kd nm : ByteArray) (x : Val) (V : Nat) (q : Option Addr) (dq : Nat), s13 = .string kd ∧ s14 = .string nm ∧ s15 = .pointer (some ⟨V, 0, none⟩) ∧ kd.size ≤ 9223372036854775000 ∧ nm.size ≤ 9223372036854775000 ∧ ValFit x ∧ wx.heap[V]? = some (.cells #[.int .i64 x.kind, .int .i64 x.num, .string x.text, .slice q (x.list.length : Nat) dq] 41 (0, 0)) ∧ w9.heap.size ≤ V ∧ ListP (fun b => w9.heap.size ≤ b ∧ b ≠ V) q dq x.list wx ∧ Kept C w9 wx ∧ ∃ at2, Codes (l1.take 90) a1 c1 C at2 wx)
      case first =>
        refine wp_region_held_drew (S := fun w' => (∀ i, i < 3 → w'.cell? ⟨K, i, none⟩ = some (.string (kf i))) ∧ (∀ i, i < 5 → w'.cell? ⟨N, i, none⟩ = some (.string (nf i)))) (by kernel_rfl) (hS9.out w9 (Kept.refl C w9)) (fun hHeld => ?_)
        have hkd0 : Kept C w9 w9.drew := (Kept.refl C w9).drew
        have hcd0 := hc9.below (Below.refl w9.heap.size w9).drew
        generalize w9.drew = wd at hkd0 hcd0 hHeld ⊢
        refine wpAnyH_take (i := 0) (v := ?_) rfl (by kernel_rfl) (by kernel_rfl) (by kernel_rfl) (fun _ _ _ h => h) (Or.inl ⟨by rfl, ?_⟩) hHeld ?_
        rotate_left
        · intro w' hSw
          go_simp
          try with_reducible rfl
        try simp only [List.getElem_toArray, List.getElem_cons_succ, List.getElem_cons_zero, Act.put, List.setIfInBounds_toArray, List.set_cons_zero, List.set_cons_succ]
        refine wpAnyH_take (i := 1) (v := ?_) rfl (by kernel_rfl) (by kernel_rfl) (by kernel_rfl) (fun _ _ _ h => h) (Or.inl ⟨by rfl, ?_⟩) hHeld ?_
        rotate_left
        · intro w' hSw
          go_simp
          try with_reducible rfl
        try simp only [List.getElem_toArray, List.getElem_cons_succ, List.getElem_cons_zero, Act.put, List.setIfInBounds_toArray, List.set_cons_zero, List.set_cons_succ]
        refine wpAnyH_take (i := 5) (v := ?_) rfl (by kernel_rfl) (by kernel_rfl) (by kernel_rfl) (fun _ _ _ h => h) (Or.inl ⟨by rfl, ?_⟩) hHeld ?_
        rotate_left
        · intro w' hSw
          go_simp
          try with_reducible rfl
        try simp only [List.getElem_toArray, List.getElem_cons_succ, List.getElem_cons_zero, Act.put, List.setIfInBounds_toArray, List.set_cons_zero, List.set_cons_succ]
        refine wpAnyH_take (i := 6) (v := ?_) rfl (by kernel_rfl) (by kernel_rfl) (by kernel_rfl) (fun _ _ _ h => h) (Or.inl ⟨by rfl, ?_⟩) hHeld ?_
        rotate_left
        · intro w' hSw
          go_simp
          try with_reducible rfl
        try simp only [List.getElem_toArray, List.getElem_cons_succ, List.getElem_cons_zero, Act.put, List.setIfInBounds_toArray, List.set_cons_zero, List.set_cons_succ]
        refine wpAnyH_take (i := 10) (v := ?_) rfl (by kernel_rfl) (by kernel_rfl) (by kernel_rfl) (fun _ _ _ h => h) (Or.inl ⟨by rfl, ?_⟩) hHeld ?_
        rotate_left
        · intro w' hSw
          go_simp
          try with_reducible rfl
        try simp only [List.getElem_toArray, List.getElem_cons_succ, List.getElem_cons_zero, Act.put, List.setIfInBounds_toArray, List.set_cons_zero, List.set_cons_succ]
        refine wpAnyH_ready (rs := [2, 12]) (by kernel_rfl) (by simp) ?_
        refine AllReadyH.cons rfl (fun KK hK => ?_) (AllReadyH.cons rfl (fun KK hK => ?_) AllReadyH.nil)
        · have hn2 := next_any (l1.take 90) a1 c1 C at9 3 wd hl1 (by omega) (by omega) hcd0
          have hr2 := nextN_lt (l1.take 90) at9 3 (by omega)
          generalize nextN (l1.take 90) at9 3 = r3 at hn2 hr2
          replace hn2 := Lib.hid hn2
          go_simp
          go_at_call 15
          refine hn2.out.mono ?_
          rintro e w12 ⟨rfl, hkk2, at12, hcc2⟩
          have hk12 := hkd0.trans hkk2
          have r3I0 : (0 : Int) ≤ (r3 : Int) := by omega
          have r3I1 : (r3 : Int) < 3 := by omega
          refine hK.out _ _ (hS9.out _ hk12) (fun _ => ?_)
          clear hK hHeld
          have hHeld := hS9.out w12 hk12
          try simp only [List.getElem_toArray, List.getElem_cons_succ, List.getElem_cons_zero, Act.put, List.setIfInBounds_toArray, List.set_cons_zero, List.set_cons_succ]
          refine wpAnyH_take (i := 3) (v := ?_) rfl (by kernel_rfl) (by kernel_rfl) (by kernel_rfl) (fun _ _ _ h => h) (Or.inl ⟨by rfl, ?_⟩) hHeld ?_
          rotate_left
          · intro w' hSw
            go_simp
            try with_reducible rfl
          try simp only [List.getElem_toArray, List.getElem_cons_succ, List.getElem_cons_zero, Act.put, List.setIfInBounds_toArray, List.set_cons_zero, List.set_cons_succ]
          refine wpAnyH_take (i := 4) (v := ?_) rfl (by kernel_rfl) (by kernel_rfl) (by kernel_rfl) (fun _ _ _ h => h) (Or.inl ⟨by rfl, ?_⟩) hHeld ?_
          rotate_left
          · intro w' hSw
            have e1 := hSw.1 r3 hr2
            go_simp
            try with_reducible rfl
          try simp only [List.getElem_toArray, List.getElem_cons_succ, List.getElem_cons_zero, Act.put, List.setIfInBounds_toArray, List.set_cons_zero, List.set_cons_succ]
          refine wpAnyH_ready (rs := [7, 12]) (by kernel_rfl) (by simp) ?_
          refine AllReadyH.cons rfl (fun KK hK => ?_) (AllReadyH.cons rfl (fun KK hK => ?_) AllReadyH.nil)
          · have hn7 := next_any (l1.take 90) a1 c1 C at12 5 w12 hl1 (by omega) (by omega) hcc2
            have hr7 := nextN_lt (l1.take 90) at12 5 (by omega)
            generalize nextN (l1.take 90) at12 5 = r55 at hn7 hr7
            replace hn7 := Lib.hid hn7
            go_simp
            go_at_call 15
            refine hn7.out.mono ?_
            rintro e w17 ⟨rfl, hkk7, at17, hcc7⟩
            have hk17 := hk12.trans hkk7
            have r55I0 : (0 : Int) ≤ (r55 : Int) := by omega
            have r55I1 : (r55 : Int) < 5 := by omega
            refine hK.out _ _ (hS9.out _ hk17) (fun _ => ?_)
            clear hK hHeld
            have hHeld := hS9.out w17 hk17
            try simp only [List.getElem_toArray, List.getElem_cons_succ, List.getElem_cons_zero, Act.put, List.setIfInBounds_toArray, List.set_cons_zero, List.set_cons_succ]
            refine wpAnyH_take (i := 8) (v := ?_) rfl (by kernel_rfl) (by kernel_rfl) (by kernel_rfl) (fun _ _ _ h => h) (Or.inl ⟨by rfl, ?_⟩) hHeld ?_
            rotate_left
            · intro w' hSw
              go_simp
              try with_reducible rfl
            try simp only [List.getElem_toArray, List.getElem_cons_succ, List.getElem_cons_zero, Act.put, List.setIfInBounds_toArray, List.set_cons_zero, List.set_cons_succ]
            refine wpAnyH_take (i := 9) (v := ?_) rfl (by kernel_rfl) (by kernel_rfl) (by kernel_rfl) (fun _ _ _ h => h) (Or.inl ⟨by rfl, ?_⟩) hHeld ?_
            rotate_left
            · intro w' hSw
              have e1 := hSw.2 r55 hr7
              go_simp
              try with_reducible rfl
            try simp only [List.getElem_toArray, List.getElem_cons_succ, List.getElem_cons_zero, Act.put, List.setIfInBounds_toArray, List.set_cons_zero, List.set_cons_succ]
            refine wpAnyH_ready (rs := [11, 12]) (by kernel_rfl) (by simp) ?_
            refine AllReadyH.cons rfl (fun KK hK => ?_) (AllReadyH.cons rfl (fun KK hK => ?_) AllReadyH.nil)
            · have hany := any_any (l1.take 90) a1 c1 C at17 w17 hl1 hcc7 (hG9.kept hk17)
              unfold Val.agg at hany
              replace hany := Lib.hid hany
              go_simp
              go_at_call 16
              refine hany.out.mono ?_
              rintro e w111 ⟨⟨x, q, dq, rfl, hxd, hxt, hxn, hxc⟩, hkk11, at111, hcc11⟩
              have hk111 := hk17.trans hkk11
              have hxf : ValFit x := by
                obtain ⟨k, -, hd⟩ := hxd
                exact ⟨by have := hd.text; omega, by have := hd.len; omega, fun s hs => by have := hd.each s hs; omega⟩
              have hWs := hk17.size
              have hxl0 : ListP (fun b => w17.heap.size ≤ b) q dq x.list w111 := ⟨hxn, hxc, fun i hi => hxt i hi⟩
              have hxl : ListP (fun b => w9.heap.size ≤ b) q dq x.list w111 := hxl0.mono fun b _ h => by omega
              refine hK.out _ _ (hS9.out _ hk111) (fun _ => ?_)
              clear hK hHeld
              have hHeld := hS9.out w111 hk111
              try simp only [List.getElem_toArray, List.getElem_cons_succ, List.getElem_cons_zero, Act.put, List.setIfInBounds_toArray, List.set_cons_zero, List.set_cons_succ]
              refine wpAnyH_ready (rs := [12]) (by kernel_rfl) (by simp) ?_
              refine AllReadyH.cons rfl (fun KK hK => ?_) AllReadyH.nil
              go_simp
              have hkA := hk111.alloc (.cells #[.int .i64 0, .int .i64 0, .string ⟨#[]⟩, .slice none 0 0] 41)
              refine hK.out _ _ (hS9.out _ hkA) (fun _ => ?_)
              clear hK hHeld
              have hHeld := hS9.out (w111.alloc (.cells #[.int .i64 0, .int .i64 0, .string ⟨#[]⟩, .slice none 0 0] 41)) hkA
              try simp only [List.getElem_toArray, List.getElem_cons_succ, List.getElem_cons_zero, Act.put, List.setIfInBounds_toArray, List.set_cons_zero, List.set_cons_succ]
              refine wpAnyH_take (i := 13) (v := ?_) rfl (by kernel_rfl) (by kernel_rfl) (by kernel_rfl) (fun _ _ _ h => h) (Or.inl ⟨by rfl, ?_⟩) hHeld ?_
              rotate_left
              · intro w' hSw
                go_simp
                try with_reducible rfl
              try simp only [List.getElem_toArray, List.getElem_cons_succ, List.getElem_cons_zero, Act.put, List.setIfInBounds_toArray, List.set_cons_zero, List.set_cons_succ]
              refine wpAnyH_take (i := 14) (v := ?_) rfl (by kernel_rfl) (by kernel_rfl) (by kernel_rfl) (fun _ _ _ h => h) (Or.inl ⟨by rfl, ?_⟩) hHeld ?_
              rotate_left
              · intro w' hSw
                go_simp
                try with_reducible rfl
              try simp only [List.getElem_toArray, List.getElem_cons_succ, List.getElem_cons_zero, Act.put, List.setIfInBounds_toArray, List.set_cons_zero, List.set_cons_succ]
              refine wpAnyH_ready (rs := [15]) (by kernel_rfl) (by simp) ?_
              refine AllReadyH.cons rfl (fun KK hK => ?_) AllReadyH.nil
              go_simp
              have hkE := hk111.alloc (.cells #[.int .i64 x.kind, .int .i64 x.num, .string x.text, .slice q (x.list.length : Nat) dq] 41)
              refine hK.out _ _ (hS9.out _ hkE) (fun _ => ?_)
              clear hK hHeld
              have hHeld := hS9.out (w111.alloc (.cells #[.int .i64 x.kind, .int .i64 x.num, .string x.text, .slice q (x.list.length : Nat) dq] 41)) hkE
              try simp only [List.getElem_toArray, List.getElem_cons_succ, List.getElem_cons_zero, Act.put, List.setIfInBounds_toArray, List.set_cons_zero, List.set_cons_succ]
              refine wpAnyH_done (by kernel_rfl) ?_ _
              go_wp2
              go_meet
              case rel => exact ⟨kf r3, nf r55, x, w111.heap.size, q, dq, rfl, rfl, rfl, hks r3 hr2, hns r55 hr7, hxf, heap_alloc_new w111 _, hk111.size, (hxl.mono fun b hb h => ⟨h, by omega⟩).same (SameB.of_below ((Below.refl w111.heap.size w111).alloc (Nat.le_refl _) (.cells #[.int .i64 x.kind, .int .i64 x.num, .string x.text, .slice q (x.list.length : Nat) dq] 41))), hkE, _, hcc11.below ((Below.refl w111.heap.size w111).alloc (Nat.le_refl _) (.cells #[.int .i64 x.kind, .int .i64 x.num, .string x.text, .slice q (x.list.length : Nat) dq] 41))⟩
            · go_simp
              have hbA := (Below.refl w17.heap.size w17).alloc (Nat.le_refl _) (.cells #[.int .i64 0, .int .i64 0, .string ⟨#[]⟩, .slice none 0 0] 41)
              have hkA := hk17.alloc (.cells #[.int .i64 0, .int .i64 0, .string ⟨#[]⟩, .slice none 0 0] 41)
              have hcA := hcc7.below hbA
              have zA := heap_alloc_new w17 (.cells #[.int .i64 0, .int .i64 0, .string ⟨#[]⟩, .slice none 0 0] 41)
              have hVA : w17.heap.size < (w17.alloc (.cells #[.int .i64 0, .int .i64 0, .string ⟨#[]⟩, .slice none 0 0] 41)).heap.size := by simp
              have hVB := hk17.size
              refine hK.out _ _ (hS9.out _ hkA) (fun _ => ?_)
              clear hK hHeld
              have hHeld := hS9.out (w17.alloc (.cells #[.int .i64 0, .int .i64 0, .string ⟨#[]⟩, .slice none 0 0] 41)) hkA
              try simp only [List.getElem_toArray, List.getElem_cons_succ, List.getElem_cons_zero, Act.put, List.setIfInBounds_toArray, List.set_cons_zero, List.set_cons_succ]
              generalize hWA : (w17.alloc (.cells #[.int .i64 0, .int .i64 0, .string ⟨#[]⟩, .slice none 0 0] 41)) = wA at hbA hkA hcA zA hVA hHeld ⊢
              obtain ⟨V, hVe⟩ : ∃ V, w17.heap.size = V := ⟨_, rfl⟩
              rw [hVe] at zA hVA hVB ⊢
              clear hWA
              refine wpAnyH_ready (rs := [11]) (by kernel_rfl) (by simp) ?_
              refine AllReadyH.cons rfl (fun KK hK => ?_) AllReadyH.nil
              have hany := any_any (l1.take 90) a1 c1 C at17 wA hl1 hcA (hG9.kept hkA)
              unfold Val.agg at hany
              replace hany := Lib.hid hany
              go_simp
              go_at_call 16
              refine hany.out.mono ?_
              rintro e w111 ⟨⟨x, q, dq, rfl, hxd, hxt, hxn, hxc⟩, hkk11, at111, hcc11⟩
              have hk111 := hkA.trans hkk11
              have hxf : ValFit x := by
                obtain ⟨k, -, hd⟩ := hxd
                exact ⟨by have := hd.text; omega, by have := hd.len; omega, fun s hs => by have := hd.each s hs; omega⟩
              have hWs := hkA.size
              have hxl0 : ListP (fun b => wA.heap.size ≤ b) q dq x.list w111 := ⟨hxn, hxc, fun i hi => hxt i hi⟩
              have hxl : ListP (fun b => w9.heap.size ≤ b) q dq x.list w111 := hxl0.mono fun b _ h => by omega
              have zV11 := (hkk11.block V hVA (by omega)).trans zA
              refine hK.out _ _ (hS9.out _ hk111) (fun _ => ?_)
              clear hK hHeld
              have hHeld := hS9.out w111 hk111
              try simp only [List.getElem_toArray, List.getElem_cons_succ, List.getElem_cons_zero, Act.put, List.setIfInBounds_toArray, List.set_cons_zero, List.set_cons_succ]
              refine wpAnyH_take (i := 13) (v := ?_) rfl (by kernel_rfl) (by kernel_rfl) (by kernel_rfl) (fun _ _ _ h => h) (Or.inl ⟨by rfl, ?_⟩) hHeld ?_
              rotate_left
              · intro w' hSw
                go_simp
                try with_reducible rfl
              try simp only [List.getElem_toArray, List.getElem_cons_succ, List.getElem_cons_zero, Act.put, List.setIfInBounds_toArray, List.set_cons_zero, List.set_cons_succ]
              refine wpAnyH_take (i := 14) (v := ?_) rfl (by kernel_rfl) (by kernel_rfl) (by kernel_rfl) (fun _ _ _ h => h) (Or.inl ⟨by rfl, ?_⟩) hHeld ?_
              rotate_left
              · intro w' hSw
                go_simp
                try with_reducible rfl
              try simp only [List.getElem_toArray, List.getElem_cons_succ, List.getElem_cons_zero, Act.put, List.setIfInBounds_toArray, List.set_cons_zero, List.set_cons_succ]
              refine wpAnyH_ready (rs := [15]) (by kernel_rfl) (by simp) ?_
              refine AllReadyH.cons rfl (fun KK hK => ?_) AllReadyH.nil
              have k0 : w111.cell? ⟨V, 0, none⟩ = some (.int .i64 0) := by rw [Lib.cell_of_heap zV11]; rfl
              have k1 : w111.cell? ⟨V, 1, none⟩ = some (.int .i64 0) := by rw [Lib.cell_of_heap zV11]; rfl
              have k2 : w111.cell? ⟨V, 2, none⟩ = some (.string ⟨#[]⟩) := by rw [Lib.cell_of_heap zV11]; rfl
              have k3 : w111.cell? ⟨V, 3, none⟩ = some (.slice none 0 0) := by rw [Lib.cell_of_heap zV11]; rfl
              have kfz : ∀ i, w111.frozen? ⟨V, i, none⟩ = false := Lib.frozen_of_heap zV11
              go_simp
              have hkE := ((((hk111.other' (X := V) hVB 0 (.int .i64 x.kind)).other' (X := V) hVB 1 (.int .i64 x.num)).other' (X := V) hVB 2 (.string x.text)).other' (X := V) hVB 3 (.slice q (x.list.length : Nat) dq))
              have zE : ((((w111.setCell ⟨V, 0, none⟩ (.int .i64 x.kind)).setCell ⟨V, 1, none⟩ (.int .i64 x.num)).setCell ⟨V, 2, none⟩ (.string x.text)).setCell ⟨V, 3, none⟩ (.slice q (x.list.length : Nat) dq)).heap[V]? = some (.cells #[.int .i64 x.kind, .int .i64 x.num, .string x.text, .slice q (x.list.length : Nat) dq] 41 (0, 0)) := (box_put (box_put (box_put (box_put zV11 _) _) _) _)
              have hcE := (hc9.other (hc9.other (hc9.other (hc9.other hcc11 (B := V) hVB 0 (.int .i64 x.kind)) (B := V) hVB 1 (.int .i64 x.num)) (B := V) hVB 2 (.string x.text)) (B := V) hVB 3 (.slice q (x.list.length : Nat) dq))
              have hlE := (hxl0.mono (Q := fun b => w9.heap.size ≤ b ∧ b ≠ V) fun b hb h => ⟨by omega, by omega⟩).same (((((SameB.refl (fun b => w9.heap.size ≤ b ∧ b ≠ V) w111).set (B := V) (fun h => h.2 rfl) 0 (.int .i64 x.kind)).set (B := V) (fun h => h.2 rfl) 1 (.int .i64 x.num)).set (B := V) (fun h => h.2 rfl) 2 (.string x.text)).set (B := V) (fun h => h.2 rfl) 3 (.slice q (x.list.length : Nat) dq))
              refine hK.out _ _ (hS9.out _ hkE) (fun _ => ?_)
              clear hK hHeld
              have hHeld := hS9.out ((((w111.setCell ⟨V, 0, none⟩ (.int .i64 x.kind)).setCell ⟨V, 1, none⟩ (.int .i64 x.num)).setCell ⟨V, 2, none⟩ (.string x.text)).setCell ⟨V, 3, none⟩ (.slice q (x.list.length : Nat) dq)) hkE
              try simp only [List.getElem_toArray, List.getElem_cons_succ, List.getElem_cons_zero, Act.put, List.setIfInBounds_toArray, List.set_cons_zero, List.set_cons_succ]
              refine wpAnyH_done (by kernel_rfl) ?_ _
              go_wp2
              go_meet
              case rel => exact ⟨kf r3, nf r55, x, V, q, dq, rfl, rfl, rfl, hks r3 hr2, hns r55 hr7, hxf, zE, hVB, hlE, hkE, _, hcE⟩
          · go_simp
            have hbA := (Below.refl w12.heap.size w12).alloc (Nat.le_refl _) (.cells #[.int .i64 0, .int .i64 0, .string ⟨#[]⟩, .slice none 0 0] 41)
            have hkA := hk12.alloc (.cells #[.int .i64 0, .int .i64 0, .string ⟨#[]⟩, .slice none 0 0] 41)
            have hcA := hcc2.below hbA
            have zA := heap_alloc_new w12 (.cells #[.int .i64 0, .int .i64 0, .string ⟨#[]⟩, .slice none 0 0] 41)
            have hVA : w12.heap.size < (w12.alloc (.cells #[.int .i64 0, .int .i64 0, .string ⟨#[]⟩, .slice none 0 0] 41)).heap.size := by simp
            have hVB := hk12.size
            refine hK.out _ _ (hS9.out _ hkA) (fun _ => ?_)
            clear hK hHeld
            have hHeld := hS9.out (w12.alloc (.cells #[.int .i64 0, .int .i64 0, .string ⟨#[]⟩, .slice none 0 0] 41)) hkA
            try simp only [List.getElem_toArray, List.getElem_cons_succ, List.getElem_cons_zero, Act.put, List.setIfInBounds_toArray, List.set_cons_zero, List.set_cons_succ]
            generalize hWA : (w12.alloc (.cells #[.int .i64 0, .int .i64 0, .string ⟨#[]⟩, .slice none 0 0] 41)) = wA at hbA hkA hcA zA hVA hHeld ⊢
            obtain ⟨V, hVe⟩ : ∃ V, w12.heap.size = V := ⟨_, rfl⟩
            rw [hVe] at zA hVA hVB ⊢
            clear hWA
            refine wpAnyH_ready (rs := [7]) (by kernel_rfl) (by simp) ?_
            refine AllReadyH.cons rfl (fun KK hK => ?_) AllReadyH.nil
            have hn7 := next_any (l1.take 90) a1 c1 C at12 5 wA hl1 (by omega) (by omega) hcA
            have hr7 := nextN_lt (l1.take 90) at12 5 (by omega)
            generalize nextN (l1.take 90) at12 5 = r55 at hn7 hr7
            replace hn7 := Lib.hid hn7
            go_simp
            go_at_call 15
            refine hn7.out.mono ?_
            rintro e w17 ⟨rfl, hkk7, at17, hcc7⟩
            have hk17 := hkA.trans hkk7
            have r55I0 : (0 : Int) ≤ (r55 : Int) := by omega
            have r55I1 : (r55 : Int) < 5 := by omega
            have zV7 := (hkk7.block V hVA (by omega)).trans zA
            have hVs7 := Nat.lt_of_lt_of_le hVA hkk7.size
            refine hK.out _ _ (hS9.out _ hk17) (fun _ => ?_)
            clear hK hHeld
            have hHeld := hS9.out w17 hk17
            try simp only [List.getElem_toArray, List.getElem_cons_succ, List.getElem_cons_zero, Act.put, List.setIfInBounds_toArray, List.set_cons_zero, List.set_cons_succ]
            refine wpAnyH_take (i := 8) (v := ?_) rfl (by kernel_rfl) (by kernel_rfl) (by kernel_rfl) (fun _ _ _ h => h) (Or.inl ⟨by rfl, ?_⟩) hHeld ?_
            rotate_left
            · intro w' hSw
              go_simp
              try with_reducible rfl
            try simp only [List.getElem_toArray, List.getElem_cons_succ, List.getElem_cons_zero, Act.put, List.setIfInBounds_toArray, List.set_cons_zero, List.set_cons_succ]
            refine wpAnyH_take (i := 9) (v := ?_) rfl (by kernel_rfl) (by kernel_rfl) (by kernel_rfl) (fun _ _ _ h => h) (Or.inl ⟨by rfl, ?_⟩) hHeld ?_
            rotate_left
            · intro w' hSw
              have e1 := hSw.2 r55 hr7
              go_simp
              try with_reducible rfl
            try simp only [List.getElem_toArray, List.getElem_cons_succ, List.getElem_cons_zero, Act.put, List.setIfInBounds_toArray, List.set_cons_zero, List.set_cons_succ]
            refine wpAnyH_ready (rs := [11]) (by kernel_rfl) (by simp) ?_
            refine AllReadyH.cons rfl (fun KK hK => ?_) AllReadyH.nil
            have hany := any_any (l1.take 90) a1 c1 C at17 w17 hl1 hcc7 (hG9.kept hk17)
            unfold Val.agg at hany
            replace hany := Lib.hid hany
            go_simp
            go_at_call 16
            refine hany.out.mono ?_
            rintro e w111 ⟨⟨x, q, dq, rfl, hxd, hxt, hxn, hxc⟩, hkk11, at111, hcc11⟩
            have hk111 := hk17.trans hkk11
            have hxf : ValFit x := by
              obtain ⟨k, -, hd⟩ := hxd
              exact ⟨by have := hd.text; omega, by have := hd.len; omega, fun s hs => by have := hd.each s hs; omega⟩
            have hWs := hk17.size
            have hxl0 : ListP (fun b => w17.heap.size ≤ b) q dq x.list w111 := ⟨hxn, hxc, fun i hi => hxt i hi⟩
            have hxl : ListP (fun b => w9.heap.size ≤ b) q dq x.list w111 := hxl0.mono fun b _ h => by omega
            have zV11 := (hkk11.block V hVs7 (by omega)).trans zV7
            refine hK.out _ _ (hS9.out _ hk111) (fun _ => ?_)
            clear hK hHeld
            have hHeld := hS9.out w111 hk111
            try simp only [List.getElem_toArray, List.getElem_cons_succ, List.getElem_cons_zero, Act.put, List.setIfInBounds_toArray, List.set_cons_zero, List.set_cons_succ]
            refine wpAnyH_take (i := 13) (v := ?_) rfl (by kernel_rfl) (by kernel_rfl) (by kernel_rfl) (fun _ _ _ h => h) (Or.inl ⟨by rfl, ?_⟩) hHeld ?_
            rotate_left
            · intro w' hSw
              go_simp
              try with_reducible rfl
            try simp only [List.getElem_toArray, List.getElem_cons_succ, List.getElem_cons_zero, Act.put, List.setIfInBounds_toArray, List.set_cons_zero, List.set_cons_succ]
            refine wpAnyH_take (i := 14) (v := ?_) rfl (by kernel_rfl) (by kernel_rfl) (by kernel_rfl) (fun _ _ _ h => h) (Or.inl ⟨by rfl, ?_⟩) hHeld ?_
            rotate_left
            · intro w' hSw
              go_simp
              try with_reducible rfl
            try simp only [List.getElem_toArray, List.getElem_cons_succ, List.getElem_cons_zero, Act.put, List.setIfInBounds_toArray, List.set_cons_zero, List.set_cons_succ]
            refine wpAnyH_ready (rs := [15]) (by kernel_rfl) (by simp) ?_
            refine AllReadyH.cons rfl (fun KK hK => ?_) AllReadyH.nil
            have k0 : w111.cell? ⟨V, 0, none⟩ = some (.int .i64 0) := by rw [Lib.cell_of_heap zV11]; rfl
            have k1 : w111.cell? ⟨V, 1, none⟩ = some (.int .i64 0) := by rw [Lib.cell_of_heap zV11]; rfl
            have k2 : w111.cell? ⟨V, 2, none⟩ = some (.string ⟨#[]⟩) := by rw [Lib.cell_of_heap zV11]; rfl
            have k3 : w111.cell? ⟨V, 3, none⟩ = some (.slice none 0 0) := by rw [Lib.cell_of_heap zV11]; rfl
            have kfz : ∀ i, w111.frozen? ⟨V, i, none⟩ = false := Lib.frozen_of_heap zV11
            go_simp
            have hkE := ((((hk111.other' (X := V) hVB 0 (.int .i64 x.kind)).other' (X := V) hVB 1 (.int .i64 x.num)).other' (X := V) hVB 2 (.string x.text)).other' (X := V) hVB 3 (.slice q (x.list.length : Nat) dq))
            have zE : ((((w111.setCell ⟨V, 0, none⟩ (.int .i64 x.kind)).setCell ⟨V, 1, none⟩ (.int .i64 x.num)).setCell ⟨V, 2, none⟩ (.string x.text)).setCell ⟨V, 3, none⟩ (.slice q (x.list.length : Nat) dq)).heap[V]? = some (.cells #[.int .i64 x.kind, .int .i64 x.num, .string x.text, .slice q (x.list.length : Nat) dq] 41 (0, 0)) := (box_put (box_put (box_put (box_put zV11 _) _) _) _)
            have hcE := (hc9.other (hc9.other (hc9.other (hc9.other hcc11 (B := V) hVB 0 (.int .i64 x.kind)) (B := V) hVB 1 (.int .i64 x.num)) (B := V) hVB 2 (.string x.text)) (B := V) hVB 3 (.slice q (x.list.length : Nat) dq))
            have hlE := (hxl0.mono (Q := fun b => w9.heap.size ≤ b ∧ b ≠ V) fun b hb h => ⟨by omega, by omega⟩).same (((((SameB.refl (fun b => w9.heap.size ≤ b ∧ b ≠ V) w111).set (B := V) (fun h => h.2 rfl) 0 (.int .i64 x.kind)).set (B := V) (fun h => h.2 rfl) 1 (.int .i64 x.num)).set (B := V) (fun h => h.2 rfl) 2 (.string x.text)).set (B := V) (fun h => h.2 rfl) 3 (.slice q (x.list.length : Nat) dq))
            refine hK.out _ _ (hS9.out _ hkE) (fun _ => ?_)
            clear hK hHeld
            have hHeld := hS9.out ((((w111.setCell ⟨V, 0, none⟩ (.int .i64 x.kind)).setCell ⟨V, 1, none⟩ (.int .i64 x.num)).setCell ⟨V, 2, none⟩ (.string x.text)).setCell ⟨V, 3, none⟩ (.slice q (x.list.length : Nat) dq)) hkE
            try simp only [List.getElem_toArray, List.getElem_cons_succ, List.getElem_cons_zero, Act.put, List.setIfInBounds_toArray, List.set_cons_zero, List.set_cons_succ]
            refine wpAnyH_done (by kernel_rfl) ?_ _
            go_wp2
            go_meet
            case rel => exact ⟨kf r3, nf r55, x, V, q, dq, rfl, rfl, rfl, hks r3 hr2, hns r55 hr7, hxf, zE, hVB, hlE, hkE, _, hcE⟩
        · go_simp
          have hbA := (Below.refl wd.heap.size wd).alloc (Nat.le_refl _) (.cells #[.int .i64 0, .int .i64 0, .string ⟨#[]⟩, .slice none 0 0] 41)
          have hkA := hkd0.alloc (.cells #[.int .i64 0, .int .i64 0, .string ⟨#[]⟩, .slice none 0 0] 41)
          have hcA := hcd0.below hbA
          have zA := heap_alloc_new wd (.cells #[.int .i64 0, .int .i64 0, .string ⟨#[]⟩, .slice none 0 0] 41)
          have hVA : wd.heap.size < (wd.alloc (.cells #[.int .i64 0, .int .i64 0, .string ⟨#[]⟩, .slice none 0 0] 41)).heap.size := by simp
          have hVB := hkd0.size
          refine hK.out _ _ (hS9.out _ hkA) (fun _ => ?_)
          clear hK hHeld
          have hHeld := hS9.out (wd.alloc (.cells #[.int .i64 0, .int .i64 0, .string ⟨#[]⟩, .slice none 0 0] 41)) hkA
          try simp only [List.getElem_toArray, List.getElem_cons_succ, List.getElem_cons_zero, Act.put, List.setIfInBounds_toArray, List.set_cons_zero, List.set_cons_succ]
          generalize hWA : (wd.alloc (.cells #[.int .i64 0, .int .i64 0, .string ⟨#[]⟩, .slice none 0 0] 41)) = wA at hbA hkA hcA zA hVA hHeld ⊢
          obtain ⟨V, hVe⟩ : ∃ V, wd.heap.size = V := ⟨_, rfl⟩
          rw [hVe] at zA hVA hVB ⊢
          clear hWA
          refine wpAnyH_ready (rs := [2]) (by kernel_rfl) (by simp) ?_
          refine AllReadyH.cons rfl (fun KK hK => ?_) AllReadyH.nil
          have hn2 := next_any (l1.take 90) a1 c1 C at9 3 wA hl1 (by omega) (by omega) hcA
          have hr2 := nextN_lt (l1.take 90) at9 3 (by omega)
          generalize nextN (l1.take 90) at9 3 = r3 at hn2 hr2
          replace hn2 := Lib.hid hn2
          go_simp
          go_at_call 15
          refine hn2.out.mono ?_
          rintro e w12 ⟨rfl, hkk2, at12, hcc2⟩
          have hk12 := hkA.trans hkk2
          have r3I0 : (0 : Int) ≤ (r3 : Int) := by omega
          have r3I1 : (r3 : Int) < 3 := by omega
          have zV2 := (hkk2.block V hVA (by omega)).trans zA
          have hVs2 := Nat.lt_of_lt_of_le hVA hkk2.size
          refine hK.out _ _ (hS9.out _ hk12) (fun _ => ?_)
          clear hK hHeld
          have hHeld := hS9.out w12 hk12
          try simp only [List.getElem_toArray, List.getElem_cons_succ, List.getElem_cons_zero, Act.put, List.setIfInBounds_toArray, List.set_cons_zero, List.set_cons_succ]
          refine wpAnyH_take (i := 3) (v := ?_) rfl (by kernel_rfl) (by kernel_rfl) (by kernel_rfl) (fun _ _ _ h => h) (Or.inl ⟨by rfl, ?_⟩) hHeld ?_
          rotate_left
          · intro w' hSw
            go_simp
            try with_reducible rfl
          try simp only [List.getElem_toArray, List.getElem_cons_succ, List.getElem_cons_zero, Act.put, List.setIfInBounds_toArray, List.set_cons_zero, List.set_cons_succ]
          refine wpAnyH_take (i := 4) (v := ?_) rfl (by kernel_rfl) (by kernel_rfl) (by kernel_rfl) (fun _ _ _ h => h) (Or.inl ⟨by rfl, ?_⟩) hHeld ?_
          rotate_left
          · intro w' hSw
            have e1 := hSw.1 r3 hr2
            go_simp
            try with_reducible rfl
          try simp only [List.getElem_toArray, List.getElem_cons_succ, List.getElem_cons_zero, Act.put, List.setIfInBounds_toArray, List.set_cons_zero, List.set_cons_succ]
          refine wpAnyH_ready (rs := [7]) (by kernel_rfl) (by simp) ?_
          refine AllReadyH.cons rfl (fun KK hK => ?_) AllReadyH.nil
          have hn7 := next_any (l1.take 90) a1 c1 C at12 5 w12 hl1 (by omega) (by omega) hcc2
          have hr7 := nextN_lt (l1.take 90) at12 5 (by omega)
          generalize nextN (l1.take 90) at12 5 = r55 at hn7 hr7
          replace hn7 := Lib.hid hn7
          go_simp
          go_at_call 15
          refine hn7.out.mono ?_
          rintro e w17 ⟨rfl, hkk7, at17, hcc7⟩
          have hk17 := hk12.trans hkk7
          have r55I0 : (0 : Int) ≤ (r55 : Int) := by omega
          have r55I1 : (r55 : Int) < 5 := by omega
          have zV7 := (hkk7.block V hVs2 (by omega)).trans zV2
          have hVs7 := Nat.lt_of_lt_of_le hVs2 hkk7.size
          refine hK.out _ _ (hS9.out _ hk17) (fun _ => ?_)
          clear hK hHeld
          have hHeld := hS9.out w17 hk17
          try simp only [List.getElem_toArray, List.getElem_cons_succ, List.getElem_cons_zero, Act.put, List.setIfInBounds_toArray, List.set_cons_zero, List.set_cons_succ]
          refine wpAnyH_take (i := 8) (v := ?_) rfl (by kernel_rfl) (by kernel_rfl) (by kernel_rfl) (fun _ _ _ h => h) (Or.inl ⟨by rfl, ?_⟩) hHeld ?_
          rotate_left
          · intro w' hSw
            go_simp
            try with_reducible rfl
          try simp only [List.getElem_toArray, List.getElem_cons_succ, List.getElem_cons_zero, Act.put, List.setIfInBounds_toArray, List.set_cons_zero, List.set_cons_succ]
          refine wpAnyH_take (i := 9) (v := ?_) rfl (by kernel_rfl) (by kernel_rfl) (by kernel_rfl) (fun _ _ _ h => h) (Or.inl ⟨by rfl, ?_⟩) hHeld ?_
          rotate_left
          · intro w' hSw
            have e1 := hSw.2 r55 hr7
            go_simp
            try with_reducible rfl
          try simp only [List.getElem_toArray, List.getElem_cons_succ, List.getElem_cons_zero, Act.put, List.setIfInBounds_toArray, List.set_cons_zero, List.set_cons_succ]
          refine wpAnyH_ready (rs := [11]) (by kernel_rfl) (by simp) ?_
          refine AllReadyH.cons rfl (fun KK hK => ?_) AllReadyH.nil
          have hany := any_any (l1.take 90) a1 c1 C at17 w17 hl1 hcc7 (hG9.kept hk17)
          unfold Val.agg at hany
          replace hany := Lib.hid hany
          go_simp
          go_at_call 16
          refine hany.out.mono ?_
          rintro e w111 ⟨⟨x, q, dq, rfl, hxd, hxt, hxn, hxc⟩, hkk11, at111, hcc11⟩
          have hk111 := hk17.trans hkk11
          have hxf : ValFit x := by
            obtain ⟨k, -, hd⟩ := hxd
            exact ⟨by have := hd.text; omega, by have := hd.len; omega, fun s hs => by have := hd.each s hs; omega⟩
          have hWs := hk17.size
          have hxl0 : ListP (fun b => w17.heap.size ≤ b) q dq x.list w111 := ⟨hxn, hxc, fun i hi => hxt i hi⟩
          have hxl : ListP (fun b => w9.heap.size ≤ b) q dq x.list w111 := hxl0.mono fun b _ h => by omega
          have zV11 := (hkk11.block V hVs7 (by omega)).trans zV7
          refine hK.out _ _ (hS9.out _ hk111) (fun _ => ?_)
          clear hK hHeld
          have hHeld := hS9.out w111 hk111
          try simp only [List.getElem_toArray, List.getElem_cons_succ, List.getElem_cons_zero, Act.put, List.setIfInBounds_toArray, List.set_cons_zero, List.set_cons_succ]
          refine wpAnyH_take (i := 13) (v := ?_) rfl (by kernel_rfl) (by kernel_rfl) (by kernel_rfl) (fun _ _ _ h => h) (Or.inl ⟨by rfl, ?_⟩) hHeld ?_
          rotate_left
          · intro w' hSw
            go_simp
            try with_reducible rfl
          try simp only [List.getElem_toArray, List.getElem_cons_succ, List.getElem_cons_zero, Act.put, List.setIfInBounds_toArray, List.set_cons_zero, List.set_cons_succ]
          refine wpAnyH_take (i := 14) (v := ?_) rfl (by kernel_rfl) (by kernel_rfl) (by kernel_rfl) (fun _ _ _ h => h) (Or.inl ⟨by rfl, ?_⟩) hHeld ?_
          rotate_left
          · intro w' hSw
            go_simp
            try with_reducible rfl
          try simp only [List.getElem_toArray, List.getElem_cons_succ, List.getElem_cons_zero, Act.put, List.setIfInBounds_toArray, List.set_cons_zero, List.set_cons_succ]
          refine wpAnyH_ready (rs := [15]) (by kernel_rfl) (by simp) ?_
          refine AllReadyH.cons rfl (fun KK hK => ?_) AllReadyH.nil
          have k0 : w111.cell? ⟨V, 0, none⟩ = some (.int .i64 0) := by rw [Lib.cell_of_heap zV11]; rfl
          have k1 : w111.cell? ⟨V, 1, none⟩ = some (.int .i64 0) := by rw [Lib.cell_of_heap zV11]; rfl
          have k2 : w111.cell? ⟨V, 2, none⟩ = some (.string ⟨#[]⟩) := by rw [Lib.cell_of_heap zV11]; rfl
          have k3 : w111.cell? ⟨V, 3, none⟩ = some (.slice none 0 0) := by rw [Lib.cell_of_heap zV11]; rfl
          have kfz : ∀ i, w111.frozen? ⟨V, i, none⟩ = false := Lib.frozen_of_heap zV11
          go_simp
          have hkE := ((((hk111.other' (X := V) hVB 0 (.int .i64 x.kind)).other' (X := V) hVB 1 (.int .i64 x.num)).other' (X := V) hVB 2 (.string x.text)).other' (X := V) hVB 3 (.slice q (x.list.length : Nat) dq))
          have zE : ((((w111.setCell ⟨V, 0, none⟩ (.int .i64 x.kind)).setCell ⟨V, 1, none⟩ (.int .i64 x.num)).setCell ⟨V, 2, none⟩ (.string x.text)).setCell ⟨V, 3, none⟩ (.slice q (x.list.length : Nat) dq)).heap[V]? = some (.cells #[.int .i64 x.kind, .int .i64 x.num, .string x.text, .slice q (x.list.length : Nat) dq] 41 (0, 0)) := (box_put (box_put (box_put (box_put zV11 _) _) _) _)
          have hcE := (hc9.other (hc9.other (hc9.other (hc9.other hcc11 (B := V) hVB 0 (.int .i64 x.kind)) (B := V) hVB 1 (.int .i64 x.num)) (B := V) hVB 2 (.string x.text)) (B := V) hVB 3 (.slice q (x.list.length : Nat) dq))
          have hlE := (hxl0.mono (Q := fun b => w9.heap.size ≤ b ∧ b ≠ V) fun b hb h => ⟨by omega, by omega⟩).same (((((SameB.refl (fun b => w9.heap.size ≤ b ∧ b ≠ V) w111).set (B := V) (fun h => h.2 rfl) 0 (.int .i64 x.kind)).set (B := V) (fun h => h.2 rfl) 1 (.int .i64 x.num)).set (B := V) (fun h => h.2 rfl) 2 (.string x.text)).set (B := V) (fun h => h.2 rfl) 3 (.slice q (x.list.length : Nat) dq))
          refine hK.out _ _ (hS9.out _ hkE) (fun _ => ?_)
          clear hK hHeld
          have hHeld := hS9.out ((((w111.setCell ⟨V, 0, none⟩ (.int .i64 x.kind)).setCell ⟨V, 1, none⟩ (.int .i64 x.num)).setCell ⟨V, 2, none⟩ (.string x.text)).setCell ⟨V, 3, none⟩ (.slice q (x.list.length : Nat) dq)) hkE
          try simp only [List.getElem_toArray, List.getElem_cons_succ, List.getElem_cons_zero, Act.put, List.setIfInBounds_toArray, List.set_cons_zero, List.set_cons_succ]
          refine wpAnyH_done (by kernel_rfl) ?_ _
          go_wp2
          go_meet
          case rel => exact ⟨kf r3, nf r55, x, V, q, dq, rfl, rfl, rfl, hks r3 hr2, hns r55 hr7, hxf, zE, hVB, hlE, hkE, _, hcE⟩
      case rest =>
        obtain ⟨kd, nm, x, V, q, dq, rfl, rfl, rfl, hkds, hnms, hxf, zV, hVw, hxl, hkc, atc, hcc⟩ := hcut
        have hrow9 : CtxsP (fun b => w3.heap.size ≤ b ∧ b < w9.heap.size) p c LX w9 := hSK9.row.mono fun b hb h => ⟨h.1, hb⟩
        have hrowc := hrow9.same (⟨hkc.size, fun b hb hl => hkc.block b hl (by omega)⟩ : SameB (fun b => w3.heap.size ≤ b ∧ b < w9.heap.size) w9 wc)
        have hT9 := (Array.getElem?_eq_some_iff.1 hSK9.box).1
        have zTc := (hkc.block T hT9 (by omega)).trans hSK9.box
        have hk3c := hSK9.kept.trans hkc
        have hfit := hSK9.fit
        have hLX8 := hSK9.len
        have hfew := hSK9.few
        have z3 := (hb3.block w.heap.size (by omega)).trans z1
        have hVs := (Array.getElem?_eq_some_iff.1 zV).1
        clear hSK9 hrow9 hc9 hG9 hkc hks hns hS9
        have hn6 := next_any (l1.take 90) a1 c1 C atc 5 wc hl1 (by omega) (by omega) hcc
        have hr6 := nextN_lt (l1.take 90) atc 5 (by omega)
        generalize nextN (l1.take 90) atc 5 = r6 at hn6 hr6
        replace hn6 := Lib.hid hn6
        go_upto_if 62 with (go_at_call 15; refine hn6.out.mono ?_; rintro e w12 ⟨rfl, hk12, at12, -⟩)
        have hrow12 := hrowc.same (⟨hk12.size, fun b hb hl => hk12.block b hl (by omega)⟩ : SameB (fun b => w3.heap.size ≤ b ∧ b < w9.heap.size) wc w12)
        have hxl12 := hxl.same (⟨hk12.size, fun b hb hl => hk12.block b hl (by omega)⟩ : SameB (fun b => w9.heap.size ≤ b ∧ b ≠ V) wc w12)
        have zT12 := (hk12.block T (by have := hk12.size; omega) (by omega)).trans zTc
        have zV12 := (hk12.block V hVs (by omega)).trans zV
        have hk312 := hk3c.trans hk12
        have z12 := (hk312.block w.heap.size (by omega) (by omega)).trans z3
        clear hn6 hrowc hxl zTc zV hk3c hcc z3
        go_cut [] (fun wx => ∃ (x : Val) (q : Option Addr) (dq : Nat), ValFit x ∧ wx.heap[V]? = some (.cells #[.int .i64 x.kind, .int .i64 x.num, .string x.text, .slice q (x.list.length : Nat) dq] 41 (0, 0)) ∧ ListP (fun _ => True) q dq x.list wx ∧ wx.heap[T]? = some (.cells #[.slice p (LX.length : Nat) c] 25 (0, 0)) ∧ CtxsP (fun _ => True) p c LX wx ∧ Kept C w3 wx)
        case first =>
          by_cases hr1 : r6 = 1
          · subst hr1
            have f0 : w12.cell? ⟨w.heap.size, 0, none⟩ = some (.int .i64 v.kind) := by rw [Lib.cell_of_heap z12]; rfl
            have f1 : w12.cell? ⟨w.heap.size, 1, none⟩ = some (.int .i64 v.num) := by rw [Lib.cell_of_heap z12]; rfl
            have f2 : w12.cell? ⟨w.heap.size, 2, none⟩ = some (.string v.text) := by rw [Lib.cell_of_heap z12]; rfl
            have f3 : w12.cell? ⟨w.heap.size, 3, none⟩ = some (.slice a v.list.length d) := by rw [Lib.cell_of_heap z12]; rfl
            have g0 : w12.cell? ⟨V, 0, none⟩ = some (.int .i64 x.kind) := by rw [Lib.cell_of_heap zV12]; rfl
            have g1 : w12.cell? ⟨V, 1, none⟩ = some (.int .i64 x.num) := by rw [Lib.cell_of_heap zV12]; rfl
            have g2 : w12.cell? ⟨V, 2, none⟩ = some (.string x.text) := by rw [Lib.cell_of_heap zV12]; rfl
            have g3 : w12.cell? ⟨V, 3, none⟩ = some (.slice q x.list.length dq) := by rw [Lib.cell_of_heap zV12]; rfl
            have gf : ∀ i, w12.frozen? ⟨V, i, none⟩ = false := Lib.frozen_of_heap zV12
            have hl3 : ListP (fun b => b < w.heap.size) a d v.list w12 := (hVk.same (SameB.of_below B1)).same (⟨by have := hk312.size; have := hb3.size; omega, fun b hb hl => (hk312.block b (by omega) (by omega)).trans (hb3.block b (by omega))⟩ : SameB (fun b => b < w.heap.size) w1 w12)
            have hwV : w.heap.size < V := by omega
            have zV13 : ((((w12.setCell ⟨V, 0, none⟩ (.int .i64 v.kind)).setCell ⟨V, 1, none⟩ (.int .i64 v.num)).setCell ⟨V, 2, none⟩ (.string v.text)).setCell ⟨V, 3, none⟩ (.slice a (v.list.length : Nat) d)).heap[V]? = some (.cells #[.int .i64 v.kind, .int .i64 v.num, .string v.text, .slice a (v.list.length : Nat) d] 41 (0, 0)) := (box_put (box_put (box_put (box_put zV12 _) _) _) _)
            have hl13 := (hl3.same (((((SameB.refl (fun b => b < w.heap.size) w12).set (B := V) (by omega) 0 (.int .i64 v.kind)).set (B := V) (by omega) 1 (.int .i64 v.num)).set (B := V) (by omega) 2 (.string v.text)).set (B := V) (by omega) 3 (.slice a (v.list.length : Nat) d))).mono (Q := fun _ => True) (fun _ _ _ => trivial)
            have hrow13 := (hrow12.same (((((SameB.refl (fun b => w3.heap.size ≤ b ∧ b < w9.heap.size) w12).set (B := V) (by omega) 0 (.int .i64 v.kind)).set (B := V) (by omega) 1 (.int .i64 v.num)).set (B := V) (by omega) 2 (.string v.text)).set (B := V) (by omega) 3 (.slice a (v.list.length : Nat) d))).mono (Q := fun _ => True) (fun _ _ _ => trivial)
            have zT13 : ((((w12.setCell ⟨V, 0, none⟩ (.int .i64 v.kind)).setCell ⟨V, 1, none⟩ (.int .i64 v.num)).setCell ⟨V, 2, none⟩ (.string v.text)).setCell ⟨V, 3, none⟩ (.slice a (v.list.length : Nat) d)).heap[T]? = some (.cells #[.slice p (LX.length : Nat) c] 25 (0, 0)) := by rw [Below.heap_setCell _ _ _ _ (by show T ≠ V; omega), Below.heap_setCell _ _ _ _ (by show T ≠ V; omega), Below.heap_setCell _ _ _ _ (by show T ≠ V; omega), Below.heap_setCell _ _ _ _ (by show T ≠ V; omega)]; exact zT12
            have hk13 := ((((hk312.other' (X := V) (by omega) 0 (.int .i64 v.kind)).other' (X := V) (by omega) 1 (.int .i64 v.num)).other' (X := V) (by omega) 2 (.string v.text)).other' (X := V) (by omega) 3 (.slice a (v.list.length : Nat) d))
            have hvf : ValFit v := ⟨hvt, by omega, hve⟩
            go_wp2
            go_meet
            case rel => exact ⟨v, a, d, hvf, zV13, hl13, zT13, hrow13, hk13⟩
          · have hrb : ((r6 : Int) == 1) = false := by simp; omega
            go_wp2
            go_meet
            case rel => exact ⟨x, q, dq, hxf, zV12, hxl12.mono fun _ _ _ => trivial, zT12, hrow12.mono fun _ _ _ => trivial, hk312⟩
        case rest =>
          obtain ⟨x, q, dq, hxf, zV, hxl, zT, hrow, hk3⟩ := hcut
          clear hrow12 hxl12 zT12 zV12 z12 hk312 hk12 hr6
          rename World => wE
          have hBE : Below w.heap.size w wE := B1.trans ((hb3.trans (hk3.below (by omega) (by omega))).mono (by omega))
          have hEE := E.below hBE
          have t0 : wE.cell? ⟨T, 0, none⟩ = some (.slice p LX.length c) := by rw [Lib.cell_of_heap zT]; rfl
          have v0 : wE.cell? ⟨V, 0, none⟩ = some (.int .i64 x.kind) := by rw [Lib.cell_of_heap zV]; rfl
          have v1 : wE.cell? ⟨V, 1, none⟩ = some (.int .i64 x.num) := by rw [Lib.cell_of_heap zV]; rfl
          have v2 : wE.cell? ⟨V, 2, none⟩ = some (.string x.text) := by rw [Lib.cell_of_heap zV]; rfl
          have v3 : wE.cell? ⟨V, 3, none⟩ = some (.slice q x.list.length dq) := by rw [Lib.cell_of_heap zV]; rfl
          have hTE := (Array.getElem?_eq_some_iff.1 zT).1
          have hVE := (Array.getElem?_eq_some_iff.1 zV).1
          have cell4 : ∀ W, Below wE.heap.size wE W → W.cell? ⟨T, 0, none⟩ = some (.slice p LX.length c) ∧ W.cell? ⟨V, 0, none⟩ = some (.int .i64 x.kind) ∧ W.cell? ⟨V, 1, none⟩ = some (.int .i64 x.num) ∧ W.cell? ⟨V, 2, none⟩ = some (.string x.text) ∧ W.cell? ⟨V, 3, none⟩ = some (.slice q x.list.length dq) := fun W h => ⟨(h.cell (p := ⟨T, 0, none⟩) hTE).trans t0, (h.cell (p := ⟨V, 0, none⟩) hVE).trans v0, (h.cell (p := ⟨V, 1, none⟩) hVE).trans v1, (h.cell (p := ⟨V, 2, none⟩) hVE).trans v2, (h.cell (p := ⟨V, 3, none⟩) hVE).trans v3⟩
          replace cell4 := Lib.hid cell4
          have hW1 := with_any5 p c LX kd nm x q dq wE hEE hrow hfit (by omega) hxl hxf.text hxf.list hxf.each hnms
          have hW2 := fun W (h : Below wE.heap.size wE W) => refWith_any5 p c LX kd nm x q dq W (hEE.below h) (hrow.same (SameB.of_below h)) hfit (by omega) (hxl.same (SameB.of_below h)) hxf.text hxf.list hxf.each hnms
          have htn := with_tiny kd nm x LX
          have hlook := fun h => with_look (kd := kd) (nm := nm) (v := x) (l := LX) h
          obtain ⟨R, hR⟩ : ∃ R, (withP kd nm x LX).1 = R := ⟨_, rfl⟩
          obtain ⟨ce, hce⟩ : ∃ ce, (withP kd nm x LX).2 = ce := ⟨_, rfl⟩
          rw [hR] at hW1 hW2 htn hlook
          rw [hce] at hW1 hW2 hlook
          unfold Val.agg at hW1 hW2
          have hfR : ∀ y ∈ R, y.attrs.length ≤ 1000 ∧ ∀ b ∈ y.attrs, b.val.list.length ≤ 8796093022207 := fun y hy => ⟨by have := (htn.2 y hy).attrs; omega, fun b hb => by have := ((htn.2 y hy).each b hb).list; omega⟩
          have hR4 := htn.1
          replace hW1 := Lib.hid hW1
          replace hW2 := Lib.hid hW2
          replace hlook := Lib.hid hlook
          clear htn hR hce zT zV hk3 B1 z1 hb3 hVk hV h1 G hcd3 hG3 hnms hkds hkd hnm hTe hCe hKe hNe hs9 hw39 hw3c hVw hVs
          go_upto_region 15 with (go_at_call 17; refine hW1.out.mono ?_; rintro e w15 ⟨⟨qu, du, rfl, hqu⟩, hb15'⟩)
          have hU := (Below.refl w15.heap.size w15).alloc (Nat.le_refl _) (.cells #[.slice qu (R.length : Nat) du] 25)
          have zU := heap_alloc_new w15 (.cells #[.slice qu (R.length : Nat) du] 25)
          generalize w15.alloc (.cells #[.slice qu (R.length : Nat) du] 25) = w16 at hU zU ⊢
          have hb16 : Below wE.heap.size wE w16 := hb15'.trans (hU.mono hb15'.size)
          have hqu16 := (hqu.mono (Q := fun _ => True) fun _ _ _ => trivial).same (SameB.of_below hU)
          obtain ⟨U, hUe⟩ : ∃ U, w15.heap.size = U := ⟨_, rfl⟩
          rw [hUe] at zU ⊢
          have hUs := (Array.getElem?_eq_some_iff.1 zU).1
          have hW3 := Lib.hid (hW2.out w16 hb16)
          obtain ⟨t0, v0, v1, v2, v3⟩ := cell4.out w16 hb16
          clear hW1 hW2 hqu hb15' hU hUe
          go_upto_region 16 with (go_at_call 18; refine hW3.out.mono ?_; rintro e w17 ⟨⟨qw, dw, rfl, hqw⟩, hb17'⟩)
          have hX := (Below.refl w17.heap.size w17).alloc (Nat.le_refl _) (.cells #[.slice qw (R.length : Nat) dw] 25)
          have zX := heap_alloc_new w17 (.cells #[.slice qw (R.length : Nat) dw] 25)
          generalize w17.alloc (.cells #[.slice qw (R.length : Nat) dw] 25) = w18 at hX zX ⊢
          have hb18' : Below w16.heap.size w16 w18 := hb17'.trans (hX.mono hb17'.size)
          have hb18 := hb16.trans (hb18'.mono hb16.size)
          have hqw18 := (hqw.mono (Q := fun _ => True) fun _ _ _ => trivial).same (SameB.of_below hX)
          have hqu18 := hqu16.same (SameB.of_below hb18')
          have u0 : w18.cell? ⟨U, 0, none⟩ = some (.slice qu R.length du) := by rw [Lib.cell_of_heap ((hb18'.block U hUs).trans zU)]; rfl
          have x0 : w18.cell? ⟨w17.heap.size, 0, none⟩ = some (.slice qw R.length dw) := by rw [Lib.cell_of_heap zX]; rfl
          have hUs18 := Nat.lt_of_lt_of_le hUs hb18'.size
          have hsm := Lib.hid (same_refl qu qw du dw R w18 hqu18 hqw18 (by omega) (fun y hy => ⟨by have := (hfR y hy).1; omega, (hfR y hy).2⟩))
          clear t0 v0 v1 v2 v3 hW3 hqw hqw18 hqu16 hb17' hX zX zU
          go_upto_region 18 with (go_at_call 14; refine hsm.out.mono ?_; rintro e w19 ⟨rfl, hb19'⟩)
          have hb19 := hb18.trans (hb19'.mono hb18.size)
          have hqu19 := hqu18.same (SameB.of_below hb19')
          have u0' := (hb19'.cell (p := ⟨U, 0, none⟩) hUs18).trans u0
          have hUs19 := Nat.lt_of_lt_of_le hUs18 hb19'.size
          clear u0 x0 hsm hqu18
          by_cases hz : ce = 0
          case neg =>
            have hzb : (ce == 0) = false := by simp [hz]
            go_wp2
            go_ret
            exact ⟨rfl, hBE.trans (hb19.mono hBE.size)⟩
          case pos =>
            subst hz
            obtain ⟨hlk1, hlk2⟩ := hlook.out rfl
            have hL := lookup_any qu du R kd nm w19 hqu19 (by omega) hfR
            unfold LookAt at hL
            rw [hlk1] at hL
            unfold Val.agg at hL
            replace hL := Lib.hid hL
            replace hlk2 := Lib.hid hlk2
            clear hlook hlk1
            go_upto_region 21 with (go_at_call 19; refine hL.out.mono ?_; rintro e w20 ⟨⟨q1, d1, rfl, hq1⟩, hb20'⟩)
            have hY := (Below.refl w20.heap.size w20).alloc (Nat.le_refl _) (.cells #[.int .i64 x.kind, .int .i64 x.num, .string x.text, .slice q1 (x.list.length : Nat) d1] 41)
            have zY := heap_alloc_new w20 (.cells #[.int .i64 x.kind, .int .i64 x.num, .string x.text, .slice q1 (x.list.length : Nat) d1] 41)
            generalize w20.alloc (.cells #[.int .i64 x.kind, .int .i64 x.num, .string x.text, .slice q1 (x.list.length : Nat) d1] 41) = w21 at hY zY ⊢
            have hb21' : Below w19.heap.size w19 w21 := hb20'.trans (hY.mono hb20'.size)
            have hb21 := hb19.trans (hb21'.mono hb19.size)
            have hq21 := hq1.same (SameB.of_below hY)
            have hx21 := hxl.same (SameB.of_below hb21)
            have hqu21 := hqu19.same (SameB.of_below hb21')
            have u21 := (hb21'.cell (p := ⟨U, 0, none⟩) hUs19).trans u0'
            have hUs21 := Nat.lt_of_lt_of_le hUs19 hb21'.size
            have heq := equal_refl x q1 q d1 dq w21 (by have := hxf.list; omega) hq21 hx21
            unfold Val.agg at heq
            replace heq := Lib.hid heq
            obtain ⟨t0, v0, v1, v2, v3⟩ := cell4.out w21 hb21
            have y0 : w21.cell? ⟨w20.heap.size, 0, none⟩ = some (.int .i64 x.kind) := by rw [Lib.cell_of_heap zY]; rfl
            have y1 : w21.cell? ⟨w20.heap.size, 1, none⟩ = some (.int .i64 x.num) := by rw [Lib.cell_of_heap zY]; rfl
            have y2 : w21.cell? ⟨w20.heap.size, 2, none⟩ = some (.string x.text) := by rw [Lib.cell_of_heap zY]; rfl
            have y3 : w21.cell? ⟨w20.heap.size, 3, none⟩ = some (.slice q1 x.list.length d1) := by rw [Lib.cell_of_heap zY]; rfl
            clear hL hq1 hY zY u0' hqu19 hb20'
            go_upto_region 23 with (go_at_call 20; refine heq.out.mono ?_; rintro e w22 ⟨rfl, hb22'⟩)
            clear t0 v0 v1 v2 v3 y0 y1 y2 y3 heq hq21 hx21
            have hdcl := Lib.hid (declared_any w22)
            go_upto_region 24 with (go_at_call 21; refine hdcl.out.mono ?_; rintro e w23 ⟨rfl, hD, hb23'⟩)
            have hb2123 : Below w21.heap.size w21 w23 := hb22'.trans (hb23'.mono hb22'.size)
            have hb23 := hb21.trans (hb2123.mono hb21.size)
            have hqu23 := hqu21.same (SameB.of_below hb2123)
            have u23 := (hb2123.cell (p := ⟨U, 0, none⟩) hUs21).trans u21
            have hUs23 := Nat.lt_of_lt_of_le hUs21 hb2123.size
            have hrow23 := hrow.same (SameB.of_below hb23)
            have t23 := (cell4.out w23 hb23).1
            have hTs23 := Nat.lt_of_lt_of_le hTE hb23.size
            have hBF := hBE.trans (hb23.mono hBE.size)
            have hlX := fun y hy => (show y.attrs.length ≤ 1000 from Nat.le_trans (hfew y hy) (by omega))
            have hlX2 : ∀ y ∈ LX, ∀ b ∈ y.attrs, b.val.list.length ≤ 8796093022207 := fun y hy b hb => (hfit y hy).each b hb |>.list
            obtain ⟨D, hDe⟩ : ∃ D, w22.heap.size = D := ⟨_, rfl⟩
            rw [hDe] at hD ⊢
            replace hlX := Lib.hid hlX
            replace hlX2 := Lib.hid hlX2
            replace hfR := Lib.hid hfR
            replace hD := Lib.hid hD
            clear hb22' hb23' hb2123 hqu21 u21 hUs21 hUs19 hUs18 hrow hxl hDe cell4 hb21 hb21' hb19 hb19' hb18 hb18' hb16 hEE hBE hdcl hUs hTE hVE hfit hfew
            go_wp2
            go_loopw [23, 24, 25, 26, 27] (fun i _ _ _ _ wv => ∃ m : Nat, m ≤ 8 ∧ i = .int .i64 m ∧ Below w23.heap.size w23 wv) (fun i _ _ _ _ _ => 8 - (intOf i).toNat)
            case atStart => exact ⟨0, Nat.zero_le _, rfl, Below.refl _ _⟩
            case round =>
              obtain ⟨m, hm, rfl, hbm⟩ := hrel
              rename World => wm
              by_cases hlt : m < 8
              · have hmI : (m : Int) < 8 := by omega
                have hmI0 : (0 : Int) ≤ (m : Int) := by omega
                have hDm := DeclAt.block hD.out hbm.size (hbm.block D hD.out.lt)
                obtain ⟨kA, kB, -⟩ := hDm.c m hlt
                have hDs := hDm.lt
                generalize decls[m].1 = dk at kA
                generalize decls[m].2.1 = dn at kB
                clear hDm
                cases hb1 : (dk.toList == kd.toList) with
                | false =>
                  have hne : ¬ (dk = kd ∧ dn = nm) := fun h => by rw [h.1] at hb1; simp at hb1
                  have hfd := hlk2.out dk dn hne
                  obtain ⟨fv, hfv⟩ : ∃ fv, foundV dk dn LX = fv := ⟨_, rfl⟩
                  rw [hfv] at hfd
                  have hfl := foundV_list (kd := dk) (nm := dn) (l := LX) hlX2.out
                  rw [hfv] at hfl
                  have tm := (hbm.cell (p := ⟨T, 0, none⟩) hTs23).trans t23
                  have um := (hbm.cell (p := ⟨U, 0, none⟩) hUs23).trans u23
                  have hTm := Nat.lt_of_lt_of_le hTs23 hbm.size
                  have hUm := Nat.lt_of_lt_of_le hUs23 hbm.size
                  have hrm := hrow23.same (SameB.of_below hbm)
                  have hqm := hqu23.same (SameB.of_below hbm)
                  have hLook : ∀ W, Below wm.heap.size wm W → Calls Tryz.prog 22 #[.agg #[.slice p (LX.length : Nat) c], .string dk, .string dn] W fun e w' => (∃ (q : Option Addr) (d : Nat), e = .returned (.tuple #[.agg #[.int .i64 fv.1.kind, .int .i64 fv.1.num, .string fv.1.text, .slice q (fv.1.list.length : Nat) d], .bool fv.2]) ∧ ListP (fun b => b < wm.heap.size ∧ b < W.heap.size) q d fv.1.list w') ∧ Below W.heap.size W w' := fun W hb => by
                    have h9 := refLookup_any (P := fun b => b < wm.heap.size) p c LX dk dn W ((hrm.mono fun b h _ => h).same (SameB.of_below hb)) (by omega) hlX.out
                    unfold LookAt at h9
                    rw [hfv] at h9
                    exact h9
                  replace hLook := Lib.hid hLook
                  go_upto_region 28 with (fail)
                  go_cut [24, 25] (fun a b wx => ∃ (F : Nat) (q : Option Addr) (d : Nat), a = .pointer (some ⟨F, 0, none⟩) ∧ b = .bool fv.2 ∧ wx.heap[F]? = some (.cells #[.int .i64 fv.1.kind, .int .i64 fv.1.num, .string fv.1.text, .slice q (fv.1.list.length : Nat) d] 41 (0, 0)) ∧ wm.heap.size ≤ F ∧ ListP (fun _ => True) q d fv.1.list wx ∧ Below wm.heap.size wm wx)
                  case first =>
                    have hdr := (Below.refl wm.heap.size wm).drew
                    refine wp_region_held_drew (S := fun w' => w'.cell? ⟨T, 0, none⟩ = some (.slice p LX.length c) ∧ w'.cell? ⟨D, m * 3, none⟩ = some (.string dk) ∧ w'.cell? ⟨D, m * 3 + 1, none⟩ = some (.string dn)) (by kernel_rfl) (⟨tm, kA, kB⟩) (fun hHeld => ?_)
                    refine wpAnyH_take (i := 0) (v := ?_) rfl (by kernel_rfl) (by kernel_rfl) (by kernel_rfl) (fun _ _ _ h => h) (Or.inl ⟨by rfl, ?_⟩) hHeld ?_
                    rotate_left
                    · intro w' hSw
                      obtain ⟨e1, e2, e3⟩ := hSw
                      go_simp
                      try with_reducible rfl
                    try simp only [List.getElem_toArray, List.getElem_cons_succ, List.getElem_cons_zero, Act.put, List.setIfInBounds_toArray, List.set_cons_zero, List.set_cons_succ]
                    refine wpAnyH_take (i := 1) (v := ?_) rfl (by kernel_rfl) (by kernel_rfl) (by kernel_rfl) (fun _ _ _ h => h) (Or.inl ⟨by rfl, ?_⟩) hHeld ?_
                    rotate_left
                    · intro w' hSw
                      go_simp
                      try with_reducible rfl
                    try simp only [List.getElem_toArray, List.getElem_cons_succ, List.getElem_cons_zero, Act.put, List.setIfInBounds_toArray, List.set_cons_zero, List.set_cons_succ]
                    refine wpAnyH_take (i := 2) (v := ?_) rfl (by kernel_rfl) (by kernel_rfl) (by kernel_rfl) (fun _ _ _ h => h) (Or.inl ⟨by rfl, ?_⟩) hHeld ?_
                    rotate_left
                    · intro w' hSw
                      go_simp
                      try with_reducible rfl
                    try simp only [List.getElem_toArray, List.getElem_cons_succ, List.getElem_cons_zero, Act.put, List.setIfInBounds_toArray, List.set_cons_zero, List.set_cons_succ]
                    refine wpAnyH_take (i := 3) (v := ?_) rfl (by kernel_rfl) (by kernel_rfl) (by kernel_rfl) (fun _ _ _ h => h) (Or.inl ⟨by rfl, ?_⟩) hHeld ?_
                    rotate_left
                    · intro w' hSw
                      go_simp
                      try with_reducible rfl
                    try simp only [List.getElem_toArray, List.getElem_cons_succ, List.getElem_cons_zero, Act.put, List.setIfInBounds_toArray, List.set_cons_zero, List.set_cons_succ]
                    refine wpAnyH_take (i := 4) (v := ?_) rfl (by kernel_rfl) (by kernel_rfl) (by kernel_rfl) (fun _ _ _ h => h) (Or.inl ⟨by rfl, ?_⟩) hHeld ?_
                    rotate_left
                    · intro w' hSw
                      go_simp
                      try with_reducible rfl
                    try simp only [List.getElem_toArray, List.getElem_cons_succ, List.getElem_cons_zero, Act.put, List.setIfInBounds_toArray, List.set_cons_zero, List.set_cons_succ]
                    refine wpAnyH_take (i := 5) (v := ?_) rfl (by kernel_rfl) (by kernel_rfl) (by kernel_rfl) (fun _ _ _ h => h) (Or.inl ⟨by rfl, ?_⟩) hHeld ?_
                    rotate_left
                    · intro w' hSw
                      obtain ⟨e1, e2, e3⟩ := hSw
                      go_simp
                      try with_reducible rfl
                    try simp only [List.getElem_toArray, List.getElem_cons_succ, List.getElem_cons_zero, Act.put, List.setIfInBounds_toArray, List.set_cons_zero, List.set_cons_succ]
                    refine wpAnyH_take (i := 6) (v := ?_) rfl (by kernel_rfl) (by kernel_rfl) (by kernel_rfl) (fun _ _ _ h => h) (Or.inl ⟨by rfl, ?_⟩) hHeld ?_
                    rotate_left
                    · intro w' hSw
                      go_simp
                      try with_reducible rfl
                    try simp only [List.getElem_toArray, List.getElem_cons_succ, List.getElem_cons_zero, Act.put, List.setIfInBounds_toArray, List.set_cons_zero, List.set_cons_succ]
                    refine wpAnyH_take (i := 7) (v := ?_) rfl (by kernel_rfl) (by kernel_rfl) (by kernel_rfl) (fun _ _ _ h => h) (Or.inl ⟨by rfl, ?_⟩) hHeld ?_
                    rotate_left
                    · intro w' hSw
                      go_simp
                      try with_reducible rfl
                    try simp only [List.getElem_toArray, List.getElem_cons_succ, List.getElem_cons_zero, Act.put, List.setIfInBounds_toArray, List.set_cons_zero, List.set_cons_succ]
                    refine wpAnyH_take (i := 8) (v := ?_) rfl (by kernel_rfl) (by kernel_rfl) (by kernel_rfl) (fun _ _ _ h => h) (Or.inl ⟨by rfl, ?_⟩) hHeld ?_
                    rotate_left
                    · intro w' hSw
                      go_simp
                      try with_reducible rfl
                    try simp only [List.getElem_toArray, List.getElem_cons_succ, List.getElem_cons_zero, Act.put, List.setIfInBounds_toArray, List.set_cons_zero, List.set_cons_succ]
                    refine wpAnyH_take (i := 9) (v := ?_) rfl (by kernel_rfl) (by kernel_rfl) (by kernel_rfl) (fun _ _ _ h => h) (Or.inl ⟨by rfl, ?_⟩) hHeld ?_
                    rotate_left
                    · intro w' hSw
                      go_simp
                      try with_reducible rfl
                    try simp only [List.getElem_toArray, List.getElem_cons_succ, List.getElem_cons_zero, Act.put, List.setIfInBounds_toArray, List.set_cons_zero, List.set_cons_succ]
                    refine wpAnyH_take (i := 10) (v := ?_) rfl (by kernel_rfl) (by kernel_rfl) (by kernel_rfl) (fun _ _ _ h => h) (Or.inl ⟨by rfl, ?_⟩) hHeld ?_
                    rotate_left
                    · intro w' hSw
                      obtain ⟨e1, e2, e3⟩ := hSw
                      go_simp
                      try with_reducible rfl
                    try simp only [List.getElem_toArray, List.getElem_cons_succ, List.getElem_cons_zero, Act.put, List.setIfInBounds_toArray, List.set_cons_zero, List.set_cons_succ]
                    refine wpAnyH_ready (rs := [11, 15]) (by kernel_rfl) (by simp) ?_
                    refine AllReadyH.cons rfl (fun K hK => ?_) (AllReadyH.cons rfl (fun K hK => ?_) AllReadyH.nil)
                    · go_simp
                      go_at_call 22
                      refine (hLook.out _ hdr).mono ?_
                      rintro e w5 ⟨⟨q, d, rfl, hq⟩, hb5'⟩
                      have hb5 := hdr.trans (hb5'.mono hdr.size)
                      refine hK.out _ _ ⟨(hb5.cell (p := ⟨T, 0, none⟩) hTm).trans tm, (hb5.cell (p := ⟨D, m * 3, none⟩) hDs).trans kA, (hb5.cell (p := ⟨D, m * 3 + 1, none⟩) hDs).trans kB⟩ (fun _ => ?_)
                      clear hK K hHeld
                      have hHeld : (fun w' => w'.cell? ⟨T, 0, none⟩ = some (.slice p LX.length c) ∧ w'.cell? ⟨D, m * 3, none⟩ = some (.string dk) ∧ w'.cell? ⟨D, m * 3 + 1, none⟩ = some (.string dn)) w5 := ⟨(hb5.cell (p := ⟨T, 0, none⟩) hTm).trans tm, (hb5.cell (p := ⟨D, m * 3, none⟩) hDs).trans kA, (hb5.cell (p := ⟨D, m * 3 + 1, none⟩) hDs).trans kB⟩
                      try simp only [List.getElem_toArray, List.getElem_cons_succ, List.getElem_cons_zero, Act.put, List.setIfInBounds_toArray, List.set_cons_zero, List.set_cons_succ]
                      refine wpAnyH_take (i := 12) (v := ?_) rfl (by kernel_rfl) (by kernel_rfl) (by kernel_rfl) (fun _ _ _ h => h) (Or.inl ⟨by rfl, ?_⟩) hHeld ?_
                      rotate_left
                      · intro w' hSw
                        go_simp
                        try with_reducible rfl
                      try simp only [List.getElem_toArray, List.getElem_cons_succ, List.getElem_cons_zero, Act.put, List.setIfInBounds_toArray, List.set_cons_zero, List.set_cons_succ]
                      refine wpAnyH_take (i := 13) (v := ?_) rfl (by kernel_rfl) (by kernel_rfl) (by kernel_rfl) (fun _ _ _ h => h) (Or.inl ⟨by rfl, ?_⟩) hHeld ?_
                      rotate_left
                      · intro w' hSw
                        go_simp
                        try with_reducible rfl
                      try simp only [List.getElem_toArray, List.getElem_cons_succ, List.getElem_cons_zero, Act.put, List.setIfInBounds_toArray, List.set_cons_zero, List.set_cons_succ]
                      refine wpAnyH_take (i := 14) (v := ?_) rfl (by kernel_rfl) (by kernel_rfl) (by kernel_rfl) (fun _ _ _ h => h) (Or.inl ⟨by rfl, ?_⟩) hHeld ?_
                      rotate_left
                      · intro w' hSw
                        go_simp
                        try with_reducible rfl
                      try simp only [List.getElem_toArray, List.getElem_cons_succ, List.getElem_cons_zero, Act.put, List.setIfInBounds_toArray, List.set_cons_zero, List.set_cons_succ]
                      have hal0 := hb5.alloc hb5.size (.cells #[.int .i64 0, .int .i64 0, .string ⟨#[]⟩, .slice none 0 0] 41)
                      have hal1 := hb5.alloc hb5.size (.cells #[.int .i64 fv.1.kind, .int .i64 fv.1.num, .string fv.1.text, .slice q (fv.1.list.length : Nat) d] 41)
                      refine wpAnyH_ready (rs := [15]) (by kernel_rfl) (by simp) ?_
                      refine AllReadyH.cons rfl (fun K hK => ?_) AllReadyH.nil
                      go_simp
                      refine hK.out _ _ ⟨(hal0.cell (p := ⟨T, 0, none⟩) hTm).trans tm, (hal0.cell (p := ⟨D, m * 3, none⟩) hDs).trans kA, (hal0.cell (p := ⟨D, m * 3 + 1, none⟩) hDs).trans kB⟩ (fun _ => ?_)
                      clear hK K
                      try simp only [List.getElem_toArray, List.getElem_cons_succ, List.getElem_cons_zero, Act.put, List.setIfInBounds_toArray, List.set_cons_zero, List.set_cons_succ]
                      refine wpAnyH_ready (rs := [16]) (by kernel_rfl) (by simp) ?_
                      refine AllReadyH.cons rfl (fun K hK => ?_) AllReadyH.nil
                      go_simp
                      refine hK.out _ _ ⟨(hal1.cell (p := ⟨T, 0, none⟩) hTm).trans tm, (hal1.cell (p := ⟨D, m * 3, none⟩) hDs).trans kA, (hal1.cell (p := ⟨D, m * 3 + 1, none⟩) hDs).trans kB⟩ (fun _ => ?_)
                      clear hK K hHeld
                      have hHeld : (fun w' => w'.cell? ⟨T, 0, none⟩ = some (.slice p LX.length c) ∧ w'.cell? ⟨D, m * 3, none⟩ = some (.string dk) ∧ w'.cell? ⟨D, m * 3 + 1, none⟩ = some (.string dn)) (w5.alloc (.cells #[.int .i64 fv.1.kind, .int .i64 fv.1.num, .string fv.1.text, .slice q (fv.1.list.length : Nat) d] 41)) := ⟨(hal1.cell (p := ⟨T, 0, none⟩) hTm).trans tm, (hal1.cell (p := ⟨D, m * 3, none⟩) hDs).trans kA, (hal1.cell (p := ⟨D, m * 3 + 1, none⟩) hDs).trans kB⟩
                      try simp only [List.getElem_toArray, List.getElem_cons_succ, List.getElem_cons_zero, Act.put, List.setIfInBounds_toArray, List.set_cons_zero, List.set_cons_succ]
                      refine wpAnyH_take (i := 17) (v := ?_) rfl (by kernel_rfl) (by kernel_rfl) (by kernel_rfl) (fun _ _ _ h => h) (Or.inl ⟨by rfl, ?_⟩) hHeld ?_
                      rotate_left
                      · intro w' hSw
                        go_simp
                        try with_reducible rfl
                      try simp only [List.getElem_toArray, List.getElem_cons_succ, List.getElem_cons_zero, Act.put, List.setIfInBounds_toArray, List.set_cons_zero, List.set_cons_succ]
                      refine wpAnyH_done (by kernel_rfl) ?_ _
                      go_wp2
                      go_meet
                      case rel => exact ⟨w5.heap.size, q, d, rfl, rfl, heap_alloc_new w5 _, hb5.size, (hq.mono fun _ _ _ => trivial).same (SameB.of_below ((Below.refl w5.heap.size w5).alloc (Nat.le_refl _) _)), hal1⟩
                    · have hal0 := ((Below.refl wm.heap.size wm).alloc (Nat.le_refl _) (.cells #[.int .i64 0, .int .i64 0, .string ⟨#[]⟩, .slice none 0 0] 41)).drew
                      have zF := heap_alloc_new wm (.cells #[.int .i64 0, .int .i64 0, .string ⟨#[]⟩, .slice none 0 0] 41)
                      go_simp
                      refine hK.out _ _ ⟨(hal0.cell (p := ⟨T, 0, none⟩) hTm).trans tm, (hal0.cell (p := ⟨D, m * 3, none⟩) hDs).trans kA, (hal0.cell (p := ⟨D, m * 3 + 1, none⟩) hDs).trans kB⟩ (fun _ => ?_)
                      clear hK K hHeld
                      have hHeld : (fun w' => w'.cell? ⟨T, 0, none⟩ = some (.slice p LX.length c) ∧ w'.cell? ⟨D, m * 3, none⟩ = some (.string dk) ∧ w'.cell? ⟨D, m * 3 + 1, none⟩ = some (.string dn)) (wm.alloc (.cells #[.int .i64 0, .int .i64 0, .string ⟨#[]⟩, .slice none 0 0] 41)).drew := ⟨(hal0.cell (p := ⟨T, 0, none⟩) hTm).trans tm, (hal0.cell (p := ⟨D, m * 3, none⟩) hDs).trans kA, (hal0.cell (p := ⟨D, m * 3 + 1, none⟩) hDs).trans kB⟩
                      try simp only [List.getElem_toArray, List.getElem_cons_succ, List.getElem_cons_zero, Act.put, List.setIfInBounds_toArray, List.set_cons_zero, List.set_cons_succ]
                      refine wpAnyH_ready (rs := [11]) (by kernel_rfl) (by simp) ?_
                      refine AllReadyH.cons rfl (fun K hK => ?_) AllReadyH.nil
                      go_simp
                      go_at_call 22
                      refine (hLook.out _ hal0).mono ?_
                      rintro e w5 ⟨⟨q, d, rfl, hq⟩, hb5'⟩
                      have hb5 := hal0.trans (hb5'.mono hal0.size)
                      have hsF : wm.heap.size < (wm.alloc (.cells #[.int .i64 0, .int .i64 0, .string ⟨#[]⟩, .slice none 0 0] 41)).drew.heap.size := by show wm.heap.size < (wm.alloc (.cells #[.int .i64 0, .int .i64 0, .string ⟨#[]⟩, .slice none 0 0] 41)).heap.size; simp
                      have zF5 : w5.heap[wm.heap.size]? = some (.cells #[.int .i64 0, .int .i64 0, .string ⟨#[]⟩, .slice none 0 0] 41 (0, 0)) := (hb5'.block wm.heap.size hsF).trans zF
                      have k0 : w5.cell? ⟨wm.heap.size, 0, none⟩ = some (.int .i64 0) := by rw [Lib.cell_of_heap zF5]; rfl
                      have k1 : w5.cell? ⟨wm.heap.size, 1, none⟩ = some (.int .i64 0) := by rw [Lib.cell_of_heap zF5]; rfl
                      have k2 : w5.cell? ⟨wm.heap.size, 2, none⟩ = some (.string ⟨#[]⟩) := by rw [Lib.cell_of_heap zF5]; rfl
                      have k3 : w5.cell? ⟨wm.heap.size, 3, none⟩ = some (.slice none 0 0) := by rw [Lib.cell_of_heap zF5]; rfl
                      have kf : ∀ i, w5.frozen? ⟨wm.heap.size, i, none⟩ = false := Lib.frozen_of_heap zF5
                      refine hK.out _ _ ⟨(hb5.cell (p := ⟨T, 0, none⟩) hTm).trans tm, (hb5.cell (p := ⟨D, m * 3, none⟩) hDs).trans kA, (hb5.cell (p := ⟨D, m * 3 + 1, none⟩) hDs).trans kB⟩ (fun _ => ?_)
                      clear hK K hHeld
                      have hHeld : (fun w' => w'.cell? ⟨T, 0, none⟩ = some (.slice p LX.length c) ∧ w'.cell? ⟨D, m * 3, none⟩ = some (.string dk) ∧ w'.cell? ⟨D, m * 3 + 1, none⟩ = some (.string dn)) w5 := ⟨(hb5.cell (p := ⟨T, 0, none⟩) hTm).trans tm, (hb5.cell (p := ⟨D, m * 3, none⟩) hDs).trans kA, (hb5.cell (p := ⟨D, m * 3 + 1, none⟩) hDs).trans kB⟩
                      try simp only [List.getElem_toArray, List.getElem_cons_succ, List.getElem_cons_zero, Act.put, List.setIfInBounds_toArray, List.set_cons_zero, List.set_cons_succ]
                      refine wpAnyH_take (i := 12) (v := ?_) rfl (by kernel_rfl) (by kernel_rfl) (by kernel_rfl) (fun _ _ _ h => h) (Or.inl ⟨by rfl, ?_⟩) hHeld ?_
                      rotate_left
                      · intro w' hSw
                        go_simp
                        try with_reducible rfl
                      try simp only [List.getElem_toArray, List.getElem_cons_succ, List.getElem_cons_zero, Act.put, List.setIfInBounds_toArray, List.set_cons_zero, List.set_cons_succ]
                      refine wpAnyH_take (i := 13) (v := ?_) rfl (by kernel_rfl) (by kernel_rfl) (by kernel_rfl) (fun _ _ _ h => h) (Or.inl ⟨by rfl, ?_⟩) hHeld ?_
                      rotate_left
                      · intro w' hSw
                        go_simp
                        try with_reducible rfl
                      try simp only [List.getElem_toArray, List.getElem_cons_succ, List.getElem_cons_zero, Act.put, List.setIfInBounds_toArray, List.set_cons_zero, List.set_cons_succ]
                      refine wpAnyH_take (i := 14) (v := ?_) rfl (by kernel_rfl) (by kernel_rfl) (by kernel_rfl) (fun _ _ _ h => h) (Or.inl ⟨by rfl, ?_⟩) hHeld ?_
                      rotate_left
                      · intro w' hSw
                        go_simp
                        try with_reducible rfl
                      try simp only [List.getElem_toArray, List.getElem_cons_succ, List.getElem_cons_zero, Act.put, List.setIfInBounds_toArray, List.set_cons_zero, List.set_cons_succ]
                      have hb6 := ((((hb5.setCell (p := ⟨wm.heap.size, 0, none⟩) (Nat.le_refl _) (.int .i64 fv.1.kind)).setCell (p := ⟨wm.heap.size, 1, none⟩) (Nat.le_refl _) (.int .i64 fv.1.num)).setCell (p := ⟨wm.heap.size, 2, none⟩) (Nat.le_refl _) (.string fv.1.text)).setCell (p := ⟨wm.heap.size, 3, none⟩) (Nat.le_refl _) (.slice q (fv.1.list.length : Nat) d))
                      have zF6 : ((((w5.setCell ⟨wm.heap.size, 0, none⟩ (.int .i64 fv.1.kind)).setCell ⟨wm.heap.size, 1, none⟩ (.int .i64 fv.1.num)).setCell ⟨wm.heap.size, 2, none⟩ (.string fv.1.text)).setCell ⟨wm.heap.size, 3, none⟩ (.slice q (fv.1.list.length : Nat) d)).heap[wm.heap.size]? = some (.cells #[.int .i64 fv.1.kind, .int .i64 fv.1.num, .string fv.1.text, .slice q (fv.1.list.length : Nat) d] 41 (0, 0)) := (box_put (box_put (box_put (box_put zF5 _) _) _) _)
                      have hXF : ¬ (wm.heap.size < wm.heap.size ∧ wm.heap.size < (wm.alloc (.cells #[.int .i64 0, .int .i64 0, .string ⟨#[]⟩, .slice none 0 0] 41)).drew.heap.size) := fun h => absurd h.1 (Nat.lt_irrefl _)
                      have hq6 : ListP (fun b => (b < wm.heap.size ∧ b < (wm.alloc (.cells #[.int .i64 0, .int .i64 0, .string ⟨#[]⟩, .slice none 0 0] 41)).drew.heap.size)) q d fv.1.list _ := hq.same (((((SameB.refl _ w5).set (B := wm.heap.size) hXF 0 (.int .i64 fv.1.kind)).set (B := wm.heap.size) hXF 1 (.int .i64 fv.1.num)).set (B := wm.heap.size) hXF 2 (.string fv.1.text)).set (B := wm.heap.size) hXF 3 (.slice q (fv.1.list.length : Nat) d))
                      refine wpAnyH_ready (rs := [16]) (by kernel_rfl) (by simp) ?_
                      refine AllReadyH.cons rfl (fun K hK => ?_) AllReadyH.nil
                      go_simp
                      refine hK.out _ _ ⟨(hb6.cell (p := ⟨T, 0, none⟩) hTm).trans tm, (hb6.cell (p := ⟨D, m * 3, none⟩) hDs).trans kA, (hb6.cell (p := ⟨D, m * 3 + 1, none⟩) hDs).trans kB⟩ (fun _ => ?_)
                      clear hK K hHeld
                      have hHeld : (fun w' => w'.cell? ⟨T, 0, none⟩ = some (.slice p LX.length c) ∧ w'.cell? ⟨D, m * 3, none⟩ = some (.string dk) ∧ w'.cell? ⟨D, m * 3 + 1, none⟩ = some (.string dn)) ((((w5.setCell ⟨wm.heap.size, 0, none⟩ (.int .i64 fv.1.kind)).setCell ⟨wm.heap.size, 1, none⟩ (.int .i64 fv.1.num)).setCell ⟨wm.heap.size, 2, none⟩ (.string fv.1.text)).setCell ⟨wm.heap.size, 3, none⟩ (.slice q (fv.1.list.length : Nat) d)) := ⟨(hb6.cell (p := ⟨T, 0, none⟩) hTm).trans tm, (hb6.cell (p := ⟨D, m * 3, none⟩) hDs).trans kA, (hb6.cell (p := ⟨D, m * 3 + 1, none⟩) hDs).trans kB⟩
                      try simp only [List.getElem_toArray, List.getElem_cons_succ, List.getElem_cons_zero, Act.put, List.setIfInBounds_toArray, List.set_cons_zero, List.set_cons_succ]
                      refine wpAnyH_take (i := 17) (v := ?_) rfl (by kernel_rfl) (by kernel_rfl) (by kernel_rfl) (fun _ _ _ h => h) (Or.inl ⟨by rfl, ?_⟩) hHeld ?_
                      rotate_left
                      · intro w' hSw
                        go_simp
                        try with_reducible rfl
                      try simp only [List.getElem_toArray, List.getElem_cons_succ, List.getElem_cons_zero, Act.put, List.setIfInBounds_toArray, List.set_cons_zero, List.set_cons_succ]
                      refine wpAnyH_done (by kernel_rfl) ?_ _
                      go_wp2
                      go_meet
                      case rel => exact ⟨wm.heap.size, q, d, rfl, rfl, zF6, Nat.le_refl _, hq6.mono fun _ _ _ => trivial, hb6⟩
                  case rest =>
                    obtain ⟨F, q1, d1, rfl, rfl, zF, hFZ, hqF, hbF⟩ := hcut
                    clear hLook
                    rename World => wn
                    have hbn := hbm.trans (hbF.mono hbm.size)
                    have un := (hbF.cell (p := ⟨U, 0, none⟩) hUm).trans um
                    have hUn := Nat.lt_of_lt_of_le hUm hbF.size
                    have kAc := (hbF.cell (p := ⟨D, m * 3, none⟩) hDs).trans kA
                    have kBc := (hbF.cell (p := ⟨D, m * 3 + 1, none⟩) hDs).trans kB
                    have hDsc := Nat.lt_of_lt_of_le hDs hbF.size
                    have hqn := hqm.same (SameB.of_below hbF)
                    have hFs := (Array.getElem?_eq_some_iff.1 zF).1
                    have hLook : ∀ W, Below wn.heap.size wn W → Calls Tryz.prog 19 #[.agg #[.slice qu (R.length : Nat) du], .string dk, .string dn] W fun e w' => (∃ (q : Option Addr) (d : Nat), e = .returned (.tuple #[.agg #[.int .i64 fv.1.kind, .int .i64 fv.1.num, .string fv.1.text, .slice q (fv.1.list.length : Nat) d], .bool fv.2]) ∧ ListP (fun b => W.heap.size ≤ b) q d fv.1.list w') ∧ Below W.heap.size W w' := fun W hb => by
                      have h9 := lookup_any qu du R dk dn W (hqn.same (SameB.of_below hb)) (by omega) hfR.out
                      unfold LookAt at h9
                      rw [hfd] at h9
                      exact h9
                    replace hLook := Lib.hid hLook
                    clear tm um hrm hqm kA kB hDs hbm hTm hUm
                    go_upto_region 29 with (fail)
                    go_cut [26, 27] (fun a b wx => ∃ (F2 : Nat) (q : Option Addr) (d : Nat), a = .pointer (some ⟨F2, 0, none⟩) ∧ b = .bool fv.2 ∧ wx.heap[F2]? = some (.cells #[.int .i64 fv.1.kind, .int .i64 fv.1.num, .string fv.1.text, .slice q (fv.1.list.length : Nat) d] 41 (0, 0)) ∧ wn.heap.size ≤ F2 ∧ ListP (fun _ => True) q d fv.1.list wx ∧ Below wn.heap.size wn wx)
                    case first =>
                      have hdr := (Below.refl wn.heap.size wn).drew
                      refine wp_region_held_drew (S := fun w' => w'.cell? ⟨U, 0, none⟩ = some (.slice qu R.length du) ∧ w'.cell? ⟨D, m * 3, none⟩ = some (.string dk) ∧ w'.cell? ⟨D, m * 3 + 1, none⟩ = some (.string dn)) (by kernel_rfl) (⟨un, kAc, kBc⟩) (fun hHeld => ?_)
                      refine wpAnyH_take (i := 0) (v := ?_) rfl (by kernel_rfl) (by kernel_rfl) (by kernel_rfl) (fun _ _ _ h => h) (Or.inl ⟨by rfl, ?_⟩) hHeld ?_
                      rotate_left
                      · intro w' hSw
                        obtain ⟨e1, e2, e3⟩ := hSw
                        go_simp
                        try with_reducible rfl
                      try simp only [List.getElem_toArray, List.getElem_cons_succ, List.getElem_cons_zero, Act.put, List.setIfInBounds_toArray, List.set_cons_zero, List.set_cons_succ]
                      refine wpAnyH_take (i := 1) (v := ?_) rfl (by kernel_rfl) (by kernel_rfl) (by kernel_rfl) (fun _ _ _ h => h) (Or.inl ⟨by rfl, ?_⟩) hHeld ?_
                      rotate_left
                      · intro w' hSw
                        go_simp
                        try with_reducible rfl
                      try simp only [List.getElem_toArray, List.getElem_cons_succ, List.getElem_cons_zero, Act.put, List.setIfInBounds_toArray, List.set_cons_zero, List.set_cons_succ]
                      refine wpAnyH_take (i := 2) (v := ?_) rfl (by kernel_rfl) (by kernel_rfl) (by kernel_rfl) (fun _ _ _ h => h) (Or.inl ⟨by rfl, ?_⟩) hHeld ?_
                      rotate_left
                      · intro w' hSw
                        go_simp
                        try with_reducible rfl
                      try simp only [List.getElem_toArray, List.getElem_cons_succ, List.getElem_cons_zero, Act.put, List.setIfInBounds_toArray, List.set_cons_zero, List.set_cons_succ]
                      refine wpAnyH_take (i := 3) (v := ?_) rfl (by kernel_rfl) (by kernel_rfl) (by kernel_rfl) (fun _ _ _ h => h) (Or.inl ⟨by rfl, ?_⟩) hHeld ?_
                      rotate_left
                      · intro w' hSw
                        go_simp
                        try with_reducible rfl
                      try simp only [List.getElem_toArray, List.getElem_cons_succ, List.getElem_cons_zero, Act.put, List.setIfInBounds_toArray, List.set_cons_zero, List.set_cons_succ]
                      refine wpAnyH_take (i := 4) (v := ?_) rfl (by kernel_rfl) (by kernel_rfl) (by kernel_rfl) (fun _ _ _ h => h) (Or.inl ⟨by rfl, ?_⟩) hHeld ?_
                      rotate_left
                      · intro w' hSw
                        go_simp
                        try with_reducible rfl
                      try simp only [List.getElem_toArray, List.getElem_cons_succ, List.getElem_cons_zero, Act.put, List.setIfInBounds_toArray, List.set_cons_zero, List.set_cons_succ]
                      refine wpAnyH_take (i := 5) (v := ?_) rfl (by kernel_rfl) (by kernel_rfl) (by kernel_rfl) (fun _ _ _ h => h) (Or.inl ⟨by rfl, ?_⟩) hHeld ?_
                      rotate_left
                      · intro w' hSw
                        obtain ⟨e1, e2, e3⟩ := hSw
                        go_simp
                        try with_reducible rfl
                      try simp only [List.getElem_toArray, List.getElem_cons_succ, List.getElem_cons_zero, Act.put, List.setIfInBounds_toArray, List.set_cons_zero, List.set_cons_succ]
                      refine wpAnyH_take (i := 6) (v := ?_) rfl (by kernel_rfl) (by kernel_rfl) (by kernel_rfl) (fun _ _ _ h => h) (Or.inl ⟨by rfl, ?_⟩) hHeld ?_
                      rotate_left
                      · intro w' hSw
                        go_simp
                        try with_reducible rfl
                      try simp only [List.getElem_toArray, List.getElem_cons_succ, List.getElem_cons_zero, Act.put, List.setIfInBounds_toArray, List.set_cons_zero, List.set_cons_succ]
                      refine wpAnyH_take (i := 7) (v := ?_) rfl (by kernel_rfl) (by kernel_rfl) (by kernel_rfl) (fun _ _ _ h => h) (Or.inl ⟨by rfl, ?_⟩) hHeld ?_
                      rotate_left
                      · intro w' hSw
                        go_simp
                        try with_reducible rfl
                      try simp only [List.getElem_toArray, List.getElem_cons_succ, List.getElem_cons_zero, Act.put, List.setIfInBounds_toArray, List.set_cons_zero, List.set_cons_succ]
                      refine wpAnyH_take (i := 8) (v := ?_) rfl (by kernel_rfl) (by kernel_rfl) (by kernel_rfl) (fun _ _ _ h => h) (Or.inl ⟨by rfl, ?_⟩) hHeld ?_
                      rotate_left
                      · intro w' hSw
                        go_simp
                        try with_reducible rfl
                      try simp only [List.getElem_toArray, List.getElem_cons_succ, List.getElem_cons_zero, Act.put, List.setIfInBounds_toArray, List.set_cons_zero, List.set_cons_succ]
                      refine wpAnyH_take (i := 9) (v := ?_) rfl (by kernel_rfl) (by kernel_rfl) (by kernel_rfl) (fun _ _ _ h => h) (Or.inl ⟨by rfl, ?_⟩) hHeld ?_
                      rotate_left
                      · intro w' hSw
                        go_simp
                        try with_reducible rfl
                      try simp only [List.getElem_toArray, List.getElem_cons_succ, List.getElem_cons_zero, Act.put, List.setIfInBounds_toArray, List.set_cons_zero, List.set_cons_succ]
                      refine wpAnyH_take (i := 10) (v := ?_) rfl (by kernel_rfl) (by kernel_rfl) (by kernel_rfl) (fun _ _ _ h => h) (Or.inl ⟨by rfl, ?_⟩) hHeld ?_
                      rotate_left
                      · intro w' hSw
                        obtain ⟨e1, e2, e3⟩ := hSw
                        go_simp
                        try with_reducible rfl
                      try simp only [List.getElem_toArray, List.getElem_cons_succ, List.getElem_cons_zero, Act.put, List.setIfInBounds_toArray, List.set_cons_zero, List.set_cons_succ]
                      refine wpAnyH_ready (rs := [11, 15]) (by kernel_rfl) (by simp) ?_
                      refine AllReadyH.cons rfl (fun K hK => ?_) (AllReadyH.cons rfl (fun K hK => ?_) AllReadyH.nil)
                      · go_simp
                        go_at_call 19
                        refine (hLook.out _ hdr).mono ?_
                        rintro e w5 ⟨⟨q, d, rfl, hq⟩, hb5'⟩
                        have hb5 := hdr.trans (hb5'.mono hdr.size)
                        refine hK.out _ _ ⟨(hb5.cell (p := ⟨U, 0, none⟩) hUn).trans un, (hb5.cell (p := ⟨D, m * 3, none⟩) hDsc).trans kAc, (hb5.cell (p := ⟨D, m * 3 + 1, none⟩) hDsc).trans kBc⟩ (fun _ => ?_)
                        clear hK K hHeld
                        have hHeld : (fun w' => w'.cell? ⟨U, 0, none⟩ = some (.slice qu R.length du) ∧ w'.cell? ⟨D, m * 3, none⟩ = some (.string dk) ∧ w'.cell? ⟨D, m * 3 + 1, none⟩ = some (.string dn)) w5 := ⟨(hb5.cell (p := ⟨U, 0, none⟩) hUn).trans un, (hb5.cell (p := ⟨D, m * 3, none⟩) hDsc).trans kAc, (hb5.cell (p := ⟨D, m * 3 + 1, none⟩) hDsc).trans kBc⟩
                        try simp only [List.getElem_toArray, List.getElem_cons_succ, List.getElem_cons_zero, Act.put, List.setIfInBounds_toArray, List.set_cons_zero, List.set_cons_succ]
                        refine wpAnyH_take (i := 12) (v := ?_) rfl (by kernel_rfl) (by kernel_rfl) (by kernel_rfl) (fun _ _ _ h => h) (Or.inl ⟨by rfl, ?_⟩) hHeld ?_
                        rotate_left
                        · intro w' hSw
                          go_simp
                          try with_reducible rfl
                        try simp only [List.getElem_toArray, List.getElem_cons_succ, List.getElem_cons_zero, Act.put, List.setIfInBounds_toArray, List.set_cons_zero, List.set_cons_succ]
                        refine wpAnyH_take (i := 13) (v := ?_) rfl (by kernel_rfl) (by kernel_rfl) (by kernel_rfl) (fun _ _ _ h => h) (Or.inl ⟨by rfl, ?_⟩) hHeld ?_
                        rotate_left
                        · intro w' hSw
                          go_simp
                          try with_reducible rfl
                        try simp only [List.getElem_toArray, List.getElem_cons_succ, List.getElem_cons_zero, Act.put, List.setIfInBounds_toArray, List.set_cons_zero, List.set_cons_succ]
                        refine wpAnyH_take (i := 14) (v := ?_) rfl (by kernel_rfl) (by kernel_rfl) (by kernel_rfl) (fun _ _ _ h => h) (Or.inl ⟨by rfl, ?_⟩) hHeld ?_
                        rotate_left
                        · intro w' hSw
                          go_simp
                          try with_reducible rfl
                        try simp only [List.getElem_toArray, List.getElem_cons_succ, List.getElem_cons_zero, Act.put, List.setIfInBounds_toArray, List.set_cons_zero, List.set_cons_succ]
                        have hal0 := hb5.alloc hb5.size (.cells #[.int .i64 0, .int .i64 0, .string ⟨#[]⟩, .slice none 0 0] 41)
                        have hal1 := hb5.alloc hb5.size (.cells #[.int .i64 fv.1.kind, .int .i64 fv.1.num, .string fv.1.text, .slice q (fv.1.list.length : Nat) d] 41)
                        refine wpAnyH_ready (rs := [15]) (by kernel_rfl) (by simp) ?_
                        refine AllReadyH.cons rfl (fun K hK => ?_) AllReadyH.nil
                        go_simp
                        refine hK.out _ _ ⟨(hal0.cell (p := ⟨U, 0, none⟩) hUn).trans un, (hal0.cell (p := ⟨D, m * 3, none⟩) hDsc).trans kAc, (hal0.cell (p := ⟨D, m * 3 + 1, none⟩) hDsc).trans kBc⟩ (fun _ => ?_)
                        clear hK K
                        try simp only [List.getElem_toArray, List.getElem_cons_succ, List.getElem_cons_zero, Act.put, List.setIfInBounds_toArray, List.set_cons_zero, List.set_cons_succ]
                        refine wpAnyH_ready (rs := [16]) (by kernel_rfl) (by simp) ?_
                        refine AllReadyH.cons rfl (fun K hK => ?_) AllReadyH.nil
                        go_simp
                        refine hK.out _ _ ⟨(hal1.cell (p := ⟨U, 0, none⟩) hUn).trans un, (hal1.cell (p := ⟨D, m * 3, none⟩) hDsc).trans kAc, (hal1.cell (p := ⟨D, m * 3 + 1, none⟩) hDsc).trans kBc⟩ (fun _ => ?_)
                        clear hK K hHeld
                        have hHeld : (fun w' => w'.cell? ⟨U, 0, none⟩ = some (.slice qu R.length du) ∧ w'.cell? ⟨D, m * 3, none⟩ = some (.string dk) ∧ w'.cell? ⟨D, m * 3 + 1, none⟩ = some (.string dn)) (w5.alloc (.cells #[.int .i64 fv.1.kind, .int .i64 fv.1.num, .string fv.1.text, .slice q (fv.1.list.length : Nat) d] 41)) := ⟨(hal1.cell (p := ⟨U, 0, none⟩) hUn).trans un, (hal1.cell (p := ⟨D, m * 3, none⟩) hDsc).trans kAc, (hal1.cell (p := ⟨D, m * 3 + 1, none⟩) hDsc).trans kBc⟩
                        try simp only [List.getElem_toArray, List.getElem_cons_succ, List.getElem_cons_zero, Act.put, List.setIfInBounds_toArray, List.set_cons_zero, List.set_cons_succ]
                        refine wpAnyH_take (i := 17) (v := ?_) rfl (by kernel_rfl) (by kernel_rfl) (by kernel_rfl) (fun _ _ _ h => h) (Or.inl ⟨by rfl, ?_⟩) hHeld ?_
                        rotate_left
                        · intro w' hSw
                          go_simp
                          try with_reducible rfl
                        try simp only [List.getElem_toArray, List.getElem_cons_succ, List.getElem_cons_zero, Act.put, List.setIfInBounds_toArray, List.set_cons_zero, List.set_cons_succ]
                        refine wpAnyH_done (by kernel_rfl) ?_ _
                        go_wp2
                        go_meet
                        case rel => exact ⟨w5.heap.size, q, d, rfl, rfl, heap_alloc_new w5 _, hb5.size, (hq.mono fun _ _ _ => trivial).same (SameB.of_below ((Below.refl w5.heap.size w5).alloc (Nat.le_refl _) _)), hal1⟩
                      · have hal0 := ((Below.refl wn.heap.size wn).alloc (Nat.le_refl _) (.cells #[.int .i64 0, .int .i64 0, .string ⟨#[]⟩, .slice none 0 0] 41)).drew
                        have zF := heap_alloc_new wn (.cells #[.int .i64 0, .int .i64 0, .string ⟨#[]⟩, .slice none 0 0] 41)
                        go_simp
                        refine hK.out _ _ ⟨(hal0.cell (p := ⟨U, 0, none⟩) hUn).trans un, (hal0.cell (p := ⟨D, m * 3, none⟩) hDsc).trans kAc, (hal0.cell (p := ⟨D, m * 3 + 1, none⟩) hDsc).trans kBc⟩ (fun _ => ?_)
                        clear hK K hHeld
                        have hHeld : (fun w' => w'.cell? ⟨U, 0, none⟩ = some (.slice qu R.length du) ∧ w'.cell? ⟨D, m * 3, none⟩ = some (.string dk) ∧ w'.cell? ⟨D, m * 3 + 1, none⟩ = some (.string dn)) (wn.alloc (.cells #[.int .i64 0, .int .i64 0, .string ⟨#[]⟩, .slice none 0 0] 41)).drew := ⟨(hal0.cell (p := ⟨U, 0, none⟩) hUn).trans un, (hal0.cell (p := ⟨D, m * 3, none⟩) hDsc).trans kAc, (hal0.cell (p := ⟨D, m * 3 + 1, none⟩) hDsc).trans kBc⟩
                        try simp only [List.getElem_toArray, List.getElem_cons_succ, List.getElem_cons_zero, Act.put, List.setIfInBounds_toArray, List.set_cons_zero, List.set_cons_succ]
                        refine wpAnyH_ready (rs := [11]) (by kernel_rfl) (by simp) ?_
                        refine AllReadyH.cons rfl (fun K hK => ?_) AllReadyH.nil
                        go_simp
                        go_at_call 19
                        refine (hLook.out _ hal0).mono ?_
                        rintro e w5 ⟨⟨q, d, rfl, hq⟩, hb5'⟩
                        have hb5 := hal0.trans (hb5'.mono hal0.size)
                        have hsF : wn.heap.size < (wn.alloc (.cells #[.int .i64 0, .int .i64 0, .string ⟨#[]⟩, .slice none 0 0] 41)).drew.heap.size := by show wn.heap.size < (wn.alloc (.cells #[.int .i64 0, .int .i64 0, .string ⟨#[]⟩, .slice none 0 0] 41)).heap.size; simp
                        have zF5 : w5.heap[wn.heap.size]? = some (.cells #[.int .i64 0, .int .i64 0, .string ⟨#[]⟩, .slice none 0 0] 41 (0, 0)) := (hb5'.block wn.heap.size hsF).trans zF
                        have k0 : w5.cell? ⟨wn.heap.size, 0, none⟩ = some (.int .i64 0) := by rw [Lib.cell_of_heap zF5]; rfl
                        have k1 : w5.cell? ⟨wn.heap.size, 1, none⟩ = some (.int .i64 0) := by rw [Lib.cell_of_heap zF5]; rfl
                        have k2 : w5.cell? ⟨wn.heap.size, 2, none⟩ = some (.string ⟨#[]⟩) := by rw [Lib.cell_of_heap zF5]; rfl
                        have k3 : w5.cell? ⟨wn.heap.size, 3, none⟩ = some (.slice none 0 0) := by rw [Lib.cell_of_heap zF5]; rfl
                        have kf : ∀ i, w5.frozen? ⟨wn.heap.size, i, none⟩ = false := Lib.frozen_of_heap zF5
                        refine hK.out _ _ ⟨(hb5.cell (p := ⟨U, 0, none⟩) hUn).trans un, (hb5.cell (p := ⟨D, m * 3, none⟩) hDsc).trans kAc, (hb5.cell (p := ⟨D, m * 3 + 1, none⟩) hDsc).trans kBc⟩ (fun _ => ?_)
                        clear hK K hHeld
                        have hHeld : (fun w' => w'.cell? ⟨U, 0, none⟩ = some (.slice qu R.length du) ∧ w'.cell? ⟨D, m * 3, none⟩ = some (.string dk) ∧ w'.cell? ⟨D, m * 3 + 1, none⟩ = some (.string dn)) w5 := ⟨(hb5.cell (p := ⟨U, 0, none⟩) hUn).trans un, (hb5.cell (p := ⟨D, m * 3, none⟩) hDsc).trans kAc, (hb5.cell (p := ⟨D, m * 3 + 1, none⟩) hDsc).trans kBc⟩
                        try simp only [List.getElem_toArray, List.getElem_cons_succ, List.getElem_cons_zero, Act.put, List.setIfInBounds_toArray, List.set_cons_zero, List.set_cons_succ]
                        refine wpAnyH_take (i := 12) (v := ?_) rfl (by kernel_rfl) (by kernel_rfl) (by kernel_rfl) (fun _ _ _ h => h) (Or.inl ⟨by rfl, ?_⟩) hHeld ?_
                        rotate_left
                        · intro w' hSw
                          go_simp
                          try with_reducible rfl
                        try simp only [List.getElem_toArray, List.getElem_cons_succ, List.getElem_cons_zero, Act.put, List.setIfInBounds_toArray, List.set_cons_zero, List.set_cons_succ]
                        refine wpAnyH_take (i := 13) (v := ?_) rfl (by kernel_rfl) (by kernel_rfl) (by kernel_rfl) (fun _ _ _ h => h) (Or.inl ⟨by rfl, ?_⟩) hHeld ?_
                        rotate_left
                        · intro w' hSw
                          go_simp
                          try with_reducible rfl
                        try simp only [List.getElem_toArray, List.getElem_cons_succ, List.getElem_cons_zero, Act.put, List.setIfInBounds_toArray, List.set_cons_zero, List.set_cons_succ]
                        refine wpAnyH_take (i := 14) (v := ?_) rfl (by kernel_rfl) (by kernel_rfl) (by kernel_rfl) (fun _ _ _ h => h) (Or.inl ⟨by rfl, ?_⟩) hHeld ?_
                        rotate_left
                        · intro w' hSw
                          go_simp
                          try with_reducible rfl
                        try simp only [List.getElem_toArray, List.getElem_cons_succ, List.getElem_cons_zero, Act.put, List.setIfInBounds_toArray, List.set_cons_zero, List.set_cons_succ]
                        have hb6 := ((((hb5.setCell (p := ⟨wn.heap.size, 0, none⟩) (Nat.le_refl _) (.int .i64 fv.1.kind)).setCell (p := ⟨wn.heap.size, 1, none⟩) (Nat.le_refl _) (.int .i64 fv.1.num)).setCell (p := ⟨wn.heap.size, 2, none⟩) (Nat.le_refl _) (.string fv.1.text)).setCell (p := ⟨wn.heap.size, 3, none⟩) (Nat.le_refl _) (.slice q (fv.1.list.length : Nat) d))
                        have zF6 : ((((w5.setCell ⟨wn.heap.size, 0, none⟩ (.int .i64 fv.1.kind)).setCell ⟨wn.heap.size, 1, none⟩ (.int .i64 fv.1.num)).setCell ⟨wn.heap.size, 2, none⟩ (.string fv.1.text)).setCell ⟨wn.heap.size, 3, none⟩ (.slice q (fv.1.list.length : Nat) d)).heap[wn.heap.size]? = some (.cells #[.int .i64 fv.1.kind, .int .i64 fv.1.num, .string fv.1.text, .slice q (fv.1.list.length : Nat) d] 41 (0, 0)) := (box_put (box_put (box_put (box_put zF5 _) _) _) _)
                        have hXF : ¬ ((wn.alloc (.cells #[.int .i64 0, .int .i64 0, .string ⟨#[]⟩, .slice none 0 0] 41)).drew.heap.size ≤ wn.heap.size) := by omega
                        have hq6 : ListP (fun b => ((wn.alloc (.cells #[.int .i64 0, .int .i64 0, .string ⟨#[]⟩, .slice none 0 0] 41)).drew.heap.size ≤ b)) q d fv.1.list _ := hq.same (((((SameB.refl _ w5).set (B := wn.heap.size) hXF 0 (.int .i64 fv.1.kind)).set (B := wn.heap.size) hXF 1 (.int .i64 fv.1.num)).set (B := wn.heap.size) hXF 2 (.string fv.1.text)).set (B := wn.heap.size) hXF 3 (.slice q (fv.1.list.length : Nat) d))
                        refine wpAnyH_ready (rs := [16]) (by kernel_rfl) (by simp) ?_
                        refine AllReadyH.cons rfl (fun K hK => ?_) AllReadyH.nil
                        go_simp
                        refine hK.out _ _ ⟨(hb6.cell (p := ⟨U, 0, none⟩) hUn).trans un, (hb6.cell (p := ⟨D, m * 3, none⟩) hDsc).trans kAc, (hb6.cell (p := ⟨D, m * 3 + 1, none⟩) hDsc).trans kBc⟩ (fun _ => ?_)
                        clear hK K hHeld
                        have hHeld : (fun w' => w'.cell? ⟨U, 0, none⟩ = some (.slice qu R.length du) ∧ w'.cell? ⟨D, m * 3, none⟩ = some (.string dk) ∧ w'.cell? ⟨D, m * 3 + 1, none⟩ = some (.string dn)) ((((w5.setCell ⟨wn.heap.size, 0, none⟩ (.int .i64 fv.1.kind)).setCell ⟨wn.heap.size, 1, none⟩ (.int .i64 fv.1.num)).setCell ⟨wn.heap.size, 2, none⟩ (.string fv.1.text)).setCell ⟨wn.heap.size, 3, none⟩ (.slice q (fv.1.list.length : Nat) d)) := ⟨(hb6.cell (p := ⟨U, 0, none⟩) hUn).trans un, (hb6.cell (p := ⟨D, m * 3, none⟩) hDsc).trans kAc, (hb6.cell (p := ⟨D, m * 3 + 1, none⟩) hDsc).trans kBc⟩
                        try simp only [List.getElem_toArray, List.getElem_cons_succ, List.getElem_cons_zero, Act.put, List.setIfInBounds_toArray, List.set_cons_zero, List.set_cons_succ]
                        refine wpAnyH_take (i := 17) (v := ?_) rfl (by kernel_rfl) (by kernel_rfl) (by kernel_rfl) (fun _ _ _ h => h) (Or.inl ⟨by rfl, ?_⟩) hHeld ?_
                        rotate_left
                        · intro w' hSw
                          go_simp
                          try with_reducible rfl
                        try simp only [List.getElem_toArray, List.getElem_cons_succ, List.getElem_cons_zero, Act.put, List.setIfInBounds_toArray, List.set_cons_zero, List.set_cons_succ]
                        refine wpAnyH_done (by kernel_rfl) ?_ _
                        go_wp2
                        go_meet
                        case rel => exact ⟨wn.heap.size, q, d, rfl, rfl, zF6, Nat.le_refl _, hq6.mono fun _ _ _ => trivial, hb6⟩
                    case rest =>
                      obtain ⟨F2, q2, d2, rfl, rfl, zG, hFG, hqG, hbG⟩ := hcut
                      clear hLook
                      have zFG := (hbG.block F hFs).trans zF
                      have hqFG := hqF.same (SameB.of_below hbG)
                      have hbx := hbn.trans (hbG.mono hbn.size)
                      clear un kAc kBc hDsc hqn zF hqF hbG hFs hFG hbn
                      have f0 : wc.cell? ⟨F, 0, none⟩ = some (.int .i64 fv.1.kind) := by rw [Lib.cell_of_heap zFG]; rfl
                      have f1 : wc.cell? ⟨F, 1, none⟩ = some (.int .i64 fv.1.num) := by rw [Lib.cell_of_heap zFG]; rfl
                      have f2 : wc.cell? ⟨F, 2, none⟩ = some (.string fv.1.text) := by rw [Lib.cell_of_heap zFG]; rfl
                      have f3 : wc.cell? ⟨F, 3, none⟩ = some (.slice q1 (fv.1.list.length : Nat) d1) := by rw [Lib.cell_of_heap zFG]; rfl
                      have g0 : wc.cell? ⟨F2, 0, none⟩ = some (.int .i64 fv.1.kind) := by rw [Lib.cell_of_heap zG]; rfl
                      have g1 : wc.cell? ⟨F2, 1, none⟩ = some (.int .i64 fv.1.num) := by rw [Lib.cell_of_heap zG]; rfl
                      have g2 : wc.cell? ⟨F2, 2, none⟩ = some (.string fv.1.text) := by rw [Lib.cell_of_heap zG]; rfl
                      have g3 : wc.cell? ⟨F2, 3, none⟩ = some (.slice q2 (fv.1.list.length : Nat) d2) := by rw [Lib.cell_of_heap zG]; rfl
                      have heq := equal_refl fv.1 q1 q2 d1 d2 wc (by omega) hqFG hqG
                      unfold Val.agg at heq
                      replace heq := Lib.hid heq
                      clear zFG zG hqFG hqG
                      go_wp2_with (go_at_call 20; refine heq.out.mono ?_; rintro e w6 ⟨rfl, hb6⟩)
                      go_roundw
                      case rel => exact ⟨m + 1, by omega, by go_num, hbx.trans (hb6.mono hbx.size)⟩
                      case measure => simp [intOf]; omega
                | true =>
                  cases hb2 : (dn.toList == nm.toList) with
                  | true =>
                    go_wp2
                    go_roundw
                    case rel => exact ⟨m + 1, by omega, by go_num, hbm⟩
                    case measure => simp [intOf]; omega
                  | false =>
                    have hne : ¬ (dk = kd ∧ dn = nm) := fun h => by rw [h.2] at hb2; simp at hb2
                    have hfd := hlk2.out dk dn hne
                    obtain ⟨fv, hfv⟩ : ∃ fv, foundV dk dn LX = fv := ⟨_, rfl⟩
                    rw [hfv] at hfd
                    have hfl := foundV_list (kd := dk) (nm := dn) (l := LX) hlX2.out
                    rw [hfv] at hfl
                    have tm := (hbm.cell (p := ⟨T, 0, none⟩) hTs23).trans t23
                    have um := (hbm.cell (p := ⟨U, 0, none⟩) hUs23).trans u23
                    have hTm := Nat.lt_of_lt_of_le hTs23 hbm.size
                    have hUm := Nat.lt_of_lt_of_le hUs23 hbm.size
                    have hrm := hrow23.same (SameB.of_below hbm)
                    have hqm := hqu23.same (SameB.of_below hbm)
                    have hLook : ∀ W, Below wm.heap.size wm W → Calls Tryz.prog 22 #[.agg #[.slice p (LX.length : Nat) c], .string dk, .string dn] W fun e w' => (∃ (q : Option Addr) (d : Nat), e = .returned (.tuple #[.agg #[.int .i64 fv.1.kind, .int .i64 fv.1.num, .string fv.1.text, .slice q (fv.1.list.length : Nat) d], .bool fv.2]) ∧ ListP (fun b => b < wm.heap.size ∧ b < W.heap.size) q d fv.1.list w') ∧ Below W.heap.size W w' := fun W hb => by
                      have h9 := refLookup_any (P := fun b => b < wm.heap.size) p c LX dk dn W ((hrm.mono fun b h _ => h).same (SameB.of_below hb)) (by omega) hlX.out
                      unfold LookAt at h9
                      rw [hfv] at h9
                      exact h9
                    replace hLook := Lib.hid hLook
                    go_upto_region 28 with (fail)
                    go_cut [24, 25] (fun a b wx => ∃ (F : Nat) (q : Option Addr) (d : Nat), a = .pointer (some ⟨F, 0, none⟩) ∧ b = .bool fv.2 ∧ wx.heap[F]? = some (.cells #[.int .i64 fv.1.kind, .int .i64 fv.1.num, .string fv.1.text, .slice q (fv.1.list.length : Nat) d] 41 (0, 0)) ∧ wm.heap.size ≤ F ∧ ListP (fun _ => True) q d fv.1.list wx ∧ Below wm.heap.size wm wx)
                    case first =>
                      have hdr := (Below.refl wm.heap.size wm).drew
                      refine wp_region_held_drew (S := fun w' => w'.cell? ⟨T, 0, none⟩ = some (.slice p LX.length c) ∧ w'.cell? ⟨D, m * 3, none⟩ = some (.string dk) ∧ w'.cell? ⟨D, m * 3 + 1, none⟩ = some (.string dn)) (by kernel_rfl) (⟨tm, kA, kB⟩) (fun hHeld => ?_)
                      refine wpAnyH_take (i := 0) (v := ?_) rfl (by kernel_rfl) (by kernel_rfl) (by kernel_rfl) (fun _ _ _ h => h) (Or.inl ⟨by rfl, ?_⟩) hHeld ?_
                      rotate_left
                      · intro w' hSw
                        obtain ⟨e1, e2, e3⟩ := hSw
                        go_simp
                        try with_reducible rfl
                      try simp only [List.getElem_toArray, List.getElem_cons_succ, List.getElem_cons_zero, Act.put, List.setIfInBounds_toArray, List.set_cons_zero, List.set_cons_succ]
                      refine wpAnyH_take (i := 1) (v := ?_) rfl (by kernel_rfl) (by kernel_rfl) (by kernel_rfl) (fun _ _ _ h => h) (Or.inl ⟨by rfl, ?_⟩) hHeld ?_
                      rotate_left
                      · intro w' hSw
                        go_simp
                        try with_reducible rfl
                      try simp only [List.getElem_toArray, List.getElem_cons_succ, List.getElem_cons_zero, Act.put, List.setIfInBounds_toArray, List.set_cons_zero, List.set_cons_succ]
                      refine wpAnyH_take (i := 2) (v := ?_) rfl (by kernel_rfl) (by kernel_rfl) (by kernel_rfl) (fun _ _ _ h => h) (Or.inl ⟨by rfl, ?_⟩) hHeld ?_
                      rotate_left
                      · intro w' hSw
                        go_simp
                        try with_reducible rfl
                      try simp only [List.getElem_toArray, List.getElem_cons_succ, List.getElem_cons_zero, Act.put, List.setIfInBounds_toArray, List.set_cons_zero, List.set_cons_succ]
                      refine wpAnyH_take (i := 3) (v := ?_) rfl (by kernel_rfl) (by kernel_rfl) (by kernel_rfl) (fun _ _ _ h => h) (Or.inl ⟨by rfl, ?_⟩) hHeld ?_
                      rotate_left
                      · intro w' hSw
                        go_simp
                        try with_reducible rfl
                      try simp only [List.getElem_toArray, List.getElem_cons_succ, List.getElem_cons_zero, Act.put, List.setIfInBounds_toArray, List.set_cons_zero, List.set_cons_succ]
                      refine wpAnyH_take (i := 4) (v := ?_) rfl (by kernel_rfl) (by kernel_rfl) (by kernel_rfl) (fun _ _ _ h => h) (Or.inl ⟨by rfl, ?_⟩) hHeld ?_
                      rotate_left
                      · intro w' hSw
                        go_simp
                        try with_reducible rfl
                      try simp only [List.getElem_toArray, List.getElem_cons_succ, List.getElem_cons_zero, Act.put, List.setIfInBounds_toArray, List.set_cons_zero, List.set_cons_succ]
                      refine wpAnyH_take (i := 5) (v := ?_) rfl (by kernel_rfl) (by kernel_rfl) (by kernel_rfl) (fun _ _ _ h => h) (Or.inl ⟨by rfl, ?_⟩) hHeld ?_
                      rotate_left
                      · intro w' hSw
                        obtain ⟨e1, e2, e3⟩ := hSw
                        go_simp
                        try with_reducible rfl
                      try simp only [List.getElem_toArray, List.getElem_cons_succ, List.getElem_cons_zero, Act.put, List.setIfInBounds_toArray, List.set_cons_zero, List.set_cons_succ]
                      refine wpAnyH_take (i := 6) (v := ?_) rfl (by kernel_rfl) (by kernel_rfl) (by kernel_rfl) (fun _ _ _ h => h) (Or.inl ⟨by rfl, ?_⟩) hHeld ?_
                      rotate_left
                      · intro w' hSw
                        go_simp
                        try with_reducible rfl
                      try simp only [List.getElem_toArray, List.getElem_cons_succ, List.getElem_cons_zero, Act.put, List.setIfInBounds_toArray, List.set_cons_zero, List.set_cons_succ]
                      refine wpAnyH_take (i := 7) (v := ?_) rfl (by kernel_rfl) (by kernel_rfl) (by kernel_rfl) (fun _ _ _ h => h) (Or.inl ⟨by rfl, ?_⟩) hHeld ?_
                      rotate_left
                      · intro w' hSw
                        go_simp
                        try with_reducible rfl
                      try simp only [List.getElem_toArray, List.getElem_cons_succ, List.getElem_cons_zero, Act.put, List.setIfInBounds_toArray, List.set_cons_zero, List.set_cons_succ]
                      refine wpAnyH_take (i := 8) (v := ?_) rfl (by kernel_rfl) (by kernel_rfl) (by kernel_rfl) (fun _ _ _ h => h) (Or.inl ⟨by rfl, ?_⟩) hHeld ?_
                      rotate_left
                      · intro w' hSw
                        go_simp
                        try with_reducible rfl
                      try simp only [List.getElem_toArray, List.getElem_cons_succ, List.getElem_cons_zero, Act.put, List.setIfInBounds_toArray, List.set_cons_zero, List.set_cons_succ]
                      refine wpAnyH_take (i := 9) (v := ?_) rfl (by kernel_rfl) (by kernel_rfl) (by kernel_rfl) (fun _ _ _ h => h) (Or.inl ⟨by rfl, ?_⟩) hHeld ?_
                      rotate_left
                      · intro w' hSw
                        go_simp
                        try with_reducible rfl
                      try simp only [List.getElem_toArray, List.getElem_cons_succ, List.getElem_cons_zero, Act.put, List.setIfInBounds_toArray, List.set_cons_zero, List.set_cons_succ]
                      refine wpAnyH_take (i := 10) (v := ?_) rfl (by kernel_rfl) (by kernel_rfl) (by kernel_rfl) (fun _ _ _ h => h) (Or.inl ⟨by rfl, ?_⟩) hHeld ?_
                      rotate_left
                      · intro w' hSw
                        obtain ⟨e1, e2, e3⟩ := hSw
                        go_simp
                        try with_reducible rfl
                      try simp only [List.getElem_toArray, List.getElem_cons_succ, List.getElem_cons_zero, Act.put, List.setIfInBounds_toArray, List.set_cons_zero, List.set_cons_succ]
                      refine wpAnyH_ready (rs := [11, 15]) (by kernel_rfl) (by simp) ?_
                      refine AllReadyH.cons rfl (fun K hK => ?_) (AllReadyH.cons rfl (fun K hK => ?_) AllReadyH.nil)
                      · go_simp
                        go_at_call 22
                        refine (hLook.out _ hdr).mono ?_
                        rintro e w5 ⟨⟨q, d, rfl, hq⟩, hb5'⟩
                        have hb5 := hdr.trans (hb5'.mono hdr.size)
                        refine hK.out _ _ ⟨(hb5.cell (p := ⟨T, 0, none⟩) hTm).trans tm, (hb5.cell (p := ⟨D, m * 3, none⟩) hDs).trans kA, (hb5.cell (p := ⟨D, m * 3 + 1, none⟩) hDs).trans kB⟩ (fun _ => ?_)
                        clear hK K hHeld
                        have hHeld : (fun w' => w'.cell? ⟨T, 0, none⟩ = some (.slice p LX.length c) ∧ w'.cell? ⟨D, m * 3, none⟩ = some (.string dk) ∧ w'.cell? ⟨D, m * 3 + 1, none⟩ = some (.string dn)) w5 := ⟨(hb5.cell (p := ⟨T, 0, none⟩) hTm).trans tm, (hb5.cell (p := ⟨D, m * 3, none⟩) hDs).trans kA, (hb5.cell (p := ⟨D, m * 3 + 1, none⟩) hDs).trans kB⟩
                        try simp only [List.getElem_toArray, List.getElem_cons_succ, List.getElem_cons_zero, Act.put, List.setIfInBounds_toArray, List.set_cons_zero, List.set_cons_succ]
                        refine wpAnyH_take (i := 12) (v := ?_) rfl (by kernel_rfl) (by kernel_rfl) (by kernel_rfl) (fun _ _ _ h => h) (Or.inl ⟨by rfl, ?_⟩) hHeld ?_
                        rotate_left
                        · intro w' hSw
                          go_simp
                          try with_reducible rfl
                        try simp only [List.getElem_toArray, List.getElem_cons_succ, List.getElem_cons_zero, Act.put, List.setIfInBounds_toArray, List.set_cons_zero, List.set_cons_succ]
                        refine wpAnyH_take (i := 13) (v := ?_) rfl (by kernel_rfl) (by kernel_rfl) (by kernel_rfl) (fun _ _ _ h => h) (Or.inl ⟨by rfl, ?_⟩) hHeld ?_
                        rotate_left
                        · intro w' hSw
                          go_simp
                          try with_reducible rfl
                        try simp only [List.getElem_toArray, List.getElem_cons_succ, List.getElem_cons_zero, Act.put, List.setIfInBounds_toArray, List.set_cons_zero, List.set_cons_succ]
                        refine wpAnyH_take (i := 14) (v := ?_) rfl (by kernel_rfl) (by kernel_rfl) (by kernel_rfl) (fun _ _ _ h => h) (Or.inl ⟨by rfl, ?_⟩) hHeld ?_
                        rotate_left
                        · intro w' hSw
                          go_simp
                          try with_reducible rfl
                        try simp only [List.getElem_toArray, List.getElem_cons_succ, List.getElem_cons_zero, Act.put, List.setIfInBounds_toArray, List.set_cons_zero, List.set_cons_succ]
                        have hal0 := hb5.alloc hb5.size (.cells #[.int .i64 0, .int .i64 0, .string ⟨#[]⟩, .slice none 0 0] 41)
                        have hal1 := hb5.alloc hb5.size (.cells #[.int .i64 fv.1.kind, .int .i64 fv.1.num, .string fv.1.text, .slice q (fv.1.list.length : Nat) d] 41)
                        refine wpAnyH_ready (rs := [15]) (by kernel_rfl) (by simp) ?_
                        refine AllReadyH.cons rfl (fun K hK => ?_) AllReadyH.nil
                        go_simp
                        refine hK.out _ _ ⟨(hal0.cell (p := ⟨T, 0, none⟩) hTm).trans tm, (hal0.cell (p := ⟨D, m * 3, none⟩) hDs).trans kA, (hal0.cell (p := ⟨D, m * 3 + 1, none⟩) hDs).trans kB⟩ (fun _ => ?_)
                        clear hK K
                        try simp only [List.getElem_toArray, List.getElem_cons_succ, List.getElem_cons_zero, Act.put, List.setIfInBounds_toArray, List.set_cons_zero, List.set_cons_succ]
                        refine wpAnyH_ready (rs := [16]) (by kernel_rfl) (by simp) ?_
                        refine AllReadyH.cons rfl (fun K hK => ?_) AllReadyH.nil
                        go_simp
                        refine hK.out _ _ ⟨(hal1.cell (p := ⟨T, 0, none⟩) hTm).trans tm, (hal1.cell (p := ⟨D, m * 3, none⟩) hDs).trans kA, (hal1.cell (p := ⟨D, m * 3 + 1, none⟩) hDs).trans kB⟩ (fun _ => ?_)
                        clear hK K hHeld
                        have hHeld : (fun w' => w'.cell? ⟨T, 0, none⟩ = some (.slice p LX.length c) ∧ w'.cell? ⟨D, m * 3, none⟩ = some (.string dk) ∧ w'.cell? ⟨D, m * 3 + 1, none⟩ = some (.string dn)) (w5.alloc (.cells #[.int .i64 fv.1.kind, .int .i64 fv.1.num, .string fv.1.text, .slice q (fv.1.list.length : Nat) d] 41)) := ⟨(hal1.cell (p := ⟨T, 0, none⟩) hTm).trans tm, (hal1.cell (p := ⟨D, m * 3, none⟩) hDs).trans kA, (hal1.cell (p := ⟨D, m * 3 + 1, none⟩) hDs).trans kB⟩
                        try simp only [List.getElem_toArray, List.getElem_cons_succ, List.getElem_cons_zero, Act.put, List.setIfInBounds_toArray, List.set_cons_zero, List.set_cons_succ]
                        refine wpAnyH_take (i := 17) (v := ?_) rfl (by kernel_rfl) (by kernel_rfl) (by kernel_rfl) (fun _ _ _ h => h) (Or.inl ⟨by rfl, ?_⟩) hHeld ?_
                        rotate_left
                        · intro w' hSw
                          go_simp
                          try with_reducible rfl
                        try simp only [List.getElem_toArray, List.getElem_cons_succ, List.getElem_cons_zero, Act.put, List.setIfInBounds_toArray, List.set_cons_zero, List.set_cons_succ]
                        refine wpAnyH_done (by kernel_rfl) ?_ _
                        go_wp2
                        go_meet
                        case rel => exact ⟨w5.heap.size, q, d, rfl, rfl, heap_alloc_new w5 _, hb5.size, (hq.mono fun _ _ _ => trivial).same (SameB.of_below ((Below.refl w5.heap.size w5).alloc (Nat.le_refl _) _)), hal1⟩
                      · have hal0 := ((Below.refl wm.heap.size wm).alloc (Nat.le_refl _) (.cells #[.int .i64 0, .int .i64 0, .string ⟨#[]⟩, .slice none 0 0] 41)).drew
                        have zF := heap_alloc_new wm (.cells #[.int .i64 0, .int .i64 0, .string ⟨#[]⟩, .slice none 0 0] 41)
                        go_simp
                        refine hK.out _ _ ⟨(hal0.cell (p := ⟨T, 0, none⟩) hTm).trans tm, (hal0.cell (p := ⟨D, m * 3, none⟩) hDs).trans kA, (hal0.cell (p := ⟨D, m * 3 + 1, none⟩) hDs).trans kB⟩ (fun _ => ?_)
                        clear hK K hHeld
                        have hHeld : (fun w' => w'.cell? ⟨T, 0, none⟩ = some (.slice p LX.length c) ∧ w'.cell? ⟨D, m * 3, none⟩ = some (.string dk) ∧ w'.cell? ⟨D, m * 3 + 1, none⟩ = some (.string dn)) (wm.alloc (.cells #[.int .i64 0, .int .i64 0, .string ⟨#[]⟩, .slice none 0 0] 41)).drew := ⟨(hal0.cell (p := ⟨T, 0, none⟩) hTm).trans tm, (hal0.cell (p := ⟨D, m * 3, none⟩) hDs).trans kA, (hal0.cell (p := ⟨D, m * 3 + 1, none⟩) hDs).trans kB⟩
                        try simp only [List.getElem_toArray, List.getElem_cons_succ, List.getElem_cons_zero, Act.put, List.setIfInBounds_toArray, List.set_cons_zero, List.set_cons_succ]
                        refine wpAnyH_ready (rs := [11]) (by kernel_rfl) (by simp) ?_
                        refine AllReadyH.cons rfl (fun K hK => ?_) AllReadyH.nil
                        go_simp
                        go_at_call 22
                        refine (hLook.out _ hal0).mono ?_
                        rintro e w5 ⟨⟨q, d, rfl, hq⟩, hb5'⟩
                        have hb5 := hal0.trans (hb5'.mono hal0.size)
                        have hsF : wm.heap.size < (wm.alloc (.cells #[.int .i64 0, .int .i64 0, .string ⟨#[]⟩, .slice none 0 0] 41)).drew.heap.size := by show wm.heap.size < (wm.alloc (.cells #[.int .i64 0, .int .i64 0, .string ⟨#[]⟩, .slice none 0 0] 41)).heap.size; simp
                        have zF5 : w5.heap[wm.heap.size]? = some (.cells #[.int .i64 0, .int .i64 0, .string ⟨#[]⟩, .slice none 0 0] 41 (0, 0)) := (hb5'.block wm.heap.size hsF).trans zF
                        have k0 : w5.cell? ⟨wm.heap.size, 0, none⟩ = some (.int .i64 0) := by rw [Lib.cell_of_heap zF5]; rfl
                        have k1 : w5.cell? ⟨wm.heap.size, 1, none⟩ = some (.int .i64 0) := by rw [Lib.cell_of_heap zF5]; rfl
                        have k2 : w5.cell? ⟨wm.heap.size, 2, none⟩ = some (.string ⟨#[]⟩) := by rw [Lib.cell_of_heap zF5]; rfl
                        have k3 : w5.cell? ⟨wm.heap.size, 3, none⟩ = some (.slice none 0 0) := by rw [Lib.cell_of_heap zF5]; rfl
                        have kf : ∀ i, w5.frozen? ⟨wm.heap.size, i, none⟩ = false := Lib.frozen_of_heap zF5
                        refine hK.out _ _ ⟨(hb5.cell (p := ⟨T, 0, none⟩) hTm).trans tm, (hb5.cell (p := ⟨D, m * 3, none⟩) hDs).trans kA, (hb5.cell (p := ⟨D, m * 3 + 1, none⟩) hDs).trans kB⟩ (fun _ => ?_)
                        clear hK K hHeld
                        have hHeld : (fun w' => w'.cell? ⟨T, 0, none⟩ = some (.slice p LX.length c) ∧ w'.cell? ⟨D, m * 3, none⟩ = some (.string dk) ∧ w'.cell? ⟨D, m * 3 + 1, none⟩ = some (.string dn)) w5 := ⟨(hb5.cell (p := ⟨T, 0, none⟩) hTm).trans tm, (hb5.cell (p := ⟨D, m * 3, none⟩) hDs).trans kA, (hb5.cell (p := ⟨D, m * 3 + 1, none⟩) hDs).trans kB⟩
                        try simp only [List.getElem_toArray, List.getElem_cons_succ, List.getElem_cons_zero, Act.put, List.setIfInBounds_toArray, List.set_cons_zero, List.set_cons_succ]
                        refine wpAnyH_take (i := 12) (v := ?_) rfl (by kernel_rfl) (by kernel_rfl) (by kernel_rfl) (fun _ _ _ h => h) (Or.inl ⟨by rfl, ?_⟩) hHeld ?_
                        rotate_left
                        · intro w' hSw
                          go_simp
                          try with_reducible rfl
                        try simp only [List.getElem_toArray, List.getElem_cons_succ, List.getElem_cons_zero, Act.put, List.setIfInBounds_toArray, List.set_cons_zero, List.set_cons_succ]
                        refine wpAnyH_take (i := 13) (v := ?_) rfl (by kernel_rfl) (by kernel_rfl) (by kernel_rfl) (fun _ _ _ h => h) (Or.inl ⟨by rfl, ?_⟩) hHeld ?_
                        rotate_left
                        · intro w' hSw
                          go_simp
                          try with_reducible rfl
                        try simp only [List.getElem_toArray, List.getElem_cons_succ, List.getElem_cons_zero, Act.put, List.setIfInBounds_toArray, List.set_cons_zero, List.set_cons_succ]
                        refine wpAnyH_take (i := 14) (v := ?_) rfl (by kernel_rfl) (by kernel_rfl) (by kernel_rfl) (fun _ _ _ h => h) (Or.inl ⟨by rfl, ?_⟩) hHeld ?_
                        rotate_left
                        · intro w' hSw
                          go_simp
                          try with_reducible rfl
                        try simp only [List.getElem_toArray, List.getElem_cons_succ, List.getElem_cons_zero, Act.put, List.setIfInBounds_toArray, List.set_cons_zero, List.set_cons_succ]
                        have hb6 := ((((hb5.setCell (p := ⟨wm.heap.size, 0, none⟩) (Nat.le_refl _) (.int .i64 fv.1.kind)).setCell (p := ⟨wm.heap.size, 1, none⟩) (Nat.le_refl _) (.int .i64 fv.1.num)).setCell (p := ⟨wm.heap.size, 2, none⟩) (Nat.le_refl _) (.string fv.1.text)).setCell (p := ⟨wm.heap.size, 3, none⟩) (Nat.le_refl _) (.slice q (fv.1.list.length : Nat) d))
                        have zF6 : ((((w5.setCell ⟨wm.heap.size, 0, none⟩ (.int .i64 fv.1.kind)).setCell ⟨wm.heap.size, 1, none⟩ (.int .i64 fv.1.num)).setCell ⟨wm.heap.size, 2, none⟩ (.string fv.1.text)).setCell ⟨wm.heap.size, 3, none⟩ (.slice q (fv.1.list.length : Nat) d)).heap[wm.heap.size]? = some (.cells #[.int .i64 fv.1.kind, .int .i64 fv.1.num, .string fv.1.text, .slice q (fv.1.list.length : Nat) d] 41 (0, 0)) := (box_put (box_put (box_put (box_put zF5 _) _) _) _)
                        have hXF : ¬ (wm.heap.size < wm.heap.size ∧ wm.heap.size < (wm.alloc (.cells #[.int .i64 0, .int .i64 0, .string ⟨#[]⟩, .slice none 0 0] 41)).drew.heap.size) := fun h => absurd h.1 (Nat.lt_irrefl _)
                        have hq6 : ListP (fun b => (b < wm.heap.size ∧ b < (wm.alloc (.cells #[.int .i64 0, .int .i64 0, .string ⟨#[]⟩, .slice none 0 0] 41)).drew.heap.size)) q d fv.1.list _ := hq.same (((((SameB.refl _ w5).set (B := wm.heap.size) hXF 0 (.int .i64 fv.1.kind)).set (B := wm.heap.size) hXF 1 (.int .i64 fv.1.num)).set (B := wm.heap.size) hXF 2 (.string fv.1.text)).set (B := wm.heap.size) hXF 3 (.slice q (fv.1.list.length : Nat) d))
                        refine wpAnyH_ready (rs := [16]) (by kernel_rfl) (by simp) ?_
                        refine AllReadyH.cons rfl (fun K hK => ?_) AllReadyH.nil
                        go_simp
                        refine hK.out _ _ ⟨(hb6.cell (p := ⟨T, 0, none⟩) hTm).trans tm, (hb6.cell (p := ⟨D, m * 3, none⟩) hDs).trans kA, (hb6.cell (p := ⟨D, m * 3 + 1, none⟩) hDs).trans kB⟩ (fun _ => ?_)
                        clear hK K hHeld
                        have hHeld : (fun w' => w'.cell? ⟨T, 0, none⟩ = some (.slice p LX.length c) ∧ w'.cell? ⟨D, m * 3, none⟩ = some (.string dk) ∧ w'.cell? ⟨D, m * 3 + 1, none⟩ = some (.string dn)) ((((w5.setCell ⟨wm.heap.size, 0, none⟩ (.int .i64 fv.1.kind)).setCell ⟨wm.heap.size, 1, none⟩ (.int .i64 fv.1.num)).setCell ⟨wm.heap.size, 2, none⟩ (.string fv.1.text)).setCell ⟨wm.heap.size, 3, none⟩ (.slice q (fv.1.list.length : Nat) d)) := ⟨(hb6.cell (p := ⟨T, 0, none⟩) hTm).trans tm, (hb6.cell (p := ⟨D, m * 3, none⟩) hDs).trans kA, (hb6.cell (p := ⟨D, m * 3 + 1, none⟩) hDs).trans kB⟩
                        try simp only [List.getElem_toArray, List.getElem_cons_succ, List.getElem_cons_zero, Act.put, List.setIfInBounds_toArray, List.set_cons_zero, List.set_cons_succ]
                        refine wpAnyH_take (i := 17) (v := ?_) rfl (by kernel_rfl) (by kernel_rfl) (by kernel_rfl) (fun _ _ _ h => h) (Or.inl ⟨by rfl, ?_⟩) hHeld ?_
                        rotate_left
                        · intro w' hSw
                          go_simp
                          try with_reducible rfl
                        try simp only [List.getElem_toArray, List.getElem_cons_succ, List.getElem_cons_zero, Act.put, List.setIfInBounds_toArray, List.set_cons_zero, List.set_cons_succ]
                        refine wpAnyH_done (by kernel_rfl) ?_ _
                        go_wp2
                        go_meet
                        case rel => exact ⟨wm.heap.size, q, d, rfl, rfl, zF6, Nat.le_refl _, hq6.mono fun _ _ _ => trivial, hb6⟩
                    case rest =>
                      obtain ⟨F, q1, d1, rfl, rfl, zF, hFZ, hqF, hbF⟩ := hcut
                      clear hLook
                      rename World => wn
                      have hbn := hbm.trans (hbF.mono hbm.size)
                      have un := (hbF.cell (p := ⟨U, 0, none⟩) hUm).trans um
                      have hUn := Nat.lt_of_lt_of_le hUm hbF.size
                      have kAc := (hbF.cell (p := ⟨D, m * 3, none⟩) hDs).trans kA
                      have kBc := (hbF.cell (p := ⟨D, m * 3 + 1, none⟩) hDs).trans kB
                      have hDsc := Nat.lt_of_lt_of_le hDs hbF.size
                      have hqn := hqm.same (SameB.of_below hbF)
                      have hFs := (Array.getElem?_eq_some_iff.1 zF).1
                      have hLook : ∀ W, Below wn.heap.size wn W → Calls Tryz.prog 19 #[.agg #[.slice qu (R.length : Nat) du], .string dk, .string dn] W fun e w' => (∃ (q : Option Addr) (d : Nat), e = .returned (.tuple #[.agg #[.int .i64 fv.1.kind, .int .i64 fv.1.num, .string fv.1.text, .slice q (fv.1.list.length : Nat) d], .bool fv.2]) ∧ ListP (fun b => W.heap.size ≤ b) q d fv.1.list w') ∧ Below W.heap.size W w' := fun W hb => by
                        have h9 := lookup_any qu du R dk dn W (hqn.same (SameB.of_below hb)) (by omega) hfR.out
                        unfold LookAt at h9
                        rw [hfd] at h9
                        exact h9
                      replace hLook := Lib.hid hLook
                      clear tm um hrm hqm kA kB hDs hbm hTm hUm
                      go_upto_region 29 with (fail)
                      go_cut [26, 27] (fun a b wx => ∃ (F2 : Nat) (q : Option Addr) (d : Nat), a = .pointer (some ⟨F2, 0, none⟩) ∧ b = .bool fv.2 ∧ wx.heap[F2]? = some (.cells #[.int .i64 fv.1.kind, .int .i64 fv.1.num, .string fv.1.text, .slice q (fv.1.list.length : Nat) d] 41 (0, 0)) ∧ wn.heap.size ≤ F2 ∧ ListP (fun _ => True) q d fv.1.list wx ∧ Below wn.heap.size wn wx)
                      case first =>
                        have hdr := (Below.refl wn.heap.size wn).drew
                        refine wp_region_held_drew (S := fun w' => w'.cell? ⟨U, 0, none⟩ = some (.slice qu R.length du) ∧ w'.cell? ⟨D, m * 3, none⟩ = some (.string dk) ∧ w'.cell? ⟨D, m * 3 + 1, none⟩ = some (.string dn)) (by kernel_rfl) (⟨un, kAc, kBc⟩) (fun hHeld => ?_)
                        refine wpAnyH_take (i := 0) (v := ?_) rfl (by kernel_rfl) (by kernel_rfl) (by kernel_rfl) (fun _ _ _ h => h) (Or.inl ⟨by rfl, ?_⟩) hHeld ?_
                        rotate_left
                        · intro w' hSw
                          obtain ⟨e1, e2, e3⟩ := hSw
                          go_simp
                          try with_reducible rfl
                        try simp only [List.getElem_toArray, List.getElem_cons_succ, List.getElem_cons_zero, Act.put, List.setIfInBounds_toArray, List.set_cons_zero, List.set_cons_succ]
                        refine wpAnyH_take (i := 1) (v := ?_) rfl (by kernel_rfl) (by kernel_rfl) (by kernel_rfl) (fun _ _ _ h => h) (Or.inl ⟨by rfl, ?_⟩) hHeld ?_
                        rotate_left
                        · intro w' hSw
                          go_simp
                          try with_reducible rfl
                        try simp only [List.getElem_toArray, List.getElem_cons_succ, List.getElem_cons_zero, Act.put, List.setIfInBounds_toArray, List.set_cons_zero, List.set_cons_succ]
                        refine wpAnyH_take (i := 2) (v := ?_) rfl (by kernel_rfl) (by kernel_rfl) (by kernel_rfl) (fun _ _ _ h => h) (Or.inl ⟨by rfl, ?_⟩) hHeld ?_
                        rotate_left
                        · intro w' hSw
                          go_simp
                          try with_reducible rfl
                        try simp only [List.getElem_toArray, List.getElem_cons_succ, List.getElem_cons_zero, Act.put, List.setIfInBounds_toArray, List.set_cons_zero, List.set_cons_succ]
                        refine wpAnyH_take (i := 3) (v := ?_) rfl (by kernel_rfl) (by kernel_rfl) (by kernel_rfl) (fun _ _ _ h => h) (Or.inl ⟨by rfl, ?_⟩) hHeld ?_
                        rotate_left
                        · intro w' hSw
                          go_simp
                          try with_reducible rfl
                        try simp only [List.getElem_toArray, List.getElem_cons_succ, List.getElem_cons_zero, Act.put, List.setIfInBounds_toArray, List.set_cons_zero, List.set_cons_succ]
                        refine wpAnyH_take (i := 4) (v := ?_) rfl (by kernel_rfl) (by kernel_rfl) (by kernel_rfl) (fun _ _ _ h => h) (Or.inl ⟨by rfl, ?_⟩) hHeld ?_
                        rotate_left
                        · intro w' hSw
                          go_simp
                          try with_reducible rfl
                        try simp only [List.getElem_toArray, List.getElem_cons_succ, List.getElem_cons_zero, Act.put, List.setIfInBounds_toArray, List.set_cons_zero, List.set_cons_succ]
                        refine wpAnyH_take (i := 5) (v := ?_) rfl (by kernel_rfl) (by kernel_rfl) (by kernel_rfl) (fun _ _ _ h => h) (Or.inl ⟨by rfl, ?_⟩) hHeld ?_
                        rotate_left
                        · intro w' hSw
                          obtain ⟨e1, e2, e3⟩ := hSw
                          go_simp
                          try with_reducible rfl
                        try simp only [List.getElem_toArray, List.getElem_cons_succ, List.getElem_cons_zero, Act.put, List.setIfInBounds_toArray, List.set_cons_zero, List.set_cons_succ]
                        refine wpAnyH_take (i := 6) (v := ?_) rfl (by kernel_rfl) (by kernel_rfl) (by kernel_rfl) (fun _ _ _ h => h) (Or.inl ⟨by rfl, ?_⟩) hHeld ?_
                        rotate_left
                        · intro w' hSw
                          go_simp
                          try with_reducible rfl
                        try simp only [List.getElem_toArray, List.getElem_cons_succ, List.getElem_cons_zero, Act.put, List.setIfInBounds_toArray, List.set_cons_zero, List.set_cons_succ]
                        refine wpAnyH_take (i := 7) (v := ?_) rfl (by kernel_rfl) (by kernel_rfl) (by kernel_rfl) (fun _ _ _ h => h) (Or.inl ⟨by rfl, ?_⟩) hHeld ?_
                        rotate_left
                        · intro w' hSw
                          go_simp
                          try with_reducible rfl
                        try simp only [List.getElem_toArray, List.getElem_cons_succ, List.getElem_cons_zero, Act.put, List.setIfInBounds_toArray, List.set_cons_zero, List.set_cons_succ]
                        refine wpAnyH_take (i := 8) (v := ?_) rfl (by kernel_rfl) (by kernel_rfl) (by kernel_rfl) (fun _ _ _ h => h) (Or.inl ⟨by rfl, ?_⟩) hHeld ?_
                        rotate_left
                        · intro w' hSw
                          go_simp
                          try with_reducible rfl
                        try simp only [List.getElem_toArray, List.getElem_cons_succ, List.getElem_cons_zero, Act.put, List.setIfInBounds_toArray, List.set_cons_zero, List.set_cons_succ]
                        refine wpAnyH_take (i := 9) (v := ?_) rfl (by kernel_rfl) (by kernel_rfl) (by kernel_rfl) (fun _ _ _ h => h) (Or.inl ⟨by rfl, ?_⟩) hHeld ?_
                        rotate_left
                        · intro w' hSw
                          go_simp
                          try with_reducible rfl
                        try simp only [List.getElem_toArray, List.getElem_cons_succ, List.getElem_cons_zero, Act.put, List.setIfInBounds_toArray, List.set_cons_zero, List.set_cons_succ]
                        refine wpAnyH_take (i := 10) (v := ?_) rfl (by kernel_rfl) (by kernel_rfl) (by kernel_rfl) (fun _ _ _ h => h) (Or.inl ⟨by rfl, ?_⟩) hHeld ?_
                        rotate_left
                        · intro w' hSw
                          obtain ⟨e1, e2, e3⟩ := hSw
                          go_simp
                          try with_reducible rfl
                        try simp only [List.getElem_toArray, List.getElem_cons_succ, List.getElem_cons_zero, Act.put, List.setIfInBounds_toArray, List.set_cons_zero, List.set_cons_succ]
                        refine wpAnyH_ready (rs := [11, 15]) (by kernel_rfl) (by simp) ?_
                        refine AllReadyH.cons rfl (fun K hK => ?_) (AllReadyH.cons rfl (fun K hK => ?_) AllReadyH.nil)
                        · go_simp
                          go_at_call 19
                          refine (hLook.out _ hdr).mono ?_
                          rintro e w5 ⟨⟨q, d, rfl, hq⟩, hb5'⟩
                          have hb5 := hdr.trans (hb5'.mono hdr.size)
                          refine hK.out _ _ ⟨(hb5.cell (p := ⟨U, 0, none⟩) hUn).trans un, (hb5.cell (p := ⟨D, m * 3, none⟩) hDsc).trans kAc, (hb5.cell (p := ⟨D, m * 3 + 1, none⟩) hDsc).trans kBc⟩ (fun _ => ?_)
                          clear hK K hHeld
                          have hHeld : (fun w' => w'.cell? ⟨U, 0, none⟩ = some (.slice qu R.length du) ∧ w'.cell? ⟨D, m * 3, none⟩ = some (.string dk) ∧ w'.cell? ⟨D, m * 3 + 1, none⟩ = some (.string dn)) w5 := ⟨(hb5.cell (p := ⟨U, 0, none⟩) hUn).trans un, (hb5.cell (p := ⟨D, m * 3, none⟩) hDsc).trans kAc, (hb5.cell (p := ⟨D, m * 3 + 1, none⟩) hDsc).trans kBc⟩
                          try simp only [List.getElem_toArray, List.getElem_cons_succ, List.getElem_cons_zero, Act.put, List.setIfInBounds_toArray, List.set_cons_zero, List.set_cons_succ]
                          refine wpAnyH_take (i := 12) (v := ?_) rfl (by kernel_rfl) (by kernel_rfl) (by kernel_rfl) (fun _ _ _ h => h) (Or.inl ⟨by rfl, ?_⟩) hHeld ?_
                          rotate_left
                          · intro w' hSw
                            go_simp
                            try with_reducible rfl
                          try simp only [List.getElem_toArray, List.getElem_cons_succ, List.getElem_cons_zero, Act.put, List.setIfInBounds_toArray, List.set_cons_zero, List.set_cons_succ]
                          refine wpAnyH_take (i := 13) (v := ?_) rfl (by kernel_rfl) (by kernel_rfl) (by kernel_rfl) (fun _ _ _ h => h) (Or.inl ⟨by rfl, ?_⟩) hHeld ?_
                          rotate_left
                          · intro w' hSw
                            go_simp
                            try with_reducible rfl
                          try simp only [List.getElem_toArray, List.getElem_cons_succ, List.getElem_cons_zero, Act.put, List.setIfInBounds_toArray, List.set_cons_zero, List.set_cons_succ]
                          refine wpAnyH_take (i := 14) (v := ?_) rfl (by kernel_rfl) (by kernel_rfl) (by kernel_rfl) (fun _ _ _ h => h) (Or.inl ⟨by rfl, ?_⟩) hHeld ?_
                          rotate_left
                          · intro w' hSw
                            go_simp
                            try with_reducible rfl
                          try simp only [List.getElem_toArray, List.getElem_cons_succ, List.getElem_cons_zero, Act.put, List.setIfInBounds_toArray, List.set_cons_zero, List.set_cons_succ]
                          have hal0 := hb5.alloc hb5.size (.cells #[.int .i64 0, .int .i64 0, .string ⟨#[]⟩, .slice none 0 0] 41)
                          have hal1 := hb5.alloc hb5.size (.cells #[.int .i64 fv.1.kind, .int .i64 fv.1.num, .string fv.1.text, .slice q (fv.1.list.length : Nat) d] 41)
                          refine wpAnyH_ready (rs := [15]) (by kernel_rfl) (by simp) ?_
                          refine AllReadyH.cons rfl (fun K hK => ?_) AllReadyH.nil
                          go_simp
                          refine hK.out _ _ ⟨(hal0.cell (p := ⟨U, 0, none⟩) hUn).trans un, (hal0.cell (p := ⟨D, m * 3, none⟩) hDsc).trans kAc, (hal0.cell (p := ⟨D, m * 3 + 1, none⟩) hDsc).trans kBc⟩ (fun _ => ?_)
                          clear hK K
                          try simp only [List.getElem_toArray, List.getElem_cons_succ, List.getElem_cons_zero, Act.put, List.setIfInBounds_toArray, List.set_cons_zero, List.set_cons_succ]
                          refine wpAnyH_ready (rs := [16]) (by kernel_rfl) (by simp) ?_
                          refine AllReadyH.cons rfl (fun K hK => ?_) AllReadyH.nil
                          go_simp
                          refine hK.out _ _ ⟨(hal1.cell (p := ⟨U, 0, none⟩) hUn).trans un, (hal1.cell (p := ⟨D, m * 3, none⟩) hDsc).trans kAc, (hal1.cell (p := ⟨D, m * 3 + 1, none⟩) hDsc).trans kBc⟩ (fun _ => ?_)
                          clear hK K hHeld
                          have hHeld : (fun w' => w'.cell? ⟨U, 0, none⟩ = some (.slice qu R.length du) ∧ w'.cell? ⟨D, m * 3, none⟩ = some (.string dk) ∧ w'.cell? ⟨D, m * 3 + 1, none⟩ = some (.string dn)) (w5.alloc (.cells #[.int .i64 fv.1.kind, .int .i64 fv.1.num, .string fv.1.text, .slice q (fv.1.list.length : Nat) d] 41)) := ⟨(hal1.cell (p := ⟨U, 0, none⟩) hUn).trans un, (hal1.cell (p := ⟨D, m * 3, none⟩) hDsc).trans kAc, (hal1.cell (p := ⟨D, m * 3 + 1, none⟩) hDsc).trans kBc⟩
                          try simp only [List.getElem_toArray, List.getElem_cons_succ, List.getElem_cons_zero, Act.put, List.setIfInBounds_toArray, List.set_cons_zero, List.set_cons_succ]
                          refine wpAnyH_take (i := 17) (v := ?_) rfl (by kernel_rfl) (by kernel_rfl) (by kernel_rfl) (fun _ _ _ h => h) (Or.inl ⟨by rfl, ?_⟩) hHeld ?_
                          rotate_left
                          · intro w' hSw
                            go_simp
                            try with_reducible rfl
                          try simp only [List.getElem_toArray, List.getElem_cons_succ, List.getElem_cons_zero, Act.put, List.setIfInBounds_toArray, List.set_cons_zero, List.set_cons_succ]
                          refine wpAnyH_done (by kernel_rfl) ?_ _
                          go_wp2
                          go_meet
                          case rel => exact ⟨w5.heap.size, q, d, rfl, rfl, heap_alloc_new w5 _, hb5.size, (hq.mono fun _ _ _ => trivial).same (SameB.of_below ((Below.refl w5.heap.size w5).alloc (Nat.le_refl _) _)), hal1⟩
                        · have hal0 := ((Below.refl wn.heap.size wn).alloc (Nat.le_refl _) (.cells #[.int .i64 0, .int .i64 0, .string ⟨#[]⟩, .slice none 0 0] 41)).drew
                          have zF := heap_alloc_new wn (.cells #[.int .i64 0, .int .i64 0, .string ⟨#[]⟩, .slice none 0 0] 41)
                          go_simp
                          refine hK.out _ _ ⟨(hal0.cell (p := ⟨U, 0, none⟩) hUn).trans un, (hal0.cell (p := ⟨D, m * 3, none⟩) hDsc).trans kAc, (hal0.cell (p := ⟨D, m * 3 + 1, none⟩) hDsc).trans kBc⟩ (fun _ => ?_)
                          clear hK K hHeld
                          have hHeld : (fun w' => w'.cell? ⟨U, 0, none⟩ = some (.slice qu R.length du) ∧ w'.cell? ⟨D, m * 3, none⟩ = some (.string dk) ∧ w'.cell? ⟨D, m * 3 + 1, none⟩ = some (.string dn)) (wn.alloc (.cells #[.int .i64 0, .int .i64 0, .string ⟨#[]⟩, .slice none 0 0] 41)).drew := ⟨(hal0.cell (p := ⟨U, 0, none⟩) hUn).trans un, (hal0.cell (p := ⟨D, m * 3, none⟩) hDsc).trans kAc, (hal0.cell (p := ⟨D, m * 3 + 1, none⟩) hDsc).trans kBc⟩
                          try simp only [List.getElem_toArray, List.getElem_cons_succ, List.getElem_cons_zero, Act.put, List.setIfInBounds_toArray, List.set_cons_zero, List.set_cons_succ]
                          refine wpAnyH_ready (rs := [11]) (by kernel_rfl) (by simp) ?_
                          refine AllReadyH.cons rfl (fun K hK => ?_) AllReadyH.nil
                          go_simp
                          go_at_call 19
                          refine (hLook.out _ hal0).mono ?_
                          rintro e w5 ⟨⟨q, d, rfl, hq⟩, hb5'⟩
                          have hb5 := hal0.trans (hb5'.mono hal0.size)
                          have hsF : wn.heap.size < (wn.alloc (.cells #[.int .i64 0, .int .i64 0, .string ⟨#[]⟩, .slice none 0 0] 41)).drew.heap.size := by show wn.heap.size < (wn.alloc (.cells #[.int .i64 0, .int .i64 0, .string ⟨#[]⟩, .slice none 0 0] 41)).heap.size; simp
                          have zF5 : w5.heap[wn.heap.size]? = some (.cells #[.int .i64 0, .int .i64 0, .string ⟨#[]⟩, .slice none 0 0] 41 (0, 0)) := (hb5'.block wn.heap.size hsF).trans zF
                          have k0 : w5.cell? ⟨wn.heap.size, 0, none⟩ = some (.int .i64 0) := by rw [Lib.cell_of_heap zF5]; rfl
                          have k1 : w5.cell? ⟨wn.heap.size, 1, none⟩ = some (.int .i64 0) := by rw [Lib.cell_of_heap zF5]; rfl
                          have k2 : w5.cell? ⟨wn.heap.size, 2, none⟩ = some (.string ⟨#[]⟩) := by rw [Lib.cell_of_heap zF5]; rfl
                          have k3 : w5.cell? ⟨wn.heap.size, 3, none⟩ = some (.slice none 0 0) := by rw [Lib.cell_of_heap zF5]; rfl
                          have kf : ∀ i, w5.frozen? ⟨wn.heap.size, i, none⟩ = false := Lib.frozen_of_heap zF5
                          refine hK.out _ _ ⟨(hb5.cell (p := ⟨U, 0, none⟩) hUn).trans un, (hb5.cell (p := ⟨D, m * 3, none⟩) hDsc).trans kAc, (hb5.cell (p := ⟨D, m * 3 + 1, none⟩) hDsc).trans kBc⟩ (fun _ => ?_)
                          clear hK K hHeld
                          have hHeld : (fun w' => w'.cell? ⟨U, 0, none⟩ = some (.slice qu R.length du) ∧ w'.cell? ⟨D, m * 3, none⟩ = some (.string dk) ∧ w'.cell? ⟨D, m * 3 + 1, none⟩ = some (.string dn)) w5 := ⟨(hb5.cell (p := ⟨U, 0, none⟩) hUn).trans un, (hb5.cell (p := ⟨D, m * 3, none⟩) hDsc).trans kAc, (hb5.cell (p := ⟨D, m * 3 + 1, none⟩) hDsc).trans kBc⟩
                          try simp only [List.getElem_toArray, List.getElem_cons_succ, List.getElem_cons_zero, Act.put, List.setIfInBounds_toArray, List.set_cons_zero, List.set_cons_succ]
                          refine wpAnyH_take (i := 12) (v := ?_) rfl (by kernel_rfl) (by kernel_rfl) (by kernel_rfl) (fun _ _ _ h => h) (Or.inl ⟨by rfl, ?_⟩) hHeld ?_
                          rotate_left
                          · intro w' hSw
                            go_simp
                            try with_reducible rfl
                          try simp only [List.getElem_toArray, List.getElem_cons_succ, List.getElem_cons_zero, Act.put, List.setIfInBounds_toArray, List.set_cons_zero, List.set_cons_succ]
                          refine wpAnyH_take (i := 13) (v := ?_) rfl (by kernel_rfl) (by kernel_rfl) (by kernel_rfl) (fun _ _ _ h => h) (Or.inl ⟨by rfl, ?_⟩) hHeld ?_
                          rotate_left
                          · intro w' hSw
                            go_simp
                            try with_reducible rfl
                          try simp only [List.getElem_toArray, List.getElem_cons_succ, List.getElem_cons_zero, Act.put, List.setIfInBounds_toArray, List.set_cons_zero, List.set_cons_succ]
                          refine wpAnyH_take (i := 14) (v := ?_) rfl (by kernel_rfl) (by kernel_rfl) (by kernel_rfl) (fun _ _ _ h => h) (Or.inl ⟨by rfl, ?_⟩) hHeld ?_
                          rotate_left
                          · intro w' hSw
                            go_simp
                            try with_reducible rfl
                          try simp only [List.getElem_toArray, List.getElem_cons_succ, List.getElem_cons_zero, Act.put, List.setIfInBounds_toArray, List.set_cons_zero, List.set_cons_succ]
                          have hb6 := ((((hb5.setCell (p := ⟨wn.heap.size, 0, none⟩) (Nat.le_refl _) (.int .i64 fv.1.kind)).setCell (p := ⟨wn.heap.size, 1, none⟩) (Nat.le_refl _) (.int .i64 fv.1.num)).setCell (p := ⟨wn.heap.size, 2, none⟩) (Nat.le_refl _) (.string fv.1.text)).setCell (p := ⟨wn.heap.size, 3, none⟩) (Nat.le_refl _) (.slice q (fv.1.list.length : Nat) d))
                          have zF6 : ((((w5.setCell ⟨wn.heap.size, 0, none⟩ (.int .i64 fv.1.kind)).setCell ⟨wn.heap.size, 1, none⟩ (.int .i64 fv.1.num)).setCell ⟨wn.heap.size, 2, none⟩ (.string fv.1.text)).setCell ⟨wn.heap.size, 3, none⟩ (.slice q (fv.1.list.length : Nat) d)).heap[wn.heap.size]? = some (.cells #[.int .i64 fv.1.kind, .int .i64 fv.1.num, .string fv.1.text, .slice q (fv.1.list.length : Nat) d] 41 (0, 0)) := (box_put (box_put (box_put (box_put zF5 _) _) _) _)
                          have hXF : ¬ ((wn.alloc (.cells #[.int .i64 0, .int .i64 0, .string ⟨#[]⟩, .slice none 0 0] 41)).drew.heap.size ≤ wn.heap.size) := by omega
                          have hq6 : ListP (fun b => ((wn.alloc (.cells #[.int .i64 0, .int .i64 0, .string ⟨#[]⟩, .slice none 0 0] 41)).drew.heap.size ≤ b)) q d fv.1.list _ := hq.same (((((SameB.refl _ w5).set (B := wn.heap.size) hXF 0 (.int .i64 fv.1.kind)).set (B := wn.heap.size) hXF 1 (.int .i64 fv.1.num)).set (B := wn.heap.size) hXF 2 (.string fv.1.text)).set (B := wn.heap.size) hXF 3 (.slice q (fv.1.list.length : Nat) d))
                          refine wpAnyH_ready (rs := [16]) (by kernel_rfl) (by simp) ?_
                          refine AllReadyH.cons rfl (fun K hK => ?_) AllReadyH.nil
                          go_simp
                          refine hK.out _ _ ⟨(hb6.cell (p := ⟨U, 0, none⟩) hUn).trans un, (hb6.cell (p := ⟨D, m * 3, none⟩) hDsc).trans kAc, (hb6.cell (p := ⟨D, m * 3 + 1, none⟩) hDsc).trans kBc⟩ (fun _ => ?_)
                          clear hK K hHeld
                          have hHeld : (fun w' => w'.cell? ⟨U, 0, none⟩ = some (.slice qu R.length du) ∧ w'.cell? ⟨D, m * 3, none⟩ = some (.string dk) ∧ w'.cell? ⟨D, m * 3 + 1, none⟩ = some (.string dn)) ((((w5.setCell ⟨wn.heap.size, 0, none⟩ (.int .i64 fv.1.kind)).setCell ⟨wn.heap.size, 1, none⟩ (.int .i64 fv.1.num)).setCell ⟨wn.heap.size, 2, none⟩ (.string fv.1.text)).setCell ⟨wn.heap.size, 3, none⟩ (.slice q (fv.1.list.length : Nat) d)) := ⟨(hb6.cell (p := ⟨U, 0, none⟩) hUn).trans un, (hb6.cell (p := ⟨D, m * 3, none⟩) hDsc).trans kAc, (hb6.cell (p := ⟨D, m * 3 + 1, none⟩) hDsc).trans kBc⟩
                          try simp only [List.getElem_toArray, List.getElem_cons_succ, List.getElem_cons_zero, Act.put, List.setIfInBounds_toArray, List.set_cons_zero, List.set_cons_succ]
                          refine wpAnyH_take (i := 17) (v := ?_) rfl (by kernel_rfl) (by kernel_rfl) (by kernel_rfl) (fun _ _ _ h => h) (Or.inl ⟨by rfl, ?_⟩) hHeld ?_
                          rotate_left
                          · intro w' hSw
                            go_simp
                            try with_reducible rfl
                          try simp only [List.getElem_toArray, List.getElem_cons_succ, List.getElem_cons_zero, Act.put, List.setIfInBounds_toArray, List.set_cons_zero, List.set_cons_succ]
                          refine wpAnyH_done (by kernel_rfl) ?_ _
                          go_wp2
                          go_meet
                          case rel => exact ⟨wn.heap.size, q, d, rfl, rfl, zF6, Nat.le_refl _, hq6.mono fun _ _ _ => trivial, hb6⟩
                      case rest =>
                        obtain ⟨F2, q2, d2, rfl, rfl, zG, hFG, hqG, hbG⟩ := hcut
                        clear hLook
                        have zFG := (hbG.block F hFs).trans zF
                        have hqFG := hqF.same (SameB.of_below hbG)
                        have hbx := hbn.trans (hbG.mono hbn.size)
                        clear un kAc kBc hDsc hqn zF hqF hbG hFs hFG hbn
                        have f0 : wc.cell? ⟨F, 0, none⟩ = some (.int .i64 fv.1.kind) := by rw [Lib.cell_of_heap zFG]; rfl
                        have f1 : wc.cell? ⟨F, 1, none⟩ = some (.int .i64 fv.1.num) := by rw [Lib.cell_of_heap zFG]; rfl
                        have f2 : wc.cell? ⟨F, 2, none⟩ = some (.string fv.1.text) := by rw [Lib.cell_of_heap zFG]; rfl
                        have f3 : wc.cell? ⟨F, 3, none⟩ = some (.slice q1 (fv.1.list.length : Nat) d1) := by rw [Lib.cell_of_heap zFG]; rfl
                        have g0 : wc.cell? ⟨F2, 0, none⟩ = some (.int .i64 fv.1.kind) := by rw [Lib.cell_of_heap zG]; rfl
                        have g1 : wc.cell? ⟨F2, 1, none⟩ = some (.int .i64 fv.1.num) := by rw [Lib.cell_of_heap zG]; rfl
                        have g2 : wc.cell? ⟨F2, 2, none⟩ = some (.string fv.1.text) := by rw [Lib.cell_of_heap zG]; rfl
                        have g3 : wc.cell? ⟨F2, 3, none⟩ = some (.slice q2 (fv.1.list.length : Nat) d2) := by rw [Lib.cell_of_heap zG]; rfl
                        have heq := equal_refl fv.1 q1 q2 d1 d2 wc (by omega) hqFG hqG
                        unfold Val.agg at heq
                        replace heq := Lib.hid heq
                        clear zFG zG hqFG hqG
                        go_wp2_with (go_at_call 20; refine heq.out.mono ?_; rintro e w6 ⟨rfl, hb6⟩)
                        go_roundw
                        case rel => exact ⟨m + 1, by omega, by go_num, hbx.trans (hb6.mono hbx.size)⟩
                        case measure => simp [intOf]; omega
              · obtain rfl : m = 8 := by omega
                go_wp2
                go_ret
                exact ⟨rfl, hBF.trans (hbm.mono hBF.size)⟩
end Go.Proofs.YtcbnefeedoabeaaGreatDoor
