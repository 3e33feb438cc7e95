/- Contract of the document's answer for the hash value of any bytes. -/
import Derived.Test.YtiomdikompodfaaSipB
namespace Go.Proofs.Ytiomdikompodfaa
open Go Go.RowKit

/-- A slice of bytes that came in: what its places hold. -/
def BytesAre (a0 : Option Addr) (l : List UInt8) (w : World) : Prop := ∀ i (h : i < l.length), ∃ (b off : Nat), a0 = some ⟨b, off, none⟩ ∧ b < w.heap.size ∧ w.cell? ⟨b, off + i, none⟩ = some (.int .u8 (l[i].toNat : Int))
/-- The first n bytes from place j on, the least significant one first. -/
def part (l : List UInt8) (j : Nat) : Nat → UInt64
  | 0 => 0
  | n + 1 => part l j n ||| UInt64.ofNat ((l.getD (j + n) 0).toNat * 2 ^ (8 * n))
/-- Word number i of the bytes. -/
def wordOf (l : List UInt8) (i : Nat) : UInt64 :=
  if i = l.length / 8 then part l (8 * i) (l.length - 8 * i) ||| UInt64.ofNat (l.length % 256 * 2 ^ 56) else part l (8 * i) 8
def Sip.init (k0 k1 : UInt64) : Sip := ⟨k0 ^^^ 8317987319222330741, k1 ^^^ 7237128888997146477, k0 ^^^ 7816392313619706465, k1 ^^^ 8387220255154660723⟩
def Sip.xd (v : Sip) (m : UInt64) : Sip := { v with d := v.d ^^^ m }
def Sip.xa (v : Sip) (m : UInt64) : Sip := { v with a := v.a ^^^ m }
def Sip.xc (v : Sip) (m : UInt64) : Sip := { v with c := v.c ^^^ m }
def Sip.after (v : Sip) (l : List UInt8) : Nat → Sip
  | 0 => v
  | i + 1 => (((v.after l i).xd (wordOf l i)).rounds 2).xa (wordOf l i)
def sipSum (k0 k1 : UInt64) (l : List UInt8) : UInt64 :=
  let v := (((Sip.init k0 k1).after l (l.length / 8 + 1)).xc 255).rounds 4
  ((v.a ^^^ v.b) ^^^ v.c) ^^^ v.d
/-- The state lies in block B; below B nothing has turned. -/
structure Sv (v : Sip) (B : Nat) (w wr : World) : Prop where
  here : wr.heap[B]? = some (.cells v.cells 42 (0, 0))
  below : Below B w wr
theorem Sv.ca {v : Sip} {B : Nat} {w wr : World} (h : Sv v B w wr) : wr.cell? ⟨B, 0, none⟩ = some (.int .u64 (v.a.toNat : Int)) := by rw [Lib.cell_of_heap h.here]; rfl
theorem Sv.cb {v : Sip} {B : Nat} {w wr : World} (h : Sv v B w wr) : wr.cell? ⟨B, 1, none⟩ = some (.int .u64 (v.b.toNat : Int)) := by rw [Lib.cell_of_heap h.here]; rfl
theorem Sv.cc {v : Sip} {B : Nat} {w wr : World} (h : Sv v B w wr) : wr.cell? ⟨B, 2, none⟩ = some (.int .u64 (v.c.toNat : Int)) := by rw [Lib.cell_of_heap h.here]; rfl
theorem Sv.cd {v : Sip} {B : Nat} {w wr : World} (h : Sv v B w wr) : wr.cell? ⟨B, 3, none⟩ = some (.int .u64 (v.d.toNat : Int)) := by rw [Lib.cell_of_heap h.here]; rfl
theorem Sv.f {v : Sip} {B : Nat} {w wr : World} (h : Sv v B w wr) (i : Nat) : wr.frozen? ⟨B, i, none⟩ = false := Lib.frozen_of_heap h.here i
theorem Sv.lt {v : Sip} {B : Nat} {w wr : World} (h : Sv v B w wr) : B < wr.heap.size := (Array.getElem?_eq_some_iff.1 h.here).1
theorem Sv.put {v v' : Sip} {B : Nat} {w wr : World} (h : Sv v B w wr) (i : Nat) (x : Value) (he : v.cells.setIfInBounds i x = v'.cells) : Sv v' B w (wr.setCell ⟨B, i, none⟩ x) := by
  refine ⟨?_, h.below.setCell (p := ⟨B, i, none⟩) (Nat.le_refl _) _⟩
  rw [← he]
  show (wr.heap.modify B _)[B]? = _
  rw [Array.getElem?_modify, if_pos rfl, h.here]
  rfl
theorem Sv.grown {v : Sip} {B : Nat} {w wr w' : World} (h : Sv v B w wr) (hb : Below wr.heap.size wr w') : Sv v B w w' :=
  ⟨(hb.block B h.lt).trans h.here, h.below.trans (hb.mono (Nat.le_of_lt h.lt))⟩

theorem Sv.put4 {v : Sip} {B : Nat} {w wr : World} (h : Sv v B w wr) (v' : Sip) : Sv v' B w ((((wr.setCell ⟨B, 0, none⟩ (.int .u64 (v'.a.toNat : Int))).setCell ⟨B, 1, none⟩ (.int .u64 (v'.b.toNat : Int))).setCell ⟨B, 2, none⟩ (.int .u64 (v'.c.toNat : Int))).setCell ⟨B, 3, none⟩ (.int .u64 (v'.d.toNat : Int))) := by
  have h1 : Sv { v with a := v'.a } B w _ := h.put 0 (.int .u64 (v'.a.toNat : Int)) rfl
  have h2 : Sv { v with a := v'.a, b := v'.b } B w _ := h1.put 1 (.int .u64 (v'.b.toNat : Int)) rfl
  have h3 : Sv { v with a := v'.a, b := v'.b, c := v'.c } B w _ := h2.put 2 (.int .u64 (v'.c.toNat : Int)) rfl
  exact h3.put 3 (.int .u64 (v'.d.toNat : Int)) rfl
theorem rounds_lit (v : Sip) (n : Nat) (w : World) (hn : n ≤ 1000) (m : Int) (hm : m = (n : Int)) :
    Calls Try.prog 21 #[.agg #[.int .u64 (v.a.toNat : Int), .int .u64 (v.b.toNat : Int), .int .u64 (v.c.toNat : Int), .int .u64 (v.d.toNat : Int)], .int .i64 m] w
      fun e w' => e = .returned (.agg #[.int .u64 ((v.rounds n).a.toNat : Int), .int .u64 ((v.rounds n).b.toNat : Int), .int .u64 ((v.rounds n).c.toNat : Int), .int .u64 ((v.rounds n).d.toNat : Int)]) ∧ Below w.heap.size w w' := by
  rw [hm]
  exact rounds_any v n w hn
theorem part_step (l : List UInt8) (j k : Nat) (h : j + k < l.length) :
    bits .or .u64 ((part l j k).toNat : Int) (IntKind.u64.wrap (IntKind.u64.wrap (l[j + k].toNat : Int) * 2 ^ (8 * k))) = ((part l j (k + 1)).toNat : Int) := by
  have hb := l[j + k].toNat_lt
  have e1 : IntKind.u64.wrap (l[j + k].toNat : Int) = (l[j + k].toNat : Int) := by rw [IntKind.wrap_u64]; omega
  have e2 : (l[j + k].toNat : Int) * 2 ^ (8 * k) = ((l[j + k].toNat * 2 ^ (8 * k) : Nat) : Int) := by rw [Int.natCast_mul, Int.natCast_pow]; rfl
  rw [e1, e2, wrap_word, word_or]
  show _ = (((part l j k ||| UInt64.ofNat ((l.getD (j + k) 0).toNat * 2 ^ (8 * k))).toNat : Nat) : Int)
  simp [List.getD, h]
theorem last_step (m : UInt64) (n : Nat) : bits .or .u64 (m.toNat : Int) ((n : Int) % 256 * 72057594037927936) = ((m ||| UInt64.ofNat (n % 256 * 2 ^ 56)).toNat : Int) := by
  have e1 : (n : Int) % 256 * 72057594037927936 = ((UInt64.ofNat (n % 256 * 2 ^ 56)).toNat : Int) := by rw [UInt64.toNat_ofNat']; omega
  rw [e1, word_or]

set_option maxHeartbeats 8000000 in
theorem refSum_any (k0 k1 : UInt64) (a0 : Option Addr) (l : List UInt8) (cap : Nat) (w : World) (hl : l.length ≤ 1000000) (hB : BytesAre a0 l w) :
    Calls Try.prog 10 #[.int .u64 (k0.toNat : Int), .int .u64 (k1.toNat : Int), .slice a0 l.length cap] w fun e w' => e = .returned (.int .u64 ((sipSum k0 k1 l).toNat : Int)) ∧ Below w.heap.size w w' := by
  have x0 := word_xor k0 8317987319222330741
  have x1 := word_xor k1 7237128888997146477
  have x2 := word_xor k0 7816392313619706465
  have x3 := word_xor k1 8387220255154660723
  rw [show (((8317987319222330741 : UInt64).toNat : Nat) : Int) = 8317987319222330741 from rfl] at x0
  rw [show (((7237128888997146477 : UInt64).toNat : Nat) : Int) = 7237128888997146477 from rfl] at x1
  rw [show (((7816392313619706465 : UInt64).toNat : Nat) : Int) = 7816392313619706465 from rfl] at x2
  rw [show (((8387220255154660723 : UInt64).toNat : Nat) : Int) = 8387220255154660723 from rfl] at x3
  go_enter Try.func10, Try.ntmps10
  go_wp2
  have hc0 : (#[.int .u64 ((k0.toNat ^^^ 8317987319222330741 : Nat) : Int), .int .u64 ((k1.toNat ^^^ 7237128888997146477 : Nat) : Int), .int .u64 ((k0.toNat ^^^ 7816392313619706465 : Nat) : Int), .int .u64 ((k1.toNat ^^^ 8387220255154660723 : Nat) : Int)] : Array Value) = (Sip.init k0 k1).cells := by simp [Sip.cells, Sip.init]
  rw [hc0]
  clear hc0 x0 x1 x2 x3
  have hs0 : Sv (Sip.init k0 k1) w.heap.size w (w.alloc (.cells (Sip.init k0 k1).cells 42)) := ⟨heap_alloc_new w _, (Below.refl _ w).alloc (Nat.le_refl _) _⟩
  generalize w.alloc (.cells (Sip.init k0 k1).cells 42) = w0 at hs0 ⊢
  obtain ⟨v0, hv0⟩ : ∃ v0, Sip.init k0 k1 = v0 := ⟨_, rfl⟩
  rw [hv0] at hs0
  replace hv0 := Lib.hid hv0
  go_loopw [8] (fun i wr => ∃ n : Nat, n ≤ l.length / 8 + 1 ∧ i = .int .i64 n ∧ Sv (v0.after l n) w.heap.size w wr) (fun i _ => l.length / 8 + 1 - (intOf i).toNat)
  case atStart => exact ⟨0, by omega, rfl, hs0⟩
  case round =>
    obtain ⟨n, hn, rfl, hst⟩ := hrel
    by_cases hle : n ≤ l.length / 8
    · have hle' : (n : Int) ≤ (l.length : Int) / 8 := by omega
      obtain ⟨V, hV⟩ : ∃ V, v0.after l n = V := ⟨_, rfl⟩
      rw [hV] at hst
      replace hV := Lib.hid hV
      clear hs0
      go_wp2
      obtain ⟨wo, hwo⟩ : ∃ wo : World, wo = wr := ⟨_, rfl⟩
      subst hwo
      go_loop [9, 10] (fun m j => ∃ k : Nat, k ≤ 8 ∧ 8 * n + k ≤ l.length ∧ j = .int .i64 k ∧ m = .int .u64 ((part l (8 * n) k).toNat : Int)) (fun _ j => 8 - (intOf j).toNat)
      case atStart => exact ⟨0, by omega, by omega, rfl, rfl⟩
      case round =>
        obtain ⟨k, hk8, hkl, rfl, rfl⟩ := hrel
        by_cases hgo : k < 8 ∧ 8 * n + k < l.length
        · obtain ⟨g1, g2⟩ := hgo
          obtain ⟨b, off, hae, hbl, hcc⟩ := hB (8 * n + k) g2
          subst hae
          have hcw := hst.below.cell (p := ⟨b, off + (8 * n + k), none⟩) hbl
          rw [hcc] at hcw
          have g2' : (8 * (n : Int) + (k : Int)) < (l.length : Int) := by omega
          replace hcc := Lib.hid hcc
          have hps := Lib.hid (part_step l (8 * n) k g2)
          go_wp2
          go_round
          case rel => exact ⟨k + 1, by omega, by omega, by go_num, by rw [hps.out]⟩
          case measure => simp [intOf]; omega
        · by_cases hlast : n = l.length / 8
          · have hk : k = l.length - 8 * n := by omega
            have q1 : (k : Int) < 8 := by omega
            have q2 : (l.length : Int) ≤ 8 * (n : Int) + (k : Int) := by omega
            have q3 : ((n : Int) == (l.length : Int) / 8) = true := by simp; omega
            have hwd : wordOf l n = part l (8 * n) k ||| UInt64.ofNat (l.length % 256 * 2 ^ 56) := by unfold wordOf; rw [if_pos hlast, hk]
            have hls := last_step (part l (8 * n) k) l.length
            rw [← hwd] at hls
            have hnx : v0.after l (n + 1) = ((V.xd (wordOf l n)).rounds 2).xa (wordOf l n) := by rw [← hV.out]; rfl
            generalize wordOf l n = M at hls hnx
            generalize part l (8 * n) k = p at hls
            clear hgo hwd hk hlast
            go_upto_region 12 with (fail)
            clear hls
            have hcd := hst.cd
            have hfz := hst.f
            go_upto_region 13 with (fail)
            rw [word_xor V.d M]
            have hst1 : Sv (V.xd M) w.heap.size w (wo.setCell ⟨w.heap.size, 3, none⟩ (.int .u64 ((V.d ^^^ M).toNat : Int))) := hst.put 3 _ rfl
            generalize wo.setCell ⟨w.heap.size, 3, none⟩ (.int .u64 ((V.d ^^^ M).toNat : Int)) = w1 at hst1 ⊢
            clear hcd hfz
            generalize V.xd M = V1 at hst1 hnx
            have ca := hst1.ca
            have cb := hst1.cb
            have cc := hst1.cc
            have cd := hst1.cd
            have hfz := hst1.f
            have hhere := hst1.here
            have hro := rounds_lit V1 2 w1 (by omega) 2 rfl
            generalize V1.rounds 2 = V2 at hro hnx
            go_upto_region 14 with (go_at_call 21; refine hro.mono ?_; rintro e w2 ⟨rfl, hb2⟩; have hst2 := hst1.grown hb2; have hfz2 := hst2.f; have ca2 := hst2.ca; have cb2 := hst2.cb; have cc2 := hst2.cc; have cd2 := hst2.cd)
            have hst3 := hst2.put4 V2
            generalize (((w2.setCell ⟨w.heap.size, 0, none⟩ (.int .u64 (V2.a.toNat : Int))).setCell ⟨w.heap.size, 1, none⟩ (.int .u64 (V2.b.toNat : Int))).setCell ⟨w.heap.size, 2, none⟩ (.int .u64 (V2.c.toNat : Int))).setCell ⟨w.heap.size, 3, none⟩ (.int .u64 (V2.d.toNat : Int)) = w3 at hst3 ⊢
            clear ca cb cc cd hfz hhere ca2 cb2 cc2 cd2 hfz2 hst2 hst1 hro
            have ca := hst3.ca
            have hfz := hst3.f
            have hst4 : Sv (V2.xa M) w.heap.size w (w3.setCell ⟨w.heap.size, 0, none⟩ (.int .u64 ((V2.a ^^^ M).toNat : Int))) := hst3.put 0 _ rfl
            have hxr := word_xor V2.a M
            go_wp2
            go_roundw
            case rel => exact ⟨n + 1, by omega, by go_num, by rw [hnx]; exact hst4⟩
            case measure => simp [intOf]; omega
          · have hk : k = 8 := by omega
            have q1 : ¬ (k : Int) < 8 := by omega
            have q3 : ((n : Int) == (l.length : Int) / 8) = false := by simp; omega
            have hwd : wordOf l n = part l (8 * n) k := by unfold wordOf; rw [if_neg hlast, hk]
            have hnx : v0.after l (n + 1) = ((V.xd (wordOf l n)).rounds 2).xa (wordOf l n) := by rw [← hV.out]; rfl
            rw [← hwd]
            generalize wordOf l n = M at hnx ⊢
            clear hgo hwd hk hlast
            go_upto_region 12 with (fail)
            have hcd := hst.cd
            have hfz := hst.f
            go_upto_region 13 with (fail)
            rw [word_xor V.d M]
            have hst1 : Sv (V.xd M) w.heap.size w (wo.setCell ⟨w.heap.size, 3, none⟩ (.int .u64 ((V.d ^^^ M).toNat : Int))) := hst.put 3 _ rfl
            generalize wo.setCell ⟨w.heap.size, 3, none⟩ (.int .u64 ((V.d ^^^ M).toNat : Int)) = w1 at hst1 ⊢
            clear hcd hfz
            generalize V.xd M = V1 at hst1 hnx
            have ca := hst1.ca
            have cb := hst1.cb
            have cc := hst1.cc
            have cd := hst1.cd
            have hfz := hst1.f
            have hhere := hst1.here
            have hro := rounds_lit V1 2 w1 (by omega) 2 rfl
            generalize V1.rounds 2 = V2 at hro hnx
            go_upto_region 14 with (go_at_call 21; refine hro.mono ?_; rintro e w2 ⟨rfl, hb2⟩; have hst2 := hst1.grown hb2; have hfz2 := hst2.f; have ca2 := hst2.ca; have cb2 := hst2.cb; have cc2 := hst2.cc; have cd2 := hst2.cd)
            have hst3 := hst2.put4 V2
            generalize (((w2.setCell ⟨w.heap.size, 0, none⟩ (.int .u64 (V2.a.toNat : Int))).setCell ⟨w.heap.size, 1, none⟩ (.int .u64 (V2.b.toNat : Int))).setCell ⟨w.heap.size, 2, none⟩ (.int .u64 (V2.c.toNat : Int))).setCell ⟨w.heap.size, 3, none⟩ (.int .u64 (V2.d.toNat : Int)) = w3 at hst3 ⊢
            clear ca cb cc cd hfz hhere ca2 cb2 cc2 cd2 hfz2 hst2 hst1 hro
            have ca := hst3.ca
            have hfz := hst3.f
            have hst4 : Sv (V2.xa M) w.heap.size w (w3.setCell ⟨w.heap.size, 0, none⟩ (.int .u64 ((V2.a ^^^ M).toNat : Int))) := hst3.put 0 _ rfl
            have hxr := word_xor V2.a M
            go_wp2
            go_roundw
            case rel => exact ⟨n + 1, by omega, by go_num, by rw [hnx]; exact hst4⟩
            case measure => simp [intOf]; omega
    · obtain rfl : n = l.length / 8 + 1 := by omega
      have hle' : ¬ ((l.length / 8 + 1 : Nat) : Int) ≤ (l.length : Int) / 8 := by omega
      clear hs0 hle
      have hfin : sipSum k0 k1 l = (((((v0.after l (l.length / 8 + 1)).xc 255).rounds 4).a ^^^ (((v0.after l (l.length / 8 + 1)).xc 255).rounds 4).b) ^^^ (((v0.after l (l.length / 8 + 1)).xc 255).rounds 4).c) ^^^ (((v0.after l (l.length / 8 + 1)).xc 255).rounds 4).d := by rw [← hv0.out]; rfl
      generalize v0.after l (l.length / 8 + 1) = V at hst hfin
      generalize l.length / 8 + 1 = n at hle'
      have cc := hst.cc
      have hfz := hst.f
      have hx := word_xor V.c 255
      rw [show (((255 : UInt64).toNat : Nat) : Int) = 255 from rfl] at hx
      go_upto_region 16 with (fail)
      have hst1 : Sv (V.xc 255) w.heap.size w (wr.setCell ⟨w.heap.size, 2, none⟩ (.int .u64 ((V.c.toNat ^^^ 255 : Nat) : Int))) := hst.put 2 _ (by simp [Sip.cells, Sip.xc])
      generalize wr.setCell ⟨w.heap.size, 2, none⟩ (.int .u64 ((V.c.toNat ^^^ 255 : Nat) : Int)) = w1 at hst1 ⊢
      clear cc hfz hst hx
      generalize V.xc 255 = V1 at hst1 hfin
      have ca := hst1.ca
      have cb := hst1.cb
      have cc := hst1.cc
      have cd := hst1.cd
      have hfz := hst1.f
      have hhere := hst1.here
      have hro := rounds_lit V1 4 w1 (by omega) 4 rfl
      generalize V1.rounds 4 = V2 at hro hfin
      go_upto_region 17 with (go_at_call 21; refine hro.mono ?_; rintro e w2 ⟨rfl, hb2⟩; have hst2 := hst1.grown hb2; have hfz2 := hst2.f; have ca2 := hst2.ca; have cb2 := hst2.cb; have cc2 := hst2.cc; have cd2 := hst2.cd)
      have hst3 := hst2.put4 V2
      generalize (((w2.setCell ⟨w.heap.size, 0, none⟩ (.int .u64 (V2.a.toNat : Int))).setCell ⟨w.heap.size, 1, none⟩ (.int .u64 (V2.b.toNat : Int))).setCell ⟨w.heap.size, 2, none⟩ (.int .u64 (V2.c.toNat : Int))).setCell ⟨w.heap.size, 3, none⟩ (.int .u64 (V2.d.toNat : Int)) = w3 at hst3 ⊢
      clear ca cb cc cd hfz hhere ca2 cb2 cc2 cd2 hfz2 hst2 hst1 hro
      have ca := hst3.ca
      have cb := hst3.cb
      have cc := hst3.cc
      have cd := hst3.cd
      have hfz := hst3.f
      have x1 := word_xor V2.a V2.b
      have x2 := word_xor (V2.a ^^^ V2.b) V2.c
      have x3 := word_xor ((V2.a ^^^ V2.b) ^^^ V2.c) V2.d
      rw [← hfin] at x3
      go_wp2
      rw [← UInt64.toNat_xor, x2, x3]
      exact bodyPost_ret (v := .int .u64 ((sipSum k0 k1 l).toNat : Int)) (by simp [results, Try.results10, go_sem]) rfl ⟨rfl, hst3.below⟩
end Go.Proofs.Ytiomdikompodfaa
