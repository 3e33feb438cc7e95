/- Contract of the package's Sum of any bytes. -/
import Derived.Test.YtiomdikompodfaaDigD
import Derived.Deep.RegionWith
import Derived.Deep.DrawnRows
import Derived.Deep.DeepFit
namespace Go.Proofs.Ytiomdikompodfaa
open Go Go.RowKit

attribute [local go_sem ↓] Go.wp_at_zero Go.wp_at_succ
/-- The state lies in block B; below B nothing has turned. -/
structure Sw (v : Sip) (B : Nat) (w wr : World) : Prop where
  here : wr.heap[B]? = some (.cells v.cells 36 (0, 0))
  below : Below B w wr
theorem Sw.ca {v : Sip} {B : Nat} {w wr : World} (h : Sw v B w wr) : wr.cell? ⟨B, 0, none⟩ = some (.int .u64 (v.a.toNat : Int)) := by rw [Lib.cell_of_heap h.here]; rfl
theorem Sw.cb {v : Sip} {B : Nat} {w wr : World} (h : Sw v B w wr) : wr.cell? ⟨B, 1, none⟩ = some (.int .u64 (v.b.toNat : Int)) := by rw [Lib.cell_of_heap h.here]; rfl
theorem Sw.cc {v : Sip} {B : Nat} {w wr : World} (h : Sw v B w wr) : wr.cell? ⟨B, 2, none⟩ = some (.int .u64 (v.c.toNat : Int)) := by rw [Lib.cell_of_heap h.here]; rfl
theorem Sw.cd {v : Sip} {B : Nat} {w wr : World} (h : Sw v B w wr) : wr.cell? ⟨B, 3, none⟩ = some (.int .u64 (v.d.toNat : Int)) := by rw [Lib.cell_of_heap h.here]; rfl
theorem Sw.f {v : Sip} {B : Nat} {w wr : World} (h : Sw v B w wr) (i : Nat) : wr.frozen? ⟨B, i, none⟩ = false := Lib.frozen_of_heap h.here i
theorem Sw.lt {v : Sip} {B : Nat} {w wr : World} (h : Sw v B w wr) : B < wr.heap.size := (Array.getElem?_eq_some_iff.1 h.here).1
theorem Sw.put {v v' : Sip} {B : Nat} {w wr : World} (h : Sw v B w wr) (i : Nat) (x : Value) (he : v.cells.setIfInBounds i x = v'.cells) : Sw v' B w (wr.setCell ⟨B, i, none⟩ x) := by
  refine ⟨?_, h.below.setCell (p := ⟨B, i, none⟩) (Nat.le_refl _) _⟩
  rw [← he]
  show (wr.heap.modify B _)[B]? = _
  rw [Array.getElem?_modify, if_pos rfl, h.here]
  rfl
theorem Sw.grown {v : Sip} {B : Nat} {w wr w' : World} (h : Sw v B w wr) (hb : Below wr.heap.size wr w') : Sw v B w w' :=
  ⟨(hb.block B h.lt).trans h.here, h.below.trans (hb.mono (Nat.le_of_lt h.lt))⟩
theorem Sw.put4 {v : Sip} {B : Nat} {w wr : World} (h : Sw v B w wr) (v' : Sip) : Sw v' B w ((((wr.setCell ⟨B, 0, none⟩ (.int .u64 (v'.a.toNat : Int))).setCell ⟨B, 1, none⟩ (.int .u64 (v'.b.toNat : Int))).setCell ⟨B, 2, none⟩ (.int .u64 (v'.c.toNat : Int))).setCell ⟨B, 3, none⟩ (.int .u64 (v'.d.toNat : Int))) := by
  have h1 : Sw { v with a := v'.a } B w _ := h.put 0 (.int .u64 (v'.a.toNat : Int)) rfl
  have h2 : Sw { v with a := v'.a, b := v'.b } B w _ := h1.put 1 (.int .u64 (v'.b.toNat : Int)) rfl
  have h3 : Sw { v with a := v'.a, b := v'.b, c := v'.c } B w _ := h2.put 2 (.int .u64 (v'.c.toNat : Int)) rfl
  exact h3.put 3 (.int .u64 (v'.d.toNat : Int)) rfl
def sliceLen : Value → Nat
  | .slice _ n _ => n
  | _ => 0
theorem BytesAre.drop {a : Option Addr} {l : List UInt8} {w : World} {b off n : Nat} (h : BytesAre a l w) (ha : a = some ⟨b, off, none⟩) : BytesAre (some ⟨b, off + n, none⟩) (l.drop n) w := by
  intro i hi
  have hi' : n + i < l.length := by rw [List.length_drop] at hi; omega
  obtain ⟨b', off', he, hlt, hc⟩ := h (n + i) hi'
  rw [ha] at he
  cases he
  refine ⟨b, off + n, rfl, hlt, ?_⟩
  rw [show (l.drop n)[i] = l[n + i] from by simp, Nat.add_assoc, hc]
theorem bytes_none (a : Option Addr) (l : List UInt8) (w : World) (h : l = []) : BytesAre a l w := by
  subst h
  intro i hi
  simp at hi

theorem top_step (m : UInt64) (n : Nat) : bits .or .u64 (m.toNat : Int) (IntKind.u64.wrap (IntKind.u64.wrap (n : Int) * 72057594037927936)) = ((m ||| UInt64.ofNat (n % 256 * 2 ^ 56)).toNat : Int) := by
  have e1 : IntKind.u64.wrap (IntKind.u64.wrap (n : Int) * 72057594037927936) = ((UInt64.ofNat (n % 256 * 2 ^ 56)).toNat : Int) := by
    rw [IntKind.wrap_u64, IntKind.wrap_u64, UInt64.toNat_ofNat']
    omega
  rw [e1, word_or]
set_option maxHeartbeats 8000000 in
theorem sum_any (k0 k1 : UInt64) (a0 : Option Addr) (l : List UInt8) (cap : Nat) (w : World) (hl : l.length ≤ 1000000) (hcp : l.length ≤ cap) (hB : BytesAre a0 l w) :
    Calls Try.prog 9 #[.int .u64 (k0.toNat : Int), .int .u64 (k1.toNat : Int), .slice a0 l.length cap] w fun e w' => e = .returned (.int .u64 ((sipSum k0 k1 l).toNat : Int)) ∧ Below w.heap.size w w' := by
  have x0 := word_xor k0 8317987319222330741
  have x1 := word_xor k1 7237128888997146477
  have x2 := word_xor k0 7816392313619706465
  have x3 := word_xor k1 8387220255154660723
  rw [show (((8317987319222330741 : UInt64).toNat : Nat) : Int) = 8317987319222330741 from rfl] at x0
  rw [show (((7237128888997146477 : UInt64).toNat : Nat) : Int) = 7237128888997146477 from rfl] at x1
  rw [show (((7816392313619706465 : UInt64).toNat : Nat) : Int) = 7816392313619706465 from rfl] at x2
  rw [show (((8387220255154660723 : UInt64).toNat : Nat) : Int) = 8387220255154660723 from rfl] at x3
  go_enter Try.func9, Try.ntmps9
  go_wp2
  have hc0 : (#[.int .u64 ((k0.toNat ^^^ 8317987319222330741 : Nat) : Int), .int .u64 ((k1.toNat ^^^ 7237128888997146477 : Nat) : Int), .int .u64 ((k0.toNat ^^^ 7816392313619706465 : Nat) : Int), .int .u64 ((k1.toNat ^^^ 8387220255154660723 : Nat) : Int)] : Array Value) = (Sip.init k0 k1).cells := by simp [Sip.cells, Sip.init]
  rw [hc0]
  clear hc0 x0 x1 x2 x3
  have hs0 : Sw (Sip.init k0 k1) w.heap.size w (w.alloc (.cells (Sip.init k0 k1).cells 36)) := ⟨heap_alloc_new w _, (Below.refl _ w).alloc (Nat.le_refl _) _⟩
  generalize w.alloc (.cells (Sip.init k0 k1).cells 36) = w0 at hs0 ⊢
  obtain ⟨v0, hv0⟩ : ∃ v0, Sip.init k0 k1 = v0 := ⟨_, rfl⟩
  rw [hv0] at hs0
  replace hv0 := Lib.hid hv0
  go_loopw [8] (fun r wr => ∃ (i : Nat) (L : List UInt8) (a : Option Addr) (c : Nat), 8 * i ≤ l.length ∧ Hid (l.drop (8 * i) = L) ∧ r = .slice a L.length c ∧ L.length ≤ c ∧ BytesAre a L w ∧ Sw (v0.after l i) w.heap.size w wr) (fun r _ => sliceLen r)
  case atStart => exact ⟨0, l, a0, cap, by omega, Lib.hid (by simp), rfl, hcp, hB, hs0⟩
  case round =>
    obtain ⟨i, L, a, c, hi, hL, rfl, hc, hBr, hst⟩ := hrel
    clear hs0
    have hLl : L.length = l.length - 8 * i := by rw [← hL.out]; exact List.length_drop
    obtain ⟨V, hV⟩ : ∃ V, v0.after l i = V := ⟨_, rfl⟩
    have hLx : L.length ≤ 1000000 := by omega
    rw [hV] at hst
    replace hV := Lib.hid hV
    have hdr : Sw V w.heap.size w wr.drew := ⟨hst.here, hst.below.drew⟩
    have hwc := Lib.hid (word_any a L c wr.drew hLx (hBr.below (Nat.le_refl _) hdr.below))
    by_cases hge : 8 ≤ L.length
    · obtain ⟨b, off, rfl, hbk, hdead⟩ := hBr 0 (by omega)
      clear hdead
      have hge' : (8 : Int) ≤ (L.length : Int) := by omega
      have hwd : wordOf l i = part L 0 8 := by
        unfold wordOf
        rw [if_neg (by omega), ← hL.out, part_drop, Nat.add_zero]
      have hnx : v0.after l (i + 1) = ((V.xd (wordOf l i)).rounds 2).xa (wordOf l i) := by rw [← hV.out]; rfl
      rw [hwd] at hnx
      clear hwd
      replace hLl := Lib.hid hLl
      generalize part L 0 8 = M at hnx hwc
      obtain ⟨V3, hV3⟩ : ∃ V3, ((V.xd M).rounds 2).xa M = V3 := ⟨_, rfl⟩
      rw [hV3] at hnx
      have hab := fun w2 => absorb_lit V M w2
      rw [hV3] at hab
      replace hnx := Lib.hid hnx
      replace hab := Lib.hid hab
      clear hV3
      have ca := hdr.ca
      have cb := hdr.cb
      have cc := hdr.cc
      have cd := hdr.cd
      have hfz := hdr.f
      go_upto_region 4 with (fail)
      go_region_with (first
        | (go_at_call 19; go_fit hwc.out; rintro e w2 ⟨rfl, hb2⟩; have hst2 := hdr.grown hb2; have hfz2 := hst2.f; have ca2 := hst2.ca; have cb2 := hst2.cb; have cc2 := hst2.cc; have cd2 := hst2.cd; have hac := Lib.hid (hab.out w2))
        | (go_at_call 18; go_fit hac.out; rintro e w3 ⟨rfl, hb3⟩; have hst3 := hst2.grown hb3; have hfz3 := hst3.f; have ca3 := hst3.ca; have cb3 := hst3.cb; have cc3 := hst3.cc; have cd3 := hst3.cd))
      all_goals
        have hst4 := hst3.put4 V3
        generalize (((w3.setCell ⟨w.heap.size, 0, none⟩ (.int .u64 (V3.a.toNat : Int))).setCell ⟨w.heap.size, 1, none⟩ (.int .u64 (V3.b.toNat : Int))).setCell ⟨w.heap.size, 2, none⟩ (.int .u64 (V3.c.toNat : Int))).setCell ⟨w.heap.size, 3, none⟩ (.int .u64 (V3.d.toNat : Int)) = w4 at hst4 ⊢
        clear ca cb cc cd hfz ca2 cb2 cc2 cd2 hfz2 ca3 cb3 cc3 cd3 hfz3 hst2 hst3 hab hac hwc hdr hst hb2 hb3
        have hc8 : 8 ≤ c := by omega
        have hc8' : (8 : Int) ≤ (c : Int) := by omega
        go_wp2
        have hLl2 := hLl.out
        refine ⟨⟨i + 1, L.drop 8, if c = 8 then some ⟨b, off, none⟩ else some ⟨b, off + 8, none⟩, c - 8, by omega, Lib.hid (by rw [← hL.out, List.drop_drop]; rfl), by rw [List.length_drop], by rw [List.length_drop]; omega, ?_, by rw [hnx.out]; exact hst4⟩, ?_⟩
        · split
          · exact bytes_none _ _ _ (List.drop_eq_nil_of_le (by omega))
          · exact hBr.drop rfl
        · simp only [sliceLen]; omega
    · have hil : i = l.length / 8 := by omega
      have hge' : ¬ (8 : Int) ≤ (L.length : Int) := by omega
      have hwd : wordOf l i = part L 0 8 ||| UInt64.ofNat (l.length % 256 * 2 ^ 56) := by
        unfold wordOf
        rw [if_pos hil, ← hL.out, part_drop, Nat.add_zero]
        have := part_more l (8 * i) (l.length - 8 * i) (8 - (l.length - 8 * i)) (by omega)
        rw [show l.length - 8 * i + (8 - (l.length - 8 * i)) = 8 from by omega] at this
        rw [this]
      have hfin : sipSum k0 k1 l = (((((v0.after l (i + 1)).xc 255).rounds 4).a ^^^ (((v0.after l (i + 1)).xc 255).rounds 4).b) ^^^ (((v0.after l (i + 1)).xc 255).rounds 4).c) ^^^ (((v0.after l (i + 1)).xc 255).rounds 4).d := by rw [hil, ← hv0.out]; rfl
      have hnx : v0.after l (i + 1) = ((V.xd (wordOf l i)).rounds 2).xa (wordOf l i) := by rw [← hV.out]; rfl
      have hor := top_step (part L 0 8) l.length
      rw [← hwd] at hor
      generalize wordOf l i = M at hnx hor
      obtain ⟨V3, hV3⟩ : ∃ V3, ((V.xd M).rounds 2).xa M = V3 := ⟨_, rfl⟩
      rw [hV3] at hnx
      rw [hnx] at hfin
      have hab := fun w2 => absorb_lit V M w2
      rw [hV3] at hab
      clear hnx hV3 hwd hil
      replace hab := Lib.hid hab
      replace hLl := Lib.hid hLl
      replace hfin := Lib.hid hfin
      generalize part L 0 8 = M0 at hor hwc
      have ca := hdr.ca
      have cb := hdr.cb
      have cc := hdr.cc
      have cd := hdr.cd
      have hfz := hdr.f
      go_upto_region 6 with (fail)
      go_region_with (first
        | (go_at_call 19; go_fit hwc.out; rintro e w2 ⟨rfl, hb2⟩; have hst2 := hdr.grown hb2; have hfz2 := hst2.f; have ca2 := hst2.ca; have cb2 := hst2.cb; have cc2 := hst2.cc; have cd2 := hst2.cd; have hac := Lib.hid (hab.out w2))
        | (go_at_call 18; go_fit hac.out; rintro e w3 ⟨rfl, hb3⟩; have hst3 := hst2.grown hb3; have hfz3 := hst3.f; have ca3 := hst3.ca; have cb3 := hst3.cb; have cc3 := hst3.cc; have cd3 := hst3.cd))
      all_goals
        have hst4 := hst3.put4 V3
        generalize (((w3.setCell ⟨w.heap.size, 0, none⟩ (.int .u64 (V3.a.toNat : Int))).setCell ⟨w.heap.size, 1, none⟩ (.int .u64 (V3.b.toNat : Int))).setCell ⟨w.heap.size, 2, none⟩ (.int .u64 (V3.c.toNat : Int))).setCell ⟨w.heap.size, 3, none⟩ (.int .u64 (V3.d.toNat : Int)) = w4 at hst4 ⊢
        clear ca cb cc cd hfz ca2 cb2 cc2 cd2 hfz2 ca3 cb3 cc3 cd3 hfz3 hst2 hst3 hab hac hwc hdr hst hb2 hb3 hor
        have cc := hst4.cc
        have hfz := hst4.f
        have hx := word_xor V3.c 255
        rw [show (((255 : UInt64).toNat : Nat) : Int) = 255 from rfl] at hx
        go_upto_region 8 with (fail)
        have hst5 : Sw (V3.xc 255) w.heap.size w (w4.setCell ⟨w.heap.size, 2, none⟩ (.int .u64 ((V3.c.toNat ^^^ 255 : Nat) : Int))) := hst4.put 2 _ (by simp [Sip.cells, Sip.xc])
        generalize w4.setCell ⟨w.heap.size, 2, none⟩ (.int .u64 ((V3.c.toNat ^^^ 255 : Nat) : Int)) = w5 at hst5 ⊢
        clear cc hfz hst4 hx
        replace hfin := hfin.out
        generalize V3.xc 255 = V1 at hst5 hfin
        have ca := hst5.ca
        have cb := hst5.cb
        have cc := hst5.cc
        have cd := hst5.cd
        have hfz := hst5.f
        have hro := drounds_lit V1 4 w5 (by omega) 4 rfl
        generalize V1.rounds 4 = V2 at hro hfin
        replace hfin := Lib.hid hfin
        go_upto_region 9 with (go_at_call 20; refine hro.mono ?_; rintro e w6 ⟨rfl, hb6⟩; have hst6 := hst5.grown hb6; have hfz6 := hst6.f; have ca6 := hst6.ca; have cb6 := hst6.cb; have cc6 := hst6.cc; have cd6 := hst6.cd)
        have hst7 := hst6.put4 V2
        generalize (((w6.setCell ⟨w.heap.size, 0, none⟩ (.int .u64 (V2.a.toNat : Int))).setCell ⟨w.heap.size, 1, none⟩ (.int .u64 (V2.b.toNat : Int))).setCell ⟨w.heap.size, 2, none⟩ (.int .u64 (V2.c.toNat : Int))).setCell ⟨w.heap.size, 3, none⟩ (.int .u64 (V2.d.toNat : Int)) = w7 at hst7 ⊢
        clear ca cb cc cd hfz ca6 cb6 cc6 cd6 hfz6 hst6 hst5 hro
        have ca := hst7.ca
        have cb := hst7.cb
        have cc := hst7.cc
        have cd := hst7.cd
        have hfz := hst7.f
        have x1 := word_xor V2.a V2.b
        have x2 := word_xor (V2.a ^^^ V2.b) V2.c
        have x3 := word_xor ((V2.a ^^^ V2.b) ^^^ V2.c) V2.d
        rw [← hfin.out] at x3
        go_wp2
        rw [← UInt64.toNat_xor, x2, x3]
        exact bodyPost_ret (v := .int .u64 ((sipSum k0 k1 l).toNat : Int)) (by simp [results, Try.results9, go_sem]) rfl ⟨rfl, hst7.below⟩
end Go.Proofs.Ytiomdikompodfaa
