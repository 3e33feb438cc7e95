/- ValueOrder: of any three values of one kind, Compare keeps the laws of a total order. -/
import Derived.Test.YtipncjbgippkcaaDoorPk
import Derived.Test.YtipncjbgippkcaaDoorPj
import Derived.Test.YtipncjbgippkcaaDoorLawFmt
import Derived.Test.YtipncjbgippkcaaDoorPd
import Derived.Deep.CutBlock
namespace Go.Proofs.YtipncjbgippkcaaDoor
open Go Go.RowKit

/-- Three values without lists, in a block of the call's own. -/
structure Trio (x y z : Val) (a b c : Option Addr) (d e f R : Nat) (w wr : World) : Prop where
  here : wr.heap[R]? = some (.cells #[.int .i64 x.kind, .int .i64 x.num, .string x.text, .slice a 0 d, .int .i64 y.kind, .int .i64 y.num, .string y.text, .slice b 0 e, .int .i64 z.kind, .int .i64 z.num, .string z.text, .slice c 0 f] 24 (0, 0))
  below : Below w.heap.size w wr
  low : w.heap.size ≤ R
theorem Trio.lt {x y z : Val} {a b c : Option Addr} {d e f R : Nat} {w wr : World} (h : Trio x y z a b c d e f R w wr) : R < wr.heap.size := (Array.getElem?_eq_some_iff.1 h.here).1
theorem Trio.grown {x y z : Val} {a b c : Option Addr} {d e f R : Nat} {w wr w' : World} (h : Trio x y z a b c d e f R w wr) (hb : Below wr.heap.size wr w') : Trio x y z a b c d e f R w w' :=
  ⟨(hb.block R h.lt).trans h.here, h.below.trans (hb.mono h.below.size), h.low⟩
theorem Trio.put0 {x y z : Val} {a b c : Option Addr} {d e f R : Nat} {w wr : World} (h : Trio x y z a b c d e f R w wr) (s : ByteArray) : Trio ⟨x.kind, x.num, s, x.list⟩ y z a b c d e f R w (wr.setCell ⟨R, 2, none⟩ (.string s)) := by
  refine ⟨?_, h.below.setCell (p := ⟨R, 2, none⟩) h.low _, h.low⟩
  show (wr.heap.modify R _)[R]? = _
  rw [Array.getElem?_modify, if_pos rfl, h.here]
  rfl
theorem Trio.put1 {x y z : Val} {a b c : Option Addr} {d e f R : Nat} {w wr : World} (h : Trio x y z a b c d e f R w wr) (s : ByteArray) : Trio x ⟨y.kind, y.num, s, y.list⟩ z a b c d e f R w (wr.setCell ⟨R, 6, none⟩ (.string s)) := by
  refine ⟨?_, h.below.setCell (p := ⟨R, 6, none⟩) h.low _, h.low⟩
  show (wr.heap.modify R _)[R]? = _
  rw [Array.getElem?_modify, if_pos rfl, h.here]
  rfl
theorem Trio.put2 {x y z : Val} {a b c : Option Addr} {d e f R : Nat} {w wr : World} (h : Trio x y z a b c d e f R w wr) (s : ByteArray) : Trio x y ⟨z.kind, z.num, s, z.list⟩ a b c d e f R w (wr.setCell ⟨R, 10, none⟩ (.string s)) := by
  refine ⟨?_, h.below.setCell (p := ⟨R, 10, none⟩) h.low _, h.low⟩
  show (wr.heap.modify R _)[R]? = _
  rw [Array.getElem?_modify, if_pos rfl, h.here]
  rfl
structure Good (k : Int) (x : Val) : Prop where
  kind : x.kind = k
  ok : checkE x = 0
  list : x.list = []
  size : x.text.size ≤ 100
def VerT (x : Val) : Prop := ∃ a b c : Int, ((0 ≤ a ∧ a ≤ 999999) ∧ (0 ≤ b ∧ b ≤ 999999) ∧ (0 ≤ c ∧ c ≤ 999999)) ∧ x.text = verT a b c
theorem good_drawn {r : Int} (hr : 0 ≤ r ∧ r < 3) {x : Val} (h : Drawn (2 + r) x) : Good (2 + r) x := by
  have hs : shapeP x := by
    have h1 := h.ok
    unfold checkE at h1
    have := h.kind
    rw [if_neg (by omega)] at h1
    apply Classical.byContradiction
    intro hn
    rw [if_pos hn] at h1
    cases h1
  refine ⟨h.kind, h.ok, ?_, h.text⟩
  have := h.kind
  rcases hs.2.2 with p | p
  · omega
  · exact List.eq_nil_of_length_eq_zero p
/-- A version's text from one number. -/
def verOf (q : Int) : ByteArray := verT (q % 12) (q / 12 % 11) q
theorem verOf_parts (q : Int) : verOf q = ((((⟨(Lib.itoa (q % 12)).toArray⟩ ++ ⟨#[46]⟩) ++ ⟨(Lib.itoa (q / 12 % 11)).toArray⟩) ++ ⟨#[46]⟩) ++ ⟨(Lib.itoa q).toArray⟩ : ByteArray) := by
  apply ByteArray.ext
  apply Array.toList_inj.1
  simp [verOf, verT]
theorem good_ver {x : Val} (h : Good 4 x) (q : Int) (h0 : 0 ≤ q) (h1 : q ≤ 999999) : Good 4 ⟨x.kind, x.num, verOf q, x.list⟩ ∧ VerT ⟨x.kind, x.num, verOf q, x.list⟩ := by
  have hv := verT_parts (q % 12) (q / 12 % 11) q (by omega) (by omega) (by omega)
  have hn : x.num = 0 := by
    have h2 := h.ok
    unfold checkE at h2
    have := h.kind
    rw [if_neg (by omega)] at h2
    apply Classical.byContradiction
    intro hn
    rw [if_pos (by intro hs; rcases hs.1 with p | p <;> omega)] at h2
    cases h2
  refine ⟨⟨h.kind, ?_, h.list, ?_⟩, q % 12, q / 12 % 11, q, ⟨by omega, by omega, by omega⟩, rfl⟩
  · rw [h.kind, hn, h.list]
    exact ver_check _ hv.1
  · have e := verOf_parts q
    have s1 := itoa_small (q % 12) (by omega) (by omega)
    have s2 := itoa_small (q / 12 % 11) (by omega) (by omega)
    have s3 := itoa_small q (by omega) (by omega)
    rw [e]
    simp only [ByteArray.size_append]
    have : (⟨#[46]⟩ : ByteArray).size = 1 := rfl
    omega
/-- Three of one kind that may be ranked. -/
structure Rank3 (k : Int) (x y z : Val) : Prop where
  gx : Good k x
  gy : Good k y
  gz : Good k z
  ver : k = 4 → VerT x ∧ VerT y ∧ VerT z
theorem Rank3.all {k : Int} {x y z : Val} (h : Rank3 k x y z) : Ranked k x ∧ Ranked k y ∧ Ranked k z :=
  ⟨⟨h.gx.kind, h.gx.ok, fun e => (h.ver e).1⟩, ⟨h.gy.kind, h.gy.ok, fun e => (h.ver e).2.1⟩, ⟨h.gz.kind, h.gz.ok, fun e => (h.ver e).2.2⟩⟩
theorem cmp_range (x y : Val) : -1 ≤ (cmpP x y).1 ∧ (cmpP x y).1 ≤ 1 := by
  have s : ∀ b c : Bool, -1 ≤ signI b c ∧ signI b c ≤ 1 := by intro b c; cases b <;> cases c <;> decide
  unfold cmpP
  split
  · exact ⟨by simp, by simp⟩
  · split
    · exact ⟨by simp, by simp⟩
    · split
      · exact ⟨by simp, by simp⟩
      · split
        · exact s _ _
        · split
          · exact s _ _
          · show -1 ≤ verCmp x.text y.text ∧ verCmp x.text y.text ≤ 1
            unfold verCmp
            split
            · exact s _ _
            · split
              · exact s _ _
              · split
                · exact s _ _
                · exact ⟨by simp, by simp⟩
set_option maxHeartbeats 8000000 in
set_option maxRecDepth 100000 in
theorem order_walk (x : Int) (a1 : Option Addr) (l : List UInt8) (c1 : Nat) (n0 n1 n2 : Int) (w : World) (E : Env w) (G : DrawL w) (hx : -9223372036854775808 ≤ x ∧ x ≤ 9223372036854775807) (b1 : l.length ≤ c1) (m1 : c1 ≤ 9223372036854775807) (y1 : BytesOf a1 l w)
    (h0 : -9223372036854775808 ≤ n0 ∧ n0 ≤ 9223372036854775807) (h1 : -9223372036854775808 ≤ n1 ∧ n1 ≤ 9223372036854775807) (h2 : -9223372036854775808 ≤ n2 ∧ n2 ≤ 9223372036854775807) :
    Calls Tryd.prog 5 #[.int .i64 x, .slice a1 (l.length : Nat) c1, .int .i64 n0, .int .i64 n1, .int .i64 n2] w fun e w' => e = .returned (.bool true) ∧ Below w.heap.size w w' := by
  obtain ⟨r, hr, hr0⟩ : ∃ r : Int, x % 3 = r ∧ (0 ≤ r ∧ r < 3) := ⟨_, rfl, by omega⟩
  have hmod := fun W : World => mod_any x 3 W hx (by omega) (by omega)
  rw [hr] at hmod
  clear hr
  replace hmod := Lib.hid hmod
  have hr1 : 0 ≤ r := hr0.1
  have hr2 : r < 3 := hr0.2
  go_enter Tryd.func5, Tryd.ntmps5
  go_wp2_with (go_at_call 8; refine (awake_any _ E).mono ?_)
  rintro e W2 ⟨rfl, hb2⟩
  have yB : BytesOf a1 l W2 := fun i hi => by
    obtain ⟨b, off, e1, e2, e3⟩ := y1 i hi
    exact ⟨b, off, e1, Nat.lt_of_lt_of_le e2 hb2.size, (hb2.cell (p := ⟨b, off + i, none⟩) e2).trans e3⟩
  have hnew := new_any l a1 c1 20 W2 (by omega) b1 (by omega) yB
  replace hnew := Lib.hid hnew
  have hGf : ∀ W', Below W2.heap.size W2 W' → DrawG W2.heap.size W' := fun W' hb => (G.below hb2).fresh hb
  replace hGf := Lib.hid hGf
  go_upto_region 5 with (first
    | (go_at_call 21; refine (hmod.out _).mono ?_; rintro e w1 ⟨rfl, rfl⟩)
    | (go_at_call 10; refine hnew.out.mono ?_; rintro e W3 ⟨rfl, hcd, hb3⟩))
  have hb3w := hb2.trans (hb3.mono hb2.size)
  have hG3 := hGf.out _ hb3
  have hlo : w.heap.size ≤ W2.heap.size := hb2.size
  clear hGf hnew yB
  generalize W2.heap.size = C at hcd hb3 hG3 hlo ⊢
  have hl20 : (l.take 20).length ≤ 1000000 := by rw [List.length_take]; omega
  have hv1 := Lib.hid (value_any (2 + r) (by omega) _ a1 c1 C 0 W3 hl20 hcd hG3)
  go_wp2_with (go_at_call 22; refine hv1.out.mono ?_)
  rintro e W4 ⟨⟨⟨k1, n1', t1, l1⟩, a, d, rfl, hd1, _, _, _⟩, hk4, at4, hc4⟩
  have g1 := good_drawn hr0 hd1
  have hG4 := hG3.kept hk4
  have hv2 := Lib.hid (value_any (2 + r) (by omega) _ a1 c1 C at4 W4 hl20 hc4 hG4)
  obtain rfl : l1 = [] := g1.list
  unfold Val.agg
  go_wp2_with (go_at_call 22; refine hv2.out.mono ?_)
  rintro e W5 ⟨⟨⟨k2, n2', t2, l2⟩, b, e', rfl, hd2, _, _, _⟩, hk5, at5, hc5⟩
  have g2 := good_drawn hr0 hd2
  have hG5 := hG4.kept hk5
  have hv3 := Lib.hid (value_any (2 + r) (by omega) _ a1 c1 C at5 W5 hl20 hc5 hG5)
  obtain rfl : l2 = [] := g2.list
  unfold Val.agg
  go_wp2_with (go_at_call 22; refine hv3.out.mono ?_)
  rintro e W6 ⟨⟨⟨k3, n3', t3, l3⟩, c, f, rfl, hd3, _, _, _⟩, hk6, at6, hc6⟩
  have g3 := good_drawn hr0 hd3
  obtain rfl : l3 = [] := g3.list
  unfold Val.agg
  have hkw := (hk4.trans hk5).trans hk6
  have hb6 : Below w.heap.size w W6 := hb3w.trans (hkw.below hlo hb3w.size)
  have hT : Trio ⟨k1, n1', t1, []⟩ ⟨k2, n2', t2, []⟩ ⟨k3, n3', t3, []⟩ a b c d e' f W6.heap.size w (W6.alloc (.cells #[.int .i64 k1, .int .i64 n1', .string t1, .slice a 0 d, .int .i64 k2, .int .i64 n2', .string t2, .slice b 0 e', .int .i64 k3, .int .i64 n3', .string t3, .slice c 0 f] 24)) :=
    ⟨heap_alloc_new W6 _, hb6.alloc hb6.size _, hb6.size⟩
  clear hv1 hv2 hv3 hc4 hc5 hc6 hG3 hG4 hG5 hkw hk4 hk5 hk6 hd1 hd2 hd3 hcd
  go_upto_if 41 with (fail)
  generalize W6.alloc (.cells #[.int .i64 k1, .int .i64 n1', .string t1, .slice a 0 d, .int .i64 k2, .int .i64 n2', .string t2, .slice b 0 e', .int .i64 k3, .int .i64 n3', .string t3, .slice c 0 f] 24) = W7 at hT ⊢
  generalize W6.heap.size = R at hT ⊢
  go_cut [12] (fun v wx => v = .slice (some ⟨R, 0, none⟩) 3 3 ∧ ∃ x y z : Val, Trio x y z a b c d e' f R w wx ∧ Rank3 (2 + r) x y z)
  case first =>
    by_cases h4 : r = 2
    · subst h4
      have q0 := Lib.hid (fun W : World => mod_any n0 1000000 W h0 (by omega) (by omega))
      have q1 := Lib.hid (fun W : World => mod_any n1 1000000 W h1 (by omega) (by omega))
      have q2 := Lib.hid (fun W : World => mod_any n2 1000000 W h2 (by omega) (by omega))
      go_wp2
      have hbG := (Below.refl W7.heap.size W7).alloc (Nat.le_refl _) (.cells #[.int .i64 n0, .int .i64 n1, .int .i64 n2] 3)
      have hzG := heap_alloc_new W7 (.cells #[.int .i64 n0, .int .i64 n1, .int .i64 n2] 3)
      have hT2 := hT.grown hbG
      have hRG : R ≠ W7.heap.size := Nat.ne_of_lt hT.lt
      generalize W7.alloc (.cells #[.int .i64 n0, .int .i64 n1, .int .i64 n2] 3) = W8 at hT2 hzG ⊢
      generalize W7.heap.size = P at hzG hRG ⊢
      go_loopw [13, 14, 47] (fun _ _ t wr => ∃ (m : Nat) (x y z : Val), m ≤ 3 ∧ t = .int .i64 m ∧ Trio x y z a b c d e' f R w wr ∧ (Good 4 x ∧ Good 4 y ∧ Good 4 z) ∧ (0 < m → VerT x) ∧ (1 < m → VerT y) ∧ (2 < m → VerT z) ∧ wr.heap[P]? = some (.cells #[.int .i64 n0, .int .i64 n1, .int .i64 n2] 3 (0, 0))) (fun _ _ t _ => 3 - (intOf t).toNat)
      case atStart => exact ⟨0, _, _, _, by omega, rfl, hT2, ⟨g1, g2, g3⟩, fun h => by omega, fun h => by omega, fun h => by omega, hzG⟩
      case round =>
        obtain ⟨m, x, y, z, hm, rfl, hTr, hg, v0, v1, v2, hz⟩ := hrel
        have hmc : m = 0 ∨ m = 1 ∨ m = 2 ∨ m = 3 := by omega
        have cx := hTr.here
        have zf : ∀ i, wr.frozen? ⟨R, i, none⟩ = false := Lib.frozen_of_heap cx
        rcases hmc with rfl | rfl | rfl | rfl
        · have p0 : wr.cell? ⟨P, 0, none⟩ = some (.int .i64 n0) := by rw [Lib.cell_of_heap hz]; rfl
          have r0 : wr.cell? ⟨R, 2, none⟩ = some (.string x.text) := by rw [Lib.cell_of_heap cx]; rfl
          have hq1 : 0 ≤ n0 % 1000000 := by omega
          have hq2 : n0 % 1000000 ≤ 999999 := by omega
          have hgv := good_ver hg.1 (n0 % 1000000) hq1 hq2
          have hvp := verOf_parts (n0 % 1000000)
          generalize n0 % 1000000 = q at q0 hq1 hq2 hgv hvp
          have s1 := itoa_small (q % 12) (by omega) (by omega)
          have s2 := itoa_small (q / 12 % 11) (by omega) (by omega)
          have s3 := itoa_small q (by omega) (by omega)
          have u1 := fun W : World => number_same (q % 12) W (by omega)
          have u2 := fun W : World => number_same (q / 12 % 11) W (by omega)
          have u3 := fun W : World => number_same q W (by omega)
          have hput := hTr.put0 (verOf q)
          rw [hvp] at hgv hput
          clear hvp
          generalize (⟨(Lib.itoa (q % 12)).toArray⟩ : ByteArray) = S1 at s1 u1 hgv hput
          generalize (⟨(Lib.itoa (q / 12 % 11)).toArray⟩ : ByteArray) = S2 at s2 u2 hgv hput
          generalize (⟨(Lib.itoa q).toArray⟩ : ByteArray) = S3 at s3 u3 hgv hput
          replace u1 := Lib.hid u1
          replace u2 := Lib.hid u2
          replace u3 := Lib.hid u3
          have hzP := (Below.heap_setCell wr ⟨R, 2, none⟩ (.string ((((S1 ++ ⟨#[46]⟩) ++ S2) ++ ⟨#[46]⟩) ++ S3)) P (by show P ≠ R; omega)).trans hz
          have e1 : ¬ 9223372036854775807 < S1.size + 1 := by omega
          have e2 : ¬ 9223372036854775807 < S1.size + 1 + S2.size := by omega
          have e3 : ¬ 9223372036854775807 < S1.size + 1 + S2.size + 1 := by omega
          have e4 : ¬ 9223372036854775807 < S1.size + 1 + S2.size + 1 + S3.size := by omega
          replace hgv := Lib.hid hgv
          replace hput := Lib.hid hput
          replace hzP := Lib.hid hzP
          go_upto_region 11 with (go_at_call 21; refine (q0.out _).mono ?_; rintro e w1 ⟨rfl, rfl⟩)
          go_wp2_with (go_at_call 23; with_reducible refine (u1.out _).mono ?_)
          rintro e w1 ⟨rfl, rfl⟩
          go_wp2_with (go_at_call 23; with_reducible refine (u2.out _).mono ?_)
          rintro e w1 ⟨rfl, rfl⟩
          go_wp2_with (go_at_call 23; with_reducible refine (u3.out _).mono ?_)
          rintro e w1 ⟨rfl, rfl⟩
          go_wp2
          go_roundw
          case rel =>
            (repeat apply Exists.intro)
            exact ⟨⟨1, _, _, _, by omega, by go_num, hput.out, ⟨hgv.out.1, hg.2.1, hg.2.2⟩, fun _ => hgv.out.2, fun h => by omega, fun h => by omega, hzP.out⟩, rfl⟩
          case measure => simp [intOf]
        · have p0 : wr.cell? ⟨P, 1, none⟩ = some (.int .i64 n1) := by rw [Lib.cell_of_heap hz]; rfl
          have r0 : wr.cell? ⟨R, 6, none⟩ = some (.string y.text) := by rw [Lib.cell_of_heap cx]; rfl
          have hq1 : 0 ≤ n1 % 1000000 := by omega
          have hq2 : n1 % 1000000 ≤ 999999 := by omega
          have hgv := good_ver hg.2.1 (n1 % 1000000) hq1 hq2
          have hvp := verOf_parts (n1 % 1000000)
          generalize n1 % 1000000 = q at q1 hq1 hq2 hgv hvp
          have s1 := itoa_small (q % 12) (by omega) (by omega)
          have s2 := itoa_small (q / 12 % 11) (by omega) (by omega)
          have s3 := itoa_small q (by omega) (by omega)
          have u1 := fun W : World => number_same (q % 12) W (by omega)
          have u2 := fun W : World => number_same (q / 12 % 11) W (by omega)
          have u3 := fun W : World => number_same q W (by omega)
          have hput := hTr.put1 (verOf q)
          rw [hvp] at hgv hput
          clear hvp
          generalize (⟨(Lib.itoa (q % 12)).toArray⟩ : ByteArray) = S1 at s1 u1 hgv hput
          generalize (⟨(Lib.itoa (q / 12 % 11)).toArray⟩ : ByteArray) = S2 at s2 u2 hgv hput
          generalize (⟨(Lib.itoa q).toArray⟩ : ByteArray) = S3 at s3 u3 hgv hput
          replace u1 := Lib.hid u1
          replace u2 := Lib.hid u2
          replace u3 := Lib.hid u3
          have hzP := (Below.heap_setCell wr ⟨R, 6, none⟩ (.string ((((S1 ++ ⟨#[46]⟩) ++ S2) ++ ⟨#[46]⟩) ++ S3)) P (by show P ≠ R; omega)).trans hz
          have e1 : ¬ 9223372036854775807 < S1.size + 1 := by omega
          have e2 : ¬ 9223372036854775807 < S1.size + 1 + S2.size := by omega
          have e3 : ¬ 9223372036854775807 < S1.size + 1 + S2.size + 1 := by omega
          have e4 : ¬ 9223372036854775807 < S1.size + 1 + S2.size + 1 + S3.size := by omega
          replace hgv := Lib.hid hgv
          replace hput := Lib.hid hput
          replace hzP := Lib.hid hzP
          go_upto_region 11 with (go_at_call 21; refine (q1.out _).mono ?_; rintro e w1 ⟨rfl, rfl⟩)
          go_wp2_with (go_at_call 23; with_reducible refine (u1.out _).mono ?_)
          rintro e w1 ⟨rfl, rfl⟩
          go_wp2_with (go_at_call 23; with_reducible refine (u2.out _).mono ?_)
          rintro e w1 ⟨rfl, rfl⟩
          go_wp2_with (go_at_call 23; with_reducible refine (u3.out _).mono ?_)
          rintro e w1 ⟨rfl, rfl⟩
          go_wp2
          go_roundw
          case rel =>
            (repeat apply Exists.intro)
            exact ⟨⟨2, _, _, _, by omega, by go_num, hput.out, ⟨hg.1, hgv.out.1, hg.2.2⟩, fun _ => v0 (by omega), fun _ => hgv.out.2, fun h => by omega, hzP.out⟩, rfl⟩
          case measure => simp [intOf]
        · have p0 : wr.cell? ⟨P, 2, none⟩ = some (.int .i64 n2) := by rw [Lib.cell_of_heap hz]; rfl
          have r0 : wr.cell? ⟨R, 10, none⟩ = some (.string z.text) := by rw [Lib.cell_of_heap cx]; rfl
          have hq1 : 0 ≤ n2 % 1000000 := by omega
          have hq2 : n2 % 1000000 ≤ 999999 := by omega
          have hgv := good_ver hg.2.2 (n2 % 1000000) hq1 hq2
          have hvp := verOf_parts (n2 % 1000000)
          generalize n2 % 1000000 = q at q2 hq1 hq2 hgv hvp
          have s1 := itoa_small (q % 12) (by omega) (by omega)
          have s2 := itoa_small (q / 12 % 11) (by omega) (by omega)
          have s3 := itoa_small q (by omega) (by omega)
          have u1 := fun W : World => number_same (q % 12) W (by omega)
          have u2 := fun W : World => number_same (q / 12 % 11) W (by omega)
          have u3 := fun W : World => number_same q W (by omega)
          have hput := hTr.put2 (verOf q)
          rw [hvp] at hgv hput
          clear hvp
          generalize (⟨(Lib.itoa (q % 12)).toArray⟩ : ByteArray) = S1 at s1 u1 hgv hput
          generalize (⟨(Lib.itoa (q / 12 % 11)).toArray⟩ : ByteArray) = S2 at s2 u2 hgv hput
          generalize (⟨(Lib.itoa q).toArray⟩ : ByteArray) = S3 at s3 u3 hgv hput
          replace u1 := Lib.hid u1
          replace u2 := Lib.hid u2
          replace u3 := Lib.hid u3
          have hzP := (Below.heap_setCell wr ⟨R, 10, none⟩ (.string ((((S1 ++ ⟨#[46]⟩) ++ S2) ++ ⟨#[46]⟩) ++ S3)) P (by show P ≠ R; omega)).trans hz
          have e1 : ¬ 9223372036854775807 < S1.size + 1 := by omega
          have e2 : ¬ 9223372036854775807 < S1.size + 1 + S2.size := by omega
          have e3 : ¬ 9223372036854775807 < S1.size + 1 + S2.size + 1 := by omega
          have e4 : ¬ 9223372036854775807 < S1.size + 1 + S2.size + 1 + S3.size := by omega
          replace hgv := Lib.hid hgv
          replace hput := Lib.hid hput
          replace hzP := Lib.hid hzP
          go_upto_region 11 with (go_at_call 21; refine (q2.out _).mono ?_; rintro e w1 ⟨rfl, rfl⟩)
          go_wp2_with (go_at_call 23; with_reducible refine (u1.out _).mono ?_)
          rintro e w1 ⟨rfl, rfl⟩
          go_wp2_with (go_at_call 23; with_reducible refine (u2.out _).mono ?_)
          rintro e w1 ⟨rfl, rfl⟩
          go_wp2_with (go_at_call 23; with_reducible refine (u3.out _).mono ?_)
          rintro e w1 ⟨rfl, rfl⟩
          go_wp2
          go_roundw
          case rel =>
            (repeat apply Exists.intro)
            exact ⟨⟨3, _, _, _, by omega, by go_num, hput.out, ⟨hg.1, hg.2.1, hgv.out.1⟩, fun _ => v0 (by omega), fun _ => v1 (by omega), fun _ => hgv.out.2, hzP.out⟩, rfl⟩
          case measure => simp [intOf]
        · go_wp2
          go_meet
          case rel => exact ⟨rfl, _, _, _, hTr, ⟨hg.1, hg.2.1, hg.2.2, fun _ => ⟨v0 (by omega), v1 (by omega), v2 (by omega)⟩⟩⟩
    · have hf : (2 + r == 4) = false := by rw [beq_eq_false_iff_ne]; omega
      go_wp2
      go_meet
      case rel => exact ⟨rfl, _, _, _, hT, ⟨g1, g2, g3, fun e => by omega⟩⟩
  case rest =>
    obtain ⟨rfl, ⟨kx, nx, tx, lx⟩, ⟨ky, ny, ty, ly⟩, ⟨kz, nz, tz, lz⟩, hT, hR⟩ := hcut
    clear g1 g2 g3 hlo hb3w
    have hkk : 2 + r = 2 ∨ 2 + r = 3 ∨ 2 + r = 4 := by omega
    obtain ⟨rx, ry, rz⟩ := hR.all
    obtain rfl : lx = [] := hR.gx.list
    obtain rfl : ly = [] := hR.gy.list
    obtain rfl : lz = [] := hR.gz.list
    have sx : tx.size ≤ 100 := hR.gx.size
    have sy : ty.size ≤ 100 := hR.gy.size
    have sz : tz.size ≤ 100 := hR.gz.size
    have Ew := E.below hT.below
    have tri := ranked_order hkk rx ry rz
    have c01 := Lib.hid (fun (W : World) (hb : Below wc.heap.size wc W) => compare_any ⟨kx, nx, tx, []⟩ ⟨ky, ny, ty, []⟩ a b d e' W (by show tx.size ≤ _; omega) (by simp) (fun s hs => by simp at hs) (by show ty.size ≤ _; omega) (by simp) (fun s hs => by simp at hs) (Ew.tabs.below hb) (texts_none W a) (texts_none W b))
    have c12 := Lib.hid (fun (W : World) (hb : Below wc.heap.size wc W) => compare_any ⟨ky, ny, ty, []⟩ ⟨kz, nz, tz, []⟩ b c e' f W (by show ty.size ≤ _; omega) (by simp) (fun s hs => by simp at hs) (by show tz.size ≤ _; omega) (by simp) (fun s hs => by simp at hs) (Ew.tabs.below hb) (texts_none W b) (texts_none W c))
    have c02 := Lib.hid (fun (W : World) (hb : Below wc.heap.size wc W) => compare_any ⟨kx, nx, tx, []⟩ ⟨kz, nz, tz, []⟩ a c d f W (by show tx.size ≤ _; omega) (by simp) (fun s hs => by simp at hs) (by show tz.size ≤ _; omega) (by simp) (fun s hs => by simp at hs) (Ew.tabs.below hb) (texts_none W a) (texts_none W c))
    have c10 := Lib.hid (fun (W : World) (hb : Below wc.heap.size wc W) => compare_any ⟨ky, ny, ty, []⟩ ⟨kx, nx, tx, []⟩ b a e' d W (by show ty.size ≤ _; omega) (by simp) (fun s hs => by simp at hs) (by show tx.size ≤ _; omega) (by simp) (fun s hs => by simp at hs) (Ew.tabs.below hb) (texts_none W b) (texts_none W a))
    have ceq := Lib.hid (fun (W : World) (hb : Below wc.heap.size wc W) => equal_any ⟨kx, nx, tx, []⟩ ⟨ky, ny, ty, []⟩ a b d e' W (by simp) (texts_none W a) (texts_none W b))
    have z01 : (cmpP ⟨kx, nx, tx, []⟩ ⟨ky, ny, ty, []⟩).2 = 0 := by rw [ranked_cmp hkk rx ry]
    have z12 : (cmpP ⟨ky, ny, ty, []⟩ ⟨kz, nz, tz, []⟩).2 = 0 := by rw [ranked_cmp hkk ry rz]
    have z02 : (cmpP ⟨kx, nx, tx, []⟩ ⟨kz, nz, tz, []⟩).2 = 0 := by rw [ranked_cmp hkk rx rz]
    have z10 : (cmpP ⟨ky, ny, ty, []⟩ ⟨kx, nx, tx, []⟩).2 = 0 := by rw [ranked_cmp hkk ry rx]
    have n10 : (cmpP ⟨ky, ny, ty, []⟩ ⟨kx, nx, tx, []⟩).1 = -(cmpP ⟨kx, nx, tx, []⟩ ⟨ky, ny, ty, []⟩).1 := tri.neg
    rw [z01] at c01
    rw [z12] at c12
    rw [z02] at c02
    rw [z10, n10] at c10
    have rp := cmp_range ⟨kx, nx, tx, []⟩ ⟨ky, ny, ty, []⟩
    have hz0 : decide ((cmpP ⟨kx, nx, tx, []⟩ ⟨ky, ny, ty, []⟩).1 = 0) = eqV ⟨kx, nx, tx, []⟩ ⟨ky, ny, ty, []⟩ := tri.zero
    have htr : (cmpP ⟨kx, nx, tx, []⟩ ⟨ky, ny, ty, []⟩).1 ≤ 0 → (cmpP ⟨ky, ny, ty, []⟩ ⟨kz, nz, tz, []⟩).1 ≤ 0 → (cmpP ⟨kx, nx, tx, []⟩ ⟨kz, nz, tz, []⟩).1 ≤ 0 ∧ ((cmpP ⟨kx, nx, tx, []⟩ ⟨kz, nz, tz, []⟩).1 < 0 ∨ (cmpP ⟨kx, nx, tx, []⟩ ⟨ky, ny, ty, []⟩).1 = 0 ∧ (cmpP ⟨ky, ny, ty, []⟩ ⟨kz, nz, tz, []⟩).1 = 0) := tri.trans
    unfold Val.agg numE at c01 c12 c02 c10
    unfold Val.agg at ceq
    generalize (cmpP ⟨kx, nx, tx, []⟩ ⟨ky, ny, ty, []⟩).1 = p at c01 c10 rp hz0 htr
    generalize (cmpP ⟨ky, ny, ty, []⟩ ⟨kz, nz, tz, []⟩).1 = q at c12 htr
    generalize (cmpP ⟨kx, nx, tx, []⟩ ⟨kz, nz, tz, []⟩).1 = t at c02 htr
    rw [← hz0] at ceq
    have hpb : (p == 0) = decide (p = 0) := rfl
    have hwr : IntKind.i64.wrap (-p) = -p := IntWalk.i64_in _ (by omega)
    have hx0 := hT.here
    have x0 : wc.cell? ⟨R, 0, none⟩ = some (.int .i64 kx) := by rw [Lib.cell_of_heap hx0]; rfl
    have x1 : wc.cell? ⟨R, 1, none⟩ = some (.int .i64 nx) := by rw [Lib.cell_of_heap hx0]; rfl
    have x2 : wc.cell? ⟨R, 2, none⟩ = some (.string tx) := by rw [Lib.cell_of_heap hx0]; rfl
    have x3 : wc.cell? ⟨R, 3, none⟩ = some (.slice a 0 d) := by rw [Lib.cell_of_heap hx0]; rfl
    have x4 : wc.cell? ⟨R, 4, none⟩ = some (.int .i64 ky) := by rw [Lib.cell_of_heap hx0]; rfl
    have x5 : wc.cell? ⟨R, 5, none⟩ = some (.int .i64 ny) := by rw [Lib.cell_of_heap hx0]; rfl
    have x6 : wc.cell? ⟨R, 6, none⟩ = some (.string ty) := by rw [Lib.cell_of_heap hx0]; rfl
    have x7 : wc.cell? ⟨R, 7, none⟩ = some (.slice b 0 e') := by rw [Lib.cell_of_heap hx0]; rfl
    have x8 : wc.cell? ⟨R, 8, none⟩ = some (.int .i64 kz) := by rw [Lib.cell_of_heap hx0]; rfl
    have x9 : wc.cell? ⟨R, 9, none⟩ = some (.int .i64 nz) := by rw [Lib.cell_of_heap hx0]; rfl
    have x10 : wc.cell? ⟨R, 10, none⟩ = some (.string tz) := by rw [Lib.cell_of_heap hx0]; rfl
    have x11 : wc.cell? ⟨R, 11, none⟩ = some (.slice c 0 f) := by rw [Lib.cell_of_heap hx0]; rfl
    have hRl := hT.lt
    have hTb := hT.below
    replace hpb := Lib.hid hpb
    replace hz0 := Lib.hid hz0
    replace htr := Lib.hid htr
    clear hx0 hR hT n10 z01 z02 z12 z10 tri rx ry rz hr0 hkk
    have hA := Below.refl wc.heap.size wc
    go_upto_region 13 with (fail)
    have hAd := hA.drew
    go_region_held3 (fun w' => w'.cell? ⟨R, 0, none⟩ = some (.int .i64 kx) ∧ w'.cell? ⟨R, 1, none⟩ = some (.int .i64 nx) ∧ w'.cell? ⟨R, 2, none⟩ = some (.string tx) ∧ w'.cell? ⟨R, 3, none⟩ = some (.slice a 0 d) ∧ w'.cell? ⟨R, 4, none⟩ = some (.int .i64 ky) ∧ w'.cell? ⟨R, 5, none⟩ = some (.int .i64 ny) ∧ w'.cell? ⟨R, 6, none⟩ = some (.string ty) ∧ w'.cell? ⟨R, 7, none⟩ = some (.slice b 0 e'))
      (first | go_keep | (exact ⟨(hB.cell (p := ⟨R, 0, none⟩) hRl).trans x0, (hB.cell (p := ⟨R, 1, none⟩) hRl).trans x1, (hB.cell (p := ⟨R, 2, none⟩) hRl).trans x2, (hB.cell (p := ⟨R, 3, none⟩) hRl).trans x3, (hB.cell (p := ⟨R, 4, none⟩) hRl).trans x4, (hB.cell (p := ⟨R, 5, none⟩) hRl).trans x5, (hB.cell (p := ⟨R, 6, none⟩) hRl).trans x6, (hB.cell (p := ⟨R, 7, none⟩) hRl).trans x7⟩) | (exact ⟨(hAd.cell (p := ⟨R, 0, none⟩) hRl).trans x0, (hAd.cell (p := ⟨R, 1, none⟩) hRl).trans x1, (hAd.cell (p := ⟨R, 2, none⟩) hRl).trans x2, (hAd.cell (p := ⟨R, 3, none⟩) hRl).trans x3, (hAd.cell (p := ⟨R, 4, none⟩) hRl).trans x4, (hAd.cell (p := ⟨R, 5, none⟩) hRl).trans x5, (hAd.cell (p := ⟨R, 6, none⟩) hRl).trans x6, (hAd.cell (p := ⟨R, 7, none⟩) hRl).trans x7⟩))
      (first | (go_at_call 24; refine (c01.out _ hAd).mono ?_; rintro e V1 ⟨rfl, hB'⟩; have hB := hAd.trans (hB'.mono hAd.size)))
    go_upto_region 14 with (fail)
    have hBd := hB.drew
    have x4V1 : V1.cell? ⟨R, 4, none⟩ = some (.int .i64 ky) := (hB.cell (p := ⟨R, 4, none⟩) hRl).trans x4
    have x5V1 : V1.cell? ⟨R, 5, none⟩ = some (.int .i64 ny) := (hB.cell (p := ⟨R, 5, none⟩) hRl).trans x5
    have x6V1 : V1.cell? ⟨R, 6, none⟩ = some (.string ty) := (hB.cell (p := ⟨R, 6, none⟩) hRl).trans x6
    have x7V1 : V1.cell? ⟨R, 7, none⟩ = some (.slice b 0 e') := (hB.cell (p := ⟨R, 7, none⟩) hRl).trans x7
    have x8V1 : V1.cell? ⟨R, 8, none⟩ = some (.int .i64 kz) := (hB.cell (p := ⟨R, 8, none⟩) hRl).trans x8
    have x9V1 : V1.cell? ⟨R, 9, none⟩ = some (.int .i64 nz) := (hB.cell (p := ⟨R, 9, none⟩) hRl).trans x9
    have x10V1 : V1.cell? ⟨R, 10, none⟩ = some (.string tz) := (hB.cell (p := ⟨R, 10, none⟩) hRl).trans x10
    have x11V1 : V1.cell? ⟨R, 11, none⟩ = some (.slice c 0 f) := (hB.cell (p := ⟨R, 11, none⟩) hRl).trans x11
    go_region_held3 (fun w' => w'.cell? ⟨R, 4, none⟩ = some (.int .i64 ky) ∧ w'.cell? ⟨R, 5, none⟩ = some (.int .i64 ny) ∧ w'.cell? ⟨R, 6, none⟩ = some (.string ty) ∧ w'.cell? ⟨R, 7, none⟩ = some (.slice b 0 e') ∧ w'.cell? ⟨R, 8, none⟩ = some (.int .i64 kz) ∧ w'.cell? ⟨R, 9, none⟩ = some (.int .i64 nz) ∧ w'.cell? ⟨R, 10, none⟩ = some (.string tz) ∧ w'.cell? ⟨R, 11, none⟩ = some (.slice c 0 f))
      (first | go_keep | (exact ⟨(hC.cell (p := ⟨R, 4, none⟩) hRl).trans x4, (hC.cell (p := ⟨R, 5, none⟩) hRl).trans x5, (hC.cell (p := ⟨R, 6, none⟩) hRl).trans x6, (hC.cell (p := ⟨R, 7, none⟩) hRl).trans x7, (hC.cell (p := ⟨R, 8, none⟩) hRl).trans x8, (hC.cell (p := ⟨R, 9, none⟩) hRl).trans x9, (hC.cell (p := ⟨R, 10, none⟩) hRl).trans x10, (hC.cell (p := ⟨R, 11, none⟩) hRl).trans x11⟩) | (exact ⟨(hBd.cell (p := ⟨R, 4, none⟩) hRl).trans x4, (hBd.cell (p := ⟨R, 5, none⟩) hRl).trans x5, (hBd.cell (p := ⟨R, 6, none⟩) hRl).trans x6, (hBd.cell (p := ⟨R, 7, none⟩) hRl).trans x7, (hBd.cell (p := ⟨R, 8, none⟩) hRl).trans x8, (hBd.cell (p := ⟨R, 9, none⟩) hRl).trans x9, (hBd.cell (p := ⟨R, 10, none⟩) hRl).trans x10, (hBd.cell (p := ⟨R, 11, none⟩) hRl).trans x11⟩))
      (first | (go_at_call 24; refine (c12.out _ hBd).mono ?_; rintro e V2 ⟨rfl, hC'⟩; have hC := hBd.trans (hC'.mono hBd.size)))
    go_upto_region 15 with (fail)
    have hCd := hC.drew
    have x0V2 : V2.cell? ⟨R, 0, none⟩ = some (.int .i64 kx) := (hC.cell (p := ⟨R, 0, none⟩) hRl).trans x0
    have x1V2 : V2.cell? ⟨R, 1, none⟩ = some (.int .i64 nx) := (hC.cell (p := ⟨R, 1, none⟩) hRl).trans x1
    have x2V2 : V2.cell? ⟨R, 2, none⟩ = some (.string tx) := (hC.cell (p := ⟨R, 2, none⟩) hRl).trans x2
    have x3V2 : V2.cell? ⟨R, 3, none⟩ = some (.slice a 0 d) := (hC.cell (p := ⟨R, 3, none⟩) hRl).trans x3
    have x8V2 : V2.cell? ⟨R, 8, none⟩ = some (.int .i64 kz) := (hC.cell (p := ⟨R, 8, none⟩) hRl).trans x8
    have x9V2 : V2.cell? ⟨R, 9, none⟩ = some (.int .i64 nz) := (hC.cell (p := ⟨R, 9, none⟩) hRl).trans x9
    have x10V2 : V2.cell? ⟨R, 10, none⟩ = some (.string tz) := (hC.cell (p := ⟨R, 10, none⟩) hRl).trans x10
    have x11V2 : V2.cell? ⟨R, 11, none⟩ = some (.slice c 0 f) := (hC.cell (p := ⟨R, 11, none⟩) hRl).trans x11
    go_region_held3 (fun w' => w'.cell? ⟨R, 0, none⟩ = some (.int .i64 kx) ∧ w'.cell? ⟨R, 1, none⟩ = some (.int .i64 nx) ∧ w'.cell? ⟨R, 2, none⟩ = some (.string tx) ∧ w'.cell? ⟨R, 3, none⟩ = some (.slice a 0 d) ∧ w'.cell? ⟨R, 8, none⟩ = some (.int .i64 kz) ∧ w'.cell? ⟨R, 9, none⟩ = some (.int .i64 nz) ∧ w'.cell? ⟨R, 10, none⟩ = some (.string tz) ∧ w'.cell? ⟨R, 11, none⟩ = some (.slice c 0 f))
      (first | go_keep | (exact ⟨(hD.cell (p := ⟨R, 0, none⟩) hRl).trans x0, (hD.cell (p := ⟨R, 1, none⟩) hRl).trans x1, (hD.cell (p := ⟨R, 2, none⟩) hRl).trans x2, (hD.cell (p := ⟨R, 3, none⟩) hRl).trans x3, (hD.cell (p := ⟨R, 8, none⟩) hRl).trans x8, (hD.cell (p := ⟨R, 9, none⟩) hRl).trans x9, (hD.cell (p := ⟨R, 10, none⟩) hRl).trans x10, (hD.cell (p := ⟨R, 11, none⟩) hRl).trans x11⟩) | (exact ⟨(hCd.cell (p := ⟨R, 0, none⟩) hRl).trans x0, (hCd.cell (p := ⟨R, 1, none⟩) hRl).trans x1, (hCd.cell (p := ⟨R, 2, none⟩) hRl).trans x2, (hCd.cell (p := ⟨R, 3, none⟩) hRl).trans x3, (hCd.cell (p := ⟨R, 8, none⟩) hRl).trans x8, (hCd.cell (p := ⟨R, 9, none⟩) hRl).trans x9, (hCd.cell (p := ⟨R, 10, none⟩) hRl).trans x10, (hCd.cell (p := ⟨R, 11, none⟩) hRl).trans x11⟩))
      (first | (go_at_call 24; refine (c02.out _ hCd).mono ?_; rintro e V3 ⟨rfl, hD'⟩; have hD := hCd.trans (hD'.mono hCd.size)))
    go_upto_region 16 with (fail)
    have hDd := hD.drew
    have x0V3 : V3.cell? ⟨R, 0, none⟩ = some (.int .i64 kx) := (hD.cell (p := ⟨R, 0, none⟩) hRl).trans x0
    have x1V3 : V3.cell? ⟨R, 1, none⟩ = some (.int .i64 nx) := (hD.cell (p := ⟨R, 1, none⟩) hRl).trans x1
    have x2V3 : V3.cell? ⟨R, 2, none⟩ = some (.string tx) := (hD.cell (p := ⟨R, 2, none⟩) hRl).trans x2
    have x3V3 : V3.cell? ⟨R, 3, none⟩ = some (.slice a 0 d) := (hD.cell (p := ⟨R, 3, none⟩) hRl).trans x3
    have x4V3 : V3.cell? ⟨R, 4, none⟩ = some (.int .i64 ky) := (hD.cell (p := ⟨R, 4, none⟩) hRl).trans x4
    have x5V3 : V3.cell? ⟨R, 5, none⟩ = some (.int .i64 ny) := (hD.cell (p := ⟨R, 5, none⟩) hRl).trans x5
    have x6V3 : V3.cell? ⟨R, 6, none⟩ = some (.string ty) := (hD.cell (p := ⟨R, 6, none⟩) hRl).trans x6
    have x7V3 : V3.cell? ⟨R, 7, none⟩ = some (.slice b 0 e') := (hD.cell (p := ⟨R, 7, none⟩) hRl).trans x7
    go_region_held3 (fun w' => w'.cell? ⟨R, 0, none⟩ = some (.int .i64 kx) ∧ w'.cell? ⟨R, 1, none⟩ = some (.int .i64 nx) ∧ w'.cell? ⟨R, 2, none⟩ = some (.string tx) ∧ w'.cell? ⟨R, 3, none⟩ = some (.slice a 0 d) ∧ w'.cell? ⟨R, 4, none⟩ = some (.int .i64 ky) ∧ w'.cell? ⟨R, 5, none⟩ = some (.int .i64 ny) ∧ w'.cell? ⟨R, 6, none⟩ = some (.string ty) ∧ w'.cell? ⟨R, 7, none⟩ = some (.slice b 0 e'))
      (first | go_keep | (exact ⟨(hE.cell (p := ⟨R, 0, none⟩) hRl).trans x0, (hE.cell (p := ⟨R, 1, none⟩) hRl).trans x1, (hE.cell (p := ⟨R, 2, none⟩) hRl).trans x2, (hE.cell (p := ⟨R, 3, none⟩) hRl).trans x3, (hE.cell (p := ⟨R, 4, none⟩) hRl).trans x4, (hE.cell (p := ⟨R, 5, none⟩) hRl).trans x5, (hE.cell (p := ⟨R, 6, none⟩) hRl).trans x6, (hE.cell (p := ⟨R, 7, none⟩) hRl).trans x7⟩) | (exact ⟨(hDd.cell (p := ⟨R, 0, none⟩) hRl).trans x0, (hDd.cell (p := ⟨R, 1, none⟩) hRl).trans x1, (hDd.cell (p := ⟨R, 2, none⟩) hRl).trans x2, (hDd.cell (p := ⟨R, 3, none⟩) hRl).trans x3, (hDd.cell (p := ⟨R, 4, none⟩) hRl).trans x4, (hDd.cell (p := ⟨R, 5, none⟩) hRl).trans x5, (hDd.cell (p := ⟨R, 6, none⟩) hRl).trans x6, (hDd.cell (p := ⟨R, 7, none⟩) hRl).trans x7⟩))
      (first | (go_at_call 24; refine (c10.out _ hDd).mono ?_; rintro e V4 ⟨rfl, hE'⟩; have hE := hDd.trans (hE'.mono hDd.size)))
    obtain ⟨bq, hbq⟩ : ∃ bq : Bool, decide (p = 0) = bq := ⟨_, rfl⟩
    rw [hbq] at ceq
    have hEw := hTb.trans (hE.mono hTb.size)
    have hpq : (p == 0) = bq := hbq
    clear hpb hz0 hbq
    go_upto_region 17 with (fail)
    have hEd := hE.drew
    have x0V4 : V4.cell? ⟨R, 0, none⟩ = some (.int .i64 kx) := (hE.cell (p := ⟨R, 0, none⟩) hRl).trans x0
    have x1V4 : V4.cell? ⟨R, 1, none⟩ = some (.int .i64 nx) := (hE.cell (p := ⟨R, 1, none⟩) hRl).trans x1
    have x2V4 : V4.cell? ⟨R, 2, none⟩ = some (.string tx) := (hE.cell (p := ⟨R, 2, none⟩) hRl).trans x2
    have x3V4 : V4.cell? ⟨R, 3, none⟩ = some (.slice a 0 d) := (hE.cell (p := ⟨R, 3, none⟩) hRl).trans x3
    have x4V4 : V4.cell? ⟨R, 4, none⟩ = some (.int .i64 ky) := (hE.cell (p := ⟨R, 4, none⟩) hRl).trans x4
    have x5V4 : V4.cell? ⟨R, 5, none⟩ = some (.int .i64 ny) := (hE.cell (p := ⟨R, 5, none⟩) hRl).trans x5
    have x6V4 : V4.cell? ⟨R, 6, none⟩ = some (.string ty) := (hE.cell (p := ⟨R, 6, none⟩) hRl).trans x6
    have x7V4 : V4.cell? ⟨R, 7, none⟩ = some (.slice b 0 e') := (hE.cell (p := ⟨R, 7, none⟩) hRl).trans x7
    go_region_held3 (fun w' => w'.cell? ⟨R, 0, none⟩ = some (.int .i64 kx) ∧ w'.cell? ⟨R, 1, none⟩ = some (.int .i64 nx) ∧ w'.cell? ⟨R, 2, none⟩ = some (.string tx) ∧ w'.cell? ⟨R, 3, none⟩ = some (.slice a 0 d) ∧ w'.cell? ⟨R, 4, none⟩ = some (.int .i64 ky) ∧ w'.cell? ⟨R, 5, none⟩ = some (.int .i64 ny) ∧ w'.cell? ⟨R, 6, none⟩ = some (.string ty) ∧ w'.cell? ⟨R, 7, none⟩ = some (.slice b 0 e'))
      (first | go_keep | (exact ⟨(hF.cell (p := ⟨R, 0, none⟩) hRl).trans x0, (hF.cell (p := ⟨R, 1, none⟩) hRl).trans x1, (hF.cell (p := ⟨R, 2, none⟩) hRl).trans x2, (hF.cell (p := ⟨R, 3, none⟩) hRl).trans x3, (hF.cell (p := ⟨R, 4, none⟩) hRl).trans x4, (hF.cell (p := ⟨R, 5, none⟩) hRl).trans x5, (hF.cell (p := ⟨R, 6, none⟩) hRl).trans x6, (hF.cell (p := ⟨R, 7, none⟩) hRl).trans x7⟩) | (exact ⟨(hEd.cell (p := ⟨R, 0, none⟩) hRl).trans x0, (hEd.cell (p := ⟨R, 1, none⟩) hRl).trans x1, (hEd.cell (p := ⟨R, 2, none⟩) hRl).trans x2, (hEd.cell (p := ⟨R, 3, none⟩) hRl).trans x3, (hEd.cell (p := ⟨R, 4, none⟩) hRl).trans x4, (hEd.cell (p := ⟨R, 5, none⟩) hRl).trans x5, (hEd.cell (p := ⟨R, 6, none⟩) hRl).trans x6, (hEd.cell (p := ⟨R, 7, none⟩) hRl).trans x7⟩))
      (first | (go_at_call 25; refine (ceq.out _ hEd).mono ?_; rintro e V5 ⟨rfl, hF'⟩; have hF := hEd.trans (hF'.mono hEd.size)))
    replace hpq := Lib.hid hpq
    by_cases hq : q ≤ 0
    · by_cases hp : p ≤ 0
      · have ht := htr.out hp hq
        have ht2 : t ≤ 0 := ht.1
        by_cases ht1 : t < 0
        · go_wp2
          go_ret
          exact ⟨rfl, hTb.trans (hF.mono hTb.size)⟩
        · obtain rfl : q = 0 := by omega
          obtain rfl : p = 0 := by omega
          go_wp2
          go_ret
          exact ⟨rfl, hTb.trans (hF.mono hTb.size)⟩
      · go_wp2
        go_ret
        exact ⟨rfl, hTb.trans (hF.mono hTb.size)⟩
    · by_cases hp : p ≤ 0
      · go_wp2
        go_ret
        exact ⟨rfl, hTb.trans (hF.mono hTb.size)⟩
      · go_wp2
        go_ret
        exact ⟨rfl, hTb.trans (hF.mono hTb.size)⟩
end Go.Proofs.YtipncjbgippkcaaDoor
