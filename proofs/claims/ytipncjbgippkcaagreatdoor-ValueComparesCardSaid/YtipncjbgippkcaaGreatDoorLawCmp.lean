/- ValueCompares: for every two values and choices, any two of five values compare as the document says, and are equal as it says. -/
import Derived.Test.YtipncjbgippkcaaGreatDoorPg
import Derived.Test.YtipncjbgippkcaaGreatDoorPj
import Derived.Test.YtipncjbgippkcaaGreatDoorPi
import Derived.Test.YtipncjbgippkcaaGreatDoorPd
import Derived.Deep.RegionHeld3
import Derived.Deep.DeepFit
namespace Go.Proofs.YtipncjbgippkcaaGreatDoor
open Go Go.RowKit

theorem Drawn.fitV {k : Int} {x : Val} (h : Drawn k x) : FitV x := ⟨by have := h.len; omega, by have := h.text; omega, fun s hs => by have := h.each s hs; omega⟩
theorem five_row {x0 x1 x2 x3 x4 : Val} {a0 a1 a2 a3 a4 : Option Addr} {c0 c1 c2 c3 c4 : Nat} {w W : World} (hb : Below w.heap.size w W)
    (h0 : TextsAre a0 x0.list W ∧ FitV x0) (h1 : TextsAre a1 x1.list W ∧ FitV x1) (h2 : TextsAre a2 x2.list W ∧ FitV x2) (h3 : TextsAre a3 x3.list W ∧ FitV x3) (h4 : TextsAre a4 x4.list W ∧ FitV x4) :
    VRow [⟨x0, a0, c0⟩, ⟨x1, a1, c1⟩, ⟨x2, a2, c2⟩, ⟨x3, a3, c3⟩, ⟨x4, a4, c4⟩] W.heap.size (.slice (some ⟨W.heap.size, 0, none⟩) 5 5) (W.alloc (.cells #[.int .i64 x0.kind, .int .i64 x0.num, .string x0.text, .slice a0 (x0.list.length : Nat) c0, .int .i64 x1.kind, .int .i64 x1.num, .string x1.text, .slice a1 (x1.list.length : Nat) c1, .int .i64 x2.kind, .int .i64 x2.num, .string x2.text, .slice a2 (x2.list.length : Nat) c2, .int .i64 x3.kind, .int .i64 x3.num, .string x3.text, .slice a3 (x3.list.length : Nat) c3, .int .i64 x4.kind, .int .i64 x4.num, .string x4.text, .slice a4 (x4.list.length : Nat) c4] 29)) ∧
    Below w.heap.size w (W.alloc (.cells #[.int .i64 x0.kind, .int .i64 x0.num, .string x0.text, .slice a0 (x0.list.length : Nat) c0, .int .i64 x1.kind, .int .i64 x1.num, .string x1.text, .slice a1 (x1.list.length : Nat) c1, .int .i64 x2.kind, .int .i64 x2.num, .string x2.text, .slice a2 (x2.list.length : Nat) c2, .int .i64 x3.kind, .int .i64 x3.num, .string x3.text, .slice a3 (x3.list.length : Nat) c3, .int .i64 x4.kind, .int .i64 x4.num, .string x4.text, .slice a4 (x4.list.length : Nat) c4] 29)) := by
  refine ⟨VRow.made [⟨x0, a0, c0⟩, ⟨x1, a1, c1⟩, ⟨x2, a2, c2⟩, ⟨x3, a3, c3⟩, ⟨x4, a4, c4⟩] W.heap.size W (Nat.le_refl _) (by simp) ?_, hb.alloc hb.size _⟩
  intro e he
  simp only [List.mem_cons, List.not_mem_nil, or_false] at he
  rcases he with rfl | rfl | rfl | rfl | rfl
  · exact h0
  · exact h1
  · exact h2
  · exact h3
  · exact h4
set_option maxHeartbeats 8000000 in
set_option maxRecDepth 100000 in
theorem compares_walk (x : Val) (a : Option Addr) (c : Nat) (y : Val) (b : Option Addr) (d : Nat) (a2 : Option Addr) (l : List UInt8) (c2 : Nat) (w : World) (E : Env w) (G : DrawL w) (hv : ValIn x a c w) (hu : ValIn y b d w) (b2 : l.length ≤ c2) (m2 : c2 ≤ 9223372036854775807) (y2 : BytesOf a2 l w) :
    Calls Tryz.prog 4 #[x.agg a c, y.agg b d, .slice a2 (l.length : Nat) c2] w fun e w' => e = .returned (.bool true) ∧ Below w.heap.size w w' := by
  have h1 := Box2.start x y a b c d w
  unfold Val.agg
  go_enter Tryz.func4, Tryz.ntmps4
  go_upto_region 1 with (fail)
  generalize (w.alloc (.cells #[.int .i64 x.kind, .int .i64 x.num, .string x.text, .slice a (x.list.length : Nat) c] 29)).alloc (.cells #[.int .i64 y.kind, .int .i64 y.num, .string y.text, .slice b (y.list.length : Nat) d] 29) = w0 at h1 ⊢
  go_wp2_with (go_at_call 5; refine (awake_any _ (E.below h1.below)).mono ?_)
  rintro e W ⟨rfl, B⟩
  have h2 := h1.grown B
  clear h1 B
  have hv2 : ValIn x a c W := ⟨hv.kind, hv.num, hv.text, hv.cap, hv.nil, hv.texts.below (Nat.le_refl _) h2.below, hv.each⟩
  have hsm := small_any x a c W hv2
  unfold Val.agg at hsm
  replace hsm := Lib.hid hsm
  have p0 : W.cell? ⟨w.heap.size, 0, none⟩ = some (.int .i64 x.kind) := by rw [Lib.cell_of_heap h2.one]; rfl
  have p1 : W.cell? ⟨w.heap.size, 1, none⟩ = some (.int .i64 x.num) := by rw [Lib.cell_of_heap h2.one]; rfl
  have p2 : W.cell? ⟨w.heap.size, 2, none⟩ = some (.string x.text) := by rw [Lib.cell_of_heap h2.one]; rfl
  have p3 : W.cell? ⟨w.heap.size, 3, none⟩ = some (.slice a x.list.length c) := by rw [Lib.cell_of_heap h2.one]; rfl
  cases hs : smallB x with
  | false =>
    rw [hs] at hsm
    replace hs := Lib.hid hs
    go_wp2_with (go_at_call 13; refine hsm.out.mono ?_; rintro e W2 ⟨rfl, hb⟩)
    go_ret
    exact ⟨rfl, (h2.grown hb).below⟩
  | true =>
    rw [hs] at hsm
    have hfx := (smallB_facts x hs).fit
    replace hs := Lib.hid hs
    go_wp2_with (go_at_call 13; refine hsm.out.mono ?_)
    rintro e W2 ⟨rfl, hb⟩
    have h3 := h2.grown hb
    clear h2 hb p0 p1 p2 p3 hsm hv2
    have hu2 : ValIn y b d W2 := ⟨hu.kind, hu.num, hu.text, hu.cap, hu.nil, hu.texts.below (Nat.le_refl _) h3.below, hu.each⟩
    have hsm := small_any y b d W2 hu2
    unfold Val.agg at hsm
    replace hsm := Lib.hid hsm
    have q0 : W2.cell? ⟨w.heap.size + 1, 0, none⟩ = some (.int .i64 y.kind) := by rw [Lib.cell_of_heap h3.two]; rfl
    have q1 : W2.cell? ⟨w.heap.size + 1, 1, none⟩ = some (.int .i64 y.num) := by rw [Lib.cell_of_heap h3.two]; rfl
    have q2 : W2.cell? ⟨w.heap.size + 1, 2, none⟩ = some (.string y.text) := by rw [Lib.cell_of_heap h3.two]; rfl
    have q3 : W2.cell? ⟨w.heap.size + 1, 3, none⟩ = some (.slice b y.list.length d) := by rw [Lib.cell_of_heap h3.two]; rfl
    cases ht : smallB y with
    | false =>
      rw [ht] at hsm
      replace ht := Lib.hid ht
      go_wp2_with (go_at_call 13; refine hsm.out.mono ?_; rintro e W3 ⟨rfl, hb⟩)
      go_ret
      exact ⟨rfl, (h3.grown hb).below⟩
    | true =>
      rw [ht] at hsm
      have hfy := (smallB_facts y ht).fit
      replace ht := Lib.hid ht
      go_wp2_with (go_at_call 13; refine hsm.out.mono ?_)
      rintro e W3 ⟨rfl, hb⟩
      have h4 := h3.grown hb
      clear h3 hb q0 q1 q2 q3 hsm hu2
      have yB : BytesOf a2 l W3 := fun i hi => by
        obtain ⟨b', off, e1, e2, e3⟩ := y2 i hi
        exact ⟨b', off, e1, Nat.lt_of_lt_of_le e2 h4.below.size, (h4.below.cell (p := ⟨b', off + i, none⟩) e2).trans e3⟩
      have hnew := new_any l a2 c2 30 W3 (by omega) b2 (by omega) yB
      replace hnew := Lib.hid hnew
      have hGf : ∀ W', Below W3.heap.size W3 W' → DrawG W3.heap.size W' := fun W' hb => (G.below h4.below).fresh hb
      replace hGf := Lib.hid hGf
      go_upto_region 6 with (go_at_call 7; refine hnew.out.mono ?_; rintro e W4 ⟨rfl, hcd, hb4⟩)
      have h5 := h4.grown hb4
      have hC1 : w.heap.size + 1 < W3.heap.size := h4.lt
      have hG4 := hGf.out _ hb4
      clear hGf hnew yB h4 hb4
      generalize W3.heap.size = C at hcd hG4 hC1 ⊢
      have hl30 : (l.take 30).length ≤ 1000000 := by rw [List.length_take]; omega
      have hn := next_any _ a2 c2 C 0 5 W4 hl30 (by omega) (by omega) hcd
      have hr := nextN_lt (l.take 30) 0 5 (by omega)
      obtain ⟨q, hq, hq0, hq5⟩ : ∃ q : Int, ((nextN (l.take 30) 0 5 : Nat) : Int) = q ∧ 0 ≤ q ∧ q < 5 := ⟨_, rfl, by omega, by omega⟩
      rw [hq] at hn
      clear hq hr
      replace hn := Lib.hid hn
      go_upto_region 7 with (go_at_call 14; refine hn.out.mono ?_; rintro e W5 ⟨rfl, hk5, hce⟩)
      obtain ⟨at5, hc5⟩ := hce
      have hCl := hcd.lt
      have hG5 := hG4.kept hk5
      have hV : w.heap.size < W5.heap.size := by have := hk5.size; omega
      have hV1 : w.heap.size + 1 < W5.heap.size := by have := hk5.size; omega
      have hn0 : w.heap.size ≠ C := by omega
      have hn1 : w.heap.size + 1 ≠ C := by omega
      have hb5 : Below w.heap.size w W5 := h5.below.trans (hk5.below (by omega) h5.below.size)
      have p0 : W5.cell? ⟨w.heap.size, 0, none⟩ = some (.int .i64 x.kind) := (hk5.cell (p := ⟨w.heap.size, 0, none⟩) (by show w.heap.size < _; have := h5.lt; omega) hn0).trans (by rw [Lib.cell_of_heap h5.one]; rfl)
      have p1 : W5.cell? ⟨w.heap.size, 1, none⟩ = some (.int .i64 x.num) := (hk5.cell (p := ⟨w.heap.size, 1, none⟩) (by show w.heap.size < _; have := h5.lt; omega) hn0).trans (by rw [Lib.cell_of_heap h5.one]; rfl)
      have p2 : W5.cell? ⟨w.heap.size, 2, none⟩ = some (.string x.text) := (hk5.cell (p := ⟨w.heap.size, 2, none⟩) (by show w.heap.size < _; have := h5.lt; omega) hn0).trans (by rw [Lib.cell_of_heap h5.one]; rfl)
      have p3 : W5.cell? ⟨w.heap.size, 3, none⟩ = some (.slice a x.list.length c) := (hk5.cell (p := ⟨w.heap.size, 3, none⟩) (by show w.heap.size < _; have := h5.lt; omega) hn0).trans (by rw [Lib.cell_of_heap h5.one]; rfl)
      have q0 : W5.cell? ⟨w.heap.size + 1, 0, none⟩ = some (.int .i64 y.kind) := (hk5.cell (p := ⟨w.heap.size + 1, 0, none⟩) h5.lt hn1).trans (by rw [Lib.cell_of_heap h5.two]; rfl)
      have q1 : W5.cell? ⟨w.heap.size + 1, 1, none⟩ = some (.int .i64 y.num) := (hk5.cell (p := ⟨w.heap.size + 1, 1, none⟩) h5.lt hn1).trans (by rw [Lib.cell_of_heap h5.two]; rfl)
      have q2 : W5.cell? ⟨w.heap.size + 1, 2, none⟩ = some (.string y.text) := (hk5.cell (p := ⟨w.heap.size + 1, 2, none⟩) h5.lt hn1).trans (by rw [Lib.cell_of_heap h5.two]; rfl)
      have q3 : W5.cell? ⟨w.heap.size + 1, 3, none⟩ = some (.slice b y.list.length d) := (hk5.cell (p := ⟨w.heap.size + 1, 3, none⟩) h5.lt hn1).trans (by rw [Lib.cell_of_heap h5.two]; rfl)
      have hk : 1 ≤ 1 + q ∧ 1 + q ≤ 5 := by omega
      have hdr := Kept.of_below (C := C) ((Below.refl W5.heap.size W5).drew)
      have hval1 := Lib.hid (value_any (1 + q) hk _ a2 c2 C at5 W5.drew hl30 (hc5.below ((Below.refl _ W5).drew)) (hG5.kept hdr))
      clear hn hcd h5
      go_cut [9] (fun v wx => ∃ g : Nat, v = .slice (some ⟨g, 0, none⟩) 5 5 ∧ (∃ es : List El, es.length = 5 ∧ VRow es g (.slice (some ⟨g, 0, none⟩) 5 5) wx) ∧ Below w.heap.size w wx)
      case first =>
        go_region_held3 (fun w' => w'.cell? ⟨w.heap.size, 0, none⟩ = some (.int .i64 x.kind) ∧ w'.cell? ⟨w.heap.size, 1, none⟩ = some (.int .i64 x.num) ∧ w'.cell? ⟨w.heap.size, 2, none⟩ = some (.string x.text) ∧ w'.cell? ⟨w.heap.size, 3, none⟩ = some (.slice a x.list.length c) ∧ w'.cell? ⟨w.heap.size + 1, 0, none⟩ = some (.int .i64 y.kind) ∧ w'.cell? ⟨w.heap.size + 1, 1, none⟩ = some (.int .i64 y.num) ∧ w'.cell? ⟨w.heap.size + 1, 2, none⟩ = some (.string y.text) ∧ w'.cell? ⟨w.heap.size + 1, 3, none⟩ = some (.slice b y.list.length d))
          (first | go_keep | (exact ⟨(hk8w.cell (p := ⟨w.heap.size, 0, none⟩) hV hn0).trans p0, (hk8w.cell (p := ⟨w.heap.size, 1, none⟩) hV hn0).trans p1, (hk8w.cell (p := ⟨w.heap.size, 2, none⟩) hV hn0).trans p2, (hk8w.cell (p := ⟨w.heap.size, 3, none⟩) hV hn0).trans p3, (hk8w.cell (p := ⟨w.heap.size + 1, 0, none⟩) hV1 hn1).trans q0, (hk8w.cell (p := ⟨w.heap.size + 1, 1, none⟩) hV1 hn1).trans q1, (hk8w.cell (p := ⟨w.heap.size + 1, 2, none⟩) hV1 hn1).trans q2, (hk8w.cell (p := ⟨w.heap.size + 1, 3, none⟩) hV1 hn1).trans q3⟩) | (exact ⟨(hk7w.cell (p := ⟨w.heap.size, 0, none⟩) hV hn0).trans p0, (hk7w.cell (p := ⟨w.heap.size, 1, none⟩) hV hn0).trans p1, (hk7w.cell (p := ⟨w.heap.size, 2, none⟩) hV hn0).trans p2, (hk7w.cell (p := ⟨w.heap.size, 3, none⟩) hV hn0).trans p3, (hk7w.cell (p := ⟨w.heap.size + 1, 0, none⟩) hV1 hn1).trans q0, (hk7w.cell (p := ⟨w.heap.size + 1, 1, none⟩) hV1 hn1).trans q1, (hk7w.cell (p := ⟨w.heap.size + 1, 2, none⟩) hV1 hn1).trans q2, (hk7w.cell (p := ⟨w.heap.size + 1, 3, none⟩) hV1 hn1).trans q3⟩) | (exact ⟨(hk6w.cell (p := ⟨w.heap.size, 0, none⟩) hV hn0).trans p0, (hk6w.cell (p := ⟨w.heap.size, 1, none⟩) hV hn0).trans p1, (hk6w.cell (p := ⟨w.heap.size, 2, none⟩) hV hn0).trans p2, (hk6w.cell (p := ⟨w.heap.size, 3, none⟩) hV hn0).trans p3, (hk6w.cell (p := ⟨w.heap.size + 1, 0, none⟩) hV1 hn1).trans q0, (hk6w.cell (p := ⟨w.heap.size + 1, 1, none⟩) hV1 hn1).trans q1, (hk6w.cell (p := ⟨w.heap.size + 1, 2, none⟩) hV1 hn1).trans q2, (hk6w.cell (p := ⟨w.heap.size + 1, 3, none⟩) hV1 hn1).trans q3⟩))
          (first
            | (go_at_call 15; (with_reducible refine hval1.out.mono ?_); rintro e W6 ⟨⟨⟨k1, n1, t1, l1⟩, a3, c3, rfl, hd1, htx1, _, _⟩, hk6, at6, hc6⟩; unfold Val.agg; have hk6w := hdr.trans hk6; have hval2 := Lib.hid (value_any (1 + q) hk _ a2 c2 C at6 W6 hl30 hc6 (hG5.kept hk6w)))
            | (go_at_call 15; (with_reducible refine hval2.out.mono ?_); rintro e W7 ⟨⟨⟨k2, n2, t2, l2⟩, a4, c4, rfl, hd2, htx2, _, _⟩, hk7, at7, hc7⟩; unfold Val.agg; have hk7w := hk6w.trans hk7; have hany := Lib.hid (any_any _ a2 c2 C at7 W7 hl30 hc7 (hG5.kept hk7w)))
            | (go_at_call 8; (with_reducible refine hany.out.mono ?_); rintro e W8 ⟨⟨⟨k3, n3, t3, l3⟩, a5, c5, rfl, ⟨kk, hkk, hd3⟩, htx3, _, _⟩, hk8, hce8⟩; unfold Val.agg; have hk8w := hk7w.trans hk8))
        go_wp2
        go_meet
        case rel =>
          have hb8 : Below w.heap.size w W8 := hb5.trans (hk8w.below (by omega) hb5.size)
          have hCs : C < W5.heap.size := hc5.lt
          have hC6 : C < W6.heap.size := hc6.lt
          have hC7 : C < W7.heap.size := hc7.lt
          have o1 : TextsOff (some C) a3 l1 := off_from htx1 hCs
          have o2 : TextsOff (some C) a4 l2 := off_from htx2 hC6
          have e1 : TextsAre a3 l1 W8 := htx1.texts.moved (P := C) (Moved.of_kept (hk7.trans hk8)) o1 o1
          have e2 : TextsAre a4 l2 W8 := htx2.texts.moved (P := C) (Moved.of_kept hk8) o2 o2
          have hrow := five_row (x0 := x) (x1 := y) (x2 := ⟨k1, n1, t1, l1⟩) (x3 := ⟨k2, n2, t2, l2⟩) (x4 := ⟨k3, n3, t3, l3⟩) (c0 := c) (c1 := d) (c2 := c3) (c3 := c4) (c4 := c5) hb8 ⟨hv.texts.below (Nat.le_refl _) hb8, hfx⟩ ⟨hu.texts.below (Nat.le_refl _) hb8, hfy⟩ ⟨e1, hd1.fitV⟩ ⟨e2, hd2.fitV⟩ ⟨htx3.texts, hd3.fitV⟩
          exact ⟨W8.heap.size, rfl, ⟨_, rfl, hrow.1⟩, hrow.2⟩
      case rest =>
        obtain ⟨g, rfl, ⟨es, h5, hrow⟩, hwb⟩ := hcut
        obtain ⟨g', cap, hgg, _, hgl, hels⟩ := hrow.elemN 5 h5 (by decide)
        obtain rfl : g = g' := by
          injection hgg with h1
          injection h1 with h2
          injection h2
        clear hgg hrow h5 hval1 hdr hG5 hG4 hc5 p0 p1 p2 p3 q0 q1 q2 q3 hs ht
        have Ew := E.below hwb
        go_wp2
        go_loopw [10, 11, 12, 13, 14, 15] (fun i _ _ _ _ _ wr => ∃ m : Nat, m ≤ 5 ∧ i = .int .i64 m ∧ Below wc.heap.size wc wr) (fun i _ _ _ _ _ _ => 5 - (intOf i).toNat)
        case atStart => exact ⟨0, by omega, rfl, Below.refl _ _⟩
        case round =>
          obtain ⟨m, hm, rfl, hbw⟩ := hrel
          by_cases hlt : m < 5
          · obtain ⟨z, ez, cz, hel, hfz⟩ := hels m hlt
            have hlt' : (m : Int) < 5 := by omega
            have hl2 : (0 : Int) ≤ (m : Int) := Int.natCast_nonneg _
            go_wp2
            go_loopw [11, 12, 13, 14, 15] (fun i _ _ _ _ wr => ∃ n : Nat, n ≤ 5 ∧ i = .int .i64 n ∧ Below wc.heap.size wc wr) (fun i _ _ _ _ _ => 5 - (intOf i).toNat)
            case atStart => exact ⟨0, by omega, rfl, hbw⟩
            case round =>
              obtain ⟨n, hn, rfl, hbn⟩ := hrel
              by_cases hnt : n < 5
              · obtain ⟨u, eu, cu, hel2, hfu⟩ := hels n hnt
                have hnt' : (n : Int) < 5 := by omega
                have hn2 : (0 : Int) ≤ (n : Int) := Int.natCast_nonneg _
                obtain ⟨x0, x1, x2, x3, etx, elt⟩ := hel.below hbn
                obtain ⟨x4, x5, x6, x7, etu, _⟩ := hel2.below hbn
                have hEr := Ew.below hbn
                have k1 := Lib.hid (fun (W : World) (hb : Below wr.heap.size wr W) => compare_any z u ez eu cz cu W (by have := hfz.text; omega) (by have := hfz.list; omega) (fun s hs => by have := hfz.each s hs; omega) (by have := hfu.text; omega) (by have := hfu.list; omega) (fun s hs => by have := hfu.each s hs; omega) (hEr.tabs.below hb) (etx.below (Nat.le_refl _) hb) (etu.below (Nat.le_refl _) hb))
                have k2 := Lib.hid (fun (W : World) (hb : Below wr.heap.size wr W) => refCompare_any z u ez eu cz cu W (by have := hfz.text; omega) (by have := hfz.list; omega) (fun s hs => by have := hfz.each s hs; omega) (by have := hfu.text; omega) (by have := hfu.list; omega) (fun s hs => by have := hfu.each s hs; omega) (hEr.tabs.below hb) (etx.below (Nat.le_refl _) hb) (etu.below (Nat.le_refl _) hb))
                have k3 := Lib.hid (fun (W : World) (hb : Below wr.heap.size wr W) => equal_any z u ez eu cz cu W (by have := hfz.list; omega) (etx.below (Nat.le_refl _) hb) (etu.below (Nat.le_refl _) hb))
                have k4 := Lib.hid (fun (W : World) (hb : Below wr.heap.size wr W) => refEqual_any z u ez eu cz cu W (by have := hfz.list; omega) (etx.below (Nat.le_refl _) hb) (etu.below (Nat.le_refl _) hb))
                unfold Val.agg numE at k1 k2
                unfold Val.agg at k3 k4
                generalize (cmpP z u).1 = p at k1 k2
                generalize (cmpP z u).2 = er at k1 k2
                generalize eqV z u = bq at k3 k4
                have hA := Below.refl wr.heap.size wr
                clear hfu hel hel2
                go_upto_region 14 with (fail)
                have hAd := hA.drew
                go_region_held3 (fun w' => w'.cell? ⟨g, m * 4, none⟩ = some (.int .i64 z.kind) ∧ w'.cell? ⟨g, m * 4 + 1, none⟩ = some (.int .i64 z.num) ∧ w'.cell? ⟨g, m * 4 + 2, none⟩ = some (.string z.text) ∧ w'.cell? ⟨g, m * 4 + 3, none⟩ = some (.slice ez z.list.length cz) ∧ w'.cell? ⟨g, n * 4, none⟩ = some (.int .i64 u.kind) ∧ w'.cell? ⟨g, n * 4 + 1, none⟩ = some (.int .i64 u.num) ∧ w'.cell? ⟨g, n * 4 + 2, none⟩ = some (.string u.text) ∧ w'.cell? ⟨g, n * 4 + 3, none⟩ = some (.slice eu u.list.length cu))
                (first | go_keep | (exact ⟨(hB.cell (p := ⟨g, m * 4, none⟩) elt).trans x0, (hB.cell (p := ⟨g, m * 4 + 1, none⟩) elt).trans x1, (hB.cell (p := ⟨g, m * 4 + 2, none⟩) elt).trans x2, (hB.cell (p := ⟨g, m * 4 + 3, none⟩) elt).trans x3, (hB.cell (p := ⟨g, n * 4, none⟩) elt).trans x4, (hB.cell (p := ⟨g, n * 4 + 1, none⟩) elt).trans x5, (hB.cell (p := ⟨g, n * 4 + 2, none⟩) elt).trans x6, (hB.cell (p := ⟨g, n * 4 + 3, none⟩) elt).trans x7⟩) | (exact ⟨(hAd.cell (p := ⟨g, m * 4, none⟩) elt).trans x0, (hAd.cell (p := ⟨g, m * 4 + 1, none⟩) elt).trans x1, (hAd.cell (p := ⟨g, m * 4 + 2, none⟩) elt).trans x2, (hAd.cell (p := ⟨g, m * 4 + 3, none⟩) elt).trans x3, (hAd.cell (p := ⟨g, n * 4, none⟩) elt).trans x4, (hAd.cell (p := ⟨g, n * 4 + 1, none⟩) elt).trans x5, (hAd.cell (p := ⟨g, n * 4 + 2, none⟩) elt).trans x6, (hAd.cell (p := ⟨g, n * 4 + 3, none⟩) elt).trans x7⟩))
                (first | (go_at_call 16; refine (k1.out _ hAd).mono ?_; rintro e V1 ⟨rfl, hB'⟩; have hB := hAd.trans (hB'.mono hAd.size)))
                go_upto_region 15 with (fail)
                have hBd := hB.drew
                have x0V1 : V1.cell? ⟨g, m * 4, none⟩ = some (.int .i64 z.kind) := (hB.cell (p := ⟨g, m * 4, none⟩) elt).trans x0
                have x1V1 : V1.cell? ⟨g, m * 4 + 1, none⟩ = some (.int .i64 z.num) := (hB.cell (p := ⟨g, m * 4 + 1, none⟩) elt).trans x1
                have x2V1 : V1.cell? ⟨g, m * 4 + 2, none⟩ = some (.string z.text) := (hB.cell (p := ⟨g, m * 4 + 2, none⟩) elt).trans x2
                have x3V1 : V1.cell? ⟨g, m * 4 + 3, none⟩ = some (.slice ez z.list.length cz) := (hB.cell (p := ⟨g, m * 4 + 3, none⟩) elt).trans x3
                have x4V1 : V1.cell? ⟨g, n * 4, none⟩ = some (.int .i64 u.kind) := (hB.cell (p := ⟨g, n * 4, none⟩) elt).trans x4
                have x5V1 : V1.cell? ⟨g, n * 4 + 1, none⟩ = some (.int .i64 u.num) := (hB.cell (p := ⟨g, n * 4 + 1, none⟩) elt).trans x5
                have x6V1 : V1.cell? ⟨g, n * 4 + 2, none⟩ = some (.string u.text) := (hB.cell (p := ⟨g, n * 4 + 2, none⟩) elt).trans x6
                have x7V1 : V1.cell? ⟨g, n * 4 + 3, none⟩ = some (.slice eu u.list.length cu) := (hB.cell (p := ⟨g, n * 4 + 3, none⟩) elt).trans x7
                go_region_held3 (fun w' => w'.cell? ⟨g, m * 4, none⟩ = some (.int .i64 z.kind) ∧ w'.cell? ⟨g, m * 4 + 1, none⟩ = some (.int .i64 z.num) ∧ w'.cell? ⟨g, m * 4 + 2, none⟩ = some (.string z.text) ∧ w'.cell? ⟨g, m * 4 + 3, none⟩ = some (.slice ez z.list.length cz) ∧ w'.cell? ⟨g, n * 4, none⟩ = some (.int .i64 u.kind) ∧ w'.cell? ⟨g, n * 4 + 1, none⟩ = some (.int .i64 u.num) ∧ w'.cell? ⟨g, n * 4 + 2, none⟩ = some (.string u.text) ∧ w'.cell? ⟨g, n * 4 + 3, none⟩ = some (.slice eu u.list.length cu))
                (first | go_keep | (exact ⟨(hC.cell (p := ⟨g, m * 4, none⟩) elt).trans x0, (hC.cell (p := ⟨g, m * 4 + 1, none⟩) elt).trans x1, (hC.cell (p := ⟨g, m * 4 + 2, none⟩) elt).trans x2, (hC.cell (p := ⟨g, m * 4 + 3, none⟩) elt).trans x3, (hC.cell (p := ⟨g, n * 4, none⟩) elt).trans x4, (hC.cell (p := ⟨g, n * 4 + 1, none⟩) elt).trans x5, (hC.cell (p := ⟨g, n * 4 + 2, none⟩) elt).trans x6, (hC.cell (p := ⟨g, n * 4 + 3, none⟩) elt).trans x7⟩) | (exact ⟨(hBd.cell (p := ⟨g, m * 4, none⟩) elt).trans x0, (hBd.cell (p := ⟨g, m * 4 + 1, none⟩) elt).trans x1, (hBd.cell (p := ⟨g, m * 4 + 2, none⟩) elt).trans x2, (hBd.cell (p := ⟨g, m * 4 + 3, none⟩) elt).trans x3, (hBd.cell (p := ⟨g, n * 4, none⟩) elt).trans x4, (hBd.cell (p := ⟨g, n * 4 + 1, none⟩) elt).trans x5, (hBd.cell (p := ⟨g, n * 4 + 2, none⟩) elt).trans x6, (hBd.cell (p := ⟨g, n * 4 + 3, none⟩) elt).trans x7⟩))
                (first | (go_at_call 17; refine (k2.out _ hBd).mono ?_; rintro e V2 ⟨rfl, hC'⟩; have hC := hBd.trans (hC'.mono hBd.size)))
                go_upto_region 16 with (fail)
                have hCd := hC.drew
                have x0V2 : V2.cell? ⟨g, m * 4, none⟩ = some (.int .i64 z.kind) := (hC.cell (p := ⟨g, m * 4, none⟩) elt).trans x0
                have x1V2 : V2.cell? ⟨g, m * 4 + 1, none⟩ = some (.int .i64 z.num) := (hC.cell (p := ⟨g, m * 4 + 1, none⟩) elt).trans x1
                have x2V2 : V2.cell? ⟨g, m * 4 + 2, none⟩ = some (.string z.text) := (hC.cell (p := ⟨g, m * 4 + 2, none⟩) elt).trans x2
                have x3V2 : V2.cell? ⟨g, m * 4 + 3, none⟩ = some (.slice ez z.list.length cz) := (hC.cell (p := ⟨g, m * 4 + 3, none⟩) elt).trans x3
                have x4V2 : V2.cell? ⟨g, n * 4, none⟩ = some (.int .i64 u.kind) := (hC.cell (p := ⟨g, n * 4, none⟩) elt).trans x4
                have x5V2 : V2.cell? ⟨g, n * 4 + 1, none⟩ = some (.int .i64 u.num) := (hC.cell (p := ⟨g, n * 4 + 1, none⟩) elt).trans x5
                have x6V2 : V2.cell? ⟨g, n * 4 + 2, none⟩ = some (.string u.text) := (hC.cell (p := ⟨g, n * 4 + 2, none⟩) elt).trans x6
                have x7V2 : V2.cell? ⟨g, n * 4 + 3, none⟩ = some (.slice eu u.list.length cu) := (hC.cell (p := ⟨g, n * 4 + 3, none⟩) elt).trans x7
                go_region_held3 (fun w' => w'.cell? ⟨g, m * 4, none⟩ = some (.int .i64 z.kind) ∧ w'.cell? ⟨g, m * 4 + 1, none⟩ = some (.int .i64 z.num) ∧ w'.cell? ⟨g, m * 4 + 2, none⟩ = some (.string z.text) ∧ w'.cell? ⟨g, m * 4 + 3, none⟩ = some (.slice ez z.list.length cz) ∧ w'.cell? ⟨g, n * 4, none⟩ = some (.int .i64 u.kind) ∧ w'.cell? ⟨g, n * 4 + 1, none⟩ = some (.int .i64 u.num) ∧ w'.cell? ⟨g, n * 4 + 2, none⟩ = some (.string u.text) ∧ w'.cell? ⟨g, n * 4 + 3, none⟩ = some (.slice eu u.list.length cu))
                (first | go_keep | (exact ⟨(hE.cell (p := ⟨g, m * 4, none⟩) elt).trans x0, (hE.cell (p := ⟨g, m * 4 + 1, none⟩) elt).trans x1, (hE.cell (p := ⟨g, m * 4 + 2, none⟩) elt).trans x2, (hE.cell (p := ⟨g, m * 4 + 3, none⟩) elt).trans x3, (hE.cell (p := ⟨g, n * 4, none⟩) elt).trans x4, (hE.cell (p := ⟨g, n * 4 + 1, none⟩) elt).trans x5, (hE.cell (p := ⟨g, n * 4 + 2, none⟩) elt).trans x6, (hE.cell (p := ⟨g, n * 4 + 3, none⟩) elt).trans x7⟩) | (exact ⟨(hD.cell (p := ⟨g, m * 4, none⟩) elt).trans x0, (hD.cell (p := ⟨g, m * 4 + 1, none⟩) elt).trans x1, (hD.cell (p := ⟨g, m * 4 + 2, none⟩) elt).trans x2, (hD.cell (p := ⟨g, m * 4 + 3, none⟩) elt).trans x3, (hD.cell (p := ⟨g, n * 4, none⟩) elt).trans x4, (hD.cell (p := ⟨g, n * 4 + 1, none⟩) elt).trans x5, (hD.cell (p := ⟨g, n * 4 + 2, none⟩) elt).trans x6, (hD.cell (p := ⟨g, n * 4 + 3, none⟩) elt).trans x7⟩) | (exact ⟨(hCd.cell (p := ⟨g, m * 4, none⟩) elt).trans x0, (hCd.cell (p := ⟨g, m * 4 + 1, none⟩) elt).trans x1, (hCd.cell (p := ⟨g, m * 4 + 2, none⟩) elt).trans x2, (hCd.cell (p := ⟨g, m * 4 + 3, none⟩) elt).trans x3, (hCd.cell (p := ⟨g, n * 4, none⟩) elt).trans x4, (hCd.cell (p := ⟨g, n * 4 + 1, none⟩) elt).trans x5, (hCd.cell (p := ⟨g, n * 4 + 2, none⟩) elt).trans x6, (hCd.cell (p := ⟨g, n * 4 + 3, none⟩) elt).trans x7⟩))
                (first | (go_at_call 18; refine (k3.out _ hCd).mono ?_; rintro e V3 ⟨rfl, hD'⟩; have hD := hCd.trans (hD'.mono hCd.size)) | (go_at_call 12; refine (k4.out _ hD).mono ?_; rintro e V4 ⟨rfl, hE'⟩; have hE := hD.trans (hE'.mono hD.size)))
                go_wp2
                first
                | (refine ⟨⟨n + 1, by omega, by go_num, hbn.trans (hE.mono hbn.size)⟩, ?_⟩; simp [intOf]; omega)
                | (go_roundw; (case rel => exact ⟨n + 1, by omega, by go_num, hbn.trans (hE.mono hbn.size)⟩); (case measure => simp [intOf]; omega))
              · obtain rfl : n = 5 := by omega
                go_wp2
                go_roundw
                case rel => exact ⟨m + 1, by omega, by go_num, hbn⟩
                case measure => simp [intOf]; omega
          · obtain rfl : m = 5 := by omega
            go_wp2
            go_ret
            exact ⟨rfl, hwb.trans (hbw.mono hwb.size)⟩
end Go.Proofs.YtipncjbgippkcaaGreatDoor
