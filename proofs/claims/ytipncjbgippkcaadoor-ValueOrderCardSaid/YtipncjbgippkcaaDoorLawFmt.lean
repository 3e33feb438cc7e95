/- ValueFormats: for every value and choices, the source form is the document's, or the error, and it is read as it was. -/
import Derived.Test.YtipncjbgippkcaaDoorPg
import Derived.Test.YtipncjbgippkcaaDoorPi
import Derived.Test.YtipncjbgippkcaaDoorPc
import Derived.Deep.RegionWith
import Derived.Deep.DeepFit
import Derived.Lib.QuietBelow
import Derived.Deep.RegionHeld3
namespace Go.Proofs.YtipncjbgippkcaaDoor
open Go Go.RowKit

theorem eqV_refl (x : Val) : eqV x x = true := by unfold eqV; simp
theorem format_err (x : Val) : (formatP x).2 = checkE x := by
  unfold formatP
  split
  · rfl
  · rename_i h
    have h0 : checkE x = 0 := by simpa using h
    rw [h0]
    split
    · split <;> rfl
    · split
      · rfl
      · split
        · rfl
        · split <;> rfl
/-- Two values in block B: the one that came in, and a drawn one. -/
structure Two (x : Val) (a : Option Addr) (c B : Nat) (w wr : World) : Prop where
  one : Elem x a c B 0 wr
  two : ∃ (y : Val) (b : Option Addr) (d : Nat), Elem y b d B 4 wr ∧ FitV y
  below : Below w.heap.size w wr
theorem Drawn.fit {k : Int} {x : Val} (h : Drawn k x) : FitV x := ⟨by have := h.len; omega, by have := h.text; omega, fun s hs => by have := h.each s hs; omega⟩
theorem two_made (x y : Val) (a b : Option Addr) (c d : Nat) (w W : World) (hb : Below w.heap.size w W) (hx : TextsAre a x.list W) (hy : TextsAre b y.list W) (hf : FitV y) :
    Two x a c W.heap.size w (W.alloc (.cells #[.int .i64 x.kind, .int .i64 x.num, .string x.text, .slice a (x.list.length : Nat) c, .int .i64 y.kind, .int .i64 y.num, .string y.text, .slice b (y.list.length : Nat) d] 24)) := by
  have hbl := (Below.refl W.heap.size W).alloc (Nat.le_refl _) (.cells #[.int .i64 x.kind, .int .i64 x.num, .string x.text, .slice a (x.list.length : Nat) c, .int .i64 y.kind, .int .i64 y.num, .string y.text, .slice b (y.list.length : Nat) d] 24)
  have hn := heap_alloc_new W (.cells #[.int .i64 x.kind, .int .i64 x.num, .string x.text, .slice a (x.list.length : Nat) c, .int .i64 y.kind, .int .i64 y.num, .string y.text, .slice b (y.list.length : Nat) d] 24)
  refine ⟨⟨?_, ?_, ?_, ?_, hx.below (Nat.le_refl _) hbl, by simp⟩, ⟨y, b, d, ⟨?_, ?_, ?_, ?_, hy.below (Nat.le_refl _) hbl, by simp⟩, hf⟩, hb.alloc hb.size _⟩
  all_goals (rw [Lib.cell_of_heap hn]; rfl)
set_option maxHeartbeats 8000000 in
set_option maxRecDepth 100000 in
theorem formats_walk (x : Val) (a : Option Addr) (c : Nat) (a1 : Option Addr) (l : List UInt8) (c1 : Nat) (w : World) (E : Env w) (G : DrawL w) (hv : ValIn x a c w) (b1 : l.length ≤ c1) (m1 : c1 ≤ 9223372036854775807) (y1 : BytesOf a1 l w) :
    Calls Tryd.prog 4 #[x.agg a c, .slice a1 (l.length : Nat) c1] w fun e w' => e = .returned (.bool true) ∧ Below w.heap.size w w' := by
  have h1 : Box1 x a c w.heap.size w (w.alloc (.cells #[.int .i64 x.kind, .int .i64 x.num, .string x.text, .slice a (x.list.length : Nat) c] 24)) := ⟨heap_alloc_new w _, (Below.refl _ w).alloc (Nat.le_refl _) _⟩
  unfold Val.agg
  go_enter Tryd.func4, Tryd.ntmps4
  go_upto_region 1 with (fail)
  generalize w.alloc (.cells #[.int .i64 x.kind, .int .i64 x.num, .string x.text, .slice a (x.list.length : Nat) c] 24) = w0 at h1 ⊢
  go_wp2_with (go_at_call 8; refine (awake_any _ (E.below h1.below)).mono ?_)
  rintro e W ⟨rfl, B⟩
  have h2 := h1.grown B
  clear h1 B
  have hv2 : ValIn x a c W := ⟨hv.kind, hv.num, hv.text, hv.cap, hv.nil, hv.texts.below (Nat.le_refl _) h2.below, hv.each⟩
  have hsm := small_any x a c W hv2
  unfold Val.agg at hsm
  replace hsm := Lib.hid hsm
  have p0 : W.cell? ⟨w.heap.size, 0, none⟩ = some (.int .i64 x.kind) := by rw [Lib.cell_of_heap h2.one]; rfl
  have p1 : W.cell? ⟨w.heap.size, 1, none⟩ = some (.int .i64 x.num) := by rw [Lib.cell_of_heap h2.one]; rfl
  have p2 : W.cell? ⟨w.heap.size, 2, none⟩ = some (.string x.text) := by rw [Lib.cell_of_heap h2.one]; rfl
  have p3 : W.cell? ⟨w.heap.size, 3, none⟩ = some (.slice a x.list.length c) := by rw [Lib.cell_of_heap h2.one]; rfl
  cases hs : smallB x with
  | false =>
    rw [hs] at hsm
    replace hs := Lib.hid hs
    go_wp2_with (go_at_call 9; refine hsm.out.mono ?_; rintro e W2 ⟨rfl, hb⟩)
    go_ret
    exact ⟨rfl, (h2.grown hb).below⟩
  | true =>
    rw [hs] at hsm
    have hfit := (smallB_facts x hs).fit
    replace hs := Lib.hid hs
    go_wp2_with (go_at_call 9; refine hsm.out.mono ?_)
    rintro e W2 ⟨rfl, hb⟩
    have h3 := h2.grown hb
    clear h2 hb p0 p1 p2 p3 hsm hv2
    have p0 : W2.cell? ⟨w.heap.size, 0, none⟩ = some (.int .i64 x.kind) := by rw [Lib.cell_of_heap h3.one]; rfl
    have p1 : W2.cell? ⟨w.heap.size, 1, none⟩ = some (.int .i64 x.num) := by rw [Lib.cell_of_heap h3.one]; rfl
    have p2 : W2.cell? ⟨w.heap.size, 2, none⟩ = some (.string x.text) := by rw [Lib.cell_of_heap h3.one]; rfl
    have p3 : W2.cell? ⟨w.heap.size, 3, none⟩ = some (.slice a x.list.length c) := by rw [Lib.cell_of_heap h3.one]; rfl
    have hV := h3.lt
    have yB : BytesOf a1 l W2 := fun i hi => by
      obtain ⟨b, off, e1, e2, e3⟩ := y1 i hi
      exact ⟨b, off, e1, Nat.lt_of_lt_of_le e2 h3.below.size, (h3.below.cell (p := ⟨b, off + i, none⟩) e2).trans e3⟩
    have hnew : Calls Tryd.prog 10 #[.slice a1 (l.length : Nat) c1, .int .i64 10] W2.drew (fun e w' => e = .returned (.pointer (some ⟨W2.heap.size, 0, none⟩)) ∧ Codes (l.take 10) a1 c1 W2.heap.size 0 w' ∧ Below W2.heap.size W2.drew w') := new_any l a1 c1 10 W2.drew (by omega) b1 (by omega) yB
    replace hnew := Lib.hid hnew
    have hGf : ∀ W', Below W2.heap.size W2.drew W' → DrawG W2.heap.size W' := fun W' hb => ((G.below h3.below).below ((Below.refl _ W2).drew)).fresh hb
    replace hGf := Lib.hid hGf
    go_upto_region 5 with (fail)
    go_cut [5] (fun v wx => ∃ B : Nat, v = .slice (some ⟨B, 0, none⟩) 2 2 ∧ Two x a c B w wx)
    case first =>
      go_region_held3 (fun w' => w'.cell? ⟨w.heap.size, 0, none⟩ = some (.int .i64 x.kind) ∧ w'.cell? ⟨w.heap.size, 1, none⟩ = some (.int .i64 x.num) ∧ w'.cell? ⟨w.heap.size, 2, none⟩ = some (.string x.text) ∧ w'.cell? ⟨w.heap.size, 3, none⟩ = some (.slice a x.list.length c))
        (first | go_keep | (exact ⟨(hb4.cell (p := ⟨w.heap.size, 0, none⟩) hV).trans p0, (hb4.cell (p := ⟨w.heap.size, 1, none⟩) hV).trans p1, (hb4.cell (p := ⟨w.heap.size, 2, none⟩) hV).trans p2, (hb4.cell (p := ⟨w.heap.size, 3, none⟩) hV).trans p3⟩) | (exact ⟨(hb3.cell (p := ⟨w.heap.size, 0, none⟩) hV).trans p0, (hb3.cell (p := ⟨w.heap.size, 1, none⟩) hV).trans p1, (hb3.cell (p := ⟨w.heap.size, 2, none⟩) hV).trans p2, (hb3.cell (p := ⟨w.heap.size, 3, none⟩) hV).trans p3⟩))
        (first
          | (go_at_call 10; refine hnew.out.mono ?_; rintro e W3 ⟨rfl, hcd, hb3⟩; have hany := Lib.hid (any_any _ a1 c1 W2.heap.size 0 W3 (by rw [List.length_take]; omega) hcd (hGf.out _ hb3)))
          | (go_at_call 11; refine hany.out.mono ?_; rintro e W4 ⟨⟨⟨k', n', t', l'⟩, b, d, rfl, ⟨kk, hkk, hdr⟩, htx, hnd, hld⟩, hkp, hce⟩; have hb4 : Below W2.heap.size W2.drew W4 := hb3.trans (hkp.below (Nat.le_refl _) hb3.size); unfold Val.agg))
      go_wp2
      go_meet
      case rel =>
        have hb5 : Below w.heap.size w W4 := h3.below.trans (((Below.refl _ W2).drew.trans hb4).mono h3.below.size)
        exact ⟨W4.heap.size, rfl, two_made x ⟨k', n', t', l'⟩ a b c d w W4 hb5 (hv.texts.below (Nat.le_refl _) hb5) htx.texts hdr.fit⟩
    case rest =>
      obtain ⟨B, rfl, hT⟩ := hcut
      clear p0 p1 p2 p3 yB hnew hGf h3 hV hs
      have Ew := E.below hT.below
      go_wp2
      go_loopw [6, 7, 8, 9, 10, 11, 12] (fun i _ _ _ _ _ _ wr => ∃ m : Nat, m ≤ 2 ∧ i = .int .i64 m ∧ Below wc.heap.size wc wr) (fun i _ _ _ _ _ _ _ => 2 - (intOf i).toNat)
      case atStart => exact ⟨0, by omega, rfl, Below.refl _ _⟩
      case round =>
        obtain ⟨m, hm, rfl, hbw⟩ := hrel
        by_cases hlt : m < 2
        · obtain ⟨y, b, d, o, hel, hfy⟩ : ∃ (y : Val) (b : Option Addr) (d o : Nat), (Elem y b d B o wr ∧ o = m * 4) ∧ FitV y := by
            have h2 : m = 0 ∨ m = 1 := by omega
            rcases h2 with rfl | rfl
            · exact ⟨x, a, c, 0, ⟨hT.one.below hbw, rfl⟩, hfit⟩
            · obtain ⟨y, b, d, h, hf⟩ := hT.two
              exact ⟨y, b, d, 4, ⟨h.below hbw, rfl⟩, hf⟩
          obtain ⟨hel, rfl⟩ := hel
          have hlt' : (m : Int) < 2 := by omega
          obtain ⟨e0, e1, e2, e3, etx, elt⟩ := hel
          have hEr := Ew.below hbw
          have hf1 := Lib.hid (fun (W : World) (hb : Below wr.heap.size wr W) => format_any y b d W (by have := hfy.text; omega) (by have := hfy.list; omega) (fun s hs => by have := hfy.each s hs; omega) (hEr.tabs.below hb) (hEr.pow.below hb) (etx.below (Nat.le_refl _) hb))
          have hf2 := Lib.hid (fun (W : World) (hb : Below wr.heap.size wr W) => refFormat_any y b d W (by have := hfy.text; omega) (by have := hfy.list; omega) (fun s hs => by have := hfy.each s hs; omega) (hEr.tabs.below hb) (etx.below (Nat.le_refl _) hb))
          have hsz := format_size y hfy.text
          have hpf := parse_format y
          rw [← format_err] at hpf
          have heq := Lib.hid (fun (a' : Option Addr) (c' : Nat) (W : World) (hA : TextsAre a' y.list W) (hb : Below wr.heap.size wr W) => refEqual_any y y a' b c' d W (by have := hfy.list; omega) hA (etx.below (Nat.le_refl _) hb))
          rw [eqV_refl] at heq
          unfold Val.agg at hf1 hf2 heq
          generalize (formatP y).1 = S at hf1 hf2 hsz hpf
          generalize (formatP y).2 = er at hf1 hf2 hpf
          clear hfy hT etx
          go_upto_region 9 with (fail)
          go_wp2_with (go_at_call 17; refine (hf1.out _ (Below.refl _ _)).mono ?_)
          rintro e W3 ⟨rfl, hb3⟩
          have f0 := (hb3.cell (p := ⟨B, m * 4, none⟩) elt).trans e0
          have f1 := (hb3.cell (p := ⟨B, m * 4 + 1, none⟩) elt).trans e1
          have f2 := (hb3.cell (p := ⟨B, m * 4 + 2, none⟩) elt).trans e2
          have f3 := (hb3.cell (p := ⟨B, m * 4 + 3, none⟩) elt).trans e3
          go_wp2_with (go_at_call 18; refine (hf2.out _ hb3).mono ?_)
          rintro e W4 ⟨rfl, hb4⟩
          have hb34 := hb3.trans (hb4.mono hb3.size)
          clear hf1 hf2 f0 f1 f2 f3
          by_cases her : er = 0
          · subst her
            have hpar := parseVal_any S W4 (by omega) (hEr.tabs.below hb34)
            rw [hpf rfl] at hpar
            replace hpar := Lib.hid hpar
            go_wp2_with (go_at_call 19; refine hpar.out.mono ?_)
            rintro e W5 ⟨⟨a', c', rfl, ht5, _, _⟩, hb5⟩
            have hb35 := hb34.trans (hb5.mono hb34.size)
            have hbn := (Below.refl W5.heap.size W5).alloc (Nat.le_refl _) (.cells #[.int .i64 y.kind, .int .i64 y.num, .string y.text, .slice a' (y.list.length : Nat) c'] 24)
            have hb36 := hb35.trans (hbn.mono hb35.size)
            have hn := heap_alloc_new W5 (.cells #[.int .i64 y.kind, .int .i64 y.num, .string y.text, .slice a' (y.list.length : Nat) c'] 24)
            have htn := ht5.texts.below (Nat.le_refl _) hbn
            unfold Val.agg
            go_upto_region 15 with (fail)
            generalize W5.alloc (.cells #[.int .i64 y.kind, .int .i64 y.num, .string y.text, .slice a' (y.list.length : Nat) c'] 24) = W6 at hb36 hn htn ⊢
            have n0 : W6.cell? ⟨W5.heap.size, 0, none⟩ = some (.int .i64 y.kind) := by rw [Lib.cell_of_heap hn]; rfl
            have n1 : W6.cell? ⟨W5.heap.size, 1, none⟩ = some (.int .i64 y.num) := by rw [Lib.cell_of_heap hn]; rfl
            have n2 : W6.cell? ⟨W5.heap.size, 2, none⟩ = some (.string y.text) := by rw [Lib.cell_of_heap hn]; rfl
            have n3 : W6.cell? ⟨W5.heap.size, 3, none⟩ = some (.slice a' y.list.length c') := by rw [Lib.cell_of_heap hn]; rfl
            have g0 := (hb36.cell (p := ⟨B, m * 4, none⟩) elt).trans e0
            have g1 := (hb36.cell (p := ⟨B, m * 4 + 1, none⟩) elt).trans e1
            have g2 := (hb36.cell (p := ⟨B, m * 4 + 2, none⟩) elt).trans e2
            have g3 := (hb36.cell (p := ⟨B, m * 4 + 3, none⟩) elt).trans e3
            have hq := Lib.hid (heq.out a' c' W6.drew htn hb36.drew)
            have hP : W5.heap.size < W6.heap.size := (Array.getElem?_eq_some_iff.1 hn).1
            have hB6 : B < W6.heap.size := Nat.lt_of_lt_of_le elt hb36.size
            have hl2 : (0 : Int) ≤ (m : Int) := Int.natCast_nonneg _
            clear e0 e1 e2 e3 heq hpar hpf hn htn hbn ht5
            go_region_held3 (fun w' => w'.cell? ⟨W5.heap.size, 0, none⟩ = some (.int .i64 y.kind) ∧ w'.cell? ⟨W5.heap.size, 1, none⟩ = some (.int .i64 y.num) ∧ w'.cell? ⟨W5.heap.size, 2, none⟩ = some (.string y.text) ∧ w'.cell? ⟨W5.heap.size, 3, none⟩ = some (.slice a' y.list.length c') ∧ w'.cell? ⟨B, m * 4, none⟩ = some (.int .i64 y.kind) ∧ w'.cell? ⟨B, m * 4 + 1, none⟩ = some (.int .i64 y.num) ∧ w'.cell? ⟨B, m * 4 + 2, none⟩ = some (.string y.text) ∧ w'.cell? ⟨B, m * 4 + 3, none⟩ = some (.slice b y.list.length d))
              (first | go_keep | (exact ⟨(hb7.cell (p := ⟨W5.heap.size, 0, none⟩) hP).trans n0, (hb7.cell (p := ⟨W5.heap.size, 1, none⟩) hP).trans n1, (hb7.cell (p := ⟨W5.heap.size, 2, none⟩) hP).trans n2, (hb7.cell (p := ⟨W5.heap.size, 3, none⟩) hP).trans n3, (hb7.cell (p := ⟨B, m * 4, none⟩) hB6).trans g0, (hb7.cell (p := ⟨B, m * 4 + 1, none⟩) hB6).trans g1, (hb7.cell (p := ⟨B, m * 4 + 2, none⟩) hB6).trans g2, (hb7.cell (p := ⟨B, m * 4 + 3, none⟩) hB6).trans g3⟩))
              (first | (go_at_call 20; refine hq.out.mono ?_; rintro e W7 ⟨rfl, hb7⟩))
            go_wp2
            have hb67 : Below wr.heap.size wr W7 := hb36.trans (((Below.refl _ W6).drew.trans hb7).mono hb36.size)
            refine ⟨⟨m + 1, by omega, by go_num, hbw.trans (hb67.mono hbw.size)⟩, ?_⟩
            simp [intOf]
            omega
          · have hne : (er != 0) = true := by simpa using her
            have hne2 : (er == 0) = false := by rw [beq_eq_false_iff_ne]; exact her
            clear hpf heq
            go_wp2
            go_roundw
            case rel => exact ⟨m + 1, by omega, by go_num, hbw.trans (hb34.mono hbw.size)⟩
            case measure => simp [intOf]; omega
        · obtain rfl : m = 2 := by omega
          go_wp2
          go_ret
          exact ⟨rfl, hT.below.trans (hbw.mono hT.below.size)⟩
end Go.Proofs.YtipncjbgippkcaaDoor
