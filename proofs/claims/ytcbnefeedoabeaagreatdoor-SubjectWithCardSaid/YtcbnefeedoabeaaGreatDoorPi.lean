/- Contracts of the draw's contexts and subjects. Contract of the draw's Subject. -/
import Derived.Test.YtcbnefeedoabeaaGreatDoorPh
import Derived.Deep.RegionHeld3
import Derived.OrdersHeld
import Derived.Deep.DrawnRows
import Derived.Deep.CutBlock
/- Contracts of the draw's contexts and subjects. -/
namespace Go.Proofs.YtcbnefeedoabeaaGreatDoor
open Go Go.RowKit

attribute [local go_sem ↓] Go.wp_at_zero Go.wp_at_succ
/-- A narrower condition on the world serves. -/
theorem held_shift {P : Program} {md : Region.Mode} {ops : Array Oper} {Q : Exit → Act → World → Prop} {S S' : World → Prop} (hS : ∀ w, S' w → S w) : ∀ (fuel : Nat) (listed : Array Bool) (a : Act) (w : World), wpAnyH P md ops Q S' fuel listed a w → wpAnyH P md ops Q S fuel listed a w
  | 0, _, _, _, h => h
  | fuel + 1, _, _, _, h => ⟨h.1, fun i hi => wpOp_mono (fun a' w' h' => ⟨hS _ h'.1, held_shift hS fuel _ a' w' h'.2⟩) (h.2 i hi)⟩
theorem SameB.set {P : Nat → Prop} {w w' : World} (h : SameB P w w') {B : Nat} (hB : ¬ P B) (i : Nat) (v : Value) : SameB P w (w'.setCell ⟨B, i, none⟩ v) :=
  ⟨by simpa using h.1, fun b hb hl => by rw [Below.heap_setCell _ _ _ _ (fun (e : b = B) => hB (e ▸ hb))]; exact h.2 b hb hl⟩
theorem SameB.of_kept {P : Nat → Prop} {C : Nat} {w w' : World} (h : Kept C w w') (hP : ∀ b, P b → b ≠ C) : SameB P w w' := ⟨h.size, fun b hb hl => h.block b hl (hP b hb)⟩
theorem GRow.kept {α : Type} {E : Elt α} {P : Nat → Prop} {es : List α} {B C : Nat} {v : Value} {w w' : World} (h : GRow E P es B v w) (hk : Kept C w w') (hC : C < B) (hP : ∀ b, P b → b ≠ C) : GRow E P es B v w' :=
  h.other (SameB.of_kept hk fun b hb => by
    rcases hb with hb | hb
    · exact hP b hb
    · have := (h.lt b hb).1; omega)
theorem GRow.set {α : Type} {E : Elt α} {P : Nat → Prop} {es : List α} {B X : Nat} {v : Value} {w : World} (h : GRow E P es B v w) (hX : X < B) (hP : ∀ b, P b → b ≠ X) (i : Nat) (u : Value) : GRow E P es B v (w.setCell ⟨X, i, none⟩ u) :=
  h.other ((SameB.refl _ w).set (fun hb => by
    rcases hb with hb | hb
    · exact hP X hb rfl
    · have := (h.lt X hb).1; omega) i u)
theorem listP_from {P : Nat → Prop} {B : Nat} {a : Option Addr} {c : Nat} {l : List ByteArray} {w : World} (h : TextsFrom B a l w) (hn : a = none → c = 0) (hc : l.length ≤ c) (hP : ∀ b, B ≤ b → P b) : ListP P a c l w :=
  ⟨hn, hc, fun i hi => by
    obtain ⟨b, off, e1, e2, e3, e4⟩ := h i hi
    exact ⟨b, off, e1, hP b e2, e3, e4⟩⟩
/-- What the loop over the declared attributes holds. -/
structure Drawing (kd ky : ByteArray) (X D R0 C : Nat) (l : List UInt8) (a0 : Option Addr) (cap : Nat) (w w1 : World) (n : Nat) (es : List AEl) (v : Value) (wr : World) : Prop where
  names : (es.map fun e => e.a.name).Sublist (namesTo kd n)
  each : ∀ e ∈ es, DrawnA e.a
  row : GRow eltA (fun b => w1.heap.size ≤ b) es w1.heap.size v wr
  box : wr.heap[X]? = some (.cells #[.string kd, .string ky, v] 63 (0, 0))
  codes : ∃ at2, Codes l a0 cap C at2 wr
  draw : DrawG C wr
  kept : Kept C w wr
  decl : DeclAt D wr
  res : wr.heap[R0]? = some (.cells #[.string ⟨#[]⟩, .string ⟨#[]⟩, .slice none 0 0] 63 (0, 0))
  size : w1.heap.size ≤ wr.heap.size
/-- The choices stand where only what came later may have turned. -/
theorem Codes.low {l : List UInt8} {a0 : Option Addr} {cap C at_ at2 B : Nat} {w w1 w2 : World} (h0 : Codes l a0 cap C at_ w) (h : Codes l a0 cap C at2 w1) (hb : Below B w1 w2) (hB : w.heap.size ≤ B) : Codes l a0 cap C at2 w2 := by
  refine ⟨(hb.block C (by have := h0.lt; omega)).trans h.here, fun i hi => ?_, h.le⟩
  obtain ⟨b, off, he, hlt, hc, hv⟩ := h.bytes i hi
  obtain ⟨b', off', he', hlt', _, _⟩ := h0.bytes i hi
  rw [he] at he'
  cases he'
  exact ⟨b, off, he, Nat.lt_of_lt_of_le hlt hb.size, hc, (hb.cell (p := ⟨b, off + i, none⟩) (by show b < B; omega)).trans hv⟩
theorem Kept.then_low {C B : Nat} {w w1 w2 : World} (h : Kept C w w1) (hb : Below B w1 w2) (hB : w.heap.size ≤ B) : Kept C w w2 :=
  ⟨hb.os.trans h.os, hb.tape.trans h.tape, hb.output.trans h.output, Nat.le_trans h.size hb.size, fun k hk hc => (hb.block k (by omega)).trans (h.block k hk hc)⟩
theorem Kept.other' {C X : Nat} {w w1 : World} (h : Kept C w w1) (hX : w.heap.size ≤ X) (i : Nat) (v : Value) : Kept C w (w1.setCell ⟨X, i, none⟩ v) :=
  ⟨h.os, h.tape, h.output, by simpa using h.size, fun k hk hc => by rw [Below.heap_setCell _ _ _ _ (by show k ≠ X; omega)]; exact h.block k hk hc⟩
theorem box_put {w : World} {X i : Nat} {cs : Array Value} {T : TypeId} (h : w.heap[X]? = some (.cells cs T (0, 0))) (v : Value) : (w.setCell ⟨X, i, none⟩ v).heap[X]? = some (.cells (cs.setIfInBounds i v) T (0, 0)) := by
  show (w.heap.modify X _)[X]? = _
  rw [Array.getElem?_modify, if_pos rfl, h]
  rfl
set_option linter.unusedVariables false in
theorem drawing_next {at_ : Nat} {kd ky nm : ByteArray} {X R0 C : Nat} {l : List UInt8} {a0 : Option Addr} {cap : Nat} {w w2 wr w3 w4 w5 : World} {n : Nat} {es : List AEl} {v : Value} {x : Val} {b4 : Option Addr} {c4 g5 c5 : Nat}
    (h0 : Codes l a0 cap C at_ w) (hG : DrawG C w) (hD : Drawing kd ky X (X + 1) R0 C l a0 cap w w2 n es v wr) (hk3 : Kept C wr w3) (hk4 : Kept C w3.drew w4) (hce4 : ∃ at2, Codes l a0 cap C at2 w4)
    (hb5 : Below w2.heap.size (w4.alloc (.cells (eltA.cells ⟨⟨nm, x⟩, b4, c4⟩).toArray 72)) w5)
    (hgr5 : (w4.alloc (.cells (eltA.cells ⟨⟨nm, x⟩, b4, c4⟩).toArray 72)).grownBy w5 v.ownBlock)
    (hrow5 : GRow eltA (fun b => w2.heap.size ≤ b) (es ++ [⟨⟨nm, x⟩, b4, c4⟩]) w2.heap.size (.slice (some ⟨g5, 0, none⟩) (es.length + 1) c5) w5)
    (hsub : ((es.map fun e => e.a.name) ++ [nm]).Sublist (namesTo kd (n + 1))) (hdA : DrawnA ⟨nm, x⟩)
    (hx5 : w5.heap[X]? = some (.cells #[.string kd, .string ky, v] 63 (0, 0))) (hXC : X ≠ C) (hX : R0 < X) (hXl : X < w2.heap.size) (hDl : X + 1 < w2.heap.size) (hR0 : w.heap.size = R0) (hCw : C < R0) :
    Drawing kd ky X (X + 1) R0 C l a0 cap w w2 (n + 1) (es ++ [⟨⟨nm, x⟩, b4, c4⟩]) (.slice (some ⟨g5, 0, none⟩) (es.length + 1) c5) (w5.setCell ⟨X, 2, none⟩ (.slice (some ⟨g5, 0, none⟩) (es.length + 1) c5)) := by
  have hal := (Below.refl w4.heap.size w4).alloc (Nat.le_refl _) (.cells (eltA.cells ⟨⟨nm, x⟩, b4, c4⟩).toArray 72)
  have h34 : Kept C wr w4 := hk3.trans ((Kept.of_below (C := C) (Below.refl w3.heap.size w3).drew).trans hk4)
  have h4a : Kept C wr (w4.alloc (.cells (eltA.cells ⟨⟨nm, x⟩, b4, c4⟩).toArray 72)) := h34.trans (Kept.of_below hal)
  have hs2 := hD.size
  have hsz4 : w2.heap.size ≤ w4.heap.size := Nat.le_trans hs2 h34.size
  have hown := hD.row.lt
  have hCW : ∀ b, v.ownBlock = some b → b ≠ C := fun b hb => by have := (hown b hb).1; omega
  obtain ⟨at2, hc⟩ := hce4
  have hXw := hD.decl.lt
  have hals := hal.size
  have hs34 := h34.size
  have hc5 := h0.low (hc.below hal) hb5 (by omega)
  have hRne : w5.heap[R0]? = some (.cells #[.string ⟨#[]⟩, .string ⟨#[]⟩, .slice none 0 0] 63 (0, 0)) := (hb5.block R0 (by omega)).trans ((h4a.block R0 (by omega) (by omega)).trans hD.res)
  have hDe : w5.heap[X + 1]? = wr.heap[X + 1]? := (hb5.block (X + 1) hDl).trans (h4a.block (X + 1) (by omega) (by omega))
  have hk5 : Kept C w w5 := (hD.kept.trans h4a).then_low hb5 (by omega)
  have hk6 := hk5.other' (X := X) (by omega) 2 (.slice (some ⟨g5, 0, none⟩) (es.length + 1) c5)
  have hsz5 := hb5.size
  refine ⟨by simpa using hsub, fun e he => ?_, hrow5.set hXl (fun b hb => by omega) _ _, box_put hx5 _, ⟨at2, h0.other hc5 (by omega) _ _⟩, hG.kept hk6, hk6, ?_, ?_, by simp; omega⟩
  · rcases List.mem_append.1 he with h | h
    · exact hD.each e h
    · obtain rfl := List.mem_singleton.1 h; exact hdA
  · refine hD.decl.block (by simp; omega) ?_
    rw [Below.heap_setCell _ _ _ _ (by show X + 1 ≠ X; omega)]
    exact hDe
  · rw [Below.heap_setCell _ _ _ _ (by show R0 ≠ X; omega)]
    exact hRne
set_option linter.unusedSimpArgs false in
set_option linter.unusedVariables false in
set_option maxHeartbeats 8000000 in
set_option maxRecDepth 100000 in
theorem context_any (kd : ByteArray) (hkd : kd.size ≤ 100) (l : List UInt8) (a0 : Option Addr) (cap C at_ : Nat) (w : World) (hl : l.length ≤ 1000000) (h : Codes l a0 cap C at_ w) (hG : DrawG C w) :
    Calls Tryz.prog 30 #[.pointer (some ⟨C, 0, none⟩), .string kd] w fun e w' => (∃ (x : Ctx) (p : Option Addr) (c : Nat), e = .returned (.agg #[.string x.kind, .string x.key, .slice p (x.attrs.length : Nat) c]) ∧ DrawnC kd x ∧ AttrsP (fun b => w.heap.size ≤ b) p c x.attrs w') ∧ Kept C w w' ∧ ∃ at2, Codes l a0 cap C at2 w' := by
  have hbA := (Below.refl w.heap.size w).alloc (Nat.le_refl _) (.cells #[.string ⟨#[]⟩, .string ⟨#[]⟩, .slice none 0 0] 63)
  have hk := Lib.hid (drawKey_any l a0 cap C at_ _ hl (h.below hbA))
  have hCw := h.lt
  go_enter Tryz.func30, Tryz.ntmps30
  go_upto_region 3 with (first
    | (go_at_call 68; refine hk.out.mono ?_; rintro e w1 ⟨⟨d, hd, rfl⟩, hk1, hc1⟩)
    | (go_at_call 21; refine (declared_any _).mono ?_; rintro e w2 ⟨rfl, hD2, hb2⟩))
  have hX : w.heap.size < w1.heap.size := by have := hk1.size; simp at this; omega
  have hkA : Kept C w w1 := (Kept.of_below hbA).trans hk1
  have hR1 : w1.heap[w.heap.size]? = some (.cells #[.string ⟨#[]⟩, .string ⟨#[]⟩, .slice none 0 0] 63 (0, 0)) := (hk1.block w.heap.size (by simp) (by omega)).trans (heap_alloc_new w _)
  have hbX := (Below.refl w1.heap.size w1).alloc (Nat.le_refl _) (.cells #[.string kd, .string (keyOf d), .slice none 0 0] 63)
  have hX2 := (hb2.block w1.heap.size (by simp)).trans (heap_alloc_new w1 (.cells #[.string kd, .string (keyOf d), .slice none 0 0] 63))
  have hB2 : Below w1.heap.size w1 w2 := hbX.trans (hb2.mono (by simp))
  have hR2 := (hB2.block w.heap.size hX).trans hR1
  have hk2 : Kept C w w2 := hkA.trans (Kept.of_below hB2)
  have hG2 := hG.kept hk2
  obtain ⟨atk, hc1⟩ := hc1
  have hc2 := hc1.below hB2
  have hDl := hD2.lt
  have hsz : (w1.alloc (.cells #[.string kd, .string (keyOf d), .slice none 0 0] 63)).heap.size = w1.heap.size + 1 := by simp
  rw [hsz] at hD2 hDl
  have hst : Drawing kd (keyOf d) w1.heap.size (w1.heap.size + 1) w.heap.size C l a0 cap w w2 0 [] (.slice none 0 0) w2 :=
    ⟨by simp, fun e he => by simp at he, GRow.nil _ _ _ _, hX2, ⟨_, hc2⟩, hG2, hk2, hD2, hR2, Nat.le_refl _⟩
  have hXl : w1.heap.size < w2.heap.size := by omega
  clear hk1 hbA hk hkA hR1 hbX hX2 hB2 hR2 hk2 hG2 hc1 hc2 hD2 hb2 hsz
  generalize w1.heap.size = X at hst hX hDl hXl ⊢
  obtain ⟨R0, hR0⟩ : ∃ R0, w.heap.size = R0 := ⟨_, rfl⟩
  rw [hR0] at hst hX hCw ⊢
  replace hR0 := Lib.hid hR0
  clear w1
  go_wp2
  go_loopw [7] (fun i wr => ∃ n : Nat, n ≤ 8 ∧ i = .int .i64 n ∧ ∃ es v, Drawing kd (keyOf d) X (X + 1) R0 C l a0 cap w w2 n es v wr) (fun i _ => 8 - (intOf i).toNat)
  case atStart => exact ⟨0, Nat.zero_le _, rfl, _, _, hst⟩
  case round =>
    obtain ⟨n, hn, rfl, es, v, hD⟩ := hrel
    clear hst
    by_cases hlt : n < 8
    · have hlt' : (n : Int) < 8 := by omega
      obtain ⟨d0, d1, d2⟩ := hD.decl.c n hlt
      have hDlt := hD.decl.lt
      obtain ⟨atn, hcn⟩ := hD.codes
      have hel := Lib.hid (fun (hk : (decls[n].1.toList == kd.toList) = true) => namesTo_yes kd n hlt hk)
      have hno := Lib.hid (fun (hk : (decls[n].1.toList == kd.toList) = false) => namesTo_no kd n hlt hk)
      have hty : 1 ≤ decls[n].2.2 ∧ decls[n].2.2 ≤ 5 := by
        have : ∀ i : Fin 8, 1 ≤ (decls[i.1]'i.2).2.2 ∧ (decls[i.1]'i.2).2.2 ≤ 5 := by decide
        exact this ⟨n, hlt⟩
      obtain ⟨nk, hnk⟩ : ∃ nk, decls[n].1 = nk := ⟨_, rfl⟩
      obtain ⟨nm, hnm⟩ : ∃ nm, decls[n].2.1 = nm := ⟨_, rfl⟩
      obtain ⟨ty, htyE⟩ : ∃ ty, decls[n].2.2 = ty := ⟨_, rfl⟩
      rw [hnk] at d0 hel hno
      rw [hnm] at d1 hel
      rw [htyE] at d2 hty
      replace hnk := Lib.hid hnk
      replace hnm := Lib.hid hnm
      replace htyE := Lib.hid htyE
      have hn8 : (0 : Int) ≤ (n : Int) := by omega
      cases hc : nk.toList == kd.toList with
      | false =>
        have hnm2 := hno.out hc
        have hsub := hD.names
        rw [← hnm2] at hsub
        replace hnm2 := Lib.hid hnm2
        go_wp2
        go_roundw
        case rel => exact ⟨n + 1, by omega, by go_num, es, v, hsub, hD.each, hD.row, hD.box, hD.codes, hD.draw, hD.kept, hD.decl, hD.res, hD.size⟩
        case measure => simp [intOf]; omega
      | true =>
        have hnm2 := hel.out hc
        have hsub0 : (es.map fun e => e.a.name).Sublist (namesTo kd (n + 1)) := by rw [hnm2]; exact hD.names.trans (List.sublist_append_left _ _)
        have hsub1 : ((es.map fun e => e.a.name) ++ [nm]).Sublist (namesTo kd (n + 1)) := by rw [hnm2]; exact hD.names.append (List.Sublist.refl _)
        replace hnm2 := Lib.hid hnm2
        have hnx := next_any l a0 cap C atn 4 wr hl (by omega) (by omega) hcn
        have hr := nextN_lt l atn 4 (by omega)
        obtain ⟨r, hr0, hr1, hr2⟩ : ∃ r : Int, ((nextN l atn 4 : Nat) : Int) = r ∧ 0 ≤ r ∧ r < 4 := ⟨_, rfl, by omega, by omega⟩
        rw [hr0] at hnx
        clear hr0 hr
        replace hnx := Lib.hid hnx
        by_cases hz : r = 0
        · subst hz
          go_wp2_with (go_at_call 15; refine hnx.out.mono ?_; rintro e w3 ⟨rfl, hk3, hc3⟩)
          go_roundw
          case rel => exact ⟨n + 1, by omega, by go_num, es, v, hsub0, hD.each, hD.row.kept hk3 (by omega) (fun b hb => by omega), (hk3.block X (Nat.lt_of_lt_of_le hXl hD.size) (by omega)).trans hD.box, hc3, hD.draw.kept hk3, hD.kept.trans hk3, hD.decl.block hk3.size (hk3.block _ hD.decl.lt (by omega)), (hk3.block R0 (by have := hD.size; omega) (by omega)).trans hD.res, Nat.le_trans hD.size hk3.size⟩
          case measure => simp [intOf]; omega
        · have hrp : 0 < r := by omega
          go_upto_region 7 with (go_at_call 15; refine hnx.out.mono ?_; rintro e w3 ⟨rfl, hk3, hc3⟩)
          obtain ⟨at3, hc3⟩ := hc3
          obtain ⟨vA, vC, rfl, hvn, hvl, _, _⟩ := hD.row.form
          have hXw : X < wr.heap.size := Nat.lt_of_lt_of_le hXl hD.size
          have hx3 := (hk3.block X hXw (by omega)).trans hD.box
          have s0 : w3.cell? ⟨X, 2, none⟩ = some (.slice vA es.length vC) := by rw [Lib.cell_of_heap hx3]; rfl
          have s1 : w3.cell? ⟨X + 1, n * 3 + 1, none⟩ = some (.string nm) := (hk3.cell (p := ⟨X + 1, n * 3 + 1, none⟩) hDlt (by show X + 1 ≠ C; omega)).trans d1
          have s2 : w3.cell? ⟨X + 1, n * 3 + 2, none⟩ = some (.int .i64 ty) := (hk3.cell (p := ⟨X + 1, n * 3 + 2, none⟩) hDlt (by show X + 1 ≠ C; omega)).trans d2
          have hdr := (Below.refl w3.heap.size w3).drew
          have hrow3 := (hD.row.kept hk3 (by omega) (fun b hb => by omega)).below hdr
          have hval := Lib.hid (value_any ty hty l a0 cap C at3 w3.drew hl (hc3.below hdr) ((hD.draw.kept hk3).kept (Kept.of_below hdr)))
          have hX3 : X < w3.heap.size := Nat.lt_of_lt_of_le hXw hk3.size
          have hX3' : X + 1 < w3.heap.size := Nat.lt_of_lt_of_le hDlt hk3.size
          have hXC : X ≠ C := by omega
          have hXC' : X + 1 ≠ C := by omega
          have hsz2 := hD.size
          have hlen := hD.names.length_le
          rw [List.length_map] at hlen
          have hlenN : (namesTo kd n).length ≤ 8 := by
            unfold namesTo
            rw [List.length_map]
            refine Nat.le_trans (List.length_filter_le _ _) ?_
            rw [List.length_take]
            have : decls.length = 8 := rfl
            omega
          have hlen2 : es.length + 1 ≤ 1000 := by omega
          have hw2B : w2.heap.size ≤ w3.heap.size := Nat.le_trans hsz2 hk3.size
          have hown3 := hrow3.lt
          clear hnx hno hel hcn
          have s0' : w3.drew.cell? ⟨X, 2, none⟩ = some (.slice vA es.length vC) := s0
          refine wp_region_held_drew (S := fun w' => w'.cell? ⟨X + 1, n * 3 + 1, none⟩ = some (.string nm) ∧ w'.cell? ⟨X + 1, n * 3 + 2, none⟩ = some (.int .i64 ty)) (by kernel_rfl) (⟨s1, s2⟩) (fun hHeld => ?_)
          refine wpAnyH_take (i := 0) (v := ?_) rfl (by kernel_rfl) (by kernel_rfl) (by kernel_rfl) (fun _ _ _ h => h) (Or.inl ⟨by rfl, ?_⟩) hHeld ?_
          rotate_left
          · intro w' hSw
            go_simp
            try with_reducible rfl
          try simp only [List.getElem_toArray, List.getElem_cons_succ, List.getElem_cons_zero, Act.put, List.setIfInBounds_toArray, List.set_cons_zero, List.set_cons_succ]
          refine wpAnyH_take (i := 2) (v := ?_) rfl (by kernel_rfl) (by kernel_rfl) (by kernel_rfl) (fun _ _ _ h => h) (Or.inl ⟨by rfl, ?_⟩) hHeld ?_
          rotate_left
          · intro w' hSw
            go_simp
            try with_reducible rfl
          try simp only [List.getElem_toArray, List.getElem_cons_succ, List.getElem_cons_zero, Act.put, List.setIfInBounds_toArray, List.set_cons_zero, List.set_cons_succ]
          refine wpAnyH_take (i := 3) (v := ?_) rfl (by kernel_rfl) (by kernel_rfl) (by kernel_rfl) (fun _ _ _ h => h) (Or.inl ⟨by rfl, ?_⟩) hHeld ?_
          rotate_left
          · intro w' hSw
            go_simp
            try with_reducible rfl
          try simp only [List.getElem_toArray, List.getElem_cons_succ, List.getElem_cons_zero, Act.put, List.setIfInBounds_toArray, List.set_cons_zero, List.set_cons_succ]
          refine wpAnyH_take (i := 4) (v := ?_) rfl (by kernel_rfl) (by kernel_rfl) (by kernel_rfl) (fun _ _ _ h => h) (Or.inl ⟨by rfl, ?_⟩) hHeld ?_
          rotate_left
          · intro w' hSw
            go_simp
            try with_reducible rfl
          try simp only [List.getElem_toArray, List.getElem_cons_succ, List.getElem_cons_zero, Act.put, List.setIfInBounds_toArray, List.set_cons_zero, List.set_cons_succ]
          refine wpAnyH_take (i := 5) (v := ?_) rfl (by kernel_rfl) (by kernel_rfl) (by kernel_rfl) (fun _ _ _ h => h) (Or.inl ⟨by rfl, ?_⟩) hHeld ?_
          rotate_left
          · intro w' hSw
            go_simp
            try with_reducible rfl
          try simp only [List.getElem_toArray, List.getElem_cons_succ, List.getElem_cons_zero, Act.put, List.setIfInBounds_toArray, List.set_cons_zero, List.set_cons_succ]
          refine wpAnyH_take (i := 6) (v := ?_) rfl (by kernel_rfl) (by kernel_rfl) (by kernel_rfl) (fun _ _ _ h => h) (Or.inl ⟨by rfl, ?_⟩) hHeld ?_
          rotate_left
          · intro w' hSw
            obtain ⟨e1, e2⟩ := hSw
            go_simp
            try with_reducible rfl
          try simp only [List.getElem_toArray, List.getElem_cons_succ, List.getElem_cons_zero, Act.put, List.setIfInBounds_toArray, List.set_cons_zero, List.set_cons_succ]
          refine wpAnyH_take (i := 7) (v := ?_) rfl (by kernel_rfl) (by kernel_rfl) (by kernel_rfl) (fun _ _ _ h => h) (Or.inl ⟨by rfl, ?_⟩) hHeld ?_
          rotate_left
          · intro w' hSw
            go_simp
            try with_reducible rfl
          try simp only [List.getElem_toArray, List.getElem_cons_succ, List.getElem_cons_zero, Act.put, List.setIfInBounds_toArray, List.set_cons_zero, List.set_cons_succ]
          refine wpAnyH_take (i := 8) (v := ?_) rfl (by kernel_rfl) (by kernel_rfl) (by kernel_rfl) (fun _ _ _ h => h) (Or.inl ⟨by rfl, ?_⟩) hHeld ?_
          rotate_left
          · intro w' hSw
            go_simp
            try with_reducible rfl
          try simp only [List.getElem_toArray, List.getElem_cons_succ, List.getElem_cons_zero, Act.put, List.setIfInBounds_toArray, List.set_cons_zero, List.set_cons_succ]
          refine wpAnyH_take (i := 9) (v := ?_) rfl (by kernel_rfl) (by kernel_rfl) (by kernel_rfl) (fun _ _ _ h => h) (Or.inl ⟨by rfl, ?_⟩) hHeld ?_
          rotate_left
          · intro w' hSw
            go_simp
            try with_reducible rfl
          try simp only [List.getElem_toArray, List.getElem_cons_succ, List.getElem_cons_zero, Act.put, List.setIfInBounds_toArray, List.set_cons_zero, List.set_cons_succ]
          refine wpAnyH_take (i := 10) (v := ?_) rfl (by kernel_rfl) (by kernel_rfl) (by kernel_rfl) (fun _ _ _ h => h) (Or.inl ⟨by rfl, ?_⟩) hHeld ?_
          rotate_left
          · intro w' hSw
            go_simp
            try with_reducible rfl
          try simp only [List.getElem_toArray, List.getElem_cons_succ, List.getElem_cons_zero, Act.put, List.setIfInBounds_toArray, List.set_cons_zero, List.set_cons_succ]
          refine wpAnyH_take (i := 11) (v := ?_) rfl (by kernel_rfl) (by kernel_rfl) (by kernel_rfl) (fun _ _ _ h => h) (Or.inl ⟨by rfl, ?_⟩) hHeld ?_
          rotate_left
          · intro w' hSw
            go_simp
            try with_reducible rfl
          try simp only [List.getElem_toArray, List.getElem_cons_succ, List.getElem_cons_zero, Act.put, List.setIfInBounds_toArray, List.set_cons_zero, List.set_cons_succ]
          refine wpAnyH_take (i := 12) (v := ?_) rfl (by kernel_rfl) (by kernel_rfl) (by kernel_rfl) (fun _ _ _ h => h) (Or.inl ⟨by rfl, ?_⟩) hHeld ?_
          rotate_left
          · intro w' hSw
            obtain ⟨e1, e2⟩ := hSw
            go_simp
            try with_reducible rfl
          try simp only [List.getElem_toArray, List.getElem_cons_succ, List.getElem_cons_zero, Act.put, List.setIfInBounds_toArray, List.set_cons_zero, List.set_cons_succ]
          refine wpAnyH_ready (rs := [1, 13]) (by kernel_rfl) (by simp) ?_
          refine AllReadyH.cons rfl (fun K hK => ?_) (AllReadyH.cons rfl (fun K hK => ?_) AllReadyH.nil)
          · go_simp
            refine hK.out _ _ ⟨s1, s2⟩ (fun _ => ?_)
            clear hK K
            try simp only [List.getElem_toArray, List.getElem_cons_succ, List.getElem_cons_zero, Act.put, List.setIfInBounds_toArray, List.set_cons_zero, List.set_cons_succ]
            refine wpAnyH_ready (rs := [13]) (by kernel_rfl) (by simp) ?_
            refine AllReadyH.cons rfl (fun K hK => ?_) AllReadyH.nil
            go_simp
            go_at_call 41
            refine hval.out.mono ?_
            rintro e w4 ⟨⟨⟨k', n', t', l'⟩, b4, c4, rfl, hdr4, htx4, hnd4, hld4⟩, hk4, hce4⟩
            unfold Val.agg
            have q0 := (hk4.cell (p := ⟨X, 2, none⟩) hX3 hXC).trans s0
            have q1 := (hk4.cell (p := ⟨X + 1, n * 3 + 1, none⟩) hX3' hXC').trans s1
            have q2 := (hk4.cell (p := ⟨X + 1, n * 3 + 2, none⟩) hX3' hXC').trans s2
            have hX4 := Nat.lt_of_lt_of_le hX3 hk4.size
            have hX4' := Nat.lt_of_lt_of_le hX3' hk4.size
            have hx4 := (hk4.block X hX3 hXC).trans hx3
            refine hK.out _ _ ⟨q1, q2⟩ (fun _ => ?_)
            clear hK K hHeld
            have hHeld : (fun w' => w'.cell? ⟨X + 1, n * 3 + 1, none⟩ = some (.string nm) ∧ w'.cell? ⟨X + 1, n * 3 + 2, none⟩ = some (.int .i64 ty)) w4 := ⟨q1, q2⟩
            try simp only [List.getElem_toArray, List.getElem_cons_succ, List.getElem_cons_zero, Act.put, List.setIfInBounds_toArray, List.set_cons_zero, List.set_cons_succ]
            refine wpAnyH_take (i := 14) (v := ?_) rfl (by kernel_rfl) (by kernel_rfl) (by kernel_rfl) (fun _ _ _ h => h) (Or.inl ⟨by rfl, ?_⟩) hHeld ?_
            rotate_left
            · intro w' hSw
              go_simp
              try with_reducible rfl
            try simp only [List.getElem_toArray, List.getElem_cons_succ, List.getElem_cons_zero, Act.put, List.setIfInBounds_toArray, List.set_cons_zero, List.set_cons_succ]
            have hal := fun o => (Below.refl w4.heap.size w4).alloc (Nat.le_refl _) o
            have hrow4 := hrow3.kept hk4 (by omega) (fun b hb => by omega)
            have hdA := hdr4.attr nm
            have hlp4 := listP_from (P := fun b => w2.heap.size ≤ b ∧ (Value.slice vA es.length vC).ownBlock ≠ some b) htx4 hnd4 hld4 (fun b hb => ⟨Nat.le_trans hw2B hb, fun e => by have := (hown3 b e).2; simp at this hb; omega⟩)
            refine wpAnyH_ready (rs := [15]) (by kernel_rfl) (by simp) ?_
            refine AllReadyH.cons rfl (fun K hK => ?_) AllReadyH.nil
            go_simp
            refine hK.out _ _ ⟨((hal _).cell (p := ⟨X + 1, n * 3 + 1, none⟩) hX4').trans q1, ((hal _).cell (p := ⟨X + 1, n * 3 + 2, none⟩) hX4').trans q2⟩ (fun _ => ?_)
            clear hK K hHeld
            try simp only [List.getElem_toArray, List.getElem_cons_succ, List.getElem_cons_zero, Act.put, List.setIfInBounds_toArray, List.set_cons_zero, List.set_cons_succ]
            refine wpAnyH_ready (rs := [16]) (by kernel_rfl) (by simp) ?_
            refine AllReadyH.cons rfl (fun K hK => ?_) AllReadyH.nil
            refine step_grow eltA (by rfl) _ _ (by rfl) (hrow4.below (hal _)) (by rfl) [⟨⟨nm, ⟨k', n', t', l'⟩⟩, b4, c4⟩] ⟨w4.heap.size, 0, none⟩ 1 1 (by rfl) (by rfl) (news_one eltA ⟨⟨nm, ⟨k', n', t', l'⟩⟩, b4, c4⟩ w4) (fun e he => by obtain rfl := List.mem_singleton.1 he; exact hlp4.same (SameB.of_below (hal _))) (by decide) hlen2 (Nat.le_trans (Nat.le_trans hw2B hk4.size) (hal _).size) ?_
            intro g5 c5 w5 hrow5 hgr5 hlies5 hb5
            have hx5 := (hb5.block X hXl).trans (((hal _).block X hX4).trans hx4)
            have zf5 : ∀ i, w5.frozen? ⟨X, i, none⟩ = false := Lib.frozen_of_heap hx5
            have u0 := (hb5.cell (p := ⟨X, 2, none⟩) hXl).trans (((hal _).cell (p := ⟨X, 2, none⟩) hX4).trans q0)
            have u1 := (hb5.cell (p := ⟨X + 1, n * 3 + 1, none⟩) hDl).trans (((hal _).cell (p := ⟨X + 1, n * 3 + 1, none⟩) hX4').trans q1)
            have u2 := (hb5.cell (p := ⟨X + 1, n * 3 + 2, none⟩) hDl).trans (((hal _).cell (p := ⟨X + 1, n * 3 + 2, none⟩) hX4').trans q2)
            refine hK.out _ _ ⟨u1, u2⟩ (fun _ => ?_)
            clear hK K
            have hHeld : (fun w' => w'.cell? ⟨X + 1, n * 3 + 1, none⟩ = some (.string nm) ∧ w'.cell? ⟨X + 1, n * 3 + 2, none⟩ = some (.int .i64 ty)) w5 := ⟨u1, u2⟩
            try simp only [List.getElem_toArray, List.getElem_cons_succ, List.getElem_cons_zero, Act.put, List.setIfInBounds_toArray, List.set_cons_zero, List.set_cons_succ]
            refine wpAnyH_take (i := 17) (v := ?_) rfl (by kernel_rfl) (by kernel_rfl) (by kernel_rfl) (fun _ _ _ h => h) (Or.inl ⟨by rfl, ?_⟩) hHeld ?_
            rotate_left
            · intro w' hSw
              go_simp
              try with_reducible rfl
            try simp only [List.getElem_toArray, List.getElem_cons_succ, List.getElem_cons_zero, Act.put, List.setIfInBounds_toArray, List.set_cons_zero, List.set_cons_succ]
            refine wpAnyH_ready (rs := [18]) (by kernel_rfl) (by simp) ?_
            refine AllReadyH.cons rfl (fun K hK => ?_) AllReadyH.nil
            go_simp
            refine hK.out _ _ ⟨(World.cell?_setCell_other _ _ _ _ (by simp)).trans u1, (World.cell?_setCell_other _ _ _ _ (by simp)).trans u2⟩ (fun _ => ?_)
            clear hK K
            try simp only [List.getElem_toArray, List.getElem_cons_succ, List.getElem_cons_zero, Act.put, List.setIfInBounds_toArray, List.set_cons_zero, List.set_cons_succ]
            refine wpAnyH_done (by kernel_rfl) ?_ _
            go_wp2
            go_roundw
            case rel =>
              exact ⟨n + 1, by omega, by go_num, es ++ [⟨⟨nm, ⟨k', n', t', l'⟩⟩, b4, c4⟩], _, drawing_next (x := ⟨k', n', t', l'⟩) (b4 := b4) (c4 := c4) h hG hD hk3 hk4 hce4 hb5 hgr5 hrow5 hsub1 hdA hx5 (by omega) hX hXl hDl hR0.out hCw⟩
            case measure => simp [intOf]; omega
          · go_simp
            go_at_call 41
            refine hval.out.mono ?_
            rintro e w4 ⟨⟨⟨k', n', t', l'⟩, b4, c4, rfl, hdr4, htx4, hnd4, hld4⟩, hk4, hce4⟩
            unfold Val.agg
            have q0 := (hk4.cell (p := ⟨X, 2, none⟩) hX3 hXC).trans s0
            have q1 := (hk4.cell (p := ⟨X + 1, n * 3 + 1, none⟩) hX3' hXC').trans s1
            have q2 := (hk4.cell (p := ⟨X + 1, n * 3 + 2, none⟩) hX3' hXC').trans s2
            have hX4 := Nat.lt_of_lt_of_le hX3 hk4.size
            have hX4' := Nat.lt_of_lt_of_le hX3' hk4.size
            have hx4 := (hk4.block X hX3 hXC).trans hx3
            refine hK.out _ _ ⟨q1, q2⟩ (fun _ => ?_)
            clear hK K hHeld
            have hHeld : (fun w' => w'.cell? ⟨X + 1, n * 3 + 1, none⟩ = some (.string nm) ∧ w'.cell? ⟨X + 1, n * 3 + 2, none⟩ = some (.int .i64 ty)) w4 := ⟨q1, q2⟩
            try simp only [List.getElem_toArray, List.getElem_cons_succ, List.getElem_cons_zero, Act.put, List.setIfInBounds_toArray, List.set_cons_zero, List.set_cons_succ]
            refine wpAnyH_take (i := 14) (v := ?_) rfl (by kernel_rfl) (by kernel_rfl) (by kernel_rfl) (fun _ _ _ h => h) (Or.inl ⟨by rfl, ?_⟩) hHeld ?_
            rotate_left
            · intro w' hSw
              go_simp
              try with_reducible rfl
            try simp only [List.getElem_toArray, List.getElem_cons_succ, List.getElem_cons_zero, Act.put, List.setIfInBounds_toArray, List.set_cons_zero, List.set_cons_succ]
            have hal := fun o => (Below.refl w4.heap.size w4).alloc (Nat.le_refl _) o
            have hrow4 := hrow3.kept hk4 (by omega) (fun b hb => by omega)
            have hdA := hdr4.attr nm
            have hlp4 := listP_from (P := fun b => w2.heap.size ≤ b ∧ (Value.slice vA es.length vC).ownBlock ≠ some b) htx4 hnd4 hld4 (fun b hb => ⟨Nat.le_trans hw2B hb, fun e => by have := (hown3 b e).2; simp at this hb; omega⟩)
            refine wpAnyH_ready (rs := [1, 15]) (by kernel_rfl) (by simp) ?_
            refine AllReadyH.cons rfl (fun K hK => ?_) (AllReadyH.cons rfl (fun K hK => ?_) AllReadyH.nil)
            · go_simp
              refine hK.out _ _ ⟨q1, q2⟩ (fun _ => ?_)
              clear hK K
              try simp only [List.getElem_toArray, List.getElem_cons_succ, List.getElem_cons_zero, Act.put, List.setIfInBounds_toArray, List.set_cons_zero, List.set_cons_succ]
              refine wpAnyH_ready (rs := [15]) (by kernel_rfl) (by simp) ?_
              refine AllReadyH.cons rfl (fun K hK => ?_) AllReadyH.nil
              go_simp
              refine hK.out _ _ ⟨((hal _).cell (p := ⟨X + 1, n * 3 + 1, none⟩) hX4').trans q1, ((hal _).cell (p := ⟨X + 1, n * 3 + 2, none⟩) hX4').trans q2⟩ (fun _ => ?_)
              clear hK K hHeld
              try simp only [List.getElem_toArray, List.getElem_cons_succ, List.getElem_cons_zero, Act.put, List.setIfInBounds_toArray, List.set_cons_zero, List.set_cons_succ]
              refine wpAnyH_ready (rs := [16]) (by kernel_rfl) (by simp) ?_
              refine AllReadyH.cons rfl (fun K hK => ?_) AllReadyH.nil
              refine step_grow eltA (by rfl) _ _ (by rfl) (hrow4.below (hal _)) (by rfl) [⟨⟨nm, ⟨k', n', t', l'⟩⟩, b4, c4⟩] ⟨w4.heap.size, 0, none⟩ 1 1 (by rfl) (by rfl) (news_one eltA ⟨⟨nm, ⟨k', n', t', l'⟩⟩, b4, c4⟩ w4) (fun e he => by obtain rfl := List.mem_singleton.1 he; exact hlp4.same (SameB.of_below (hal _))) (by decide) hlen2 (Nat.le_trans (Nat.le_trans hw2B hk4.size) (hal _).size) ?_
              intro g5 c5 w5 hrow5 hgr5 hlies5 hb5
              have hx5 := (hb5.block X hXl).trans (((hal _).block X hX4).trans hx4)
              have zf5 : ∀ i, w5.frozen? ⟨X, i, none⟩ = false := Lib.frozen_of_heap hx5
              have u0 := (hb5.cell (p := ⟨X, 2, none⟩) hXl).trans (((hal _).cell (p := ⟨X, 2, none⟩) hX4).trans q0)
              have u1 := (hb5.cell (p := ⟨X + 1, n * 3 + 1, none⟩) hDl).trans (((hal _).cell (p := ⟨X + 1, n * 3 + 1, none⟩) hX4').trans q1)
              have u2 := (hb5.cell (p := ⟨X + 1, n * 3 + 2, none⟩) hDl).trans (((hal _).cell (p := ⟨X + 1, n * 3 + 2, none⟩) hX4').trans q2)
              refine hK.out _ _ ⟨u1, u2⟩ (fun _ => ?_)
              clear hK K
              have hHeld : (fun w' => w'.cell? ⟨X + 1, n * 3 + 1, none⟩ = some (.string nm) ∧ w'.cell? ⟨X + 1, n * 3 + 2, none⟩ = some (.int .i64 ty)) w5 := ⟨u1, u2⟩
              try simp only [List.getElem_toArray, List.getElem_cons_succ, List.getElem_cons_zero, Act.put, List.setIfInBounds_toArray, List.set_cons_zero, List.set_cons_succ]
              refine wpAnyH_take (i := 17) (v := ?_) rfl (by kernel_rfl) (by kernel_rfl) (by kernel_rfl) (fun _ _ _ h => h) (Or.inl ⟨by rfl, ?_⟩) hHeld ?_
              rotate_left
              · intro w' hSw
                go_simp
                try with_reducible rfl
              try simp only [List.getElem_toArray, List.getElem_cons_succ, List.getElem_cons_zero, Act.put, List.setIfInBounds_toArray, List.set_cons_zero, List.set_cons_succ]
              refine wpAnyH_ready (rs := [18]) (by kernel_rfl) (by simp) ?_
              refine AllReadyH.cons rfl (fun K hK => ?_) AllReadyH.nil
              go_simp
              refine hK.out _ _ ⟨(World.cell?_setCell_other _ _ _ _ (by simp)).trans u1, (World.cell?_setCell_other _ _ _ _ (by simp)).trans u2⟩ (fun _ => ?_)
              clear hK K
              try simp only [List.getElem_toArray, List.getElem_cons_succ, List.getElem_cons_zero, Act.put, List.setIfInBounds_toArray, List.set_cons_zero, List.set_cons_succ]
              refine wpAnyH_done (by kernel_rfl) ?_ _
              go_wp2
              go_roundw
              case rel =>
                exact ⟨n + 1, by omega, by go_num, es ++ [⟨⟨nm, ⟨k', n', t', l'⟩⟩, b4, c4⟩], _, drawing_next (x := ⟨k', n', t', l'⟩) (b4 := b4) (c4 := c4) h hG hD hk3 hk4 hce4 hb5 hgr5 hrow5 hsub1 hdA hx5 (by omega) hX hXl hDl hR0.out hCw⟩
              case measure => simp [intOf]; omega
            · go_simp
              refine hK.out _ _ ⟨((hal _).cell (p := ⟨X + 1, n * 3 + 1, none⟩) hX4').trans q1, ((hal _).cell (p := ⟨X + 1, n * 3 + 2, none⟩) hX4').trans q2⟩ (fun _ => ?_)
              clear hK K hHeld
              try simp only [List.getElem_toArray, List.getElem_cons_succ, List.getElem_cons_zero, Act.put, List.setIfInBounds_toArray, List.set_cons_zero, List.set_cons_succ]
              refine wpAnyH_ready (rs := [1]) (by kernel_rfl) (by simp) ?_
              refine AllReadyH.cons rfl (fun K hK => ?_) AllReadyH.nil
              have q0' := fun o => ((hal o).cell (p := ⟨X, 2, none⟩) hX4).trans q0
              go_simp
              refine hK.out _ _ ⟨((hal _).cell (p := ⟨X + 1, n * 3 + 1, none⟩) hX4').trans q1, ((hal _).cell (p := ⟨X + 1, n * 3 + 2, none⟩) hX4').trans q2⟩ (fun _ => ?_)
              clear hK K
              try simp only [List.getElem_toArray, List.getElem_cons_succ, List.getElem_cons_zero, Act.put, List.setIfInBounds_toArray, List.set_cons_zero, List.set_cons_succ]
              refine wpAnyH_ready (rs := [16]) (by kernel_rfl) (by simp) ?_
              refine AllReadyH.cons rfl (fun K hK => ?_) AllReadyH.nil
              refine step_grow eltA (by rfl) _ _ (by rfl) (hrow4.below (hal _)) (by rfl) [⟨⟨nm, ⟨k', n', t', l'⟩⟩, b4, c4⟩] ⟨w4.heap.size, 0, none⟩ 1 1 (by rfl) (by rfl) (news_one eltA ⟨⟨nm, ⟨k', n', t', l'⟩⟩, b4, c4⟩ w4) (fun e he => by obtain rfl := List.mem_singleton.1 he; exact hlp4.same (SameB.of_below (hal _))) (by decide) hlen2 (Nat.le_trans (Nat.le_trans hw2B hk4.size) (hal _).size) ?_
              intro g5 c5 w5 hrow5 hgr5 hlies5 hb5
              have hx5 := (hb5.block X hXl).trans (((hal _).block X hX4).trans hx4)
              have zf5 : ∀ i, w5.frozen? ⟨X, i, none⟩ = false := Lib.frozen_of_heap hx5
              have u0 := (hb5.cell (p := ⟨X, 2, none⟩) hXl).trans (((hal _).cell (p := ⟨X, 2, none⟩) hX4).trans q0)
              have u1 := (hb5.cell (p := ⟨X + 1, n * 3 + 1, none⟩) hDl).trans (((hal _).cell (p := ⟨X + 1, n * 3 + 1, none⟩) hX4').trans q1)
              have u2 := (hb5.cell (p := ⟨X + 1, n * 3 + 2, none⟩) hDl).trans (((hal _).cell (p := ⟨X + 1, n * 3 + 2, none⟩) hX4').trans q2)
              refine hK.out _ _ ⟨u1, u2⟩ (fun _ => ?_)
              clear hK K
              have hHeld : (fun w' => w'.cell? ⟨X + 1, n * 3 + 1, none⟩ = some (.string nm) ∧ w'.cell? ⟨X + 1, n * 3 + 2, none⟩ = some (.int .i64 ty)) w5 := ⟨u1, u2⟩
              try simp only [List.getElem_toArray, List.getElem_cons_succ, List.getElem_cons_zero, Act.put, List.setIfInBounds_toArray, List.set_cons_zero, List.set_cons_succ]
              refine wpAnyH_take (i := 17) (v := ?_) rfl (by kernel_rfl) (by kernel_rfl) (by kernel_rfl) (fun _ _ _ h => h) (Or.inl ⟨by rfl, ?_⟩) hHeld ?_
              rotate_left
              · intro w' hSw
                go_simp
                try with_reducible rfl
              try simp only [List.getElem_toArray, List.getElem_cons_succ, List.getElem_cons_zero, Act.put, List.setIfInBounds_toArray, List.set_cons_zero, List.set_cons_succ]
              refine wpAnyH_ready (rs := [18]) (by kernel_rfl) (by simp) ?_
              refine AllReadyH.cons rfl (fun K hK => ?_) AllReadyH.nil
              go_simp
              refine hK.out _ _ ⟨(World.cell?_setCell_other _ _ _ _ (by simp)).trans u1, (World.cell?_setCell_other _ _ _ _ (by simp)).trans u2⟩ (fun _ => ?_)
              clear hK K
              try simp only [List.getElem_toArray, List.getElem_cons_succ, List.getElem_cons_zero, Act.put, List.setIfInBounds_toArray, List.set_cons_zero, List.set_cons_succ]
              refine wpAnyH_done (by kernel_rfl) ?_ _
              go_wp2
              go_roundw
              case rel =>
                exact ⟨n + 1, by omega, by go_num, es ++ [⟨⟨nm, ⟨k', n', t', l'⟩⟩, b4, c4⟩], _, drawing_next (x := ⟨k', n', t', l'⟩) (b4 := b4) (c4 := c4) h hG hD hk3 hk4 hce4 hb5 hgr5 hrow5 hsub1 hdA hx5 (by omega) hX hXl hDl hR0.out hCw⟩
              case measure => simp [intOf]; omega
    · obtain rfl : n = 8 := by omega
      obtain ⟨vA, vC, rfl, hAt⟩ := hD.row.attrs
      obtain ⟨atz, hcz⟩ := hD.codes
      have hXw : X < wr.heap.size := Nat.lt_of_lt_of_le hXl hD.size
      have hbx := hD.box
      have hrs := hD.res
      have x0 : wr.cell? ⟨X, 0, none⟩ = some (.string kd) := by rw [Lib.cell_of_heap hbx]; rfl
      have x1 : wr.cell? ⟨X, 1, none⟩ = some (.string (keyOf d)) := by rw [Lib.cell_of_heap hbx]; rfl
      have x2 : wr.cell? ⟨X, 2, none⟩ = some (.slice vA (es.map AEl.a).length vC) := by rw [Lib.cell_of_heap hbx]; rfl
      have z0 : wr.cell? ⟨R0, 0, none⟩ = some (.string ⟨#[]⟩) := by rw [Lib.cell_of_heap hrs]; rfl
      have z1 : wr.cell? ⟨R0, 1, none⟩ = some (.string ⟨#[]⟩) := by rw [Lib.cell_of_heap hrs]; rfl
      have z2 : wr.cell? ⟨R0, 2, none⟩ = some (.slice none 0 0) := by rw [Lib.cell_of_heap hrs]; rfl
      have zf : ∀ i, wr.frozen? ⟨R0, i, none⟩ = false := Lib.frozen_of_heap hrs
      have hown := hD.row.lt
      have hAt2 := hAt.mono (Q := fun b => w2.heap.size ≤ b) (fun b _ hb => hb.elim id fun h => (hown b h).1)
      have hnms := hD.names
      have heach := hD.each
      have hkp := hD.kept
      clear hD hbx hrs
      go_wp2
      refine bodyPost_ret (v := .agg #[.string kd, .string (keyOf d), .slice vA (es.map AEl.a).length vC]) (by simp [results, Tryz.results30, go_sem, z0, z1, z2]) rfl ⟨⟨⟨kd, keyOf d, es.map AEl.a⟩, vA, vC, rfl, ⟨rfl, ⟨d, hd, rfl⟩, (by rw [List.map_map]; exact hnms), fun a ha => ?_⟩, ?_⟩, ?_, atz, ?_⟩
      · obtain ⟨e, he, rfl⟩ := List.mem_map.1 ha
        exact heach e he
      · have hn : ¬ (w2.heap.size ≤ w.heap.size) := by have := hR0.out; omega
        have hR := hR0.out
        subst hR
        refine (hAt2.same ((((SameB.refl _ wr).set hn 0 _).set hn 1 _).set hn 2 _)).mono fun b _ hb => ?_
        have : w2.heap.size ≤ b := hb
        omega
      · exact ((hkp.other' (by rw [hR0.out]; exact Nat.le_refl _) 0 _).other' (by rw [hR0.out]; exact Nat.le_refl _) 1 _).other' (by rw [hR0.out]; exact Nat.le_refl _) 2 _
      · exact h.other (h.other (h.other hcz (by rw [hR0.out]; exact Nat.le_refl _) 0 _) (by rw [hR0.out]; exact Nat.le_refl _) 1 _) (by rw [hR0.out]; exact Nat.le_refl _) 2 _
end Go.Proofs.YtcbnefeedoabeaaGreatDoor
/- Contract of the draw's Subject. -/
namespace Go.Proofs.YtcbnefeedoabeaaGreatDoor
open Go Go.RowKit

attribute [local go_sem ↓] Go.wp_at_zero Go.wp_at_succ
/-- What the draw of a subject holds: block S is its variable, R0 its result. -/
structure Subj (S R0 C : Nat) (l : List UInt8) (a0 : Option Addr) (cap : Nat) (w w2 : World) (es : List CEl) (v : Value) (wr : World) : Prop where
  row : GRow eltC (fun b => w2.heap.size ≤ b) es w2.heap.size v wr
  box : wr.heap[S]? = some (.cells #[v] 25 (0, 0))
  codes : ∃ at2, Codes l a0 cap C at2 wr
  draw : DrawG C wr
  kept : Kept C w wr
  res : wr.heap[R0]? = some (.cells #[.slice none 0 0] 25 (0, 0))
  size : w2.heap.size ≤ wr.heap.size
theorem subj_next {at_ : Nat} {S R0 C : Nat} {l : List UInt8} {a0 : Option Addr} {cap : Nat} {w w2 w3 w4 w5 : World} {es : List CEl} {v : Value} {x : Ctx} {b4 : Option Addr} {c4 g5 c5 : Nat}
    (h0 : Codes l a0 cap C at_ w) (hG : DrawG C w) (hD : Subj S R0 C l a0 cap w w2 es v w3) (hk4 : Kept C w3.drew w4) (hce4 : ∃ at2, Codes l a0 cap C at2 w4)
    (hb5 : Below w2.heap.size (w4.alloc (.cells (eltC.cells ⟨x, b4, c4⟩).toArray 63)) w5)
    (hrow5 : GRow eltC (fun b => w2.heap.size ≤ b) (es ++ [⟨x, b4, c4⟩]) w2.heap.size (.slice (some ⟨g5, 0, none⟩) (es.length + 1) c5) w5)
    (hx5 : w5.heap[S]? = some (.cells #[v] 25 (0, 0))) (hSR : R0 < S) (hS2 : S < w2.heap.size) (hR0 : w.heap.size = R0) (hCw : C < R0) :
    Subj S R0 C l a0 cap w w2 (es ++ [⟨x, b4, c4⟩]) (.slice (some ⟨g5, 0, none⟩) (es.length + 1) c5) (w5.setCell ⟨S, 0, none⟩ (.slice (some ⟨g5, 0, none⟩) (es.length + 1) c5)) := by
  have hal := (Below.refl w4.heap.size w4).alloc (Nat.le_refl _) (.cells (eltC.cells ⟨x, b4, c4⟩).toArray 63)
  have h34 : Kept C w3 w4 := (Kept.of_below (C := C) (Below.refl w3.heap.size w3).drew).trans hk4
  have h4a := h34.trans (Kept.of_below hal)
  have hs2 := hD.size
  have hals := hal.size
  have hs34 := h34.size
  have hsz5 := hb5.size
  obtain ⟨at2, hc⟩ := hce4
  have hc5 := h0.low (hc.below hal) hb5 (by omega)
  have hRne : w5.heap[R0]? = some (.cells #[.slice none 0 0] 25 (0, 0)) := (hb5.block R0 (by omega)).trans ((h4a.block R0 (by omega) (by omega)).trans hD.res)
  have hk5 : Kept C w w5 := (hD.kept.trans h4a).then_low hb5 (by omega)
  have hk6 := hk5.other' (X := S) (by omega) 0 (.slice (some ⟨g5, 0, none⟩) (es.length + 1) c5)
  refine ⟨hrow5.set hS2 (fun b hb => by omega) _ _, box_put hx5 _, ⟨at2, h0.other hc5 (by omega) _ _⟩, hG.kept hk6, hk6, ?_, by simp; omega⟩
  rw [Below.heap_setCell _ _ _ _ (by show R0 ≠ S; omega)]
  exact hRne
theorem subj_end {at_ : Nat} {S R0 C : Nat} {l : List UInt8} {a0 : Option Addr} {cap : Nat} {w w2 wr : World} {es : List CEl} {v : Value} (h0 : Codes l a0 cap C at_ w) (hD : Subj S R0 C l a0 cap w w2 es v wr) (hR0 : w.heap.size = R0) (hd : DrawnS (es.map CEl.x)) (hR2 : w.heap.size < w2.heap.size) :
    (∃ (es : List CEl) (u : Value), Ending.returned (.agg #[v]) = .returned (.agg #[u]) ∧ DrawnS (es.map CEl.x) ∧ GRow eltC (fun b => w.heap.size ≤ b) es w.heap.size u (wr.setCell ⟨R0, 0, none⟩ v)) ∧ Kept C w (wr.setCell ⟨R0, 0, none⟩ v) ∧ ∃ at2, Codes l a0 cap C at2 (wr.setCell ⟨R0, 0, none⟩ v) := by
  subst hR0
  obtain ⟨atz, hcz⟩ := hD.codes
  have hrow := hD.row.set (X := w.heap.size) hR2 (fun b hb => by omega) 0 v
  refine ⟨⟨es, v, rfl, hd, ⟨⟨hrow.own.1, ?_⟩, fun e he => eltC.mono (hrow.ok e he) fun b _ hb => ⟨by have := hb.1; omega, hb.2⟩⟩⟩, hD.kept.other' (Nat.le_refl _) 0 v, atz, h0.other hcz (Nat.le_refl _) 0 v⟩
  rcases hrow.own.2 with h1 | ⟨g, cp, cur, hv, hB, rest⟩
  · exact .inl h1
  · exact .inr ⟨g, cp, cur, hv, by omega, rest⟩
set_option linter.unusedSimpArgs false in
set_option linter.unusedVariables false in
set_option maxHeartbeats 16000000 in
set_option maxRecDepth 100000 in
theorem subject_any (l : List UInt8) (a0 : Option Addr) (cap C at_ : Nat) (w : World) (hl : l.length ≤ 1000000) (h : Codes l a0 cap C at_ w) (hG : DrawG C w) :
    Calls Tryz.prog 10 #[.pointer (some ⟨C, 0, none⟩)] w fun e w' => (∃ (es : List CEl) (v : Value) , e = .returned (.agg #[v]) ∧ DrawnS (es.map CEl.x) ∧ GRow eltC (fun b => w.heap.size ≤ b) es w.heap.size v w') ∧ Kept C w w' ∧ ∃ at2, Codes l a0 cap C at2 w' := by
  have hbA := (Below.refl w.heap.size w).alloc (Nat.le_refl _) (.cells #[.slice none 0 0] 25)
  have hbB := hbA.alloc hbA.size (.cells #[.slice none 0 0] 25)
  have hCw := h.lt
  have hkB : Kept C w ((w.alloc (.cells #[.slice none 0 0] 25)).alloc (.cells #[.slice none 0 0] 25)) := Kept.of_below hbB
  have hzR : ((w.alloc (.cells #[.slice none 0 0] 25)).alloc (.cells #[.slice none 0 0] 25)).heap[w.heap.size]? = some (.cells #[.slice none 0 0] 25 (0, 0)) := (Lib.alloc_old _ _ _ (by simp)).trans (heap_alloc_new w _)
  have hzS : ((w.alloc (.cells #[.slice none 0 0] 25)).alloc (.cells #[.slice none 0 0] 25)).heap[w.heap.size + 1]? = some (.cells #[.slice none 0 0] 25 (0, 0)) := by
    have := heap_alloc_new (w.alloc (.cells #[.slice none 0 0] 25)) (.cells #[.slice none 0 0] 25)
    simpa using this
  have hnx := next_any l a0 cap C at_ 6 _ hl (by omega) (by omega) (h.below hbB)
  have hr := nextN_lt l at_ 6 (by omega)
  obtain ⟨r, hr0, hr1, hr2⟩ : ∃ r : Int, ((nextN l at_ 6 : Nat) : Int) = r ∧ 0 ≤ r ∧ r < 6 := ⟨_, rfl, by omega, by omega⟩
  rw [hr0] at hnx
  clear hr0 hr
  replace hnx := Lib.hid hnx
  go_enter Tryz.func10, Tryz.ntmps10
  go_upto_region 3 with (go_at_call 15; refine hnx.out.mono ?_; rintro e w3 ⟨rfl, hk3, hc3⟩)
  have hst : Subj (w.heap.size + 1) w.heap.size C l a0 cap w w3 [] (.slice none 0 0) w3 :=
    ⟨GRow.nil _ _ _ _, (hk3.block _ (by simp) (by omega)).trans hzS, hc3, hG.kept (hkB.trans hk3), hkB.trans hk3, (hk3.block _ (by simp; omega) (by omega)).trans hzR, Nat.le_refl _⟩
  have hS2 : w.heap.size + 1 < w3.heap.size := by have := hk3.size; simp at this; omega
  have hSR : w.heap.size < w.heap.size + 1 := by omega
  clear hk3 hc3 hnx hzS hzR hkB hbA hbB
  obtain ⟨R0, hR0⟩ : ∃ R0, w.heap.size = R0 := ⟨_, rfl⟩
  rw [hR0] at hst hS2 hSR hCw ⊢
  replace hR0 := Lib.hid hR0
  obtain ⟨S, hSe⟩ : ∃ S, R0 + 1 = S := ⟨_, rfl⟩
  rw [hSe] at hst hS2 hSR ⊢
  replace hSe := Lib.hid hSe
  have hrr : r = 0 ∨ r = 1 ∨ r = 2 ∨ r = 3 ∨ r = 4 ∨ r = 5 := by omega
  clear hr1 hr2
  generalize w3 = w2 at hst hS2 ⊢
  rcases hrr with rfl | rfl | rfl | rfl | rfl | rfl
  · go_upto_region 6 with (fail)
    have hD0 := hst
    obtain ⟨atv, hcv⟩ := hD0.codes
    have hdr := (Below.refl w2.heap.size w2).drew
    have hctx := Lib.hid (context_any usrB (by decide) l a0 cap C atv w2.drew hl (hcv.below hdr) (hD0.draw.kept (Kept.of_below hdr)))
    skip
    have hrow3 := hD0.row.below hdr
    have hown3 := hrow3.lt
    have hw2V := hD0.size
    have hSV : S < w2.heap.size := Nat.lt_of_lt_of_le hS2 hw2V
    have hSC : S ≠ C := by omega
    have s0 : w2.cell? ⟨S, 0, none⟩ = some (Value.slice none 0 0) := by rw [Lib.cell_of_heap hD0.box]; rfl
    have s0' : w2.drew.cell? ⟨S, 0, none⟩ = some (Value.slice none 0 0) := s0
    have hlen2 : ([] : List CEl).length + 1 ≤ 1000 := by decide
    refine wp_region_held_drew (S := fun _ => True) (by kernel_rfl) (trivial) (fun hHeld => ?_)
    refine wpAnyH_take (i := 0) (v := ?_) rfl (by kernel_rfl) (by kernel_rfl) (by kernel_rfl) (fun _ _ _ h => h) (Or.inl ⟨by rfl, ?_⟩) hHeld ?_
    rotate_left
    · intro w' hSw
      go_simp
      try with_reducible rfl
    try simp only [List.getElem_toArray, List.getElem_cons_succ, List.getElem_cons_zero, Act.put, List.setIfInBounds_toArray, List.set_cons_zero, List.set_cons_succ]
    refine wpAnyH_take (i := 2) (v := ?_) rfl (by kernel_rfl) (by kernel_rfl) (by kernel_rfl) (fun _ _ _ h => h) (Or.inl ⟨by rfl, ?_⟩) hHeld ?_
    rotate_left
    · intro w' hSw
      go_simp
      try with_reducible rfl
    try simp only [List.getElem_toArray, List.getElem_cons_succ, List.getElem_cons_zero, Act.put, List.setIfInBounds_toArray, List.set_cons_zero, List.set_cons_succ]
    refine wpAnyH_ready (rs := [1, 3]) (by kernel_rfl) (by simp) ?_
    refine AllReadyH.cons rfl (fun K hK => ?_) (AllReadyH.cons rfl (fun K hK => ?_) AllReadyH.nil)
    · go_simp
      refine hK.out _ _ trivial (fun _ => ?_)
      clear hK K
      try simp only [List.getElem_toArray, List.getElem_cons_succ, List.getElem_cons_zero, Act.put, List.setIfInBounds_toArray, List.set_cons_zero, List.set_cons_succ]
      refine wpAnyH_ready (rs := [3]) (by kernel_rfl) (by simp) ?_
      refine AllReadyH.cons rfl (fun K hK => ?_) AllReadyH.nil
      go_simp
      go_at_call 30
      refine hctx.out.mono ?_
      rintro e w4 ⟨⟨⟨xk, xy, xa⟩, b4, c4, rfl, hdc4, hat4⟩, hk4, hce4⟩
      simp only []
      have q0 := (hk4.cell (p := ⟨S, 0, none⟩) hSV hSC).trans s0
      have hx4 := (hk4.block S hSV hSC).trans hD0.box
      have hS4 := Nat.lt_of_lt_of_le hSV hk4.size
      refine hK.out _ _ trivial (fun _ => ?_)
      clear hK K
      try simp only [List.getElem_toArray, List.getElem_cons_succ, List.getElem_cons_zero, Act.put, List.setIfInBounds_toArray, List.set_cons_zero, List.set_cons_succ]
      have hal := fun o => (Below.refl w4.heap.size w4).alloc (Nat.le_refl _) o
      have hrow4 := hrow3.kept hk4 (by omega) (fun b hb => by omega)
      have hok4 := hat4.mono (Q := fun b => w2.heap.size ≤ b ∧ (Value.slice none 0 0).ownBlock ≠ some b) (fun b _ hb => ⟨Nat.le_trans hw2V hb, fun e => by have := (hown3 b e).2; simp at this hb; omega⟩)
      refine wpAnyH_ready (rs := [4]) (by kernel_rfl) (by simp) ?_
      refine AllReadyH.cons rfl (fun K hK => ?_) AllReadyH.nil
      go_simp
      refine hK.out _ _ trivial (fun _ => ?_)
      clear hK K
      try simp only [List.getElem_toArray, List.getElem_cons_succ, List.getElem_cons_zero, Act.put, List.setIfInBounds_toArray, List.set_cons_zero, List.set_cons_succ]
      refine wpAnyH_ready (rs := [5]) (by kernel_rfl) (by simp) ?_
      refine AllReadyH.cons rfl (fun K hK => ?_) AllReadyH.nil
      refine step_grow eltC (by rfl) _ _ (by rfl) (hrow4.below (hal _)) (by rfl) [⟨⟨xk, xy, xa⟩, b4, c4⟩] ⟨w4.heap.size, 0, none⟩ 1 1 (by rfl) (by rfl) (news_one eltC ⟨⟨xk, xy, xa⟩, b4, c4⟩ w4) (fun e he => by obtain rfl := List.mem_singleton.1 he; exact hok4.same (SameB.of_below (hal _))) (by decide) hlen2 (Nat.le_trans (Nat.le_trans hw2V hk4.size) (hal _).size) ?_
      intro g5 c5 w5 hrow5 hgr5 hlies5 hb5
      have hx5 := (hb5.block S hS2).trans (((hal _).block S hS4).trans hx4)
      have zf5 : ∀ i, w5.frozen? ⟨S, i, none⟩ = false := Lib.frozen_of_heap hx5
      have u0 := (hb5.cell (p := ⟨S, 0, none⟩) hS2).trans (((hal _).cell (p := ⟨S, 0, none⟩) hS4).trans q0)
      refine hK.out _ _ trivial (fun _ => ?_)
      clear hK K
      try simp only [List.getElem_toArray, List.getElem_cons_succ, List.getElem_cons_zero, Act.put, List.setIfInBounds_toArray, List.set_cons_zero, List.set_cons_succ]
      refine wpAnyH_take (i := 6) (v := ?_) rfl (by kernel_rfl) (by kernel_rfl) (by kernel_rfl) (fun _ _ _ h => h) (Or.inl ⟨by rfl, ?_⟩) hHeld ?_
      rotate_left
      · intro w' hSw
        go_simp
        try with_reducible rfl
      try simp only [List.getElem_toArray, List.getElem_cons_succ, List.getElem_cons_zero, Act.put, List.setIfInBounds_toArray, List.set_cons_zero, List.set_cons_succ]
      refine wpAnyH_ready (rs := [7]) (by kernel_rfl) (by simp) ?_
      refine AllReadyH.cons rfl (fun K hK => ?_) AllReadyH.nil
      go_simp
      refine hK.out _ _ trivial (fun _ => ?_)
      clear hK K
      try simp only [List.getElem_toArray, List.getElem_cons_succ, List.getElem_cons_zero, Act.put, List.setIfInBounds_toArray, List.set_cons_zero, List.set_cons_succ]
      refine wpAnyH_done (by kernel_rfl) ?_ _
      have hD5 := subj_next (x := ⟨xk, xy, xa⟩) (b4 := b4) (c4 := c4) h hG hD0 hk4 hce4 hb5 hrow5 hx5 hSR hS2 hR0.out hCw
      simp only [List.nil_append, List.length_nil, Nat.zero_add] at hD5
      have hF := hD5
      have hbx := hF.box
      have hrs := hF.res
      have x0 : (w5.setCell ⟨S, 0, none⟩ (.slice (some ⟨g5, 0, none⟩) 1 c5)).cell? ⟨S, 0, none⟩ = some (.slice (some ⟨g5, 0, none⟩) 1 c5) := by rw [Lib.cell_of_heap hbx]; rfl
      have z0 : (w5.setCell ⟨S, 0, none⟩ (.slice (some ⟨g5, 0, none⟩) 1 c5)).cell? ⟨R0, 0, none⟩ = some (.slice none 0 0) := by rw [Lib.cell_of_heap hrs]; rfl
      have zf : ∀ i, (w5.setCell ⟨S, 0, none⟩ (.slice (some ⟨g5, 0, none⟩) 1 c5)).frozen? ⟨R0, i, none⟩ = false := Lib.frozen_of_heap hrs
      clear hbx hrs
      go_wp2
      refine bodyPost_ret (v := .agg #[.slice (some ⟨g5, 0, none⟩) 1 c5]) (by simp [results, Tryz.results10, go_sem, z0]) rfl (subj_end h hF hR0.out (Or.inr (Or.inr (Or.inl ⟨_, rfl, hdc4⟩))) (by rw [hR0.out]; omega))
    · go_simp
      go_at_call 30
      refine hctx.out.mono ?_
      rintro e w4 ⟨⟨⟨xk, xy, xa⟩, b4, c4, rfl, hdc4, hat4⟩, hk4, hce4⟩
      simp only []
      have q0 := (hk4.cell (p := ⟨S, 0, none⟩) hSV hSC).trans s0
      have hx4 := (hk4.block S hSV hSC).trans hD0.box
      have hS4 := Nat.lt_of_lt_of_le hSV hk4.size
      refine hK.out _ _ trivial (fun _ => ?_)
      clear hK K
      try simp only [List.getElem_toArray, List.getElem_cons_succ, List.getElem_cons_zero, Act.put, List.setIfInBounds_toArray, List.set_cons_zero, List.set_cons_succ]
      have hal := fun o => (Below.refl w4.heap.size w4).alloc (Nat.le_refl _) o
      have hrow4 := hrow3.kept hk4 (by omega) (fun b hb => by omega)
      have hok4 := hat4.mono (Q := fun b => w2.heap.size ≤ b ∧ (Value.slice none 0 0).ownBlock ≠ some b) (fun b _ hb => ⟨Nat.le_trans hw2V hb, fun e => by have := (hown3 b e).2; simp at this hb; omega⟩)
      refine wpAnyH_ready (rs := [1, 4]) (by kernel_rfl) (by simp) ?_
      refine AllReadyH.cons rfl (fun K hK => ?_) (AllReadyH.cons rfl (fun K hK => ?_) AllReadyH.nil)
      · go_simp
        refine hK.out _ _ trivial (fun _ => ?_)
        clear hK K
        try simp only [List.getElem_toArray, List.getElem_cons_succ, List.getElem_cons_zero, Act.put, List.setIfInBounds_toArray, List.set_cons_zero, List.set_cons_succ]
        refine wpAnyH_ready (rs := [4]) (by kernel_rfl) (by simp) ?_
        refine AllReadyH.cons rfl (fun K hK => ?_) AllReadyH.nil
        go_simp
        refine hK.out _ _ trivial (fun _ => ?_)
        clear hK K
        try simp only [List.getElem_toArray, List.getElem_cons_succ, List.getElem_cons_zero, Act.put, List.setIfInBounds_toArray, List.set_cons_zero, List.set_cons_succ]
        refine wpAnyH_ready (rs := [5]) (by kernel_rfl) (by simp) ?_
        refine AllReadyH.cons rfl (fun K hK => ?_) AllReadyH.nil
        refine step_grow eltC (by rfl) _ _ (by rfl) (hrow4.below (hal _)) (by rfl) [⟨⟨xk, xy, xa⟩, b4, c4⟩] ⟨w4.heap.size, 0, none⟩ 1 1 (by rfl) (by rfl) (news_one eltC ⟨⟨xk, xy, xa⟩, b4, c4⟩ w4) (fun e he => by obtain rfl := List.mem_singleton.1 he; exact hok4.same (SameB.of_below (hal _))) (by decide) hlen2 (Nat.le_trans (Nat.le_trans hw2V hk4.size) (hal _).size) ?_
        intro g5 c5 w5 hrow5 hgr5 hlies5 hb5
        have hx5 := (hb5.block S hS2).trans (((hal _).block S hS4).trans hx4)
        have zf5 : ∀ i, w5.frozen? ⟨S, i, none⟩ = false := Lib.frozen_of_heap hx5
        have u0 := (hb5.cell (p := ⟨S, 0, none⟩) hS2).trans (((hal _).cell (p := ⟨S, 0, none⟩) hS4).trans q0)
        refine hK.out _ _ trivial (fun _ => ?_)
        clear hK K
        try simp only [List.getElem_toArray, List.getElem_cons_succ, List.getElem_cons_zero, Act.put, List.setIfInBounds_toArray, List.set_cons_zero, List.set_cons_succ]
        refine wpAnyH_take (i := 6) (v := ?_) rfl (by kernel_rfl) (by kernel_rfl) (by kernel_rfl) (fun _ _ _ h => h) (Or.inl ⟨by rfl, ?_⟩) hHeld ?_
        rotate_left
        · intro w' hSw
          go_simp
          try with_reducible rfl
        try simp only [List.getElem_toArray, List.getElem_cons_succ, List.getElem_cons_zero, Act.put, List.setIfInBounds_toArray, List.set_cons_zero, List.set_cons_succ]
        refine wpAnyH_ready (rs := [7]) (by kernel_rfl) (by simp) ?_
        refine AllReadyH.cons rfl (fun K hK => ?_) AllReadyH.nil
        go_simp
        refine hK.out _ _ trivial (fun _ => ?_)
        clear hK K
        try simp only [List.getElem_toArray, List.getElem_cons_succ, List.getElem_cons_zero, Act.put, List.setIfInBounds_toArray, List.set_cons_zero, List.set_cons_succ]
        refine wpAnyH_done (by kernel_rfl) ?_ _
        have hD5 := subj_next (x := ⟨xk, xy, xa⟩) (b4 := b4) (c4 := c4) h hG hD0 hk4 hce4 hb5 hrow5 hx5 hSR hS2 hR0.out hCw
        simp only [List.nil_append, List.length_nil, Nat.zero_add] at hD5
        have hF := hD5
        have hbx := hF.box
        have hrs := hF.res
        have x0 : (w5.setCell ⟨S, 0, none⟩ (.slice (some ⟨g5, 0, none⟩) 1 c5)).cell? ⟨S, 0, none⟩ = some (.slice (some ⟨g5, 0, none⟩) 1 c5) := by rw [Lib.cell_of_heap hbx]; rfl
        have z0 : (w5.setCell ⟨S, 0, none⟩ (.slice (some ⟨g5, 0, none⟩) 1 c5)).cell? ⟨R0, 0, none⟩ = some (.slice none 0 0) := by rw [Lib.cell_of_heap hrs]; rfl
        have zf : ∀ i, (w5.setCell ⟨S, 0, none⟩ (.slice (some ⟨g5, 0, none⟩) 1 c5)).frozen? ⟨R0, i, none⟩ = false := Lib.frozen_of_heap hrs
        clear hbx hrs
        go_wp2
        refine bodyPost_ret (v := .agg #[.slice (some ⟨g5, 0, none⟩) 1 c5]) (by simp [results, Tryz.results10, go_sem, z0]) rfl (subj_end h hF hR0.out (Or.inr (Or.inr (Or.inl ⟨_, rfl, hdc4⟩))) (by rw [hR0.out]; omega))
      · go_simp
        refine hK.out _ _ trivial (fun _ => ?_)
        clear hK K
        try simp only [List.getElem_toArray, List.getElem_cons_succ, List.getElem_cons_zero, Act.put, List.setIfInBounds_toArray, List.set_cons_zero, List.set_cons_succ]
        refine wpAnyH_ready (rs := [1]) (by kernel_rfl) (by simp) ?_
        refine AllReadyH.cons rfl (fun K hK => ?_) AllReadyH.nil
        have q0' := fun o => ((hal o).cell (p := ⟨S, 0, none⟩) hS4).trans q0
        go_simp
        refine hK.out _ _ trivial (fun _ => ?_)
        clear hK K
        try simp only [List.getElem_toArray, List.getElem_cons_succ, List.getElem_cons_zero, Act.put, List.setIfInBounds_toArray, List.set_cons_zero, List.set_cons_succ]
        refine wpAnyH_ready (rs := [5]) (by kernel_rfl) (by simp) ?_
        refine AllReadyH.cons rfl (fun K hK => ?_) AllReadyH.nil
        refine step_grow eltC (by rfl) _ _ (by rfl) (hrow4.below (hal _)) (by rfl) [⟨⟨xk, xy, xa⟩, b4, c4⟩] ⟨w4.heap.size, 0, none⟩ 1 1 (by rfl) (by rfl) (news_one eltC ⟨⟨xk, xy, xa⟩, b4, c4⟩ w4) (fun e he => by obtain rfl := List.mem_singleton.1 he; exact hok4.same (SameB.of_below (hal _))) (by decide) hlen2 (Nat.le_trans (Nat.le_trans hw2V hk4.size) (hal _).size) ?_
        intro g5 c5 w5 hrow5 hgr5 hlies5 hb5
        have hx5 := (hb5.block S hS2).trans (((hal _).block S hS4).trans hx4)
        have zf5 : ∀ i, w5.frozen? ⟨S, i, none⟩ = false := Lib.frozen_of_heap hx5
        have u0 := (hb5.cell (p := ⟨S, 0, none⟩) hS2).trans (((hal _).cell (p := ⟨S, 0, none⟩) hS4).trans q0)
        refine hK.out _ _ trivial (fun _ => ?_)
        clear hK K
        try simp only [List.getElem_toArray, List.getElem_cons_succ, List.getElem_cons_zero, Act.put, List.setIfInBounds_toArray, List.set_cons_zero, List.set_cons_succ]
        refine wpAnyH_take (i := 6) (v := ?_) rfl (by kernel_rfl) (by kernel_rfl) (by kernel_rfl) (fun _ _ _ h => h) (Or.inl ⟨by rfl, ?_⟩) hHeld ?_
        rotate_left
        · intro w' hSw
          go_simp
          try with_reducible rfl
        try simp only [List.getElem_toArray, List.getElem_cons_succ, List.getElem_cons_zero, Act.put, List.setIfInBounds_toArray, List.set_cons_zero, List.set_cons_succ]
        refine wpAnyH_ready (rs := [7]) (by kernel_rfl) (by simp) ?_
        refine AllReadyH.cons rfl (fun K hK => ?_) AllReadyH.nil
        go_simp
        refine hK.out _ _ trivial (fun _ => ?_)
        clear hK K
        try simp only [List.getElem_toArray, List.getElem_cons_succ, List.getElem_cons_zero, Act.put, List.setIfInBounds_toArray, List.set_cons_zero, List.set_cons_succ]
        refine wpAnyH_done (by kernel_rfl) ?_ _
        have hD5 := subj_next (x := ⟨xk, xy, xa⟩) (b4 := b4) (c4 := c4) h hG hD0 hk4 hce4 hb5 hrow5 hx5 hSR hS2 hR0.out hCw
        simp only [List.nil_append, List.length_nil, Nat.zero_add] at hD5
        have hF := hD5
        have hbx := hF.box
        have hrs := hF.res
        have x0 : (w5.setCell ⟨S, 0, none⟩ (.slice (some ⟨g5, 0, none⟩) 1 c5)).cell? ⟨S, 0, none⟩ = some (.slice (some ⟨g5, 0, none⟩) 1 c5) := by rw [Lib.cell_of_heap hbx]; rfl
        have z0 : (w5.setCell ⟨S, 0, none⟩ (.slice (some ⟨g5, 0, none⟩) 1 c5)).cell? ⟨R0, 0, none⟩ = some (.slice none 0 0) := by rw [Lib.cell_of_heap hrs]; rfl
        have zf : ∀ i, (w5.setCell ⟨S, 0, none⟩ (.slice (some ⟨g5, 0, none⟩) 1 c5)).frozen? ⟨R0, i, none⟩ = false := Lib.frozen_of_heap hrs
        clear hbx hrs
        go_wp2
        refine bodyPost_ret (v := .agg #[.slice (some ⟨g5, 0, none⟩) 1 c5]) (by simp [results, Tryz.results10, go_sem, z0]) rfl (subj_end h hF hR0.out (Or.inr (Or.inr (Or.inl ⟨_, rfl, hdc4⟩))) (by rw [hR0.out]; omega))
  · go_upto_region 4 with (fail)
    have hD0 := hst
    obtain ⟨atv, hcv⟩ := hD0.codes
    have hdr := (Below.refl w2.heap.size w2).drew
    have hctx := Lib.hid (context_any devB (by decide) l a0 cap C atv w2.drew hl (hcv.below hdr) (hD0.draw.kept (Kept.of_below hdr)))
    skip
    have hrow3 := hD0.row.below hdr
    have hown3 := hrow3.lt
    have hw2V := hD0.size
    have hSV : S < w2.heap.size := Nat.lt_of_lt_of_le hS2 hw2V
    have hSC : S ≠ C := by omega
    have s0 : w2.cell? ⟨S, 0, none⟩ = some (Value.slice none 0 0) := by rw [Lib.cell_of_heap hD0.box]; rfl
    have s0' : w2.drew.cell? ⟨S, 0, none⟩ = some (Value.slice none 0 0) := s0
    have hlen2 : ([] : List CEl).length + 1 ≤ 1000 := by decide
    refine wp_region_held_drew (S := fun _ => True) (by kernel_rfl) (trivial) (fun hHeld => ?_)
    refine wpAnyH_take (i := 0) (v := ?_) rfl (by kernel_rfl) (by kernel_rfl) (by kernel_rfl) (fun _ _ _ h => h) (Or.inl ⟨by rfl, ?_⟩) hHeld ?_
    rotate_left
    · intro w' hSw
      go_simp
      try with_reducible rfl
    try simp only [List.getElem_toArray, List.getElem_cons_succ, List.getElem_cons_zero, Act.put, List.setIfInBounds_toArray, List.set_cons_zero, List.set_cons_succ]
    refine wpAnyH_take (i := 2) (v := ?_) rfl (by kernel_rfl) (by kernel_rfl) (by kernel_rfl) (fun _ _ _ h => h) (Or.inl ⟨by rfl, ?_⟩) hHeld ?_
    rotate_left
    · intro w' hSw
      go_simp
      try with_reducible rfl
    try simp only [List.getElem_toArray, List.getElem_cons_succ, List.getElem_cons_zero, Act.put, List.setIfInBounds_toArray, List.set_cons_zero, List.set_cons_succ]
    refine wpAnyH_ready (rs := [1, 3]) (by kernel_rfl) (by simp) ?_
    refine AllReadyH.cons rfl (fun K hK => ?_) (AllReadyH.cons rfl (fun K hK => ?_) AllReadyH.nil)
    · go_simp
      refine hK.out _ _ trivial (fun _ => ?_)
      clear hK K
      try simp only [List.getElem_toArray, List.getElem_cons_succ, List.getElem_cons_zero, Act.put, List.setIfInBounds_toArray, List.set_cons_zero, List.set_cons_succ]
      refine wpAnyH_ready (rs := [3]) (by kernel_rfl) (by simp) ?_
      refine AllReadyH.cons rfl (fun K hK => ?_) AllReadyH.nil
      go_simp
      go_at_call 30
      refine hctx.out.mono ?_
      rintro e w4 ⟨⟨⟨xk, xy, xa⟩, b4, c4, rfl, hdc4, hat4⟩, hk4, hce4⟩
      simp only []
      have q0 := (hk4.cell (p := ⟨S, 0, none⟩) hSV hSC).trans s0
      have hx4 := (hk4.block S hSV hSC).trans hD0.box
      have hS4 := Nat.lt_of_lt_of_le hSV hk4.size
      refine hK.out _ _ trivial (fun _ => ?_)
      clear hK K
      try simp only [List.getElem_toArray, List.getElem_cons_succ, List.getElem_cons_zero, Act.put, List.setIfInBounds_toArray, List.set_cons_zero, List.set_cons_succ]
      have hal := fun o => (Below.refl w4.heap.size w4).alloc (Nat.le_refl _) o
      have hrow4 := hrow3.kept hk4 (by omega) (fun b hb => by omega)
      have hok4 := hat4.mono (Q := fun b => w2.heap.size ≤ b ∧ (Value.slice none 0 0).ownBlock ≠ some b) (fun b _ hb => ⟨Nat.le_trans hw2V hb, fun e => by have := (hown3 b e).2; simp at this hb; omega⟩)
      refine wpAnyH_ready (rs := [4]) (by kernel_rfl) (by simp) ?_
      refine AllReadyH.cons rfl (fun K hK => ?_) AllReadyH.nil
      go_simp
      refine hK.out _ _ trivial (fun _ => ?_)
      clear hK K
      try simp only [List.getElem_toArray, List.getElem_cons_succ, List.getElem_cons_zero, Act.put, List.setIfInBounds_toArray, List.set_cons_zero, List.set_cons_succ]
      refine wpAnyH_ready (rs := [5]) (by kernel_rfl) (by simp) ?_
      refine AllReadyH.cons rfl (fun K hK => ?_) AllReadyH.nil
      refine step_grow eltC (by rfl) _ _ (by rfl) (hrow4.below (hal _)) (by rfl) [⟨⟨xk, xy, xa⟩, b4, c4⟩] ⟨w4.heap.size, 0, none⟩ 1 1 (by rfl) (by rfl) (news_one eltC ⟨⟨xk, xy, xa⟩, b4, c4⟩ w4) (fun e he => by obtain rfl := List.mem_singleton.1 he; exact hok4.same (SameB.of_below (hal _))) (by decide) hlen2 (Nat.le_trans (Nat.le_trans hw2V hk4.size) (hal _).size) ?_
      intro g5 c5 w5 hrow5 hgr5 hlies5 hb5
      have hx5 := (hb5.block S hS2).trans (((hal _).block S hS4).trans hx4)
      have zf5 : ∀ i, w5.frozen? ⟨S, i, none⟩ = false := Lib.frozen_of_heap hx5
      have u0 := (hb5.cell (p := ⟨S, 0, none⟩) hS2).trans (((hal _).cell (p := ⟨S, 0, none⟩) hS4).trans q0)
      refine hK.out _ _ trivial (fun _ => ?_)
      clear hK K
      try simp only [List.getElem_toArray, List.getElem_cons_succ, List.getElem_cons_zero, Act.put, List.setIfInBounds_toArray, List.set_cons_zero, List.set_cons_succ]
      refine wpAnyH_take (i := 6) (v := ?_) rfl (by kernel_rfl) (by kernel_rfl) (by kernel_rfl) (fun _ _ _ h => h) (Or.inl ⟨by rfl, ?_⟩) hHeld ?_
      rotate_left
      · intro w' hSw
        go_simp
        try with_reducible rfl
      try simp only [List.getElem_toArray, List.getElem_cons_succ, List.getElem_cons_zero, Act.put, List.setIfInBounds_toArray, List.set_cons_zero, List.set_cons_succ]
      refine wpAnyH_ready (rs := [7]) (by kernel_rfl) (by simp) ?_
      refine AllReadyH.cons rfl (fun K hK => ?_) AllReadyH.nil
      go_simp
      refine hK.out _ _ trivial (fun _ => ?_)
      clear hK K
      try simp only [List.getElem_toArray, List.getElem_cons_succ, List.getElem_cons_zero, Act.put, List.setIfInBounds_toArray, List.set_cons_zero, List.set_cons_succ]
      refine wpAnyH_done (by kernel_rfl) ?_ _
      have hD5 := subj_next (x := ⟨xk, xy, xa⟩) (b4 := b4) (c4 := c4) h hG hD0 hk4 hce4 hb5 hrow5 hx5 hSR hS2 hR0.out hCw
      simp only [List.nil_append, List.length_nil, Nat.zero_add] at hD5
      have hF := hD5
      have hbx := hF.box
      have hrs := hF.res
      have x0 : (w5.setCell ⟨S, 0, none⟩ (.slice (some ⟨g5, 0, none⟩) 1 c5)).cell? ⟨S, 0, none⟩ = some (.slice (some ⟨g5, 0, none⟩) 1 c5) := by rw [Lib.cell_of_heap hbx]; rfl
      have z0 : (w5.setCell ⟨S, 0, none⟩ (.slice (some ⟨g5, 0, none⟩) 1 c5)).cell? ⟨R0, 0, none⟩ = some (.slice none 0 0) := by rw [Lib.cell_of_heap hrs]; rfl
      have zf : ∀ i, (w5.setCell ⟨S, 0, none⟩ (.slice (some ⟨g5, 0, none⟩) 1 c5)).frozen? ⟨R0, i, none⟩ = false := Lib.frozen_of_heap hrs
      clear hbx hrs
      go_wp2
      refine bodyPost_ret (v := .agg #[.slice (some ⟨g5, 0, none⟩) 1 c5]) (by simp [results, Tryz.results10, go_sem, z0]) rfl (subj_end h hF hR0.out (Or.inr (Or.inl ⟨_, rfl, hdc4⟩)) (by rw [hR0.out]; omega))
    · go_simp
      go_at_call 30
      refine hctx.out.mono ?_
      rintro e w4 ⟨⟨⟨xk, xy, xa⟩, b4, c4, rfl, hdc4, hat4⟩, hk4, hce4⟩
      simp only []
      have q0 := (hk4.cell (p := ⟨S, 0, none⟩) hSV hSC).trans s0
      have hx4 := (hk4.block S hSV hSC).trans hD0.box
      have hS4 := Nat.lt_of_lt_of_le hSV hk4.size
      refine hK.out _ _ trivial (fun _ => ?_)
      clear hK K
      try simp only [List.getElem_toArray, List.getElem_cons_succ, List.getElem_cons_zero, Act.put, List.setIfInBounds_toArray, List.set_cons_zero, List.set_cons_succ]
      have hal := fun o => (Below.refl w4.heap.size w4).alloc (Nat.le_refl _) o
      have hrow4 := hrow3.kept hk4 (by omega) (fun b hb => by omega)
      have hok4 := hat4.mono (Q := fun b => w2.heap.size ≤ b ∧ (Value.slice none 0 0).ownBlock ≠ some b) (fun b _ hb => ⟨Nat.le_trans hw2V hb, fun e => by have := (hown3 b e).2; simp at this hb; omega⟩)
      refine wpAnyH_ready (rs := [1, 4]) (by kernel_rfl) (by simp) ?_
      refine AllReadyH.cons rfl (fun K hK => ?_) (AllReadyH.cons rfl (fun K hK => ?_) AllReadyH.nil)
      · go_simp
        refine hK.out _ _ trivial (fun _ => ?_)
        clear hK K
        try simp only [List.getElem_toArray, List.getElem_cons_succ, List.getElem_cons_zero, Act.put, List.setIfInBounds_toArray, List.set_cons_zero, List.set_cons_succ]
        refine wpAnyH_ready (rs := [4]) (by kernel_rfl) (by simp) ?_
        refine AllReadyH.cons rfl (fun K hK => ?_) AllReadyH.nil
        go_simp
        refine hK.out _ _ trivial (fun _ => ?_)
        clear hK K
        try simp only [List.getElem_toArray, List.getElem_cons_succ, List.getElem_cons_zero, Act.put, List.setIfInBounds_toArray, List.set_cons_zero, List.set_cons_succ]
        refine wpAnyH_ready (rs := [5]) (by kernel_rfl) (by simp) ?_
        refine AllReadyH.cons rfl (fun K hK => ?_) AllReadyH.nil
        refine step_grow eltC (by rfl) _ _ (by rfl) (hrow4.below (hal _)) (by rfl) [⟨⟨xk, xy, xa⟩, b4, c4⟩] ⟨w4.heap.size, 0, none⟩ 1 1 (by rfl) (by rfl) (news_one eltC ⟨⟨xk, xy, xa⟩, b4, c4⟩ w4) (fun e he => by obtain rfl := List.mem_singleton.1 he; exact hok4.same (SameB.of_below (hal _))) (by decide) hlen2 (Nat.le_trans (Nat.le_trans hw2V hk4.size) (hal _).size) ?_
        intro g5 c5 w5 hrow5 hgr5 hlies5 hb5
        have hx5 := (hb5.block S hS2).trans (((hal _).block S hS4).trans hx4)
        have zf5 : ∀ i, w5.frozen? ⟨S, i, none⟩ = false := Lib.frozen_of_heap hx5
        have u0 := (hb5.cell (p := ⟨S, 0, none⟩) hS2).trans (((hal _).cell (p := ⟨S, 0, none⟩) hS4).trans q0)
        refine hK.out _ _ trivial (fun _ => ?_)
        clear hK K
        try simp only [List.getElem_toArray, List.getElem_cons_succ, List.getElem_cons_zero, Act.put, List.setIfInBounds_toArray, List.set_cons_zero, List.set_cons_succ]
        refine wpAnyH_take (i := 6) (v := ?_) rfl (by kernel_rfl) (by kernel_rfl) (by kernel_rfl) (fun _ _ _ h => h) (Or.inl ⟨by rfl, ?_⟩) hHeld ?_
        rotate_left
        · intro w' hSw
          go_simp
          try with_reducible rfl
        try simp only [List.getElem_toArray, List.getElem_cons_succ, List.getElem_cons_zero, Act.put, List.setIfInBounds_toArray, List.set_cons_zero, List.set_cons_succ]
        refine wpAnyH_ready (rs := [7]) (by kernel_rfl) (by simp) ?_
        refine AllReadyH.cons rfl (fun K hK => ?_) AllReadyH.nil
        go_simp
        refine hK.out _ _ trivial (fun _ => ?_)
        clear hK K
        try simp only [List.getElem_toArray, List.getElem_cons_succ, List.getElem_cons_zero, Act.put, List.setIfInBounds_toArray, List.set_cons_zero, List.set_cons_succ]
        refine wpAnyH_done (by kernel_rfl) ?_ _
        have hD5 := subj_next (x := ⟨xk, xy, xa⟩) (b4 := b4) (c4 := c4) h hG hD0 hk4 hce4 hb5 hrow5 hx5 hSR hS2 hR0.out hCw
        simp only [List.nil_append, List.length_nil, Nat.zero_add] at hD5
        have hF := hD5
        have hbx := hF.box
        have hrs := hF.res
        have x0 : (w5.setCell ⟨S, 0, none⟩ (.slice (some ⟨g5, 0, none⟩) 1 c5)).cell? ⟨S, 0, none⟩ = some (.slice (some ⟨g5, 0, none⟩) 1 c5) := by rw [Lib.cell_of_heap hbx]; rfl
        have z0 : (w5.setCell ⟨S, 0, none⟩ (.slice (some ⟨g5, 0, none⟩) 1 c5)).cell? ⟨R0, 0, none⟩ = some (.slice none 0 0) := by rw [Lib.cell_of_heap hrs]; rfl
        have zf : ∀ i, (w5.setCell ⟨S, 0, none⟩ (.slice (some ⟨g5, 0, none⟩) 1 c5)).frozen? ⟨R0, i, none⟩ = false := Lib.frozen_of_heap hrs
        clear hbx hrs
        go_wp2
        refine bodyPost_ret (v := .agg #[.slice (some ⟨g5, 0, none⟩) 1 c5]) (by simp [results, Tryz.results10, go_sem, z0]) rfl (subj_end h hF hR0.out (Or.inr (Or.inl ⟨_, rfl, hdc4⟩)) (by rw [hR0.out]; omega))
      · go_simp
        refine hK.out _ _ trivial (fun _ => ?_)
        clear hK K
        try simp only [List.getElem_toArray, List.getElem_cons_succ, List.getElem_cons_zero, Act.put, List.setIfInBounds_toArray, List.set_cons_zero, List.set_cons_succ]
        refine wpAnyH_ready (rs := [1]) (by kernel_rfl) (by simp) ?_
        refine AllReadyH.cons rfl (fun K hK => ?_) AllReadyH.nil
        have q0' := fun o => ((hal o).cell (p := ⟨S, 0, none⟩) hS4).trans q0
        go_simp
        refine hK.out _ _ trivial (fun _ => ?_)
        clear hK K
        try simp only [List.getElem_toArray, List.getElem_cons_succ, List.getElem_cons_zero, Act.put, List.setIfInBounds_toArray, List.set_cons_zero, List.set_cons_succ]
        refine wpAnyH_ready (rs := [5]) (by kernel_rfl) (by simp) ?_
        refine AllReadyH.cons rfl (fun K hK => ?_) AllReadyH.nil
        refine step_grow eltC (by rfl) _ _ (by rfl) (hrow4.below (hal _)) (by rfl) [⟨⟨xk, xy, xa⟩, b4, c4⟩] ⟨w4.heap.size, 0, none⟩ 1 1 (by rfl) (by rfl) (news_one eltC ⟨⟨xk, xy, xa⟩, b4, c4⟩ w4) (fun e he => by obtain rfl := List.mem_singleton.1 he; exact hok4.same (SameB.of_below (hal _))) (by decide) hlen2 (Nat.le_trans (Nat.le_trans hw2V hk4.size) (hal _).size) ?_
        intro g5 c5 w5 hrow5 hgr5 hlies5 hb5
        have hx5 := (hb5.block S hS2).trans (((hal _).block S hS4).trans hx4)
        have zf5 : ∀ i, w5.frozen? ⟨S, i, none⟩ = false := Lib.frozen_of_heap hx5
        have u0 := (hb5.cell (p := ⟨S, 0, none⟩) hS2).trans (((hal _).cell (p := ⟨S, 0, none⟩) hS4).trans q0)
        refine hK.out _ _ trivial (fun _ => ?_)
        clear hK K
        try simp only [List.getElem_toArray, List.getElem_cons_succ, List.getElem_cons_zero, Act.put, List.setIfInBounds_toArray, List.set_cons_zero, List.set_cons_succ]
        refine wpAnyH_take (i := 6) (v := ?_) rfl (by kernel_rfl) (by kernel_rfl) (by kernel_rfl) (fun _ _ _ h => h) (Or.inl ⟨by rfl, ?_⟩) hHeld ?_
        rotate_left
        · intro w' hSw
          go_simp
          try with_reducible rfl
        try simp only [List.getElem_toArray, List.getElem_cons_succ, List.getElem_cons_zero, Act.put, List.setIfInBounds_toArray, List.set_cons_zero, List.set_cons_succ]
        refine wpAnyH_ready (rs := [7]) (by kernel_rfl) (by simp) ?_
        refine AllReadyH.cons rfl (fun K hK => ?_) AllReadyH.nil
        go_simp
        refine hK.out _ _ trivial (fun _ => ?_)
        clear hK K
        try simp only [List.getElem_toArray, List.getElem_cons_succ, List.getElem_cons_zero, Act.put, List.setIfInBounds_toArray, List.set_cons_zero, List.set_cons_succ]
        refine wpAnyH_done (by kernel_rfl) ?_ _
        have hD5 := subj_next (x := ⟨xk, xy, xa⟩) (b4 := b4) (c4 := c4) h hG hD0 hk4 hce4 hb5 hrow5 hx5 hSR hS2 hR0.out hCw
        simp only [List.nil_append, List.length_nil, Nat.zero_add] at hD5
        have hF := hD5
        have hbx := hF.box
        have hrs := hF.res
        have x0 : (w5.setCell ⟨S, 0, none⟩ (.slice (some ⟨g5, 0, none⟩) 1 c5)).cell? ⟨S, 0, none⟩ = some (.slice (some ⟨g5, 0, none⟩) 1 c5) := by rw [Lib.cell_of_heap hbx]; rfl
        have z0 : (w5.setCell ⟨S, 0, none⟩ (.slice (some ⟨g5, 0, none⟩) 1 c5)).cell? ⟨R0, 0, none⟩ = some (.slice none 0 0) := by rw [Lib.cell_of_heap hrs]; rfl
        have zf : ∀ i, (w5.setCell ⟨S, 0, none⟩ (.slice (some ⟨g5, 0, none⟩) 1 c5)).frozen? ⟨R0, i, none⟩ = false := Lib.frozen_of_heap hrs
        clear hbx hrs
        go_wp2
        refine bodyPost_ret (v := .agg #[.slice (some ⟨g5, 0, none⟩) 1 c5]) (by simp [results, Tryz.results10, go_sem, z0]) rfl (subj_end h hF hR0.out (Or.inr (Or.inl ⟨_, rfl, hdc4⟩)) (by rw [hR0.out]; omega))
  · go_upto_if 16 with (fail)
    go_cut [] (fun wx => ∃ (d : CEl) (g c : Nat), DrawnC devB d.x ∧ Subj S R0 C l a0 cap w w2 [d] (.slice (some ⟨g, 0, none⟩) 1 c) wx)
    case first =>
      go_upto_region 4 with (fail)
      have hD0 := hst
      obtain ⟨atv, hcv⟩ := hD0.codes
      have hdr := (Below.refl w2.heap.size w2).drew
      have hctx := Lib.hid (context_any devB (by decide) l a0 cap C atv w2.drew hl (hcv.below hdr) (hD0.draw.kept (Kept.of_below hdr)))
      skip
      have hrow3 := hD0.row.below hdr
      have hown3 := hrow3.lt
      have hw2V := hD0.size
      have hSV : S < w2.heap.size := Nat.lt_of_lt_of_le hS2 hw2V
      have hSC : S ≠ C := by omega
      have s0 : w2.cell? ⟨S, 0, none⟩ = some (Value.slice none 0 0) := by rw [Lib.cell_of_heap hD0.box]; rfl
      have s0' : w2.drew.cell? ⟨S, 0, none⟩ = some (Value.slice none 0 0) := s0
      have hlen2 : ([] : List CEl).length + 1 ≤ 1000 := by decide
      refine wp_region_held_drew (S := fun _ => True) (by kernel_rfl) (trivial) (fun hHeld => ?_)
      refine wpAnyH_take (i := 0) (v := ?_) rfl (by kernel_rfl) (by kernel_rfl) (by kernel_rfl) (fun _ _ _ h => h) (Or.inl ⟨by rfl, ?_⟩) hHeld ?_
      rotate_left
      · intro w' hSw
        go_simp
        try with_reducible rfl
      try simp only [List.getElem_toArray, List.getElem_cons_succ, List.getElem_cons_zero, Act.put, List.setIfInBounds_toArray, List.set_cons_zero, List.set_cons_succ]
      refine wpAnyH_take (i := 2) (v := ?_) rfl (by kernel_rfl) (by kernel_rfl) (by kernel_rfl) (fun _ _ _ h => h) (Or.inl ⟨by rfl, ?_⟩) hHeld ?_
      rotate_left
      · intro w' hSw
        go_simp
        try with_reducible rfl
      try simp only [List.getElem_toArray, List.getElem_cons_succ, List.getElem_cons_zero, Act.put, List.setIfInBounds_toArray, List.set_cons_zero, List.set_cons_succ]
      refine wpAnyH_ready (rs := [1, 3]) (by kernel_rfl) (by simp) ?_
      refine AllReadyH.cons rfl (fun K hK => ?_) (AllReadyH.cons rfl (fun K hK => ?_) AllReadyH.nil)
      · go_simp
        refine hK.out _ _ trivial (fun _ => ?_)
        clear hK K
        try simp only [List.getElem_toArray, List.getElem_cons_succ, List.getElem_cons_zero, Act.put, List.setIfInBounds_toArray, List.set_cons_zero, List.set_cons_succ]
        refine wpAnyH_ready (rs := [3]) (by kernel_rfl) (by simp) ?_
        refine AllReadyH.cons rfl (fun K hK => ?_) AllReadyH.nil
        go_simp
        go_at_call 30
        refine hctx.out.mono ?_
        rintro e w4 ⟨⟨⟨xk, xy, xa⟩, b4, c4, rfl, hdc4, hat4⟩, hk4, hce4⟩
        simp only []
        have q0 := (hk4.cell (p := ⟨S, 0, none⟩) hSV hSC).trans s0
        have hx4 := (hk4.block S hSV hSC).trans hD0.box
        have hS4 := Nat.lt_of_lt_of_le hSV hk4.size
        refine hK.out _ _ trivial (fun _ => ?_)
        clear hK K
        try simp only [List.getElem_toArray, List.getElem_cons_succ, List.getElem_cons_zero, Act.put, List.setIfInBounds_toArray, List.set_cons_zero, List.set_cons_succ]
        have hal := fun o => (Below.refl w4.heap.size w4).alloc (Nat.le_refl _) o
        have hrow4 := hrow3.kept hk4 (by omega) (fun b hb => by omega)
        have hok4 := hat4.mono (Q := fun b => w2.heap.size ≤ b ∧ (Value.slice none 0 0).ownBlock ≠ some b) (fun b _ hb => ⟨Nat.le_trans hw2V hb, fun e => by have := (hown3 b e).2; simp at this hb; omega⟩)
        refine wpAnyH_ready (rs := [4]) (by kernel_rfl) (by simp) ?_
        refine AllReadyH.cons rfl (fun K hK => ?_) AllReadyH.nil
        go_simp
        refine hK.out _ _ trivial (fun _ => ?_)
        clear hK K
        try simp only [List.getElem_toArray, List.getElem_cons_succ, List.getElem_cons_zero, Act.put, List.setIfInBounds_toArray, List.set_cons_zero, List.set_cons_succ]
        refine wpAnyH_ready (rs := [5]) (by kernel_rfl) (by simp) ?_
        refine AllReadyH.cons rfl (fun K hK => ?_) AllReadyH.nil
        refine step_grow eltC (by rfl) _ _ (by rfl) (hrow4.below (hal _)) (by rfl) [⟨⟨xk, xy, xa⟩, b4, c4⟩] ⟨w4.heap.size, 0, none⟩ 1 1 (by rfl) (by rfl) (news_one eltC ⟨⟨xk, xy, xa⟩, b4, c4⟩ w4) (fun e he => by obtain rfl := List.mem_singleton.1 he; exact hok4.same (SameB.of_below (hal _))) (by decide) hlen2 (Nat.le_trans (Nat.le_trans hw2V hk4.size) (hal _).size) ?_
        intro g5 c5 w5 hrow5 hgr5 hlies5 hb5
        have hx5 := (hb5.block S hS2).trans (((hal _).block S hS4).trans hx4)
        have zf5 : ∀ i, w5.frozen? ⟨S, i, none⟩ = false := Lib.frozen_of_heap hx5
        have u0 := (hb5.cell (p := ⟨S, 0, none⟩) hS2).trans (((hal _).cell (p := ⟨S, 0, none⟩) hS4).trans q0)
        refine hK.out _ _ trivial (fun _ => ?_)
        clear hK K
        try simp only [List.getElem_toArray, List.getElem_cons_succ, List.getElem_cons_zero, Act.put, List.setIfInBounds_toArray, List.set_cons_zero, List.set_cons_succ]
        refine wpAnyH_take (i := 6) (v := ?_) rfl (by kernel_rfl) (by kernel_rfl) (by kernel_rfl) (fun _ _ _ h => h) (Or.inl ⟨by rfl, ?_⟩) hHeld ?_
        rotate_left
        · intro w' hSw
          go_simp
          try with_reducible rfl
        try simp only [List.getElem_toArray, List.getElem_cons_succ, List.getElem_cons_zero, Act.put, List.setIfInBounds_toArray, List.set_cons_zero, List.set_cons_succ]
        refine wpAnyH_ready (rs := [7]) (by kernel_rfl) (by simp) ?_
        refine AllReadyH.cons rfl (fun K hK => ?_) AllReadyH.nil
        go_simp
        refine hK.out _ _ trivial (fun _ => ?_)
        clear hK K
        try simp only [List.getElem_toArray, List.getElem_cons_succ, List.getElem_cons_zero, Act.put, List.setIfInBounds_toArray, List.set_cons_zero, List.set_cons_succ]
        refine wpAnyH_done (by kernel_rfl) ?_ _
        have hD5 := subj_next (x := ⟨xk, xy, xa⟩) (b4 := b4) (c4 := c4) h hG hD0 hk4 hce4 hb5 hrow5 hx5 hSR hS2 hR0.out hCw
        simp only [List.nil_append, List.length_nil, Nat.zero_add] at hD5
        go_wp2
        go_meet
        case rel => exact ⟨_, _, _, hdc4, hD5⟩
      · go_simp
        go_at_call 30
        refine hctx.out.mono ?_
        rintro e w4 ⟨⟨⟨xk, xy, xa⟩, b4, c4, rfl, hdc4, hat4⟩, hk4, hce4⟩
        simp only []
        have q0 := (hk4.cell (p := ⟨S, 0, none⟩) hSV hSC).trans s0
        have hx4 := (hk4.block S hSV hSC).trans hD0.box
        have hS4 := Nat.lt_of_lt_of_le hSV hk4.size
        refine hK.out _ _ trivial (fun _ => ?_)
        clear hK K
        try simp only [List.getElem_toArray, List.getElem_cons_succ, List.getElem_cons_zero, Act.put, List.setIfInBounds_toArray, List.set_cons_zero, List.set_cons_succ]
        have hal := fun o => (Below.refl w4.heap.size w4).alloc (Nat.le_refl _) o
        have hrow4 := hrow3.kept hk4 (by omega) (fun b hb => by omega)
        have hok4 := hat4.mono (Q := fun b => w2.heap.size ≤ b ∧ (Value.slice none 0 0).ownBlock ≠ some b) (fun b _ hb => ⟨Nat.le_trans hw2V hb, fun e => by have := (hown3 b e).2; simp at this hb; omega⟩)
        refine wpAnyH_ready (rs := [1, 4]) (by kernel_rfl) (by simp) ?_
        refine AllReadyH.cons rfl (fun K hK => ?_) (AllReadyH.cons rfl (fun K hK => ?_) AllReadyH.nil)
        · go_simp
          refine hK.out _ _ trivial (fun _ => ?_)
          clear hK K
          try simp only [List.getElem_toArray, List.getElem_cons_succ, List.getElem_cons_zero, Act.put, List.setIfInBounds_toArray, List.set_cons_zero, List.set_cons_succ]
          refine wpAnyH_ready (rs := [4]) (by kernel_rfl) (by simp) ?_
          refine AllReadyH.cons rfl (fun K hK => ?_) AllReadyH.nil
          go_simp
          refine hK.out _ _ trivial (fun _ => ?_)
          clear hK K
          try simp only [List.getElem_toArray, List.getElem_cons_succ, List.getElem_cons_zero, Act.put, List.setIfInBounds_toArray, List.set_cons_zero, List.set_cons_succ]
          refine wpAnyH_ready (rs := [5]) (by kernel_rfl) (by simp) ?_
          refine AllReadyH.cons rfl (fun K hK => ?_) AllReadyH.nil
          refine step_grow eltC (by rfl) _ _ (by rfl) (hrow4.below (hal _)) (by rfl) [⟨⟨xk, xy, xa⟩, b4, c4⟩] ⟨w4.heap.size, 0, none⟩ 1 1 (by rfl) (by rfl) (news_one eltC ⟨⟨xk, xy, xa⟩, b4, c4⟩ w4) (fun e he => by obtain rfl := List.mem_singleton.1 he; exact hok4.same (SameB.of_below (hal _))) (by decide) hlen2 (Nat.le_trans (Nat.le_trans hw2V hk4.size) (hal _).size) ?_
          intro g5 c5 w5 hrow5 hgr5 hlies5 hb5
          have hx5 := (hb5.block S hS2).trans (((hal _).block S hS4).trans hx4)
          have zf5 : ∀ i, w5.frozen? ⟨S, i, none⟩ = false := Lib.frozen_of_heap hx5
          have u0 := (hb5.cell (p := ⟨S, 0, none⟩) hS2).trans (((hal _).cell (p := ⟨S, 0, none⟩) hS4).trans q0)
          refine hK.out _ _ trivial (fun _ => ?_)
          clear hK K
          try simp only [List.getElem_toArray, List.getElem_cons_succ, List.getElem_cons_zero, Act.put, List.setIfInBounds_toArray, List.set_cons_zero, List.set_cons_succ]
          refine wpAnyH_take (i := 6) (v := ?_) rfl (by kernel_rfl) (by kernel_rfl) (by kernel_rfl) (fun _ _ _ h => h) (Or.inl ⟨by rfl, ?_⟩) hHeld ?_
          rotate_left
          · intro w' hSw
            go_simp
            try with_reducible rfl
          try simp only [List.getElem_toArray, List.getElem_cons_succ, List.getElem_cons_zero, Act.put, List.setIfInBounds_toArray, List.set_cons_zero, List.set_cons_succ]
          refine wpAnyH_ready (rs := [7]) (by kernel_rfl) (by simp) ?_
          refine AllReadyH.cons rfl (fun K hK => ?_) AllReadyH.nil
          go_simp
          refine hK.out _ _ trivial (fun _ => ?_)
          clear hK K
          try simp only [List.getElem_toArray, List.getElem_cons_succ, List.getElem_cons_zero, Act.put, List.setIfInBounds_toArray, List.set_cons_zero, List.set_cons_succ]
          refine wpAnyH_done (by kernel_rfl) ?_ _
          have hD5 := subj_next (x := ⟨xk, xy, xa⟩) (b4 := b4) (c4 := c4) h hG hD0 hk4 hce4 hb5 hrow5 hx5 hSR hS2 hR0.out hCw
          simp only [List.nil_append, List.length_nil, Nat.zero_add] at hD5
          go_wp2
          go_meet
          case rel => exact ⟨_, _, _, hdc4, hD5⟩
        · go_simp
          refine hK.out _ _ trivial (fun _ => ?_)
          clear hK K
          try simp only [List.getElem_toArray, List.getElem_cons_succ, List.getElem_cons_zero, Act.put, List.setIfInBounds_toArray, List.set_cons_zero, List.set_cons_succ]
          refine wpAnyH_ready (rs := [1]) (by kernel_rfl) (by simp) ?_
          refine AllReadyH.cons rfl (fun K hK => ?_) AllReadyH.nil
          have q0' := fun o => ((hal o).cell (p := ⟨S, 0, none⟩) hS4).trans q0
          go_simp
          refine hK.out _ _ trivial (fun _ => ?_)
          clear hK K
          try simp only [List.getElem_toArray, List.getElem_cons_succ, List.getElem_cons_zero, Act.put, List.setIfInBounds_toArray, List.set_cons_zero, List.set_cons_succ]
          refine wpAnyH_ready (rs := [5]) (by kernel_rfl) (by simp) ?_
          refine AllReadyH.cons rfl (fun K hK => ?_) AllReadyH.nil
          refine step_grow eltC (by rfl) _ _ (by rfl) (hrow4.below (hal _)) (by rfl) [⟨⟨xk, xy, xa⟩, b4, c4⟩] ⟨w4.heap.size, 0, none⟩ 1 1 (by rfl) (by rfl) (news_one eltC ⟨⟨xk, xy, xa⟩, b4, c4⟩ w4) (fun e he => by obtain rfl := List.mem_singleton.1 he; exact hok4.same (SameB.of_below (hal _))) (by decide) hlen2 (Nat.le_trans (Nat.le_trans hw2V hk4.size) (hal _).size) ?_
          intro g5 c5 w5 hrow5 hgr5 hlies5 hb5
          have hx5 := (hb5.block S hS2).trans (((hal _).block S hS4).trans hx4)
          have zf5 : ∀ i, w5.frozen? ⟨S, i, none⟩ = false := Lib.frozen_of_heap hx5
          have u0 := (hb5.cell (p := ⟨S, 0, none⟩) hS2).trans (((hal _).cell (p := ⟨S, 0, none⟩) hS4).trans q0)
          refine hK.out _ _ trivial (fun _ => ?_)
          clear hK K
          try simp only [List.getElem_toArray, List.getElem_cons_succ, List.getElem_cons_zero, Act.put, List.setIfInBounds_toArray, List.set_cons_zero, List.set_cons_succ]
          refine wpAnyH_take (i := 6) (v := ?_) rfl (by kernel_rfl) (by kernel_rfl) (by kernel_rfl) (fun _ _ _ h => h) (Or.inl ⟨by rfl, ?_⟩) hHeld ?_
          rotate_left
          · intro w' hSw
            go_simp
            try with_reducible rfl
          try simp only [List.getElem_toArray, List.getElem_cons_succ, List.getElem_cons_zero, Act.put, List.setIfInBounds_toArray, List.set_cons_zero, List.set_cons_succ]
          refine wpAnyH_ready (rs := [7]) (by kernel_rfl) (by simp) ?_
          refine AllReadyH.cons rfl (fun K hK => ?_) AllReadyH.nil
          go_simp
          refine hK.out _ _ trivial (fun _ => ?_)
          clear hK K
          try simp only [List.getElem_toArray, List.getElem_cons_succ, List.getElem_cons_zero, Act.put, List.setIfInBounds_toArray, List.set_cons_zero, List.set_cons_succ]
          refine wpAnyH_done (by kernel_rfl) ?_ _
          have hD5 := subj_next (x := ⟨xk, xy, xa⟩) (b4 := b4) (c4 := c4) h hG hD0 hk4 hce4 hb5 hrow5 hx5 hSR hS2 hR0.out hCw
          simp only [List.nil_append, List.length_nil, Nat.zero_add] at hD5
          go_wp2
          go_meet
          case rel => exact ⟨_, _, _, hdc4, hD5⟩
    case rest =>
      obtain ⟨de, gd, cd, hdd, hcS⟩ := hcut
      go_upto_region 6 with (fail)
      have hD0 := hcS
      obtain ⟨atv, hcv⟩ := hD0.codes
      have hdr := (Below.refl wc.heap.size wc).drew
      have hctx := Lib.hid (context_any usrB (by decide) l a0 cap C atv wc.drew hl (hcv.below hdr) (hD0.draw.kept (Kept.of_below hdr)))
      skip
      have hrow3 := hD0.row.below hdr
      have hown3 := hrow3.lt
      have hw2V := hD0.size
      have hSV : S < wc.heap.size := Nat.lt_of_lt_of_le hS2 hw2V
      have hSC : S ≠ C := by omega
      have s0 : wc.cell? ⟨S, 0, none⟩ = some (Value.slice (some ⟨gd, 0, none⟩) 1 cd) := by rw [Lib.cell_of_heap hD0.box]; rfl
      have s0' : wc.drew.cell? ⟨S, 0, none⟩ = some (Value.slice (some ⟨gd, 0, none⟩) 1 cd) := s0
      have hlen2 : ([de] : List CEl).length + 1 ≤ 1000 := by simp
      refine wp_region_held_drew (S := fun _ => True) (by kernel_rfl) (trivial) (fun hHeld => ?_)
      refine wpAnyH_take (i := 0) (v := ?_) rfl (by kernel_rfl) (by kernel_rfl) (by kernel_rfl) (fun _ _ _ h => h) (Or.inl ⟨by rfl, ?_⟩) hHeld ?_
      rotate_left
      · intro w' hSw
        go_simp
        try with_reducible rfl
      try simp only [List.getElem_toArray, List.getElem_cons_succ, List.getElem_cons_zero, Act.put, List.setIfInBounds_toArray, List.set_cons_zero, List.set_cons_succ]
      refine wpAnyH_take (i := 2) (v := ?_) rfl (by kernel_rfl) (by kernel_rfl) (by kernel_rfl) (fun _ _ _ h => h) (Or.inl ⟨by rfl, ?_⟩) hHeld ?_
      rotate_left
      · intro w' hSw
        go_simp
        try with_reducible rfl
      try simp only [List.getElem_toArray, List.getElem_cons_succ, List.getElem_cons_zero, Act.put, List.setIfInBounds_toArray, List.set_cons_zero, List.set_cons_succ]
      refine wpAnyH_ready (rs := [1, 3]) (by kernel_rfl) (by simp) ?_
      refine AllReadyH.cons rfl (fun K hK => ?_) (AllReadyH.cons rfl (fun K hK => ?_) AllReadyH.nil)
      · go_simp
        refine hK.out _ _ trivial (fun _ => ?_)
        clear hK K
        try simp only [List.getElem_toArray, List.getElem_cons_succ, List.getElem_cons_zero, Act.put, List.setIfInBounds_toArray, List.set_cons_zero, List.set_cons_succ]
        refine wpAnyH_ready (rs := [3]) (by kernel_rfl) (by simp) ?_
        refine AllReadyH.cons rfl (fun K hK => ?_) AllReadyH.nil
        go_simp
        go_at_call 30
        refine hctx.out.mono ?_
        rintro e w4 ⟨⟨⟨xk, xy, xa⟩, b4, c4, rfl, hdc4, hat4⟩, hk4, hce4⟩
        simp only []
        have q0 := (hk4.cell (p := ⟨S, 0, none⟩) hSV hSC).trans s0
        have hx4 := (hk4.block S hSV hSC).trans hD0.box
        have hS4 := Nat.lt_of_lt_of_le hSV hk4.size
        refine hK.out _ _ trivial (fun _ => ?_)
        clear hK K
        try simp only [List.getElem_toArray, List.getElem_cons_succ, List.getElem_cons_zero, Act.put, List.setIfInBounds_toArray, List.set_cons_zero, List.set_cons_succ]
        have hal := fun o => (Below.refl w4.heap.size w4).alloc (Nat.le_refl _) o
        have hrow4 := hrow3.kept hk4 (by omega) (fun b hb => by omega)
        have hok4 := hat4.mono (Q := fun b => w2.heap.size ≤ b ∧ (Value.slice (some ⟨gd, 0, none⟩) 1 cd).ownBlock ≠ some b) (fun b _ hb => ⟨Nat.le_trans hw2V hb, fun e => by have := (hown3 b e).2; simp at this hb; omega⟩)
        refine wpAnyH_ready (rs := [4]) (by kernel_rfl) (by simp) ?_
        refine AllReadyH.cons rfl (fun K hK => ?_) AllReadyH.nil
        go_simp
        refine hK.out _ _ trivial (fun _ => ?_)
        clear hK K
        try simp only [List.getElem_toArray, List.getElem_cons_succ, List.getElem_cons_zero, Act.put, List.setIfInBounds_toArray, List.set_cons_zero, List.set_cons_succ]
        refine wpAnyH_ready (rs := [5]) (by kernel_rfl) (by simp) ?_
        refine AllReadyH.cons rfl (fun K hK => ?_) AllReadyH.nil
        refine step_grow eltC (by rfl) _ _ (by rfl) (hrow4.below (hal _)) (by rfl) [⟨⟨xk, xy, xa⟩, b4, c4⟩] ⟨w4.heap.size, 0, none⟩ 1 1 (by rfl) (by rfl) (news_one eltC ⟨⟨xk, xy, xa⟩, b4, c4⟩ w4) (fun e he => by obtain rfl := List.mem_singleton.1 he; exact hok4.same (SameB.of_below (hal _))) (by decide) hlen2 (Nat.le_trans (Nat.le_trans hw2V hk4.size) (hal _).size) ?_
        intro g5 c5 w5 hrow5 hgr5 hlies5 hb5
        have hx5 := (hb5.block S hS2).trans (((hal _).block S hS4).trans hx4)
        have zf5 : ∀ i, w5.frozen? ⟨S, i, none⟩ = false := Lib.frozen_of_heap hx5
        have u0 := (hb5.cell (p := ⟨S, 0, none⟩) hS2).trans (((hal _).cell (p := ⟨S, 0, none⟩) hS4).trans q0)
        refine hK.out _ _ trivial (fun _ => ?_)
        clear hK K
        try simp only [List.getElem_toArray, List.getElem_cons_succ, List.getElem_cons_zero, Act.put, List.setIfInBounds_toArray, List.set_cons_zero, List.set_cons_succ]
        refine wpAnyH_take (i := 6) (v := ?_) rfl (by kernel_rfl) (by kernel_rfl) (by kernel_rfl) (fun _ _ _ h => h) (Or.inl ⟨by rfl, ?_⟩) hHeld ?_
        rotate_left
        · intro w' hSw
          go_simp
          try with_reducible rfl
        try simp only [List.getElem_toArray, List.getElem_cons_succ, List.getElem_cons_zero, Act.put, List.setIfInBounds_toArray, List.set_cons_zero, List.set_cons_succ]
        refine wpAnyH_ready (rs := [7]) (by kernel_rfl) (by simp) ?_
        refine AllReadyH.cons rfl (fun K hK => ?_) AllReadyH.nil
        go_simp
        refine hK.out _ _ trivial (fun _ => ?_)
        clear hK K
        try simp only [List.getElem_toArray, List.getElem_cons_succ, List.getElem_cons_zero, Act.put, List.setIfInBounds_toArray, List.set_cons_zero, List.set_cons_succ]
        refine wpAnyH_done (by kernel_rfl) ?_ _
        have hD5 := subj_next (x := ⟨xk, xy, xa⟩) (b4 := b4) (c4 := c4) h hG hD0 hk4 hce4 hb5 hrow5 hx5 hSR hS2 hR0.out hCw
        have hD6 := hD5
        simp only [List.cons_append, List.nil_append, List.length_cons, List.length_nil, Nat.zero_add, Nat.reduceAdd] at hD6
        have hF := hD6
        have hbx := hF.box
        have hrs := hF.res
        have x0 : (w5.setCell ⟨S, 0, none⟩ (.slice (some ⟨g5, 0, none⟩) 2 c5)).cell? ⟨S, 0, none⟩ = some (.slice (some ⟨g5, 0, none⟩) 2 c5) := by rw [Lib.cell_of_heap hbx]; rfl
        have z0 : (w5.setCell ⟨S, 0, none⟩ (.slice (some ⟨g5, 0, none⟩) 2 c5)).cell? ⟨R0, 0, none⟩ = some (.slice none 0 0) := by rw [Lib.cell_of_heap hrs]; rfl
        have zf : ∀ i, (w5.setCell ⟨S, 0, none⟩ (.slice (some ⟨g5, 0, none⟩) 2 c5)).frozen? ⟨R0, i, none⟩ = false := Lib.frozen_of_heap hrs
        clear hbx hrs
        go_wp2
        refine bodyPost_ret (v := .agg #[.slice (some ⟨g5, 0, none⟩) 2 c5]) (by simp [results, Tryz.results10, go_sem, z0]) rfl (subj_end h hF hR0.out (Or.inr (Or.inr (Or.inr ⟨_, _, rfl, hdd, hdc4⟩))) (by rw [hR0.out]; omega))
      · go_simp
        go_at_call 30
        refine hctx.out.mono ?_
        rintro e w4 ⟨⟨⟨xk, xy, xa⟩, b4, c4, rfl, hdc4, hat4⟩, hk4, hce4⟩
        simp only []
        have q0 := (hk4.cell (p := ⟨S, 0, none⟩) hSV hSC).trans s0
        have hx4 := (hk4.block S hSV hSC).trans hD0.box
        have hS4 := Nat.lt_of_lt_of_le hSV hk4.size
        refine hK.out _ _ trivial (fun _ => ?_)
        clear hK K
        try simp only [List.getElem_toArray, List.getElem_cons_succ, List.getElem_cons_zero, Act.put, List.setIfInBounds_toArray, List.set_cons_zero, List.set_cons_succ]
        have hal := fun o => (Below.refl w4.heap.size w4).alloc (Nat.le_refl _) o
        have hrow4 := hrow3.kept hk4 (by omega) (fun b hb => by omega)
        have hok4 := hat4.mono (Q := fun b => w2.heap.size ≤ b ∧ (Value.slice (some ⟨gd, 0, none⟩) 1 cd).ownBlock ≠ some b) (fun b _ hb => ⟨Nat.le_trans hw2V hb, fun e => by have := (hown3 b e).2; simp at this hb; omega⟩)
        refine wpAnyH_ready (rs := [1, 4]) (by kernel_rfl) (by simp) ?_
        refine AllReadyH.cons rfl (fun K hK => ?_) (AllReadyH.cons rfl (fun K hK => ?_) AllReadyH.nil)
        · go_simp
          refine hK.out _ _ trivial (fun _ => ?_)
          clear hK K
          try simp only [List.getElem_toArray, List.getElem_cons_succ, List.getElem_cons_zero, Act.put, List.setIfInBounds_toArray, List.set_cons_zero, List.set_cons_succ]
          refine wpAnyH_ready (rs := [4]) (by kernel_rfl) (by simp) ?_
          refine AllReadyH.cons rfl (fun K hK => ?_) AllReadyH.nil
          go_simp
          refine hK.out _ _ trivial (fun _ => ?_)
          clear hK K
          try simp only [List.getElem_toArray, List.getElem_cons_succ, List.getElem_cons_zero, Act.put, List.setIfInBounds_toArray, List.set_cons_zero, List.set_cons_succ]
          refine wpAnyH_ready (rs := [5]) (by kernel_rfl) (by simp) ?_
          refine AllReadyH.cons rfl (fun K hK => ?_) AllReadyH.nil
          refine step_grow eltC (by rfl) _ _ (by rfl) (hrow4.below (hal _)) (by rfl) [⟨⟨xk, xy, xa⟩, b4, c4⟩] ⟨w4.heap.size, 0, none⟩ 1 1 (by rfl) (by rfl) (news_one eltC ⟨⟨xk, xy, xa⟩, b4, c4⟩ w4) (fun e he => by obtain rfl := List.mem_singleton.1 he; exact hok4.same (SameB.of_below (hal _))) (by decide) hlen2 (Nat.le_trans (Nat.le_trans hw2V hk4.size) (hal _).size) ?_
          intro g5 c5 w5 hrow5 hgr5 hlies5 hb5
          have hx5 := (hb5.block S hS2).trans (((hal _).block S hS4).trans hx4)
          have zf5 : ∀ i, w5.frozen? ⟨S, i, none⟩ = false := Lib.frozen_of_heap hx5
          have u0 := (hb5.cell (p := ⟨S, 0, none⟩) hS2).trans (((hal _).cell (p := ⟨S, 0, none⟩) hS4).trans q0)
          refine hK.out _ _ trivial (fun _ => ?_)
          clear hK K
          try simp only [List.getElem_toArray, List.getElem_cons_succ, List.getElem_cons_zero, Act.put, List.setIfInBounds_toArray, List.set_cons_zero, List.set_cons_succ]
          refine wpAnyH_take (i := 6) (v := ?_) rfl (by kernel_rfl) (by kernel_rfl) (by kernel_rfl) (fun _ _ _ h => h) (Or.inl ⟨by rfl, ?_⟩) hHeld ?_
          rotate_left
          · intro w' hSw
            go_simp
            try with_reducible rfl
          try simp only [List.getElem_toArray, List.getElem_cons_succ, List.getElem_cons_zero, Act.put, List.setIfInBounds_toArray, List.set_cons_zero, List.set_cons_succ]
          refine wpAnyH_ready (rs := [7]) (by kernel_rfl) (by simp) ?_
          refine AllReadyH.cons rfl (fun K hK => ?_) AllReadyH.nil
          go_simp
          refine hK.out _ _ trivial (fun _ => ?_)
          clear hK K
          try simp only [List.getElem_toArray, List.getElem_cons_succ, List.getElem_cons_zero, Act.put, List.setIfInBounds_toArray, List.set_cons_zero, List.set_cons_succ]
          refine wpAnyH_done (by kernel_rfl) ?_ _
          have hD5 := subj_next (x := ⟨xk, xy, xa⟩) (b4 := b4) (c4 := c4) h hG hD0 hk4 hce4 hb5 hrow5 hx5 hSR hS2 hR0.out hCw
          have hD6 := hD5
          simp only [List.cons_append, List.nil_append, List.length_cons, List.length_nil, Nat.zero_add, Nat.reduceAdd] at hD6
          have hF := hD6
          have hbx := hF.box
          have hrs := hF.res
          have x0 : (w5.setCell ⟨S, 0, none⟩ (.slice (some ⟨g5, 0, none⟩) 2 c5)).cell? ⟨S, 0, none⟩ = some (.slice (some ⟨g5, 0, none⟩) 2 c5) := by rw [Lib.cell_of_heap hbx]; rfl
          have z0 : (w5.setCell ⟨S, 0, none⟩ (.slice (some ⟨g5, 0, none⟩) 2 c5)).cell? ⟨R0, 0, none⟩ = some (.slice none 0 0) := by rw [Lib.cell_of_heap hrs]; rfl
          have zf : ∀ i, (w5.setCell ⟨S, 0, none⟩ (.slice (some ⟨g5, 0, none⟩) 2 c5)).frozen? ⟨R0, i, none⟩ = false := Lib.frozen_of_heap hrs
          clear hbx hrs
          go_wp2
          refine bodyPost_ret (v := .agg #[.slice (some ⟨g5, 0, none⟩) 2 c5]) (by simp [results, Tryz.results10, go_sem, z0]) rfl (subj_end h hF hR0.out (Or.inr (Or.inr (Or.inr ⟨_, _, rfl, hdd, hdc4⟩))) (by rw [hR0.out]; omega))
        · go_simp
          refine hK.out _ _ trivial (fun _ => ?_)
          clear hK K
          try simp only [List.getElem_toArray, List.getElem_cons_succ, List.getElem_cons_zero, Act.put, List.setIfInBounds_toArray, List.set_cons_zero, List.set_cons_succ]
          refine wpAnyH_ready (rs := [1]) (by kernel_rfl) (by simp) ?_
          refine AllReadyH.cons rfl (fun K hK => ?_) AllReadyH.nil
          have q0' := fun o => ((hal o).cell (p := ⟨S, 0, none⟩) hS4).trans q0
          go_simp
          refine hK.out _ _ trivial (fun _ => ?_)
          clear hK K
          try simp only [List.getElem_toArray, List.getElem_cons_succ, List.getElem_cons_zero, Act.put, List.setIfInBounds_toArray, List.set_cons_zero, List.set_cons_succ]
          refine wpAnyH_ready (rs := [5]) (by kernel_rfl) (by simp) ?_
          refine AllReadyH.cons rfl (fun K hK => ?_) AllReadyH.nil
          refine step_grow eltC (by rfl) _ _ (by rfl) (hrow4.below (hal _)) (by rfl) [⟨⟨xk, xy, xa⟩, b4, c4⟩] ⟨w4.heap.size, 0, none⟩ 1 1 (by rfl) (by rfl) (news_one eltC ⟨⟨xk, xy, xa⟩, b4, c4⟩ w4) (fun e he => by obtain rfl := List.mem_singleton.1 he; exact hok4.same (SameB.of_below (hal _))) (by decide) hlen2 (Nat.le_trans (Nat.le_trans hw2V hk4.size) (hal _).size) ?_
          intro g5 c5 w5 hrow5 hgr5 hlies5 hb5
          have hx5 := (hb5.block S hS2).trans (((hal _).block S hS4).trans hx4)
          have zf5 : ∀ i, w5.frozen? ⟨S, i, none⟩ = false := Lib.frozen_of_heap hx5
          have u0 := (hb5.cell (p := ⟨S, 0, none⟩) hS2).trans (((hal _).cell (p := ⟨S, 0, none⟩) hS4).trans q0)
          refine hK.out _ _ trivial (fun _ => ?_)
          clear hK K
          try simp only [List.getElem_toArray, List.getElem_cons_succ, List.getElem_cons_zero, Act.put, List.setIfInBounds_toArray, List.set_cons_zero, List.set_cons_succ]
          refine wpAnyH_take (i := 6) (v := ?_) rfl (by kernel_rfl) (by kernel_rfl) (by kernel_rfl) (fun _ _ _ h => h) (Or.inl ⟨by rfl, ?_⟩) hHeld ?_
          rotate_left
          · intro w' hSw
            go_simp
            try with_reducible rfl
          try simp only [List.getElem_toArray, List.getElem_cons_succ, List.getElem_cons_zero, Act.put, List.setIfInBounds_toArray, List.set_cons_zero, List.set_cons_succ]
          refine wpAnyH_ready (rs := [7]) (by kernel_rfl) (by simp) ?_
          refine AllReadyH.cons rfl (fun K hK => ?_) AllReadyH.nil
          go_simp
          refine hK.out _ _ trivial (fun _ => ?_)
          clear hK K
          try simp only [List.getElem_toArray, List.getElem_cons_succ, List.getElem_cons_zero, Act.put, List.setIfInBounds_toArray, List.set_cons_zero, List.set_cons_succ]
          refine wpAnyH_done (by kernel_rfl) ?_ _
          have hD5 := subj_next (x := ⟨xk, xy, xa⟩) (b4 := b4) (c4 := c4) h hG hD0 hk4 hce4 hb5 hrow5 hx5 hSR hS2 hR0.out hCw
          have hD6 := hD5
          simp only [List.cons_append, List.nil_append, List.length_cons, List.length_nil, Nat.zero_add, Nat.reduceAdd] at hD6
          have hF := hD6
          have hbx := hF.box
          have hrs := hF.res
          have x0 : (w5.setCell ⟨S, 0, none⟩ (.slice (some ⟨g5, 0, none⟩) 2 c5)).cell? ⟨S, 0, none⟩ = some (.slice (some ⟨g5, 0, none⟩) 2 c5) := by rw [Lib.cell_of_heap hbx]; rfl
          have z0 : (w5.setCell ⟨S, 0, none⟩ (.slice (some ⟨g5, 0, none⟩) 2 c5)).cell? ⟨R0, 0, none⟩ = some (.slice none 0 0) := by rw [Lib.cell_of_heap hrs]; rfl
          have zf : ∀ i, (w5.setCell ⟨S, 0, none⟩ (.slice (some ⟨g5, 0, none⟩) 2 c5)).frozen? ⟨R0, i, none⟩ = false := Lib.frozen_of_heap hrs
          clear hbx hrs
          go_wp2
          refine bodyPost_ret (v := .agg #[.slice (some ⟨g5, 0, none⟩) 2 c5]) (by simp [results, Tryz.results10, go_sem, z0]) rfl (subj_end h hF hR0.out (Or.inr (Or.inr (Or.inr ⟨_, _, rfl, hdd, hdc4⟩))) (by rw [hR0.out]; omega))
  · go_upto_region 6 with (fail)
    have hD0 := hst
    obtain ⟨atv, hcv⟩ := hD0.codes
    have hdr := (Below.refl w2.heap.size w2).drew
    have hctx := Lib.hid (context_any usrB (by decide) l a0 cap C atv w2.drew hl (hcv.below hdr) (hD0.draw.kept (Kept.of_below hdr)))
    skip
    have hrow3 := hD0.row.below hdr
    have hown3 := hrow3.lt
    have hw2V := hD0.size
    have hSV : S < w2.heap.size := Nat.lt_of_lt_of_le hS2 hw2V
    have hSC : S ≠ C := by omega
    have s0 : w2.cell? ⟨S, 0, none⟩ = some (Value.slice none 0 0) := by rw [Lib.cell_of_heap hD0.box]; rfl
    have s0' : w2.drew.cell? ⟨S, 0, none⟩ = some (Value.slice none 0 0) := s0
    have hlen2 : ([] : List CEl).length + 1 ≤ 1000 := by decide
    refine wp_region_held_drew (S := fun _ => True) (by kernel_rfl) (trivial) (fun hHeld => ?_)
    refine wpAnyH_take (i := 0) (v := ?_) rfl (by kernel_rfl) (by kernel_rfl) (by kernel_rfl) (fun _ _ _ h => h) (Or.inl ⟨by rfl, ?_⟩) hHeld ?_
    rotate_left
    · intro w' hSw
      go_simp
      try with_reducible rfl
    try simp only [List.getElem_toArray, List.getElem_cons_succ, List.getElem_cons_zero, Act.put, List.setIfInBounds_toArray, List.set_cons_zero, List.set_cons_succ]
    refine wpAnyH_take (i := 2) (v := ?_) rfl (by kernel_rfl) (by kernel_rfl) (by kernel_rfl) (fun _ _ _ h => h) (Or.inl ⟨by rfl, ?_⟩) hHeld ?_
    rotate_left
    · intro w' hSw
      go_simp
      try with_reducible rfl
    try simp only [List.getElem_toArray, List.getElem_cons_succ, List.getElem_cons_zero, Act.put, List.setIfInBounds_toArray, List.set_cons_zero, List.set_cons_succ]
    refine wpAnyH_ready (rs := [1, 3]) (by kernel_rfl) (by simp) ?_
    refine AllReadyH.cons rfl (fun K hK => ?_) (AllReadyH.cons rfl (fun K hK => ?_) AllReadyH.nil)
    · go_simp
      refine hK.out _ _ trivial (fun _ => ?_)
      clear hK K
      try simp only [List.getElem_toArray, List.getElem_cons_succ, List.getElem_cons_zero, Act.put, List.setIfInBounds_toArray, List.set_cons_zero, List.set_cons_succ]
      refine wpAnyH_ready (rs := [3]) (by kernel_rfl) (by simp) ?_
      refine AllReadyH.cons rfl (fun K hK => ?_) AllReadyH.nil
      go_simp
      go_at_call 30
      refine hctx.out.mono ?_
      rintro e w4 ⟨⟨⟨xk, xy, xa⟩, b4, c4, rfl, hdc4, hat4⟩, hk4, hce4⟩
      simp only []
      have q0 := (hk4.cell (p := ⟨S, 0, none⟩) hSV hSC).trans s0
      have hx4 := (hk4.block S hSV hSC).trans hD0.box
      have hS4 := Nat.lt_of_lt_of_le hSV hk4.size
      refine hK.out _ _ trivial (fun _ => ?_)
      clear hK K
      try simp only [List.getElem_toArray, List.getElem_cons_succ, List.getElem_cons_zero, Act.put, List.setIfInBounds_toArray, List.set_cons_zero, List.set_cons_succ]
      have hal := fun o => (Below.refl w4.heap.size w4).alloc (Nat.le_refl _) o
      have hrow4 := hrow3.kept hk4 (by omega) (fun b hb => by omega)
      have hok4 := hat4.mono (Q := fun b => w2.heap.size ≤ b ∧ (Value.slice none 0 0).ownBlock ≠ some b) (fun b _ hb => ⟨Nat.le_trans hw2V hb, fun e => by have := (hown3 b e).2; simp at this hb; omega⟩)
      refine wpAnyH_ready (rs := [4]) (by kernel_rfl) (by simp) ?_
      refine AllReadyH.cons rfl (fun K hK => ?_) AllReadyH.nil
      go_simp
      refine hK.out _ _ trivial (fun _ => ?_)
      clear hK K
      try simp only [List.getElem_toArray, List.getElem_cons_succ, List.getElem_cons_zero, Act.put, List.setIfInBounds_toArray, List.set_cons_zero, List.set_cons_succ]
      refine wpAnyH_ready (rs := [5]) (by kernel_rfl) (by simp) ?_
      refine AllReadyH.cons rfl (fun K hK => ?_) AllReadyH.nil
      refine step_grow eltC (by rfl) _ _ (by rfl) (hrow4.below (hal _)) (by rfl) [⟨⟨xk, xy, xa⟩, b4, c4⟩] ⟨w4.heap.size, 0, none⟩ 1 1 (by rfl) (by rfl) (news_one eltC ⟨⟨xk, xy, xa⟩, b4, c4⟩ w4) (fun e he => by obtain rfl := List.mem_singleton.1 he; exact hok4.same (SameB.of_below (hal _))) (by decide) hlen2 (Nat.le_trans (Nat.le_trans hw2V hk4.size) (hal _).size) ?_
      intro g5 c5 w5 hrow5 hgr5 hlies5 hb5
      have hx5 := (hb5.block S hS2).trans (((hal _).block S hS4).trans hx4)
      have zf5 : ∀ i, w5.frozen? ⟨S, i, none⟩ = false := Lib.frozen_of_heap hx5
      have u0 := (hb5.cell (p := ⟨S, 0, none⟩) hS2).trans (((hal _).cell (p := ⟨S, 0, none⟩) hS4).trans q0)
      refine hK.out _ _ trivial (fun _ => ?_)
      clear hK K
      try simp only [List.getElem_toArray, List.getElem_cons_succ, List.getElem_cons_zero, Act.put, List.setIfInBounds_toArray, List.set_cons_zero, List.set_cons_succ]
      refine wpAnyH_take (i := 6) (v := ?_) rfl (by kernel_rfl) (by kernel_rfl) (by kernel_rfl) (fun _ _ _ h => h) (Or.inl ⟨by rfl, ?_⟩) hHeld ?_
      rotate_left
      · intro w' hSw
        go_simp
        try with_reducible rfl
      try simp only [List.getElem_toArray, List.getElem_cons_succ, List.getElem_cons_zero, Act.put, List.setIfInBounds_toArray, List.set_cons_zero, List.set_cons_succ]
      refine wpAnyH_ready (rs := [7]) (by kernel_rfl) (by simp) ?_
      refine AllReadyH.cons rfl (fun K hK => ?_) AllReadyH.nil
      go_simp
      refine hK.out _ _ trivial (fun _ => ?_)
      clear hK K
      try simp only [List.getElem_toArray, List.getElem_cons_succ, List.getElem_cons_zero, Act.put, List.setIfInBounds_toArray, List.set_cons_zero, List.set_cons_succ]
      refine wpAnyH_done (by kernel_rfl) ?_ _
      have hD5 := subj_next (x := ⟨xk, xy, xa⟩) (b4 := b4) (c4 := c4) h hG hD0 hk4 hce4 hb5 hrow5 hx5 hSR hS2 hR0.out hCw
      simp only [List.nil_append, List.length_nil, Nat.zero_add] at hD5
      have hF := hD5
      have hbx := hF.box
      have hrs := hF.res
      have x0 : (w5.setCell ⟨S, 0, none⟩ (.slice (some ⟨g5, 0, none⟩) 1 c5)).cell? ⟨S, 0, none⟩ = some (.slice (some ⟨g5, 0, none⟩) 1 c5) := by rw [Lib.cell_of_heap hbx]; rfl
      have z0 : (w5.setCell ⟨S, 0, none⟩ (.slice (some ⟨g5, 0, none⟩) 1 c5)).cell? ⟨R0, 0, none⟩ = some (.slice none 0 0) := by rw [Lib.cell_of_heap hrs]; rfl
      have zf : ∀ i, (w5.setCell ⟨S, 0, none⟩ (.slice (some ⟨g5, 0, none⟩) 1 c5)).frozen? ⟨R0, i, none⟩ = false := Lib.frozen_of_heap hrs
      clear hbx hrs
      go_wp2
      refine bodyPost_ret (v := .agg #[.slice (some ⟨g5, 0, none⟩) 1 c5]) (by simp [results, Tryz.results10, go_sem, z0]) rfl (subj_end h hF hR0.out (Or.inr (Or.inr (Or.inl ⟨_, rfl, hdc4⟩))) (by rw [hR0.out]; omega))
    · go_simp
      go_at_call 30
      refine hctx.out.mono ?_
      rintro e w4 ⟨⟨⟨xk, xy, xa⟩, b4, c4, rfl, hdc4, hat4⟩, hk4, hce4⟩
      simp only []
      have q0 := (hk4.cell (p := ⟨S, 0, none⟩) hSV hSC).trans s0
      have hx4 := (hk4.block S hSV hSC).trans hD0.box
      have hS4 := Nat.lt_of_lt_of_le hSV hk4.size
      refine hK.out _ _ trivial (fun _ => ?_)
      clear hK K
      try simp only [List.getElem_toArray, List.getElem_cons_succ, List.getElem_cons_zero, Act.put, List.setIfInBounds_toArray, List.set_cons_zero, List.set_cons_succ]
      have hal := fun o => (Below.refl w4.heap.size w4).alloc (Nat.le_refl _) o
      have hrow4 := hrow3.kept hk4 (by omega) (fun b hb => by omega)
      have hok4 := hat4.mono (Q := fun b => w2.heap.size ≤ b ∧ (Value.slice none 0 0).ownBlock ≠ some b) (fun b _ hb => ⟨Nat.le_trans hw2V hb, fun e => by have := (hown3 b e).2; simp at this hb; omega⟩)
      refine wpAnyH_ready (rs := [1, 4]) (by kernel_rfl) (by simp) ?_
      refine AllReadyH.cons rfl (fun K hK => ?_) (AllReadyH.cons rfl (fun K hK => ?_) AllReadyH.nil)
      · go_simp
        refine hK.out _ _ trivial (fun _ => ?_)
        clear hK K
        try simp only [List.getElem_toArray, List.getElem_cons_succ, List.getElem_cons_zero, Act.put, List.setIfInBounds_toArray, List.set_cons_zero, List.set_cons_succ]
        refine wpAnyH_ready (rs := [4]) (by kernel_rfl) (by simp) ?_
        refine AllReadyH.cons rfl (fun K hK => ?_) AllReadyH.nil
        go_simp
        refine hK.out _ _ trivial (fun _ => ?_)
        clear hK K
        try simp only [List.getElem_toArray, List.getElem_cons_succ, List.getElem_cons_zero, Act.put, List.setIfInBounds_toArray, List.set_cons_zero, List.set_cons_succ]
        refine wpAnyH_ready (rs := [5]) (by kernel_rfl) (by simp) ?_
        refine AllReadyH.cons rfl (fun K hK => ?_) AllReadyH.nil
        refine step_grow eltC (by rfl) _ _ (by rfl) (hrow4.below (hal _)) (by rfl) [⟨⟨xk, xy, xa⟩, b4, c4⟩] ⟨w4.heap.size, 0, none⟩ 1 1 (by rfl) (by rfl) (news_one eltC ⟨⟨xk, xy, xa⟩, b4, c4⟩ w4) (fun e he => by obtain rfl := List.mem_singleton.1 he; exact hok4.same (SameB.of_below (hal _))) (by decide) hlen2 (Nat.le_trans (Nat.le_trans hw2V hk4.size) (hal _).size) ?_
        intro g5 c5 w5 hrow5 hgr5 hlies5 hb5
        have hx5 := (hb5.block S hS2).trans (((hal _).block S hS4).trans hx4)
        have zf5 : ∀ i, w5.frozen? ⟨S, i, none⟩ = false := Lib.frozen_of_heap hx5
        have u0 := (hb5.cell (p := ⟨S, 0, none⟩) hS2).trans (((hal _).cell (p := ⟨S, 0, none⟩) hS4).trans q0)
        refine hK.out _ _ trivial (fun _ => ?_)
        clear hK K
        try simp only [List.getElem_toArray, List.getElem_cons_succ, List.getElem_cons_zero, Act.put, List.setIfInBounds_toArray, List.set_cons_zero, List.set_cons_succ]
        refine wpAnyH_take (i := 6) (v := ?_) rfl (by kernel_rfl) (by kernel_rfl) (by kernel_rfl) (fun _ _ _ h => h) (Or.inl ⟨by rfl, ?_⟩) hHeld ?_
        rotate_left
        · intro w' hSw
          go_simp
          try with_reducible rfl
        try simp only [List.getElem_toArray, List.getElem_cons_succ, List.getElem_cons_zero, Act.put, List.setIfInBounds_toArray, List.set_cons_zero, List.set_cons_succ]
        refine wpAnyH_ready (rs := [7]) (by kernel_rfl) (by simp) ?_
        refine AllReadyH.cons rfl (fun K hK => ?_) AllReadyH.nil
        go_simp
        refine hK.out _ _ trivial (fun _ => ?_)
        clear hK K
        try simp only [List.getElem_toArray, List.getElem_cons_succ, List.getElem_cons_zero, Act.put, List.setIfInBounds_toArray, List.set_cons_zero, List.set_cons_succ]
        refine wpAnyH_done (by kernel_rfl) ?_ _
        have hD5 := subj_next (x := ⟨xk, xy, xa⟩) (b4 := b4) (c4 := c4) h hG hD0 hk4 hce4 hb5 hrow5 hx5 hSR hS2 hR0.out hCw
        simp only [List.nil_append, List.length_nil, Nat.zero_add] at hD5
        have hF := hD5
        have hbx := hF.box
        have hrs := hF.res
        have x0 : (w5.setCell ⟨S, 0, none⟩ (.slice (some ⟨g5, 0, none⟩) 1 c5)).cell? ⟨S, 0, none⟩ = some (.slice (some ⟨g5, 0, none⟩) 1 c5) := by rw [Lib.cell_of_heap hbx]; rfl
        have z0 : (w5.setCell ⟨S, 0, none⟩ (.slice (some ⟨g5, 0, none⟩) 1 c5)).cell? ⟨R0, 0, none⟩ = some (.slice none 0 0) := by rw [Lib.cell_of_heap hrs]; rfl
        have zf : ∀ i, (w5.setCell ⟨S, 0, none⟩ (.slice (some ⟨g5, 0, none⟩) 1 c5)).frozen? ⟨R0, i, none⟩ = false := Lib.frozen_of_heap hrs
        clear hbx hrs
        go_wp2
        refine bodyPost_ret (v := .agg #[.slice (some ⟨g5, 0, none⟩) 1 c5]) (by simp [results, Tryz.results10, go_sem, z0]) rfl (subj_end h hF hR0.out (Or.inr (Or.inr (Or.inl ⟨_, rfl, hdc4⟩))) (by rw [hR0.out]; omega))
      · go_simp
        refine hK.out _ _ trivial (fun _ => ?_)
        clear hK K
        try simp only [List.getElem_toArray, List.getElem_cons_succ, List.getElem_cons_zero, Act.put, List.setIfInBounds_toArray, List.set_cons_zero, List.set_cons_succ]
        refine wpAnyH_ready (rs := [1]) (by kernel_rfl) (by simp) ?_
        refine AllReadyH.cons rfl (fun K hK => ?_) AllReadyH.nil
        have q0' := fun o => ((hal o).cell (p := ⟨S, 0, none⟩) hS4).trans q0
        go_simp
        refine hK.out _ _ trivial (fun _ => ?_)
        clear hK K
        try simp only [List.getElem_toArray, List.getElem_cons_succ, List.getElem_cons_zero, Act.put, List.setIfInBounds_toArray, List.set_cons_zero, List.set_cons_succ]
        refine wpAnyH_ready (rs := [5]) (by kernel_rfl) (by simp) ?_
        refine AllReadyH.cons rfl (fun K hK => ?_) AllReadyH.nil
        refine step_grow eltC (by rfl) _ _ (by rfl) (hrow4.below (hal _)) (by rfl) [⟨⟨xk, xy, xa⟩, b4, c4⟩] ⟨w4.heap.size, 0, none⟩ 1 1 (by rfl) (by rfl) (news_one eltC ⟨⟨xk, xy, xa⟩, b4, c4⟩ w4) (fun e he => by obtain rfl := List.mem_singleton.1 he; exact hok4.same (SameB.of_below (hal _))) (by decide) hlen2 (Nat.le_trans (Nat.le_trans hw2V hk4.size) (hal _).size) ?_
        intro g5 c5 w5 hrow5 hgr5 hlies5 hb5
        have hx5 := (hb5.block S hS2).trans (((hal _).block S hS4).trans hx4)
        have zf5 : ∀ i, w5.frozen? ⟨S, i, none⟩ = false := Lib.frozen_of_heap hx5
        have u0 := (hb5.cell (p := ⟨S, 0, none⟩) hS2).trans (((hal _).cell (p := ⟨S, 0, none⟩) hS4).trans q0)
        refine hK.out _ _ trivial (fun _ => ?_)
        clear hK K
        try simp only [List.getElem_toArray, List.getElem_cons_succ, List.getElem_cons_zero, Act.put, List.setIfInBounds_toArray, List.set_cons_zero, List.set_cons_succ]
        refine wpAnyH_take (i := 6) (v := ?_) rfl (by kernel_rfl) (by kernel_rfl) (by kernel_rfl) (fun _ _ _ h => h) (Or.inl ⟨by rfl, ?_⟩) hHeld ?_
        rotate_left
        · intro w' hSw
          go_simp
          try with_reducible rfl
        try simp only [List.getElem_toArray, List.getElem_cons_succ, List.getElem_cons_zero, Act.put, List.setIfInBounds_toArray, List.set_cons_zero, List.set_cons_succ]
        refine wpAnyH_ready (rs := [7]) (by kernel_rfl) (by simp) ?_
        refine AllReadyH.cons rfl (fun K hK => ?_) AllReadyH.nil
        go_simp
        refine hK.out _ _ trivial (fun _ => ?_)
        clear hK K
        try simp only [List.getElem_toArray, List.getElem_cons_succ, List.getElem_cons_zero, Act.put, List.setIfInBounds_toArray, List.set_cons_zero, List.set_cons_succ]
        refine wpAnyH_done (by kernel_rfl) ?_ _
        have hD5 := subj_next (x := ⟨xk, xy, xa⟩) (b4 := b4) (c4 := c4) h hG hD0 hk4 hce4 hb5 hrow5 hx5 hSR hS2 hR0.out hCw
        simp only [List.nil_append, List.length_nil, Nat.zero_add] at hD5
        have hF := hD5
        have hbx := hF.box
        have hrs := hF.res
        have x0 : (w5.setCell ⟨S, 0, none⟩ (.slice (some ⟨g5, 0, none⟩) 1 c5)).cell? ⟨S, 0, none⟩ = some (.slice (some ⟨g5, 0, none⟩) 1 c5) := by rw [Lib.cell_of_heap hbx]; rfl
        have z0 : (w5.setCell ⟨S, 0, none⟩ (.slice (some ⟨g5, 0, none⟩) 1 c5)).cell? ⟨R0, 0, none⟩ = some (.slice none 0 0) := by rw [Lib.cell_of_heap hrs]; rfl
        have zf : ∀ i, (w5.setCell ⟨S, 0, none⟩ (.slice (some ⟨g5, 0, none⟩) 1 c5)).frozen? ⟨R0, i, none⟩ = false := Lib.frozen_of_heap hrs
        clear hbx hrs
        go_wp2
        refine bodyPost_ret (v := .agg #[.slice (some ⟨g5, 0, none⟩) 1 c5]) (by simp [results, Tryz.results10, go_sem, z0]) rfl (subj_end h hF hR0.out (Or.inr (Or.inr (Or.inl ⟨_, rfl, hdc4⟩))) (by rw [hR0.out]; omega))
  · go_upto_if 16 with (fail)
    go_cut [] (fun wx => ∃ (d : CEl) (g c : Nat), DrawnC devB d.x ∧ Subj S R0 C l a0 cap w w2 [d] (.slice (some ⟨g, 0, none⟩) 1 c) wx)
    case first =>
      go_upto_region 4 with (fail)
      have hD0 := hst
      obtain ⟨atv, hcv⟩ := hD0.codes
      have hdr := (Below.refl w2.heap.size w2).drew
      have hctx := Lib.hid (context_any devB (by decide) l a0 cap C atv w2.drew hl (hcv.below hdr) (hD0.draw.kept (Kept.of_below hdr)))
      skip
      have hrow3 := hD0.row.below hdr
      have hown3 := hrow3.lt
      have hw2V := hD0.size
      have hSV : S < w2.heap.size := Nat.lt_of_lt_of_le hS2 hw2V
      have hSC : S ≠ C := by omega
      have s0 : w2.cell? ⟨S, 0, none⟩ = some (Value.slice none 0 0) := by rw [Lib.cell_of_heap hD0.box]; rfl
      have s0' : w2.drew.cell? ⟨S, 0, none⟩ = some (Value.slice none 0 0) := s0
      have hlen2 : ([] : List CEl).length + 1 ≤ 1000 := by decide
      refine wp_region_held_drew (S := fun _ => True) (by kernel_rfl) (trivial) (fun hHeld => ?_)
      refine wpAnyH_take (i := 0) (v := ?_) rfl (by kernel_rfl) (by kernel_rfl) (by kernel_rfl) (fun _ _ _ h => h) (Or.inl ⟨by rfl, ?_⟩) hHeld ?_
      rotate_left
      · intro w' hSw
        go_simp
        try with_reducible rfl
      try simp only [List.getElem_toArray, List.getElem_cons_succ, List.getElem_cons_zero, Act.put, List.setIfInBounds_toArray, List.set_cons_zero, List.set_cons_succ]
      refine wpAnyH_take (i := 2) (v := ?_) rfl (by kernel_rfl) (by kernel_rfl) (by kernel_rfl) (fun _ _ _ h => h) (Or.inl ⟨by rfl, ?_⟩) hHeld ?_
      rotate_left
      · intro w' hSw
        go_simp
        try with_reducible rfl
      try simp only [List.getElem_toArray, List.getElem_cons_succ, List.getElem_cons_zero, Act.put, List.setIfInBounds_toArray, List.set_cons_zero, List.set_cons_succ]
      refine wpAnyH_ready (rs := [1, 3]) (by kernel_rfl) (by simp) ?_
      refine AllReadyH.cons rfl (fun K hK => ?_) (AllReadyH.cons rfl (fun K hK => ?_) AllReadyH.nil)
      · go_simp
        refine hK.out _ _ trivial (fun _ => ?_)
        clear hK K
        try simp only [List.getElem_toArray, List.getElem_cons_succ, List.getElem_cons_zero, Act.put, List.setIfInBounds_toArray, List.set_cons_zero, List.set_cons_succ]
        refine wpAnyH_ready (rs := [3]) (by kernel_rfl) (by simp) ?_
        refine AllReadyH.cons rfl (fun K hK => ?_) AllReadyH.nil
        go_simp
        go_at_call 30
        refine hctx.out.mono ?_
        rintro e w4 ⟨⟨⟨xk, xy, xa⟩, b4, c4, rfl, hdc4, hat4⟩, hk4, hce4⟩
        simp only []
        have q0 := (hk4.cell (p := ⟨S, 0, none⟩) hSV hSC).trans s0
        have hx4 := (hk4.block S hSV hSC).trans hD0.box
        have hS4 := Nat.lt_of_lt_of_le hSV hk4.size
        refine hK.out _ _ trivial (fun _ => ?_)
        clear hK K
        try simp only [List.getElem_toArray, List.getElem_cons_succ, List.getElem_cons_zero, Act.put, List.setIfInBounds_toArray, List.set_cons_zero, List.set_cons_succ]
        have hal := fun o => (Below.refl w4.heap.size w4).alloc (Nat.le_refl _) o
        have hrow4 := hrow3.kept hk4 (by omega) (fun b hb => by omega)
        have hok4 := hat4.mono (Q := fun b => w2.heap.size ≤ b ∧ (Value.slice none 0 0).ownBlock ≠ some b) (fun b _ hb => ⟨Nat.le_trans hw2V hb, fun e => by have := (hown3 b e).2; simp at this hb; omega⟩)
        refine wpAnyH_ready (rs := [4]) (by kernel_rfl) (by simp) ?_
        refine AllReadyH.cons rfl (fun K hK => ?_) AllReadyH.nil
        go_simp
        refine hK.out _ _ trivial (fun _ => ?_)
        clear hK K
        try simp only [List.getElem_toArray, List.getElem_cons_succ, List.getElem_cons_zero, Act.put, List.setIfInBounds_toArray, List.set_cons_zero, List.set_cons_succ]
        refine wpAnyH_ready (rs := [5]) (by kernel_rfl) (by simp) ?_
        refine AllReadyH.cons rfl (fun K hK => ?_) AllReadyH.nil
        refine step_grow eltC (by rfl) _ _ (by rfl) (hrow4.below (hal _)) (by rfl) [⟨⟨xk, xy, xa⟩, b4, c4⟩] ⟨w4.heap.size, 0, none⟩ 1 1 (by rfl) (by rfl) (news_one eltC ⟨⟨xk, xy, xa⟩, b4, c4⟩ w4) (fun e he => by obtain rfl := List.mem_singleton.1 he; exact hok4.same (SameB.of_below (hal _))) (by decide) hlen2 (Nat.le_trans (Nat.le_trans hw2V hk4.size) (hal _).size) ?_
        intro g5 c5 w5 hrow5 hgr5 hlies5 hb5
        have hx5 := (hb5.block S hS2).trans (((hal _).block S hS4).trans hx4)
        have zf5 : ∀ i, w5.frozen? ⟨S, i, none⟩ = false := Lib.frozen_of_heap hx5
        have u0 := (hb5.cell (p := ⟨S, 0, none⟩) hS2).trans (((hal _).cell (p := ⟨S, 0, none⟩) hS4).trans q0)
        refine hK.out _ _ trivial (fun _ => ?_)
        clear hK K
        try simp only [List.getElem_toArray, List.getElem_cons_succ, List.getElem_cons_zero, Act.put, List.setIfInBounds_toArray, List.set_cons_zero, List.set_cons_succ]
        refine wpAnyH_take (i := 6) (v := ?_) rfl (by kernel_rfl) (by kernel_rfl) (by kernel_rfl) (fun _ _ _ h => h) (Or.inl ⟨by rfl, ?_⟩) hHeld ?_
        rotate_left
        · intro w' hSw
          go_simp
          try with_reducible rfl
        try simp only [List.getElem_toArray, List.getElem_cons_succ, List.getElem_cons_zero, Act.put, List.setIfInBounds_toArray, List.set_cons_zero, List.set_cons_succ]
        refine wpAnyH_ready (rs := [7]) (by kernel_rfl) (by simp) ?_
        refine AllReadyH.cons rfl (fun K hK => ?_) AllReadyH.nil
        go_simp
        refine hK.out _ _ trivial (fun _ => ?_)
        clear hK K
        try simp only [List.getElem_toArray, List.getElem_cons_succ, List.getElem_cons_zero, Act.put, List.setIfInBounds_toArray, List.set_cons_zero, List.set_cons_succ]
        refine wpAnyH_done (by kernel_rfl) ?_ _
        have hD5 := subj_next (x := ⟨xk, xy, xa⟩) (b4 := b4) (c4 := c4) h hG hD0 hk4 hce4 hb5 hrow5 hx5 hSR hS2 hR0.out hCw
        simp only [List.nil_append, List.length_nil, Nat.zero_add] at hD5
        go_wp2
        go_meet
        case rel => exact ⟨_, _, _, hdc4, hD5⟩
      · go_simp
        go_at_call 30
        refine hctx.out.mono ?_
        rintro e w4 ⟨⟨⟨xk, xy, xa⟩, b4, c4, rfl, hdc4, hat4⟩, hk4, hce4⟩
        simp only []
        have q0 := (hk4.cell (p := ⟨S, 0, none⟩) hSV hSC).trans s0
        have hx4 := (hk4.block S hSV hSC).trans hD0.box
        have hS4 := Nat.lt_of_lt_of_le hSV hk4.size
        refine hK.out _ _ trivial (fun _ => ?_)
        clear hK K
        try simp only [List.getElem_toArray, List.getElem_cons_succ, List.getElem_cons_zero, Act.put, List.setIfInBounds_toArray, List.set_cons_zero, List.set_cons_succ]
        have hal := fun o => (Below.refl w4.heap.size w4).alloc (Nat.le_refl _) o
        have hrow4 := hrow3.kept hk4 (by omega) (fun b hb => by omega)
        have hok4 := hat4.mono (Q := fun b => w2.heap.size ≤ b ∧ (Value.slice none 0 0).ownBlock ≠ some b) (fun b _ hb => ⟨Nat.le_trans hw2V hb, fun e => by have := (hown3 b e).2; simp at this hb; omega⟩)
        refine wpAnyH_ready (rs := [1, 4]) (by kernel_rfl) (by simp) ?_
        refine AllReadyH.cons rfl (fun K hK => ?_) (AllReadyH.cons rfl (fun K hK => ?_) AllReadyH.nil)
        · go_simp
          refine hK.out _ _ trivial (fun _ => ?_)
          clear hK K
          try simp only [List.getElem_toArray, List.getElem_cons_succ, List.getElem_cons_zero, Act.put, List.setIfInBounds_toArray, List.set_cons_zero, List.set_cons_succ]
          refine wpAnyH_ready (rs := [4]) (by kernel_rfl) (by simp) ?_
          refine AllReadyH.cons rfl (fun K hK => ?_) AllReadyH.nil
          go_simp
          refine hK.out _ _ trivial (fun _ => ?_)
          clear hK K
          try simp only [List.getElem_toArray, List.getElem_cons_succ, List.getElem_cons_zero, Act.put, List.setIfInBounds_toArray, List.set_cons_zero, List.set_cons_succ]
          refine wpAnyH_ready (rs := [5]) (by kernel_rfl) (by simp) ?_
          refine AllReadyH.cons rfl (fun K hK => ?_) AllReadyH.nil
          refine step_grow eltC (by rfl) _ _ (by rfl) (hrow4.below (hal _)) (by rfl) [⟨⟨xk, xy, xa⟩, b4, c4⟩] ⟨w4.heap.size, 0, none⟩ 1 1 (by rfl) (by rfl) (news_one eltC ⟨⟨xk, xy, xa⟩, b4, c4⟩ w4) (fun e he => by obtain rfl := List.mem_singleton.1 he; exact hok4.same (SameB.of_below (hal _))) (by decide) hlen2 (Nat.le_trans (Nat.le_trans hw2V hk4.size) (hal _).size) ?_
          intro g5 c5 w5 hrow5 hgr5 hlies5 hb5
          have hx5 := (hb5.block S hS2).trans (((hal _).block S hS4).trans hx4)
          have zf5 : ∀ i, w5.frozen? ⟨S, i, none⟩ = false := Lib.frozen_of_heap hx5
          have u0 := (hb5.cell (p := ⟨S, 0, none⟩) hS2).trans (((hal _).cell (p := ⟨S, 0, none⟩) hS4).trans q0)
          refine hK.out _ _ trivial (fun _ => ?_)
          clear hK K
          try simp only [List.getElem_toArray, List.getElem_cons_succ, List.getElem_cons_zero, Act.put, List.setIfInBounds_toArray, List.set_cons_zero, List.set_cons_succ]
          refine wpAnyH_take (i := 6) (v := ?_) rfl (by kernel_rfl) (by kernel_rfl) (by kernel_rfl) (fun _ _ _ h => h) (Or.inl ⟨by rfl, ?_⟩) hHeld ?_
          rotate_left
          · intro w' hSw
            go_simp
            try with_reducible rfl
          try simp only [List.getElem_toArray, List.getElem_cons_succ, List.getElem_cons_zero, Act.put, List.setIfInBounds_toArray, List.set_cons_zero, List.set_cons_succ]
          refine wpAnyH_ready (rs := [7]) (by kernel_rfl) (by simp) ?_
          refine AllReadyH.cons rfl (fun K hK => ?_) AllReadyH.nil
          go_simp
          refine hK.out _ _ trivial (fun _ => ?_)
          clear hK K
          try simp only [List.getElem_toArray, List.getElem_cons_succ, List.getElem_cons_zero, Act.put, List.setIfInBounds_toArray, List.set_cons_zero, List.set_cons_succ]
          refine wpAnyH_done (by kernel_rfl) ?_ _
          have hD5 := subj_next (x := ⟨xk, xy, xa⟩) (b4 := b4) (c4 := c4) h hG hD0 hk4 hce4 hb5 hrow5 hx5 hSR hS2 hR0.out hCw
          simp only [List.nil_append, List.length_nil, Nat.zero_add] at hD5
          go_wp2
          go_meet
          case rel => exact ⟨_, _, _, hdc4, hD5⟩
        · go_simp
          refine hK.out _ _ trivial (fun _ => ?_)
          clear hK K
          try simp only [List.getElem_toArray, List.getElem_cons_succ, List.getElem_cons_zero, Act.put, List.setIfInBounds_toArray, List.set_cons_zero, List.set_cons_succ]
          refine wpAnyH_ready (rs := [1]) (by kernel_rfl) (by simp) ?_
          refine AllReadyH.cons rfl (fun K hK => ?_) AllReadyH.nil
          have q0' := fun o => ((hal o).cell (p := ⟨S, 0, none⟩) hS4).trans q0
          go_simp
          refine hK.out _ _ trivial (fun _ => ?_)
          clear hK K
          try simp only [List.getElem_toArray, List.getElem_cons_succ, List.getElem_cons_zero, Act.put, List.setIfInBounds_toArray, List.set_cons_zero, List.set_cons_succ]
          refine wpAnyH_ready (rs := [5]) (by kernel_rfl) (by simp) ?_
          refine AllReadyH.cons rfl (fun K hK => ?_) AllReadyH.nil
          refine step_grow eltC (by rfl) _ _ (by rfl) (hrow4.below (hal _)) (by rfl) [⟨⟨xk, xy, xa⟩, b4, c4⟩] ⟨w4.heap.size, 0, none⟩ 1 1 (by rfl) (by rfl) (news_one eltC ⟨⟨xk, xy, xa⟩, b4, c4⟩ w4) (fun e he => by obtain rfl := List.mem_singleton.1 he; exact hok4.same (SameB.of_below (hal _))) (by decide) hlen2 (Nat.le_trans (Nat.le_trans hw2V hk4.size) (hal _).size) ?_
          intro g5 c5 w5 hrow5 hgr5 hlies5 hb5
          have hx5 := (hb5.block S hS2).trans (((hal _).block S hS4).trans hx4)
          have zf5 : ∀ i, w5.frozen? ⟨S, i, none⟩ = false := Lib.frozen_of_heap hx5
          have u0 := (hb5.cell (p := ⟨S, 0, none⟩) hS2).trans (((hal _).cell (p := ⟨S, 0, none⟩) hS4).trans q0)
          refine hK.out _ _ trivial (fun _ => ?_)
          clear hK K
          try simp only [List.getElem_toArray, List.getElem_cons_succ, List.getElem_cons_zero, Act.put, List.setIfInBounds_toArray, List.set_cons_zero, List.set_cons_succ]
          refine wpAnyH_take (i := 6) (v := ?_) rfl (by kernel_rfl) (by kernel_rfl) (by kernel_rfl) (fun _ _ _ h => h) (Or.inl ⟨by rfl, ?_⟩) hHeld ?_
          rotate_left
          · intro w' hSw
            go_simp
            try with_reducible rfl
          try simp only [List.getElem_toArray, List.getElem_cons_succ, List.getElem_cons_zero, Act.put, List.setIfInBounds_toArray, List.set_cons_zero, List.set_cons_succ]
          refine wpAnyH_ready (rs := [7]) (by kernel_rfl) (by simp) ?_
          refine AllReadyH.cons rfl (fun K hK => ?_) AllReadyH.nil
          go_simp
          refine hK.out _ _ trivial (fun _ => ?_)
          clear hK K
          try simp only [List.getElem_toArray, List.getElem_cons_succ, List.getElem_cons_zero, Act.put, List.setIfInBounds_toArray, List.set_cons_zero, List.set_cons_succ]
          refine wpAnyH_done (by kernel_rfl) ?_ _
          have hD5 := subj_next (x := ⟨xk, xy, xa⟩) (b4 := b4) (c4 := c4) h hG hD0 hk4 hce4 hb5 hrow5 hx5 hSR hS2 hR0.out hCw
          simp only [List.nil_append, List.length_nil, Nat.zero_add] at hD5
          go_wp2
          go_meet
          case rel => exact ⟨_, _, _, hdc4, hD5⟩
    case rest =>
      obtain ⟨de, gd, cd, hdd, hcS⟩ := hcut
      go_upto_region 6 with (fail)
      have hD0 := hcS
      obtain ⟨atv, hcv⟩ := hD0.codes
      have hdr := (Below.refl wc.heap.size wc).drew
      have hctx := Lib.hid (context_any usrB (by decide) l a0 cap C atv wc.drew hl (hcv.below hdr) (hD0.draw.kept (Kept.of_below hdr)))
      skip
      have hrow3 := hD0.row.below hdr
      have hown3 := hrow3.lt
      have hw2V := hD0.size
      have hSV : S < wc.heap.size := Nat.lt_of_lt_of_le hS2 hw2V
      have hSC : S ≠ C := by omega
      have s0 : wc.cell? ⟨S, 0, none⟩ = some (Value.slice (some ⟨gd, 0, none⟩) 1 cd) := by rw [Lib.cell_of_heap hD0.box]; rfl
      have s0' : wc.drew.cell? ⟨S, 0, none⟩ = some (Value.slice (some ⟨gd, 0, none⟩) 1 cd) := s0
      have hlen2 : ([de] : List CEl).length + 1 ≤ 1000 := by simp
      refine wp_region_held_drew (S := fun _ => True) (by kernel_rfl) (trivial) (fun hHeld => ?_)
      refine wpAnyH_take (i := 0) (v := ?_) rfl (by kernel_rfl) (by kernel_rfl) (by kernel_rfl) (fun _ _ _ h => h) (Or.inl ⟨by rfl, ?_⟩) hHeld ?_
      rotate_left
      · intro w' hSw
        go_simp
        try with_reducible rfl
      try simp only [List.getElem_toArray, List.getElem_cons_succ, List.getElem_cons_zero, Act.put, List.setIfInBounds_toArray, List.set_cons_zero, List.set_cons_succ]
      refine wpAnyH_take (i := 2) (v := ?_) rfl (by kernel_rfl) (by kernel_rfl) (by kernel_rfl) (fun _ _ _ h => h) (Or.inl ⟨by rfl, ?_⟩) hHeld ?_
      rotate_left
      · intro w' hSw
        go_simp
        try with_reducible rfl
      try simp only [List.getElem_toArray, List.getElem_cons_succ, List.getElem_cons_zero, Act.put, List.setIfInBounds_toArray, List.set_cons_zero, List.set_cons_succ]
      refine wpAnyH_ready (rs := [1, 3]) (by kernel_rfl) (by simp) ?_
      refine AllReadyH.cons rfl (fun K hK => ?_) (AllReadyH.cons rfl (fun K hK => ?_) AllReadyH.nil)
      · go_simp
        refine hK.out _ _ trivial (fun _ => ?_)
        clear hK K
        try simp only [List.getElem_toArray, List.getElem_cons_succ, List.getElem_cons_zero, Act.put, List.setIfInBounds_toArray, List.set_cons_zero, List.set_cons_succ]
        refine wpAnyH_ready (rs := [3]) (by kernel_rfl) (by simp) ?_
        refine AllReadyH.cons rfl (fun K hK => ?_) AllReadyH.nil
        go_simp
        go_at_call 30
        refine hctx.out.mono ?_
        rintro e w4 ⟨⟨⟨xk, xy, xa⟩, b4, c4, rfl, hdc4, hat4⟩, hk4, hce4⟩
        simp only []
        have q0 := (hk4.cell (p := ⟨S, 0, none⟩) hSV hSC).trans s0
        have hx4 := (hk4.block S hSV hSC).trans hD0.box
        have hS4 := Nat.lt_of_lt_of_le hSV hk4.size
        refine hK.out _ _ trivial (fun _ => ?_)
        clear hK K
        try simp only [List.getElem_toArray, List.getElem_cons_succ, List.getElem_cons_zero, Act.put, List.setIfInBounds_toArray, List.set_cons_zero, List.set_cons_succ]
        have hal := fun o => (Below.refl w4.heap.size w4).alloc (Nat.le_refl _) o
        have hrow4 := hrow3.kept hk4 (by omega) (fun b hb => by omega)
        have hok4 := hat4.mono (Q := fun b => w2.heap.size ≤ b ∧ (Value.slice (some ⟨gd, 0, none⟩) 1 cd).ownBlock ≠ some b) (fun b _ hb => ⟨Nat.le_trans hw2V hb, fun e => by have := (hown3 b e).2; simp at this hb; omega⟩)
        refine wpAnyH_ready (rs := [4]) (by kernel_rfl) (by simp) ?_
        refine AllReadyH.cons rfl (fun K hK => ?_) AllReadyH.nil
        go_simp
        refine hK.out _ _ trivial (fun _ => ?_)
        clear hK K
        try simp only [List.getElem_toArray, List.getElem_cons_succ, List.getElem_cons_zero, Act.put, List.setIfInBounds_toArray, List.set_cons_zero, List.set_cons_succ]
        refine wpAnyH_ready (rs := [5]) (by kernel_rfl) (by simp) ?_
        refine AllReadyH.cons rfl (fun K hK => ?_) AllReadyH.nil
        refine step_grow eltC (by rfl) _ _ (by rfl) (hrow4.below (hal _)) (by rfl) [⟨⟨xk, xy, xa⟩, b4, c4⟩] ⟨w4.heap.size, 0, none⟩ 1 1 (by rfl) (by rfl) (news_one eltC ⟨⟨xk, xy, xa⟩, b4, c4⟩ w4) (fun e he => by obtain rfl := List.mem_singleton.1 he; exact hok4.same (SameB.of_below (hal _))) (by decide) hlen2 (Nat.le_trans (Nat.le_trans hw2V hk4.size) (hal _).size) ?_
        intro g5 c5 w5 hrow5 hgr5 hlies5 hb5
        have hx5 := (hb5.block S hS2).trans (((hal _).block S hS4).trans hx4)
        have zf5 : ∀ i, w5.frozen? ⟨S, i, none⟩ = false := Lib.frozen_of_heap hx5
        have u0 := (hb5.cell (p := ⟨S, 0, none⟩) hS2).trans (((hal _).cell (p := ⟨S, 0, none⟩) hS4).trans q0)
        refine hK.out _ _ trivial (fun _ => ?_)
        clear hK K
        try simp only [List.getElem_toArray, List.getElem_cons_succ, List.getElem_cons_zero, Act.put, List.setIfInBounds_toArray, List.set_cons_zero, List.set_cons_succ]
        refine wpAnyH_take (i := 6) (v := ?_) rfl (by kernel_rfl) (by kernel_rfl) (by kernel_rfl) (fun _ _ _ h => h) (Or.inl ⟨by rfl, ?_⟩) hHeld ?_
        rotate_left
        · intro w' hSw
          go_simp
          try with_reducible rfl
        try simp only [List.getElem_toArray, List.getElem_cons_succ, List.getElem_cons_zero, Act.put, List.setIfInBounds_toArray, List.set_cons_zero, List.set_cons_succ]
        refine wpAnyH_ready (rs := [7]) (by kernel_rfl) (by simp) ?_
        refine AllReadyH.cons rfl (fun K hK => ?_) AllReadyH.nil
        go_simp
        refine hK.out _ _ trivial (fun _ => ?_)
        clear hK K
        try simp only [List.getElem_toArray, List.getElem_cons_succ, List.getElem_cons_zero, Act.put, List.setIfInBounds_toArray, List.set_cons_zero, List.set_cons_succ]
        refine wpAnyH_done (by kernel_rfl) ?_ _
        have hD5 := subj_next (x := ⟨xk, xy, xa⟩) (b4 := b4) (c4 := c4) h hG hD0 hk4 hce4 hb5 hrow5 hx5 hSR hS2 hR0.out hCw
        have hD6 := hD5
        simp only [List.cons_append, List.nil_append, List.length_cons, List.length_nil, Nat.zero_add, Nat.reduceAdd] at hD6
        have hF := hD6
        have hbx := hF.box
        have hrs := hF.res
        have x0 : (w5.setCell ⟨S, 0, none⟩ (.slice (some ⟨g5, 0, none⟩) 2 c5)).cell? ⟨S, 0, none⟩ = some (.slice (some ⟨g5, 0, none⟩) 2 c5) := by rw [Lib.cell_of_heap hbx]; rfl
        have z0 : (w5.setCell ⟨S, 0, none⟩ (.slice (some ⟨g5, 0, none⟩) 2 c5)).cell? ⟨R0, 0, none⟩ = some (.slice none 0 0) := by rw [Lib.cell_of_heap hrs]; rfl
        have zf : ∀ i, (w5.setCell ⟨S, 0, none⟩ (.slice (some ⟨g5, 0, none⟩) 2 c5)).frozen? ⟨R0, i, none⟩ = false := Lib.frozen_of_heap hrs
        clear hbx hrs
        go_wp2
        refine bodyPost_ret (v := .agg #[.slice (some ⟨g5, 0, none⟩) 2 c5]) (by simp [results, Tryz.results10, go_sem, z0]) rfl (subj_end h hF hR0.out (Or.inr (Or.inr (Or.inr ⟨_, _, rfl, hdd, hdc4⟩))) (by rw [hR0.out]; omega))
      · go_simp
        go_at_call 30
        refine hctx.out.mono ?_
        rintro e w4 ⟨⟨⟨xk, xy, xa⟩, b4, c4, rfl, hdc4, hat4⟩, hk4, hce4⟩
        simp only []
        have q0 := (hk4.cell (p := ⟨S, 0, none⟩) hSV hSC).trans s0
        have hx4 := (hk4.block S hSV hSC).trans hD0.box
        have hS4 := Nat.lt_of_lt_of_le hSV hk4.size
        refine hK.out _ _ trivial (fun _ => ?_)
        clear hK K
        try simp only [List.getElem_toArray, List.getElem_cons_succ, List.getElem_cons_zero, Act.put, List.setIfInBounds_toArray, List.set_cons_zero, List.set_cons_succ]
        have hal := fun o => (Below.refl w4.heap.size w4).alloc (Nat.le_refl _) o
        have hrow4 := hrow3.kept hk4 (by omega) (fun b hb => by omega)
        have hok4 := hat4.mono (Q := fun b => w2.heap.size ≤ b ∧ (Value.slice (some ⟨gd, 0, none⟩) 1 cd).ownBlock ≠ some b) (fun b _ hb => ⟨Nat.le_trans hw2V hb, fun e => by have := (hown3 b e).2; simp at this hb; omega⟩)
        refine wpAnyH_ready (rs := [1, 4]) (by kernel_rfl) (by simp) ?_
        refine AllReadyH.cons rfl (fun K hK => ?_) (AllReadyH.cons rfl (fun K hK => ?_) AllReadyH.nil)
        · go_simp
          refine hK.out _ _ trivial (fun _ => ?_)
          clear hK K
          try simp only [List.getElem_toArray, List.getElem_cons_succ, List.getElem_cons_zero, Act.put, List.setIfInBounds_toArray, List.set_cons_zero, List.set_cons_succ]
          refine wpAnyH_ready (rs := [4]) (by kernel_rfl) (by simp) ?_
          refine AllReadyH.cons rfl (fun K hK => ?_) AllReadyH.nil
          go_simp
          refine hK.out _ _ trivial (fun _ => ?_)
          clear hK K
          try simp only [List.getElem_toArray, List.getElem_cons_succ, List.getElem_cons_zero, Act.put, List.setIfInBounds_toArray, List.set_cons_zero, List.set_cons_succ]
          refine wpAnyH_ready (rs := [5]) (by kernel_rfl) (by simp) ?_
          refine AllReadyH.cons rfl (fun K hK => ?_) AllReadyH.nil
          refine step_grow eltC (by rfl) _ _ (by rfl) (hrow4.below (hal _)) (by rfl) [⟨⟨xk, xy, xa⟩, b4, c4⟩] ⟨w4.heap.size, 0, none⟩ 1 1 (by rfl) (by rfl) (news_one eltC ⟨⟨xk, xy, xa⟩, b4, c4⟩ w4) (fun e he => by obtain rfl := List.mem_singleton.1 he; exact hok4.same (SameB.of_below (hal _))) (by decide) hlen2 (Nat.le_trans (Nat.le_trans hw2V hk4.size) (hal _).size) ?_
          intro g5 c5 w5 hrow5 hgr5 hlies5 hb5
          have hx5 := (hb5.block S hS2).trans (((hal _).block S hS4).trans hx4)
          have zf5 : ∀ i, w5.frozen? ⟨S, i, none⟩ = false := Lib.frozen_of_heap hx5
          have u0 := (hb5.cell (p := ⟨S, 0, none⟩) hS2).trans (((hal _).cell (p := ⟨S, 0, none⟩) hS4).trans q0)
          refine hK.out _ _ trivial (fun _ => ?_)
          clear hK K
          try simp only [List.getElem_toArray, List.getElem_cons_succ, List.getElem_cons_zero, Act.put, List.setIfInBounds_toArray, List.set_cons_zero, List.set_cons_succ]
          refine wpAnyH_take (i := 6) (v := ?_) rfl (by kernel_rfl) (by kernel_rfl) (by kernel_rfl) (fun _ _ _ h => h) (Or.inl ⟨by rfl, ?_⟩) hHeld ?_
          rotate_left
          · intro w' hSw
            go_simp
            try with_reducible rfl
          try simp only [List.getElem_toArray, List.getElem_cons_succ, List.getElem_cons_zero, Act.put, List.setIfInBounds_toArray, List.set_cons_zero, List.set_cons_succ]
          refine wpAnyH_ready (rs := [7]) (by kernel_rfl) (by simp) ?_
          refine AllReadyH.cons rfl (fun K hK => ?_) AllReadyH.nil
          go_simp
          refine hK.out _ _ trivial (fun _ => ?_)
          clear hK K
          try simp only [List.getElem_toArray, List.getElem_cons_succ, List.getElem_cons_zero, Act.put, List.setIfInBounds_toArray, List.set_cons_zero, List.set_cons_succ]
          refine wpAnyH_done (by kernel_rfl) ?_ _
          have hD5 := subj_next (x := ⟨xk, xy, xa⟩) (b4 := b4) (c4 := c4) h hG hD0 hk4 hce4 hb5 hrow5 hx5 hSR hS2 hR0.out hCw
          have hD6 := hD5
          simp only [List.cons_append, List.nil_append, List.length_cons, List.length_nil, Nat.zero_add, Nat.reduceAdd] at hD6
          have hF := hD6
          have hbx := hF.box
          have hrs := hF.res
          have x0 : (w5.setCell ⟨S, 0, none⟩ (.slice (some ⟨g5, 0, none⟩) 2 c5)).cell? ⟨S, 0, none⟩ = some (.slice (some ⟨g5, 0, none⟩) 2 c5) := by rw [Lib.cell_of_heap hbx]; rfl
          have z0 : (w5.setCell ⟨S, 0, none⟩ (.slice (some ⟨g5, 0, none⟩) 2 c5)).cell? ⟨R0, 0, none⟩ = some (.slice none 0 0) := by rw [Lib.cell_of_heap hrs]; rfl
          have zf : ∀ i, (w5.setCell ⟨S, 0, none⟩ (.slice (some ⟨g5, 0, none⟩) 2 c5)).frozen? ⟨R0, i, none⟩ = false := Lib.frozen_of_heap hrs
          clear hbx hrs
          go_wp2
          refine bodyPost_ret (v := .agg #[.slice (some ⟨g5, 0, none⟩) 2 c5]) (by simp [results, Tryz.results10, go_sem, z0]) rfl (subj_end h hF hR0.out (Or.inr (Or.inr (Or.inr ⟨_, _, rfl, hdd, hdc4⟩))) (by rw [hR0.out]; omega))
        · go_simp
          refine hK.out _ _ trivial (fun _ => ?_)
          clear hK K
          try simp only [List.getElem_toArray, List.getElem_cons_succ, List.getElem_cons_zero, Act.put, List.setIfInBounds_toArray, List.set_cons_zero, List.set_cons_succ]
          refine wpAnyH_ready (rs := [1]) (by kernel_rfl) (by simp) ?_
          refine AllReadyH.cons rfl (fun K hK => ?_) AllReadyH.nil
          have q0' := fun o => ((hal o).cell (p := ⟨S, 0, none⟩) hS4).trans q0
          go_simp
          refine hK.out _ _ trivial (fun _ => ?_)
          clear hK K
          try simp only [List.getElem_toArray, List.getElem_cons_succ, List.getElem_cons_zero, Act.put, List.setIfInBounds_toArray, List.set_cons_zero, List.set_cons_succ]
          refine wpAnyH_ready (rs := [5]) (by kernel_rfl) (by simp) ?_
          refine AllReadyH.cons rfl (fun K hK => ?_) AllReadyH.nil
          refine step_grow eltC (by rfl) _ _ (by rfl) (hrow4.below (hal _)) (by rfl) [⟨⟨xk, xy, xa⟩, b4, c4⟩] ⟨w4.heap.size, 0, none⟩ 1 1 (by rfl) (by rfl) (news_one eltC ⟨⟨xk, xy, xa⟩, b4, c4⟩ w4) (fun e he => by obtain rfl := List.mem_singleton.1 he; exact hok4.same (SameB.of_below (hal _))) (by decide) hlen2 (Nat.le_trans (Nat.le_trans hw2V hk4.size) (hal _).size) ?_
          intro g5 c5 w5 hrow5 hgr5 hlies5 hb5
          have hx5 := (hb5.block S hS2).trans (((hal _).block S hS4).trans hx4)
          have zf5 : ∀ i, w5.frozen? ⟨S, i, none⟩ = false := Lib.frozen_of_heap hx5
          have u0 := (hb5.cell (p := ⟨S, 0, none⟩) hS2).trans (((hal _).cell (p := ⟨S, 0, none⟩) hS4).trans q0)
          refine hK.out _ _ trivial (fun _ => ?_)
          clear hK K
          try simp only [List.getElem_toArray, List.getElem_cons_succ, List.getElem_cons_zero, Act.put, List.setIfInBounds_toArray, List.set_cons_zero, List.set_cons_succ]
          refine wpAnyH_take (i := 6) (v := ?_) rfl (by kernel_rfl) (by kernel_rfl) (by kernel_rfl) (fun _ _ _ h => h) (Or.inl ⟨by rfl, ?_⟩) hHeld ?_
          rotate_left
          · intro w' hSw
            go_simp
            try with_reducible rfl
          try simp only [List.getElem_toArray, List.getElem_cons_succ, List.getElem_cons_zero, Act.put, List.setIfInBounds_toArray, List.set_cons_zero, List.set_cons_succ]
          refine wpAnyH_ready (rs := [7]) (by kernel_rfl) (by simp) ?_
          refine AllReadyH.cons rfl (fun K hK => ?_) AllReadyH.nil
          go_simp
          refine hK.out _ _ trivial (fun _ => ?_)
          clear hK K
          try simp only [List.getElem_toArray, List.getElem_cons_succ, List.getElem_cons_zero, Act.put, List.setIfInBounds_toArray, List.set_cons_zero, List.set_cons_succ]
          refine wpAnyH_done (by kernel_rfl) ?_ _
          have hD5 := subj_next (x := ⟨xk, xy, xa⟩) (b4 := b4) (c4 := c4) h hG hD0 hk4 hce4 hb5 hrow5 hx5 hSR hS2 hR0.out hCw
          have hD6 := hD5
          simp only [List.cons_append, List.nil_append, List.length_cons, List.length_nil, Nat.zero_add, Nat.reduceAdd] at hD6
          have hF := hD6
          have hbx := hF.box
          have hrs := hF.res
          have x0 : (w5.setCell ⟨S, 0, none⟩ (.slice (some ⟨g5, 0, none⟩) 2 c5)).cell? ⟨S, 0, none⟩ = some (.slice (some ⟨g5, 0, none⟩) 2 c5) := by rw [Lib.cell_of_heap hbx]; rfl
          have z0 : (w5.setCell ⟨S, 0, none⟩ (.slice (some ⟨g5, 0, none⟩) 2 c5)).cell? ⟨R0, 0, none⟩ = some (.slice none 0 0) := by rw [Lib.cell_of_heap hrs]; rfl
          have zf : ∀ i, (w5.setCell ⟨S, 0, none⟩ (.slice (some ⟨g5, 0, none⟩) 2 c5)).frozen? ⟨R0, i, none⟩ = false := Lib.frozen_of_heap hrs
          clear hbx hrs
          go_wp2
          refine bodyPost_ret (v := .agg #[.slice (some ⟨g5, 0, none⟩) 2 c5]) (by simp [results, Tryz.results10, go_sem, z0]) rfl (subj_end h hF hR0.out (Or.inr (Or.inr (Or.inr ⟨_, _, rfl, hdd, hdc4⟩))) (by rw [hR0.out]; omega))
  · have hF := hst
    have hbx := hF.box
    have hrs := hF.res
    have x0 : w2.cell? ⟨S, 0, none⟩ = some (.slice none 0 0) := by rw [Lib.cell_of_heap hbx]; rfl
    have z0 : w2.cell? ⟨R0, 0, none⟩ = some (.slice none 0 0) := by rw [Lib.cell_of_heap hrs]; rfl
    have zf : ∀ i, w2.frozen? ⟨R0, i, none⟩ = false := Lib.frozen_of_heap hrs
    clear hbx hrs
    go_wp2
    refine bodyPost_ret (v := .agg #[.slice none 0 0]) (by simp [results, Tryz.results10, go_sem, z0]) rfl (subj_end h hF hR0.out (Or.inl rfl) (by rw [hR0.out]; omega))
end Go.Proofs.YtcbnefeedoabeaaGreatDoor
