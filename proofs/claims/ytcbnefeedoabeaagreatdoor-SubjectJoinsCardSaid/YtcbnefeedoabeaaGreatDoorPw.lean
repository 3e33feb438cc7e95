/- The package's Encode. The package's Encode: values, attributes, contexts, subjects. A valid subject is small, and its bytes are decoded as it was: plain laws. The document's Encode of any subject. -/
import Derived.Test.YtcbnefeedoabeaaGreatDoorPt
import Derived.Test.YtcbnefeedoabeaaGreatDoorPq
import Derived.Test.YtcbnefeedoabeaaGreatDoorPr
import Derived.Test.YtcbnefeedoabeaaGreatDoorPe
import Derived.ArgAppend
/- The package's Encode. -/
namespace Go.Proofs.YtcbnefeedoabeaaGreatDoor
open Go Go.RowKit

theorem Made.ofB {l : List UInt8} {w w' : World} {en : Ending} (h : Wi.MadeB l w en w') : Made l w en w' := by
  obtain ⟨a1, c1, rfl, h1, h2, _, h4, h5⟩ := h
  exact ⟨a1, c1, rfl, ⟨h1, h2, h4⟩, h5⟩
/-- Bytes without spare capacity. -/
def MadeF (l : List UInt8) (w : World) (en : Ending) (w' : World) : Prop := ∃ a1, en = .returned (.slice a1 (l.length : Nat) l.length) ∧ Wi.Src a1 l l.length w' ∧ Below w.heap.size w w'
theorem joinF_any (a0 : Option Addr) (fs : List (List UInt8)) (cap : Nat) (w : World) (hl : fs.length ≤ 1000) (hf : fs.flatten.length ≤ 1000000) (hF : Wi.FieldsAre a0 fs w) :
    Calls Tryz.prog 135 #[.slice a0 (fs.length : Nat) cap] w (MadeF fs.flatten w) := by
  have hc := Wi.concat_any a0 fs cap w hl hf hF
  generalize fs.flatten = l at hc hf ⊢
  have hc := Lib.hid hc
  generalize fs.length = n at hc ⊢
  go_enter Tryz.func135, Tryz.ntmps135
  go_wp2_with (go_at_call 92; refine hc.out.mono ?_)
  rintro e w1 ⟨v1, rfl, hown, hb⟩
  obtain ⟨a1, c1, rfl, h1, h2, h3, h4⟩ := hown.fits
  go_wp2_with (go_at_call 91; refine (Wi.clip_any a1 l.length c1 _ h2).mono ?_; rintro e w2 ⟨rfl, rfl⟩)
  go_ret
  exact ⟨a1, rfl, ⟨fun h => by have := h1 h; omega, Nat.le_refl _, h4⟩, hb⟩
theorem src_nil (w : World) : Wi.Src none [] 0 w := ⟨fun _ => rfl, Nat.le_refl _, fun i hi => by simp at hi⟩
theorem putNF (n : Int) (w : World) (hn : -9223372036854775808 ≤ n ∧ n ≤ 9223372036854775807) :
    Calls Tryz.prog 90 #[.slice none 0 0, .int .i64 n] w (MadeF (Wi.numB n) w) := by
  have hg := Lib.hid (fun W => Wi.groups_any n W hn.1 hn.2)
  have hlen := Wi.numB_len n hn.1 hn.2
  generalize Wi.numB n = L at hg hlen ⊢
  clear hn
  go_enter Tryz.func90, Tryz.ntmps90
  go_wp2_with (go_at_call 136; refine (hg.out _).mono ?_)
  rintro e w1 ⟨a1, c1, rfl, k1, k2, k3, k4, hb⟩
  have hj := joinF_any (some ⟨w1.heap.size, 0, none⟩) [[], L] 2 _ (by simp) (by simp; omega) (Wi.fields2 (src_nil w1) (⟨k1, k2, k4⟩ : Wi.Src a1 L c1 w1))
  rw [show [[], L].flatten = L from by simp] at hj
  have hj : Calls Tryz.prog 135 #[.slice (some ⟨w1.heap.size, 0, none⟩) 2 2] (w1.alloc (.cells #[.slice none 0 0, .slice a1 (L.length : Nat) c1] 22)) (MadeF L _) := hj
  replace hj := Lib.hid hj
  go_wp2_with (go_at_call 135; refine hj.out.mono ?_)
  rintro e w2 ⟨b1, rfl, m1, hb2⟩
  go_wp2
  go_ret
  exact ⟨b1, rfl, m1, hb.trans ((((Below.refl _ w1).alloc (Nat.le_refl _) _).trans (hb2.mono (by simp))).mono hb.size)⟩
theorem encodeText_any (s : ByteArray) (w : World) (hs : s.size ≤ 90000) : Calls Tryz.prog 93 #[.string s] w (Made (Wi.textB s) w) := by
  have h := Wi.putText_any none [] 0 s w (by simp) hs (src_nil w)
  rw [List.nil_append] at h
  replace h := Lib.hid h
  generalize Wi.textB s = L at h ⊢
  go_enter Tryz.func93, Tryz.ntmps93
  go_wp2_with (go_at_call 138; refine h.out.mono ?_)
  rintro e w1 ⟨a1, c1, rfl, k1, k2, k3, k4, hb⟩
  go_wp2
  go_ret
  exact ⟨a1, c1, rfl, ⟨k1, k2, k4⟩, hb⟩
/-- Bytes that grow: full, or the call's own. -/
def Buf (B : Nat) (v : Value) (l : List UInt8) (w : World) : Prop := (∃ a, v = .slice a (l.length : Nat) l.length ∧ Wi.Src a l l.length w) ∨ Own B v l w
theorem Buf.below {B : Nat} {v : Value} {l : List UInt8} {w w' : World} (h : Buf B v l w) (hb : Below w.heap.size w w') : Buf B v l w' := by
  rcases h with ⟨a, e, h⟩ | h
  · exact .inl ⟨a, e, src_below h hb⟩
  · refine .inr ⟨h.1, ?_⟩
    rcases h.2 with h0 | ⟨g, cap, cur, hv, hB, hg, rest⟩
    · exact .inl h0
    · exact .inr ⟨g, cap, cur, hv, hB, (hb.block g (Array.getElem?_eq_some_iff.1 hg).1).trans hg, rest⟩
theorem Buf.src {B : Nat} {v : Value} {l : List UInt8} {w : World} (h : Buf B v l w) : ∃ a c, v = .slice a (l.length : Nat) c ∧ Wi.Src a l c w := by
  rcases h with ⟨a, e, h⟩ | h
  · exact ⟨a, _, e, h⟩
  · obtain ⟨a1, c1, e, h1, h2, h3⟩ := Own.shape h
    exact ⟨a1, c1, e, h1, h2, h3⟩
theorem bytes_at {ad : Addr} {m : List UInt8} {w : World} (hm : Wi.BytesAre (some ad) m w) : ∀ j u, (Lib.byteCells m)[j]? = some u → w.cell? (ad.add j) = some u := by
  intro j u hj
  have hjl : j < m.length := by
    have := (List.getElem?_eq_some_iff.1 hj).1
    simpa [Lib.byteCells_length] using this
  obtain ⟨b, off, he, hlt, hc⟩ := hm j hjl
  cases he
  rw [Wi.add_off, hc]
  simpa [Lib.byteCells, hjl] using hj
theorem bytes_one (m : List UInt8) : ∀ u ∈ Lib.byteCells m, u.oneCell' = true := by
  intro u hu
  simp only [Lib.byteCells, List.mem_map] at hu
  obtain ⟨c, _, rfl⟩ := hu
  rfl
theorem wpList_buf {ops : Array Oper} {rest : List Oper} {o : Oper} {a : Act} {Q : Exit → Act → World → Prop} (hgd : o.guard = none) (s x : Operand)
    (ho : o.op = .call { callee := .builtin .append, args := #[s, x], argTypes := #[22, 22] })
    {B : Nat} {v : Value} {l : List UInt8} (m : List UInt8) (a1 : Option Addr) (c1 : Nat) {w : World} (hb : Buf B v l w) (hs : a.eval s = v) (hx : a.eval x = .slice a1 m.length c1) (hm : Wi.Src a1 m c1 w) (h0 : 0 < m.length)
    (hlen : l.length + m.length ≤ 1000000) (hB : B ≤ w.heap.size) (h : ∀ v' w', Buf B v' (l ++ m) w' → Below B w w' → wpList Tryz.prog ops Q rest (a.put o.dst v') w') : wpList Tryz.prog ops Q (o :: rest) a w := by
  rcases hb with ⟨b1, rfl, hS⟩ | hown
  · obtain ⟨i0, hi, hz0, hz1, hz2⟩ := info_parts infoByte
    obtain ⟨bb, off, rfl, -, -⟩ := hm.bytes 0 h0
    refine wpList_append_grows w hgd s x 22 ho 5 i0 (.int .u8 0) 1 1 Tryz.underlying22 hi hz0 hz1 hz2 rfl (by decide) b1 l.length l.length (Lib.byteCells l) hs (fun e => ⟨hS.nil e, hS.nil e⟩) (by simp [Lib.byteCells_length]) (fun b e j u hj => by subst e; exact bytes_at hS.bytes j u hj) ⟨bb, off, none⟩ m.length c1 (Lib.byteCells m) hx (by simp [Lib.byteCells_length]) (bytes_at hm.bytes) (bytes_one m) (by omega) (by unfold maxLen; omega) (by omega) ?_
    intro v' w' hown hg
    have hbl := (Below.refl w.heap.size w).grown hg (Nat.le_refl _) (fun k hk => by cases hk)
    refine h v' w' (.inr ?_) (hbl.mono hB)
    have h9 : Own w.heap.size v' (l ++ m) w' := by
      unfold Own
      rw [Lib.byteCells_append, List.length_append]
      exact hown
    refine ⟨h9.1, ?_⟩
    rcases h9.2 with h0 | ⟨g, cap, cur, hv, hB2, rest⟩
    · exact .inl h0
    · exact .inr ⟨g, cap, cur, hv, Nat.le_trans hB hB2, rest⟩
  · exact Wi.wpList_ownL hgd s x ho m a1 c1 hown hs hx hm.nil hm.bytes (by omega) hB fun v' w' h1 h2 => h v' w' (.inr h1) h2
set_option linter.unusedSimpArgs false in
set_option linter.unusedVariables false in
set_option maxHeartbeats 8000000 in
set_option maxRecDepth 100000 in
theorem encTexts_any {P : Nat → Prop} (p : Option Addr) (c : Nat) (fs : List ByteArray) (w : World) (hE : ElsAt eltS P p c fs w) (g : ByteArray → List UInt8) (hl : fs.length ≤ 100) (h0 : ∀ x ∈ fs, 0 < (g x).length) (hsum : ∀ k, ((fs.take k).flatMap g).length ≤ 900000)
    (hF : ∀ x ∈ fs, ∀ W, Below w.heap.size w W → Calls Tryz.prog 93 #[Value.string x] W (Made (g x) W)) :
    Calls Tryz.prog 157 #[.slice p (fs.length : Nat) c, .func (.func 93) #[] #[]] w (Made (Wi.numB (fs.length : Int) ++ fs.flatMap g) w) := by
  obtain ⟨N, hN⟩ : ∃ N, fs.length = N := ⟨_, rfl⟩
  rw [hN] at hl ⊢
  have hP := putNF (N : Int) w (by omega)
  have kN := Wi.numB_len (N : Int) (by omega) (by omega)
  obtain ⟨B0, hB0⟩ : ∃ B0, Wi.numB (N : Int) = B0 := ⟨_, rfl⟩
  rw [hB0] at hP kN ⊢
  obtain ⟨R, hR⟩ : ∃ R, B0 ++ fs.flatMap g = R := ⟨_, rfl⟩
  rw [hR]
  replace hP := Lib.hid hP
  replace hF := Lib.hid hF
  replace hsum := Lib.hid hsum
  replace h0 := Lib.hid h0
  go_enter Tryz.func157, Tryz.ntmps157
  go_wp2_with (go_at_call 90; refine hP.out.mono ?_; rintro en w1 ⟨a1, rfl, hS1, hb1⟩)
  have hE1 := hE.same (SameB.of_below hb1)
  have hst : Buf w.heap.size (.slice a1 (B0.length : Nat) B0.length) B0 w1 := .inl ⟨a1, rfl, hS1⟩
  clear hP
  go_loopw [5, 7, 13] (fun s _ i wr => ∃ m : Nat, m ≤ N ∧ i = .int .i64 m ∧ Below w.heap.size w wr ∧ ∃ l', Buf w.heap.size s l' wr ∧ l' = B0 ++ (fs.take m).flatMap g) (fun _ _ i _ => N - (intOf i).toNat)
  case atStart => exact ⟨0, Nat.zero_le _, rfl, hb1, B0, hst, by simp⟩
  case round =>
    obtain ⟨m, hm, rfl, hbr, l', hBuf, hle⟩ := hrel
    clear hst hS1
    replace hle := Lib.hid hle
    by_cases hlt : m < N
    · have hmI : (m : Int) < (N : Int) := by omega
      have hmI0 : (0 : Int) ≤ (m : Int) := by omega
      have hml : m < fs.length := by omega
      obtain ⟨b, off, rfl, -, hbl, hc⟩ := (hE.same (SameB.of_below hbr)).at_ m hml
      have hmem := List.getElem_mem hml
      have hnext : l' ++ g fs[m] = B0 ++ (fs.take (m + 1)).flatMap g := by rw [hle.out, flat_take _ _ _ hml, List.append_assoc]
      have hpos := h0.out _ hmem
      have hlen : l'.length + (g fs[m]).length ≤ 1000000 := by
        have h9 := congrArg List.length hnext
        rw [List.length_append, List.length_append] at h9
        have := hsum.out (m + 1)
        omega
      have hFm := fun W (h : Below wr.heap.size wr W) => hF.out _ hmem W (hbr.trans (h.mono hbr.size))
      obtain ⟨x, hx⟩ : ∃ x, fs[m] = x := ⟨_, rfl⟩
      rw [hx] at hnext hpos hlen hFm
      have d0 : wr.cell? ⟨b, off + m, none⟩ = some (.string x) := by have h := hc 0 (by decide); rw [hx] at h; have h' : wr.cell? ⟨b, off + m * 1 + 0, none⟩ = some (.string x) := h; simpa only [Nat.mul_one, Nat.add_zero] using h'
      clear hc hx hmem hle
      replace hnext := Lib.hid hnext
      skip
      skip
      generalize hge : g x = ge at hpos hlen hFm hnext
      clear hge
      have hbX := Below.refl wr.heap.size wr
      go_upto_region 5 with (fail)
      have hFX := Lib.hid (hFm wr hbX)
      have hBX := hBuf.below hbX
      have hbwX := hbr.trans (hbX.mono hbr.size)
      clear hFm hBuf
      go_wp2_with (first
        | (go_at_call 93; refine hFX.out.mono ?_; rintro en w3 ⟨a3, c3, rfl, hS3, hb3⟩; have hB3 := hBX.below hb3; have hbw3 := hbwX.trans (hb3.mono hbwX.size))
        | (at_builtin; refine wpList_buf rfl _ _ rfl ge a3 c3 hB3 rfl rfl hS3 hpos hlen hbw3.size ?_; intro v4 w4 hB4 hb4))
      go_roundw
      case rel => exact ⟨m + 1, by omega, by go_num, hbw3.trans hb4, _, hB4, hnext.out⟩
      case measure => simp [intOf]; omega
    · obtain rfl : m = N := by omega
      have hltI : ¬ (m : Int) < (m : Int) := by omega
      obtain ⟨a4, c4, rfl, hS4⟩ := hBuf.src
      have hle := hle.out
      rw [show fs.take m = fs from List.take_of_length_le (by omega), hR] at hle
      subst hle
      have hcp := Lib.hid (Wi.clip_any a4 l'.length c4 wr hS4.le)
      go_wp2_with (go_at_call 91; refine hcp.out.mono ?_; rintro en w5 ⟨rfl, rfl⟩)
      go_ret
      exact ⟨a4, l'.length, rfl, ⟨fun h => by have := hS4.nil h; have := hS4.le; omega, Nat.le_refl _, hS4.bytes⟩, hbr⟩
set_option linter.unusedSimpArgs false in
set_option linter.unusedVariables false in
set_option maxHeartbeats 8000000 in
set_option maxRecDepth 100000 in
theorem encAttrs_any {P : Nat → Prop} (p : Option Addr) (c : Nat) (fs : List AEl) (w : World) (hE : ElsAt eltA P p c fs w) (g : AEl → List UInt8) (hl : fs.length ≤ 100) (h0 : ∀ x ∈ fs, 0 < (g x).length) (hsum : ∀ k, ((fs.take k).flatMap g).length ≤ 900000)
    (hF : ∀ x ∈ fs, ∀ W, Below w.heap.size w W → Calls Tryz.prog 95 #[AEl.agg x] W (Made (g x) W)) :
    Calls Tryz.prog 94 #[.slice p (fs.length : Nat) c, .func (.func 95) #[] #[]] w (Made (Wi.numB (fs.length : Int) ++ fs.flatMap g) w) := by
  obtain ⟨N, hN⟩ : ∃ N, fs.length = N := ⟨_, rfl⟩
  rw [hN] at hl ⊢
  have hP := putNF (N : Int) w (by omega)
  have kN := Wi.numB_len (N : Int) (by omega) (by omega)
  obtain ⟨B0, hB0⟩ : ∃ B0, Wi.numB (N : Int) = B0 := ⟨_, rfl⟩
  rw [hB0] at hP kN ⊢
  obtain ⟨R, hR⟩ : ∃ R, B0 ++ fs.flatMap g = R := ⟨_, rfl⟩
  rw [hR]
  replace hP := Lib.hid hP
  replace hF := Lib.hid hF
  replace hsum := Lib.hid hsum
  replace h0 := Lib.hid h0
  go_enter Tryz.func94, Tryz.ntmps94
  go_wp2_with (go_at_call 90; refine hP.out.mono ?_; rintro en w1 ⟨a1, rfl, hS1, hb1⟩)
  have hE1 := hE.same (SameB.of_below hb1)
  have hst : Buf w.heap.size (.slice a1 (B0.length : Nat) B0.length) B0 w1 := .inl ⟨a1, rfl, hS1⟩
  clear hP
  go_loopw [5, 7, 13] (fun s _ i wr => ∃ m : Nat, m ≤ N ∧ i = .int .i64 m ∧ Below w.heap.size w wr ∧ ∃ l', Buf w.heap.size s l' wr ∧ l' = B0 ++ (fs.take m).flatMap g) (fun _ _ i _ => N - (intOf i).toNat)
  case atStart => exact ⟨0, Nat.zero_le _, rfl, hb1, B0, hst, by simp⟩
  case round =>
    obtain ⟨m, hm, rfl, hbr, l', hBuf, hle⟩ := hrel
    clear hst hS1
    replace hle := Lib.hid hle
    by_cases hlt : m < N
    · have hmI : (m : Int) < (N : Int) := by omega
      have hmI0 : (0 : Int) ≤ (m : Int) := by omega
      have hml : m < fs.length := by omega
      obtain ⟨b, off, rfl, -, hbl, hc⟩ := (hE.same (SameB.of_below hbr)).at_ m hml
      have hmem := List.getElem_mem hml
      have hnext : l' ++ g fs[m] = B0 ++ (fs.take (m + 1)).flatMap g := by rw [hle.out, flat_take _ _ _ hml, List.append_assoc]
      have hpos := h0.out _ hmem
      have hlen : l'.length + (g fs[m]).length ≤ 1000000 := by
        have h9 := congrArg List.length hnext
        rw [List.length_append, List.length_append] at h9
        have := hsum.out (m + 1)
        omega
      have hFm := fun W (h : Below wr.heap.size wr W) => hF.out _ hmem W (hbr.trans (h.mono hbr.size))
      obtain ⟨x, hx⟩ : ∃ x, fs[m] = x := ⟨_, rfl⟩
      rw [hx] at hnext hpos hlen hFm
      obtain ⟨⟨xn, ⟨xk, xm, xt, xl⟩⟩, xp, xc⟩ := x
      have d0 : wr.cell? ⟨b, off + m * 5, none⟩ = some (.string xn) := by have h := hc 0 (by decide); rw [hx] at h; exact h
      have d1 : wr.cell? ⟨b, off + m * 5 + 1, none⟩ = some (.int .i64 xk) := by have h := hc 1 (by decide); rw [hx] at h; exact h
      have d2 : wr.cell? ⟨b, off + m * 5 + 2, none⟩ = some (.int .i64 xm) := by have h := hc 2 (by decide); rw [hx] at h; exact h
      have d3 : wr.cell? ⟨b, off + m * 5 + 3, none⟩ = some (.string xt) := by have h := hc 3 (by decide); rw [hx] at h; exact h
      have d4 : wr.cell? ⟨b, off + m * 5 + 4, none⟩ = some (.slice xp (xl.length : Nat) xc) := by have h := hc 4 (by decide); rw [hx] at h; exact h
      clear hc hx hmem hle
      replace hnext := Lib.hid hnext
      unfold AEl.agg at hFm
      simp only at hFm
      generalize hge : g ⟨⟨xn, ⟨xk, xm, xt, xl⟩⟩, xp, xc⟩ = ge at hpos hlen hFm hnext
      clear hge
      have hbX := (Below.refl wr.heap.size wr).alloc (Nat.le_refl _) (.cells #[.string xn, .int .i64 xk, .int .i64 xm, .string xt, .slice xp (xl.length : Nat) xc] 72)
      have zX := heap_alloc_new wr (.cells #[.string xn, .int .i64 xk, .int .i64 xm, .string xt, .slice xp (xl.length : Nat) xc] 72)
      go_upto_region 5 with (fail)
      generalize wr.alloc (.cells #[.string xn, .int .i64 xk, .int .i64 xm, .string xt, .slice xp (xl.length : Nat) xc] 72) = wX at hbX zX ⊢
      have e0 : wX.cell? ⟨wr.heap.size, 0, none⟩ = some (.string xn) := by rw [Lib.cell_of_heap zX]; rfl
      have e1 : wX.cell? ⟨wr.heap.size, 1, none⟩ = some (.int .i64 xk) := by rw [Lib.cell_of_heap zX]; rfl
      have e2 : wX.cell? ⟨wr.heap.size, 2, none⟩ = some (.int .i64 xm) := by rw [Lib.cell_of_heap zX]; rfl
      have e3 : wX.cell? ⟨wr.heap.size, 3, none⟩ = some (.string xt) := by rw [Lib.cell_of_heap zX]; rfl
      have e4 : wX.cell? ⟨wr.heap.size, 4, none⟩ = some (.slice xp (xl.length : Nat) xc) := by rw [Lib.cell_of_heap zX]; rfl
      have hFX := Lib.hid (hFm wX hbX)
      have hBX := hBuf.below hbX
      have hbwX := hbr.trans (hbX.mono hbr.size)
      clear hFm hBuf
      go_wp2_with (first
        | (go_at_call 95; refine hFX.out.mono ?_; rintro en w3 ⟨a3, c3, rfl, hS3, hb3⟩; have hB3 := hBX.below hb3; have hbw3 := hbwX.trans (hb3.mono hbwX.size))
        | (at_builtin; refine wpList_buf rfl _ _ rfl ge a3 c3 hB3 rfl rfl hS3 hpos hlen hbw3.size ?_; intro v4 w4 hB4 hb4))
      go_roundw
      case rel => exact ⟨m + 1, by omega, by go_num, hbw3.trans hb4, _, hB4, hnext.out⟩
      case measure => simp [intOf]; omega
    · obtain rfl : m = N := by omega
      have hltI : ¬ (m : Int) < (m : Int) := by omega
      obtain ⟨a4, c4, rfl, hS4⟩ := hBuf.src
      have hle := hle.out
      rw [show fs.take m = fs from List.take_of_length_le (by omega), hR] at hle
      subst hle
      have hcp := Lib.hid (Wi.clip_any a4 l'.length c4 wr hS4.le)
      go_wp2_with (go_at_call 91; refine hcp.out.mono ?_; rintro en w5 ⟨rfl, rfl⟩)
      go_ret
      exact ⟨a4, l'.length, rfl, ⟨fun h => by have := hS4.nil h; have := hS4.le; omega, Nat.le_refl _, hS4.bytes⟩, hbr⟩
set_option linter.unusedSimpArgs false in
set_option linter.unusedVariables false in
set_option maxHeartbeats 8000000 in
set_option maxRecDepth 100000 in
theorem encCtxs_any {P : Nat → Prop} (p : Option Addr) (c : Nat) (fs : List CEl) (w : World) (hE : ElsAt eltC P p c fs w) (g : CEl → List UInt8) (hl : fs.length ≤ 100) (h0 : ∀ x ∈ fs, 0 < (g x).length) (hsum : ∀ k, ((fs.take k).flatMap g).length ≤ 900000)
    (hF : ∀ x ∈ fs, ∀ W, Below w.heap.size w W → Calls Tryz.prog 52 #[CEl.agg x] W (Made (g x) W)) :
    Calls Tryz.prog 51 #[.slice p (fs.length : Nat) c, .func (.func 52) #[] #[]] w (Made (Wi.numB (fs.length : Int) ++ fs.flatMap g) w) := by
  obtain ⟨N, hN⟩ : ∃ N, fs.length = N := ⟨_, rfl⟩
  rw [hN] at hl ⊢
  have hP := putNF (N : Int) w (by omega)
  have kN := Wi.numB_len (N : Int) (by omega) (by omega)
  obtain ⟨B0, hB0⟩ : ∃ B0, Wi.numB (N : Int) = B0 := ⟨_, rfl⟩
  rw [hB0] at hP kN ⊢
  obtain ⟨R, hR⟩ : ∃ R, B0 ++ fs.flatMap g = R := ⟨_, rfl⟩
  rw [hR]
  replace hP := Lib.hid hP
  replace hF := Lib.hid hF
  replace hsum := Lib.hid hsum
  replace h0 := Lib.hid h0
  go_enter Tryz.func51, Tryz.ntmps51
  go_wp2_with (go_at_call 90; refine hP.out.mono ?_; rintro en w1 ⟨a1, rfl, hS1, hb1⟩)
  have hE1 := hE.same (SameB.of_below hb1)
  have hst : Buf w.heap.size (.slice a1 (B0.length : Nat) B0.length) B0 w1 := .inl ⟨a1, rfl, hS1⟩
  clear hP
  go_loopw [5, 7, 13] (fun s _ i wr => ∃ m : Nat, m ≤ N ∧ i = .int .i64 m ∧ Below w.heap.size w wr ∧ ∃ l', Buf w.heap.size s l' wr ∧ l' = B0 ++ (fs.take m).flatMap g) (fun _ _ i _ => N - (intOf i).toNat)
  case atStart => exact ⟨0, Nat.zero_le _, rfl, hb1, B0, hst, by simp⟩
  case round =>
    obtain ⟨m, hm, rfl, hbr, l', hBuf, hle⟩ := hrel
    clear hst hS1
    replace hle := Lib.hid hle
    by_cases hlt : m < N
    · have hmI : (m : Int) < (N : Int) := by omega
      have hmI0 : (0 : Int) ≤ (m : Int) := by omega
      have hml : m < fs.length := by omega
      obtain ⟨b, off, rfl, -, hbl, hc⟩ := (hE.same (SameB.of_below hbr)).at_ m hml
      have hmem := List.getElem_mem hml
      have hnext : l' ++ g fs[m] = B0 ++ (fs.take (m + 1)).flatMap g := by rw [hle.out, flat_take _ _ _ hml, List.append_assoc]
      have hpos := h0.out _ hmem
      have hlen : l'.length + (g fs[m]).length ≤ 1000000 := by
        have h9 := congrArg List.length hnext
        rw [List.length_append, List.length_append] at h9
        have := hsum.out (m + 1)
        omega
      have hFm := fun W (h : Below wr.heap.size wr W) => hF.out _ hmem W (hbr.trans (h.mono hbr.size))
      obtain ⟨x, hx⟩ : ∃ x, fs[m] = x := ⟨_, rfl⟩
      rw [hx] at hnext hpos hlen hFm
      obtain ⟨⟨xk, xy, xa⟩, xp, xc⟩ := x
      have d0 : wr.cell? ⟨b, off + m * 3, none⟩ = some (.string xk) := by have h := hc 0 (by decide); rw [hx] at h; exact h
      have d1 : wr.cell? ⟨b, off + m * 3 + 1, none⟩ = some (.string xy) := by have h := hc 1 (by decide); rw [hx] at h; exact h
      have d2 : wr.cell? ⟨b, off + m * 3 + 2, none⟩ = some (.slice xp (xa.length : Nat) xc) := by have h := hc 2 (by decide); rw [hx] at h; exact h
      clear hc hx hmem hle
      replace hnext := Lib.hid hnext
      unfold CEl.agg at hFm
      simp only at hFm
      generalize hge : g ⟨⟨xk, xy, xa⟩, xp, xc⟩ = ge at hpos hlen hFm hnext
      clear hge
      have hbX := (Below.refl wr.heap.size wr).alloc (Nat.le_refl _) (.cells #[.string xk, .string xy, .slice xp (xa.length : Nat) xc] 63)
      have zX := heap_alloc_new wr (.cells #[.string xk, .string xy, .slice xp (xa.length : Nat) xc] 63)
      go_upto_region 5 with (fail)
      generalize wr.alloc (.cells #[.string xk, .string xy, .slice xp (xa.length : Nat) xc] 63) = wX at hbX zX ⊢
      have e0 : wX.cell? ⟨wr.heap.size, 0, none⟩ = some (.string xk) := by rw [Lib.cell_of_heap zX]; rfl
      have e1 : wX.cell? ⟨wr.heap.size, 1, none⟩ = some (.string xy) := by rw [Lib.cell_of_heap zX]; rfl
      have e2 : wX.cell? ⟨wr.heap.size, 2, none⟩ = some (.slice xp (xa.length : Nat) xc) := by rw [Lib.cell_of_heap zX]; rfl
      have hFX := Lib.hid (hFm wX hbX)
      have hBX := hBuf.below hbX
      have hbwX := hbr.trans (hbX.mono hbr.size)
      clear hFm hBuf
      go_wp2_with (first
        | (go_at_call 52; refine hFX.out.mono ?_; rintro en w3 ⟨a3, c3, rfl, hS3, hb3⟩; have hB3 := hBX.below hb3; have hbw3 := hbwX.trans (hb3.mono hbwX.size))
        | (at_builtin; refine wpList_buf rfl _ _ rfl ge a3 c3 hB3 rfl rfl hS3 hpos hlen hbw3.size ?_; intro v4 w4 hB4 hb4))
      go_roundw
      case rel => exact ⟨m + 1, by omega, by go_num, hbw3.trans hb4, _, hB4, hnext.out⟩
      case measure => simp [intOf]; omega
    · obtain rfl : m = N := by omega
      have hltI : ¬ (m : Int) < (m : Int) := by omega
      obtain ⟨a4, c4, rfl, hS4⟩ := hBuf.src
      have hle := hle.out
      rw [show fs.take m = fs from List.take_of_length_le (by omega), hR] at hle
      subst hle
      have hcp := Lib.hid (Wi.clip_any a4 l'.length c4 wr hS4.le)
      go_wp2_with (go_at_call 91; refine hcp.out.mono ?_; rintro en w5 ⟨rfl, rfl⟩)
      go_ret
      exact ⟨a4, l'.length, rfl, ⟨fun h => by have := hS4.nil h; have := hS4.le; omega, Nat.le_refl _, hS4.bytes⟩, hbr⟩
end Go.Proofs.YtcbnefeedoabeaaGreatDoor
/- The package's Encode: values, attributes, contexts, subjects. -/
namespace Go.Proofs.YtcbnefeedoabeaaGreatDoor
open Go Go.RowKit

theorem concat2 {a0 a1 : Option Addr} {l0 l1 : List UInt8} {c0 c1 : Nat} {w : World} (h0 : Wi.Src a0 l0 c0 w) (h1 : Wi.Src a1 l1 c1 w) (hl : l0.length + l1.length ≤ 1000000) :
    Calls Tryz.prog 92 #[.slice (some ⟨w.heap.size, 0, none⟩) 2 2] (w.alloc (.cells #[.slice a0 (l0.length : Nat) c0, .slice a1 (l1.length : Nat) c1] 22)) (Made (l0 ++ l1) w) := by
  have h := Wi.concat_any (some ⟨w.heap.size, 0, none⟩) [l0, l1] 2 _ (by simp) (by simp; omega) (Wi.fields2 h0 h1)
  rw [show [l0, l1].flatten = l0 ++ l1 from by simp] at h
  refine Calls.mono h ?_
  intro e w' hm
  obtain ⟨b1, d1, he, hs, hb⟩ := Made.of hm
  exact ⟨b1, d1, he, hs, ((Below.refl _ w).alloc (Nat.le_refl _) _).trans (hb.mono (by simp))⟩
theorem concat3 {a0 a1 a2 : Option Addr} {l0 l1 l2 : List UInt8} {c0 c1 c2 : Nat} {w : World} (h0 : Wi.Src a0 l0 c0 w) (h1 : Wi.Src a1 l1 c1 w) (h2 : Wi.Src a2 l2 c2 w) (hl : l0.length + l1.length + l2.length ≤ 1000000) :
    Calls Tryz.prog 92 #[.slice (some ⟨w.heap.size, 0, none⟩) 3 3] (w.alloc (.cells #[.slice a0 (l0.length : Nat) c0, .slice a1 (l1.length : Nat) c1, .slice a2 (l2.length : Nat) c2] 22)) (Made (l0 ++ (l1 ++ l2)) w) := by
  have h := Wi.concat_any (some ⟨w.heap.size, 0, none⟩) [l0, l1, l2] 3 _ (by simp) (by simp; omega) (Wi.fields3 h0 h1 h2)
  rw [show [l0, l1, l2].flatten = l0 ++ (l1 ++ l2) from by simp] at h
  refine Calls.mono h ?_
  intro e w' hm
  obtain ⟨b1, d1, he, hs, hb⟩ := Made.of hm
  exact ⟨b1, d1, he, hs, ((Below.refl _ w).alloc (Nat.le_refl _) _).trans (hb.mono (by simp))⟩
theorem encList_any {P : Nat → Prop} (p : Option Addr) (c : Nat) (L : List ByteArray) (w : World) (hL : ListP P p c L w) (h4 : L.length ≤ 20) (h5 : ∀ s ∈ L, s.size ≤ 200) :
    Calls Tryz.prog 157 #[.slice p (L.length : Nat) c, .func (.func 93) #[] #[]] w (Made (Wi.numB (L.length : Int) ++ L.flatMap Wi.textB) w) :=
  encTexts_any p c L w hL.els Wi.textB (by omega) (fun x _ => by
    have := Wi.numB_pos (x.size : Int)
    unfold Wi.textB
    rw [List.length_append]
    omega) (fun k => by
    have h8 := texts_len (L.take k) fun s hs => h5 s (List.mem_of_mem_take hs)
    have h9 : (L.take k).length * 210 ≤ 20 * 210 := Nat.mul_le_mul_right _ (by rw [List.length_take]; omega)
    omega) (fun x hx W _ => encodeText_any x W (by have := h5 x hx; omega))
set_option linter.unusedSimpArgs false in
set_option linter.unusedVariables false in
set_option maxHeartbeats 8000000 in
set_option maxRecDepth 100000 in
theorem encodeValue_any {P : Nat → Prop} {nm : ByteArray} (x : Val) (p : Option Addr) (c : Nat) {w : World} (hL : ListP P p c x.list w) (hT : TinyA ⟨nm, x⟩) (hx : checkE x = 0) :
    Calls Tryz.prog 139 #[x.agg p c] w (Made (valB x) w) := by
  have hr : ¬ (x.kind < 1 ∨ 5 < x.kind) := fun h => checkE_kind h hx
  have hvl := valB_len (n := nm) (v := x) hT
  obtain ⟨k, n, t, L⟩ := x
  obtain ⟨_, h1, h2, h3, h4, h5⟩ := hT
  simp only at h1 h2 h3 h4 h5 hL hr
  have hvB : valB ⟨k, n, t, L⟩ = Wi.numB k ++ (if k = 1 ∨ k = 2 then Wi.numB n else if k = 5 then Wi.numB (L.length : Int) ++ L.flatMap Wi.textB else Wi.textB t) := rfl
  rw [hvB] at hvl ⊢
  unfold Val.agg
  simp only
  have hb0 := (Below.refl w.heap.size w).alloc (Nat.le_refl _) (.cells #[.int .i64 k, .int .i64 n, .string t, .slice p (L.length : Nat) c] 41)
  have z0 := heap_alloc_new w (.cells #[.int .i64 k, .int .i64 n, .string t, .slice p (L.length : Nat) c] 41)
  have hg0 : w.heap.size < (w.alloc (.cells #[.int .i64 k, .int .i64 n, .string t, .slice p (L.length : Nat) c] 41)).heap.size := by simp
  have hL0 := hL.same (SameB.of_below hb0)
  generalize hw0 : w.alloc (.cells #[.int .i64 k, .int .i64 n, .string t, .slice p (L.length : Nat) c] 41) = w0 at hb0 z0 hL0 hg0
  have v0 : w0.cell? ⟨w.heap.size, 0, none⟩ = some (.int .i64 k) := by rw [Lib.cell_of_heap z0]; rfl
  have hN := putNF k w0 h1
  obtain ⟨l1, hl1e⟩ : ∃ l1, Wi.numB k = l1 := ⟨_, rfl⟩
  have k1 := Wi.numB_len k h1.1 h1.2
  rw [hl1e] at hN hvl k1 ⊢
  obtain ⟨R, hR⟩ : ∃ R, (if k = 1 ∨ k = 2 then Wi.numB n else if k = 5 then Wi.numB (L.length : Int) ++ L.flatMap Wi.textB else Wi.textB t) = R := ⟨_, rfl⟩
  rw [hR] at hvl ⊢
  replace hR := Lib.hid hR
  replace hN := Lib.hid hN
  clear hL hx hvB hl1e
  go_enter Tryz.func139, Tryz.ntmps139
  go_upto_region 1 with (fail)
  try rw [hw0]
  clear hw0
  go_upto_region 2 with (go_at_call 90; refine hN.out.mono ?_; rintro en w1 ⟨a1, rfl, hS1, hb1⟩)
  have z1 := (hb1.block w.heap.size hg0).trans z0
  have hL1 := hL0.same (SameB.of_below hb1)
  have hB1 := hb0.trans (hb1.mono hb0.size)
  have w0c : w1.cell? ⟨w.heap.size, 0, none⟩ = some (.int .i64 k) := by rw [Lib.cell_of_heap z1]; rfl
  have w1c : w1.cell? ⟨w.heap.size, 1, none⟩ = some (.int .i64 n) := by rw [Lib.cell_of_heap z1]; rfl
  have w2c : w1.cell? ⟨w.heap.size, 2, none⟩ = some (.string t) := by rw [Lib.cell_of_heap z1]; rfl
  have w3c : w1.cell? ⟨w.heap.size, 3, none⟩ = some (.slice p L.length c) := by rw [Lib.cell_of_heap z1]; rfl
  clear z0 hg0 hL0 hb0 hb1 hN v0
  by_cases e1 : k = 1 ∨ k = 2
  · have hR1 := hR.out.symm.trans (if_pos e1)
    clear hR
    subst hR1
    have hN2 := Wi.putNumber_any a1 l1 l1.length n w1 (by omega) hS1 h2.1 h2.2
    generalize hl2e : l1 ++ Wi.numB n = l2 at hN2
    replace hN2 := Lib.hid hN2
    replace hl2e := Lib.hid hl2e
    rcases e1 with rfl | rfl
    · skip
      go_wp2_with (go_at_call 90; refine hN2.out.mono ?_; rintro en w2 ⟨a2, c2, rfl, m1, m2, m3, m4, hb2⟩)
      go_ret
      exact ⟨a2, c2, by show Ending.returned (Value.slice a2 (l2.length : Nat) c2) = _; rw [hl2e.out], by rw [hl2e.out]; exact ⟨m1, m2, m4⟩, hB1.trans (hb2.mono hB1.size)⟩
    · skip
      go_wp2_with (go_at_call 90; refine hN2.out.mono ?_; rintro en w2 ⟨a2, c2, rfl, m1, m2, m3, m4, hb2⟩)
      go_ret
      exact ⟨a2, c2, by show Ending.returned (Value.slice a2 (l2.length : Nat) c2) = _; rw [hl2e.out], by rw [hl2e.out]; exact ⟨m1, m2, m4⟩, hB1.trans (hb2.mono hB1.size)⟩
  · by_cases e5 : k = 5
    · have hR1 := hR.out.symm.trans ((if_neg e1).trans (if_pos e5))
      clear hR
      subst hR1
      subst e5
      have hE := encList_any p c L w1 hL1 h4 h5
      generalize hl2e : Wi.numB (L.length : Int) ++ L.flatMap Wi.textB = l2 at hE hvl
      have hl12 : l1.length + l2.length ≤ 1000000 := by rw [List.length_append] at hvl; omega
      replace hE := Lib.hid hE
      replace hl2e := Lib.hid hl2e
      have hCC := fun a2 c2 w2 (h1 : Wi.Src a1 l1 l1.length w2) (h2 : Wi.Src a2 l2 c2 w2) => concat2 h1 h2 hl12
      generalize hl3e : l1 ++ l2 = l3 at hCC
      replace hCC := Lib.hid hCC
      replace hl3e := Lib.hid hl3e
      generalize L.length = nL at w3c hE
      go_wp2_with (first
        | (go_at_call 157; refine hE.out.mono ?_; rintro en w2 ⟨a2, c2, rfl, hS2, hb2⟩; have hC2 := Lib.hid (hCC.out a2 c2 w2 (src_below hS1 hb2) hS2))
        | (go_at_call 92; refine hC2.out.mono ?_; rintro en w3 ⟨a3, c3, rfl, hS3, hb3⟩))
      go_ret
      exact ⟨a3, c3, by show Ending.returned (Value.slice a3 (l3.length : Nat) c3) = _; rw [hl2e.out, hl3e.out], by rw [hl2e.out, hl3e.out]; exact hS3, hB1.trans ((hb2.trans (hb3.mono hb2.size)).mono hB1.size)⟩
    · have hR1 := hR.out.symm.trans ((if_neg e1).trans (if_neg e5))
      clear hR
      subst hR1
      have hN2 := Wi.putText_any a1 l1 l1.length t w1 (by omega) (by omega) hS1
      generalize hl2e : l1 ++ Wi.textB t = l2 at hN2
      replace hN2 := Lib.hid hN2
      replace hl2e := Lib.hid hl2e
      rcases (show k = 3 ∨ k = 4 by omega) with rfl | rfl
      · skip
        go_wp2_with (go_at_call 138; refine hN2.out.mono ?_; rintro en w2 ⟨a2, c2, rfl, m1, m2, m3, m4, hb2⟩)
        go_ret
        exact ⟨a2, c2, by show Ending.returned (Value.slice a2 (l2.length : Nat) c2) = _; rw [hl2e.out], by rw [hl2e.out]; exact ⟨m1, m2, m4⟩, hB1.trans (hb2.mono hB1.size)⟩
      · skip
        go_wp2_with (go_at_call 138; refine hN2.out.mono ?_; rintro en w2 ⟨a2, c2, rfl, m1, m2, m3, m4, hb2⟩)
        go_ret
        exact ⟨a2, c2, by show Ending.returned (Value.slice a2 (l2.length : Nat) c2) = _; rw [hl2e.out], by rw [hl2e.out]; exact ⟨m1, m2, m4⟩, hB1.trans (hb2.mono hB1.size)⟩
set_option linter.unusedSimpArgs false in
set_option linter.unusedVariables false in
set_option maxHeartbeats 8000000 in
set_option maxRecDepth 100000 in
theorem encodeAttribute_any {P : Nat → Prop} (x : AEl) {w : World} (hL : ListP P x.p x.c x.a.val.list w) (hT : TinyA x.a) (hx : checkE x.a.val = 0) :
    Calls Tryz.prog 95 #[x.agg] w (Made (attrB x.a) w) := by
  obtain ⟨⟨nm, ⟨k, n, t, L⟩⟩, p, c⟩ := x
  have u1 := hT.name
  simp only at hL hT hx u1
  have hV := fun W (h : Below w.heap.size w W) => encodeValue_any (nm := nm) ⟨k, n, t, L⟩ p c (hL.same (SameB.of_below h)) hT hx
  unfold Val.agg at hV
  simp only at hV
  unfold AEl.agg
  simp only
  have hvl := valB_len (n := nm) (v := ⟨k, n, t, L⟩) hT
  have htl := textB_len nm (by omega)
  have haB : attrB ⟨nm, ⟨k, n, t, L⟩⟩ = Wi.textB nm ++ valB ⟨k, n, t, L⟩ := rfl
  rw [haB]
  have hTx := fun W => encodeText_any nm W (by omega)
  generalize valB ⟨k, n, t, L⟩ = l2 at hV hvl ⊢
  generalize Wi.textB nm = l1 at hTx htl ⊢
  have hsum : l1.length + l2.length ≤ 1000000 := by omega
  obtain ⟨l3, hl3⟩ : ∃ l3, l1 ++ l2 = l3 := ⟨_, rfl⟩
  rw [hl3]
  replace hl3 := Lib.hid hl3
  replace hV := Lib.hid hV
  replace hTx := Lib.hid hTx
  clear hL hT hx haB u1 hvl htl
  have hb0 := (Below.refl w.heap.size w).alloc (Nat.le_refl _) (.cells #[.string nm, .int .i64 k, .int .i64 n, .string t, .slice p (L.length : Nat) c] 72)
  have z0 := heap_alloc_new w (.cells #[.string nm, .int .i64 k, .int .i64 n, .string t, .slice p (L.length : Nat) c] 72)
  have hg0 : w.heap.size < (w.alloc (.cells #[.string nm, .int .i64 k, .int .i64 n, .string t, .slice p (L.length : Nat) c] 72)).heap.size := by simp
  generalize hw0 : w.alloc (.cells #[.string nm, .int .i64 k, .int .i64 n, .string t, .slice p (L.length : Nat) c] 72) = w0 at hb0 z0 hg0
  have f0 : w0.cell? ⟨w.heap.size, 0, none⟩ = some (.string nm) := by rw [Lib.cell_of_heap z0]; rfl
  have f1 : w0.cell? ⟨w.heap.size, 1, none⟩ = some (.int .i64 k) := by rw [Lib.cell_of_heap z0]; rfl
  have f2 : w0.cell? ⟨w.heap.size, 2, none⟩ = some (.int .i64 n) := by rw [Lib.cell_of_heap z0]; rfl
  have f3 : w0.cell? ⟨w.heap.size, 3, none⟩ = some (.string t) := by rw [Lib.cell_of_heap z0]; rfl
  have f4 : w0.cell? ⟨w.heap.size, 4, none⟩ = some (.slice p (L.length : Nat) c) := by rw [Lib.cell_of_heap z0]; rfl
  go_enter Tryz.func95, Tryz.ntmps95
  go_upto_region 1 with (fail)
  try rw [hw0]
  clear hw0
  have hdr := (Below.refl w0.heap.size w0).drew
  have hbd := hb0.trans (hdr.mono hb0.size)
  refine wp_region_held_drew (S := fun w' => w'.cell? ⟨w.heap.size, 0, none⟩ = some (.string nm) ∧ w'.cell? ⟨w.heap.size, 1, none⟩ = some (.int .i64 k) ∧ w'.cell? ⟨w.heap.size, 2, none⟩ = some (.int .i64 n) ∧ w'.cell? ⟨w.heap.size, 3, none⟩ = some (.string t) ∧ w'.cell? ⟨w.heap.size, 4, none⟩ = some (.slice p (L.length : Nat) c)) (by kernel_rfl) ⟨f0, f1, f2, f3, f4⟩ (fun hHeld => ?_)
  refine wpAnyH_take (i := 0) (v := ?_) rfl (by kernel_rfl) (by kernel_rfl) (by kernel_rfl) (fun _ _ _ h => h) (Or.inl ⟨by rfl, ?_⟩) hHeld ?_
  rotate_left
  · intro w' hSw
    go_simp
    try with_reducible rfl
  try simp only [List.getElem_toArray, List.getElem_cons_succ, List.getElem_cons_zero, Act.put, List.setIfInBounds_toArray, List.set_cons_zero, List.set_cons_succ]
  refine wpAnyH_take (i := 1) (v := ?_) rfl (by kernel_rfl) (by kernel_rfl) (by kernel_rfl) (fun _ _ _ h => h) (Or.inl ⟨by rfl, ?_⟩) hHeld ?_
  rotate_left
  · intro w' hSw
    obtain ⟨e0, e1, e2, e3, e4⟩ := hSw
    go_simp
    try with_reducible rfl
  try simp only [List.getElem_toArray, List.getElem_cons_succ, List.getElem_cons_zero, Act.put, List.setIfInBounds_toArray, List.set_cons_zero, List.set_cons_succ]
  refine wpAnyH_take (i := 3) (v := ?_) rfl (by kernel_rfl) (by kernel_rfl) (by kernel_rfl) (fun _ _ _ h => h) (Or.inl ⟨by rfl, ?_⟩) hHeld ?_
  rotate_left
  · intro w' hSw
    go_simp
    try with_reducible rfl
  try simp only [List.getElem_toArray, List.getElem_cons_succ, List.getElem_cons_zero, Act.put, List.setIfInBounds_toArray, List.set_cons_zero, List.set_cons_succ]
  refine wpAnyH_take (i := 4) (v := ?_) rfl (by kernel_rfl) (by kernel_rfl) (by kernel_rfl) (fun _ _ _ h => h) (Or.inl ⟨by rfl, ?_⟩) hHeld ?_
  rotate_left
  · intro w' hSw
    obtain ⟨e0, e1, e2, e3, e4⟩ := hSw
    go_simp
    try with_reducible rfl
  try simp only [List.getElem_toArray, List.getElem_cons_succ, List.getElem_cons_zero, Act.put, List.setIfInBounds_toArray, List.set_cons_zero, List.set_cons_succ]
  refine wpAnyH_ready (rs := [2]) (by kernel_rfl) (by simp) ?_
  refine AllReadyH.cons rfl (fun K hK => ?_) AllReadyH.nil
  go_simp
  go_at_call 93
  refine (hTx.out _).mono ?_
  rintro en w3 ⟨a3, c3, rfl, hS3, hb3'⟩
  have hb3 := hdr.trans (hb3'.mono hdr.size)
  refine hK.out _ _ ⟨(hb3.cell (p := ⟨w.heap.size, 0, none⟩) hg0).trans f0, (hb3.cell (p := ⟨w.heap.size, 1, none⟩) hg0).trans f1, (hb3.cell (p := ⟨w.heap.size, 2, none⟩) hg0).trans f2, (hb3.cell (p := ⟨w.heap.size, 3, none⟩) hg0).trans f3, (hb3.cell (p := ⟨w.heap.size, 4, none⟩) hg0).trans f4⟩ (fun _ => ?_)
  clear hK K hHeld
  have hHeld : (fun w' => w'.cell? ⟨w.heap.size, 0, none⟩ = some (.string nm) ∧ w'.cell? ⟨w.heap.size, 1, none⟩ = some (.int .i64 k) ∧ w'.cell? ⟨w.heap.size, 2, none⟩ = some (.int .i64 n) ∧ w'.cell? ⟨w.heap.size, 3, none⟩ = some (.string t) ∧ w'.cell? ⟨w.heap.size, 4, none⟩ = some (.slice p (L.length : Nat) c)) w3 := ⟨(hb3.cell (p := ⟨w.heap.size, 0, none⟩) hg0).trans f0, (hb3.cell (p := ⟨w.heap.size, 1, none⟩) hg0).trans f1, (hb3.cell (p := ⟨w.heap.size, 2, none⟩) hg0).trans f2, (hb3.cell (p := ⟨w.heap.size, 3, none⟩) hg0).trans f3, (hb3.cell (p := ⟨w.heap.size, 4, none⟩) hg0).trans f4⟩
  try simp only [List.getElem_toArray, List.getElem_cons_succ, List.getElem_cons_zero, Act.put, List.setIfInBounds_toArray, List.set_cons_zero, List.set_cons_succ]
  refine wpAnyH_ready (rs := [5]) (by kernel_rfl) (by simp) ?_
  refine AllReadyH.cons rfl (fun K hK => ?_) AllReadyH.nil
  go_simp
  go_at_call 139
  refine (hV.out _ (hb0.trans (hb3.mono hb0.size))).mono ?_
  rintro en w4 ⟨a4, c4, rfl, hS4, hb4'⟩
  have hb4 := hb3.trans (hb4'.mono hb3.size)
  refine hK.out _ _ ⟨(hb4.cell (p := ⟨w.heap.size, 0, none⟩) hg0).trans f0, (hb4.cell (p := ⟨w.heap.size, 1, none⟩) hg0).trans f1, (hb4.cell (p := ⟨w.heap.size, 2, none⟩) hg0).trans f2, (hb4.cell (p := ⟨w.heap.size, 3, none⟩) hg0).trans f3, (hb4.cell (p := ⟨w.heap.size, 4, none⟩) hg0).trans f4⟩ (fun _ => ?_)
  clear hK K hHeld
  have hHeld : (fun w' => w'.cell? ⟨w.heap.size, 0, none⟩ = some (.string nm) ∧ w'.cell? ⟨w.heap.size, 1, none⟩ = some (.int .i64 k) ∧ w'.cell? ⟨w.heap.size, 2, none⟩ = some (.int .i64 n) ∧ w'.cell? ⟨w.heap.size, 3, none⟩ = some (.string t) ∧ w'.cell? ⟨w.heap.size, 4, none⟩ = some (.slice p (L.length : Nat) c)) w4 := ⟨(hb4.cell (p := ⟨w.heap.size, 0, none⟩) hg0).trans f0, (hb4.cell (p := ⟨w.heap.size, 1, none⟩) hg0).trans f1, (hb4.cell (p := ⟨w.heap.size, 2, none⟩) hg0).trans f2, (hb4.cell (p := ⟨w.heap.size, 3, none⟩) hg0).trans f3, (hb4.cell (p := ⟨w.heap.size, 4, none⟩) hg0).trans f4⟩
  try simp only [List.getElem_toArray, List.getElem_cons_succ, List.getElem_cons_zero, Act.put, List.setIfInBounds_toArray, List.set_cons_zero, List.set_cons_succ]
  have hbA := hb4.trans ((Below.refl w4.heap.size w4).alloc (Nat.le_refl _) (.cells #[.slice a3 (l1.length : Nat) c3, .slice a4 (l2.length : Nat) c4] 22) |>.mono hb4.size)
  have hCC := concat2 (src_below hS3 hb4') hS4 hsum
  rw [hl3.out] at hCC
  replace hCC := Lib.hid hCC
  refine wpAnyH_ready (rs := [6]) (by kernel_rfl) (by simp) ?_
  refine AllReadyH.cons rfl (fun K hK => ?_) AllReadyH.nil
  go_simp
  refine hK.out _ _ ⟨(hbA.cell (p := ⟨w.heap.size, 0, none⟩) hg0).trans f0, (hbA.cell (p := ⟨w.heap.size, 1, none⟩) hg0).trans f1, (hbA.cell (p := ⟨w.heap.size, 2, none⟩) hg0).trans f2, (hbA.cell (p := ⟨w.heap.size, 3, none⟩) hg0).trans f3, (hbA.cell (p := ⟨w.heap.size, 4, none⟩) hg0).trans f4⟩ (fun _ => ?_)
  clear hK K hHeld
  have hHeld : (fun w' => w'.cell? ⟨w.heap.size, 0, none⟩ = some (.string nm) ∧ w'.cell? ⟨w.heap.size, 1, none⟩ = some (.int .i64 k) ∧ w'.cell? ⟨w.heap.size, 2, none⟩ = some (.int .i64 n) ∧ w'.cell? ⟨w.heap.size, 3, none⟩ = some (.string t) ∧ w'.cell? ⟨w.heap.size, 4, none⟩ = some (.slice p (L.length : Nat) c)) (w4.alloc (.cells #[.slice a3 (l1.length : Nat) c3, .slice a4 (l2.length : Nat) c4] 22)) := ⟨(hbA.cell (p := ⟨w.heap.size, 0, none⟩) hg0).trans f0, (hbA.cell (p := ⟨w.heap.size, 1, none⟩) hg0).trans f1, (hbA.cell (p := ⟨w.heap.size, 2, none⟩) hg0).trans f2, (hbA.cell (p := ⟨w.heap.size, 3, none⟩) hg0).trans f3, (hbA.cell (p := ⟨w.heap.size, 4, none⟩) hg0).trans f4⟩
  try simp only [List.getElem_toArray, List.getElem_cons_succ, List.getElem_cons_zero, Act.put, List.setIfInBounds_toArray, List.set_cons_zero, List.set_cons_succ]
  refine wpAnyH_ready (rs := [7]) (by kernel_rfl) (by simp) ?_
  refine AllReadyH.cons rfl (fun K hK => ?_) AllReadyH.nil
  go_simp
  go_at_call 92
  refine hCC.out.mono ?_
  rintro en w9 ⟨a9, c9, rfl, hS9, hb9'⟩
  have hb9 := hb4.trans (hb9'.mono hb4.size)
  refine hK.out _ _ ⟨(hb9.cell (p := ⟨w.heap.size, 0, none⟩) hg0).trans f0, (hb9.cell (p := ⟨w.heap.size, 1, none⟩) hg0).trans f1, (hb9.cell (p := ⟨w.heap.size, 2, none⟩) hg0).trans f2, (hb9.cell (p := ⟨w.heap.size, 3, none⟩) hg0).trans f3, (hb9.cell (p := ⟨w.heap.size, 4, none⟩) hg0).trans f4⟩ (fun _ => ?_)
  clear hK K hHeld
  have hHeld : (fun w' => w'.cell? ⟨w.heap.size, 0, none⟩ = some (.string nm) ∧ w'.cell? ⟨w.heap.size, 1, none⟩ = some (.int .i64 k) ∧ w'.cell? ⟨w.heap.size, 2, none⟩ = some (.int .i64 n) ∧ w'.cell? ⟨w.heap.size, 3, none⟩ = some (.string t) ∧ w'.cell? ⟨w.heap.size, 4, none⟩ = some (.slice p (L.length : Nat) c)) w9 := ⟨(hb9.cell (p := ⟨w.heap.size, 0, none⟩) hg0).trans f0, (hb9.cell (p := ⟨w.heap.size, 1, none⟩) hg0).trans f1, (hb9.cell (p := ⟨w.heap.size, 2, none⟩) hg0).trans f2, (hb9.cell (p := ⟨w.heap.size, 3, none⟩) hg0).trans f3, (hb9.cell (p := ⟨w.heap.size, 4, none⟩) hg0).trans f4⟩
  try simp only [List.getElem_toArray, List.getElem_cons_succ, List.getElem_cons_zero, Act.put, List.setIfInBounds_toArray, List.set_cons_zero, List.set_cons_succ]
  refine wpAnyH_take (i := 8) (v := ?_) rfl (by kernel_rfl) (by kernel_rfl) (by kernel_rfl) (fun _ _ _ h => h) (Or.inl ⟨by rfl, ?_⟩) hHeld ?_
  rotate_left
  · intro w' hSw
    go_simp
    try with_reducible rfl
  try simp only [List.getElem_toArray, List.getElem_cons_succ, List.getElem_cons_zero, Act.put, List.setIfInBounds_toArray, List.set_cons_zero, List.set_cons_succ]
  refine wpAnyH_done (by kernel_rfl) ?_ _
  clear hHeld
  go_wp2
  go_ret
  exact ⟨a9, c9, rfl, hS9, hb0.trans (hb9.mono hb0.size)⟩
set_option linter.unusedSimpArgs false in
set_option linter.unusedVariables false in
set_option maxHeartbeats 8000000 in
set_option maxRecDepth 100000 in
theorem encodeContext_any {P : Nat → Prop} (x : CEl) {w : World} (hA : AttrsP P x.p x.c x.x.attrs w) (hT : TinyC x.x) (hx : ∀ a ∈ x.x.attrs, checkE a.val = 0) :
    Calls Tryz.prog 52 #[x.agg] w (Made (ctxB x.x) w) := by
  obtain ⟨⟨kd, ky, at_⟩, p, c⟩ := x
  have u1 := hT.kind
  have u2 := hT.key
  have u3 := hT.attrs
  have u4 := hT.each
  simp only at hA hx u1 u2 u3 u4
  have hV : ∀ W, Below w.heap.size w W → Calls Tryz.prog 94 #[.slice p (at_.length : Nat) c, .func (.func 95) #[] #[]] W (Made (Wi.numB (at_.length : Int) ++ at_.flatMap attrB) W) := fun W hb => by
    obtain ⟨fs, hfs, hE⟩ := (hA.same (SameB.of_below hb)).els
    have h9 := encAttrs_any p c fs W hE (fun e => attrB e.a) (by rw [← hfs, List.length_map] at u3; omega) (fun e _ => by
      have := Wi.numB_pos (e.a.name.size : Int)
      unfold attrB Wi.textB
      simp only [List.length_append]
      omega) (fun k => by
      have h8 := flat_len (f := fun e : AEl => attrB e.a) (m := 4400) (fs.take k) fun e he => attrB_len (u4 e.a (by rw [← hfs]; exact List.mem_map_of_mem (List.mem_of_mem_take he)))
      have h7 : (fs.take k).length * 4400 ≤ 20 * 4400 := Nat.mul_le_mul_right _ (by rw [List.length_take]; rw [← hfs, List.length_map] at u3; omega)
      omega) (fun e he W2 hb2 => encodeAttribute_any e (ListP.same (hE.ok e he) (SameB.of_below hb2)) (u4 e.a (by rw [← hfs]; exact List.mem_map_of_mem he)) (hx e.a (by rw [← hfs]; exact List.mem_map_of_mem he)))
    have h6 : fs.flatMap (fun e => attrB e.a) = at_.flatMap attrB := by rw [← hfs, List.flatMap_map]
    have h5 : fs.length = at_.length := by rw [← hfs, List.length_map]
    rw [h6, h5] at h9
    exact h9
  unfold CEl.agg
  simp only
  have t1 := textB_len kd (by omega)
  have t2 := textB_len ky (by omega)
  have t3 := flat_len (f := attrB) (m := 4400) at_ fun a ha => attrB_len (u4 a ha)
  have t4 : at_.length * 4400 ≤ 20 * 4400 := Nat.mul_le_mul_right _ u3
  have t5 := Wi.numB_len (at_.length : Int) (by omega) (by omega)
  have t6 : (Wi.numB (at_.length : Int) ++ at_.flatMap attrB).length ≤ 100000 := by rw [List.length_append]; omega
  have hcB : ctxB ⟨kd, ky, at_⟩ = Wi.textB kd ++ (Wi.textB ky ++ (Wi.numB (at_.length : Int) ++ at_.flatMap attrB)) := rfl
  rw [hcB]
  have hT1 := fun W => encodeText_any kd W (by omega)
  have hT2 := fun W => encodeText_any ky W (by omega)
  generalize Wi.numB (at_.length : Int) ++ at_.flatMap attrB = l3 at hV t6 ⊢
  generalize Wi.textB kd = l1 at hT1 t1 ⊢
  generalize Wi.textB ky = l2 at hT2 t2 ⊢
  have hsum : l1.length + l2.length + l3.length ≤ 1000000 := by omega
  obtain ⟨l4, hl4⟩ : ∃ l4, l1 ++ (l2 ++ l3) = l4 := ⟨_, rfl⟩
  rw [hl4]
  replace hl4 := Lib.hid hl4
  replace hV := Lib.hid hV
  replace hT1 := Lib.hid hT1
  replace hT2 := Lib.hid hT2
  clear hA hT hx hcB u1 u2 u3 u4 t1 t2 t3 t4 t5 t6
  have hb0 := (Below.refl w.heap.size w).alloc (Nat.le_refl _) (.cells #[.string kd, .string ky, .slice p (at_.length : Nat) c] 63)
  have z0 := heap_alloc_new w (.cells #[.string kd, .string ky, .slice p (at_.length : Nat) c] 63)
  have hg0 : w.heap.size < (w.alloc (.cells #[.string kd, .string ky, .slice p (at_.length : Nat) c] 63)).heap.size := by simp
  generalize hw0 : w.alloc (.cells #[.string kd, .string ky, .slice p (at_.length : Nat) c] 63) = w0 at hb0 z0 hg0
  have f0 : w0.cell? ⟨w.heap.size, 0, none⟩ = some (.string kd) := by rw [Lib.cell_of_heap z0]; rfl
  have f1 : w0.cell? ⟨w.heap.size, 1, none⟩ = some (.string ky) := by rw [Lib.cell_of_heap z0]; rfl
  have f2 : w0.cell? ⟨w.heap.size, 2, none⟩ = some (.slice p (at_.length : Nat) c) := by rw [Lib.cell_of_heap z0]; rfl
  go_enter Tryz.func52, Tryz.ntmps52
  go_upto_region 1 with (fail)
  try rw [hw0]
  clear hw0
  have hdr := (Below.refl w0.heap.size w0).drew
  have hbd := hb0.trans (hdr.mono hb0.size)
  refine wp_region_held_drew (S := fun w' => w'.cell? ⟨w.heap.size, 0, none⟩ = some (.string kd) ∧ w'.cell? ⟨w.heap.size, 1, none⟩ = some (.string ky) ∧ w'.cell? ⟨w.heap.size, 2, none⟩ = some (.slice p (at_.length : Nat) c)) (by kernel_rfl) ⟨f0, f1, f2⟩ (fun hHeld => ?_)
  refine wpAnyH_take (i := 0) (v := ?_) rfl (by kernel_rfl) (by kernel_rfl) (by kernel_rfl) (fun _ _ _ h => h) (Or.inl ⟨by rfl, ?_⟩) hHeld ?_
  rotate_left
  · intro w' hSw
    go_simp
    try with_reducible rfl
  try simp only [List.getElem_toArray, List.getElem_cons_succ, List.getElem_cons_zero, Act.put, List.setIfInBounds_toArray, List.set_cons_zero, List.set_cons_succ]
  refine wpAnyH_take (i := 1) (v := ?_) rfl (by kernel_rfl) (by kernel_rfl) (by kernel_rfl) (fun _ _ _ h => h) (Or.inl ⟨by rfl, ?_⟩) hHeld ?_
  rotate_left
  · intro w' hSw
    obtain ⟨e0, e1, e2⟩ := hSw
    go_simp
    try with_reducible rfl
  try simp only [List.getElem_toArray, List.getElem_cons_succ, List.getElem_cons_zero, Act.put, List.setIfInBounds_toArray, List.set_cons_zero, List.set_cons_succ]
  refine wpAnyH_take (i := 3) (v := ?_) rfl (by kernel_rfl) (by kernel_rfl) (by kernel_rfl) (fun _ _ _ h => h) (Or.inl ⟨by rfl, ?_⟩) hHeld ?_
  rotate_left
  · intro w' hSw
    go_simp
    try with_reducible rfl
  try simp only [List.getElem_toArray, List.getElem_cons_succ, List.getElem_cons_zero, Act.put, List.setIfInBounds_toArray, List.set_cons_zero, List.set_cons_succ]
  refine wpAnyH_take (i := 4) (v := ?_) rfl (by kernel_rfl) (by kernel_rfl) (by kernel_rfl) (fun _ _ _ h => h) (Or.inl ⟨by rfl, ?_⟩) hHeld ?_
  rotate_left
  · intro w' hSw
    obtain ⟨e0, e1, e2⟩ := hSw
    go_simp
    try with_reducible rfl
  try simp only [List.getElem_toArray, List.getElem_cons_succ, List.getElem_cons_zero, Act.put, List.setIfInBounds_toArray, List.set_cons_zero, List.set_cons_succ]
  refine wpAnyH_take (i := 6) (v := ?_) rfl (by kernel_rfl) (by kernel_rfl) (by kernel_rfl) (fun _ _ _ h => h) (Or.inl ⟨by rfl, ?_⟩) hHeld ?_
  rotate_left
  · intro w' hSw
    go_simp
    try with_reducible rfl
  try simp only [List.getElem_toArray, List.getElem_cons_succ, List.getElem_cons_zero, Act.put, List.setIfInBounds_toArray, List.set_cons_zero, List.set_cons_succ]
  refine wpAnyH_take (i := 7) (v := ?_) rfl (by kernel_rfl) (by kernel_rfl) (by kernel_rfl) (fun _ _ _ h => h) (Or.inl ⟨by rfl, ?_⟩) hHeld ?_
  rotate_left
  · intro w' hSw
    obtain ⟨e0, e1, e2⟩ := hSw
    go_simp
    try with_reducible rfl
  try simp only [List.getElem_toArray, List.getElem_cons_succ, List.getElem_cons_zero, Act.put, List.setIfInBounds_toArray, List.set_cons_zero, List.set_cons_succ]
  refine wpAnyH_ready (rs := [2]) (by kernel_rfl) (by simp) ?_
  refine AllReadyH.cons rfl (fun K hK => ?_) AllReadyH.nil
  go_simp
  go_at_call 93
  refine (hT1.out _).mono ?_
  rintro en w3 ⟨a3, c3, rfl, hS3, hb3'⟩
  have hb3 := hdr.trans (hb3'.mono hdr.size)
  refine hK.out _ _ ⟨(hb3.cell (p := ⟨w.heap.size, 0, none⟩) hg0).trans f0, (hb3.cell (p := ⟨w.heap.size, 1, none⟩) hg0).trans f1, (hb3.cell (p := ⟨w.heap.size, 2, none⟩) hg0).trans f2⟩ (fun _ => ?_)
  clear hK K hHeld
  have hHeld : (fun w' => w'.cell? ⟨w.heap.size, 0, none⟩ = some (.string kd) ∧ w'.cell? ⟨w.heap.size, 1, none⟩ = some (.string ky) ∧ w'.cell? ⟨w.heap.size, 2, none⟩ = some (.slice p (at_.length : Nat) c)) w3 := ⟨(hb3.cell (p := ⟨w.heap.size, 0, none⟩) hg0).trans f0, (hb3.cell (p := ⟨w.heap.size, 1, none⟩) hg0).trans f1, (hb3.cell (p := ⟨w.heap.size, 2, none⟩) hg0).trans f2⟩
  try simp only [List.getElem_toArray, List.getElem_cons_succ, List.getElem_cons_zero, Act.put, List.setIfInBounds_toArray, List.set_cons_zero, List.set_cons_succ]
  refine wpAnyH_ready (rs := [5]) (by kernel_rfl) (by simp) ?_
  refine AllReadyH.cons rfl (fun K hK => ?_) AllReadyH.nil
  go_simp
  go_at_call 93
  refine (hT2.out _).mono ?_
  rintro en w4 ⟨a4, c4, rfl, hS4, hb4'⟩
  have hb4 := hb3.trans (hb4'.mono hb3.size)
  refine hK.out _ _ ⟨(hb4.cell (p := ⟨w.heap.size, 0, none⟩) hg0).trans f0, (hb4.cell (p := ⟨w.heap.size, 1, none⟩) hg0).trans f1, (hb4.cell (p := ⟨w.heap.size, 2, none⟩) hg0).trans f2⟩ (fun _ => ?_)
  clear hK K hHeld
  have hHeld : (fun w' => w'.cell? ⟨w.heap.size, 0, none⟩ = some (.string kd) ∧ w'.cell? ⟨w.heap.size, 1, none⟩ = some (.string ky) ∧ w'.cell? ⟨w.heap.size, 2, none⟩ = some (.slice p (at_.length : Nat) c)) w4 := ⟨(hb4.cell (p := ⟨w.heap.size, 0, none⟩) hg0).trans f0, (hb4.cell (p := ⟨w.heap.size, 1, none⟩) hg0).trans f1, (hb4.cell (p := ⟨w.heap.size, 2, none⟩) hg0).trans f2⟩
  try simp only [List.getElem_toArray, List.getElem_cons_succ, List.getElem_cons_zero, Act.put, List.setIfInBounds_toArray, List.set_cons_zero, List.set_cons_succ]
  refine wpAnyH_ready (rs := [8]) (by kernel_rfl) (by simp) ?_
  refine AllReadyH.cons rfl (fun K hK => ?_) AllReadyH.nil
  go_simp
  go_at_call 94
  refine (hV.out _ (hb0.trans (hb4.mono hb0.size))).mono ?_
  rintro en w5 ⟨a5, c5, rfl, hS5, hb5'⟩
  have hb5 := hb4.trans (hb5'.mono hb4.size)
  refine hK.out _ _ ⟨(hb5.cell (p := ⟨w.heap.size, 0, none⟩) hg0).trans f0, (hb5.cell (p := ⟨w.heap.size, 1, none⟩) hg0).trans f1, (hb5.cell (p := ⟨w.heap.size, 2, none⟩) hg0).trans f2⟩ (fun _ => ?_)
  clear hK K hHeld
  have hHeld : (fun w' => w'.cell? ⟨w.heap.size, 0, none⟩ = some (.string kd) ∧ w'.cell? ⟨w.heap.size, 1, none⟩ = some (.string ky) ∧ w'.cell? ⟨w.heap.size, 2, none⟩ = some (.slice p (at_.length : Nat) c)) w5 := ⟨(hb5.cell (p := ⟨w.heap.size, 0, none⟩) hg0).trans f0, (hb5.cell (p := ⟨w.heap.size, 1, none⟩) hg0).trans f1, (hb5.cell (p := ⟨w.heap.size, 2, none⟩) hg0).trans f2⟩
  try simp only [List.getElem_toArray, List.getElem_cons_succ, List.getElem_cons_zero, Act.put, List.setIfInBounds_toArray, List.set_cons_zero, List.set_cons_succ]
  have hbA := hb5.trans ((Below.refl w5.heap.size w5).alloc (Nat.le_refl _) (.cells #[.slice a3 (l1.length : Nat) c3, .slice a4 (l2.length : Nat) c4, .slice a5 (l3.length : Nat) c5] 22) |>.mono hb5.size)
  have hCC := concat3 (src_below (src_below hS3 hb4') hb5') (src_below hS4 hb5') hS5 hsum
  rw [hl4.out] at hCC
  replace hCC := Lib.hid hCC
  refine wpAnyH_ready (rs := [9]) (by kernel_rfl) (by simp) ?_
  refine AllReadyH.cons rfl (fun K hK => ?_) AllReadyH.nil
  go_simp
  refine hK.out _ _ ⟨(hbA.cell (p := ⟨w.heap.size, 0, none⟩) hg0).trans f0, (hbA.cell (p := ⟨w.heap.size, 1, none⟩) hg0).trans f1, (hbA.cell (p := ⟨w.heap.size, 2, none⟩) hg0).trans f2⟩ (fun _ => ?_)
  clear hK K hHeld
  have hHeld : (fun w' => w'.cell? ⟨w.heap.size, 0, none⟩ = some (.string kd) ∧ w'.cell? ⟨w.heap.size, 1, none⟩ = some (.string ky) ∧ w'.cell? ⟨w.heap.size, 2, none⟩ = some (.slice p (at_.length : Nat) c)) (w5.alloc (.cells #[.slice a3 (l1.length : Nat) c3, .slice a4 (l2.length : Nat) c4, .slice a5 (l3.length : Nat) c5] 22)) := ⟨(hbA.cell (p := ⟨w.heap.size, 0, none⟩) hg0).trans f0, (hbA.cell (p := ⟨w.heap.size, 1, none⟩) hg0).trans f1, (hbA.cell (p := ⟨w.heap.size, 2, none⟩) hg0).trans f2⟩
  try simp only [List.getElem_toArray, List.getElem_cons_succ, List.getElem_cons_zero, Act.put, List.setIfInBounds_toArray, List.set_cons_zero, List.set_cons_succ]
  refine wpAnyH_ready (rs := [10]) (by kernel_rfl) (by simp) ?_
  refine AllReadyH.cons rfl (fun K hK => ?_) AllReadyH.nil
  go_simp
  go_at_call 92
  refine hCC.out.mono ?_
  rintro en w9 ⟨a9, c9, rfl, hS9, hb9'⟩
  have hb9 := hb5.trans (hb9'.mono hb5.size)
  refine hK.out _ _ ⟨(hb9.cell (p := ⟨w.heap.size, 0, none⟩) hg0).trans f0, (hb9.cell (p := ⟨w.heap.size, 1, none⟩) hg0).trans f1, (hb9.cell (p := ⟨w.heap.size, 2, none⟩) hg0).trans f2⟩ (fun _ => ?_)
  clear hK K hHeld
  have hHeld : (fun w' => w'.cell? ⟨w.heap.size, 0, none⟩ = some (.string kd) ∧ w'.cell? ⟨w.heap.size, 1, none⟩ = some (.string ky) ∧ w'.cell? ⟨w.heap.size, 2, none⟩ = some (.slice p (at_.length : Nat) c)) w9 := ⟨(hb9.cell (p := ⟨w.heap.size, 0, none⟩) hg0).trans f0, (hb9.cell (p := ⟨w.heap.size, 1, none⟩) hg0).trans f1, (hb9.cell (p := ⟨w.heap.size, 2, none⟩) hg0).trans f2⟩
  try simp only [List.getElem_toArray, List.getElem_cons_succ, List.getElem_cons_zero, Act.put, List.setIfInBounds_toArray, List.set_cons_zero, List.set_cons_succ]
  refine wpAnyH_take (i := 11) (v := ?_) rfl (by kernel_rfl) (by kernel_rfl) (by kernel_rfl) (fun _ _ _ h => h) (Or.inl ⟨by rfl, ?_⟩) hHeld ?_
  rotate_left
  · intro w' hSw
    go_simp
    try with_reducible rfl
  try simp only [List.getElem_toArray, List.getElem_cons_succ, List.getElem_cons_zero, Act.put, List.setIfInBounds_toArray, List.set_cons_zero, List.set_cons_succ]
  refine wpAnyH_done (by kernel_rfl) ?_ _
  clear hHeld
  go_wp2
  go_ret
  exact ⟨a9, c9, rfl, hS9, hb0.trans (hb9.mono hb0.size)⟩
/-- The encoding of a subject, none if it is not valid. -/
def encP (l : List Ctx) : List UInt8 := if subjE l = 0 then subjB l else []
set_option linter.unusedSimpArgs false in
set_option linter.unusedVariables false in
set_option maxHeartbeats 8000000 in
set_option maxRecDepth 100000 in
theorem encode_any {P : Nat → Prop} (a0 : Option Addr) (cp : Nat) (l : List Ctx) (w : World) (E : Env w) (hA : CtxsP P a0 cp l w) (hF : ∀ x ∈ l, FitC x) (hl : l.length ≤ 9223372036854775000) (hT : subjE l = 0 → l.length ≤ 4 ∧ ∀ x ∈ l, TinyC x) :
    Calls Tryz.prog 23 #[.agg #[.slice a0 (l.length : Nat) cp]] w fun en w' => (∃ a1 c1, en = .returned (.tuple #[.slice a1 ((encP l).length : Nat) c1, .int .i64 (subjE l)]) ∧ Wi.Src a1 (encP l) c1 w') ∧ Below w.heap.size w w' := by
  obtain ⟨N, hNe⟩ : ∃ N, l.length = N := ⟨_, rfl⟩
  obtain ⟨SB, hSB⟩ : ∃ SB, encP l = SB := ⟨_, rfl⟩
  rw [hSB, hNe]
  unfold encP at hSB
  have hb0 := (Below.refl w.heap.size w).alloc (Nat.le_refl _) (.cells #[.slice a0 (N : Nat) cp] 25)
  have z0 := heap_alloc_new w (.cells #[.slice a0 (N : Nat) cp] 25)
  have hg0 : w.heap.size < (w.alloc (.cells #[.slice a0 (N : Nat) cp] 25)).heap.size := by simp
  have hA0 := hA.same (SameB.of_below hb0)
  generalize hw0 : w.alloc (.cells #[.slice a0 (N : Nat) cp] 25) = w0 at hb0 z0 hA0 hg0
  have hCk := check_subject a0 cp l w0 (E.below hb0) hA0 hF hl
  rw [hNe] at hCk
  have v0 : w0.cell? ⟨w.heap.size, 0, none⟩ = some (.slice a0 N cp) := by rw [Lib.cell_of_heap z0]; rfl
  clear hA E
  by_cases hC : subjE l = 0
  · rw [if_pos hC] at hSB
    obtain ⟨h4, hTi⟩ := hT hC
    have hck : ∀ x ∈ l, ∀ a ∈ x.attrs, checkE a.val = 0 := fun x hx a ha => Classical.byContradiction fun h => subjE_bad l ⟨x, hx, a, ha, h⟩ hC
    rw [hC] at hCk ⊢
    have hEn : ∀ W, Below w0.heap.size w0 W → Calls Tryz.prog 51 #[.slice a0 (N : Nat) cp, .func (.func 52) #[] #[]] W (Made SB W) := fun W hb => by
      obtain ⟨fs, hfs, hE⟩ := (hA0.same (SameB.of_below hb)).els
      have h5 : fs.length = N := by rw [← hNe, ← hfs, List.length_map]
      have h9 := encCtxs_any a0 cp fs W hE (fun e => ctxB e.x) (by omega) (fun e _ => by
        have := Wi.numB_pos (e.x.kind.size : Int)
        unfold ctxB Wi.textB
        simp only [List.length_append]
        omega) (fun k => by
        have h8 := flat_len (f := fun e : CEl => ctxB e.x) (m := 88300) (fs.take k) fun e he => ctxB_len (hTi e.x (by rw [← hfs]; exact List.mem_map_of_mem (List.mem_of_mem_take he)))
        have h7 : (fs.take k).length * 88300 ≤ 4 * 88300 := Nat.mul_le_mul_right _ (by rw [List.length_take]; omega)
        omega) (fun e he W2 hb2 => encodeContext_any e (AttrsP.same (hE.ok e he) (SameB.of_below hb2)) (hTi e.x (by rw [← hfs]; exact List.mem_map_of_mem he)) (hck e.x (by rw [← hfs]; exact List.mem_map_of_mem he)))
      have h6 : fs.flatMap (fun e => ctxB e.x) = l.flatMap ctxB := by rw [← hfs, List.flatMap_map]
      rw [h6, h5] at h9
      rw [← hSB]
      unfold subjB
      rw [hNe]
      exact h9
    replace hCk := Lib.hid hCk
    replace hEn := Lib.hid hEn
    clear hSB hA0 hck hTi h4 hT hF
    go_enter Tryz.func23, Tryz.ntmps23
    go_upto_region 1 with (fail)
    try rw [hw0]
    clear hw0
    go_wp2_with (first
      | (go_at_call 29; refine hCk.out.mono ?_; rintro en w1 ⟨rfl, hb1⟩; have v1 := (hb1.cell (p := ⟨w.heap.size, 0, none⟩) hg0).trans v0; have hE1 := Lib.hid (hEn.out w1 hb1))
      | (go_at_call 51; refine hE1.out.mono ?_; rintro en w2 ⟨a2, c2, rfl, hS2, hb2⟩))
    go_ret2
    exact ⟨⟨a2, c2, rfl, hS2⟩, hb0.trans ((hb1.trans (hb2.mono hb1.size)).mono hb0.size)⟩
  · rw [if_neg hC] at hSB
    subst hSB
    have hcb : (subjE l == 0) = false := by simp [hC]
    generalize subjE l = ce at hC hcb hCk ⊢
    replace hCk := Lib.hid hCk
    clear hA0 hT hF
    go_enter Tryz.func23, Tryz.ntmps23
    go_upto_region 1 with (fail)
    try rw [hw0]
    clear hw0
    go_wp2_with (go_at_call 29; refine hCk.out.mono ?_; rintro en w1 ⟨rfl, hb1⟩)
    go_ret2
    exact ⟨⟨none, 0, rfl, src_nil w1⟩, hb0.trans (hb1.mono hb0.size)⟩
end Go.Proofs.YtcbnefeedoabeaaGreatDoor
/- A valid subject is small, and its bytes are decoded as it was: plain laws. -/
namespace Go.Proofs.YtcbnefeedoabeaaGreatDoor
open Go Go.RowKit

theorem parse_size (s : ByteArray) (h : (parseP s).2 = 0) : s.size ≤ 14 := by
  have hl : s.data.toList.length = s.size := rfl
  have ht : s.data.toList.length ≤ (Lib.trimPrefix s.data.toList [45]).length + 1 := by
    unfold Lib.trimPrefix
    split
    · rw [List.length_drop]
      simp
      omega
    · omega
  unfold parseP at h
  split at h
  · exact absurd h (by decide)
  · rename_i h1
    split at h
    · exact absurd h (by decide)
    · rename_i h2
      have ha : (Lib.trimPrefix s.data.toList [45]).all isD = true := by
        cases hq : (Lib.trimPrefix s.data.toList [45]).all isD with
        | true => rfl
        | false => exact absurd (.inr (.inr hq)) h1
      by_cases h3 : 13 < (Lib.trimPrefix s.data.toList [45]).length
      · by_cases h4 : (Lib.trimPrefix s.data.toList [45]).head? = some 48
        · cases hz : isZ s with
          | true =>
            have h5 : s.data.toList = [48] := by simpa [isZ] using hz
            rw [h5] at hl
            simp at hl
            omega
          | false => exact absurd (.inr (.inl ⟨h4, hz⟩)) h1
        · exact absurd (valN_long _ ha h3 h4) h2
      · omega
theorem seg_size (s : ByteArray) (k : Nat) : (segAt s k).size = min (nextDot s (startAt s k)) s.size - startAt s k := by
  unfold segAt
  rw [ByteArray.size_extract]
theorem ver_size (s : ByteArray) (h : verOk s) : s.size ≤ 50 := by
  obtain ⟨p0, p1, p2⟩ := h
  have a0 := parse_size _ p0.1
  have a1 := parse_size _ p1.1
  have a2 := parse_size _ p2.1
  rw [seg_size] at a0 a1 a2
  have b0 := p0.2.2.2.1 (by omega)
  have b1 := p1.2.2.2.1 (by omega)
  have b2 : ¬ nextDot s (startAt s 2) < s.size := fun h => by have := p2.2.2.2.2 h; omega
  have e0 : startAt s 0 = 0 := rfl
  have e1 : startAt s 1 = nextDot s (startAt s 0) + 1 := rfl
  have e2 : startAt s 2 = nextDot s (startAt s 1) + 1 := rfl
  omega
theorem bytes_empty {s : ByteArray} (h : s.size = 0) : s = ⟨#[]⟩ := by
  obtain ⟨d⟩ := s
  have : d = #[] := Array.eq_empty_of_size_eq_zero h
  rw [this]
/-- A valid value: its own fields, and what it is. -/
theorem val_cases {v : Val} (h : checkE v = 0) : ((v.kind = 1 ∨ v.kind = 2) ∧ v.text = ⟨#[]⟩ ∧ v.list = [] ∧ -1099511627776 ≤ v.num ∧ v.num ≤ 1099511627776) ∨ ((v.kind = 3 ∨ v.kind = 4) ∧ v.num = 0 ∧ v.list = [] ∧ v.text.size ≤ 200) ∨ (v.kind = 5 ∧ v.num = 0 ∧ v.text = ⟨#[]⟩ ∧ v.list.length ≤ 20 ∧ ∀ s ∈ v.list, s.size ≤ 200) := by
  have hk : ¬ (v.kind < 1 ∨ 5 < v.kind) := fun hk => checkE_kind hk h
  unfold checkE at h
  rw [if_neg hk] at h
  by_cases hs : shapeP v
  · rw [if_neg (by simpa using hs)] at h
    obtain ⟨s1, s2, s3⟩ := hs
    by_cases e1 : v.kind = 1
    · rw [if_pos e1] at h
      have h2 : v.num = 0 ∨ v.num = 1 := by
        by_cases h2 : v.num = 0 ∨ v.num = 1
        · exact h2
        · rw [if_neg h2] at h
          exact absurd h (by decide)
      exact .inl ⟨.inl e1, bytes_empty (by omega), List.eq_nil_of_length_eq_zero (by omega), by omega, by omega⟩
    · rw [if_neg e1] at h
      by_cases e2 : v.kind = 2
      · rw [if_pos e2] at h
        have h2 : ¬ (v.num < -1099511627776 ∨ 1099511627776 < v.num) := fun h2 => by
          rw [if_pos h2] at h
          exact absurd h (by decide)
        exact .inl ⟨.inr e2, bytes_empty (by omega), List.eq_nil_of_length_eq_zero (by omega), by omega, by omega⟩
      · rw [if_neg e2] at h
        by_cases e3 : v.kind = 3
        · rw [if_pos e3] at h
          have h2 : validB v.text = true := by
            by_cases h2 : validB v.text = true
            · exact h2
            · rw [if_neg h2] at h
              exact absurd h (by decide)
          have h3 : v.text.size ≤ 200 := by
            by_cases h3 : v.text.size ≤ 200
            · exact h3
            · rw [validB_long h3] at h2
              cases h2
          exact .inr (.inl ⟨.inl e3, by omega, List.eq_nil_of_length_eq_zero (by omega), h3⟩)
        · rw [if_neg e3] at h
          by_cases e4 : v.kind = 4
          · rw [if_pos e4] at h
            have h2 : verOk v.text := by
              by_cases h2 : verOk v.text
              · exact h2
              · rw [if_neg h2] at h
                exact absurd h (by decide)
            have := ver_size _ h2
            exact .inr (.inl ⟨.inr e4, by omega, List.eq_nil_of_length_eq_zero (by omega), by omega⟩)
          · rw [if_neg e4] at h
            unfold listE at h
            have h2 : ¬ 20 < v.list.length := fun h2 => by
              rw [if_pos h2] at h
              exact absurd h (by decide)
            rw [if_neg h2] at h
            have h3 : v.list.all validB = true := by
              by_cases h3 : v.list.all validB = true
              · exact h3
              · rw [if_neg h3] at h
                exact absurd h (by decide)
            refine .inr (.inr ⟨by omega, by omega, bytes_empty (by omega), by omega, fun s hs => ?_⟩)
            have h4 := List.all_eq_true.1 h3 s hs
            by_cases h5 : s.size ≤ 200
            · exact h5
            · rw [validB_long h5] at h4
              cases h4
  · rw [if_pos hs] at h
    exact absurd h (by decide)
theorem tiny_of {a : Attr} (h : checkE a.val = 0) (hn : a.name.size ≤ 32) : TinyA a := by
  have hz : (⟨#[]⟩ : ByteArray).size = 0 := rfl
  rcases val_cases h with ⟨h1, h2, h3, h4, h5⟩ | ⟨h1, h2, h3, h4⟩ | ⟨h1, h2, h3, h4, h5⟩
  · exact ⟨hn, by omega, by omega, by rw [h2]; omega, by rw [h3]; exact Nat.zero_le _, fun s hs => by rw [h3] at hs; simp at hs⟩
  · exact ⟨hn, by omega, by omega, h4, by rw [h3]; exact Nat.zero_le _, fun s hs => by rw [h3] at hs; simp at hs⟩
  · exact ⟨hn, by omega, by omega, by rw [h3]; omega, h4, h5⟩
theorem attrsGo_all : ∀ (l : List Attr) (b : ByteArray), attrsGo b l = 0 → ∀ a ∈ l, a.name.size ≤ 32 ∧ checkE a.val = 0
  | [], _, _, a, ha => by simp at ha
  | x :: t, b, h, a, ha => by
    unfold attrsGo at h
    split at h
    · rename_i hn
      split at h
      · exact absurd h (by decide)
      · split at h
        · rename_i hc
          rcases List.mem_cons.1 ha with rfl | ha
          · exact ⟨(nameB_size hn).2, hc⟩
          · exact attrsGo_all t _ h a ha
        · rename_i hc
          exact absurd h hc
    · exact absurd h (by decide)
theorem ctxE_all {b : ByteArray} {x : Ctx} (h : ctxE b x = 0) : TinyC x ∧ ∀ a ∈ x.attrs, checkE a.val = 0 := by
  unfold ctxE at h
  split at h
  · rename_i hk
    split at h
    · exact absurd h (by decide)
    · split at h
      · exact absurd h (by decide)
      · rename_i hv
        unfold attrsE at h
        split at h
        · exact absurd h (by decide)
        · rename_i hl
          have ha := attrsGo_all _ _ h
          have hv2 : validB x.key = true := by
            cases hq : validB x.key with
            | true => rfl
            | false => exact absurd (.inr hq) hv
          have hs : x.key.size ≤ 200 := by
            by_cases h5 : x.key.size ≤ 200
            · exact h5
            · rw [validB_long h5] at hv2
              cases hv2
          exact ⟨⟨(keyB_size hk).2, hs, by omega, fun a h => tiny_of (ha a h).2 (ha a h).1⟩, fun a h => (ha a h).2⟩
  · exact absurd h (by decide)
theorem subjGo_all : ∀ (l : List Ctx) (b : ByteArray), subjGo b l = 0 → ∀ x ∈ l, TinyC x ∧ ∀ a ∈ x.attrs, checkE a.val = 0
  | [], _, _, a, ha => by simp at ha
  | x :: t, b, h, y, hy => by
    unfold subjGo at h
    split at h
    · rename_i h0
      rcases List.mem_cons.1 hy with rfl | hy
      · exact ctxE_all h0
      · exact subjGo_all t _ h y hy
    · rename_i h0
      exact absurd h h0
theorem valid_tiny {l : List Ctx} (h : subjE l = 0) : l.length ≤ 4 ∧ ∀ x ∈ l, TinyC x := by
  unfold subjE at h
  split at h
  · exact absurd h (by decide)
  · rename_i hl
    exact ⟨by omega, fun x hx => (subjGo_all _ _ h x hx).1⟩
theorem valid_check {l : List Ctx} (h : subjE l = 0) : ∀ x ∈ l, ∀ a ∈ x.attrs, checkE a.val = 0 := fun x hx a ha => Classical.byContradiction fun h2 => subjE_bad l ⟨x, hx, a, ha, h2⟩ h

theorem read_num (z : Int) (hz : -9223372036854775808 ≤ z ∧ z ≤ 9223372036854775807) (t : List UInt8) : Wi.numR (Wi.numB z ++ t) 0 = (z, t, 0) := by
  have h1 : Wi.readG 0 0 (Wi.numB z ++ t) = (Wi.zz z, (Wi.numB z).length, 0) := by
    have := Wi.readG_grp t (Wi.zz z) 0 0 (by omega) (by have := Wi.zz_lt z hz.1 hz.2; simpa using this) (by omega)
    unfold Wi.numB
    rw [this]
    simp
  unfold Wi.numR
  rw [if_pos rfl, h1, if_pos rfl, Wi.unz_zz, List.drop_left]
theorem read_text (most : Int) (s : ByteArray) (hs : (s.size : Int) ≤ most) (h2 : s.size ≤ 200) (t : List UInt8) : Wi.textR most (Wi.textB s ++ t) 0 = (s, t, 0) := by
  have h3 : s.data.toList.length = s.size := rfl
  have hn : Wi.numR (Wi.textB s ++ t) 0 = ((s.size : Int), s.data.toList ++ t, 0) := by
    unfold Wi.textB
    rw [List.append_assoc]
    exact read_num _ ⟨by omega, by omega⟩ _
  rw [Wi.textR_ok (n := s.size) hn (by omega) (by rw [List.length_append]; omega), List.take_append_of_le_length (by omega), List.take_of_length_le (by omega), List.drop_append_of_le_length (by omega), List.drop_eq_nil_of_le (by omega)]
  rfl
theorem read_count (most : Nat) (n : Nat) (hn : n ≤ most) (hm : most ≤ 1000) (t : List UInt8) : Wi.atR most 5 (Wi.numB (n : Int) ++ t) 0 = (n, t, 0) := by
  unfold Wi.atR
  rw [read_num (n : Int) ⟨by omega, by omega⟩ t]
  simp only
  rw [if_pos trivial, if_neg (by omega), if_neg (by omega)]
  rfl
theorem read_each {α : Type} {f : List UInt8 → Int → α × List UInt8 × Int} {g : α → List UInt8} : ∀ (l : List α), (∀ x ∈ l, ∀ t, f (g x ++ t) 0 = (x, t, 0)) → ∀ t, eachR f l.length (l.flatMap g ++ t) 0 = (l, t, 0)
  | [], _, _ => rfl
  | x :: l, h, t => by
    have h1 := h x (List.mem_cons_self ..) (l.flatMap g ++ t)
    have h2 := read_each l (fun y hy => h y (List.mem_cons_of_mem _ hy)) t
    rw [List.flatMap_cons, List.append_assoc, List.length_cons, eachR_succ, h1]
    simp only
    rw [h2]
theorem read_list {α : Type} {f : List UInt8 → Int → α × List UInt8 × Int} {g : α → List UInt8} (most : Nat) (hm : most ≤ 1000) (l : List α) (hl : l.length ≤ most) (h : ∀ x ∈ l, ∀ t, f (g x ++ t) 0 = (x, t, 0)) (t : List UInt8) : listR most f (Wi.numB (l.length : Int) ++ (l.flatMap g ++ t)) 0 = (l, t, 0) := by
  unfold listR
  rw [read_count most l.length hl hm]
  exact read_each l h t
theorem read_val (o : Bool) {a : Attr} (h : checkE a.val = 0) (hT : TinyA a) (t : List UInt8) : valR o (valB a.val ++ t) 0 = (a.val, t, 0) := by
  obtain ⟨nm, ⟨k, n, tx, L⟩⟩ := a
  have h1 := hT.kind
  have h2 := hT.num
  have h3 := hT.each
  have h4 := hT.list
  simp only at h h1 h2 h3 h4 ⊢
  have hv : valB ⟨k, n, tx, L⟩ ++ t = Wi.numB k ++ ((if k = 1 ∨ k = 2 then Wi.numB n else if k = 5 then Wi.numB (L.length : Int) ++ L.flatMap Wi.textB else Wi.textB tx) ++ t) := by
    show (_ ++ _) ++ t = _
    rw [List.append_assoc]
  unfold valR
  rw [hv, read_num k h1]
  simp only
  rcases val_cases h with ⟨k1, k2, k3, _, _⟩ | ⟨k1, k2, k3, k4⟩ | ⟨k1, k2, k3, k4, k5⟩
  · simp only at k1 k2 k3
    rw [if_pos k1, bodyR_num k1, read_num n h2, k2, k3]
  · simp only at k1 k2 k3 k4
    rw [if_neg (by omega), if_neg (by omega), bodyR_text (by omega) (by omega) (.inl k1)]
    unfold strR
    rw [read_text 200 tx (by omega) k4, k2, k3]
  · simp only at k1 k2 k3 k4 k5
    subst k1
    have hq : listR 20 strR (Wi.numB (L.length : Int) ++ (L.flatMap Wi.textB ++ t)) 0 = (L, t, 0) := read_list (g := Wi.textB) 20 (by decide) L k4 (fun x hx t => read_text 200 x (by have := k5 x hx; omega) (k5 x hx) t) t
    rw [if_neg (by decide), if_pos rfl, bodyR_list rfl, List.append_assoc, hq, k2, k3]
theorem read_attr (o : Bool) {a : Attr} (h : checkE a.val = 0) (hT : TinyA a) (t : List UInt8) : attrR o (attrB a ++ t) 0 = (a, t, 0) := by
  have hn := hT.name
  unfold attrR attrB
  rw [List.append_assoc, read_text 32 a.name (by omega) (by omega)]
  simp only
  rw [read_val o h hT]
theorem read_ctx (o : Bool) {x : Ctx} (h : ∀ a ∈ x.attrs, checkE a.val = 0) (hT : TinyC x) (t : List UInt8) : ctxR o (ctxB x ++ t) 0 = (x, t, 0) := by
  have h1 := hT.kind
  have h2 := hT.key
  have hq : listR 20 (attrR o) (Wi.numB (x.attrs.length : Int) ++ (x.attrs.flatMap attrB ++ t)) 0 = (x.attrs, t, 0) := read_list (g := attrB) 20 (by decide) x.attrs hT.attrs (fun a ha t => read_attr o (h a ha) (hT.each a ha) t) t
  unfold ctxR ctxB
  rw [List.append_assoc, read_text 32 x.kind (by omega) (by omega)]
  simp only
  unfold restR strR
  rw [List.append_assoc, read_text 200 x.key (by omega) h2]
  simp only
  rw [List.append_assoc, hq]
/-- The bytes of a valid subject are decoded as it was. -/
theorem dec_enc (o : Bool) {l : List Ctx} (h : subjE l = 0) : decR o (subjB l) = (l, 0) := by
  obtain ⟨h4, hT⟩ := valid_tiny h
  have hc := valid_check h
  have hq : subjR o (subjB l) = (l, [], 0) := by
    have := read_list (f := ctxR o) (g := ctxB) 4 (by decide) l h4 (fun x hx t => read_ctx o (hc x hx) (hT x hx) t) []
    rw [List.append_nil] at this
    exact this
  unfold decR
  rw [hq]
  simp only
  rw [if_pos ⟨by decide, h⟩]
end Go.Proofs.YtcbnefeedoabeaaGreatDoor
/- The document's Encode of any subject. -/
namespace Go.Proofs.YtcbnefeedoabeaaGreatDoor
open Go Go.RowKit

set_option linter.unusedSimpArgs false in
set_option linter.unusedVariables false in
set_option maxHeartbeats 8000000 in
set_option maxRecDepth 100000 in
theorem refEncode_all {P : Nat → Prop} (a0 : Option Addr) (cp : Nat) (l : List Ctx) (w : World) (E : Env w) (hA : CtxsP P a0 cp l w) (hF : ∀ x ∈ l, FitC x) (hl : l.length ≤ 9223372036854775000) :
    Calls Tryz.prog 24 #[.agg #[.slice a0 (l.length : Nat) cp]] w fun en w' => (∃ a1 c1, en = .returned (.tuple #[.slice a1 ((encP l).length : Nat) c1, .int .i64 (subjE l)]) ∧ Wi.Src a1 (encP l) c1 w') ∧ Below w.heap.size w w' := by
  by_cases hC : subjE l = 0
  · obtain ⟨h4, hT⟩ := valid_tiny hC
    have h := refEncode_any a0 cp l w E hA h4 hT hC
    unfold encP
    rw [if_pos hC, hC]
    exact h
  · obtain ⟨N, hNe⟩ : ∃ N, l.length = N := ⟨_, rfl⟩
    unfold encP
    rw [if_neg hC, hNe]
    have hb0 := (Below.refl w.heap.size w).alloc (Nat.le_refl _) (.cells #[.slice a0 (N : Nat) cp] 25)
    have z0 := heap_alloc_new w (.cells #[.slice a0 (N : Nat) cp] 25)
    have hg0 : w.heap.size < (w.alloc (.cells #[.slice a0 (N : Nat) cp] 25)).heap.size := by simp
    have hA0 := hA.same (SameB.of_below hb0)
    generalize hw0 : w.alloc (.cells #[.slice a0 (N : Nat) cp] 25) = w0 at hb0 z0 hA0 hg0
    have hCk := refCheck_subject a0 cp l w0 (E.below hb0) hA0 hF hl
    rw [hNe] at hCk
    have v0 : w0.cell? ⟨w.heap.size, 0, none⟩ = some (.slice a0 N cp) := by rw [Lib.cell_of_heap z0]; rfl
    have hcb : (subjE l == 0) = false := by simp [hC]
    generalize subjE l = ce at hC hcb hCk ⊢
    replace hCk := Lib.hid hCk
    clear hA0 hF E hA
    go_enter Tryz.func24, Tryz.ntmps24
    go_upto_region 1 with (fail)
    try rw [hw0]
    clear hw0
    go_wp2_with (go_at_call 39; refine hCk.out.mono ?_; rintro en w1 ⟨rfl, hb1⟩)
    go_ret2
    exact ⟨⟨none, 0, rfl, src_nil w1⟩, hb0.trans (hb1.mono hb0.size)⟩
end Go.Proofs.YtcbnefeedoabeaaGreatDoor
