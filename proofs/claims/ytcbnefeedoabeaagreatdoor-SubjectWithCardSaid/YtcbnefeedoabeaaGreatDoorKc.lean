/- The document's With. -/
import Derived.Test.YtcbnefeedoabeaaGreatDoorKb
import Derived.BigQuiet
import Derived.Deep.CutRange
/- The document's With. -/
namespace Go.Proofs.YtcbnefeedoabeaaGreatDoor
open Go Go.RowKit

theorem with_kinds {l : List Ctx} {kd : ByteArray} {i : Nat} (ha : Asc l) (hk : findK kd l = some i) (j : Nat) (hj : j < l.length) : (l[j].kind.toList == kd.toList) = decide (j = i) := by
  unfold findK at hk
  rw [List.findIdx?_eq_some_iff_getElem] at hk
  obtain ⟨hi, h1, h2⟩ := hk
  rcases Nat.lt_trichotomy j i with h | h | h
  · rw [decide_eq_false (by omega)]
    have := h2 j h
    rw [isKind_eq] at this
    simpa using this
  · subst h
    rw [decide_eq_true rfl]
    exact h1
  · rw [decide_eq_false (by omega)]
    have h3 := List.pairwise_iff_getElem.1 ha i j hi hj h
    cases h4 : (l[j].kind.toList == kd.toList) with
    | false => rfl
    | true =>
      have e1 : l[j].kind = kd := list_inj (by simpa using h4)
      have e2 : l[i].kind = kd := list_inj (by rw [isKind_eq] at h1; simpa using h1)
      rw [e1, e2, kl_irrefl] at h3
      cases h3
set_option linter.unusedSimpArgs false in
set_option linter.unusedVariables false in
set_option maxHeartbeats 16000000 in
set_option maxRecDepth 100000 in
theorem refWith_any5 {P Q : Nat → Prop} (p : Option Addr) (c : Nat) (l : List Ctx) (kd nm : ByteArray) (v : Val) (a : Option Addr) (d : Nat) (w : World) (E : Env w) (hA : CtxsP P p c l w) (hF : ∀ x ∈ l, FitC x) (hl : l.length ≤ 100) (hV : ListP Q a d v.list w) (hvt : v.text.size ≤ 9223372036854775000) (hvl : v.list.length ≤ 1000) (hve : ∀ s ∈ v.list, s.size ≤ 9223372036854775000) (hnm : nm.size ≤ 9223372036854775000) :
    Calls Tryz.prog 18 #[.agg #[.slice p (l.length : Nat) c], .string kd, .string nm, v.agg a d] w fun en w' => (∃ (q : Option Addr) (e : Nat), en = .returned (.tuple #[.agg #[.slice q ((withP kd nm v l).1.length : Nat) e], .int .i64 (withP kd nm v l).2]) ∧ CtxsP (fun _ => True) q e (withP kd nm v l).1 w') ∧ Below w.heap.size w w' := by
  have hAk : CtxsP (fun b => b < w.heap.size) p c l w := hA.mono fun b hb _ => hb
  have hVk : ListP (fun b => b < w.heap.size) a d v.list w := hV.mono fun b hb _ => hb
  have hb0 := (((Below.refl w.heap.size w).alloc (Nat.le_refl _) (.cells #[.slice p (l.length : Nat) c] 25)).alloc (by simp) (.cells #[.int .i64 v.kind, .int .i64 v.num, .string v.text, .slice a (v.list.length : Nat) d] 41)).alloc (by simp; omega) (.cells #[.slice none 0 0] 25)
  have hs0 : (((w.alloc (.cells #[.slice p (l.length : Nat) c] 25)).alloc (.cells #[.int .i64 v.kind, .int .i64 v.num, .string v.text, .slice a (v.list.length : Nat) d] 41)).alloc (.cells #[.slice none 0 0] 25)).heap.size = w.heap.size + 3 := by simp
  have zA : (((w.alloc (.cells #[.slice p (l.length : Nat) c] 25)).alloc (.cells #[.int .i64 v.kind, .int .i64 v.num, .string v.text, .slice a (v.list.length : Nat) d] 41)).alloc (.cells #[.slice none 0 0] 25)).heap[w.heap.size]? = some (.cells #[.slice p (l.length : Nat) c] 25 (0, 0)) := (Lib.alloc_old _ _ _ (by simp; omega)).trans ((Lib.alloc_old _ _ _ (by simp)).trans (heap_alloc_new w _))
  have zB : (((w.alloc (.cells #[.slice p (l.length : Nat) c] 25)).alloc (.cells #[.int .i64 v.kind, .int .i64 v.num, .string v.text, .slice a (v.list.length : Nat) d] 41)).alloc (.cells #[.slice none 0 0] 25)).heap[w.heap.size + 1]? = some (.cells #[.int .i64 v.kind, .int .i64 v.num, .string v.text, .slice a (v.list.length : Nat) d] 41 (0, 0)) := (Lib.alloc_old _ _ _ (by simp)).trans (by have := heap_alloc_new (w.alloc (.cells #[.slice p (l.length : Nat) c] 25)) (.cells #[.int .i64 v.kind, .int .i64 v.num, .string v.text, .slice a (v.list.length : Nat) d] 41); simpa using this)
  have zR : (((w.alloc (.cells #[.slice p (l.length : Nat) c] 25)).alloc (.cells #[.int .i64 v.kind, .int .i64 v.num, .string v.text, .slice a (v.list.length : Nat) d] 41)).alloc (.cells #[.slice none 0 0] 25)).heap[w.heap.size + 2]? = some (.cells #[.slice none 0 0] 25 (0, 0)) := by have := heap_alloc_new ((w.alloc (.cells #[.slice p (l.length : Nat) c] 25)).alloc (.cells #[.int .i64 v.kind, .int .i64 v.num, .string v.text, .slice a (v.list.length : Nat) d] 41)) (.cells #[.slice none 0 0] 25); simpa using this
  obtain ⟨dd, hdr⟩ : ∃ dd, withP kd nm v l = dd := ⟨_, rfl⟩
  rw [hdr]
  replace hdr := Lib.hid hdr
  unfold Val.agg
  go_enter Tryz.func18, Tryz.ntmps18
  go_upto_region 1 with (fail)
  generalize (((w.alloc (.cells #[.slice p (l.length : Nat) c] 25)).alloc (.cells #[.int .i64 v.kind, .int .i64 v.num, .string v.text, .slice a (v.list.length : Nat) d] 41)).alloc (.cells #[.slice none 0 0] 25)) = w0 at hb0 hs0 zA zB zR ⊢
  have hA0 := hAk.same (SameB.of_below hb0)
  have hV0 := hVk.same (SameB.of_below hb0)
  have hE0 := E.below hb0
  have cA : ∀ W, Below w0.heap.size w0 W → W.cell? ⟨w.heap.size, 0, none⟩ = some (.slice p l.length c) := fun W h => by rw [Lib.cell_of_heap ((h.block _ (by omega)).trans zA)]; rfl
  have cV : ∀ W, Below w0.heap.size w0 W → W.cell? ⟨w.heap.size + 1, 0, none⟩ = some (.int .i64 v.kind) ∧ W.cell? ⟨w.heap.size + 1, 1, none⟩ = some (.int .i64 v.num) ∧ W.cell? ⟨w.heap.size + 1, 2, none⟩ = some (.string v.text) ∧ W.cell? ⟨w.heap.size + 1, 3, none⟩ = some (.slice a v.list.length d) := fun W h => ⟨by rw [Lib.cell_of_heap ((h.block _ (by omega)).trans zB)]; rfl, by rw [Lib.cell_of_heap ((h.block _ (by omega)).trans zB)]; rfl, by rw [Lib.cell_of_heap ((h.block _ (by omega)).trans zB)]; rfl, by rw [Lib.cell_of_heap ((h.block _ (by omega)).trans zB)]; rfl⟩
  have hH : ∀ W, Below w0.heap.size w0 W → W.cell? ⟨w.heap.size + 2, 0, none⟩ = some (.slice none 0 0) ∧ (∀ i, W.frozen? ⟨w.heap.size + 2, i, none⟩ = false) := fun W h => ⟨by rw [Lib.cell_of_heap ((h.block _ (by omega)).trans zR)]; rfl, Lib.frozen_of_heap ((h.block _ (by omega)).trans zR)⟩
  have hfin : ∀ (u : Value) w5, Below w0.heap.size w0 w5 → (w5.setCell ⟨w.heap.size + 2, 0, none⟩ u).cell? ⟨w.heap.size + 2, 0, none⟩ = some u ∧ Below w.heap.size w (w5.setCell ⟨w.heap.size + 2, 0, none⟩ u) := fun u w5 hb5 => by
    have z5 := (hb5.block (w.heap.size + 2) (by omega)).trans zR
    refine ⟨?_, (hb0.trans (hb5.mono (by omega))).setCell (p := ⟨w.heap.size + 2, 0, none⟩) (by show w.heap.size ≤ w.heap.size + 2; omega) u⟩
    rw [Lib.cell_of_heap (box_put z5 (i := 0) u)]
    rfl
  have hCa := refCheck_subject p c l w0 hE0 hA0 hF (by omega)
  have hFd := fun W (h : Below w0.heap.size w0 W) => refFind_any p c l kd W (hA0.same (SameB.of_below h)) (by omega)
  unfold FoundAt at hFd
  have hIN := fun W (h : Below w0.heap.size w0 W) => refNamed_any nm W (by omega)
  have hCV := fun W (h : Below w0.heap.size w0 W) => refCheck_any v a d W (by omega) (by omega) (fun s hs => by have := hve s hs; omega) (hE0.below h).tabs (hV0.same (SameB.of_below h)).texts.are
  unfold Val.agg at hCV
  have cA0 := cA w0 (Below.refl _ _)
  replace cA := Lib.hid cA
  replace cV := Lib.hid cV
  replace hH := Lib.hid hH
  replace hfin := Lib.hid hfin
  replace hFd := Lib.hid hFd
  replace hIN := Lib.hid hIN
  replace hCV := Lib.hid hCV
  replace hCa := Lib.hid hCa
  clear zA zB zR hA hV hAk hVk E
  by_cases ea : subjE l = 0
  · have hCa' := hCa.out
    rw [ea] at hCa'
    replace hCa' := Lib.hid hCa'
    clear hCa
    go_upto_region 4 with (go_at_call 39; refine hCa'.out.mono ?_; rintro e w1 ⟨rfl, hb1⟩; have aw1 := cA.out w1 hb1)
    have hFd1 := hFd.out w1 hb1
    clear hFd hCa' cA0
    cases hk : findK kd l with
    | none =>
      obtain rfl := hdr.out.symm.trans (withE_none ea hk)
      rw [foundC_none hk] at hFd1
      simp only at hFd1
      replace hFd1 := Lib.hid hFd1
      clear hdr hk
      go_upto_region 6 with (go_at_call 46; refine hFd1.out.mono ?_; rintro e w2 ⟨⟨qf, df, rfl, -⟩, hb2'⟩)
      have hb2 := (hb1.trans (hb2'.mono hb1.size)).alloc (hb1.trans (hb2'.mono hb1.size)).size (.cells #[.string noC.kind, .string noC.key, .slice qf (noC.attrs.length : Nat) df] 63)
      clear aw1
      obtain ⟨wF, hwF⟩ : ∃ wF, (w2.alloc (.cells #[.string noC.kind, .string noC.key, .slice qf (noC.attrs.length : Nat) df] 63)) = wF := ⟨_, rfl⟩
      rw [hwF] at hb2 ⊢
      clear hwF hb2'
      obtain ⟨r2, f2⟩ := hH.out wF hb2
      go_wp2
      obtain ⟨s6, hb6⟩ := hfin.out (.slice none 0 0) wF hb2
      generalize World.setCell _ _ _ = w6 at s6 hb6 ⊢
      refine bodyPost_ret (v := .tuple #[.agg #[.slice none 0 0], .int .i64 (11)]) (by simp [results, Tryz.results18, go_sem, s6]) rfl ⟨⟨none, 0, rfl, ⟨fun _ => rfl, Nat.zero_le _, fun i hi => by simp at hi⟩⟩, hb6⟩
    | some i =>
      have hil := findK_lt hk
      rw [foundC_some hk hil] at hFd1
      simp only at hFd1
      obtain ⟨x, hx⟩ : ∃ x, l[i] = x := ⟨_, rfl⟩
      rw [hx] at hFd1
      replace hFd1 := Lib.hid hFd1
      replace hx := Lib.hid hx
      go_upto_region 7 with (go_at_call 46; refine hFd1.out.mono ?_; rintro e w2 ⟨⟨qf, df, rfl, -⟩, hb2'⟩)
      have hb2 := (hb1.trans (hb2'.mono hb1.size)).alloc (hb1.trans (hb2'.mono hb1.size)).size (.cells #[.string x.kind, .string x.key, .slice qf (x.attrs.length : Nat) df] 63)
      generalize (w2.alloc (.cells #[.string x.kind, .string x.key, .slice qf (x.attrs.length : Nat) df] 63)) = wF at hb2 ⊢
      have hIN2 := hIN.out wF hb2
      clear aw1 hFd1 hIN hb2'
      cases hn : nameB nm with
      | false =>
        obtain rfl := hdr.out.symm.trans (withE_name ea hk hn)
        rw [hn] at hIN2
        replace hIN2 := Lib.hid hIN2
        clear hdr hk
        go_upto_region 8 with (go_at_call 47; refine hIN2.out.mono ?_; rintro e w3 ⟨rfl, hb3'⟩)
        have hb3 := hb2.trans (hb3'.mono hb2.size)
        obtain ⟨r3, f3⟩ := hH.out w3 hb3
        go_wp2
        obtain ⟨s6, hb6⟩ := hfin.out (.slice none 0 0) w3 hb3
        generalize World.setCell _ _ _ = w6 at s6 hb6 ⊢
        refine bodyPost_ret (v := .tuple #[.agg #[.slice none 0 0], .int .i64 (6)]) (by simp [results, Tryz.results18, go_sem, s6]) rfl ⟨⟨none, 0, rfl, ⟨fun _ => rfl, Nat.zero_le _, fun i hi => by simp at hi⟩⟩, hb6⟩
      | true =>
        rw [hn] at hIN2
        replace hIN2 := Lib.hid hIN2
        go_upto_region 9 with (go_at_call 47; refine hIN2.out.mono ?_; rintro e w3 ⟨rfl, hb3'⟩)
        have hb3 := hb2.trans (hb3'.mono hb2.size)
        obtain ⟨v0, v1, v2, v3⟩ := cV.out w3 hb3
        have hCV3 := hCV.out w3 hb3
        clear hIN2 hCV
        by_cases ev : checkE v = 0
        · rw [ev] at hCV3
          replace hCV3 := Lib.hid hCV3
          go_upto_region 12 with (go_at_call 48; refine hCV3.out.mono ?_; rintro e w4 ⟨rfl, hb4'⟩)
          have hb4 := hb3.trans (hb4'.mono hb3.size)
          clear v0 v1 v2 v3 hCV3
          have aw4 := cA.out w4 hb4
          have hs4 := hb4.size
          have hasc := valid_ascA ea l[i] (List.getElem_mem hil)
          have hti := (valid_tiny ea).2 l[i] (List.getElem_mem hil)
          have hl4 := (valid_tiny ea).1
          have hkinds : ∀ j (hj : j < l.length), (l[j].kind.toList == kd.toList) = decide (j = i) := fun j hj => with_kinds (valid_asc ea).1 hk j hj
          have hmany := fun h => hdr.out.symm.trans (withE_many ea hk hil hn ev h)
          have hgood := fun h => hdr.out.symm.trans (withE_good ea hk hil hn ev h)
          rw [hx.out] at hasc hti hmany hgood
          obtain ⟨L5, hL5⟩ : ∃ L5, putA ⟨nm, v⟩ x.attrs = L5 := ⟨_, rfl⟩
          have hputC : putC ⟨nm, v⟩ x = ⟨x.kind, x.key, L5⟩ := by rw [← hL5]; rfl
          rw [hL5] at hmany hgood
          rw [put_take hil, hputC] at hgood
          replace hmany := Lib.hid hmany
          replace hgood := Lib.hid hgood
          replace hkinds := Lib.hid hkinds
          clear hdr hk hn hF hputC
          obtain ⟨fs, hfs, hels⟩ := (hA0.same (SameB.of_below hb4)).els
          have hfl : fs.length = l.length := by rw [← hfs, List.length_map]
          obtain ⟨v5, w5, hrun5, hrow5, hb5'⟩ := run_own eltC 23 (P := fun b => b < w.heap.size) (B := w4.heap.size) (es := []) (fs := fs) (v := .slice none 0 0) (w := w4) (fun k hk => by omega) (GRow.nil eltC _ _ _) p l.length c hfl (fun e => by have := hA0.nil e; have := hA0.cap; omega) (fun ad e => by subst e; exact els_news hels) hels.ok (by simp; omega) (Nat.le_refl _)
          rw [List.nil_append] at hrow5
          obtain ⟨g, gc, rfl⟩ := hrow5.addr (by omega)
          rw [hfl] at hrow5 hrun5
          go_upto_region 13 with (at_builtin; refine wpList_run rfl _ _ rfl rfl rfl hrun5 ?_)
          have hgl := hrow5.lt g rfl
          have hst : ∃ es, GRow eltC (fun b => b ≠ w.heap.size + 2) es w4.heap.size (.slice (some ⟨g, 0, none⟩) l.length gc) w5 ∧ es.map CEl.x = (if 0 ≤ i then l else l.set i ⟨x.kind, x.key, L5⟩) ∧ (i < 0 → ¬ 20 < L5.length) := ⟨fs, hrow5.mono fun b _ hb => by omega, by rw [if_pos (Nat.zero_le _)]; exact hfs, fun h => by omega⟩
          clear hrun5 hrow5 hels hfs aw4
          go_wp2
          go_loopw [15, 16, 17, 18] (fun iV _ _ _ wr => ∃ m : Nat, m ≤ l.length ∧ iV = .int .i64 m ∧ Below w4.heap.size w4 wr ∧ ∃ es, GRow eltC (fun b => b ≠ w.heap.size + 2) es w4.heap.size (.slice (some ⟨g, 0, none⟩) l.length gc) wr ∧ es.map CEl.x = (if m ≤ i then l else l.set i ⟨x.kind, x.key, L5⟩) ∧ (i < m → ¬ 20 < L5.length)) (fun iV _ _ _ _ => l.length - (intOf iV).toNat)
          case atStart => exact ⟨0, Nat.zero_le _, rfl, hb5', hst⟩
          case round =>
            obtain ⟨m, hm, rfl, hbr4, es, hrow, hmap, hdone⟩ := hrel
            rename World => wo
            clear hst
            have hbr0 := hb4.trans (hbr4.mono hs4)
            have hlen : es.length = l.length := by
              have h9 := congrArg List.length hmap
              rw [List.length_map] at h9
              rw [h9]
              split
              · rfl
              · rw [List.length_set]
            by_cases hlt : m < l.length
            · have hmI : (m : Int) < (l.length : Int) := by omega
              have hmI0 : (0 : Int) ≤ (m : Int) := by omega
              have hme : m < es.length := by omega
              by_cases hmi : m = i
              · subst hmi
                have hmapi : es.map CEl.x = l := by rw [hmap, if_pos (Nat.le_refl _)]
                have hex : es[m].x = x := by
                  rw [← hx.out]
                  have : es[m].x = (es.map CEl.x)[m]'(by rw [List.length_map]; exact hme) := by rw [List.getElem_map]
                  rw [this]
                  simp only [hmapi]
                have hkk := hkinds.out m hlt
                rw [hx.out] at hkk
                rw [decide_eq_true rfl] at hkk
                have hok := hrow.ok es[m] (List.getElem_mem hme)
                have e0 : wo.cell? ⟨g, m * 3, none⟩ = some (.string es[m].x.kind) := own_cell (E := eltC) hrow.own m hme 0 (by decide)
                have e2 : wo.cell? ⟨g, m * 3 + 2, none⟩ = some (.slice es[m].p (es[m].x.attrs.length : Nat) es[m].c) := own_cell (E := eltC) hrow.own m hme 2 (by decide)
                have hAt : AttrsP (fun b => b < wo.heap.size ∧ g ≠ b ∧ b ≠ w.heap.size + 2) es[m].p es[m].c es[m].x.attrs wo := AttrsP.mono hok fun b hb h => ⟨hb, fun e => h.2 (by rw [← e]; rfl), h.1⟩
                rw [hex] at e0 e2 hAt
                obtain ⟨pp, hpp⟩ : ∃ pp, es[m].p = pp := ⟨_, rfl⟩
                obtain ⟨cc, hcc⟩ : ∃ cc, es[m].c = cc := ⟨_, rfl⟩
                rw [hpp] at e2 hAt
                rw [hcc] at e2 hAt
                obtain ⟨fa, hfa, hela⟩ := hAt.els
                have hfal : fa.length = x.attrs.length := by rw [← hfa, List.length_map]
                have hacap := hAt.cap
                have hgb := (hrow.lt g rfl)
                have hR0 := rankA_le nm x.attrs
                obtain ⟨R, hrank⟩ : ∃ R, rankA nm x.attrs = R := ⟨_, rfl⟩
                rw [hrank] at hR0
                have hat20 := hti.attrs
                replace hmapi := Lib.hid hmapi
                replace hpp := Lib.hid hpp
                replace hcc := Lib.hid hcc
                rw [← hfal] at e2
                rw [← hfal] at hR0 hat20 hacap
                have hfal1 : fa.length ≤ x.attrs.length := by omega
                have hfal2 : x.attrs.length ≤ fa.length := by omega
                clear hfal
                go_upto_region 18 with (fail)
                go_wp2
                go_loopw [17] (fun kV wq => ∃ k : Nat, k ≤ R ∧ kV = .int .i64 k ∧ Below wo.heap.size wo wq) (fun kV _ => R - (intOf kV).toNat)
                case atStart => exact ⟨0, Nat.zero_le _, rfl, Below.refl _ _⟩
                case round =>
                  obtain ⟨k, hkR, rfl, hbq⟩ := hrel
                  by_cases hkt : k < R
                  · have hke : k < fa.length := by omega
                    have hkI : (k : Int) < (fa.length : Int) := by omega
                    have hkI0 : (0 : Int) ≤ (k : Int) := by omega
                    have hke2 : k < x.attrs.length := by omega
                    have hless : Op.bytesLess x.attrs[k].name.toList nm.toList = true := rankA_lt nm x.attrs k hke2 (by omega)
                    obtain ⟨b2, off2, hpp2, hPb2, hbk2, hat2⟩ := hAt.at_ k hke2
                    subst hpp2
                    have g0 := (hbq.cell (p := ⟨b2, off2 + k * 5, none⟩) hbk2).trans hat2.c0
                    generalize x.attrs[k].name = kk at hless g0
                    go_wp2
                    go_roundw
                    case rel => exact ⟨k + 1, by omega, by go_num, hbq⟩
                    case measure => simp [intOf]; omega
                  · obtain rfl : k = R := by omega
                    by_cases hke : k < fa.length
                    · have hkI : (k : Int) < (fa.length : Int) := by omega
                      have hkI0 : (0 : Int) ≤ (k : Int) := by omega
                      have hkI1 : (k : Int) ≤ (fa.length : Int) := by omega
                      have hkI2 : (fa.length : Int) ≤ (cc : Int) := by omega
                      have hkI3 : (k : Int) ≤ (cc : Int) := by omega
                      have hkI4 : (0 : Int) ≤ (k : Int) + 1 := by omega
                      have hkI5 : (k : Int) + 1 ≤ (fa.length : Int) := by omega
                      have hkI6 : (k : Int) + 1 ≤ (cc : Int) := by omega
                      have hke2 : k < x.attrs.length := by omega
                      have hless : Op.bytesLess x.attrs[k].name.toList nm.toList = false := rankA_ge hasc hke2 (by omega)
                      have hhit := hitA_at hrank hke2
                      have hrest : restA nm x.attrs = if hitA nm x.attrs = true then rankA nm x.attrs + 1 else rankA nm x.attrs := rfl
                      obtain ⟨b2, off2, hpp2, hPb2, hbk2, hat2⟩ := hAt.at_ k hke2
                      subst hpp2
                      have g0 := (hbq.cell (p := ⟨b2, off2 + k * 5, none⟩) hbk2).trans hat2.c0
                      obtain ⟨kk, hkk2⟩ : ∃ kk, x.attrs[k].name = kk := ⟨_, rfl⟩
                      rw [hkk2] at hless g0 hhit
                      clear hkk2
                      cases heq : (kk.toList == nm.toList) with
                      | true =>
                        rw [heq] at hhit
                        rw [hhit, if_pos rfl, hrank] at hrest
                        have hpx : (if cc = k + 1 then some (⟨b2, off2, none⟩ : Addr) else some (⟨b2, off2 + (k + 1) * 5, none⟩ : Addr)) = (if cc = k + 1 then (some (⟨b2, off2, none⟩ : Addr)) else ((some (⟨b2, off2, none⟩ : Addr))).map (·.add ((k + 1) * 5))) := by rw [Option.map_some, add_at]
                        replace hpx := Lib.hid hpx
                        go_upto_region 24 with (fail)
                        obtain ⟨pr, hpr⟩ : ∃ pr, (if cc = k + 1 then some (⟨b2, off2, none⟩ : Addr) else some (⟨b2, off2 + (k + 1) * 5, none⟩ : Addr)) = pr := ⟨_, rfl⟩
                        have hpx2 := Lib.hid (hpr.symm.trans hpx.out)
                        rw [hpr]
                        clear hpr hpx
                        obtain ⟨wY, hwY⟩ : ∃ wY, wr = wY := ⟨_, rfl⟩
                        rw [hwY] at hbq ⊢
                        clear hwY
                        have hbYr : Below wo.heap.size wo wY := hbq
                        have hbY : Below w0.heap.size w0 wY := hbr0.trans (hbYr.mono hbr0.size)
                        have hhold : ∀ W, Below wY.heap.size wY W → (fun w' => w'.cell? ⟨w.heap.size + 1, 0, none⟩ = some (.int .i64 v.kind) ∧ w'.cell? ⟨w.heap.size + 1, 1, none⟩ = some (.int .i64 v.num) ∧ w'.cell? ⟨w.heap.size + 1, 2, none⟩ = some (.string v.text) ∧ w'.cell? ⟨w.heap.size + 1, 3, none⟩ = some (.slice a v.list.length d)) W := fun W h => cV.out W (hbY.trans (h.mono hbY.size))
                        replace hhold := Lib.hid hhold
                        have hYs := hbYr.size
                        have hYs0 := hbY.size
                        have hg1 : w.heap.size ≤ g ∧ g < wY.heap.size := ⟨by omega, by omega⟩
                        go_cut [16] from 47 to 123 (fun s wx => GRow eltA (fun b => b < wY.heap.size ∧ g ≠ b ∧ b ≠ w.heap.size + 2) (fa.take k ++ [(⟨⟨nm, v⟩, a, d⟩ : AEl)]) wY.heap.size s wx ∧ Below wY.heap.size wY wx)
                        case first =>
                          refine wp_region_held_drew (S := fun w' => w'.cell? ⟨w.heap.size + 1, 0, none⟩ = some (.int .i64 v.kind) ∧ w'.cell? ⟨w.heap.size + 1, 1, none⟩ = some (.int .i64 v.num) ∧ w'.cell? ⟨w.heap.size + 1, 2, none⟩ = some (.string v.text) ∧ w'.cell? ⟨w.heap.size + 1, 3, none⟩ = some (.slice a v.list.length d)) (by kernel_rfl) (hhold.out wY (Below.refl _ _)) (fun hHeld => ?_)
                          have hbd : Below wY.heap.size wY wY.drew := (Below.refl _ _).drew
                          have hsd1 : wY.drew.heap.size ≤ wY.heap.size := Nat.le_refl _
                          have hsd2 : wY.heap.size ≤ wY.drew.heap.size := Nat.le_refl _
                          generalize wY.drew = wd at hbd hHeld hsd1 hsd2 ⊢
                          refine wpAnyH_take (i := 0) (v := ?_) rfl (by kernel_rfl) (by kernel_rfl) (by kernel_rfl) (fun _ _ _ h => h) (Or.inl ⟨by rfl, ?_⟩) hHeld ?_
                          rotate_left
                          · intro w' hSw
                            go_simp
                            try with_reducible rfl
                          try simp only [List.getElem_toArray, List.getElem_cons_succ, List.getElem_cons_zero, Act.put, List.setIfInBounds_toArray, List.set_cons_zero, List.set_cons_succ]
                          refine wpAnyH_take (i := 1) (v := ?_) rfl (by kernel_rfl) (by kernel_rfl) (by kernel_rfl) (fun _ _ _ h => h) (Or.inl ⟨by rfl, ?_⟩) hHeld ?_
                          rotate_left
                          · intro w' hSw
                            go_simp
                            try with_reducible rfl
                          try simp only [List.getElem_toArray, List.getElem_cons_succ, List.getElem_cons_zero, Act.put, List.setIfInBounds_toArray, List.set_cons_zero, List.set_cons_succ]
                          refine wpAnyH_take (i := 2) (v := ?_) rfl (by kernel_rfl) (by kernel_rfl) (by kernel_rfl) (fun _ _ _ h => h) (Or.inl ⟨by rfl, ?_⟩) hHeld ?_
                          rotate_left
                          · intro w' hSw
                            go_simp
                            try with_reducible rfl
                          try simp only [List.getElem_toArray, List.getElem_cons_succ, List.getElem_cons_zero, Act.put, List.setIfInBounds_toArray, List.set_cons_zero, List.set_cons_succ]
                          refine wpAnyH_take (i := 4) (v := ?_) rfl (by kernel_rfl) (by kernel_rfl) (by kernel_rfl) (fun _ _ _ h => h) (Or.inl ⟨by rfl, ?_⟩) hHeld ?_
                          rotate_left
                          · intro w' hSw
                            go_simp
                            try with_reducible rfl
                          try simp only [List.getElem_toArray, List.getElem_cons_succ, List.getElem_cons_zero, Act.put, List.setIfInBounds_toArray, List.set_cons_zero, List.set_cons_succ]
                          refine wpAnyH_take (i := 5) (v := ?_) rfl (by kernel_rfl) (by kernel_rfl) (by kernel_rfl) (fun _ _ _ h => h) (Or.inl ⟨by rfl, ?_⟩) hHeld ?_
                          rotate_left
                          · intro w' hSw
                            obtain ⟨e0, e1, e2, e3⟩ := hSw
                            go_simp
                            try with_reducible rfl
                          try simp only [List.getElem_toArray, List.getElem_cons_succ, List.getElem_cons_zero, Act.put, List.setIfInBounds_toArray, List.set_cons_zero, List.set_cons_succ]
                          refine wpAnyH_take (i := 6) (v := ?_) rfl (by kernel_rfl) (by kernel_rfl) (by kernel_rfl) (fun _ _ _ h => h) (Or.inl ⟨by rfl, ?_⟩) hHeld ?_
                          rotate_left
                          · intro w' hSw
                            go_simp
                            try with_reducible rfl
                          try simp only [List.getElem_toArray, List.getElem_cons_succ, List.getElem_cons_zero, Act.put, List.setIfInBounds_toArray, List.set_cons_zero, List.set_cons_succ]
                          refine wpAnyH_ready (rs := [3, 7]) (by kernel_rfl) (by simp) ?_
                          refine AllReadyH.cons rfl (fun K hK => ?_) (AllReadyH.cons rfl (fun K hK => ?_) AllReadyH.nil)
                          · obtain ⟨v3, w3, hrun3, hrow3, hb3'⟩ := run_own eltA 61 (P := fun b => b < wY.heap.size ∧ g ≠ b ∧ b ≠ w.heap.size + 2) (B := wd.heap.size) (es := []) (fs := fa.take k) (v := .slice none 0 0) (w := wd) (fun k hk => by have := hk.1; skip; omega) (GRow.nil eltA _ _ _) (some (⟨b2, off2, none⟩ : Addr)) k cc (by rw [List.length_take]; omega) (fun e => by have h1 := hela.nil e; have h2 := hela.cap; omega) (fun ad e j u hu => els_take_news hela (hbYr.trans ((hbd).mono hbYr.size)) e hu) (fun e he => eltA.mono (eltA.same (hela.ok e (List.mem_of_mem_take he)) (SameB.of_below (hbYr.trans ((hbd).mono hbYr.size)))) fun b _ hb => ⟨by have := hb.1; have := hbYr.size; omega, hb.2⟩) (by simp; omega) (Nat.le_refl _)
                            rw [List.nil_append] at hrow3
                            refine step_run (by rfl) _ _ (by rfl) (by rfl) (by rfl) hrun3 ?_
                            have hb3 : Below wY.heap.size wY w3 := hbd.trans (hb3'.mono (by omega))
                            refine hK.out _ _ (hhold.out _ hb3) (fun _ => ?_)
                            clear hK K hHeld
                            have hHeld := hhold.out w3 hb3
                            try simp only [List.getElem_toArray, List.getElem_cons_succ, List.getElem_cons_zero, Act.put, List.setIfInBounds_toArray, List.set_cons_zero, List.set_cons_succ]
                            refine wpAnyH_ready (rs := [7]) (by kernel_rfl) (by simp) ?_
                            refine AllReadyH.cons rfl (fun K hK => ?_) AllReadyH.nil
                            go_simp
                            have hb4 : Below wY.heap.size wY (w3.alloc (.cells #[.string nm, .int .i64 v.kind, .int .i64 v.num, .string v.text, .slice a (v.list.length : Nat) d] 72)) := hb3.alloc hb3.size (.cells #[.string nm, .int .i64 v.kind, .int .i64 v.num, .string v.text, .slice a (v.list.length : Nat) d] 72)
                            refine hK.out _ _ (hhold.out _ hb4) (fun _ => ?_)
                            clear hK K hHeld
                            have hHeld := hhold.out (w3.alloc (.cells #[.string nm, .int .i64 v.kind, .int .i64 v.num, .string v.text, .slice a (v.list.length : Nat) d] 72)) hb4
                            try simp only [List.getElem_toArray, List.getElem_cons_succ, List.getElem_cons_zero, Act.put, List.setIfInBounds_toArray, List.set_cons_zero, List.set_cons_succ]
                            have hrow4 := hrow3.below ((Below.refl w3.heap.size w3).alloc (Nat.le_refl _) (.cells #[.string nm, .int .i64 v.kind, .int .i64 v.num, .string v.text, .slice a (v.list.length : Nat) d] 72))
                            have hB4 : wd.heap.size ≤ (w3.alloc (.cells #[.string nm, .int .i64 v.kind, .int .i64 v.num, .string v.text, .slice a (v.list.length : Nat) d] 72)).heap.size := by have := hb3'.size; simp; omega
                            refine wpAnyH_ready (rs := [8]) (by kernel_rfl) (by simp) ?_
                            refine AllReadyH.cons rfl (fun K hK => ?_) AllReadyH.nil
                            obtain ⟨v8, w8, hrun8, hrow8, hb8'⟩ := run_own eltA 61 (fun k hk => by have := hk.1; omega) hrow4 (some ⟨_, 0, none⟩) 1 1 (fs := [(⟨⟨nm, v⟩, a, d⟩ : AEl)]) rfl (fun e => by cases e) (fun ad e => by cases e; exact news_one eltA (⟨⟨nm, v⟩, a, d⟩ : AEl) w3) (fun e he => by obtain rfl := List.mem_singleton.1 he; exact (hV0.same (SameB.of_below (hbY.trans ((hb4).mono hbY.size)))).mono fun b _ hb => ⟨by have := hbY.size; omega, by omega, by omega⟩) (by rw [List.length_take]; omega) hB4
                            refine step_run (by rfl) _ _ (by rfl) (by rfl) (by rfl) hrun8 ?_
                            have hb8 : Below wY.heap.size wY w8 := hb4.trans (hb8'.mono (by omega))
                            refine hK.out _ _ (hhold.out _ hb8) (fun _ => ?_)
                            clear hK K hHeld
                            have hHeld := hhold.out w8 hb8
                            try simp only [List.getElem_toArray, List.getElem_cons_succ, List.getElem_cons_zero, Act.put, List.setIfInBounds_toArray, List.set_cons_zero, List.set_cons_succ]
                            refine wpAnyH_ready (rs := [9]) (by kernel_rfl) (by simp) ?_
                            refine AllReadyH.cons rfl (fun K hK => ?_) AllReadyH.nil
                            go_simp
                            refine hK.out _ _ (hhold.out _ hb8) (fun _ => ?_)
                            clear hK K hHeld
                            have hHeld := hhold.out w8 hb8
                            try simp only [List.getElem_toArray, List.getElem_cons_succ, List.getElem_cons_zero, Act.put, List.setIfInBounds_toArray, List.set_cons_zero, List.set_cons_succ]
                            refine wpAnyH_done (by kernel_rfl) ?_ _
                            clear hHeld
                            go_wp2
                            go_meet
                            case rel => exact ⟨hrow8.base (by omega), hb8⟩
                          · go_simp
                            have hbe : Below wY.heap.size wY (wd.alloc (.cells #[.string nm, .int .i64 v.kind, .int .i64 v.num, .string v.text, .slice a (v.list.length : Nat) d] 72)) := hbd.alloc (by omega) (.cells #[.string nm, .int .i64 v.kind, .int .i64 v.num, .string v.text, .slice a (v.list.length : Nat) d] 72)
                            have hse : wd.heap.size < (wd.alloc (.cells #[.string nm, .int .i64 v.kind, .int .i64 v.num, .string v.text, .slice a (v.list.length : Nat) d] 72)).heap.size := by simp
                            refine hK.out _ _ (hhold.out _ hbe) (fun _ => ?_)
                            clear hK K hHeld
                            have hHeld := hhold.out (wd.alloc (.cells #[.string nm, .int .i64 v.kind, .int .i64 v.num, .string v.text, .slice a (v.list.length : Nat) d] 72)) hbe
                            try simp only [List.getElem_toArray, List.getElem_cons_succ, List.getElem_cons_zero, Act.put, List.setIfInBounds_toArray, List.set_cons_zero, List.set_cons_succ]
                            refine wpAnyH_ready (rs := [3]) (by kernel_rfl) (by simp) ?_
                            refine AllReadyH.cons rfl (fun K hK => ?_) AllReadyH.nil
                            obtain ⟨v3, w3, hrun3, hrow3, hb3'⟩ := run_own eltA 61 (P := fun b => b < wY.heap.size ∧ g ≠ b ∧ b ≠ w.heap.size + 2) (B := (wd.alloc (.cells #[.string nm, .int .i64 v.kind, .int .i64 v.num, .string v.text, .slice a (v.list.length : Nat) d] 72)).heap.size) (es := []) (fs := fa.take k) (v := .slice none 0 0) (w := (wd.alloc (.cells #[.string nm, .int .i64 v.kind, .int .i64 v.num, .string v.text, .slice a (v.list.length : Nat) d] 72))) (fun k hk => by have := hk.1; have := hse; omega) (GRow.nil eltA _ _ _) (some (⟨b2, off2, none⟩ : Addr)) k cc (by rw [List.length_take]; omega) (fun e => by have h1 := hela.nil e; have h2 := hela.cap; omega) (fun ad e j u hu => els_take_news hela (hbYr.trans ((hbe).mono hbYr.size)) e hu) (fun e he => eltA.mono (eltA.same (hela.ok e (List.mem_of_mem_take he)) (SameB.of_below (hbYr.trans ((hbe).mono hbYr.size)))) fun b _ hb => ⟨by have := hb.1; have := hbYr.size; omega, hb.2⟩) (by simp; omega) (Nat.le_refl _)
                            rw [List.nil_append] at hrow3
                            refine step_run (by rfl) _ _ (by rfl) (by rfl) (by rfl) hrun3 ?_
                            have hb3 : Below wY.heap.size wY w3 := hbe.trans (hb3'.mono (by omega))
                            refine hK.out _ _ (hhold.out _ hb3) (fun _ => ?_)
                            clear hK K hHeld
                            have hHeld := hhold.out w3 hb3
                            try simp only [List.getElem_toArray, List.getElem_cons_succ, List.getElem_cons_zero, Act.put, List.setIfInBounds_toArray, List.set_cons_zero, List.set_cons_succ]
                            refine wpAnyH_ready (rs := [8]) (by kernel_rfl) (by simp) ?_
                            refine AllReadyH.cons rfl (fun K hK => ?_) AllReadyH.nil
                            obtain ⟨v8, w8, hrun8, hrow8, hb8'⟩ := run_own eltA 61 (fun k hk => by have := hk.1; omega) hrow3 (some ⟨_, 0, none⟩) 1 1 (fs := [(⟨⟨nm, v⟩, a, d⟩ : AEl)]) rfl (fun e => by cases e) (fun ad e => by cases e; exact fun j u hu => (hb3'.cell (p := (⟨wd.heap.size, 0, none⟩ : Addr).add j) (by rw [add_at]; show _ < _; simp)).trans (news_one eltA (⟨⟨nm, v⟩, a, d⟩ : AEl) wd j u hu)) (fun e he => by obtain rfl := List.mem_singleton.1 he; exact (hV0.same (SameB.of_below (hbY.trans ((hb3).mono hbY.size)))).mono fun b _ hb => ⟨by have := hbY.size; omega, by omega, by omega⟩) (by rw [List.length_take]; omega) hb3'.size
                            refine step_run (by rfl) _ _ (by rfl) (by rfl) (by rfl) hrun8 ?_
                            have hb8 : Below wY.heap.size wY w8 := hb3.trans (hb8'.mono (by omega))
                            refine hK.out _ _ (hhold.out _ hb8) (fun _ => ?_)
                            clear hK K hHeld
                            have hHeld := hhold.out w8 hb8
                            try simp only [List.getElem_toArray, List.getElem_cons_succ, List.getElem_cons_zero, Act.put, List.setIfInBounds_toArray, List.set_cons_zero, List.set_cons_succ]
                            refine wpAnyH_ready (rs := [9]) (by kernel_rfl) (by simp) ?_
                            refine AllReadyH.cons rfl (fun K hK => ?_) AllReadyH.nil
                            go_simp
                            refine hK.out _ _ (hhold.out _ hb8) (fun _ => ?_)
                            clear hK K hHeld
                            have hHeld := hhold.out w8 hb8
                            try simp only [List.getElem_toArray, List.getElem_cons_succ, List.getElem_cons_zero, Act.put, List.setIfInBounds_toArray, List.set_cons_zero, List.set_cons_succ]
                            refine wpAnyH_done (by kernel_rfl) ?_ _
                            clear hHeld
                            go_wp2
                            go_meet
                            case rel => exact ⟨hrow8.base (by omega), hb8⟩
                        case rest =>
                          obtain ⟨hrow24, hb24⟩ := hcut
                          have hbrc : Below wo.heap.size wo wc := hbYr.trans (hb24.mono hbYr.size)
                          obtain ⟨v25, w25, hrun25, hrow25, hb25'⟩ := run_own eltA 61 (P := fun b => b < wY.heap.size ∧ g ≠ b ∧ b ≠ w.heap.size + 2) (fun k hk => hk.1) hrow24 pr (fa.length - (k + 1)) (cc - (k + 1)) (fs := fa.drop (k + 1)) (by rw [List.length_drop]) (fun e => by have := els_drop_none (K := 5) hela (hpx2.out.symm.trans e); omega) (fun ad e jj u hu => els_drop_news hela rfl hbrc (by omega) (hpx2.out.symm.trans e) hu) (fun e he => eltA.mono (eltA.same (hela.ok e (List.mem_of_mem_drop he)) (SameB.of_below hbrc)) fun b _ hb => ⟨by have := hb.1; omega, hb.2⟩) (by rw [List.length_append, List.length_take, List.length_singleton]; omega) hb24.size
                          have hb25 : Below wY.heap.size wY w25 := hb24.trans (hb25'.mono (Nat.le_refl _))
                          have hmap25 : ((fa.take k ++ [(⟨⟨nm, v⟩, a, d⟩ : AEl)]) ++ fa.drop (k + 1)).map AEl.a = L5 := by
                            have h9 := map_putA hfa (⟨⟨nm, v⟩, a, d⟩ : AEl) (k + 1) hrest
                            rw [hrank] at h9
                            rw [List.append_assoc, ← hL5]
                            exact h9
                          obtain ⟨q25, d25, rfl, hq25⟩ := hrow25.attrsB hmap25
                          have hbr25 : Below wo.heap.size wo w25 := hbYr.trans (hb25.mono hbYr.size)
                          have hrowC := hrow.below hbr25
                          have hfree : ∀ i, w25.frozen? ⟨g, i, none⟩ = false := fun i => own_free hrowC.own i
                          have hok25 : AttrsP (fun b => b ≠ w.heap.size + 2 ∧ g ≠ b) q25 d25 L5 w25 := hq25.mono fun b _ hb => by
                            rcases hb with hb | hb
                            · exact ⟨hb.2.2, hb.2.1⟩
                            · exact ⟨by omega, by omega⟩
                          have hput := GRow.put hrowC m hme 2 (by decide) (.slice q25 (L5.length : Nat) d25) ⟨⟨x.kind, x.key, L5⟩, q25, d25⟩ (by show [_, _, _] = List.set [_, _, _] 2 _; rw [hex]; rfl) hok25
                          have hbZ1 := (hbr4.trans (hbr25.mono hbr4.size)).setCell (p := ⟨g, m * 3 + 2, none⟩) (by show w4.heap.size ≤ g; omega) (.slice q25 (L5.length : Nat) d25)
                          have hin : (fun w' => True) w25 := trivial
                          clear hin
                          have e2c : w25.cell? ⟨g, m * 3 + 2, none⟩ = some (.slice es[m].p (es[m].x.attrs.length : Nat) es[m].c) := own_cell (E := eltC) hrowC.own m hme 2 (by decide)
                          go_upto_region 26 with (at_builtin; refine wpList_run rfl _ _ rfl rfl rfl hrun25 ?_)
                          have hput2 : GRow eltC (fun b => b ≠ w.heap.size + 2) (es.set m ⟨⟨x.kind, x.key, L5⟩, q25, d25⟩) w4.heap.size (.slice (some ⟨g, 0, none⟩) l.length gc) (w25.setCell ⟨g, m * 3 + 2, none⟩ (.slice q25 (L5.length : Nat) d25)) := hput
                          clear hput hrun25 hrow25 hq25 hok25 e2c hfree
                          generalize w25.setCell ⟨g, m * 3 + 2, none⟩ (.slice q25 (L5.length : Nat) d25) = wZ at hput2 hbZ1 ⊢
                          have hbZ : Below w0.heap.size w0 wZ := hb4.trans (hbZ1.mono hs4)
                          have e2z : wZ.cell? ⟨g, m * 3 + 2, none⟩ = some (.slice q25 L5.length d25) := (own_cell (E := eltC) hput2.own m (by rw [List.length_set]; exact hme) 2 (by decide)).trans (by rw [List.getElem_set_self]; rfl)
                          by_cases hm : 20 < L5.length
                          · have hmI : (20 : Int) < (L5.length : Int) := by omega
                            obtain rfl := hmany.out hm
                            obtain ⟨r6, f6⟩ := hH.out wZ hbZ
                            clear hmany hgood
                            go_wp2
                            obtain ⟨s6, hb6⟩ := hfin.out (.slice none 0 0) wZ hbZ
                            generalize World.setCell _ _ _ = w6 at s6 hb6 ⊢
                            refine bodyPost_ret (v := .tuple #[.agg #[.slice none 0 0], .int .i64 (5)]) (by simp [results, Tryz.results18, go_sem, s6]) rfl ⟨⟨none, 0, rfl, ⟨fun _ => rfl, Nat.zero_le _, fun i hi => by simp at hi⟩⟩, hb6⟩
                          · have hmI : ¬ ((20 : Int) < (L5.length : Int)) := by omega
                            have hmapZ : (es.set m ⟨⟨x.kind, x.key, L5⟩, q25, d25⟩).map CEl.x = l.set m ⟨x.kind, x.key, L5⟩ := by
                              rw [List.map_set, hmapi.out]
                            replace hmapZ := Lib.hid hmapZ
                            replace hm := Lib.hid hm
                            clear hmapi
                            go_wp2
                            go_roundw
                            case rel => exact ⟨m + 1, by omega, by go_num, hbZ1, _, hput2, by rw [hmapZ.out, if_neg (by omega)], fun _ => hm.out⟩
                            case measure => simp [intOf]; omega
                      | false =>
                        rw [heq] at hhit
                        rw [hhit, if_neg (by decide), hrank] at hrest
                        have hpx : (some (⟨b2, off2 + k * 5, none⟩ : Addr)) = (if cc = k then (some (⟨b2, off2, none⟩ : Addr)) else ((some (⟨b2, off2, none⟩ : Addr))).map (·.add (k * 5))) := by have hne : ¬ cc = k := (by omega); rw [if_neg hne, Option.map_some, add_at]
                        replace hpx := Lib.hid hpx
                        go_upto_region 24 with (fail)
                        have hpx2 := hpx
                        clear hpx
                        obtain ⟨wY, hwY⟩ : ∃ wY, wr = wY := ⟨_, rfl⟩
                        rw [hwY] at hbq ⊢
                        clear hwY
                        have hbYr : Below wo.heap.size wo wY := hbq
                        have hbY : Below w0.heap.size w0 wY := hbr0.trans (hbYr.mono hbr0.size)
                        have hhold : ∀ W, Below wY.heap.size wY W → (fun w' => w'.cell? ⟨w.heap.size + 1, 0, none⟩ = some (.int .i64 v.kind) ∧ w'.cell? ⟨w.heap.size + 1, 1, none⟩ = some (.int .i64 v.num) ∧ w'.cell? ⟨w.heap.size + 1, 2, none⟩ = some (.string v.text) ∧ w'.cell? ⟨w.heap.size + 1, 3, none⟩ = some (.slice a v.list.length d)) W := fun W h => cV.out W (hbY.trans (h.mono hbY.size))
                        replace hhold := Lib.hid hhold
                        have hYs := hbYr.size
                        have hYs0 := hbY.size
                        have hg1 : w.heap.size ≤ g ∧ g < wY.heap.size := ⟨by omega, by omega⟩
                        go_cut [16] from 47 to 123 (fun s wx => GRow eltA (fun b => b < wY.heap.size ∧ g ≠ b ∧ b ≠ w.heap.size + 2) (fa.take k ++ [(⟨⟨nm, v⟩, a, d⟩ : AEl)]) wY.heap.size s wx ∧ Below wY.heap.size wY wx)
                        case first =>
                          refine wp_region_held_drew (S := fun w' => w'.cell? ⟨w.heap.size + 1, 0, none⟩ = some (.int .i64 v.kind) ∧ w'.cell? ⟨w.heap.size + 1, 1, none⟩ = some (.int .i64 v.num) ∧ w'.cell? ⟨w.heap.size + 1, 2, none⟩ = some (.string v.text) ∧ w'.cell? ⟨w.heap.size + 1, 3, none⟩ = some (.slice a v.list.length d)) (by kernel_rfl) (hhold.out wY (Below.refl _ _)) (fun hHeld => ?_)
                          have hbd : Below wY.heap.size wY wY.drew := (Below.refl _ _).drew
                          have hsd1 : wY.drew.heap.size ≤ wY.heap.size := Nat.le_refl _
                          have hsd2 : wY.heap.size ≤ wY.drew.heap.size := Nat.le_refl _
                          generalize wY.drew = wd at hbd hHeld hsd1 hsd2 ⊢
                          refine wpAnyH_take (i := 0) (v := ?_) rfl (by kernel_rfl) (by kernel_rfl) (by kernel_rfl) (fun _ _ _ h => h) (Or.inl ⟨by rfl, ?_⟩) hHeld ?_
                          rotate_left
                          · intro w' hSw
                            go_simp
                            try with_reducible rfl
                          try simp only [List.getElem_toArray, List.getElem_cons_succ, List.getElem_cons_zero, Act.put, List.setIfInBounds_toArray, List.set_cons_zero, List.set_cons_succ]
                          refine wpAnyH_take (i := 1) (v := ?_) rfl (by kernel_rfl) (by kernel_rfl) (by kernel_rfl) (fun _ _ _ h => h) (Or.inl ⟨by rfl, ?_⟩) hHeld ?_
                          rotate_left
                          · intro w' hSw
                            go_simp
                            try with_reducible rfl
                          try simp only [List.getElem_toArray, List.getElem_cons_succ, List.getElem_cons_zero, Act.put, List.setIfInBounds_toArray, List.set_cons_zero, List.set_cons_succ]
                          refine wpAnyH_take (i := 2) (v := ?_) rfl (by kernel_rfl) (by kernel_rfl) (by kernel_rfl) (fun _ _ _ h => h) (Or.inl ⟨by rfl, ?_⟩) hHeld ?_
                          rotate_left
                          · intro w' hSw
                            go_simp
                            try with_reducible rfl
                          try simp only [List.getElem_toArray, List.getElem_cons_succ, List.getElem_cons_zero, Act.put, List.setIfInBounds_toArray, List.set_cons_zero, List.set_cons_succ]
                          refine wpAnyH_take (i := 4) (v := ?_) rfl (by kernel_rfl) (by kernel_rfl) (by kernel_rfl) (fun _ _ _ h => h) (Or.inl ⟨by rfl, ?_⟩) hHeld ?_
                          rotate_left
                          · intro w' hSw
                            go_simp
                            try with_reducible rfl
                          try simp only [List.getElem_toArray, List.getElem_cons_succ, List.getElem_cons_zero, Act.put, List.setIfInBounds_toArray, List.set_cons_zero, List.set_cons_succ]
                          refine wpAnyH_take (i := 5) (v := ?_) rfl (by kernel_rfl) (by kernel_rfl) (by kernel_rfl) (fun _ _ _ h => h) (Or.inl ⟨by rfl, ?_⟩) hHeld ?_
                          rotate_left
                          · intro w' hSw
                            obtain ⟨e0, e1, e2, e3⟩ := hSw
                            go_simp
                            try with_reducible rfl
                          try simp only [List.getElem_toArray, List.getElem_cons_succ, List.getElem_cons_zero, Act.put, List.setIfInBounds_toArray, List.set_cons_zero, List.set_cons_succ]
                          refine wpAnyH_take (i := 6) (v := ?_) rfl (by kernel_rfl) (by kernel_rfl) (by kernel_rfl) (fun _ _ _ h => h) (Or.inl ⟨by rfl, ?_⟩) hHeld ?_
                          rotate_left
                          · intro w' hSw
                            go_simp
                            try with_reducible rfl
                          try simp only [List.getElem_toArray, List.getElem_cons_succ, List.getElem_cons_zero, Act.put, List.setIfInBounds_toArray, List.set_cons_zero, List.set_cons_succ]
                          refine wpAnyH_ready (rs := [3, 7]) (by kernel_rfl) (by simp) ?_
                          refine AllReadyH.cons rfl (fun K hK => ?_) (AllReadyH.cons rfl (fun K hK => ?_) AllReadyH.nil)
                          · obtain ⟨v3, w3, hrun3, hrow3, hb3'⟩ := run_own eltA 61 (P := fun b => b < wY.heap.size ∧ g ≠ b ∧ b ≠ w.heap.size + 2) (B := wd.heap.size) (es := []) (fs := fa.take k) (v := .slice none 0 0) (w := wd) (fun k hk => by have := hk.1; skip; omega) (GRow.nil eltA _ _ _) (some (⟨b2, off2, none⟩ : Addr)) k cc (by rw [List.length_take]; omega) (fun e => by have h1 := hela.nil e; have h2 := hela.cap; omega) (fun ad e j u hu => els_take_news hela (hbYr.trans ((hbd).mono hbYr.size)) e hu) (fun e he => eltA.mono (eltA.same (hela.ok e (List.mem_of_mem_take he)) (SameB.of_below (hbYr.trans ((hbd).mono hbYr.size)))) fun b _ hb => ⟨by have := hb.1; have := hbYr.size; omega, hb.2⟩) (by simp; omega) (Nat.le_refl _)
                            rw [List.nil_append] at hrow3
                            refine step_run (by rfl) _ _ (by rfl) (by rfl) (by rfl) hrun3 ?_
                            have hb3 : Below wY.heap.size wY w3 := hbd.trans (hb3'.mono (by omega))
                            refine hK.out _ _ (hhold.out _ hb3) (fun _ => ?_)
                            clear hK K hHeld
                            have hHeld := hhold.out w3 hb3
                            try simp only [List.getElem_toArray, List.getElem_cons_succ, List.getElem_cons_zero, Act.put, List.setIfInBounds_toArray, List.set_cons_zero, List.set_cons_succ]
                            refine wpAnyH_ready (rs := [7]) (by kernel_rfl) (by simp) ?_
                            refine AllReadyH.cons rfl (fun K hK => ?_) AllReadyH.nil
                            go_simp
                            have hb4 : Below wY.heap.size wY (w3.alloc (.cells #[.string nm, .int .i64 v.kind, .int .i64 v.num, .string v.text, .slice a (v.list.length : Nat) d] 72)) := hb3.alloc hb3.size (.cells #[.string nm, .int .i64 v.kind, .int .i64 v.num, .string v.text, .slice a (v.list.length : Nat) d] 72)
                            refine hK.out _ _ (hhold.out _ hb4) (fun _ => ?_)
                            clear hK K hHeld
                            have hHeld := hhold.out (w3.alloc (.cells #[.string nm, .int .i64 v.kind, .int .i64 v.num, .string v.text, .slice a (v.list.length : Nat) d] 72)) hb4
                            try simp only [List.getElem_toArray, List.getElem_cons_succ, List.getElem_cons_zero, Act.put, List.setIfInBounds_toArray, List.set_cons_zero, List.set_cons_succ]
                            have hrow4 := hrow3.below ((Below.refl w3.heap.size w3).alloc (Nat.le_refl _) (.cells #[.string nm, .int .i64 v.kind, .int .i64 v.num, .string v.text, .slice a (v.list.length : Nat) d] 72))
                            have hB4 : wd.heap.size ≤ (w3.alloc (.cells #[.string nm, .int .i64 v.kind, .int .i64 v.num, .string v.text, .slice a (v.list.length : Nat) d] 72)).heap.size := by have := hb3'.size; simp; omega
                            refine wpAnyH_ready (rs := [8]) (by kernel_rfl) (by simp) ?_
                            refine AllReadyH.cons rfl (fun K hK => ?_) AllReadyH.nil
                            obtain ⟨v8, w8, hrun8, hrow8, hb8'⟩ := run_own eltA 61 (fun k hk => by have := hk.1; omega) hrow4 (some ⟨_, 0, none⟩) 1 1 (fs := [(⟨⟨nm, v⟩, a, d⟩ : AEl)]) rfl (fun e => by cases e) (fun ad e => by cases e; exact news_one eltA (⟨⟨nm, v⟩, a, d⟩ : AEl) w3) (fun e he => by obtain rfl := List.mem_singleton.1 he; exact (hV0.same (SameB.of_below (hbY.trans ((hb4).mono hbY.size)))).mono fun b _ hb => ⟨by have := hbY.size; omega, by omega, by omega⟩) (by rw [List.length_take]; omega) hB4
                            refine step_run (by rfl) _ _ (by rfl) (by rfl) (by rfl) hrun8 ?_
                            have hb8 : Below wY.heap.size wY w8 := hb4.trans (hb8'.mono (by omega))
                            refine hK.out _ _ (hhold.out _ hb8) (fun _ => ?_)
                            clear hK K hHeld
                            have hHeld := hhold.out w8 hb8
                            try simp only [List.getElem_toArray, List.getElem_cons_succ, List.getElem_cons_zero, Act.put, List.setIfInBounds_toArray, List.set_cons_zero, List.set_cons_succ]
                            refine wpAnyH_ready (rs := [9]) (by kernel_rfl) (by simp) ?_
                            refine AllReadyH.cons rfl (fun K hK => ?_) AllReadyH.nil
                            go_simp
                            refine hK.out _ _ (hhold.out _ hb8) (fun _ => ?_)
                            clear hK K hHeld
                            have hHeld := hhold.out w8 hb8
                            try simp only [List.getElem_toArray, List.getElem_cons_succ, List.getElem_cons_zero, Act.put, List.setIfInBounds_toArray, List.set_cons_zero, List.set_cons_succ]
                            refine wpAnyH_done (by kernel_rfl) ?_ _
                            clear hHeld
                            go_wp2
                            go_meet
                            case rel => exact ⟨hrow8.base (by omega), hb8⟩
                          · go_simp
                            have hbe : Below wY.heap.size wY (wd.alloc (.cells #[.string nm, .int .i64 v.kind, .int .i64 v.num, .string v.text, .slice a (v.list.length : Nat) d] 72)) := hbd.alloc (by omega) (.cells #[.string nm, .int .i64 v.kind, .int .i64 v.num, .string v.text, .slice a (v.list.length : Nat) d] 72)
                            have hse : wd.heap.size < (wd.alloc (.cells #[.string nm, .int .i64 v.kind, .int .i64 v.num, .string v.text, .slice a (v.list.length : Nat) d] 72)).heap.size := by simp
                            refine hK.out _ _ (hhold.out _ hbe) (fun _ => ?_)
                            clear hK K hHeld
                            have hHeld := hhold.out (wd.alloc (.cells #[.string nm, .int .i64 v.kind, .int .i64 v.num, .string v.text, .slice a (v.list.length : Nat) d] 72)) hbe
                            try simp only [List.getElem_toArray, List.getElem_cons_succ, List.getElem_cons_zero, Act.put, List.setIfInBounds_toArray, List.set_cons_zero, List.set_cons_succ]
                            refine wpAnyH_ready (rs := [3]) (by kernel_rfl) (by simp) ?_
                            refine AllReadyH.cons rfl (fun K hK => ?_) AllReadyH.nil
                            obtain ⟨v3, w3, hrun3, hrow3, hb3'⟩ := run_own eltA 61 (P := fun b => b < wY.heap.size ∧ g ≠ b ∧ b ≠ w.heap.size + 2) (B := (wd.alloc (.cells #[.string nm, .int .i64 v.kind, .int .i64 v.num, .string v.text, .slice a (v.list.length : Nat) d] 72)).heap.size) (es := []) (fs := fa.take k) (v := .slice none 0 0) (w := (wd.alloc (.cells #[.string nm, .int .i64 v.kind, .int .i64 v.num, .string v.text, .slice a (v.list.length : Nat) d] 72))) (fun k hk => by have := hk.1; have := hse; omega) (GRow.nil eltA _ _ _) (some (⟨b2, off2, none⟩ : Addr)) k cc (by rw [List.length_take]; omega) (fun e => by have h1 := hela.nil e; have h2 := hela.cap; omega) (fun ad e j u hu => els_take_news hela (hbYr.trans ((hbe).mono hbYr.size)) e hu) (fun e he => eltA.mono (eltA.same (hela.ok e (List.mem_of_mem_take he)) (SameB.of_below (hbYr.trans ((hbe).mono hbYr.size)))) fun b _ hb => ⟨by have := hb.1; have := hbYr.size; omega, hb.2⟩) (by simp; omega) (Nat.le_refl _)
                            rw [List.nil_append] at hrow3
                            refine step_run (by rfl) _ _ (by rfl) (by rfl) (by rfl) hrun3 ?_
                            have hb3 : Below wY.heap.size wY w3 := hbe.trans (hb3'.mono (by omega))
                            refine hK.out _ _ (hhold.out _ hb3) (fun _ => ?_)
                            clear hK K hHeld
                            have hHeld := hhold.out w3 hb3
                            try simp only [List.getElem_toArray, List.getElem_cons_succ, List.getElem_cons_zero, Act.put, List.setIfInBounds_toArray, List.set_cons_zero, List.set_cons_succ]
                            refine wpAnyH_ready (rs := [8]) (by kernel_rfl) (by simp) ?_
                            refine AllReadyH.cons rfl (fun K hK => ?_) AllReadyH.nil
                            obtain ⟨v8, w8, hrun8, hrow8, hb8'⟩ := run_own eltA 61 (fun k hk => by have := hk.1; omega) hrow3 (some ⟨_, 0, none⟩) 1 1 (fs := [(⟨⟨nm, v⟩, a, d⟩ : AEl)]) rfl (fun e => by cases e) (fun ad e => by cases e; exact fun j u hu => (hb3'.cell (p := (⟨wd.heap.size, 0, none⟩ : Addr).add j) (by rw [add_at]; show _ < _; simp)).trans (news_one eltA (⟨⟨nm, v⟩, a, d⟩ : AEl) wd j u hu)) (fun e he => by obtain rfl := List.mem_singleton.1 he; exact (hV0.same (SameB.of_below (hbY.trans ((hb3).mono hbY.size)))).mono fun b _ hb => ⟨by have := hbY.size; omega, by omega, by omega⟩) (by rw [List.length_take]; omega) hb3'.size
                            refine step_run (by rfl) _ _ (by rfl) (by rfl) (by rfl) hrun8 ?_
                            have hb8 : Below wY.heap.size wY w8 := hb3.trans (hb8'.mono (by omega))
                            refine hK.out _ _ (hhold.out _ hb8) (fun _ => ?_)
                            clear hK K hHeld
                            have hHeld := hhold.out w8 hb8
                            try simp only [List.getElem_toArray, List.getElem_cons_succ, List.getElem_cons_zero, Act.put, List.setIfInBounds_toArray, List.set_cons_zero, List.set_cons_succ]
                            refine wpAnyH_ready (rs := [9]) (by kernel_rfl) (by simp) ?_
                            refine AllReadyH.cons rfl (fun K hK => ?_) AllReadyH.nil
                            go_simp
                            refine hK.out _ _ (hhold.out _ hb8) (fun _ => ?_)
                            clear hK K hHeld
                            have hHeld := hhold.out w8 hb8
                            try simp only [List.getElem_toArray, List.getElem_cons_succ, List.getElem_cons_zero, Act.put, List.setIfInBounds_toArray, List.set_cons_zero, List.set_cons_succ]
                            refine wpAnyH_done (by kernel_rfl) ?_ _
                            clear hHeld
                            go_wp2
                            go_meet
                            case rel => exact ⟨hrow8.base (by omega), hb8⟩
                        case rest =>
                          obtain ⟨hrow24, hb24⟩ := hcut
                          have hbrc : Below wo.heap.size wo wc := hbYr.trans (hb24.mono hbYr.size)
                          obtain ⟨v25, w25, hrun25, hrow25, hb25'⟩ := run_own eltA 61 (P := fun b => b < wY.heap.size ∧ g ≠ b ∧ b ≠ w.heap.size + 2) (fun k hk => hk.1) hrow24 (some (⟨b2, off2 + k * 5, none⟩ : Addr)) (fa.length - k) (cc - k) (fs := fa.drop k) (by rw [List.length_drop]) (fun e => by have := els_drop_none (K := 5) hela (hpx2.out.symm.trans e); omega) (fun ad e jj u hu => els_drop_news hela rfl hbrc (by omega) (hpx2.out.symm.trans e) hu) (fun e he => eltA.mono (eltA.same (hela.ok e (List.mem_of_mem_drop he)) (SameB.of_below hbrc)) fun b _ hb => ⟨by have := hb.1; omega, hb.2⟩) (by rw [List.length_append, List.length_take, List.length_singleton]; omega) hb24.size
                          have hb25 : Below wY.heap.size wY w25 := hb24.trans (hb25'.mono (Nat.le_refl _))
                          have hmap25 : ((fa.take k ++ [(⟨⟨nm, v⟩, a, d⟩ : AEl)]) ++ fa.drop k).map AEl.a = L5 := by
                            have h9 := map_putA hfa (⟨⟨nm, v⟩, a, d⟩ : AEl) k hrest
                            rw [hrank] at h9
                            rw [List.append_assoc, ← hL5]
                            exact h9
                          obtain ⟨q25, d25, rfl, hq25⟩ := hrow25.attrsB hmap25
                          have hbr25 : Below wo.heap.size wo w25 := hbYr.trans (hb25.mono hbYr.size)
                          have hrowC := hrow.below hbr25
                          have hfree : ∀ i, w25.frozen? ⟨g, i, none⟩ = false := fun i => own_free hrowC.own i
                          have hok25 : AttrsP (fun b => b ≠ w.heap.size + 2 ∧ g ≠ b) q25 d25 L5 w25 := hq25.mono fun b _ hb => by
                            rcases hb with hb | hb
                            · exact ⟨hb.2.2, hb.2.1⟩
                            · exact ⟨by omega, by omega⟩
                          have hput := GRow.put hrowC m hme 2 (by decide) (.slice q25 (L5.length : Nat) d25) ⟨⟨x.kind, x.key, L5⟩, q25, d25⟩ (by show [_, _, _] = List.set [_, _, _] 2 _; rw [hex]; rfl) hok25
                          have hbZ1 := (hbr4.trans (hbr25.mono hbr4.size)).setCell (p := ⟨g, m * 3 + 2, none⟩) (by show w4.heap.size ≤ g; omega) (.slice q25 (L5.length : Nat) d25)
                          have hin : (fun w' => True) w25 := trivial
                          clear hin
                          have e2c : w25.cell? ⟨g, m * 3 + 2, none⟩ = some (.slice es[m].p (es[m].x.attrs.length : Nat) es[m].c) := own_cell (E := eltC) hrowC.own m hme 2 (by decide)
                          go_upto_region 26 with (at_builtin; refine wpList_run rfl _ _ rfl rfl rfl hrun25 ?_)
                          have hput2 : GRow eltC (fun b => b ≠ w.heap.size + 2) (es.set m ⟨⟨x.kind, x.key, L5⟩, q25, d25⟩) w4.heap.size (.slice (some ⟨g, 0, none⟩) l.length gc) (w25.setCell ⟨g, m * 3 + 2, none⟩ (.slice q25 (L5.length : Nat) d25)) := hput
                          clear hput hrun25 hrow25 hq25 hok25 e2c hfree
                          generalize w25.setCell ⟨g, m * 3 + 2, none⟩ (.slice q25 (L5.length : Nat) d25) = wZ at hput2 hbZ1 ⊢
                          have hbZ : Below w0.heap.size w0 wZ := hb4.trans (hbZ1.mono hs4)
                          have e2z : wZ.cell? ⟨g, m * 3 + 2, none⟩ = some (.slice q25 L5.length d25) := (own_cell (E := eltC) hput2.own m (by rw [List.length_set]; exact hme) 2 (by decide)).trans (by rw [List.getElem_set_self]; rfl)
                          by_cases hm : 20 < L5.length
                          · have hmI : (20 : Int) < (L5.length : Int) := by omega
                            obtain rfl := hmany.out hm
                            obtain ⟨r6, f6⟩ := hH.out wZ hbZ
                            clear hmany hgood
                            go_wp2
                            obtain ⟨s6, hb6⟩ := hfin.out (.slice none 0 0) wZ hbZ
                            generalize World.setCell _ _ _ = w6 at s6 hb6 ⊢
                            refine bodyPost_ret (v := .tuple #[.agg #[.slice none 0 0], .int .i64 (5)]) (by simp [results, Tryz.results18, go_sem, s6]) rfl ⟨⟨none, 0, rfl, ⟨fun _ => rfl, Nat.zero_le _, fun i hi => by simp at hi⟩⟩, hb6⟩
                          · have hmI : ¬ ((20 : Int) < (L5.length : Int)) := by omega
                            have hmapZ : (es.set m ⟨⟨x.kind, x.key, L5⟩, q25, d25⟩).map CEl.x = l.set m ⟨x.kind, x.key, L5⟩ := by
                              rw [List.map_set, hmapi.out]
                            replace hmapZ := Lib.hid hmapZ
                            replace hm := Lib.hid hm
                            clear hmapi
                            go_wp2
                            go_roundw
                            case rel => exact ⟨m + 1, by omega, by go_num, hbZ1, _, hput2, by rw [hmapZ.out, if_neg (by omega)], fun _ => hm.out⟩
                            case measure => simp [intOf]; omega
                    · have hkI : ¬ ((k : Int) < (fa.length : Int)) := by omega
                      have hkI0 : (0 : Int) ≤ (k : Int) := by omega
                      have hkI1 : (k : Int) ≤ (fa.length : Int) := by omega
                      have hkI2 : (fa.length : Int) ≤ (cc : Int) := by omega
                      have hkI3 : (k : Int) ≤ (cc : Int) := by omega
                      have hrest : restA nm x.attrs = k := by
                        show (if hitA nm x.attrs = true then _ else _) = _
                        rw [hitA_end (by omega), if_neg (by decide), hrank]
                      have hpx : (if cc = k then pp else pp.map (·.add (k * 5))) = (if cc = k then pp else (pp).map (·.add (k * 5))) := rfl
                      replace hpx := Lib.hid hpx
                      go_upto_region 24 with (fail)
                      obtain ⟨pr, hpr⟩ : ∃ pr, (if cc = k then pp else pp.map (·.add (k * 5))) = pr := ⟨_, rfl⟩
                      have hpx2 := Lib.hid (hpr.symm.trans hpx.out)
                      rw [hpr]
                      clear hpr hpx
                      obtain ⟨wY, hwY⟩ : ∃ wY, wr = wY := ⟨_, rfl⟩
                      rw [hwY] at hbq ⊢
                      clear hwY
                      have hbYr : Below wo.heap.size wo wY := hbq
                      have hbY : Below w0.heap.size w0 wY := hbr0.trans (hbYr.mono hbr0.size)
                      have hhold : ∀ W, Below wY.heap.size wY W → (fun w' => w'.cell? ⟨w.heap.size + 1, 0, none⟩ = some (.int .i64 v.kind) ∧ w'.cell? ⟨w.heap.size + 1, 1, none⟩ = some (.int .i64 v.num) ∧ w'.cell? ⟨w.heap.size + 1, 2, none⟩ = some (.string v.text) ∧ w'.cell? ⟨w.heap.size + 1, 3, none⟩ = some (.slice a v.list.length d)) W := fun W h => cV.out W (hbY.trans (h.mono hbY.size))
                      replace hhold := Lib.hid hhold
                      have hYs := hbYr.size
                      have hYs0 := hbY.size
                      have hg1 : w.heap.size ≤ g ∧ g < wY.heap.size := ⟨by omega, by omega⟩
                      go_cut [16] from 47 to 123 (fun s wx => GRow eltA (fun b => b < wY.heap.size ∧ g ≠ b ∧ b ≠ w.heap.size + 2) (fa.take k ++ [(⟨⟨nm, v⟩, a, d⟩ : AEl)]) wY.heap.size s wx ∧ Below wY.heap.size wY wx)
                      case first =>
                        refine wp_region_held_drew (S := fun w' => w'.cell? ⟨w.heap.size + 1, 0, none⟩ = some (.int .i64 v.kind) ∧ w'.cell? ⟨w.heap.size + 1, 1, none⟩ = some (.int .i64 v.num) ∧ w'.cell? ⟨w.heap.size + 1, 2, none⟩ = some (.string v.text) ∧ w'.cell? ⟨w.heap.size + 1, 3, none⟩ = some (.slice a v.list.length d)) (by kernel_rfl) (hhold.out wY (Below.refl _ _)) (fun hHeld => ?_)
                        have hbd : Below wY.heap.size wY wY.drew := (Below.refl _ _).drew
                        have hsd1 : wY.drew.heap.size ≤ wY.heap.size := Nat.le_refl _
                        have hsd2 : wY.heap.size ≤ wY.drew.heap.size := Nat.le_refl _
                        generalize wY.drew = wd at hbd hHeld hsd1 hsd2 ⊢
                        refine wpAnyH_take (i := 0) (v := ?_) rfl (by kernel_rfl) (by kernel_rfl) (by kernel_rfl) (fun _ _ _ h => h) (Or.inl ⟨by rfl, ?_⟩) hHeld ?_
                        rotate_left
                        · intro w' hSw
                          go_simp
                          try with_reducible rfl
                        try simp only [List.getElem_toArray, List.getElem_cons_succ, List.getElem_cons_zero, Act.put, List.setIfInBounds_toArray, List.set_cons_zero, List.set_cons_succ]
                        refine wpAnyH_take (i := 1) (v := ?_) rfl (by kernel_rfl) (by kernel_rfl) (by kernel_rfl) (fun _ _ _ h => h) (Or.inl ⟨by rfl, ?_⟩) hHeld ?_
                        rotate_left
                        · intro w' hSw
                          go_simp
                          try with_reducible rfl
                        try simp only [List.getElem_toArray, List.getElem_cons_succ, List.getElem_cons_zero, Act.put, List.setIfInBounds_toArray, List.set_cons_zero, List.set_cons_succ]
                        refine wpAnyH_take (i := 2) (v := ?_) rfl (by kernel_rfl) (by kernel_rfl) (by kernel_rfl) (fun _ _ _ h => h) (Or.inl ⟨by rfl, ?_⟩) hHeld ?_
                        rotate_left
                        · intro w' hSw
                          go_simp
                          try with_reducible rfl
                        try simp only [List.getElem_toArray, List.getElem_cons_succ, List.getElem_cons_zero, Act.put, List.setIfInBounds_toArray, List.set_cons_zero, List.set_cons_succ]
                        refine wpAnyH_take (i := 4) (v := ?_) rfl (by kernel_rfl) (by kernel_rfl) (by kernel_rfl) (fun _ _ _ h => h) (Or.inl ⟨by rfl, ?_⟩) hHeld ?_
                        rotate_left
                        · intro w' hSw
                          go_simp
                          try with_reducible rfl
                        try simp only [List.getElem_toArray, List.getElem_cons_succ, List.getElem_cons_zero, Act.put, List.setIfInBounds_toArray, List.set_cons_zero, List.set_cons_succ]
                        refine wpAnyH_take (i := 5) (v := ?_) rfl (by kernel_rfl) (by kernel_rfl) (by kernel_rfl) (fun _ _ _ h => h) (Or.inl ⟨by rfl, ?_⟩) hHeld ?_
                        rotate_left
                        · intro w' hSw
                          obtain ⟨e0, e1, e2, e3⟩ := hSw
                          go_simp
                          try with_reducible rfl
                        try simp only [List.getElem_toArray, List.getElem_cons_succ, List.getElem_cons_zero, Act.put, List.setIfInBounds_toArray, List.set_cons_zero, List.set_cons_succ]
                        refine wpAnyH_take (i := 6) (v := ?_) rfl (by kernel_rfl) (by kernel_rfl) (by kernel_rfl) (fun _ _ _ h => h) (Or.inl ⟨by rfl, ?_⟩) hHeld ?_
                        rotate_left
                        · intro w' hSw
                          go_simp
                          try with_reducible rfl
                        try simp only [List.getElem_toArray, List.getElem_cons_succ, List.getElem_cons_zero, Act.put, List.setIfInBounds_toArray, List.set_cons_zero, List.set_cons_succ]
                        refine wpAnyH_ready (rs := [3, 7]) (by kernel_rfl) (by simp) ?_
                        refine AllReadyH.cons rfl (fun K hK => ?_) (AllReadyH.cons rfl (fun K hK => ?_) AllReadyH.nil)
                        · obtain ⟨v3, w3, hrun3, hrow3, hb3'⟩ := run_own eltA 61 (P := fun b => b < wY.heap.size ∧ g ≠ b ∧ b ≠ w.heap.size + 2) (B := wd.heap.size) (es := []) (fs := fa.take k) (v := .slice none 0 0) (w := wd) (fun k hk => by have := hk.1; skip; omega) (GRow.nil eltA _ _ _) pp k cc (by rw [List.length_take]; omega) (fun e => by have h1 := hela.nil e; have h2 := hela.cap; omega) (fun ad e j u hu => els_take_news hela (hbYr.trans ((hbd).mono hbYr.size)) e hu) (fun e he => eltA.mono (eltA.same (hela.ok e (List.mem_of_mem_take he)) (SameB.of_below (hbYr.trans ((hbd).mono hbYr.size)))) fun b _ hb => ⟨by have := hb.1; have := hbYr.size; omega, hb.2⟩) (by simp; omega) (Nat.le_refl _)
                          rw [List.nil_append] at hrow3
                          refine step_run (by rfl) _ _ (by rfl) (by rfl) (by rfl) hrun3 ?_
                          have hb3 : Below wY.heap.size wY w3 := hbd.trans (hb3'.mono (by omega))
                          refine hK.out _ _ (hhold.out _ hb3) (fun _ => ?_)
                          clear hK K hHeld
                          have hHeld := hhold.out w3 hb3
                          try simp only [List.getElem_toArray, List.getElem_cons_succ, List.getElem_cons_zero, Act.put, List.setIfInBounds_toArray, List.set_cons_zero, List.set_cons_succ]
                          refine wpAnyH_ready (rs := [7]) (by kernel_rfl) (by simp) ?_
                          refine AllReadyH.cons rfl (fun K hK => ?_) AllReadyH.nil
                          go_simp
                          have hb4 : Below wY.heap.size wY (w3.alloc (.cells #[.string nm, .int .i64 v.kind, .int .i64 v.num, .string v.text, .slice a (v.list.length : Nat) d] 72)) := hb3.alloc hb3.size (.cells #[.string nm, .int .i64 v.kind, .int .i64 v.num, .string v.text, .slice a (v.list.length : Nat) d] 72)
                          refine hK.out _ _ (hhold.out _ hb4) (fun _ => ?_)
                          clear hK K hHeld
                          have hHeld := hhold.out (w3.alloc (.cells #[.string nm, .int .i64 v.kind, .int .i64 v.num, .string v.text, .slice a (v.list.length : Nat) d] 72)) hb4
                          try simp only [List.getElem_toArray, List.getElem_cons_succ, List.getElem_cons_zero, Act.put, List.setIfInBounds_toArray, List.set_cons_zero, List.set_cons_succ]
                          have hrow4 := hrow3.below ((Below.refl w3.heap.size w3).alloc (Nat.le_refl _) (.cells #[.string nm, .int .i64 v.kind, .int .i64 v.num, .string v.text, .slice a (v.list.length : Nat) d] 72))
                          have hB4 : wd.heap.size ≤ (w3.alloc (.cells #[.string nm, .int .i64 v.kind, .int .i64 v.num, .string v.text, .slice a (v.list.length : Nat) d] 72)).heap.size := by have := hb3'.size; simp; omega
                          refine wpAnyH_ready (rs := [8]) (by kernel_rfl) (by simp) ?_
                          refine AllReadyH.cons rfl (fun K hK => ?_) AllReadyH.nil
                          obtain ⟨v8, w8, hrun8, hrow8, hb8'⟩ := run_own eltA 61 (fun k hk => by have := hk.1; omega) hrow4 (some ⟨_, 0, none⟩) 1 1 (fs := [(⟨⟨nm, v⟩, a, d⟩ : AEl)]) rfl (fun e => by cases e) (fun ad e => by cases e; exact news_one eltA (⟨⟨nm, v⟩, a, d⟩ : AEl) w3) (fun e he => by obtain rfl := List.mem_singleton.1 he; exact (hV0.same (SameB.of_below (hbY.trans ((hb4).mono hbY.size)))).mono fun b _ hb => ⟨by have := hbY.size; omega, by omega, by omega⟩) (by rw [List.length_take]; omega) hB4
                          refine step_run (by rfl) _ _ (by rfl) (by rfl) (by rfl) hrun8 ?_
                          have hb8 : Below wY.heap.size wY w8 := hb4.trans (hb8'.mono (by omega))
                          refine hK.out _ _ (hhold.out _ hb8) (fun _ => ?_)
                          clear hK K hHeld
                          have hHeld := hhold.out w8 hb8
                          try simp only [List.getElem_toArray, List.getElem_cons_succ, List.getElem_cons_zero, Act.put, List.setIfInBounds_toArray, List.set_cons_zero, List.set_cons_succ]
                          refine wpAnyH_ready (rs := [9]) (by kernel_rfl) (by simp) ?_
                          refine AllReadyH.cons rfl (fun K hK => ?_) AllReadyH.nil
                          go_simp
                          refine hK.out _ _ (hhold.out _ hb8) (fun _ => ?_)
                          clear hK K hHeld
                          have hHeld := hhold.out w8 hb8
                          try simp only [List.getElem_toArray, List.getElem_cons_succ, List.getElem_cons_zero, Act.put, List.setIfInBounds_toArray, List.set_cons_zero, List.set_cons_succ]
                          refine wpAnyH_done (by kernel_rfl) ?_ _
                          clear hHeld
                          go_wp2
                          go_meet
                          case rel => exact ⟨hrow8.base (by omega), hb8⟩
                        · go_simp
                          have hbe : Below wY.heap.size wY (wd.alloc (.cells #[.string nm, .int .i64 v.kind, .int .i64 v.num, .string v.text, .slice a (v.list.length : Nat) d] 72)) := hbd.alloc (by omega) (.cells #[.string nm, .int .i64 v.kind, .int .i64 v.num, .string v.text, .slice a (v.list.length : Nat) d] 72)
                          have hse : wd.heap.size < (wd.alloc (.cells #[.string nm, .int .i64 v.kind, .int .i64 v.num, .string v.text, .slice a (v.list.length : Nat) d] 72)).heap.size := by simp
                          refine hK.out _ _ (hhold.out _ hbe) (fun _ => ?_)
                          clear hK K hHeld
                          have hHeld := hhold.out (wd.alloc (.cells #[.string nm, .int .i64 v.kind, .int .i64 v.num, .string v.text, .slice a (v.list.length : Nat) d] 72)) hbe
                          try simp only [List.getElem_toArray, List.getElem_cons_succ, List.getElem_cons_zero, Act.put, List.setIfInBounds_toArray, List.set_cons_zero, List.set_cons_succ]
                          refine wpAnyH_ready (rs := [3]) (by kernel_rfl) (by simp) ?_
                          refine AllReadyH.cons rfl (fun K hK => ?_) AllReadyH.nil
                          obtain ⟨v3, w3, hrun3, hrow3, hb3'⟩ := run_own eltA 61 (P := fun b => b < wY.heap.size ∧ g ≠ b ∧ b ≠ w.heap.size + 2) (B := (wd.alloc (.cells #[.string nm, .int .i64 v.kind, .int .i64 v.num, .string v.text, .slice a (v.list.length : Nat) d] 72)).heap.size) (es := []) (fs := fa.take k) (v := .slice none 0 0) (w := (wd.alloc (.cells #[.string nm, .int .i64 v.kind, .int .i64 v.num, .string v.text, .slice a (v.list.length : Nat) d] 72))) (fun k hk => by have := hk.1; have := hse; omega) (GRow.nil eltA _ _ _) pp k cc (by rw [List.length_take]; omega) (fun e => by have h1 := hela.nil e; have h2 := hela.cap; omega) (fun ad e j u hu => els_take_news hela (hbYr.trans ((hbe).mono hbYr.size)) e hu) (fun e he => eltA.mono (eltA.same (hela.ok e (List.mem_of_mem_take he)) (SameB.of_below (hbYr.trans ((hbe).mono hbYr.size)))) fun b _ hb => ⟨by have := hb.1; have := hbYr.size; omega, hb.2⟩) (by simp; omega) (Nat.le_refl _)
                          rw [List.nil_append] at hrow3
                          refine step_run (by rfl) _ _ (by rfl) (by rfl) (by rfl) hrun3 ?_
                          have hb3 : Below wY.heap.size wY w3 := hbe.trans (hb3'.mono (by omega))
                          refine hK.out _ _ (hhold.out _ hb3) (fun _ => ?_)
                          clear hK K hHeld
                          have hHeld := hhold.out w3 hb3
                          try simp only [List.getElem_toArray, List.getElem_cons_succ, List.getElem_cons_zero, Act.put, List.setIfInBounds_toArray, List.set_cons_zero, List.set_cons_succ]
                          refine wpAnyH_ready (rs := [8]) (by kernel_rfl) (by simp) ?_
                          refine AllReadyH.cons rfl (fun K hK => ?_) AllReadyH.nil
                          obtain ⟨v8, w8, hrun8, hrow8, hb8'⟩ := run_own eltA 61 (fun k hk => by have := hk.1; omega) hrow3 (some ⟨_, 0, none⟩) 1 1 (fs := [(⟨⟨nm, v⟩, a, d⟩ : AEl)]) rfl (fun e => by cases e) (fun ad e => by cases e; exact fun j u hu => (hb3'.cell (p := (⟨wd.heap.size, 0, none⟩ : Addr).add j) (by rw [add_at]; show _ < _; simp)).trans (news_one eltA (⟨⟨nm, v⟩, a, d⟩ : AEl) wd j u hu)) (fun e he => by obtain rfl := List.mem_singleton.1 he; exact (hV0.same (SameB.of_below (hbY.trans ((hb3).mono hbY.size)))).mono fun b _ hb => ⟨by have := hbY.size; omega, by omega, by omega⟩) (by rw [List.length_take]; omega) hb3'.size
                          refine step_run (by rfl) _ _ (by rfl) (by rfl) (by rfl) hrun8 ?_
                          have hb8 : Below wY.heap.size wY w8 := hb3.trans (hb8'.mono (by omega))
                          refine hK.out _ _ (hhold.out _ hb8) (fun _ => ?_)
                          clear hK K hHeld
                          have hHeld := hhold.out w8 hb8
                          try simp only [List.getElem_toArray, List.getElem_cons_succ, List.getElem_cons_zero, Act.put, List.setIfInBounds_toArray, List.set_cons_zero, List.set_cons_succ]
                          refine wpAnyH_ready (rs := [9]) (by kernel_rfl) (by simp) ?_
                          refine AllReadyH.cons rfl (fun K hK => ?_) AllReadyH.nil
                          go_simp
                          refine hK.out _ _ (hhold.out _ hb8) (fun _ => ?_)
                          clear hK K hHeld
                          have hHeld := hhold.out w8 hb8
                          try simp only [List.getElem_toArray, List.getElem_cons_succ, List.getElem_cons_zero, Act.put, List.setIfInBounds_toArray, List.set_cons_zero, List.set_cons_succ]
                          refine wpAnyH_done (by kernel_rfl) ?_ _
                          clear hHeld
                          go_wp2
                          go_meet
                          case rel => exact ⟨hrow8.base (by omega), hb8⟩
                      case rest =>
                        obtain ⟨hrow24, hb24⟩ := hcut
                        have hbrc : Below wo.heap.size wo wc := hbYr.trans (hb24.mono hbYr.size)
                        obtain ⟨v25, w25, hrun25, hrow25, hb25'⟩ := run_own eltA 61 (P := fun b => b < wY.heap.size ∧ g ≠ b ∧ b ≠ w.heap.size + 2) (fun k hk => hk.1) hrow24 pr (fa.length - k) (cc - k) (fs := fa.drop k) (by rw [List.length_drop]) (fun e => by have := els_drop_none (K := 5) hela (hpx2.out.symm.trans e); omega) (fun ad e jj u hu => els_drop_news hela rfl hbrc (by omega) (hpx2.out.symm.trans e) hu) (fun e he => eltA.mono (eltA.same (hela.ok e (List.mem_of_mem_drop he)) (SameB.of_below hbrc)) fun b _ hb => ⟨by have := hb.1; omega, hb.2⟩) (by rw [List.length_append, List.length_take, List.length_singleton]; omega) hb24.size
                        have hb25 : Below wY.heap.size wY w25 := hb24.trans (hb25'.mono (Nat.le_refl _))
                        have hmap25 : ((fa.take k ++ [(⟨⟨nm, v⟩, a, d⟩ : AEl)]) ++ fa.drop k).map AEl.a = L5 := by
                          have h9 := map_putA hfa (⟨⟨nm, v⟩, a, d⟩ : AEl) k hrest
                          rw [hrank] at h9
                          rw [List.append_assoc, ← hL5]
                          exact h9
                        obtain ⟨q25, d25, rfl, hq25⟩ := hrow25.attrsB hmap25
                        have hbr25 : Below wo.heap.size wo w25 := hbYr.trans (hb25.mono hbYr.size)
                        have hrowC := hrow.below hbr25
                        have hfree : ∀ i, w25.frozen? ⟨g, i, none⟩ = false := fun i => own_free hrowC.own i
                        have hok25 : AttrsP (fun b => b ≠ w.heap.size + 2 ∧ g ≠ b) q25 d25 L5 w25 := hq25.mono fun b _ hb => by
                          rcases hb with hb | hb
                          · exact ⟨hb.2.2, hb.2.1⟩
                          · exact ⟨by omega, by omega⟩
                        have hput := GRow.put hrowC m hme 2 (by decide) (.slice q25 (L5.length : Nat) d25) ⟨⟨x.kind, x.key, L5⟩, q25, d25⟩ (by show [_, _, _] = List.set [_, _, _] 2 _; rw [hex]; rfl) hok25
                        have hbZ1 := (hbr4.trans (hbr25.mono hbr4.size)).setCell (p := ⟨g, m * 3 + 2, none⟩) (by show w4.heap.size ≤ g; omega) (.slice q25 (L5.length : Nat) d25)
                        have hin : (fun w' => True) w25 := trivial
                        clear hin
                        have e2c : w25.cell? ⟨g, m * 3 + 2, none⟩ = some (.slice es[m].p (es[m].x.attrs.length : Nat) es[m].c) := own_cell (E := eltC) hrowC.own m hme 2 (by decide)
                        go_upto_region 26 with (at_builtin; refine wpList_run rfl _ _ rfl rfl rfl hrun25 ?_)
                        have hput2 : GRow eltC (fun b => b ≠ w.heap.size + 2) (es.set m ⟨⟨x.kind, x.key, L5⟩, q25, d25⟩) w4.heap.size (.slice (some ⟨g, 0, none⟩) l.length gc) (w25.setCell ⟨g, m * 3 + 2, none⟩ (.slice q25 (L5.length : Nat) d25)) := hput
                        clear hput hrun25 hrow25 hq25 hok25 e2c hfree
                        generalize w25.setCell ⟨g, m * 3 + 2, none⟩ (.slice q25 (L5.length : Nat) d25) = wZ at hput2 hbZ1 ⊢
                        have hbZ : Below w0.heap.size w0 wZ := hb4.trans (hbZ1.mono hs4)
                        have e2z : wZ.cell? ⟨g, m * 3 + 2, none⟩ = some (.slice q25 L5.length d25) := (own_cell (E := eltC) hput2.own m (by rw [List.length_set]; exact hme) 2 (by decide)).trans (by rw [List.getElem_set_self]; rfl)
                        by_cases hm : 20 < L5.length
                        · have hmI : (20 : Int) < (L5.length : Int) := by omega
                          obtain rfl := hmany.out hm
                          obtain ⟨r6, f6⟩ := hH.out wZ hbZ
                          clear hmany hgood
                          go_wp2
                          obtain ⟨s6, hb6⟩ := hfin.out (.slice none 0 0) wZ hbZ
                          generalize World.setCell _ _ _ = w6 at s6 hb6 ⊢
                          refine bodyPost_ret (v := .tuple #[.agg #[.slice none 0 0], .int .i64 (5)]) (by simp [results, Tryz.results18, go_sem, s6]) rfl ⟨⟨none, 0, rfl, ⟨fun _ => rfl, Nat.zero_le _, fun i hi => by simp at hi⟩⟩, hb6⟩
                        · have hmI : ¬ ((20 : Int) < (L5.length : Int)) := by omega
                          have hmapZ : (es.set m ⟨⟨x.kind, x.key, L5⟩, q25, d25⟩).map CEl.x = l.set m ⟨x.kind, x.key, L5⟩ := by
                            rw [List.map_set, hmapi.out]
                          replace hmapZ := Lib.hid hmapZ
                          replace hm := Lib.hid hm
                          clear hmapi
                          go_wp2
                          go_roundw
                          case rel => exact ⟨m + 1, by omega, by go_num, hbZ1, _, hput2, by rw [hmapZ.out, if_neg (by omega)], fun _ => hm.out⟩
                          case measure => simp [intOf]; omega
              · have hkk : (l[m].kind.toList == kd.toList) = false := by rw [hkinds.out m hlt, decide_eq_false hmi]
                have hex : es[m].x.kind = l[m].kind := by
                  have h1 : es[m].x = (es.map CEl.x)[m]'(by rw [List.length_map]; exact hme) := by rw [List.getElem_map]
                  rw [h1]
                  simp only [hmap]
                  split
                  · rfl
                  · rw [List.getElem_set_ne (by omega)]
                have e0 : wo.cell? ⟨g, m * 3, none⟩ = some (.string es[m].x.kind) := own_cell (E := eltC) hrow.own m hme 0 (by decide)
                rw [hex] at e0
                generalize l[m].kind = kk at e0 hkk
                have hmap2 : es.map CEl.x = (if m + 1 ≤ i then l else l.set i ⟨x.kind, x.key, L5⟩) := by
                  rw [hmap]
                  by_cases h : m ≤ i
                  · rw [if_pos h, if_pos (by omega)]
                  · rw [if_neg h, if_neg (by omega)]
                replace hmap2 := Lib.hid hmap2
                have hdone2 : i < m + 1 → ¬ 20 < L5.length := fun h => hdone (by omega)
                replace hdone2 := Lib.hid hdone2
                clear hdone hmap
                go_wp2
                go_roundw
                case rel => exact ⟨m + 1, by omega, by go_num, hbr4, _, hrow, hmap2.out, hdone2.out⟩
                case measure => simp [intOf]; omega
            · obtain rfl : m = l.length := by omega
              have hmI : ¬ ((l.length : Int) < (l.length : Int)) := by omega
              rw [if_neg (by omega)] at hmap
              obtain rfl := hgood.out (hdone (by omega))
              obtain ⟨q9, d9, hv9, hq9⟩ := hrow.ctxsB hmap
              injection hv9 with e1 e2 e3
              subst e1
              subst e3
              obtain ⟨r9, f9⟩ := hH.out wo hbr0
              obtain ⟨s9, hb9⟩ := hfin.out (.slice (some ⟨g, 0, none⟩) l.length gc) wo hbr0
              have hqF : CtxsP (fun b => b ≠ w.heap.size + 2 ∨ w4.heap.size ≤ b) (some ⟨g, 0, none⟩) gc (l.set i ⟨x.kind, x.key, L5⟩) _ := hq9.same ((SameB.refl _ wo).set (B := w.heap.size + 2) (fun h => by rcases h with h | h; exact h rfl; omega) 0 (.slice (some ⟨g, 0, none⟩) l.length gc))
              clear hrow hmap hdone hq9 e2 hmany hgood
              go_wp2
              generalize World.setCell _ _ _ = w9 at s9 hb9 hqF ⊢
              refine bodyPost_ret (v := .tuple #[.agg #[.slice (some ⟨g, 0, none⟩) l.length gc], .int .i64 0]) (by simp [results, Tryz.results18, go_sem, s9]) rfl ⟨⟨some ⟨g, 0, none⟩, gc, rfl, hqF.mono fun _ _ _ => trivial⟩, hb9⟩
        · obtain ⟨ce, hce⟩ : ∃ ce, checkE v = ce := ⟨_, rfl⟩
          obtain rfl := hdr.out.symm.trans (withE_val ea hk hn hce (by rw [← hce]; exact ev))
          rw [hce] at ev hCV3
          have hev : (ce == 0) = false := by simp [ev]
          replace hCV3 := Lib.hid hCV3
          clear hdr hk hce
          go_upto_region 11 with (go_at_call 48; refine hCV3.out.mono ?_; rintro e w4 ⟨rfl, hb4'⟩)
          have hb4 := hb3.trans (hb4'.mono hb3.size)
          obtain ⟨r4, f4⟩ := hH.out w4 hb4
          clear v0 v1 v2 v3
          go_wp2
          obtain ⟨s6, hb6⟩ := hfin.out (.slice none 0 0) w4 hb4
          generalize World.setCell _ _ _ = w6 at s6 hb6 ⊢
          refine bodyPost_ret (v := .tuple #[.agg #[.slice none 0 0], .int .i64 (ce)]) (by simp [results, Tryz.results18, go_sem, s6]) rfl ⟨⟨none, 0, rfl, ⟨fun _ => rfl, Nat.zero_le _, fun i hi => by simp at hi⟩⟩, hb6⟩
  · obtain ⟨ce, hce⟩ : ∃ ce, subjE l = ce := ⟨_, rfl⟩
    obtain rfl := hdr.out.symm.trans (withE_bad hce (by rw [← hce]; exact ea))
    have hCa' := hCa.out
    rw [hce] at ea hCa'
    have hea : (ce == 0) = false := by simp [ea]
    replace hCa' := Lib.hid hCa'
    clear hdr hce hCa
    go_wp2_with (go_at_call 39; refine hCa'.out.mono ?_; rintro e w1 ⟨rfl, hb1⟩; obtain ⟨r1, f1⟩ := hH.out w1 hb1)
    obtain ⟨s6, hb6⟩ := hfin.out (.slice none 0 0) w1 hb1
    generalize World.setCell _ _ _ = w6 at s6 hb6 ⊢
    refine bodyPost_ret (v := .tuple #[.agg #[.slice none 0 0], .int .i64 (ce)]) (by simp [results, Tryz.results18, go_sem, s6]) rfl ⟨⟨none, 0, rfl, ⟨fun _ => rfl, Nat.zero_le _, fun i hi => by simp at hi⟩⟩, hb6⟩
end Go.Proofs.YtcbnefeedoabeaaGreatDoor
