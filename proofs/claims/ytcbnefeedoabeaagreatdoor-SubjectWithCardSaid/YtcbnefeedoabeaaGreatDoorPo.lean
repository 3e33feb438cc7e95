/- Same: two subjects that hold the same. -/
import Derived.Test.YtcbnefeedoabeaaGreatDoorPa
import Derived.Test.YtcbnefeedoabeaaGreatDoorPc
import Derived.Test.YtcbnefeedoabeaaGreatDoorPi
import Derived.Deep.RegionHeld3
import Derived.OrdersHeld
import Derived.Deep.DrawnRows
/- Same: two subjects that hold the same. -/
namespace Go.Proofs.YtcbnefeedoabeaaGreatDoor
open Go Go.RowKit

theorem eqV_refl (x : Val) : eqV x x = true := by simp [eqV]
theorem equal_refl {P Q : Nat → Prop} (x : Val) (a0 b0 : Option Addr) (ca cb : Nat) (w : World) (hl : x.list.length ≤ 9223372036854775806) (hA : ListP P a0 ca x.list w) (hB : ListP Q b0 cb x.list w) :
    Calls Tryz.prog 20 #[x.agg a0 ca, x.agg b0 cb] w fun e w' => e = .returned (.bool true) ∧ Below w.heap.size w w' := by
  have h := refEqual_any x x a0 b0 ca cb w hl hA.texts.are hB.texts.are
  rw [eqV_refl] at h
  exact h
set_option linter.unusedSimpArgs false in
set_option linter.unusedVariables false in
set_option maxHeartbeats 8000000 in
set_option maxRecDepth 100000 in
theorem same_refl {P Q : Nat → Prop} (a0 b0 : Option Addr) (ca cb : Nat) (l : List Ctx) (w : World) (hA : CtxsP P a0 ca l w) (hB : CtxsP Q b0 cb l w) (hl : l.length ≤ 9223372036854775000) (hf : ∀ x ∈ l, x.attrs.length ≤ 9223372036854775000 ∧ ∀ a ∈ x.attrs, a.val.list.length ≤ 8796093022207) :
    Calls Tryz.prog 14 #[.agg #[.slice a0 (l.length : Nat) ca], .agg #[.slice b0 (l.length : Nat) cb]] w fun e w' => e = .returned (.bool true) ∧ Below w.heap.size w w' := by
  have hbA := (Below.refl w.heap.size w).alloc (Nat.le_refl _) (.cells #[.slice a0 (l.length : Nat) ca] 25)
  have hbB := hbA.alloc hbA.size (.cells #[.slice b0 (l.length : Nat) cb] 25)
  have hzA : ((w.alloc (.cells #[.slice a0 (l.length : Nat) ca] 25)).alloc (.cells #[.slice b0 (l.length : Nat) cb] 25)).heap[w.heap.size]? = some (.cells #[.slice a0 (l.length : Nat) ca] 25 (0, 0)) := (Lib.alloc_old _ _ _ (by simp)).trans (heap_alloc_new w _)
  have hzB : ((w.alloc (.cells #[.slice a0 (l.length : Nat) ca] 25)).alloc (.cells #[.slice b0 (l.length : Nat) cb] 25)).heap[w.heap.size + 1]? = some (.cells #[.slice b0 (l.length : Nat) cb] 25 (0, 0)) := by
    have := heap_alloc_new (w.alloc (.cells #[.slice a0 (l.length : Nat) ca] 25)) (.cells #[.slice b0 (l.length : Nat) cb] 25)
    simpa using this
  have hs0 : ((w.alloc (.cells #[.slice a0 (l.length : Nat) ca] 25)).alloc (.cells #[.slice b0 (l.length : Nat) cb] 25)).heap.size = w.heap.size + 2 := by simp
  have hA0 := hA.same (SameB.of_below hbB)
  have hB0 := hB.same (SameB.of_below hbB)
  go_enter Tryz.func14, Tryz.ntmps14
  go_upto_region 1 with (fail)
  generalize (w.alloc (.cells #[.slice a0 (l.length : Nat) ca] 25)).alloc (.cells #[.slice b0 (l.length : Nat) cb] 25) = w0 at hbB hzA hzB hs0 hA0 hB0 ⊢
  have c0 : w0.cell? ⟨w.heap.size, 0, none⟩ = some (.slice a0 l.length ca) := by rw [Lib.cell_of_heap hzA]; rfl
  have c1 : w0.cell? ⟨w.heap.size + 1, 0, none⟩ = some (.slice b0 l.length cb) := by rw [Lib.cell_of_heap hzB]; rfl
  clear hbA hA hB hzA hzB
  have hA1 : w.heap.size < w0.heap.size := by omega
  have hB1 : w.heap.size + 1 < w0.heap.size := by omega
  replace hf := Lib.hid hf
  go_wp2
  go_loopw [5, 6, 7, 8] (fun i _ _ _ wr => ∃ n : Nat, n ≤ l.length ∧ i = .int .i64 n ∧ Below w0.heap.size w0 wr) (fun i _ _ _ _ => l.length - (intOf i).toNat)
  case atStart => exact ⟨0, Nat.zero_le _, rfl, Below.refl _ _⟩
  case round =>
    obtain ⟨n, hn, rfl, hbl⟩ := hrel
    have v0 := (hbl.cell (p := ⟨w.heap.size, 0, none⟩) hA1).trans c0
    have v1 := (hbl.cell (p := ⟨w.heap.size + 1, 0, none⟩) hB1).trans c1
    by_cases hlt : n < l.length
    · obtain ⟨b, off, rfl, hPb, hbk, hat⟩ := hA0.at_ n hlt
      obtain ⟨d, off', rfl, hPd, hdk, hat'⟩ := hB0.at_ n hlt
      obtain ⟨q0, q1, pp, cc, q2, q5⟩ := hat.same (SameB.of_below hbl) hPb hbk
      obtain ⟨r0, r1, pq, cd, r2, r5⟩ := hat'.same (SameB.of_below hbl) hPd hdk
      have hnI2 : (n : Int) < (l.length : Int) := by omega
      have hnI3 : (0 : Int) ≤ (n : Int) := by omega
      have hfx := Lib.hid (hf.out l[n] (List.getElem_mem hlt))
      obtain ⟨x, hx⟩ : ∃ x, l[n] = x := ⟨_, rfl⟩
      rw [hx] at q0 q1 q2 q5 r0 r1 r2 r5 hfx
      clear hx hat hat'
      have hA2 := Nat.lt_of_lt_of_le hA1 hbl.size
      have hB2 := Nat.lt_of_lt_of_le hB1 hbl.size
      have hbk2 := Nat.lt_of_lt_of_le hbk hbl.size
      have hdk2 := Nat.lt_of_lt_of_le hdk hbl.size
      have hal1 := ((Below.refl wr.heap.size wr).alloc (Nat.le_refl _) (.cells #[.string ⟨#[]⟩, .string ⟨#[]⟩, .slice none 0 0] 63)).drew
      have hal2 := (((Below.refl wr.heap.size wr).alloc (Nat.le_refl _) (.cells #[.string ⟨#[]⟩, .string ⟨#[]⟩, .slice none 0 0] 63)).alloc (by simp) (.cells #[.string ⟨#[]⟩, .string ⟨#[]⟩, .slice none 0 0] 63)).drew
      go_upto_region 6 with (fail)
      refine wp_region_held_drew (S := fun w' => w'.cell? ⟨w.heap.size, 0, none⟩ = some (.slice (some ⟨b, off, none⟩) l.length ca) ∧ w'.cell? ⟨w.heap.size + 1, 0, none⟩ = some (.slice (some ⟨d, off', none⟩) l.length cb) ∧ w'.cell? ⟨b, off + n * 3, none⟩ = some (.string x.kind) ∧ w'.cell? ⟨b, off + n * 3 + 1, none⟩ = some (.string x.key) ∧ w'.cell? ⟨b, off + n * 3 + 2, none⟩ = some (.slice pp x.attrs.length cc) ∧ w'.cell? ⟨d, off' + n * 3, none⟩ = some (.string x.kind) ∧ w'.cell? ⟨d, off' + n * 3 + 1, none⟩ = some (.string x.key) ∧ w'.cell? ⟨d, off' + n * 3 + 2, none⟩ = some (.slice pq x.attrs.length cd)) (by kernel_rfl) (⟨v0, v1, q0, q1, q2, r0, r1, r2⟩) (fun hHeld => ?_)
      refine wpAnyH_take (i := 0) (v := ?_) rfl (by kernel_rfl) (by kernel_rfl) (by kernel_rfl) (fun _ _ _ h => h) (Or.inl ⟨by rfl, ?_⟩) hHeld ?_
      rotate_left
      · intro w' hSw
        go_simp
        try with_reducible rfl
      try simp only [List.getElem_toArray, List.getElem_cons_succ, List.getElem_cons_zero, Act.put, List.setIfInBounds_toArray, List.set_cons_zero, List.set_cons_succ]
      refine wpAnyH_take (i := 1) (v := ?_) rfl (by kernel_rfl) (by kernel_rfl) (by kernel_rfl) (fun _ _ _ h => h) (Or.inl ⟨by rfl, ?_⟩) hHeld ?_
      rotate_left
      · intro w' hSw
        obtain ⟨h0, h1, h2, h3, h4, h5, h6, h7⟩ := hSw
        go_simp
        try with_reducible rfl
      try simp only [List.getElem_toArray, List.getElem_cons_succ, List.getElem_cons_zero, Act.put, List.setIfInBounds_toArray, List.set_cons_zero, List.set_cons_succ]
      refine wpAnyH_take (i := 2) (v := ?_) rfl (by kernel_rfl) (by kernel_rfl) (by kernel_rfl) (fun _ _ _ h => h) (Or.inl ⟨by rfl, ?_⟩) hHeld ?_
      rotate_left
      · intro w' hSw
        go_simp
        try with_reducible rfl
      try simp only [List.getElem_toArray, List.getElem_cons_succ, List.getElem_cons_zero, Act.put, List.setIfInBounds_toArray, List.set_cons_zero, List.set_cons_succ]
      refine wpAnyH_take (i := 3) (v := ?_) rfl (by kernel_rfl) (by kernel_rfl) (by kernel_rfl) (fun _ _ _ h => h) (Or.inl ⟨by rfl, ?_⟩) hHeld ?_
      rotate_left
      · intro w' hSw
        go_simp
        try with_reducible rfl
      try simp only [List.getElem_toArray, List.getElem_cons_succ, List.getElem_cons_zero, Act.put, List.setIfInBounds_toArray, List.set_cons_zero, List.set_cons_succ]
      refine wpAnyH_take (i := 4) (v := ?_) rfl (by kernel_rfl) (by kernel_rfl) (by kernel_rfl) (fun _ _ _ h => h) (Or.inl ⟨by rfl, ?_⟩) hHeld ?_
      rotate_left
      · intro w' hSw
        obtain ⟨h0, h1, h2, h3, h4, h5, h6, h7⟩ := hSw
        go_simp
        try with_reducible rfl
      try simp only [List.getElem_toArray, List.getElem_cons_succ, List.getElem_cons_zero, Act.put, List.setIfInBounds_toArray, List.set_cons_zero, List.set_cons_succ]
      refine wpAnyH_take (i := 5) (v := ?_) rfl (by kernel_rfl) (by kernel_rfl) (by kernel_rfl) (fun _ _ _ h => h) (Or.inl ⟨by rfl, ?_⟩) hHeld ?_
      rotate_left
      · intro w' hSw
        go_simp
        try with_reducible rfl
      try simp only [List.getElem_toArray, List.getElem_cons_succ, List.getElem_cons_zero, Act.put, List.setIfInBounds_toArray, List.set_cons_zero, List.set_cons_succ]
      refine wpAnyH_take (i := 6) (v := ?_) rfl (by kernel_rfl) (by kernel_rfl) (by kernel_rfl) (fun _ _ _ h => h) (Or.inl ⟨by rfl, ?_⟩) hHeld ?_
      rotate_left
      · intro w' hSw
        obtain ⟨h0, h1, h2, h3, h4, h5, h6, h7⟩ := hSw
        go_simp
        try with_reducible rfl
      try simp only [List.getElem_toArray, List.getElem_cons_succ, List.getElem_cons_zero, Act.put, List.setIfInBounds_toArray, List.set_cons_zero, List.set_cons_succ]
      refine wpAnyH_take (i := 7) (v := ?_) rfl (by kernel_rfl) (by kernel_rfl) (by kernel_rfl) (fun _ _ _ h => h) (Or.inl ⟨by rfl, ?_⟩) hHeld ?_
      rotate_left
      · intro w' hSw
        go_simp
        try with_reducible rfl
      try simp only [List.getElem_toArray, List.getElem_cons_succ, List.getElem_cons_zero, Act.put, List.setIfInBounds_toArray, List.set_cons_zero, List.set_cons_succ]
      refine wpAnyH_take (i := 8) (v := ?_) rfl (by kernel_rfl) (by kernel_rfl) (by kernel_rfl) (fun _ _ _ h => h) (Or.inl ⟨by rfl, ?_⟩) hHeld ?_
      rotate_left
      · intro w' hSw
        go_simp
        try with_reducible rfl
      try simp only [List.getElem_toArray, List.getElem_cons_succ, List.getElem_cons_zero, Act.put, List.setIfInBounds_toArray, List.set_cons_zero, List.set_cons_succ]
      refine wpAnyH_take (i := 9) (v := ?_) rfl (by kernel_rfl) (by kernel_rfl) (by kernel_rfl) (fun _ _ _ h => h) (Or.inl ⟨by rfl, ?_⟩) hHeld ?_
      rotate_left
      · intro w' hSw
        obtain ⟨h0, h1, h2, h3, h4, h5, h6, h7⟩ := hSw
        go_simp
        try with_reducible rfl
      try simp only [List.getElem_toArray, List.getElem_cons_succ, List.getElem_cons_zero, Act.put, List.setIfInBounds_toArray, List.set_cons_zero, List.set_cons_succ]
      refine wpAnyH_ready (rs := [10, 11]) (by kernel_rfl) (by simp) ?_
      refine AllReadyH.cons rfl (fun K hK => ?_) (AllReadyH.cons rfl (fun K hK => ?_) AllReadyH.nil)
      · go_simp
        refine hK.out _ _ ⟨(hal1.cell (p := ⟨w.heap.size, 0, none⟩) hA2).trans v0, (hal1.cell (p := ⟨w.heap.size + 1, 0, none⟩) hB2).trans v1, (hal1.cell (p := ⟨b, off + n * 3, none⟩) hbk2).trans q0, (hal1.cell (p := ⟨b, off + n * 3 + 1, none⟩) hbk2).trans q1, (hal1.cell (p := ⟨b, off + n * 3 + 2, none⟩) hbk2).trans q2, (hal1.cell (p := ⟨d, off' + n * 3, none⟩) hdk2).trans r0, (hal1.cell (p := ⟨d, off' + n * 3 + 1, none⟩) hdk2).trans r1, (hal1.cell (p := ⟨d, off' + n * 3 + 2, none⟩) hdk2).trans r2⟩ (fun _ => ?_)
        clear hK K
        try simp only [List.getElem_toArray, List.getElem_cons_succ, List.getElem_cons_zero, Act.put, List.setIfInBounds_toArray, List.set_cons_zero, List.set_cons_succ]
        refine wpAnyH_ready (rs := [11]) (by kernel_rfl) (by simp) ?_
        refine AllReadyH.cons rfl (fun K hK => ?_) AllReadyH.nil
        go_simp
        refine hK.out _ _ ⟨(hal2.cell (p := ⟨w.heap.size, 0, none⟩) hA2).trans v0, (hal2.cell (p := ⟨w.heap.size + 1, 0, none⟩) hB2).trans v1, (hal2.cell (p := ⟨b, off + n * 3, none⟩) hbk2).trans q0, (hal2.cell (p := ⟨b, off + n * 3 + 1, none⟩) hbk2).trans q1, (hal2.cell (p := ⟨b, off + n * 3 + 2, none⟩) hbk2).trans q2, (hal2.cell (p := ⟨d, off' + n * 3, none⟩) hdk2).trans r0, (hal2.cell (p := ⟨d, off' + n * 3 + 1, none⟩) hdk2).trans r1, (hal2.cell (p := ⟨d, off' + n * 3 + 2, none⟩) hdk2).trans r2⟩ (fun _ => ?_)
        clear hK K
        try simp only [List.getElem_toArray, List.getElem_cons_succ, List.getElem_cons_zero, Act.put, List.setIfInBounds_toArray, List.set_cons_zero, List.set_cons_succ]
        have hst1 := (((Below.refl wr.heap.size wr).alloc (Nat.le_refl _) (.cells #[.string x.kind, .string x.key, .slice pp (x.attrs.length : Nat) cc] 63)).alloc (by simp) (.cells #[.string ⟨#[]⟩, .string ⟨#[]⟩, .slice none 0 0] 63)).drew
        have hst2 := (((Below.refl wr.heap.size wr).alloc (Nat.le_refl _) (.cells #[.string x.kind, .string x.key, .slice pp (x.attrs.length : Nat) cc] 63)).alloc (by simp) (.cells #[.string x.kind, .string x.key, .slice pq (x.attrs.length : Nat) cd] 63)).drew
        refine wpAnyH_ready (rs := [12]) (by kernel_rfl) (by simp) ?_
        refine AllReadyH.cons rfl (fun K hK => ?_) AllReadyH.nil
        go_simp
        refine hK.out _ _ ⟨(hst1.cell (p := ⟨w.heap.size, 0, none⟩) hA2).trans v0, (hst1.cell (p := ⟨w.heap.size + 1, 0, none⟩) hB2).trans v1, (hst1.cell (p := ⟨b, off + n * 3, none⟩) hbk2).trans q0, (hst1.cell (p := ⟨b, off + n * 3 + 1, none⟩) hbk2).trans q1, (hst1.cell (p := ⟨b, off + n * 3 + 2, none⟩) hbk2).trans q2, (hst1.cell (p := ⟨d, off' + n * 3, none⟩) hdk2).trans r0, (hst1.cell (p := ⟨d, off' + n * 3 + 1, none⟩) hdk2).trans r1, (hst1.cell (p := ⟨d, off' + n * 3 + 2, none⟩) hdk2).trans r2⟩ (fun _ => ?_)
        clear hK K
        try simp only [List.getElem_toArray, List.getElem_cons_succ, List.getElem_cons_zero, Act.put, List.setIfInBounds_toArray, List.set_cons_zero, List.set_cons_succ]
        refine wpAnyH_ready (rs := [13]) (by kernel_rfl) (by simp) ?_
        refine AllReadyH.cons rfl (fun K hK => ?_) AllReadyH.nil
        go_simp
        refine hK.out _ _ ⟨(hst2.cell (p := ⟨w.heap.size, 0, none⟩) hA2).trans v0, (hst2.cell (p := ⟨w.heap.size + 1, 0, none⟩) hB2).trans v1, (hst2.cell (p := ⟨b, off + n * 3, none⟩) hbk2).trans q0, (hst2.cell (p := ⟨b, off + n * 3 + 1, none⟩) hbk2).trans q1, (hst2.cell (p := ⟨b, off + n * 3 + 2, none⟩) hbk2).trans q2, (hst2.cell (p := ⟨d, off' + n * 3, none⟩) hdk2).trans r0, (hst2.cell (p := ⟨d, off' + n * 3 + 1, none⟩) hdk2).trans r1, (hst2.cell (p := ⟨d, off' + n * 3 + 2, none⟩) hdk2).trans r2⟩ (fun _ => ?_)
        clear hK K hHeld
        try simp only [List.getElem_toArray, List.getElem_cons_succ, List.getElem_cons_zero, Act.put, List.setIfInBounds_toArray, List.set_cons_zero, List.set_cons_succ]
        refine wpAnyH_done (by kernel_rfl) ?_ _
        have zX : ((wr.alloc (.cells #[.string x.kind, .string x.key, .slice pp (x.attrs.length : Nat) cc] 63)).alloc (.cells #[.string x.kind, .string x.key, .slice pq (x.attrs.length : Nat) cd] 63)).drew.heap[wr.heap.size]? = some (.cells #[.string x.kind, .string x.key, .slice pp (x.attrs.length : Nat) cc] 63 (0, 0)) := (Lib.alloc_old _ _ _ (by simp)).trans (heap_alloc_new wr _)
        have zz : ((wr.alloc (.cells #[.string x.kind, .string x.key, .slice pp (x.attrs.length : Nat) cc] 63)).alloc (.cells #[.string x.kind, .string x.key, .slice pq (x.attrs.length : Nat) cd] 63)).heap[wr.heap.size + 1]? = some (.cells #[.string x.kind, .string x.key, .slice pq (x.attrs.length : Nat) cd] 63 (0, 0)) := by
          have := heap_alloc_new (wr.alloc (.cells #[.string x.kind, .string x.key, .slice pp (x.attrs.length : Nat) cc] 63)) (.cells #[.string x.kind, .string x.key, .slice pq (x.attrs.length : Nat) cd] 63)
          simpa using this
        have zY : ((wr.alloc (.cells #[.string x.kind, .string x.key, .slice pp (x.attrs.length : Nat) cc] 63)).alloc (.cells #[.string x.kind, .string x.key, .slice pq (x.attrs.length : Nat) cd] 63)).drew.heap[wr.heap.size + 1]? = some (.cells #[.string x.kind, .string x.key, .slice pq (x.attrs.length : Nat) cd] 63 (0, 0)) := zz
        clear zz hal1 hal2 hst1
        generalize ((wr.alloc (.cells #[.string x.kind, .string x.key, .slice pp (x.attrs.length : Nat) cc] 63)).alloc (.cells #[.string x.kind, .string x.key, .slice pq (x.attrs.length : Nat) cd] 63)).drew = w7 at zX zY hst2 ⊢
        generalize hX7 : wr.heap.size + 1 = X7 at zY ⊢
        generalize hX6 : wr.heap.size = X6 at zX ⊢
        have hq7 := q5.same (SameB.of_below hst2)
        have hr7 := r5.same (SameB.of_below hst2)
        have hX6l : X6 < w7.heap.size := (Array.getElem?_eq_some_iff.1 zX).1
        have hX7l : X7 < w7.heap.size := (Array.getElem?_eq_some_iff.1 zY).1
        have hbl7 := hbl.trans (hst2.mono hbl.size)
        clear q0 q1 q2 q5 r0 r1 r2 r5 v0 v1 hX6 hX7 hst2 hbk2 hdk2 hA2 hB2
        have x60 : w7.cell? ⟨X6, 0, none⟩ = some (.string x.kind) := by rw [Lib.cell_of_heap zX]; rfl
        have x61 : w7.cell? ⟨X6, 1, none⟩ = some (.string x.key) := by rw [Lib.cell_of_heap zX]; rfl
        have x62 : w7.cell? ⟨X6, 2, none⟩ = some (.slice pp x.attrs.length cc) := by rw [Lib.cell_of_heap zX]; rfl
        have x70 : w7.cell? ⟨X7, 0, none⟩ = some (.string x.kind) := by rw [Lib.cell_of_heap zY]; rfl
        have x71 : w7.cell? ⟨X7, 1, none⟩ = some (.string x.key) := by rw [Lib.cell_of_heap zY]; rfl
        have x72 : w7.cell? ⟨X7, 2, none⟩ = some (.slice pq x.attrs.length cd) := by rw [Lib.cell_of_heap zY]; rfl
        have hek : (x.kind.toList == x.kind.toList) = true := by simp
        have hey : (x.key.toList == x.key.toList) = true := by simp
        have hax := hfx.out.1
        have hay := Lib.hid hfx.out.2
        clear zX zY hfx
        go_upto_region 9 with (fail)
        clear x60 x61 x70 x71 hek hey
        go_wp2
        go_loopw [8] (fun i wr => ∃ m : Nat, m ≤ x.attrs.length ∧ i = .int .i64 m ∧ Below w7.heap.size w7 wr) (fun i _ => x.attrs.length - (intOf i).toNat)
        case atStart => exact ⟨0, Nat.zero_le _, rfl, Below.refl _ _⟩
        case round =>
          obtain ⟨m, hm, rfl, hbq⟩ := hrel
          have u0 := (hbq.cell (p := ⟨X6, 2, none⟩) hX6l).trans x62
          have u1 := (hbq.cell (p := ⟨X7, 2, none⟩) hX7l).trans x72
          by_cases hmt : m < x.attrs.length
          · obtain ⟨b2, off2, rfl, hP2, hb2, hat2⟩ := hq7.at_ m hmt
            obtain ⟨b3, off3, rfl, hP3, hb3, hat3⟩ := hr7.at_ m hmt
            obtain ⟨d0, d1, d2, d3, lp, lc, d4, hlp⟩ := hat2.same (SameB.of_below hbq) hP2 hb2
            obtain ⟨f0, f1, f2, f3, lq, ld, f4, hlq⟩ := hat3.same (SameB.of_below hbq) hP3 hb3
            have hmI2 : (m : Int) < (x.attrs.length : Int) := by omega
            have hmI3 : (0 : Int) ≤ (m : Int) := by omega
            have hyl := hay.out x.attrs[m] (List.getElem_mem hmt)
            obtain ⟨y, hy⟩ : ∃ y, x.attrs[m] = y := ⟨_, rfl⟩
            rw [hy] at d0 d1 d2 d3 d4 hlp f0 f1 f2 f3 f4 hlq hyl
            clear hy hat2 hat3
            have hen : (y.name.toList == y.name.toList) = true := by simp
            have hdr := (Below.refl wr.heap.size wr).drew
            have heq := equal_refl y.val lp lq lc ld wr.drew (by omega) (hlp.same (SameB.of_below hdr)) (hlq.same (SameB.of_below hdr))
            unfold Val.agg at heq
            replace heq := Lib.hid heq
            have hqs := hbq.size
            have hX6s : X6 < wr.heap.size := by omega
            have hX7s : X7 < wr.heap.size := by omega
            have hb2k : b2 < wr.heap.size := by omega
            have hb3k : b3 < wr.heap.size := by omega
            clear hyl hlp hlq
            go_upto_region 12 with (fail)
            go_region_held3 (fun w' => w'.cell? ⟨X6, 2, none⟩ = some (.slice (some ⟨b2, off2, none⟩) x.attrs.length cc) ∧ w'.cell? ⟨X7, 2, none⟩ = some (.slice (some ⟨b3, off3, none⟩) x.attrs.length cd) ∧ w'.cell? ⟨b2, off2 + m * 5, none⟩ = some (.string y.name) ∧ w'.cell? ⟨b2, off2 + m * 5 + 1, none⟩ = some (.int .i64 y.val.kind) ∧ w'.cell? ⟨b2, off2 + m * 5 + 2, none⟩ = some (.int .i64 y.val.num) ∧ w'.cell? ⟨b2, off2 + m * 5 + 3, none⟩ = some (.string y.val.text) ∧ w'.cell? ⟨b2, off2 + m * 5 + 4, none⟩ = some (.slice lp y.val.list.length lc) ∧ w'.cell? ⟨b3, off3 + m * 5, none⟩ = some (.string y.name) ∧ w'.cell? ⟨b3, off3 + m * 5 + 1, none⟩ = some (.int .i64 y.val.kind) ∧ w'.cell? ⟨b3, off3 + m * 5 + 2, none⟩ = some (.int .i64 y.val.num) ∧ w'.cell? ⟨b3, off3 + m * 5 + 3, none⟩ = some (.string y.val.text) ∧ w'.cell? ⟨b3, off3 + m * 5 + 4, none⟩ = some (.slice lq y.val.list.length ld))
              (first | go_keep | (exact ⟨(hbE.cell (p := ⟨X6, 2, none⟩) hX6s).trans u0, (hbE.cell (p := ⟨X7, 2, none⟩) hX7s).trans u1, (hbE.cell (p := ⟨b2, off2 + m * 5, none⟩) hb2k).trans d0, (hbE.cell (p := ⟨b2, off2 + m * 5 + 1, none⟩) hb2k).trans d1, (hbE.cell (p := ⟨b2, off2 + m * 5 + 2, none⟩) hb2k).trans d2, (hbE.cell (p := ⟨b2, off2 + m * 5 + 3, none⟩) hb2k).trans d3, (hbE.cell (p := ⟨b2, off2 + m * 5 + 4, none⟩) hb2k).trans d4, (hbE.cell (p := ⟨b3, off3 + m * 5, none⟩) hb3k).trans f0, (hbE.cell (p := ⟨b3, off3 + m * 5 + 1, none⟩) hb3k).trans f1, (hbE.cell (p := ⟨b3, off3 + m * 5 + 2, none⟩) hb3k).trans f2, (hbE.cell (p := ⟨b3, off3 + m * 5 + 3, none⟩) hb3k).trans f3, (hbE.cell (p := ⟨b3, off3 + m * 5 + 4, none⟩) hb3k).trans f4⟩))
              (first
                | (go_at_call 20; refine heq.out.mono ?_; rintro e wE ⟨rfl, hbE'⟩; have hbE := hdr.trans (hbE'.mono hdr.size)))
            go_wp2
            go_roundw
            case rel => exact ⟨m + 1, by omega, by go_num, hbq.trans (hbE.mono hbq.size)⟩
            case measure => simp [intOf]; omega
          · obtain rfl : m = x.attrs.length := by omega
            have hmI : ¬ (x.attrs.length : Int) < (x.attrs.length : Int) := by omega
            go_wp2
            go_roundw
            case rel => exact ⟨n + 1, by omega, by go_num, hbl7.trans (hbq.mono hbl7.size)⟩
            case measure => simp [intOf]; omega
      · go_simp
        refine hK.out _ _ ⟨(hal1.cell (p := ⟨w.heap.size, 0, none⟩) hA2).trans v0, (hal1.cell (p := ⟨w.heap.size + 1, 0, none⟩) hB2).trans v1, (hal1.cell (p := ⟨b, off + n * 3, none⟩) hbk2).trans q0, (hal1.cell (p := ⟨b, off + n * 3 + 1, none⟩) hbk2).trans q1, (hal1.cell (p := ⟨b, off + n * 3 + 2, none⟩) hbk2).trans q2, (hal1.cell (p := ⟨d, off' + n * 3, none⟩) hdk2).trans r0, (hal1.cell (p := ⟨d, off' + n * 3 + 1, none⟩) hdk2).trans r1, (hal1.cell (p := ⟨d, off' + n * 3 + 2, none⟩) hdk2).trans r2⟩ (fun _ => ?_)
        clear hK K
        try simp only [List.getElem_toArray, List.getElem_cons_succ, List.getElem_cons_zero, Act.put, List.setIfInBounds_toArray, List.set_cons_zero, List.set_cons_succ]
        refine wpAnyH_ready (rs := [10]) (by kernel_rfl) (by simp) ?_
        refine AllReadyH.cons rfl (fun K hK => ?_) AllReadyH.nil
        go_simp
        refine hK.out _ _ ⟨(hal2.cell (p := ⟨w.heap.size, 0, none⟩) hA2).trans v0, (hal2.cell (p := ⟨w.heap.size + 1, 0, none⟩) hB2).trans v1, (hal2.cell (p := ⟨b, off + n * 3, none⟩) hbk2).trans q0, (hal2.cell (p := ⟨b, off + n * 3 + 1, none⟩) hbk2).trans q1, (hal2.cell (p := ⟨b, off + n * 3 + 2, none⟩) hbk2).trans q2, (hal2.cell (p := ⟨d, off' + n * 3, none⟩) hdk2).trans r0, (hal2.cell (p := ⟨d, off' + n * 3 + 1, none⟩) hdk2).trans r1, (hal2.cell (p := ⟨d, off' + n * 3 + 2, none⟩) hdk2).trans r2⟩ (fun _ => ?_)
        clear hK K
        try simp only [List.getElem_toArray, List.getElem_cons_succ, List.getElem_cons_zero, Act.put, List.setIfInBounds_toArray, List.set_cons_zero, List.set_cons_succ]
        have hst1 := (((Below.refl wr.heap.size wr).alloc (Nat.le_refl _) (.cells #[.string ⟨#[]⟩, .string ⟨#[]⟩, .slice none 0 0] 63)).alloc (by simp) (.cells #[.string x.kind, .string x.key, .slice pp (x.attrs.length : Nat) cc] 63)).drew
        have hst2 := (((Below.refl wr.heap.size wr).alloc (Nat.le_refl _) (.cells #[.string x.kind, .string x.key, .slice pq (x.attrs.length : Nat) cd] 63)).alloc (by simp) (.cells #[.string x.kind, .string x.key, .slice pp (x.attrs.length : Nat) cc] 63)).drew
        refine wpAnyH_ready (rs := [12]) (by kernel_rfl) (by simp) ?_
        refine AllReadyH.cons rfl (fun K hK => ?_) AllReadyH.nil
        go_simp
        refine hK.out _ _ ⟨(hst1.cell (p := ⟨w.heap.size, 0, none⟩) hA2).trans v0, (hst1.cell (p := ⟨w.heap.size + 1, 0, none⟩) hB2).trans v1, (hst1.cell (p := ⟨b, off + n * 3, none⟩) hbk2).trans q0, (hst1.cell (p := ⟨b, off + n * 3 + 1, none⟩) hbk2).trans q1, (hst1.cell (p := ⟨b, off + n * 3 + 2, none⟩) hbk2).trans q2, (hst1.cell (p := ⟨d, off' + n * 3, none⟩) hdk2).trans r0, (hst1.cell (p := ⟨d, off' + n * 3 + 1, none⟩) hdk2).trans r1, (hst1.cell (p := ⟨d, off' + n * 3 + 2, none⟩) hdk2).trans r2⟩ (fun _ => ?_)
        clear hK K
        try simp only [List.getElem_toArray, List.getElem_cons_succ, List.getElem_cons_zero, Act.put, List.setIfInBounds_toArray, List.set_cons_zero, List.set_cons_succ]
        refine wpAnyH_ready (rs := [13]) (by kernel_rfl) (by simp) ?_
        refine AllReadyH.cons rfl (fun K hK => ?_) AllReadyH.nil
        go_simp
        refine hK.out _ _ ⟨(hst2.cell (p := ⟨w.heap.size, 0, none⟩) hA2).trans v0, (hst2.cell (p := ⟨w.heap.size + 1, 0, none⟩) hB2).trans v1, (hst2.cell (p := ⟨b, off + n * 3, none⟩) hbk2).trans q0, (hst2.cell (p := ⟨b, off + n * 3 + 1, none⟩) hbk2).trans q1, (hst2.cell (p := ⟨b, off + n * 3 + 2, none⟩) hbk2).trans q2, (hst2.cell (p := ⟨d, off' + n * 3, none⟩) hdk2).trans r0, (hst2.cell (p := ⟨d, off' + n * 3 + 1, none⟩) hdk2).trans r1, (hst2.cell (p := ⟨d, off' + n * 3 + 2, none⟩) hdk2).trans r2⟩ (fun _ => ?_)
        clear hK K hHeld
        try simp only [List.getElem_toArray, List.getElem_cons_succ, List.getElem_cons_zero, Act.put, List.setIfInBounds_toArray, List.set_cons_zero, List.set_cons_succ]
        refine wpAnyH_done (by kernel_rfl) ?_ _
        have zY : ((wr.alloc (.cells #[.string x.kind, .string x.key, .slice pq (x.attrs.length : Nat) cd] 63)).alloc (.cells #[.string x.kind, .string x.key, .slice pp (x.attrs.length : Nat) cc] 63)).drew.heap[wr.heap.size]? = some (.cells #[.string x.kind, .string x.key, .slice pq (x.attrs.length : Nat) cd] 63 (0, 0)) := (Lib.alloc_old _ _ _ (by simp)).trans (heap_alloc_new wr _)
        have zz : ((wr.alloc (.cells #[.string x.kind, .string x.key, .slice pq (x.attrs.length : Nat) cd] 63)).alloc (.cells #[.string x.kind, .string x.key, .slice pp (x.attrs.length : Nat) cc] 63)).heap[wr.heap.size + 1]? = some (.cells #[.string x.kind, .string x.key, .slice pp (x.attrs.length : Nat) cc] 63 (0, 0)) := by
          have := heap_alloc_new (wr.alloc (.cells #[.string x.kind, .string x.key, .slice pq (x.attrs.length : Nat) cd] 63)) (.cells #[.string x.kind, .string x.key, .slice pp (x.attrs.length : Nat) cc] 63)
          simpa using this
        have zX : ((wr.alloc (.cells #[.string x.kind, .string x.key, .slice pq (x.attrs.length : Nat) cd] 63)).alloc (.cells #[.string x.kind, .string x.key, .slice pp (x.attrs.length : Nat) cc] 63)).drew.heap[wr.heap.size + 1]? = some (.cells #[.string x.kind, .string x.key, .slice pp (x.attrs.length : Nat) cc] 63 (0, 0)) := zz
        clear zz hal1 hal2 hst1
        generalize ((wr.alloc (.cells #[.string x.kind, .string x.key, .slice pq (x.attrs.length : Nat) cd] 63)).alloc (.cells #[.string x.kind, .string x.key, .slice pp (x.attrs.length : Nat) cc] 63)).drew = w7 at zX zY hst2 ⊢
        generalize hX6 : wr.heap.size + 1 = X6 at zX ⊢
        generalize hX7 : wr.heap.size = X7 at zY ⊢
        have hq7 := q5.same (SameB.of_below hst2)
        have hr7 := r5.same (SameB.of_below hst2)
        have hX6l : X6 < w7.heap.size := (Array.getElem?_eq_some_iff.1 zX).1
        have hX7l : X7 < w7.heap.size := (Array.getElem?_eq_some_iff.1 zY).1
        have hbl7 := hbl.trans (hst2.mono hbl.size)
        clear q0 q1 q2 q5 r0 r1 r2 r5 v0 v1 hX6 hX7 hst2 hbk2 hdk2 hA2 hB2
        have x60 : w7.cell? ⟨X6, 0, none⟩ = some (.string x.kind) := by rw [Lib.cell_of_heap zX]; rfl
        have x61 : w7.cell? ⟨X6, 1, none⟩ = some (.string x.key) := by rw [Lib.cell_of_heap zX]; rfl
        have x62 : w7.cell? ⟨X6, 2, none⟩ = some (.slice pp x.attrs.length cc) := by rw [Lib.cell_of_heap zX]; rfl
        have x70 : w7.cell? ⟨X7, 0, none⟩ = some (.string x.kind) := by rw [Lib.cell_of_heap zY]; rfl
        have x71 : w7.cell? ⟨X7, 1, none⟩ = some (.string x.key) := by rw [Lib.cell_of_heap zY]; rfl
        have x72 : w7.cell? ⟨X7, 2, none⟩ = some (.slice pq x.attrs.length cd) := by rw [Lib.cell_of_heap zY]; rfl
        have hek : (x.kind.toList == x.kind.toList) = true := by simp
        have hey : (x.key.toList == x.key.toList) = true := by simp
        have hax := hfx.out.1
        have hay := Lib.hid hfx.out.2
        clear zX zY hfx
        go_upto_region 9 with (fail)
        clear x60 x61 x70 x71 hek hey
        go_wp2
        go_loopw [8] (fun i wr => ∃ m : Nat, m ≤ x.attrs.length ∧ i = .int .i64 m ∧ Below w7.heap.size w7 wr) (fun i _ => x.attrs.length - (intOf i).toNat)
        case atStart => exact ⟨0, Nat.zero_le _, rfl, Below.refl _ _⟩
        case round =>
          obtain ⟨m, hm, rfl, hbq⟩ := hrel
          have u0 := (hbq.cell (p := ⟨X6, 2, none⟩) hX6l).trans x62
          have u1 := (hbq.cell (p := ⟨X7, 2, none⟩) hX7l).trans x72
          by_cases hmt : m < x.attrs.length
          · obtain ⟨b2, off2, rfl, hP2, hb2, hat2⟩ := hq7.at_ m hmt
            obtain ⟨b3, off3, rfl, hP3, hb3, hat3⟩ := hr7.at_ m hmt
            obtain ⟨d0, d1, d2, d3, lp, lc, d4, hlp⟩ := hat2.same (SameB.of_below hbq) hP2 hb2
            obtain ⟨f0, f1, f2, f3, lq, ld, f4, hlq⟩ := hat3.same (SameB.of_below hbq) hP3 hb3
            have hmI2 : (m : Int) < (x.attrs.length : Int) := by omega
            have hmI3 : (0 : Int) ≤ (m : Int) := by omega
            have hyl := hay.out x.attrs[m] (List.getElem_mem hmt)
            obtain ⟨y, hy⟩ : ∃ y, x.attrs[m] = y := ⟨_, rfl⟩
            rw [hy] at d0 d1 d2 d3 d4 hlp f0 f1 f2 f3 f4 hlq hyl
            clear hy hat2 hat3
            have hen : (y.name.toList == y.name.toList) = true := by simp
            have hdr := (Below.refl wr.heap.size wr).drew
            have heq := equal_refl y.val lp lq lc ld wr.drew (by omega) (hlp.same (SameB.of_below hdr)) (hlq.same (SameB.of_below hdr))
            unfold Val.agg at heq
            replace heq := Lib.hid heq
            have hqs := hbq.size
            have hX6s : X6 < wr.heap.size := by omega
            have hX7s : X7 < wr.heap.size := by omega
            have hb2k : b2 < wr.heap.size := by omega
            have hb3k : b3 < wr.heap.size := by omega
            clear hyl hlp hlq
            go_upto_region 12 with (fail)
            go_region_held3 (fun w' => w'.cell? ⟨X6, 2, none⟩ = some (.slice (some ⟨b2, off2, none⟩) x.attrs.length cc) ∧ w'.cell? ⟨X7, 2, none⟩ = some (.slice (some ⟨b3, off3, none⟩) x.attrs.length cd) ∧ w'.cell? ⟨b2, off2 + m * 5, none⟩ = some (.string y.name) ∧ w'.cell? ⟨b2, off2 + m * 5 + 1, none⟩ = some (.int .i64 y.val.kind) ∧ w'.cell? ⟨b2, off2 + m * 5 + 2, none⟩ = some (.int .i64 y.val.num) ∧ w'.cell? ⟨b2, off2 + m * 5 + 3, none⟩ = some (.string y.val.text) ∧ w'.cell? ⟨b2, off2 + m * 5 + 4, none⟩ = some (.slice lp y.val.list.length lc) ∧ w'.cell? ⟨b3, off3 + m * 5, none⟩ = some (.string y.name) ∧ w'.cell? ⟨b3, off3 + m * 5 + 1, none⟩ = some (.int .i64 y.val.kind) ∧ w'.cell? ⟨b3, off3 + m * 5 + 2, none⟩ = some (.int .i64 y.val.num) ∧ w'.cell? ⟨b3, off3 + m * 5 + 3, none⟩ = some (.string y.val.text) ∧ w'.cell? ⟨b3, off3 + m * 5 + 4, none⟩ = some (.slice lq y.val.list.length ld))
              (first | go_keep | (exact ⟨(hbE.cell (p := ⟨X6, 2, none⟩) hX6s).trans u0, (hbE.cell (p := ⟨X7, 2, none⟩) hX7s).trans u1, (hbE.cell (p := ⟨b2, off2 + m * 5, none⟩) hb2k).trans d0, (hbE.cell (p := ⟨b2, off2 + m * 5 + 1, none⟩) hb2k).trans d1, (hbE.cell (p := ⟨b2, off2 + m * 5 + 2, none⟩) hb2k).trans d2, (hbE.cell (p := ⟨b2, off2 + m * 5 + 3, none⟩) hb2k).trans d3, (hbE.cell (p := ⟨b2, off2 + m * 5 + 4, none⟩) hb2k).trans d4, (hbE.cell (p := ⟨b3, off3 + m * 5, none⟩) hb3k).trans f0, (hbE.cell (p := ⟨b3, off3 + m * 5 + 1, none⟩) hb3k).trans f1, (hbE.cell (p := ⟨b3, off3 + m * 5 + 2, none⟩) hb3k).trans f2, (hbE.cell (p := ⟨b3, off3 + m * 5 + 3, none⟩) hb3k).trans f3, (hbE.cell (p := ⟨b3, off3 + m * 5 + 4, none⟩) hb3k).trans f4⟩))
              (first
                | (go_at_call 20; refine heq.out.mono ?_; rintro e wE ⟨rfl, hbE'⟩; have hbE := hdr.trans (hbE'.mono hdr.size)))
            go_wp2
            go_roundw
            case rel => exact ⟨m + 1, by omega, by go_num, hbq.trans (hbE.mono hbq.size)⟩
            case measure => simp [intOf]; omega
          · obtain rfl : m = x.attrs.length := by omega
            have hmI : ¬ (x.attrs.length : Int) < (x.attrs.length : Int) := by omega
            go_wp2
            go_roundw
            case rel => exact ⟨n + 1, by omega, by go_num, hbl7.trans (hbq.mono hbl7.size)⟩
            case measure => simp [intOf]; omega
    · obtain rfl : n = l.length := by omega
      have hnI : ¬ (l.length : Int) < (l.length : Int) := by omega
      go_wp2
      go_ret
      exact ⟨rfl, hbB.trans (hbl.mono (by omega))⟩
end Go.Proofs.YtcbnefeedoabeaaGreatDoor
