/- SubjectChecks: a drawn subject is valid, and every other one has the error that the document says. -/
import Derived.Test.YtcbnefeedoabeaaDoorPm
import Derived.Test.YtcbnefeedoabeaaDoorPl
namespace Go.Proofs.YtcbnefeedoabeaaDoor
open Go Go.RowKit

theorem small_fit {es : List CEl} (h : ∀ x ∈ es, SmallC x.x) : ∀ x ∈ es.map CEl.x, FitC x := fun x hx => by
  obtain ⟨e, he, rfl⟩ := List.mem_map.1 hx
  exact (h e he).fit
set_option maxHeartbeats 16000000 in
set_option maxRecDepth 100000 in
theorem checks_walk (p : Option Addr) (c : Nat) (l : List Ctx) (a1 : Option Addr) (l1 : List UInt8) (c1 : Nat) (w : World) (E : Env w) (G : DrawL w) (hS : SubjAt p c l w) (h1 : BytesIn a1 l1 c1 w) :
    Calls Tryd.prog 3 #[.agg #[.slice p (l.length : Nat) c], .slice a1 (l1.length : Nat) c1] w fun e w' => e = .returned (.bool true) ∧ Below w.heap.size w w' := by
  have hb0 := (Below.refl w.heap.size w).alloc (Nat.le_refl _) (.cells #[.slice p (l.length : Nat) c] 24)
  have hz0 := heap_alloc_new w (.cells #[.slice p (l.length : Nat) c] 24)
  have hg0 : w.heap.size < (w.alloc (.cells #[.slice p (l.length : Nat) c] 24)).heap.size := by simp
  go_enter Tryd.func3, Tryd.ntmps3
  go_upto_region 1 with (fail)
  generalize w.alloc (.cells #[.slice p (l.length : Nat) c] 24) = w0 at hb0 hz0 hg0 ⊢
  go_upto_region 3 with (go_at_call 6; refine (awake_any _ (E.below hb0)).mono ?_; rintro e w1 ⟨rfl, hb1⟩)
  have B1 : Below w.heap.size w w1 := hb0.trans (hb1.mono hb0.size)
  have z1 := (hb1.block _ hg0).trans hz0
  have hg1 := Nat.lt_of_lt_of_le hg0 hb1.size
  clear hb0 hz0 hg0 hb1
  have v1 : w1.cell? ⟨w.heap.size, 0, none⟩ = some (.slice p l.length c) := by rw [Lib.cell_of_heap z1]; rfl
  have hS1 := hS.below B1
  have hsm := Lib.hid (small_any p c l w1 hS1.row hS1.fit hS1.len)
  by_cases hsmall : smallS l = true
  · rw [hsmall] at hsm
    go_upto_region 5 with (go_at_call 7; refine hsm.out.mono ?_; rintro e w2 ⟨rfl, hb2⟩)
    have B2 := B1.trans (hb2.mono B1.size)
    have z2 := (hb2.block _ hg1).trans z1
    have hg2 := Nat.lt_of_lt_of_le hg1 hb2.size
    clear hb2 hsm v1 z1 hS1 B1
    clear hg1 w1
    have hn1 := Lib.hid (new80 (h1.below B2))
    have hl1 : (l1.take 80).length ≤ 1000000 := by rw [List.length_take]; omega
    go_upto_region 7 with (first
      | (go_at_call 8; with_reducible refine hn1.out.mono ?_; rintro e w3 ⟨rfl, hcd3, hb3⟩; have hG3 := (G.below B2).fresh hb3; have hsub1 := Lib.hid (subject_any _ a1 c1 w2.heap.size 0 w3 hl1 hcd3 hG3))
      | (go_at_call 9; with_reducible refine hsub1.out.mono ?_; rintro e w4 ⟨⟨es1, v1, rfl, hd1, hr1⟩, hk4, hce4⟩; obtain ⟨pA, cA, rfl, -, -, -, -⟩ := hr1.form))
    have hbl := (Below.refl w4.heap.size w4).alloc (Nat.le_refl _) (.cells #[.slice pA es1.length cA] 24)
    have zt := heap_alloc_new w4 (.cells #[.slice pA es1.length cA] 24)
    have hr5 := hr1.below hbl
    have hk5 := hk4.trans (Kept.of_below (C := w2.heap.size) hbl)
    have hG5 := hG3.kept hk5
    have hc5 : ∃ at2, Codes (l1.take 80) a1 c1 w2.heap.size at2 (w4.alloc (.cells #[.slice pA es1.length cA] 24)) := by obtain ⟨at2, hc⟩ := hce4; exact ⟨_, hc.below hbl⟩
    have hX5 : w4.heap.size < (w4.alloc (.cells #[.slice pA es1.length cA] 24)).heap.size := by simp
    have hC3 := hcd3.lt
    have h34 := hk4.size
    generalize w4.alloc (.cells #[.slice pA es1.length cA] 24) = w5 at hr5 hk5 hG5 hc5 zt hX5 ⊢
    clear hbl hr1 hk4 hce4 hG3 hsub1 hn1
    obtain ⟨at5, hc5⟩ := hc5
    have hlen1 := hd1.len
    rw [List.length_map] at hlen1
    have hcx : CtxsP (fun b => w3.heap.size ≤ b ∧ b < w5.heap.size) pA cA (es1.map CEl.x) w5 := by
      obtain ⟨a0', cap', hv, hcx⟩ := hr5.ctxs
      injection hv with e1 e2 e3
      subst e1
      subst e3
      exact hcx.mono fun b hb h => ⟨h.elim id (fun e => (hr5.lt b e).1), hb⟩
    have hsp := spoil_any pA cA (es1.map CEl.x) _ a1 c1 w2.heap.size at5 w5 hl1 hc5 hG5 (fun b hb => ⟨hb.2, by have := hb.1; omega⟩) hcx (by rw [List.length_map]; exact hlen1) (fun x hx => ⟨hd1.fit x hx, by
      obtain ⟨kd, hk, hd⟩ := hd1.each x hx
      have := hd.len hk
      omega⟩)
    rw [List.length_map] at hsp
    replace hsp := Lib.hid hsp
    have u5 : w5.cell? ⟨w4.heap.size, 0, none⟩ = some (.slice pA es1.length cA) := by rw [Lib.cell_of_heap zt]; rfl
    go_upto_region 8 with (go_at_call 10; refine hsp.out.mono ?_; rintro e w6 ⟨⟨es2, v2, rfl, hr2, hn2, hs2⟩, hk6, -⟩; obtain ⟨pB, cB, rfl, -, -, -, -⟩ := hr2.form)
    have hb7 := (Below.refl w6.heap.size w6).alloc (Nat.le_refl _) (.cells #[.slice pB es2.length cB] 24)
    have zY := heap_alloc_new w6 (.cells #[.slice pB es2.length cB] 24)
    have hY7 : w6.heap.size < (w6.alloc (.cells #[.slice pB es2.length cB] 24)).heap.size := by simp
    generalize w6.alloc (.cells #[.slice pB es2.length cB] 24) = w7 at hb7 zY hY7 ⊢
    have h56 := hk6.size
    have hB57 : Below w2.heap.size w5 w7 := (hk6.below (Nat.le_refl _) (by omega)).trans (hb7.mono (by omega))
    have hB25 : Below w2.heap.size w2 w5 := hb3.trans (hk5.below (Nat.le_refl _) (by omega))
    have B7 : Below w.heap.size w w7 := B2.trans ((hB25.trans hB57).mono B2.size)
    have E7 := E.below B7
    have zX := (hb7.block _ (by omega)).trans ((hk6.block _ hX5 (by omega)).trans zt)
    have zS := (hB57.block w.heap.size hg2).trans ((hB25.block w.heap.size hg2).trans z2)
    have hrA := (hr5.kept hk6 (by omega) (fun b hb => by omega)).below hb7
    have hrB := hr2.below hb7
    have sS := hS.below B7
    have sA := subj_at hrA rfl hd1.fit (by rw [List.length_map]; omega)
    have sB := subj_at hrB rfl (small_fit hs2) (by rw [List.length_map]; omega)
    have hT : ∀ W, Below w7.heap.size w7 W → Calls Tryd.prog 11 #[.agg #[.slice pA (es1.length : Nat) cA]] W fun e w' => e = .returned (.int .i64 0) ∧ Below W.heap.size W w' := fun W hb => by
      have h := check_subject pA cA _ W (E7.below hb) (sA.below hb).row sA.fit sA.len
      rw [hd1.ok, List.length_map] at h
      exact h
    have hP : ∀ W, Below w7.heap.size w7 W → Calls Tryd.prog 11 #[.agg #[.slice p (l.length : Nat) c]] W fun e w' => e = .returned (.int .i64 (subjE l)) ∧ Below W.heap.size W w' := fun W hb => check_subject p c _ W (E7.below hb) (sS.below hb).row sS.fit sS.len
    have hPr : ∀ W, Below w7.heap.size w7 W → Calls Tryd.prog 12 #[.agg #[.slice p (l.length : Nat) c]] W fun e w' => e = .returned (.int .i64 (subjE l)) ∧ Below W.heap.size W w' := fun W hb => refCheck_subject p c _ W (E7.below hb) (sS.below hb).row sS.fit sS.len
    have hU : ∀ W, Below w7.heap.size w7 W → Calls Tryd.prog 11 #[.agg #[.slice pB (es2.length : Nat) cB]] W fun e w' => e = .returned (.int .i64 (subjE (es2.map CEl.x))) ∧ Below W.heap.size W w' := fun W hb => by
      have h := check_subject pB cB _ W (E7.below hb) (sB.below hb).row sB.fit sB.len
      rw [List.length_map] at h
      exact h
    have hUr : ∀ W, Below w7.heap.size w7 W → Calls Tryd.prog 12 #[.agg #[.slice pB (es2.length : Nat) cB]] W fun e w' => e = .returned (.int .i64 (subjE (es2.map CEl.x))) ∧ Below W.heap.size W w' := fun W hb => by
      have h := refCheck_subject pB cB _ W (E7.below hb) (sB.below hb).row sB.fit sB.len
      rw [List.length_map] at h
      exact h
    obtain ⟨rS, hrS⟩ : ∃ r, subjE l = r := ⟨_, rfl⟩
    obtain ⟨rU, hrU⟩ : ∃ r, subjE (es2.map CEl.x) = r := ⟨_, rfl⟩
    rw [hrS] at hP hPr
    rw [hrU] at hU hUr
    obtain ⟨n1, hn1⟩ : ∃ n, es1.length = n := ⟨_, rfl⟩
    obtain ⟨n2, hn2'⟩ : ∃ n, es2.length = n := ⟨_, rfl⟩
    rw [hn1] at zX hT ⊢
    rw [hn2'] at zY hU hUr ⊢
    have x7 : w7.cell? ⟨w4.heap.size, 0, none⟩ = some (.slice pA n1 cA) := by rw [Lib.cell_of_heap zX]; rfl
    have y7 : w7.cell? ⟨w6.heap.size, 0, none⟩ = some (.slice pB n2 cB) := by rw [Lib.cell_of_heap zY]; rfl
    have s7 : w7.cell? ⟨w.heap.size, 0, none⟩ = some (.slice p l.length c) := by rw [Lib.cell_of_heap zS]; rfl
    have hX7 : w4.heap.size < w7.heap.size := by omega
    have hS7 : w.heap.size < w7.heap.size := by have := B2.size; omega
    replace hT := Lib.hid hT
    replace hP := Lib.hid hP
    replace hPr := Lib.hid hPr
    replace hU := Lib.hid hU
    replace hUr := Lib.hid hUr
    clear hsp hcx hr5 hk5 hG5 hc5 zt u5 hr2 hk6 zY zX zS hrA hrB sS sA sB hs2 hrS hrU hn1 hn2' hd1 hlen1 hn2 hB57 hB25 hX5 hb3 hcd3 hC3 E7 z2 hl1 hb7 h34 h56
    generalize w4.heap.size = X at *
    generalize w6.heap.size = Y at *
    obtain ⟨V, hV⟩ : ∃ V, w.heap.size = V := ⟨_, rfl⟩
    rw [hV] at s7 hS7 ⊢
    replace hV := Lib.hid hV
    replace B7 := Lib.hid B7
    have b7 := (Below.refl w7.heap.size w7).drew
    go_region_held3 (fun w' => w'.cell? ⟨X, 0, none⟩ = some (.slice pA n1 cA) ∧ w'.cell? ⟨Y, 0, none⟩ = some (.slice pB n2 cB) ∧ w'.cell? ⟨V, 0, none⟩ = some (.slice p l.length c))
      (first | go_keep | (exact ⟨(bE.cell (p := ⟨X, 0, none⟩) hX7).trans x7, (bE.cell (p := ⟨Y, 0, none⟩) hY7).trans y7, (bE.cell (p := ⟨V, 0, none⟩) hS7).trans s7⟩) | (exact ⟨(bD.cell (p := ⟨X, 0, none⟩) hX7).trans x7, (bD.cell (p := ⟨Y, 0, none⟩) hY7).trans y7, (bD.cell (p := ⟨V, 0, none⟩) hS7).trans s7⟩) | (exact ⟨(bC.cell (p := ⟨X, 0, none⟩) hX7).trans x7, (bC.cell (p := ⟨Y, 0, none⟩) hY7).trans y7, (bC.cell (p := ⟨V, 0, none⟩) hS7).trans s7⟩) | (exact ⟨(bB.cell (p := ⟨X, 0, none⟩) hX7).trans x7, (bB.cell (p := ⟨Y, 0, none⟩) hY7).trans y7, (bB.cell (p := ⟨V, 0, none⟩) hS7).trans s7⟩) | (exact ⟨(bA.cell (p := ⟨X, 0, none⟩) hX7).trans x7, (bA.cell (p := ⟨Y, 0, none⟩) hY7).trans y7, (bA.cell (p := ⟨V, 0, none⟩) hS7).trans s7⟩))
      (first
        | (go_at_call 12; with_reducible refine (hUr.out _ bD).mono ?_; rintro e wE ⟨rfl, hbE⟩; have bE := bD.trans (hbE.mono bD.size))
        | (go_at_call 11; with_reducible refine (hU.out _ bC).mono ?_; rintro e wD ⟨rfl, hbD⟩; have bD := bC.trans (hbD.mono bC.size))
        | (go_at_call 12; with_reducible refine (hPr.out _ bB).mono ?_; rintro e wC ⟨rfl, hbC⟩; have bC := bB.trans (hbC.mono bB.size))
        | (go_at_call 11; with_reducible refine (hP.out _ bA).mono ?_; rintro e wB ⟨rfl, hbB⟩; have bB := bA.trans (hbB.mono bA.size))
        | (go_at_call 11; with_reducible refine (hT.out _ b7).mono ?_; rintro e wA ⟨rfl, hbA⟩; have bA := b7.trans (hbA.mono b7.size)))
    go_wp2
    go_ret
    exact ⟨rfl, B7.out.trans (bE.mono B7.out.size)⟩
  · replace hsmall : smallS l = false := by simpa using hsmall
    rw [hsmall] at hsm
    go_wp2_with (go_at_call 7; refine hsm.out.mono ?_; rintro e w2 ⟨rfl, hb2⟩)
    go_ret
    exact ⟨rfl, B1.trans (hb2.mono B1.size)⟩
end Go.Proofs.YtcbnefeedoabeaaDoor
