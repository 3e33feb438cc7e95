/- Contracts of the law's small, awake and names. -/
import Derived.Test.YtcbnefeedoabeaaGreatDoorPf
import Derived.Test.YtcbnefeedoabeaaGreatDoorPh
import Derived.Deep.RegionHeld3
/- Contracts of the law's small, awake and names. -/
namespace Go.Proofs.YtcbnefeedoabeaaGreatDoor
open Go Go.RowKit

/-- A subject that is looked at. -/
def smallS (l : List Ctx) : Bool := decide (l.length ≤ 8) && l.all fun x => decide (x.attrs.length ≤ 30) && decide (x.key.size ≤ 400)
theorem smallS_big {l : List Ctx} (h : 8 < l.length) : smallS l = false := by simp [smallS]; omega
theorem smallS_one {l : List Ctx} (i : Nat) (hi : i < l.length) (h : 30 < l[i].attrs.length ∨ 400 < l[i].key.size) : smallS l = false := by
  unfold smallS
  rw [Bool.and_eq_false_iff]
  right
  rw [List.all_eq_false]
  exact ⟨l[i], List.getElem_mem hi, by simp; omega⟩
theorem smallS_yes {l : List Ctx} (h : l.length ≤ 8) (h2 : ∀ i (hi : i < l.length), l[i].attrs.length ≤ 30 ∧ l[i].key.size ≤ 400) : smallS l = true := by
  unfold smallS
  rw [Bool.and_eq_true, decide_eq_true_eq, List.all_eq_true]
  refine ⟨h, fun x hx => ?_⟩
  obtain ⟨i, hi, rfl⟩ := List.getElem_of_mem hx
  simp [h2 i hi]
theorem smallS_len {l : List Ctx} (h : smallS l = true) : l.length ≤ 8 := by
  unfold smallS at h
  rw [Bool.and_eq_true, decide_eq_true_eq] at h
  exact h.1
set_option maxHeartbeats 4000000 in
theorem small_any {P : Nat → Prop} (a0 : Option Addr) (cp : Nat) (l : List Ctx) (w : World) (hA : CtxsP P a0 cp l w) (hF : ∀ x ∈ l, FitC x) (hl : l.length ≤ 9223372036854775000) :
    Calls Tryz.prog 8 #[.agg #[.slice a0 (l.length : Nat) cp]] w fun e w' => e = .returned (.bool (smallS l)) ∧ Below w.heap.size w w' := by
  have hb0 := (Below.refl w.heap.size w).alloc (Nat.le_refl _) (.cells #[.slice a0 (l.length : Nat) cp] 25)
  by_cases h8 : 8 < l.length
  · rw [smallS_big h8]
    replace hb0 := Lib.hid hb0
    go_enter Tryz.func8, Tryz.ntmps8
    go_wp2
    go_ret
    exact ⟨rfl, hb0.out⟩
  · have hz0 := heap_alloc_new w (.cells #[.slice a0 (l.length : Nat) cp] 25)
    have s0 : (w.alloc (.cells #[.slice a0 (l.length : Nat) cp] 25)).cell? ⟨w.heap.size, 0, none⟩ = some (.slice a0 l.length cp) := by rw [Lib.cell_of_heap hz0]; rfl
    have hno := Lib.hid (fun i (hi : i < l.length) h => smallS_one (l := l) i hi h)
    have hyes := Lib.hid (fun h2 => smallS_yes (l := l) (by omega) h2)
    obtain ⟨r, hr⟩ : ∃ r, smallS l = r := ⟨_, rfl⟩
    rw [hr]
    rw [hr] at hno hyes
    replace hr := Lib.hid hr
    replace hz0 := Lib.hid hz0
    go_enter Tryz.func8, Tryz.ntmps8
    go_wp2
    generalize w.alloc (.cells #[.slice a0 (l.length : Nat) cp] 25) = w0 at hb0 s0 ⊢
    go_loop [3] (fun i => ∃ n : Nat, n ≤ l.length ∧ i = .int .i64 n ∧ Hid (∀ j (hj : j < l.length), j < n → l[j].attrs.length ≤ 30 ∧ l[j].key.size ≤ 400)) (fun i => l.length - (intOf i).toNat)
    case atStart => exact ⟨0, Nat.zero_le _, rfl, Lib.hid (fun j _ h => by omega)⟩
    case round =>
      obtain ⟨n, hn, rfl, hsm⟩ := hrel
      by_cases hlt : n < l.length
      · obtain ⟨b, off, rfl, hP, hbk, hat⟩ := hA.at_ n hlt
        obtain ⟨q0, q1, pp, cc, q2, q5⟩ := hat.same (SameB.of_below (P := P) hb0) hP hbk
        have hlt' : (n : Int) < (l.length : Int) := by omega
        have hno2 := Lib.hid (hno.out n hlt)
        have hstep := Lib.hid (fun (h : l[n].attrs.length ≤ 30 ∧ l[n].key.size ≤ 400) (j : Nat) (hj : j < l.length) (hlt2 : j < n + 1) => (show l[j].attrs.length ≤ 30 ∧ l[j].key.size ≤ 400 from if h3 : j < n then hsm.out j hj h3 else (by have e : j = n := (by omega); subst e; exact h)))
        have hFx := hF l[n] (List.getElem_mem hlt)
        have g1 := hFx.key
        have g2 := hFx.attrs
        clear hno hyes hsm
        obtain ⟨x, hx⟩ : ∃ x, l[n] = x := ⟨_, rfl⟩
        rw [hx] at q0 q1 q2 q5 hno2 g1 g2
        have hx2 := Lib.hid hx
        clear hx hat hFx
        by_cases h1 : 30 < x.attrs.length
        · have := hno2.out (.inl h1)
          subst this
          have h1' : (30 : Int) < (x.attrs.length : Int) := by omega
          go_wp2
          go_ret
          exact ⟨rfl, hb0⟩
        · have h1' : ¬ (30 : Int) < (x.attrs.length : Int) := by omega
          by_cases h2 : 400 < x.key.size
          · have := hno2.out (.inr h2)
            subst this
            have h2' : (400 : Int) < (x.key.size : Int) := by omega
            go_wp2
            go_ret
            exact ⟨rfl, hb0⟩
          · have h2' : ¬ (400 : Int) < (x.key.size : Int) := by omega
            go_wp2
            go_round
            case rel => exact ⟨n + 1, by omega, by go_num, Lib.hid (hstep.out (by rw [hx2.out]; omega))⟩
            case measure => simp [intOf]; omega
      · obtain rfl : n = l.length := by omega
        have hlt' : ¬ (l.length : Int) < (l.length : Int) := by omega
        have := hyes.out (fun i hi => hsm.out i hi hi)
        subst this
        go_wp2
        go_ret
        exact ⟨rfl, hb0⟩
def exL : List Ctx := [⟨⟨#[100, 101, 118, 105, 99, 101]⟩, ⟨#[100, 49]⟩, []⟩, ⟨⟨#[117, 115, 101, 114]⟩, ⟨#[97, 110, 110]⟩, []⟩]
theorem ex_canon : canonP exL = (⟨#[100, 101, 118, 105, 99, 101, 58, 34, 100, 49, 34, 44, 117, 115, 101, 114, 58, 34, 97, 110, 110, 34]⟩, 0) := by decide +kernel
theorem ex_ok : subjE exL = 0 := by decide +kernel
theorem ex_fit : ∀ x ∈ exL, FitC x := by
  intro x hx
  simp only [exL, List.mem_cons, List.not_mem_nil, or_false] at hx
  rcases hx with rfl | rfl
  · exact ⟨by decide, by decide, by decide, fun a ha => by simp at ha⟩
  · exact ⟨by decide, by decide, by decide, fun a ha => by simp at ha⟩
theorem attrs_nil (P : Nat → Prop) (w : World) : AttrsP P none 0 [] w := ⟨fun _ => rfl, Nat.le_refl _, fun i hi => by simp at hi⟩
theorem ex_row (w : World) : CtxsP (fun _ => True) (some ⟨w.heap.size, 0, none⟩) 2 exL (w.alloc (.cells #[.string ⟨#[100, 101, 118, 105, 99, 101]⟩, .string ⟨#[100, 49]⟩, .slice none 0 0, .string ⟨#[117, 115, 101, 114]⟩, .string ⟨#[97, 110, 110]⟩, .slice none 0 0] 63)) := by
  refine ⟨(fun h => by cases h), by decide, fun i hi => ?_⟩
  have hz := heap_alloc_new w (.cells #[.string ⟨#[100, 101, 118, 105, 99, 101]⟩, .string ⟨#[100, 49]⟩, .slice none 0 0, .string ⟨#[117, 115, 101, 114]⟩, .string ⟨#[97, 110, 110]⟩, .slice none 0 0] 63)
  refine ⟨w.heap.size, 0, rfl, trivial, by simp, ?_⟩
  have hi2 : i < 2 := hi
  match i, hi2 with
  | 0, _ => exact ⟨by rw [Lib.cell_of_heap hz]; rfl, by rw [Lib.cell_of_heap hz]; rfl, none, 0, by rw [Lib.cell_of_heap hz]; rfl, attrs_nil _ _⟩
  | 1, _ => exact ⟨by rw [Lib.cell_of_heap hz]; rfl, by rw [Lib.cell_of_heap hz]; rfl, none, 0, by rw [Lib.cell_of_heap hz]; rfl, attrs_nil _ _⟩
  | i + 2, h => omega
set_option maxHeartbeats 4000000 in
set_option maxRecDepth 100000 in
theorem awake_any (w : World) (E : Env w) : Calls Tryz.prog 7 #[] w fun e w' => e = .returned (.bool true) ∧ Below w.heap.size w w' := by
  have hrow := ex_row w
  have hb0 := (Below.refl w.heap.size w).alloc (Nat.le_refl _) (.cells #[.string ⟨#[100, 101, 118, 105, 99, 101]⟩, .string ⟨#[100, 49]⟩, .slice none 0 0, .string ⟨#[117, 115, 101, 114]⟩, .string ⟨#[97, 110, 110]⟩, .slice none 0 0] 63)
  have hlt : (w.alloc (.cells #[.string ⟨#[100, 101, 118, 105, 99, 101]⟩, .string ⟨#[100, 49]⟩, .slice none 0 0, .string ⟨#[117, 115, 101, 114]⟩, .string ⟨#[97, 110, 110]⟩, .slice none 0 0] 63)).heap.size = w.heap.size + 1 := by simp
  go_enter Tryz.func7, Tryz.ntmps7
  go_upto_region 2 with (fail)
  generalize w.alloc (.cells #[.string ⟨#[100, 101, 118, 105, 99, 101]⟩, .string ⟨#[100, 49]⟩, .slice none 0 0, .string ⟨#[117, 115, 101, 114]⟩, .string ⟨#[97, 110, 110]⟩, .slice none 0 0] 63) = w0 at hrow hb0 hlt ⊢
  have hb1 := (Below.refl w0.heap.size w0).alloc (Nat.le_refl _) (.cells #[.slice (some ⟨w.heap.size, 0, none⟩) 2 2] 25)
  have hz1 := heap_alloc_new w0 (.cells #[.slice (some ⟨w.heap.size, 0, none⟩) 2 2] 25)
  have hbw := hb0.trans (hb1.mono hb0.size)
  have hrow1 := hrow.same (SameB.of_below (P := fun _ => True) hb1)
  have hg1 : w0.heap.size < (w0.alloc (.cells #[.slice (some ⟨w.heap.size, 0, none⟩) 2 2] 25)).heap.size := by simp
  generalize w0.alloc (.cells #[.slice (some ⟨w.heap.size, 0, none⟩) 2 2] 25) = w1 at hz1 hbw hrow1 hg1 ⊢
  rw [hlt] at hz1 hg1
  generalize w.heap.size + 1 = g at hz1 hg1 ⊢
  have s1 : w1.cell? ⟨g, 0, none⟩ = some (.slice (some ⟨w.heap.size, 0, none⟩) 2 2) := by rw [Lib.cell_of_heap hz1]; rfl
  have hc := canonical_any (P := fun _ => True) (some ⟨w.heap.size, 0, none⟩) 2 exL w1 (E.below hbw) hrow1 ex_fit (by decide)
  rw [ex_canon] at hc
  replace hc := Lib.hid hc
  have hk := Lib.hid (fun W (h : Env W) (h2 : CtxsP (fun _ => True) (some ⟨w.heap.size, 0, none⟩) 2 exL W) => (by have := check_subject (P := fun _ => True) (some ⟨w.heap.size, 0, none⟩) 2 exL W h h2 ex_fit (by decide); rw [ex_ok] at this; exact this : Calls Tryz.prog 29 #[.agg #[.slice (some ⟨w.heap.size, 0, none⟩) 2 2]] W fun e w' => e = .returned (.int .i64 0) ∧ Below W.heap.size W w'))
  go_wp2_with (first
    | (go_at_call 28; refine hc.out.mono ?_; rintro e w2 ⟨rfl, hb2⟩; have s2 := (hb2.cell (p := ⟨g, 0, none⟩) hg1).trans s1; have hbw2 := hbw.trans (hb2.mono hbw.size); have hrow2 := hrow1.same (SameB.of_below (P := fun _ => True) hb2))
    | (go_at_call 29; refine (hk.out _ (E.below hbw2) hrow2).mono ?_; rintro e w3 ⟨rfl, hb3⟩))
  go_ret
  exact ⟨rfl, hbw2.trans (hb3.mono hbw2.size)⟩
end Go.Proofs.YtcbnefeedoabeaaGreatDoor
