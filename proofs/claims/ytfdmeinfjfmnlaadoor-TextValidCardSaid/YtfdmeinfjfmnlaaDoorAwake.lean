/- Contract of the chapter's examples: they all hold. -/
import Derived.Test.YtfdmeinfjfmnlaaDoorRefParse
import Derived.Test.YtfdmeinfjfmnlaaDoorRefKey
namespace Go.Proofs.YtfdmeinfjfmnlaaDoor
open Go Go.RowKit

/-- What the listed package-level variables hold. -/
structure Env (w : World) : Prop where
  res : Res words w
  tabs : Tabs w
  pow : Pow w
theorem Pow.below {w w' : World} (h : Pow w) (hb : Below w.heap.size w w') : Pow w' := by
  unfold Pow Lib.TabIs at h ⊢
  have hg : Tryd.prog.globalNamed "internal/strconv.uint64pow10" = some 3 := by kernel_rfl
  unfold World.var? at h ⊢
  rw [hg] at h ⊢
  simp only [Option.bind_some] at h ⊢
  by_cases hlt : 3 < w.heap.size
  · rw [hb.block _ hlt]; exact h
  · rw [Array.getElem?_eq_none (Nat.le_of_not_lt hlt)] at h
    simp at h
theorem Env.below {w w' : World} (h : Env w) (hb : Below w.heap.size w w') : Env w' := ⟨h.res.below hb h.res.glob, h.tabs.below hb, h.pow.below hb⟩
theorem key_env {w : World} (E : Env w) (s : ByteArray) (hm : s.size ≤ 9223372036854775807) : Calls Tryd.prog 11 #[.string s] w fun e w' => e = .returned (.bool (keyB words s)) ∧ Below w.heap.size w w' :=
  key_any words (by decide) s w hm E.res

set_option maxHeartbeats 4000000 in
set_option maxRecDepth 100000 in
theorem awake_any (w : World) (E : Env w) : Calls Tryd.prog 10 #[] w fun e w' => e = .returned (.bool true) ∧ Below w.heap.size w w' := by
  have v1 : validB ⟨#[97, 34, 98]⟩ = true := by kernel_rfl
  have hq : ∀ W, Env W → Calls Tryd.prog 18 #[.string ⟨#[97, 34, 98]⟩] W fun e w' => e = .returned (.tuple #[.string ⟨#[34, 97, 92, 34, 98, 34]⟩, .int .i64 0]) ∧ Below W.heap.size W w' := fun W h => quote_loop _ W v1 h.tabs
  have hp : ∀ W, Env W → Calls Tryd.prog 23 #[.string ⟨#[48, 48, 55]⟩] W fun e w' => e = .returned (.tuple #[.int .i64 0, .int .i64 1]) ∧ Below W.heap.size W w' := fun W h => parse_any _ W
  have k1 : keyB words ⟨#[110, 101, 119, 45, 99, 104, 101, 99, 107, 111, 117, 116]⟩ = true := by kernel_rfl
  have k2 : keyB words ⟨#[111, 110]⟩ = false := by kernel_rfl
  have k3 : keyB words ⟨#[50, 120]⟩ = false := by kernel_rfl
  have hn : ∀ W, Env W → Calls Tryd.prog 22 #[.int .i64 (-12)] W fun e w' => e = .returned (.string ⟨#[45, 49, 50]⟩) ∧ Below W.heap.size W w' := fun W h => by
    have := number_any (-12) W (by omega) (by omega) h.pow
    rw [show (⟨(Lib.itoa (-12)).toArray⟩ : ByteArray) = ⟨#[45, 49, 50]⟩ by kernel_rfl] at this
    exact this
  have B := Below.refl w.heap.size w
  go_enter Tryd.func10, Tryd.ntmps10
  go_wp2_with (first
    | (go_at_call 18; refine (hq _ E).mono ?_; rintro e W ⟨rfl, hb⟩; replace E := E.below hb; replace B := B.trans (hb.mono B.size); clear hb)
    | (go_at_call 23; refine (hp _ E).mono ?_; rintro e W ⟨rfl, hb⟩; replace E := E.below hb; replace B := B.trans (hb.mono B.size); clear hb)
    | (go_at_call 11; refine (key_env E _ (by decide)).mono ?_; rintro e W ⟨rfl, hb⟩; replace E := E.below hb; replace B := B.trans (hb.mono B.size); clear hb)
    | (go_at_call 22; refine (hn _ E).mono ?_; rintro e W ⟨rfl, hb⟩; replace E := E.below hb; replace B := B.trans (hb.mono B.size); clear hb))
  go_ret
  exact ⟨rfl, B⟩
end Go.Proofs.YtfdmeinfjfmnlaaDoor
