/- How a value among the arguments is opened; each size within the reach. -/
import Derived.Test.YtcbnefeedoabeaaGreatDoorPj
import Derived.Test.YtcbnefeedoabeaaGreatDoorPc
/- How a value among the arguments is opened; each size within the reach. -/
namespace Go.Proofs.YtcbnefeedoabeaaGreatDoor
open Go Go.RowKit Go.ChangeShapes Go.WideShapes Go.ChangeAt Go.Lib

variable {H : Type} {enc : TypeId × Value → H} {W : World}
set_option maxRecDepth 100000 in
theorem open_valueA {base : Nat} {v : Value} {d : DataW H} {ps : List MemPlace} (hval : Value.okWide Tryz.prog W .any base 41 v)
    (h : DataW.Trod enc Tryz.prog W 0 (fun _ => true) true 41 v d ps) (hr : Reach 41 d) :
    ∃ (x : Val) (p : Option Addr) (c : Nat), v = x.agg p c ∧ ListP (fun _ => True) p c x.list W ∧ x.text.size ≤ 140737488351232 ∧ ∀ s ∈ x.list, s.size ≤ 140737488351232 := by
  obtain ⟨cs, rfl, hsz⟩ := okWide_struct Tryz.underlying41 hval
  obtain ⟨fuel, hf⟩ := h
  obtain ⟨x, p, c, hc, hL, ht, -, he⟩ := open_value5 hf hr
  obtain ⟨cl⟩ := cs
  have hcl : cl = [.int .i64 x.kind, .int .i64 x.num, .string x.text, .slice p (x.list.length : Nat) c] := hc
  subst hcl
  exact ⟨x, p, c, rfl, hL, ht, he⟩
end Go.Proofs.YtcbnefeedoabeaaGreatDoor
