/- Contracts of the package's and of the document's New. -/
import Derived.Test.YtkmnmddengnjlaaWWd
namespace Go.Proofs.Ytkmnmddengnjlaa
open Go Go.RowKit

theorem Own.bin {B : Nat} {v : Value} {l : List UInt8} {w : World} (h : Own B v l w) : ∃ (a1 : Option Addr) (c1 : Nat), v = .slice a1 l.length c1 ∧ (a1 = none → c1 = 0) ∧ l.length ≤ c1 ∧ c1 ≤ 9223372036854775807 ∧ (a1 = none ∨ ∃ b off, a1 = some ⟨b, off, none⟩) ∧ BIn B w.heap.size a1 l w := by
  obtain ⟨a1, c1, rfl, h1, h2, h3, h4⟩ := h.fits
  rcases h.2 with ⟨hv, h0⟩ | ⟨g, cap, cur, hv, hB, hg, _, hc, _⟩
  · injection hv with e1 e2 e3
    subst e1 e3
    obtain rfl : l = [] := List.length_eq_zero_iff.1 h0
    exact ⟨none, 0, rfl, h1, h2, h3, .inl rfl, BIn.nil (Nat.le_refl _)⟩
  · injection hv with e1 e2 e3
    subst e1
    refine ⟨_, c1, rfl, h1, h2, h3, .inr ⟨g, 0, rfl⟩, Nat.le_refl _, fun i hi => ?_⟩
    obtain ⟨b, off, k1, k2, k3⟩ := h4 i hi
    refine ⟨b, off, k1, ?_, k2, k3⟩
    injection k1 with k1
    injection k1 with k1
    omega
/-- What New returns. -/
def NewA (l : List UInt8) (w : World) (en : Ending) (w' : World) : Prop := ∃ R, en = .returned (.pointer (some ⟨R, 0, none⟩)) ∧ w.heap.size ≤ R ∧ Rd l 0 w.heap.size R w' ∧ Below w.heap.size w w'
set_option maxHeartbeats 4000000 in
theorem new_any {a0 : Option Addr} {l : List UInt8} {cap : Nat} {w : World} (hl : l.length ≤ 1000000) (hS : Src a0 l cap w) :
    Calls Try.prog 19 #[.slice a0 (l.length : Nat) cap] w (NewA l w) := by
  have hC := Lib.hid (clone_own a0 l cap w hl hS.nil hS.bytes)
  go_enter Try.func19, Try.ntmps19
  go_wp2_with (go_at_call 36; refine hC.out.mono ?_)
  rintro en w1 ⟨v, rfl, hown, hb⟩
  obtain ⟨a1, c1, rfl, h1, h2, h3, h4, h5⟩ := hown.bin
  have hb2 : Below w1.heap.size w1 (w1.alloc (.cells #[.slice a1 (l.length : Nat) c1, .int .i64 0] 62)) := (Below.refl _ _).alloc (Nat.le_refl _) _
  have hR : RdR a1 c1 l 0 w.heap.size w1.heap.size (w1.alloc (.cells #[.slice a1 (l.length : Nat) c1, .int .i64 0] 62)) :=
    ⟨heap_alloc_new w1 _, h1, h2, h3, hl, h4, h5.kept (X := w1.heap.size) (Kept.of_below hb2) (.inr (Nat.le_refl _)), by omega⟩
  have hrd := hR.rd
  replace h5 := Lib.hid h5
  replace hrd := Lib.hid hrd
  clear hR
  go_wp2
  go_ret
  exact ⟨_, rfl, hb.size, hrd.out, hb.trans (hb2.mono hb.size)⟩
/-- The document's reader in block Q: all bytes, how many are read, the error. -/
structure RqR (a : Option Addr) (c : Nat) (b : List UInt8) (at_ : Nat) (e : Int) (hi Q : Nat) (w : World) : Prop where
  here : w.heap[Q]? = some (.cells #[.slice a (b.length : Nat) c, .int .i64 (at_ : Nat), .int .i64 e] 50 (0, 0))
  le : b.length ≤ c
  small : b.length ≤ 1000000
  at_le : at_ ≤ b.length
  bytes : BIn 0 hi a b w
  hiQ : hi ≤ Q
  err : 0 ≤ e ∧ e ≤ 1000
def Rq (l : List UInt8) (e : Int) (hi Q : Nat) (w : World) : Prop := ∃ a c b at_, RqR a c b at_ e hi Q w ∧ (e = 0 → b.drop at_ = l)
theorem RqR.lt {a : Option Addr} {c : Nat} {b : List UInt8} {at_ : Nat} {e : Int} {hi Q : Nat} {w : World} (h : RqR a c b at_ e hi Q w) : Q < w.heap.size := (Array.getElem?_eq_some_iff.1 h.here).1
theorem RqR.c0 {a : Option Addr} {c : Nat} {b : List UInt8} {at_ : Nat} {e : Int} {hi Q : Nat} {w : World} (h : RqR a c b at_ e hi Q w) : w.cell? ⟨Q, 0, none⟩ = some (.slice a (b.length : Nat) c) := by rw [Lib.cell_of_heap h.here]; rfl
theorem RqR.c1 {a : Option Addr} {c : Nat} {b : List UInt8} {at_ : Nat} {e : Int} {hi Q : Nat} {w : World} (h : RqR a c b at_ e hi Q w) : w.cell? ⟨Q, 1, none⟩ = some (.int .i64 (at_ : Nat)) := by rw [Lib.cell_of_heap h.here]; rfl
theorem RqR.c2 {a : Option Addr} {c : Nat} {b : List UInt8} {at_ : Nat} {e : Int} {hi Q : Nat} {w : World} (h : RqR a c b at_ e hi Q w) : w.cell? ⟨Q, 2, none⟩ = some (.int .i64 e) := by rw [Lib.cell_of_heap h.here]; rfl
theorem RqR.f {a : Option Addr} {c : Nat} {b : List UInt8} {at_ : Nat} {e : Int} {hi Q : Nat} {w : World} (h : RqR a c b at_ e hi Q w) (i : Nat) : w.frozen? ⟨Q, i, none⟩ = false := Lib.frozen_of_heap h.here i
theorem RqR.kept {a : Option Addr} {c : Nat} {b : List UInt8} {at_ : Nat} {e : Int} {hi Q X : Nat} {w w' : World} (h : RqR a c b at_ e hi Q w) (k : Kept X w w') (hX : hi ≤ X) (hQ : X ≠ Q) : RqR a c b at_ e hi Q w' :=
  ⟨(k.block Q h.lt (fun e => hQ e.symm)).trans h.here, h.le, h.small, h.at_le, h.bytes.kept k (.inr hX), h.hiQ, h.err⟩
theorem Rq.kept {l : List UInt8} {e : Int} {hi Q X : Nat} {w w' : World} (h : Rq l e hi Q w) (k : Kept X w w') (hX : hi ≤ X) (hQ : X ≠ Q) : Rq l e hi Q w' := by
  obtain ⟨a, c, b, i, h, hl⟩ := h
  exact ⟨a, c, b, i, h.kept k hX hQ, hl⟩
theorem RqR.drew {a : Option Addr} {c : Nat} {b : List UInt8} {at_ : Nat} {e : Int} {hi Q : Nat} {w : World} (h : RqR a c b at_ e hi Q w) : RqR a c b at_ e hi Q w.drew :=
  ⟨h.here, h.le, h.small, h.at_le, ⟨h.bytes.top, h.bytes.at_⟩, h.hiQ, h.err⟩
theorem RqR.setErr {a : Option Addr} {c : Nat} {b : List UInt8} {at_ : Nat} {e : Int} {hi Q : Nat} {w : World} (h : RqR a c b at_ e hi Q w) (x : Int) (hx : 0 ≤ x ∧ x ≤ 1000) : RqR a c b at_ x hi Q (w.setCell ⟨Q, 2, none⟩ (.int .i64 x)) := by
  refine ⟨?_, h.le, h.small, h.at_le, h.bytes.kept ((Kept.refl Q w).setCell 2 _) (.inr h.hiQ), h.hiQ, hx⟩
  show (w.heap.modify Q _)[Q]? = _
  rw [Array.getElem?_modify, if_pos rfl, h.here]
  rfl
theorem RqR.setAt {a : Option Addr} {c : Nat} {b : List UInt8} {at_ : Nat} {e : Int} {hi Q : Nat} {w : World} (h : RqR a c b at_ e hi Q w) (n : Nat) (hn : n ≤ b.length) : RqR a c b n e hi Q (w.setCell ⟨Q, 1, none⟩ (.int .i64 (n : Nat))) := by
  refine ⟨?_, h.le, h.small, hn, h.bytes.kept ((Kept.refl Q w).setCell 1 _) (.inr h.hiQ), h.hiQ, h.err⟩
  show (w.heap.modify Q _)[Q]? = _
  rw [Array.getElem?_modify, if_pos rfl, h.here]
  rfl
theorem RqR.rq {a : Option Addr} {c : Nat} {b : List UInt8} {at_ : Nat} {e : Int} {hi Q : Nat} {w : World} (h : RqR a c b at_ e hi Q w) : Rq (b.drop at_) e hi Q w := ⟨a, c, b, at_, h, fun _ => rfl⟩
theorem RqR.rq' {a : Option Addr} {c : Nat} {b l : List UInt8} {at_ : Nat} {e : Int} {hi Q : Nat} {w : World} (h : RqR a c b at_ e hi Q w) (he : e ≠ 0) : Rq l e hi Q w := ⟨a, c, b, at_, h, fun h => absurd h he⟩
def NewQ (l : List UInt8) (hi : Nat) (w : World) (en : Ending) (w' : World) : Prop := en = .returned (.pointer (some ⟨w.heap.size, 0, none⟩)) ∧ Rq l 0 hi w.heap.size w' ∧ Below w.heap.size w w'
theorem refNew_any {a0 : Option Addr} {l : List UInt8} {cap hi : Nat} {w : World} (hl : l.length ≤ 1000000) (hc : l.length ≤ cap) (hB : BIn 0 hi a0 l w) :
    Calls Try.prog 20 #[.slice a0 (l.length : Nat) cap] w (NewQ l hi w) := by
  have hb2 : Below w.heap.size w (w.alloc (.cells #[.slice a0 (l.length : Nat) cap, .int .i64 0, .int .i64 0] 50)) := (Below.refl _ _).alloc (Nat.le_refl _) _
  have hR : RqR a0 cap l 0 0 hi w.heap.size (w.alloc (.cells #[.slice a0 (l.length : Nat) cap, .int .i64 0, .int .i64 0] 50)) :=
    ⟨heap_alloc_new w _, hc, hl, Nat.zero_le _, hB.kept (X := w.heap.size) (Kept.of_below hb2) (.inr hB.top), hB.top, by omega⟩
  have hrd := Lib.hid hR.rq
  clear hR
  go_enter Try.func20, Try.ntmps20
  go_wp2
  go_ret
  exact ⟨rfl, hrd.out, hb2⟩
end Go.Proofs.Ytkmnmddengnjlaa
