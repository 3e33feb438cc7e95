/- What a reader of the package holds, and contracts of its Fail, Err, End and take. -/
import Derived.Test.YtkmnmddengnjlaaWGroups
import Derived.Deep.QuietTactic
import Derived.BigQuiet
namespace Go.Proofs.Ytkmnmddengnjlaa
open Go Go.RowKit

/-- Of what was there only block C may have turned. -/
structure Kept (C : Nat) (w w' : World) : Prop where
  os : w'.os = w.os
  tape : w'.tape = w.tape
  output : w'.output = w.output
  size : w.heap.size ≤ w'.heap.size
  block : ∀ k, k < w.heap.size → k ≠ C → w'.heap[k]? = w.heap[k]?
theorem Kept.refl (C : Nat) (w : World) : Kept C w w := ⟨rfl, rfl, rfl, Nat.le_refl _, fun _ _ _ => rfl⟩
theorem Kept.trans {C : Nat} {a b c : World} (h : Kept C a b) (k : Kept C b c) : Kept C a c :=
  ⟨k.os.trans h.os, k.tape.trans h.tape, k.output.trans h.output, Nat.le_trans h.size k.size, fun n hn hc => (k.block n (Nat.lt_of_lt_of_le hn h.size) hc).trans (h.block n hn hc)⟩
theorem Kept.of_below {C : Nat} {w w' : World} (h : Below w.heap.size w w') : Kept C w w' := ⟨h.os, h.tape, h.output, h.size, fun k hk _ => h.block k hk⟩
theorem Kept.below {C B : Nat} {w w' : World} (h : Kept C w w') (hC : B ≤ C) (hB : B ≤ w.heap.size) : Below B w w' :=
  ⟨h.os, h.tape, h.output, h.size, fun k hk => h.block k (Nat.lt_of_lt_of_le hk hB) (by omega)⟩
theorem Kept.drew {C : Nat} {w w' : World} (h : Kept C w w') : Kept C w w'.drew := ⟨h.os, h.tape, h.output, h.size, h.block⟩
theorem Kept.drewN {C : Nat} {w w' : World} (h : Kept C w w') (n : Nat) : Kept C w (w'.drewN n) := ⟨h.os, h.tape, h.output, h.size, h.block⟩
theorem Kept.setCell {C : Nat} {w w' : World} (h : Kept C w w') (i : Nat) (v : Value) : Kept C w (w'.setCell ⟨C, i, none⟩ v) :=
  ⟨h.os, h.tape, h.output, by simpa using h.size, fun k hk hc => by rw [Below.heap_setCell _ _ _ _ hc]; exact h.block k hk hc⟩
/-- Bytes that lie in blocks from lo on and below hi. -/
structure BIn (lo hi : Nat) (a : Option Addr) (l : List UInt8) (w : World) : Prop where
  top : hi ≤ w.heap.size
  at_ : ∀ i (h : i < l.length), ∃ (b off : Nat), a = some ⟨b, off, none⟩ ∧ lo ≤ b ∧ b < hi ∧ w.cell? ⟨b, off + i, none⟩ = some (.int .u8 (l[i].toNat : Int))
theorem BIn.are {lo hi : Nat} {a : Option Addr} {l : List UInt8} {w : World} (h : BIn lo hi a l w) : BytesAre a l w := fun i hi => by
  obtain ⟨b, off, h1, h2, h3, h4⟩ := h.at_ i hi
  exact ⟨b, off, h1, Nat.lt_of_lt_of_le h3 h.top, h4⟩
theorem BIn.kept {lo hi X : Nat} {a : Option Addr} {l : List UInt8} {w w' : World} (h : BIn lo hi a l w) (k : Kept X w w') (hX : X < lo ∨ hi ≤ X) : BIn lo hi a l w' := by
  refine ⟨Nat.le_trans h.top k.size, fun i hi => ?_⟩
  obtain ⟨b, off, h1, h2, h3, h4⟩ := h.at_ i hi
  have hb := Nat.lt_of_lt_of_le h3 h.top
  refine ⟨b, off, h1, h2, h3, ?_⟩
  rw [← h4]
  exact World.cell?_of_block (w := w) (k.block b hb (by omega))
theorem BIn.nil {lo hi : Nat} {a : Option Addr} {w : World} (h : hi ≤ w.heap.size) : BIn lo hi a [] w := ⟨h, fun i hi => by simp at hi⟩
theorem BIn.take {lo hi : Nat} {a : Option Addr} {l : List UInt8} {w : World} (h : BIn lo hi a l w) (n : Nat) : BIn lo hi a (l.take n) w := by
  refine ⟨h.top, fun i hi => ?_⟩
  rw [List.length_take] at hi
  obtain ⟨b, off, h1, h2, h3, h4⟩ := h.at_ i (by omega)
  exact ⟨b, off, h1, h2, h3, by rw [List.getElem_take]; exact h4⟩
theorem BIn.drop {lo hi : Nat} {b off : Nat} {l : List UInt8} {w : World} (h : BIn lo hi (some ⟨b, off, none⟩) l w) (n : Nat) : BIn lo hi (some ⟨b, off + n, none⟩) (l.drop n) w := by
  refine ⟨h.top, fun i hi => ?_⟩
  have hi' : n + i < l.length := by rw [List.length_drop] at hi; omega
  obtain ⟨b', off', h1, h2, h3, h4⟩ := h.at_ (n + i) hi'
  cases h1
  exact ⟨b, off + n, rfl, h2, h3, by rw [show (l.drop n)[i] = l[n + i] from by simp, Nat.add_assoc, h4]⟩
theorem BIn.cut {lo hi : Nat} {b off : Nat} {l : List UInt8} {w : World} (h : BIn lo hi (some ⟨b, off, none⟩) l w) (n c : Nat) (hc : l.length ≤ c) :
    BIn lo hi (if c = n then some ⟨b, off, none⟩ else some ⟨b, off + n, none⟩) (l.drop n) w := by
  by_cases e : c = n
  · rw [List.drop_eq_nil_of_le (by omega)]
    exact BIn.nil h.top
  · rw [if_neg e]
    exact h.drop n
/-- The package's reader in block R: the slice that is left, and the error. -/
structure RdR (a : Option Addr) (c : Nat) (l : List UInt8) (e : Int) (lo R : Nat) (w : World) : Prop where
  here : w.heap[R]? = some (.cells #[.slice a (l.length : Nat) c, .int .i64 e] 62 (0, 0))
  nil : a = none → c = 0
  le : l.length ≤ c
  fit : c ≤ 9223372036854775807
  small : l.length ≤ 1000000
  shape : a = none ∨ ∃ b off, a = some ⟨b, off, none⟩
  bytes : BIn lo R a l w
  err : 0 ≤ e ∧ e ≤ 1000
/-- What is left to read is l, unless there is an error. -/
def Rd (l : List UInt8) (e : Int) (lo R : Nat) (w : World) : Prop := ∃ a c l', RdR a c l' e lo R w ∧ (e = 0 → l' = l)
theorem RdR.lt {a : Option Addr} {c : Nat} {l : List UInt8} {e : Int} {lo R : Nat} {w : World} (h : RdR a c l e lo R w) : R < w.heap.size := (Array.getElem?_eq_some_iff.1 h.here).1
theorem RdR.c0 {a : Option Addr} {c : Nat} {l : List UInt8} {e : Int} {lo R : Nat} {w : World} (h : RdR a c l e lo R w) : w.cell? ⟨R, 0, none⟩ = some (.slice a (l.length : Nat) c) := by rw [Lib.cell_of_heap h.here]; rfl
theorem RdR.c1 {a : Option Addr} {c : Nat} {l : List UInt8} {e : Int} {lo R : Nat} {w : World} (h : RdR a c l e lo R w) : w.cell? ⟨R, 1, none⟩ = some (.int .i64 e) := by rw [Lib.cell_of_heap h.here]; rfl
theorem RdR.f {a : Option Addr} {c : Nat} {l : List UInt8} {e : Int} {lo R : Nat} {w : World} (h : RdR a c l e lo R w) (i : Nat) : w.frozen? ⟨R, i, none⟩ = false := Lib.frozen_of_heap h.here i
theorem RdR.kept {a : Option Addr} {c : Nat} {l : List UInt8} {e : Int} {lo R X : Nat} {w w' : World} (h : RdR a c l e lo R w) (k : Kept X w w') (hX : X < lo ∨ R < X) (hR : lo ≤ R) : RdR a c l e lo R w' :=
  ⟨(k.block R h.lt (by omega)).trans h.here, h.nil, h.le, h.fit, h.small, h.shape, h.bytes.kept k (by omega), h.err⟩
theorem Rd.kept {l : List UInt8} {e : Int} {lo R X : Nat} {w w' : World} (h : Rd l e lo R w) (k : Kept X w w') (hX : X < lo ∨ R < X) (hR : lo ≤ R) : Rd l e lo R w' := by
  obtain ⟨a, c, l', h, hl⟩ := h
  exact ⟨a, c, l', h.kept k hX hR, hl⟩
theorem Rd.lt {l : List UInt8} {e : Int} {lo R : Nat} {w : World} (h : Rd l e lo R w) : R < w.heap.size := by
  obtain ⟨a, c, l', h, hl⟩ := h
  exact h.lt
theorem RdR.setErr {a : Option Addr} {c : Nat} {l : List UInt8} {e : Int} {lo R : Nat} {w : World} (h : RdR a c l e lo R w) (x : Int) (hx : 0 ≤ x ∧ x ≤ 1000) : RdR a c l x lo R (w.setCell ⟨R, 1, none⟩ (.int .i64 x)) := by
  refine ⟨?_, h.nil, h.le, h.fit, h.small, h.shape, h.bytes.kept ((Kept.refl R w).setCell 1 _) (.inr (Nat.le_refl _)), hx⟩
  show (w.heap.modify R _)[R]? = _
  rw [Array.getElem?_modify, if_pos rfl, h.here]
  rfl
theorem RdR.setRest {a : Option Addr} {c : Nat} {l : List UInt8} {e : Int} {lo R : Nat} {w : World} (h : RdR a c l e lo R w) (a2 : Option Addr) (l2 : List UInt8) (c2 : Nat) (hn : a2 = none → c2 = 0) (h1 : l2.length ≤ c2) (h2 : c2 ≤ c) (h3 : l2.length ≤ l.length) (hs : a2 = none ∨ ∃ b off, a2 = some ⟨b, off, none⟩) (hb : BIn lo R a2 l2 w) :
    RdR a2 c2 l2 e lo R (w.setCell ⟨R, 0, none⟩ (.slice a2 (l2.length : Nat) c2)) := by
  refine ⟨?_, hn, h1, by have := h.fit; omega, by have := h.small; omega, hs, hb.kept ((Kept.refl R w).setCell 0 _) (.inr (Nat.le_refl _)), h.err⟩
  show (w.heap.modify R _)[R]? = _
  rw [Array.getElem?_modify, if_pos rfl, h.here]
  rfl
theorem failR_err {a : Option Addr} {c : Nat} {l : List UInt8} {e : Int} {lo R : Nat} {w : World} (x : Int) (h : RdR a c l e lo R w) (he : e ≠ 0) :
    Calls Try.prog 44 #[.pointer (some ⟨R, 0, none⟩), .int .i64 x] w fun en w' => en = .returned (.tuple #[]) ∧ w = w' := by
  have c1 := h.c1
  have hb : (e == 0) = false := by simp [he]
  clear h
  go_enter Try.func44, Try.ntmps44
  go_wp2
  go_end0
  exact ⟨rfl, rfl⟩
theorem failR_ok {a : Option Addr} {c : Nat} {l : List UInt8} {lo R : Nat} {w : World} (x : Int) (hx : 0 ≤ x ∧ x ≤ 1000) (h : RdR a c l 0 lo R w) :
    Calls Try.prog 44 #[.pointer (some ⟨R, 0, none⟩), .int .i64 x] w fun en w' => en = .returned (.tuple #[]) ∧ Kept R w w' ∧ RdR a c l x lo R w' := by
  have c1 := h.c1
  have hf := h.f
  have hs := h.setErr x hx
  replace h := Lib.hid h
  go_enter Try.func44, Try.ntmps44
  go_wp2
  go_end0
  exact ⟨rfl, (Kept.refl R w).setCell 1 _, hs⟩
theorem err_any {l : List UInt8} {e : Int} {lo R : Nat} {w : World} (h : Rd l e lo R w) :
    Calls Try.prog 27 #[.pointer (some ⟨R, 0, none⟩)] w fun en w' => en = .returned (.int .i64 e) ∧ w = w' := by
  obtain ⟨a, c, l', h, _⟩ := h
  have c1 := h.c1
  clear h
  go_enter Try.func27, Try.ntmps27
  go_wp2
  go_ret
  exact ⟨rfl, rfl⟩
def endR (l : List UInt8) (e : Int) : Int := if e = 0 ∧ 0 < l.length then 17 else e
theorem end_any {l : List UInt8} {e : Int} {lo R : Nat} {w : World} (h : Rd l e lo R w) :
    Calls Try.prog 23 #[.pointer (some ⟨R, 0, none⟩)] w fun en w' => en = .returned (.int .i64 (endR l e)) ∧ w = w' := by
  obtain ⟨a, c, l', h, hl⟩ := h
  have c0 := h.c0
  have c1 := h.c1
  clear h
  by_cases he : e = 0
  · subst he
    obtain rfl := hl rfl
    by_cases h0 : 0 < l'.length
    · have hr : endR l' 0 = 17 := if_pos ⟨rfl, h0⟩
      rw [hr]
      have h1 : (0 : Int) < (l'.length : Int) := by omega
      clear hr hl
      go_enter Try.func23, Try.ntmps23
      go_wp2
      go_ret
      exact ⟨rfl, rfl⟩
    · have hr : endR l' 0 = 0 := if_neg (fun h => h0 h.2)
      rw [hr]
      have h1 : ¬ (0 : Int) < (l'.length : Int) := by omega
      clear hr hl
      go_enter Try.func23, Try.ntmps23
      go_wp2
      go_ret
      exact ⟨rfl, rfl⟩
  · have hr : endR l e = e := if_neg (fun h => he h.1)
    rw [hr]
    have hb : (e == 0) = false := by simp [he]
    clear hr hl
    go_enter Try.func23, Try.ntmps23
    go_wp2
    go_ret
    exact ⟨rfl, rfl⟩
end Go.Proofs.Ytkmnmddengnjlaa
