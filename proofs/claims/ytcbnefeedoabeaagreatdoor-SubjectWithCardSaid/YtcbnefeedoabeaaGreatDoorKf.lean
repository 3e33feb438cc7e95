/- The contexts of two subjects, joined: plain definitions and laws. -/
import Derived.Test.YtcbnefeedoabeaaGreatDoorPa
import Derived.Lib.Bytealg
/- The contexts of two subjects, joined: plain definitions and laws. -/
namespace Go.Proofs.YtcbnefeedoabeaaGreatDoor
open Go Go.RowKit

theorem bl_irrefl : ∀ a : List UInt8, Op.bytesLess a a = false
  | [] => rfl
  | a :: s => by
    simp [Op.bytesLess, bl_irrefl s]
theorem bl_trans : ∀ a b c : List UInt8, Op.bytesLess a b = true → Op.bytesLess b c = true → Op.bytesLess a c = true
  | [], b, [], _, h2 => by cases b <;> simp [Op.bytesLess] at h2
  | [], b, c :: u, _, _ => rfl
  | a :: s, [], _, h1, _ => by simp [Op.bytesLess] at h1
  | a :: s, b :: t, [], _, h2 => by simp [Op.bytesLess] at h2
  | a :: s, b :: t, c :: u, h1, h2 => by
    simp only [Op.bytesLess, Bool.or_eq_true, Bool.and_eq_true, decide_eq_true_eq, beq_iff_eq] at h1 h2 ⊢
    rcases h1 with h1 | ⟨rfl, h1⟩
    · rcases h2 with h2 | ⟨rfl, h2⟩
      · exact .inl (UInt8.lt_trans h1 h2)
      · exact .inl h1
    · rcases h2 with h2 | ⟨rfl, h2⟩
      · exact .inl h2
      · exact .inr ⟨rfl, bl_trans s t u h1 h2⟩
theorem bl_total : ∀ a b : List UInt8, Op.bytesLess a b = true ∨ a = b ∨ Op.bytesLess b a = true
  | [], [] => .inr (.inl rfl)
  | [], _ :: _ => .inl rfl
  | _ :: _, [] => .inr (.inr rfl)
  | a :: s, b :: t => by
    simp only [Op.bytesLess, Bool.or_eq_true, Bool.and_eq_true, decide_eq_true_eq, beq_iff_eq]
    rcases UInt8.lt_or_lt_of_ne (a := a) (b := b) |> fun f => Classical.em (a = b) |>.symm.imp f id with (h | h) | rfl
    · exact .inl (.inl h)
    · exact .inr (.inr (.inl h))
    · rcases bl_total s t with h | rfl | h
      · exact .inl (.inr ⟨rfl, h⟩)
      · exact .inr (.inl rfl)
      · exact .inr (.inr (.inr ⟨rfl, h⟩))
theorem cmp_lt : ∀ a b : List UInt8, decide (Lib.compareBytes a b < 0) = Op.bytesLess a b
  | [], [] => rfl
  | [], _ :: _ => rfl
  | _ :: _, [] => rfl
  | a :: s, b :: t => by
    unfold Lib.compareBytes Op.bytesLess
    by_cases h1 : a < b
    · simp [h1]
    · by_cases h2 : b < a
      · have h3 : ¬ a = b := fun e => by subst e; exact h1 h2
        simp [h1, h2, h3]
      · have h3 : a = b := by
          rcases UInt8.lt_or_lt_of_ne (a := a) (b := b) |> fun f => Classical.em (a = b) |>.symm.imp f id with (h | h) | h
          · exact absurd h h1
          · exact absurd h h2
          · exact h
        subst h3
        have := cmp_lt s t
        simp [h1, this]
theorem list_inj {s t : ByteArray} (h : s.toList = t.toList) : s = t := by
  rw [ByteArray.toList_eq, ByteArray.toList_eq] at h
  obtain ⟨d⟩ := s
  obtain ⟨e⟩ := t
  have : d = e := Array.toList_inj.1 h
  rw [this]
/-- One kind lies ahead of another. -/
def kl (x y : ByteArray) : Bool := Op.bytesLess x.toList y.toList
theorem kl_irrefl (x : ByteArray) : kl x x = false := bl_irrefl _
theorem kl_trans {x y z : ByteArray} (h : kl x y = true) (h2 : kl y z = true) : kl x z = true := bl_trans _ _ _ h h2
theorem kl_total (x y : ByteArray) : kl x y = true ∨ x = y ∨ kl y x = true := by
  rcases bl_total x.toList y.toList with h | h | h
  · exact .inl h
  · exact .inr (.inl (list_inj h))
  · exact .inr (.inr h)
theorem kl_not {x y : ByteArray} (h : kl x y = true) : kl y x = false := by
  cases h2 : kl y x with
  | false => rfl
  | true =>
    have := kl_trans h h2
    rw [kl_irrefl] at this
    cases this
def insK (c : Ctx) : List Ctx → List Ctx
  | [] => [c]
  | x :: t => if kl x.kind c.kind = true then x :: insK c t else c :: x :: t
def joinL (a b : List Ctx) : List Ctx := b.foldl (fun l c => insK c l) a
def hasKind (k : ByteArray) (l : List Ctx) : Bool := l.any fun x => x.kind.toList == k.toList
def clash (a b : List Ctx) : Bool := a.any fun x => hasKind x.kind b
def joinE (a b : List Ctx) : Int := if subjE a ≠ 0 then subjE a else if subjE b ≠ 0 then subjE b else if clash a b = true then 10 else if 4 < a.length + b.length then 5 else 0
def joinP (a b : List Ctx) : List Ctx × Int := if joinE a b = 0 then (joinL a b, 0) else ([], joinE a b)
/-- The kinds ascend. -/
def Asc (l : List Ctx) : Prop := l.Pairwise fun x y => kl x.kind y.kind = true
theorem insK_perm (c : Ctx) : ∀ l, (insK c l).Perm (c :: l)
  | [] => List.Perm.refl _
  | x :: t => by
    unfold insK
    split
    · exact ((insK_perm c t).cons x).trans (List.Perm.swap c x t)
    · exact List.Perm.refl _
theorem insK_asc (c : Ctx) : ∀ l, Asc l → (∀ x ∈ l, x.kind ≠ c.kind) → Asc (insK c l)
  | [], _, _ => List.pairwise_singleton ..
  | x :: t, h, hd => by
    have h2 := List.pairwise_cons.1 h
    unfold insK
    split
    · rename_i hx
      refine List.pairwise_cons.2 ⟨fun y hy => ?_, insK_asc c t h2.2 fun y hy => hd y (List.mem_cons_of_mem _ hy)⟩
      rcases List.mem_cons.1 ((insK_perm c t).mem_iff.1 hy) with rfl | hy
      · exact hx
      · exact h2.1 y hy
    · rename_i hx
      have hcx : kl c.kind x.kind = true := by
        rcases kl_total c.kind x.kind with h3 | h3 | h3
        · exact h3
        · exact absurd h3.symm (hd x (List.mem_cons_self ..))
        · exact absurd h3 hx
      refine List.pairwise_cons.2 ⟨fun y hy => ?_, h⟩
      rcases List.mem_cons.1 hy with rfl | hy
      · exact hcx
      · exact kl_trans hcx (h2.1 y hy)
theorem asc_ne {x y : Ctx} (h : kl x.kind y.kind = true) : x.kind ≠ y.kind := fun e => by rw [e, kl_irrefl] at h; cases h
theorem joinL_perm : ∀ (b a : List Ctx), (joinL a b).Perm (a ++ b)
  | [], a => by simp [joinL]
  | c :: t, a => by
    have h := joinL_perm t (insK c a)
    exact h.trans (((insK_perm c a).append_right t).trans (by simpa using (List.perm_middle (a := c) (l₁ := a) (l₂ := t)).symm))
theorem joinL_asc : ∀ (b a : List Ctx), Asc a → Asc b → (∀ x ∈ a, ∀ y ∈ b, x.kind ≠ y.kind) → Asc (joinL a b)
  | [], a, h, _, _ => h
  | c :: t, a, h, hb, hd => by
    have h2 := List.pairwise_cons.1 hb
    refine joinL_asc t (insK c a) (insK_asc c a h fun x hx => hd x hx c (List.mem_cons_self ..)) h2.2 fun x hx y hy => ?_
    rcases List.mem_cons.1 ((insK_perm c a).mem_iff.1 hx) with rfl | hx
    · exact asc_ne (h2.1 y hy)
    · exact hd x hx y (List.mem_cons_of_mem _ hy)
/-- Two lists that ascend and hold the same are equal. -/
theorem asc_uniq : ∀ (l m : List Ctx), Asc l → Asc m → l.Perm m → l = m
  | [], m, _, _, h => (List.nil_perm.1 h).symm
  | x :: t, [], _, _, h => by have := h.length_eq; simp at this
  | x :: t, y :: u, hl, hm, h => by
    have h1 := List.pairwise_cons.1 hl
    have h2 := List.pairwise_cons.1 hm
    have hxy : x = y := by
      rcases List.mem_cons.1 (h.mem_iff.1 (List.mem_cons_self ..)) with e | hx
      · exact e
      · rcases List.mem_cons.1 (h.mem_iff.2 (List.mem_cons_self (a := y) (l := u))) with e | hy
        · exact e.symm
        · have e1 := h2.1 x hx
          have e2 := kl_not (h1.1 y hy)
          rw [e1] at e2
          cases e2
    subst hxy
    rw [asc_uniq t u h1.2 h2.2 (List.Perm.cons_inv h)]
theorem leqK_not {x y : ByteArray} (h : leqT x y = false) : kl y x = true := by
  unfold leqT at h
  rw [Bool.or_eq_false_iff] at h
  rcases kl_total y x with h2 | h2 | h2
  · exact h2
  · subst h2
    have := h.2
    simp at this
  · rw [show kl x y = false from h.1] at h2
    cases h2
theorem subjGo_asc : ∀ (l : List Ctx) (b : ByteArray), subjGo b l = 0 → Asc l ∧ ∀ x ∈ l, kl b x.kind = true
  | [], _, _ => ⟨List.Pairwise.nil, fun x hx => by simp at hx⟩
  | c :: t, b, h => by
    unfold subjGo at h
    split at h
    · rename_i h0
      have hb : leqT c.kind b = false := by
        unfold ctxE at h0
        split at h0
        · split at h0
          · exact absurd h0 (by decide)
          · rename_i h1
            exact Bool.eq_false_iff.2 h1
        · exact absurd h0 (by decide)
      have hk := leqK_not hb
      obtain ⟨h1, h2⟩ := subjGo_asc t c.kind h
      refine ⟨List.pairwise_cons.2 ⟨h2, h1⟩, fun x hx => ?_⟩
      rcases List.mem_cons.1 hx with rfl | hx
      · exact hk
      · exact kl_trans hk (h2 x hx)
    · rename_i h0
      exact absurd h h0
theorem valid_asc {l : List Ctx} (h : subjE l = 0) : Asc l ∧ l.length ≤ 4 := by
  unfold subjE at h
  split at h
  · exact absurd h (by decide)
  · rename_i hl
    exact ⟨(subjGo_asc l _ h).1, by omega⟩
theorem clash_no {a b : List Ctx} (h : clash a b = false) : ∀ x ∈ a, ∀ y ∈ b, x.kind ≠ y.kind := fun x hx y hy e => by
  unfold clash at h
  rw [List.any_eq_false] at h
  have h1 := h x hx
  unfold hasKind at h1
  rw [Bool.not_eq_true, List.any_eq_false] at h1
  have h2 := h1 y hy
  rw [e] at h2
  simp at h2
theorem clash_comm (a b : List Ctx) : clash a b = clash b a := by
  have key : ∀ a b : List Ctx, clash a b = true → clash b a = true := fun a b h => by
    unfold clash hasKind at h ⊢
    obtain ⟨x, hx, h1⟩ := List.any_eq_true.1 h
    obtain ⟨y, hy, h2⟩ := List.any_eq_true.1 h1
    refine List.any_eq_true.2 ⟨y, hy, List.any_eq_true.2 ⟨x, hx, ?_⟩⟩
    have h3 : y.kind.toList = x.kind.toList := by simpa using h2
    rw [h3]
    simp
  cases h1 : clash a b with
  | true => exact (key a b h1).symm
  | false =>
    cases h2 : clash b a with
    | false => rfl
    | true => rw [key b a h2] at h1; cases h1
theorem joinL_comm {a b : List Ctx} (ha : Asc a) (hb : Asc b) (h : clash a b = false) : joinL a b = joinL b a := by
  have hd := clash_no h
  refine asc_uniq _ _ (joinL_asc b a ha hb hd) (joinL_asc a b hb ha fun x hx y hy e => hd y hy x hx e.symm) ?_
  exact (joinL_perm b a).trans (List.perm_append_comm.trans (joinL_perm a b).symm)
theorem joinE_ok {a b : List Ctx} (h : joinE a b = 0) : subjE a = 0 ∧ subjE b = 0 ∧ clash a b = false ∧ a.length + b.length ≤ 4 := by
  unfold joinE at h
  split at h
  · rename_i h1
    exact absurd h h1
  · rename_i h1
    split at h
    · rename_i h2
      exact absurd h h2
    · rename_i h2
      split at h
      · exact absurd h (by decide)
      · rename_i h3
        split at h
        · exact absurd h (by decide)
        · rename_i h4
          exact ⟨Classical.not_not.1 h1, Classical.not_not.1 h2, Bool.eq_false_iff.2 h3, by omega⟩
theorem joinE_of {a b : List Ctx} (h1 : subjE a = 0) (h2 : subjE b = 0) (h3 : clash a b = false) (h4 : a.length + b.length ≤ 4) : joinE a b = 0 := by
  unfold joinE
  rw [if_neg (by simp [h1]), if_neg (by simp [h2]), if_neg (by simp [h3]), if_neg (by omega)]
theorem joinE_comm (a b : List Ctx) : joinE a b = 0 ↔ joinE b a = 0 := by
  have key : ∀ a b : List Ctx, joinE a b = 0 → joinE b a = 0 := fun a b h => by
    obtain ⟨h1, h2, h3, h4⟩ := joinE_ok h
    exact joinE_of h2 h1 (by rw [clash_comm]; exact h3) (by omega)
  exact ⟨key a b, key b a⟩
theorem join_same {a b : List Ctx} (h : joinE a b = 0) : joinL a b = joinL b a := by
  obtain ⟨h1, h2, h3, _⟩ := joinE_ok h
  exact joinL_comm (valid_asc h1).1 (valid_asc h2).1 h3
end Go.Proofs.YtcbnefeedoabeaaGreatDoor
