/- A valid subject is small: plain laws. -/
import Derived.Test.YtcbnefeedoabeaaGreatDoorPa
import Derived.Test.YtcbnefeedoabeaaGreatDoorPc
/- A valid subject is small: plain laws. -/
namespace Go.Proofs.YtcbnefeedoabeaaGreatDoor
open Go Go.RowKit

theorem checkE_kind {x : Val} (h : x.kind < 1 ∨ 5 < x.kind) : checkE x ≠ 0 := by
  unfold checkE
  rw [if_pos h]
  decide
/-- What is read is small. -/
structure TinyA (a : Attr) : Prop where
  name : a.name.size ≤ 32
  kind : -9223372036854775808 ≤ a.val.kind ∧ a.val.kind ≤ 9223372036854775807
  num : -9223372036854775808 ≤ a.val.num ∧ a.val.num ≤ 9223372036854775807
  text : a.val.text.size ≤ 200
  list : a.val.list.length ≤ 20
  each : ∀ s ∈ a.val.list, s.size ≤ 200
structure TinyC (x : Ctx) : Prop where
  kind : x.kind.size ≤ 32
  key : x.key.size ≤ 200
  attrs : x.attrs.length ≤ 20
  each : ∀ a ∈ x.attrs, TinyA a
theorem TinyA.fit {a : Attr} (h : TinyA a) : FitA a := ⟨by have := h.name; omega, by have := h.text; omega, by have := h.list; omega, fun s hs => by have := h.each s hs; omega⟩
theorem TinyC.fit {x : Ctx} (h : TinyC x) : FitC x := ⟨by have := h.kind; omega, by have := h.key; omega, by have := h.attrs; omega, fun a ha => (h.each a ha).fit⟩
theorem parse_size (s : ByteArray) (h : (parseP s).2 = 0) : s.size ≤ 14 := by
  have hl : s.data.toList.length = s.size := rfl
  have ht : s.data.toList.length ≤ (Lib.trimPrefix s.data.toList [45]).length + 1 := by
    unfold Lib.trimPrefix
    split
    · rw [List.length_drop]
      simp
      omega
    · omega
  unfold parseP at h
  split at h
  · exact absurd h (by decide)
  · rename_i h1
    split at h
    · exact absurd h (by decide)
    · rename_i h2
      have ha : (Lib.trimPrefix s.data.toList [45]).all isD = true := by
        cases hq : (Lib.trimPrefix s.data.toList [45]).all isD with
        | true => rfl
        | false => exact absurd (.inr (.inr hq)) h1
      by_cases h3 : 13 < (Lib.trimPrefix s.data.toList [45]).length
      · by_cases h4 : (Lib.trimPrefix s.data.toList [45]).head? = some 48
        · cases hz : isZ s with
          | true =>
            have h5 : s.data.toList = [48] := by simpa [isZ] using hz
            rw [h5] at hl
            simp at hl
            omega
          | false => exact absurd (.inr (.inl ⟨h4, hz⟩)) h1
        · exact absurd (valN_long _ ha h3 h4) h2
      · omega
theorem seg_size (s : ByteArray) (k : Nat) : (segAt s k).size = min (nextDot s (startAt s k)) s.size - startAt s k := by
  unfold segAt
  rw [ByteArray.size_extract]
theorem ver_size (s : ByteArray) (h : verOk s) : s.size ≤ 50 := by
  obtain ⟨p0, p1, p2⟩ := h
  have a0 := parse_size _ p0.1
  have a1 := parse_size _ p1.1
  have a2 := parse_size _ p2.1
  rw [seg_size] at a0 a1 a2
  have b0 := p0.2.2.2.1 (by omega)
  have b1 := p1.2.2.2.1 (by omega)
  have b2 : ¬ nextDot s (startAt s 2) < s.size := fun h => by have := p2.2.2.2.2 h; omega
  have e0 : startAt s 0 = 0 := rfl
  have e1 : startAt s 1 = nextDot s (startAt s 0) + 1 := rfl
  have e2 : startAt s 2 = nextDot s (startAt s 1) + 1 := rfl
  omega
theorem bytes_empty {s : ByteArray} (h : s.size = 0) : s = ⟨#[]⟩ := by
  obtain ⟨d⟩ := s
  have : d = #[] := Array.eq_empty_of_size_eq_zero h
  rw [this]
/-- A valid value: its own fields, and what it is. -/
theorem val_cases {v : Val} (h : checkE v = 0) : ((v.kind = 1 ∨ v.kind = 2) ∧ v.text = ⟨#[]⟩ ∧ v.list = [] ∧ -1099511627776 ≤ v.num ∧ v.num ≤ 1099511627776) ∨ ((v.kind = 3 ∨ v.kind = 4) ∧ v.num = 0 ∧ v.list = [] ∧ v.text.size ≤ 200) ∨ (v.kind = 5 ∧ v.num = 0 ∧ v.text = ⟨#[]⟩ ∧ v.list.length ≤ 20 ∧ ∀ s ∈ v.list, s.size ≤ 200) := by
  have hk : ¬ (v.kind < 1 ∨ 5 < v.kind) := fun hk => checkE_kind hk h
  unfold checkE at h
  rw [if_neg hk] at h
  by_cases hs : shapeP v
  · rw [if_neg (by simpa using hs)] at h
    obtain ⟨s1, s2, s3⟩ := hs
    by_cases e1 : v.kind = 1
    · rw [if_pos e1] at h
      have h2 : v.num = 0 ∨ v.num = 1 := by
        by_cases h2 : v.num = 0 ∨ v.num = 1
        · exact h2
        · rw [if_neg h2] at h
          exact absurd h (by decide)
      exact .inl ⟨.inl e1, bytes_empty (by omega), List.eq_nil_of_length_eq_zero (by omega), by omega, by omega⟩
    · rw [if_neg e1] at h
      by_cases e2 : v.kind = 2
      · rw [if_pos e2] at h
        have h2 : ¬ (v.num < -1099511627776 ∨ 1099511627776 < v.num) := fun h2 => by
          rw [if_pos h2] at h
          exact absurd h (by decide)
        exact .inl ⟨.inr e2, bytes_empty (by omega), List.eq_nil_of_length_eq_zero (by omega), by omega, by omega⟩
      · rw [if_neg e2] at h
        by_cases e3 : v.kind = 3
        · rw [if_pos e3] at h
          have h2 : validB v.text = true := by
            by_cases h2 : validB v.text = true
            · exact h2
            · rw [if_neg h2] at h
              exact absurd h (by decide)
          have h3 : v.text.size ≤ 200 := by
            by_cases h3 : v.text.size ≤ 200
            · exact h3
            · rw [validB_long h3] at h2
              cases h2
          exact .inr (.inl ⟨.inl e3, by omega, List.eq_nil_of_length_eq_zero (by omega), h3⟩)
        · rw [if_neg e3] at h
          by_cases e4 : v.kind = 4
          · rw [if_pos e4] at h
            have h2 : verOk v.text := by
              by_cases h2 : verOk v.text
              · exact h2
              · rw [if_neg h2] at h
                exact absurd h (by decide)
            have := ver_size _ h2
            exact .inr (.inl ⟨.inr e4, by omega, List.eq_nil_of_length_eq_zero (by omega), by omega⟩)
          · rw [if_neg e4] at h
            unfold listE at h
            have h2 : ¬ 20 < v.list.length := fun h2 => by
              rw [if_pos h2] at h
              exact absurd h (by decide)
            rw [if_neg h2] at h
            have h3 : v.list.all validB = true := by
              by_cases h3 : v.list.all validB = true
              · exact h3
              · rw [if_neg h3] at h
                exact absurd h (by decide)
            refine .inr (.inr ⟨by omega, by omega, bytes_empty (by omega), by omega, fun s hs => ?_⟩)
            have h4 := List.all_eq_true.1 h3 s hs
            by_cases h5 : s.size ≤ 200
            · exact h5
            · rw [validB_long h5] at h4
              cases h4
  · rw [if_pos hs] at h
    exact absurd h (by decide)
theorem tiny_of {a : Attr} (h : checkE a.val = 0) (hn : a.name.size ≤ 32) : TinyA a := by
  have hz : (⟨#[]⟩ : ByteArray).size = 0 := rfl
  rcases val_cases h with ⟨h1, h2, h3, h4, h5⟩ | ⟨h1, h2, h3, h4⟩ | ⟨h1, h2, h3, h4, h5⟩
  · exact ⟨hn, by omega, by omega, by rw [h2]; omega, by rw [h3]; exact Nat.zero_le _, fun s hs => by rw [h3] at hs; simp at hs⟩
  · exact ⟨hn, by omega, by omega, h4, by rw [h3]; exact Nat.zero_le _, fun s hs => by rw [h3] at hs; simp at hs⟩
  · exact ⟨hn, by omega, by omega, by rw [h3]; omega, h4, h5⟩
theorem attrsGo_all : ∀ (l : List Attr) (b : ByteArray), attrsGo b l = 0 → ∀ a ∈ l, a.name.size ≤ 32 ∧ checkE a.val = 0
  | [], _, _, a, ha => by simp at ha
  | x :: t, b, h, a, ha => by
    unfold attrsGo at h
    split at h
    · rename_i hn
      split at h
      · exact absurd h (by decide)
      · split at h
        · rename_i hc
          rcases List.mem_cons.1 ha with rfl | ha
          · exact ⟨(nameB_size hn).2, hc⟩
          · exact attrsGo_all t _ h a ha
        · rename_i hc
          exact absurd h hc
    · exact absurd h (by decide)
theorem ctxE_all {b : ByteArray} {x : Ctx} (h : ctxE b x = 0) : TinyC x ∧ ∀ a ∈ x.attrs, checkE a.val = 0 := by
  unfold ctxE at h
  split at h
  · rename_i hk
    split at h
    · exact absurd h (by decide)
    · split at h
      · exact absurd h (by decide)
      · rename_i hv
        unfold attrsE at h
        split at h
        · exact absurd h (by decide)
        · rename_i hl
          have ha := attrsGo_all _ _ h
          have hv2 : validB x.key = true := by
            cases hq : validB x.key with
            | true => rfl
            | false => exact absurd (.inr hq) hv
          have hs : x.key.size ≤ 200 := by
            by_cases h5 : x.key.size ≤ 200
            · exact h5
            · rw [validB_long h5] at hv2
              cases hv2
          exact ⟨⟨(keyB_size hk).2, hs, by omega, fun a h => tiny_of (ha a h).2 (ha a h).1⟩, fun a h => (ha a h).2⟩
  · exact absurd h (by decide)
theorem subjGo_all : ∀ (l : List Ctx) (b : ByteArray), subjGo b l = 0 → ∀ x ∈ l, TinyC x ∧ ∀ a ∈ x.attrs, checkE a.val = 0
  | [], _, _, a, ha => by simp at ha
  | x :: t, b, h, y, hy => by
    unfold subjGo at h
    split at h
    · rename_i h0
      rcases List.mem_cons.1 hy with rfl | hy
      · exact ctxE_all h0
      · exact subjGo_all t _ h y hy
    · rename_i h0
      exact absurd h h0
theorem valid_tiny {l : List Ctx} (h : subjE l = 0) : l.length ≤ 4 ∧ ∀ x ∈ l, TinyC x := by
  unfold subjE at h
  split at h
  · exact absurd h (by decide)
  · rename_i hl
    exact ⟨by omega, fun x hx => (subjGo_all _ _ h x hx).1⟩
end Go.Proofs.YtcbnefeedoabeaaGreatDoor
