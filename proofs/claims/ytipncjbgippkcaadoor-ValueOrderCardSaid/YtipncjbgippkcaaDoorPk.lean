/- The order of the values of one kind. -/
import Derived.Test.YtipncjbgippkcaaDoorLawVer
import Derived.Test.YtipncjbgippkcaaDoorPc
import Derived.Test.YtipncjbgippkcaaDoorPf
/- The order of the values of one kind. -/
namespace Go.Proofs.YtipncjbgippkcaaDoor
open Go Go.RowKit

theorem bl_irrefl : ∀ a : List UInt8, Op.bytesLess a a = false
  | [] => rfl
  | a :: s => by
    simp [Op.bytesLess, bl_irrefl s]
theorem bl_trans : ∀ a b c : List UInt8, Op.bytesLess a b = true → Op.bytesLess b c = true → Op.bytesLess a c = true
  | [], b, [], _, h2 => by cases b <;> simp [Op.bytesLess] at h2
  | [], b, c :: u, _, _ => rfl
  | a :: s, [], _, h1, _ => by simp [Op.bytesLess] at h1
  | a :: s, b :: t, [], _, h2 => by simp [Op.bytesLess] at h2
  | a :: s, b :: t, c :: u, h1, h2 => by
    simp only [Op.bytesLess, Bool.or_eq_true, Bool.and_eq_true, decide_eq_true_eq, beq_iff_eq] at h1 h2 ⊢
    rcases h1 with h1 | ⟨rfl, h1⟩
    · rcases h2 with h2 | ⟨rfl, h2⟩
      · exact .inl (UInt8.lt_trans h1 h2)
      · exact .inl h1
    · rcases h2 with h2 | ⟨rfl, h2⟩
      · exact .inl h2
      · exact .inr ⟨rfl, bl_trans s t u h1 h2⟩
theorem bl_total : ∀ a b : List UInt8, Op.bytesLess a b = true ∨ a = b ∨ Op.bytesLess b a = true
  | [], [] => .inr (.inl rfl)
  | [], _ :: _ => .inl rfl
  | _ :: _, [] => .inr (.inr rfl)
  | a :: s, b :: t => by
    simp only [Op.bytesLess, Bool.or_eq_true, Bool.and_eq_true, decide_eq_true_eq, beq_iff_eq]
    rcases UInt8.lt_or_lt_of_ne (a := a) (b := b) |> fun f => Classical.em (a = b) |>.symm.imp f id with (h | h) | rfl
    · exact .inl (.inl h)
    · exact .inr (.inr (.inl h))
    · rcases bl_total s t with h | rfl | h
      · exact .inl (.inr ⟨rfl, h⟩)
      · exact .inr (.inl rfl)
      · exact .inr (.inr (.inr ⟨rfl, h⟩))
/-- What an order's three-way comparison keeps. -/
structure Tri {α : Type} (c : α → α → Int) (x y z : α) (eq : Bool) : Prop where
  neg : c y x = -(c x y)
  zero : decide (c x y = 0) = eq
  trans : c x y ≤ 0 → c y z ≤ 0 → c x z ≤ 0 ∧ (c x z < 0 ∨ c x y = 0 ∧ c y z = 0)
theorem tri_text (x y z : ByteArray) : Tri cmpT x y z (decide (x = y)) := by
  have e : ∀ a b : ByteArray, (a.toList = b.toList) ↔ a = b := fun a b => ⟨fun h => by
    rw [ByteArray.toList_eq, ByteArray.toList_eq] at h
    exact ByteArray.ext (Array.toList_inj.1 h), fun h => by rw [h]⟩
  have lt_neg : ∀ a b : List UInt8, Op.bytesLess a b = true → Op.bytesLess b a = false := fun a b h => by
    cases h2 : Op.bytesLess b a with
    | false => rfl
    | true => have := bl_trans a b a h h2; rw [bl_irrefl] at this; exact this.symm
  have three : ∀ a b : ByteArray, (cmpT a b = -1 ∧ Op.bytesLess a.toList b.toList = true) ∨ (cmpT a b = 0 ∧ a = b) ∨ (cmpT a b = 1 ∧ Op.bytesLess b.toList a.toList = true) := by
    intro a b
    rcases bl_total a.toList b.toList with h | h | h
    · exact .inl ⟨by simp [cmpT, signI, h], h⟩
    · refine .inr (.inl ⟨?_, (e a b).1 h⟩)
      simp [cmpT, signI, h, bl_irrefl]
    · refine .inr (.inr ⟨?_, h⟩)
      have h2 := lt_neg _ _ h
      have h3 : ¬ a.toList = b.toList := fun q => by rw [q, bl_irrefl] at h; cases h
      simp [cmpT, signI, h2, h3]
  refine ⟨?_, ?_, ?_⟩
  · have nn : ∀ a b : ByteArray, Op.bytesLess a.toList b.toList = true → Op.bytesLess b.toList a.toList = true → False := fun a b l m => by
      rw [lt_neg _ _ l] at m; cases m
    have nr : ∀ a : ByteArray, Op.bytesLess a.toList a.toList = true → False := fun a l => by rw [bl_irrefl] at l; cases l
    rcases three x y with ⟨h, l⟩ | ⟨h, q⟩ | ⟨h, l⟩ <;> rcases three y x with ⟨k, m⟩ | ⟨k, r⟩ | ⟨k, m⟩
    · exact (nn _ _ l m).elim
    · exact (nr x (by rw [r] at l; exact l)).elim
    · rw [h, k]; rfl
    · exact (nr x (by rw [← q] at m; exact m)).elim
    · rw [h, k]; rfl
    · exact (nr x (by rw [← q] at m; exact m)).elim
    · rw [h, k]
    · exact (nr x (by rw [r] at l; exact l)).elim
    · exact (nn _ _ m l).elim
  · rcases three x y with ⟨h, l⟩ | ⟨h, rfl⟩ | ⟨h, l⟩
    · have hxy : ¬ x = y := fun q => by rw [q, bl_irrefl] at l; cases l
      simp [h, hxy]
    · simp [h]
    · have hxy : ¬ x = y := fun q => by rw [q, bl_irrefl] at l; cases l
      simp [h, hxy]
  · intro h1 h2
    rcases three x y with ⟨h, l⟩ | ⟨h, rfl⟩ | ⟨h, l⟩
    · have hx : cmpT x z = -1 := by
        rcases three y z with ⟨k, m⟩ | ⟨k, rfl⟩ | ⟨k, m⟩
        · have := bl_trans _ _ _ l m
          simp [cmpT, signI, this]
        · exact h
        · omega
      omega
    · omega
    · omega
theorem tri_num (x y z : Int) : Tri (fun a b : Int => signI (decide (a < b)) (decide (b < a))) x y z (decide (x = y)) := by
  have s : ∀ a b : Int, signI (decide (a < b)) (decide (b < a)) = if a < b then -1 else if b < a then 1 else 0 := by
    intro a b
    simp [signI]
  refine ⟨?_, ?_, ?_⟩
  · rw [s, s]; split <;> split <;> (try split) <;> omega
  · rw [s]
    split
    · rw [decide_eq_false (by omega), decide_eq_false (by omega)]
    · split
      · rw [decide_eq_false (by omega), decide_eq_false (by omega)]
      · rw [decide_eq_true (by omega), decide_eq_true (by omega)]
  · simp only [s]
    split <;> split <;> (try split) <;> (try split) <;> omega
theorem ver_key (s t : ByteArray) (hs : verOk s) (ht : verOk t) : verCmp s t = signI (decide (verN s 0 * 1000000000000 + verN s 1 * 1000000 + verN s 2 < verN t 0 * 1000000000000 + verN t 1 * 1000000 + verN t 2)) (decide (verN t 0 * 1000000000000 + verN t 1 * 1000000 + verN t 2 < verN s 0 * 1000000000000 + verN s 1 * 1000000 + verN s 2)) := by
  obtain ⟨⟨_, a1, a2, _⟩, ⟨_, b1, b2, _⟩, ⟨_, c1, c2, _⟩⟩ := hs
  obtain ⟨⟨_, d1, d2, _⟩, ⟨_, e1, e2, _⟩, ⟨_, f1, f2, _⟩⟩ := ht
  unfold verCmp
  have key : ∀ p q r u v x : Int, (0 ≤ p ∧ p ≤ 999999) → (0 ≤ q ∧ q ≤ 999999) → (0 ≤ r ∧ r ≤ 999999) → (0 ≤ u ∧ u ≤ 999999) → (0 ≤ v ∧ v ≤ 999999) → (0 ≤ x ∧ x ≤ 999999) →
      (if p ≠ u then signI (decide (p < u)) true else if q ≠ v then signI (decide (q < v)) true else if r ≠ x then signI (decide (r < x)) true else 0) = signI (decide (p * 1000000000000 + q * 1000000 + r < u * 1000000000000 + v * 1000000 + x)) (decide (u * 1000000000000 + v * 1000000 + x < p * 1000000000000 + q * 1000000 + r)) := by
    intro p q r u v x hp hq hr hu hv hx
    simp only [signI, decide_eq_true_eq, if_true]
    by_cases h1 : p = u
    · rw [if_neg (by simpa using h1)]
      by_cases h2 : q = v
      · rw [if_neg (by simpa using h2)]
        by_cases h3 : r = x
        · rw [if_neg (by simpa using h3), if_neg (by omega), if_neg (by omega)]
        · rw [if_pos h3]
          by_cases h4 : r < x
          · rw [if_pos h4, if_pos (by omega)]
          · rw [if_neg h4, if_neg (by omega), if_pos (by omega)]
      · rw [if_pos h2]
        by_cases h4 : q < v
        · rw [if_pos h4, if_pos (by omega)]
        · rw [if_neg h4, if_neg (by omega), if_pos (by omega)]
    · rw [if_pos h1]
      by_cases h4 : p < u
      · rw [if_pos h4, if_pos (by omega)]
      · rw [if_neg h4, if_neg (by omega), if_pos (by omega)]
  exact key _ _ _ _ _ _ ⟨a1, a2⟩ ⟨b1, b2⟩ ⟨c1, c2⟩ ⟨d1, d2⟩ ⟨e1, e2⟩ ⟨f1, f2⟩
/-- A value of the three kinds that are ordered. -/
structure Ranked (k : Int) (x : Val) : Prop where
  kind : x.kind = k
  ok : checkE x = 0
  ver : k = 4 → ∃ a b c : Int, ((0 ≤ a ∧ a ≤ 999999) ∧ (0 ≤ b ∧ b ≤ 999999) ∧ (0 ≤ c ∧ c ≤ 999999)) ∧ x.text = verT a b c
theorem ranked_parts {k : Int} {x : Val} (hk : k = 2 ∨ k = 3 ∨ k = 4) (h : Ranked k x) : x.list = [] ∧ (k = 2 → x.text = ⟨#[]⟩) ∧ (k ≠ 2 → x.num = 0) := by
  have hs : shapeP x := by
    have h1 := h.ok
    unfold checkE at h1
    have := h.kind
    rw [if_neg (by omega)] at h1
    apply Classical.byContradiction
    intro hn
    rw [if_pos hn] at h1
    cases h1
  obtain ⟨p1, p2, p3⟩ := hs
  have hkk := h.kind
  refine ⟨?_, fun h2 => ?_, fun h2 => ?_⟩
  · rcases p3 with p3 | p3
    · omega
    · exact List.eq_nil_of_length_eq_zero p3
  · rcases p2 with p2 | p2
    · omega
    · exact text_empty p2
  · rcases p1 with p1 | p1
    · omega
    · exact p1
theorem ranked_cmp {k : Int} {x y : Val} (hk : k = 2 ∨ k = 3 ∨ k = 4) (hx : Ranked k x) (hy : Ranked k y) : cmpP x y = (if k = 2 then signI (decide (x.num < y.num)) (decide (y.num < x.num)) else if k = 3 then cmpT x.text y.text else verCmp x.text y.text, 0) := by
  have h1 := hx.kind
  have h2 := hy.kind
  unfold cmpP
  rw [hx.ok, hy.ok, if_neg (by simp), if_neg (by simp), if_neg (by omega), h1]
  rcases hk with rfl | rfl | rfl <;> simp
theorem ranked_order {k : Int} {x y z : Val} (hk : k = 2 ∨ k = 3 ∨ k = 4) (hx : Ranked k x) (hy : Ranked k y) (hz : Ranked k z) : Tri (fun a b => (cmpP a b).1) x y z (eqV x y) := by
  have c1 := ranked_cmp hk hx hy
  have c2 := ranked_cmp hk hy hx
  have c3 := ranked_cmp hk hy hz
  have c4 := ranked_cmp hk hx hz
  have p1 := ranked_parts hk hx
  have p2 := ranked_parts hk hy
  rcases hk with rfl | rfl | rfl
  · simp only at c1 c2 c3 c4
    have t := tri_num x.num y.num z.num
    have he : eqV x y = decide (x.num = y.num) := by
      unfold eqV
      rw [hx.kind, hy.kind, p1.1, p2.1, p1.2.1 rfl, p2.2.1 rfl]
      simp
    rw [he]
    exact ⟨by simp only [c1, c2]; exact t.neg, by simp only [c1]; exact t.zero, by simp only [c1, c3, c4]; exact t.trans⟩
  · simp at c1 c2 c3 c4
    have t := tri_text x.text y.text z.text
    have he : eqV x y = decide (x.text = y.text) := by
      unfold eqV
      rw [hx.kind, hy.kind, p1.1, p2.1, p1.2.2 (by decide), p2.2.2 (by decide)]
      simp
    rw [he]
    exact ⟨by simp only [c1, c2]; exact t.neg, by simp only [c1]; exact t.zero, by simp only [c1, c3, c4]; exact t.trans⟩
  · simp at c1 c2 c3 c4
    obtain ⟨a, b, c, ⟨ha, hb, hc⟩, e1⟩ := hx.ver rfl
    obtain ⟨a', b', c', ⟨ha', hb', hc'⟩, e2⟩ := hy.ver rfl
    obtain ⟨a'', b'', c'', ⟨ha'', hb'', hc''⟩, e3⟩ := hz.ver rfl
    obtain ⟨o1, n1, n2, n3⟩ := verT_parts a b c ha hb hc
    obtain ⟨o2, m1, m2, m3⟩ := verT_parts a' b' c' ha' hb' hc'
    obtain ⟨o3, l1, l2, l3⟩ := verT_parts a'' b'' c'' ha'' hb'' hc''
    rw [e1, e2, ver_key _ _ o1 o2, n1, n2, n3, m1, m2, m3] at c1
    rw [e1, e2, ver_key _ _ o2 o1, n1, n2, n3, m1, m2, m3] at c2
    rw [e2, e3, ver_key _ _ o2 o3, m1, m2, m3, l1, l2, l3] at c3
    rw [e1, e3, ver_key _ _ o1 o3, n1, n2, n3, l1, l2, l3] at c4
    have t := tri_num (a * 1000000000000 + b * 1000000 + c) (a' * 1000000000000 + b' * 1000000 + c') (a'' * 1000000000000 + b'' * 1000000 + c'')
    have he : eqV x y = decide (a * 1000000000000 + b * 1000000 + c = a' * 1000000000000 + b' * 1000000 + c') := by
      unfold eqV
      rw [hx.kind, hy.kind, p1.1, p2.1, p1.2.2 (by decide), p2.2.2 (by decide), e1, e2]
      simp only [true_and, and_true]
      apply decide_eq_decide.2
      constructor
      · intro h
        rw [h] at n1 n2 n3
        omega
      · intro h
        have h1 : a = a' := by omega
        have h2 : b = b' := by omega
        have h3 : c = c' := by omega
        rw [h1, h2, h3]
    rw [he]
    exact ⟨by simp only [c1, c2]; exact t.neg, by simp only [c1]; exact t.zero, by simp only [c1, c3, c4]; exact t.trans⟩
end Go.Proofs.YtipncjbgippkcaaDoor
