/- The source form of a valid value is read as the value: plain laws, of no program. -/
import Derived.Test.YtmijfcdmnibnpaaGreatDoorPa
import Derived.Test.YtmijfcdmnibnpaaGreatDoorPc
import Derived.Test.YtmijfcdmnibnpaaGreatDoorPe
namespace Go.Proofs.YtmijfcdmnibnpaaGreatDoor
open Go Go.RowKit

/-- What follows a text in the source form of a list. -/
def tailL : List ByteArray → List UInt8
  | [] => [93]
  | t :: ts => 44 :: 32 :: (quoteL t.data.toList ++ tailL ts)
theorem unqP_quote (t : ByteArray) (hv : validB t = true) : unqP (quoteB t) = (t, 0) := by
  have h := unqV_quote t hv
  rw [unqV_eq] at h
  change Value.tuple #[.string (unqP (quoteB t)).1, .int .i64 (unqP (quoteB t)).2] = strE t.data.toList 0 at h
  unfold strE at h
  injection h with h
  have e1 := congrArg (fun a : Array Value => a[0]?) h
  have e2 := congrArg (fun a : Array Value => a[1]?) h
  simp at e1 e2
  exact Prod.ext e1 e2
theorem endL_quote (t : ByteArray) (r : List UInt8) : endL ((quoteL t.data.toList ++ r).drop 1) = some ((escL t.data.toList).length + 1) := by
  have h : (quoteL t.data.toList ++ r).drop 1 = escL t.data.toList ++ 34 :: r := by simp [quoteL]
  rw [h]
  exact endL_unS _ [] _ r (unS_escL t.data.toList [])
theorem elemsF_src : ∀ (ts : List ByteArray) (t : ByteArray) (f : Nat) (r : ByteArray), validB t = true → ts.all validB = true → r.data.toList = quoteL t.data.toList ++ tailL ts → r.size ≤ f → elemsF f r = some (t :: ts)
  | ts, t, f, r, ht, hts, hr, hf => by
    have hd : endL (r.data.toList.drop 1) = some ((escL t.data.toList).length + 1) := by rw [hr]; exact endL_quote t _
    have hrl : r.data.toList.length = r.size := rfl
    have hql : (quoteL t.data.toList).length = (escL t.data.toList).length + 1 + 1 := by simp [quoteL]
    have hx : r.extract 0 ((escL t.data.toList).length + 1 + 1) = quoteB t := by
      apply ByteArray.ext
      apply Array.toList_inj.1
      rw [Lib.extract_data, hr, ← hql]
      show ((quoteL t.data.toList ++ tailL ts).drop 0).take ((quoteL t.data.toList).length - 0) = (quoteL t.data.toList)
      simp
    have hy : (r.extract ((escL t.data.toList).length + 1 + 1) r.size).data.toList = tailL ts := by
      rw [Lib.extract_data, List.take_of_length_le (by rw [List.length_drop]; omega), hr, ← hql]
      exact List.drop_left' rfl
    have hu : (unqP (r.extract 0 ((escL t.data.toList).length + 1 + 1))).2 = 0 := by rw [hx, unqP_quote t ht]
    have hu1 : (unqP (r.extract 0 ((escL t.data.toList).length + 1 + 1))).1 = t := by rw [hx, unqP_quote t ht]
    match ts, hts, hy with
    | [], _, hy =>
      have he : r.extract ((escL t.data.toList).length + 1 + 1) r.size = ⟨#[93]⟩ := by
        apply ByteArray.ext
        apply Array.toList_inj.1
        rw [hy]
        rfl
      rw [elemsF_last f r _ hf hd hu he, hu1]
    | t2 :: ts2, hts, hy =>
      have hts2 : validB t2 = true ∧ ts2.all validB = true := by simpa using hts
      have hne : r.extract ((escL t.data.toList).length + 1 + 1) r.size ≠ ⟨#[93]⟩ := by
        intro e
        rw [e] at hy
        simp [tailL] at hy
      have hp : Lib.hasPrefix (r.extract ((escL t.data.toList).length + 1 + 1) r.size).data.toList [44, 32] = true := by
        rw [hy]
        simp [tailL, Lib.hasPrefix, List.isPrefixOf]
      obtain ⟨g, rfl⟩ : ∃ g, f = g + 1 := ⟨f - 1, by
        have := endL_le _ _ hd
        rw [List.length_drop] at this
        omega⟩
      rw [elemsF_next g r _ hd hu hne hp, hu1]
      have hz : ((r.extract ((escL t.data.toList).length + 1 + 1) r.size).extract 2 (r.extract ((escL t.data.toList).length + 1 + 1) r.size).size).data.toList = quoteL t2.data.toList ++ tailL ts2 := by
        rw [Lib.extract_data, List.take_of_length_le (by rw [List.length_drop]; exact Nat.le_refl _), hy]
        rfl
      rw [elemsF_src ts2 t2 g _ hts2.1 hts2.2 hz (by rw [ByteArray.size_extract, ByteArray.size_extract]; omega)]
      rfl
  termination_by ts => ts.length
theorem joinU_cons (x : ByteArray) (xs : List ByteArray) : ∀ k, k ≤ xs.length → joinU (x :: xs) (k + 1) = x.data.toList ++ (xs.take k).flatMap fun y => 44 :: 32 :: y.data.toList
  | 0, _ => by simp [joinU]
  | k + 1, h => by
    have ih := joinU_cons x xs k (by omega)
    show (if k + 1 = 0 then [] else joinU (x :: xs) (k + 1) ++ [44, 32]) ++ ((x :: xs).getD (k + 1) ByteArray.empty).data.toList = _
    have hg : (x :: xs).getD (k + 1) ByteArray.empty = xs[k]'(by omega) := by simp [List.getD, show k < xs.length by omega]
    rw [if_neg (by omega), ih, List.take_succ_eq_append_getElem (show k < xs.length by omega), List.flatMap_append, hg]
    simp only [List.flatMap_cons, List.flatMap_nil, List.append_assoc, List.cons_append, List.nil_append, List.append_nil]
theorem tailL_eq : ∀ ts : List ByteArray, tailL ts = ((ts.map quoteB).flatMap fun y => 44 :: 32 :: y.data.toList) ++ [93]
  | [] => rfl
  | t :: ts => by
    rw [tailL, tailL_eq ts]
    simp [quoteB]
theorem fmt_src (t : ByteArray) (ts : List ByteArray) : (fmtTo (t :: ts) (t :: ts).length ++ ⟨#[93]⟩ : ByteArray).data.toList = 91 :: (quoteL t.data.toList ++ tailL ts) := by
  rw [fmtTo_join (t :: ts) _ (Nat.le_refl _), append_data, append_data, tailL_eq]
  have h := joinU_cons (quoteB t) (ts.map quoteB) ts.length (by simp)
  rw [List.map_cons, List.length_cons]
  show ([91] ++ (joinU (quoteB t :: ts.map quoteB) (ts.length + 1)) ++ [93] : List UInt8) = _
  rw [h, List.take_of_length_le (by simp)]
  show ([91] ++ (quoteL t.data.toList ++ _) ++ [93] : List UInt8) = _
  simp
theorem head_prefix {l : List UInt8} {c d : UInt8} (h : l.head? = some c) : Lib.hasPrefix l [d] = decide (c = d) := by
  cases l with
  | nil => cases h
  | cons a t =>
    simp at h
    subst h
    have : (d == a) = decide (a = d) := by
      rw [Bool.eq_iff_iff, beq_iff_eq, decide_eq_true_eq]
      exact eq_comm
    simpa [Lib.hasPrefix, List.isPrefixOf] using this
theorem formP_head (s : ByteArray) (c : UInt8) (h : s.data.toList.head? = some c) (h1 : c ≠ 116) (h2 : c ≠ 102) : formP s = if c = 34 then 3 else if c = 91 then 5 else if 0 ≤ Lib.indexByte s.data.toList 46 then 4 else 2 := by
  unfold formP
  rw [if_neg, head_prefix h, head_prefix h]
  · simp only [decide_eq_true_eq]
  · rintro (rfl | rfl)
    · simp at h; exact h1 h.symm
    · simp at h; exact h2 h.symm
theorem itoa_head (n : Int) : ∃ c, (Lib.itoa n).head? = some c ∧ c ≠ 116 ∧ c ≠ 102 ∧ c ≠ 34 ∧ c ≠ 91 := by
  obtain ⟨h1, _, _, h4⟩ := decDigits_all n.natAbs
  have hc : ∃ c, (Lib.decDigits n.natAbs).head? = some c ∧ isD c = true := by
    cases hd : Lib.decDigits n.natAbs with
    | nil => exact absurd hd h4
    | cons a t =>
      rw [hd, List.all_cons, Bool.and_eq_true] at h1
      exact ⟨a, rfl, h1.1⟩
  unfold Lib.itoa
  split
  · exact ⟨45, rfl, by decide, by decide, by decide, by decide⟩
  · obtain ⟨c, e, hd⟩ := hc
    rw [show n.toNat = n.natAbs by omega]
    refine ⟨c, e, ?_, ?_, ?_, ?_⟩ <;> (rintro rfl; revert hd; decide)
theorem index_none : ∀ (l : List UInt8), (∀ c ∈ l, c ≠ 46) → Lib.indexByte l 46 = -1
  | [], _ => rfl
  | a :: t, h => by
    have ih := index_none t (fun c hc => h c (List.mem_cons_of_mem _ hc))
    unfold Lib.indexByte
    rw [if_neg (by simpa using h a (List.mem_cons_self ..)), ih]
    rfl
theorem itoa_nodot (n : Int) : ∀ c ∈ Lib.itoa n, c ≠ 46 := by
  have hd := (decDigits_all n.natAbs).1
  intro c hc
  unfold Lib.itoa at hc
  split at hc
  · rcases List.mem_cons.1 hc with rfl | hc
    · decide
    · exact isD_dot (List.all_eq_true.1 hd c hc)
  · rw [show n.toNat = n.natAbs by omega] at hc
    exact isD_dot (List.all_eq_true.1 hd c hc)
theorem parseP_all (n : Int) (h0 : -1099511627776 ≤ n) (h1 : n ≤ 1099511627776) : parseP ⟨(Lib.itoa n).toArray⟩ = (n, 0) := by
  have h := parse_itoa n
  rw [if_pos ⟨h0, h1⟩, parseV_eq] at h
  unfold numE at h
  injection h with h
  have e1 := congrArg (fun a : Array Value => a[0]?) h
  have e2 := congrArg (fun a : Array Value => a[1]?) h
  simp at e1 e2
  exact Prod.ext e1 e2
/-- A version begins with a digit or a minus sign, and has a period. -/
theorem ver_head (s : ByteArray) (h : verOk s) : ∃ c, s.data.toList.head? = some c ∧ c ≠ 116 ∧ c ≠ 102 ∧ c ≠ 34 ∧ c ≠ 91 := by
  have hp := h.1.1
  have hseg : (segAt s 0).data.toList = s.data.toList.take (nextDot s 0) := by
    unfold segAt
    rw [Lib.extract_data]
    show (s.data.toList.drop 0).take (nextDot s 0 - 0) = _
    simp
  unfold parseP at hp
  split at hp
  · cases hp
  · rename_i hc
    have hne : Lib.trimPrefix (segAt s 0).data.toList [45] ≠ [] := fun e => hc (.inl e)
    have hall : (Lib.trimPrefix (segAt s 0).data.toList [45]).all isD = true := by
      cases ha : (Lib.trimPrefix (segAt s 0).data.toList [45]).all isD with
      | true => rfl
      | false => exact absurd (.inr (.inr ha)) hc
    rw [hseg] at hne hall
    cases hs : s.data.toList with
    | nil => rw [hs] at hne; simp [Lib.trimPrefix, Lib.hasPrefix] at hne
    | cons a t =>
      rw [hs] at hne hall
      refine ⟨a, rfl, ?_⟩
      cases hn : nextDot s 0 with
      | zero => rw [hn] at hne; simp [Lib.trimPrefix, Lib.hasPrefix] at hne
      | succ m =>
        rw [hn, List.take_succ_cons] at hall
        by_cases ha : a = 45
        · subst ha
          exact ⟨by decide, by decide, by decide, by decide⟩
        · have hnp : Lib.hasPrefix (a :: t.take m) [45] = false := by
            rw [head_prefix (c := a) rfl]
            exact decide_eq_false ha
          unfold Lib.trimPrefix at hall
          rw [if_neg (by rw [hnp]; simp), List.all_cons, Bool.and_eq_true] at hall
          have hd := hall.1
          refine ⟨?_, ?_, ?_, ?_⟩ <;> (rintro rfl; revert hd; decide)
theorem ver_dot (s : ByteArray) (h : verOk s) : 0 ≤ Lib.indexByte s.data.toList 46 := by
  have h1 : nextDot s 0 < s.size := (h.1.2.2.2).1 (by omega)
  have hz : s.extract 0 s.size = s := by simp
  have h2 := index_rest s 0 (Nat.zero_le _)
  rw [hz, if_pos h1] at h2
  omega
/-- What was written is read as it was. -/
theorem parse_format (x : Val) (h : checkE x = 0) : parseR (formatP x).1 = (x, 0) := by
  have hk := checkE_kind x h
  obtain ⟨hnum, htext, hlist⟩ := checkE_parts x h
  have hver := checkE_ver x h
  have hsh : shapeP x := by
    unfold checkE at h
    rw [if_neg (by omega)] at h
    by_cases hp : shapeP x
    · exact hp
    · rw [if_pos hp] at h; cases h
  obtain ⟨k, n, t, l⟩ := x
  simp only at hk hnum htext hlist hver hsh
  obtain ⟨s1, s2, s3⟩ := hsh
  simp only at s1 s2 s3
  have main : (readP (formatP ⟨k, n, t, l⟩).1) = (⟨k, n, t, l⟩, true) := by
    unfold formatP
    rw [if_neg (by rw [h]; simp)]
    simp only
    have hc : k = 1 ∨ k = 2 ∨ k = 3 ∨ k = 4 ∨ k = 5 := by omega
    rcases hc with rfl | rfl | rfl | rfl | rfl
    · have ht0 : t = ⟨#[]⟩ := text_empty (by omega)
      have hl0 : l = [] := List.length_eq_zero_iff.1 (by omega)
      subst ht0
      subst hl0
      rw [if_pos rfl]
      have hn : n = 0 ∨ n = 1 := by
        unfold checkE at h
        rw [if_neg (by simp)] at h
        by_cases hp : shapeP ⟨1, n, ⟨#[]⟩, []⟩
        · rw [if_neg (by simpa using hp), if_pos rfl] at h
          by_cases g : n = 0 ∨ n = 1
          · exact g
          · rw [if_neg g] at h; cases h
        · rw [if_pos hp] at h; cases h
      rcases hn with rfl | rfl <;> rfl
    · have ht0 : t = ⟨#[]⟩ := text_empty (by omega)
      have hl0 : l = [] := List.length_eq_zero_iff.1 (by omega)
      subst ht0
      subst hl0
      rw [if_neg (by decide), if_pos rfl]
      obtain ⟨c, e, e1, e2, e3, e4⟩ := itoa_head n
      have hf : formP ⟨(Lib.itoa n).toArray⟩ = 2 := by
        rw [formP_head _ c e e1 e2, if_neg e3, if_neg e4, if_neg]
        rw [index_none _ (itoa_nodot n)]
        omega
      unfold readP
      rw [hf, if_neg (by decide), if_pos rfl, parseP_all n (hnum rfl).1 (hnum rfl).2]
      rfl
    · have hl0 : l = [] := List.length_eq_zero_iff.1 (by omega)
      have hn0 : n = 0 := by omega
      subst hl0
      subst hn0
      rw [if_neg (by decide), if_neg (by decide), if_pos rfl]
      have hf : formP (quoteB t) = 3 := by
        rw [formP_head _ 34 rfl (by decide) (by decide), if_pos rfl]
      unfold readP
      rw [hf, if_neg (by decide), if_neg (by decide), if_pos rfl, unqP_quote t (htext rfl)]
      rfl
    · have hl0 : l = [] := List.length_eq_zero_iff.1 (by omega)
      have hn0 : n = 0 := by omega
      subst hl0
      subst hn0
      rw [if_neg (by decide), if_neg (by decide), if_neg (by decide), if_pos rfl]
      have hv := hver rfl
      obtain ⟨c, e, e1, e2, e3, e4⟩ := ver_head t hv
      have hf : formP t = 4 := by rw [formP_head _ c e e1 e2, if_neg e3, if_neg e4, if_pos (ver_dot t hv)]
      unfold readP
      rw [hf, if_neg (by decide), if_neg (by decide), if_neg (by decide), if_pos rfl]
    · have ht0 : t = ⟨#[]⟩ := text_empty (by omega)
      have hn0 : n = 0 := by omega
      subst ht0
      subst hn0
      rw [if_neg (by decide), if_neg (by decide), if_neg (by decide), if_neg (by decide)]
      have hall := (hlist rfl).2
      have hlp : listP (fmtTo l l.length ++ ⟨#[93]⟩) = some l := by
        cases l with
        | nil => rfl
        | cons a ts =>
          have hsrc := fmt_src a ts
          have ha : validB a = true ∧ ts.all validB = true := by simpa using hall
          have hne : (fmtTo (a :: ts) (a :: ts).length ++ ⟨#[93]⟩ : ByteArray) ≠ ⟨#[91, 93]⟩ := by
            intro e
            rw [e] at hsrc
            simp [quoteL] at hsrc
          have hp : Lib.hasPrefix (fmtTo (a :: ts) (a :: ts).length ++ ⟨#[93]⟩ : ByteArray).data.toList [91] = true := by
            rw [hsrc, head_prefix (c := 91) rfl]
            rfl
          unfold listP
          rw [if_neg hne, if_pos hp]
          refine elemsF_src ts a _ _ ha.1 ha.2 ?_ (by rw [ByteArray.size_extract]; omega)
          rw [Lib.extract_data, List.take_of_length_le (by rw [List.length_drop]; exact Nat.le_refl _), hsrc]
          rfl
      have hf : formP (fmtTo l l.length ++ ⟨#[93]⟩) = 5 := by
        cases l with
        | nil => rfl
        | cons a ts =>
          have hsrc := fmt_src a ts
          rw [formP_head _ 91 (by rw [hsrc]; rfl) (by decide) (by decide), if_neg (by decide), if_pos rfl]
      unfold readP
      rw [hf, if_neg (by decide), if_neg (by decide), if_neg (by decide), if_neg (by decide), hlp]
      rfl
  unfold parseR
  rw [main, if_pos ⟨rfl, h⟩]
theorem format_size (x : Val) (ht : x.text.size ≤ 1000) : (formatP x).1.size ≤ 10000 := by
  unfold formatP
  split
  · exact Nat.zero_le _
  · rename_i hc
    obtain ⟨hnum, htext, hlist⟩ := checkE_parts x (by simpa using hc)
    have hk := checkE_kind x (by simpa using hc)
    split
    · split <;> decide
    · split
      · rename_i h2
        have hb := hnum h2
        show (Lib.itoa x.num).toArray.size ≤ 10000
        rw [List.size_toArray]
        unfold Lib.itoa
        split
        · have := digits_le x.num.natAbs (by omega)
          rw [List.length_cons]
          omega
        · have := digits_le x.num.toNat (by omega)
          omega
      · split
        · rename_i h3
          have := quoteB_size (htext h3)
          simp only
          omega
        · split
          · simp only
            omega
          · obtain ⟨h20, hall⟩ := hlist (by omega)
            have := fmtTo_size x.list hall x.list.length (Nat.le_refl _)
            have h1 : (⟨#[93]⟩ : ByteArray).size = 1 := rfl
            simp only
            rw [ByteArray.size_append]
            omega
end Go.Proofs.YtmijfcdmnibnpaaGreatDoor
