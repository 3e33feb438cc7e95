/- TextQuotes: for every text and byte, text.Quote and the document's answer agree on the three texts that the statement makes, and what was quoted is read as it was. -/
import Derived.Test.YtfdmeinfjfmnlaaDoorTextValid
namespace Go.Proofs.YtfdmeinfjfmnlaaDoor
open Go Go.RowKit

theorem unS_escL : ∀ (l out : List UInt8), unS (escL l) false out = some (out ++ l)
  | [], out => by simp [escL, unS]
  | c :: t, out => by
    have e : escL (c :: t) = (if isEsc c then [92, c] else [c]) ++ escL t := rfl
    rw [e]
    cases hc : isEsc c with
    | true =>
      rw [if_pos rfl]
      show unS (92 :: c :: escL t) false out = _
      rw [unS, if_neg (by decide), if_pos rfl, unS, if_pos hc, unS_escL t]
      simp
    | false =>
      rw [if_neg (by simp)]
      show unS (c :: escL t) false out = _
      have h1 : ¬ c = 34 := by rintro rfl; cases hc
      have h2 : ¬ c = 92 := by rintro rfl; cases hc
      rw [unS, if_neg h1, if_neg h2, unS_escL t]
      simp
/-- What was quoted is read as it was. -/
theorem unqV_quote (t : ByteArray) (hv : validB t = true) : unqV ⟨(quoteL t.data.toList).toArray⟩ = strE t.data.toList 0 := by
  have hsz : (⟨(quoteL t.data.toList).toArray⟩ : ByteArray).size = (escL t.data.toList).length + 2 := by
    show (quoteL t.data.toList).toArray.size = _
    simp [quoteL]
  have h0 : (⟨(quoteL t.data.toList).toArray⟩ : ByteArray).get! 0 = 34 := by
    rw [get_list _ 0 (by rw [hsz]; omega)]
    rfl
  have h1 : (⟨(quoteL t.data.toList).toArray⟩ : ByteArray).get! ((⟨(quoteL t.data.toList).toArray⟩ : ByteArray).size - 1) = 34 := by
    rw [get_list _ _ (by rw [hsz]; omega), hsz]
    simp [quoteL, List.getD]
  rw [unqV_in ⟨by rw [hsz]; omega, h0, h1⟩]
  have hin : inner ⟨(quoteL t.data.toList).toArray⟩ = escL t.data.toList := by
    unfold inner
    rw [hsz]
    simp [quoteL]
  rw [hin, unS_escL, List.nil_append]
  show (if validB ⟨t.data.toList.toArray⟩ then strE t.data.toList 0 else strE [] 2) = _
  rw [eta, if_pos hv]
theorem quote_size (t : ByteArray) (hv : validB t = true) : (⟨(quoteL t.data.toList).toArray⟩ : ByteArray).size ≤ 140737488355328 := by
  have h := escL_length t.data.toList
  have hs : t.size ≤ 200 := by simp only [validB, Bool.and_eq_true, decide_eq_true_eq] at hv; exact hv.1.1
  have hl : t.data.toList.length = t.size := rfl
  show (quoteL t.data.toList).toArray.size ≤ _
  simp [quoteL]
  omega

set_option maxHeartbeats 8000000 in
set_option maxRecDepth 100000 in
theorem quotes_walk (s : ByteArray) (c : Int) (w : World) (E : Env w) (hs : s.size ≤ 140737488351232) (hc : 0 ≤ c ∧ c ≤ 255) :
    Calls Tryd.prog 6 #[.string s, .int .u8 c] w fun e w' => e = .returned (.bool true) ∧ Below w.heap.size w w' := by
  obtain ⟨c0, c1⟩ := hc
  have B := Below.refl w.heap.size w
  have hec := encode_size_le c
  have h92 : (⟨#[92]⟩ : ByteArray).size = 1 := rfl
  have h34 : (⟨#[34]⟩ : ByteArray).size = 1 := rfl
  have hsz2 : (⟨#[92]⟩ ++ s : ByteArray).size = 1 + s.size := by rw [ByteArray.size_append]; omega
  go_enter Tryd.func6, Tryd.ntmps6
  go_wp2_with (go_at_call 10; refine (awake_any _ E).mono ?_; rintro e W ⟨rfl, hb⟩; replace E := E.below hb; replace B := B.trans (hb.mono B.size); clear hb)
  obtain ⟨L, hL⟩ : ∃ L : List ByteArray, L = [s, s ++ Utf8.encode c, ⟨#[92]⟩ ++ s ++ ⟨#[34]⟩] := ⟨_, rfl⟩
  have hLs : ∀ (i : Nat) (h : i < L.length), L[i].size ≤ 9223372036854775807 := by
    have : ∀ x ∈ L, x.size ≤ 9223372036854775807 := by
      rw [hL]
      simp only [List.mem_cons, List.not_mem_nil, or_false]
      rintro x (rfl | rfl | rfl)
      · omega
      · rw [ByteArray.size_append]; omega
      · rw [ByteArray.size_append]; omega
    exact fun i h => this _ (List.getElem_mem h)
  have hlen : L.length = 3 := by rw [hL]; rfl
  have hW1 : W.alloc (.cells (L.map Value.string).toArray 9) = W.alloc (.cells #[.string s, .string (s ++ Utf8.encode c), .string (⟨#[92]⟩ ++ s ++ ⟨#[34]⟩)] 9) := by rw [hL]; rfl
  have hS := strsAt_alloc L W 9
  have hbW : Below W.heap.size W (W.alloc (.cells (L.map Value.string).toArray 9)) := (Below.refl _ W).alloc (Nat.le_refl _) _
  rw [hW1] at hS hbW
  have E1 := E.below hbW
  have B1 := B.trans (hbW.mono B.size)
  clear hW1 hL hbW
  generalize W.alloc (.cells #[.string s, .string (s ++ Utf8.encode c), .string (⟨#[92]⟩ ++ s ++ ⟨#[34]⟩)] 9) = W1 at hS E1 B1 ⊢
  obtain ⟨b, off, hbl, hv, hcell⟩ := hS
  rw [hlen] at hv
  obtain ⟨rfl, rfl⟩ : b = W.heap.size ∧ off = 0 := by
    simp only [Value.slice.injEq, Option.some.injEq, Addr.mk.injEq] at hv
    exact ⟨hv.1.1.symm, hv.1.2.1.symm⟩
  clear hv E B hec h92 h34 hsz2 hs
  go_loopw [26] (fun i wr => ∃ k : Nat, k ≤ 3 ∧ i = .int .i64 k ∧ Below W1.heap.size W1 wr) (fun i _ => 3 - (intOf i).toNat)
  case atStart => exact ⟨0, by omega, rfl, Below.refl _ _⟩
  case round =>
    obtain ⟨j, hj, rfl, hbw⟩ := hrel
    by_cases hlt : j < 3
    · have hjl : j < L.length := by omega
      have hc1 := cell_below (hcell j hjl) hbw
      rw [Nat.zero_add] at hc1
      have E2 := E1.below hbw
      have hxs := hLs j hjl
      generalize L[j] = x at hc1 hxs
      replace hcell := Lib.hid hcell
      replace hLs := Lib.hid hLs
      replace hlen := Lib.hid hlen
      have xx : (x.toList == x.toList) = true := by simp
      cases hv : validB x with
      | true =>
        have hQ : ∀ V, Env V → Calls Tryd.prog 18 #[.string x] V fun e w' => e = .returned (.tuple #[.string ⟨(quoteL x.data.toList).toArray⟩, .int .i64 0]) ∧ Below V.heap.size V w' := fun V h => quote_loop x V hv h.tabs
        have hR : ∀ V, Env V → Calls Tryd.prog 19 #[.string x] V fun e w' => e = .returned (.tuple #[.string ⟨(quoteL x.data.toList).toArray⟩, .int .i64 0]) ∧ Below V.heap.size V w' := fun V h => refQuote_loop x V hv h.tabs
        have hU : ∀ V, Env V → Calls Tryd.prog 20 #[.string ⟨(quoteL x.data.toList).toArray⟩] V fun e w' => e = .returned (.tuple #[.string x, .int .i64 0]) ∧ Below V.heap.size V w' := fun V h => by
          have := unquote_any ⟨(quoteL x.data.toList).toArray⟩ V (quote_size x hv) h.tabs
          rw [unqV_quote x hv] at this
          unfold strE at this
          rw [eta] at this
          exact this
        generalize (⟨(quoteL x.data.toList).toArray⟩ : ByteArray) = q at hQ hR hU
        have qq : (q.toList == q.toList) = true := by simp
        replace hv := Lib.hid hv
        have B2 := hbw
        replace hbw := Lib.hid hbw
        go_wp2_with (first
          | (go_at_call 18; refine (hQ _ E2).mono ?_; rintro e V ⟨rfl, hb⟩; replace E2 := E2.below hb; replace B2 := B2.trans (hb.mono B2.size); clear hb)
          | (go_at_call 19; refine (hR _ E2).mono ?_; rintro e V ⟨rfl, hb⟩; replace E2 := E2.below hb; replace B2 := B2.trans (hb.mono B2.size); clear hb)
          | (go_at_call 20; refine (hU _ E2).mono ?_; rintro e V ⟨rfl, hb⟩; replace E2 := E2.below hb; replace B2 := B2.trans (hb.mono B2.size); clear hb))
        go_roundw
        case rel => exact ⟨j + 1, by omega, by go_num, B2⟩
        case measure => simp [intOf]; omega
      | false =>
        have hQ : ∀ V, Env V → Calls Tryd.prog 18 #[.string x] V fun e w' => e = .returned (.tuple #[.string ⟨#[]⟩, .int .i64 2]) ∧ Below V.heap.size V w' := fun V h => quote_bad x V hxs hv h.tabs
        have hR : ∀ V, Env V → Calls Tryd.prog 19 #[.string x] V fun e w' => e = .returned (.tuple #[.string ⟨#[]⟩, .int .i64 2]) ∧ Below V.heap.size V w' := fun V h => refQuote_bad x V hxs hv h.tabs
        replace hv := Lib.hid hv
        have B2 := hbw
        replace hbw := Lib.hid hbw
        go_wp2_with (first
          | (go_at_call 18; refine (hQ _ E2).mono ?_; rintro e V ⟨rfl, hb⟩; replace E2 := E2.below hb; replace B2 := B2.trans (hb.mono B2.size); clear hb)
          | (go_at_call 19; refine (hR _ E2).mono ?_; rintro e V ⟨rfl, hb⟩; replace E2 := E2.below hb; replace B2 := B2.trans (hb.mono B2.size); clear hb))
        go_roundw
        case rel => exact ⟨j + 1, by omega, by go_num, B2⟩
        case measure => simp [intOf]; omega
    · obtain rfl : j = 3 := by omega
      go_wp2
      go_ret
      exact ⟨rfl, B1.trans (hbw.mono B1.size)⟩
end Go.Proofs.YtfdmeinfjfmnlaaDoor
