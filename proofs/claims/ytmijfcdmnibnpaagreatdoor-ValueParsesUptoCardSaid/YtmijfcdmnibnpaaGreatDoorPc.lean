/- Contracts of the draw's remainder. Contracts of the document's equality of values. Contract of the document's comparison of values. Slices of bytes that a call makes itself: built of constants, appended to, turned into a string. Contracts: refQuote_bad, refQuote_loop. Contract of the document's source form of a value. -/
import Derived.Test.YtmijfcdmnibnpaaGreatDoorProg
import Derived.Test.YtmijfcdmnibnpaaGreatDoorPa
import Derived.Deep.DeepFit
import Derived.Test.YtmijfcdmnibnpaaGreatDoorPb
import Derived.Deep.RegionWith
import Derived.WalkKit
import Derived.WalkMore
import Derived.Laws.AppendOwn
import Derived.Laws.IdiomStrings
import Derived.Below
import Derived.Lib.OthersKept
import Derived.Lib.RuneBytes
/- Contracts of the draw's remainder. -/
namespace Go.Proofs.YtmijfcdmnibnpaaGreatDoor
open Go Go.RowKit

theorem mod_any (x n : Int) (w : World) (hx : -9223372036854775808 ≤ x ∧ x ≤ 9223372036854775807) (h0 : 0 < n) (h1 : n ≤ 4611686018427387904) :
    Calls Tryz.prog 9 #[.int .i64 x, .int .i64 n] w fun e w' => e = .returned (.int .i64 (x % n)) ∧ w = w' := by
  have hr : x.tmod n = if x.tmod n < 0 then x % n - n else x % n := by
    have h2 := Int.lt_tmod_of_pos x (b := n) h0
    have h3 := Int.tmod_lt_of_pos x (b := n) h0
    have h4 := Int.emod_nonneg x (b := n) (by omega)
    have h5 := Int.emod_lt_of_pos x (b := n) h0
    have h6 := Int.tmod_add_mul_tdiv x n
    have h7 := Int.emod_add_mul_ediv x n
    have h8 : n * (x.tdiv n - x / n) = x % n - x.tmod n := by rw [Int.mul_sub]; omega
    generalize x.tdiv n - x / n = d at h8
    split
    · have : d = 1 := by
        have a1 : 0 < d := by
          rcases Int.lt_or_le 0 d with h | h
          · exact h
          · have := Int.mul_le_mul_of_nonneg_left h (Int.le_of_lt h0)
            omega
        have a2 : d < 2 := by
          rcases Int.lt_or_le d 2 with h | h
          · exact h
          · have := Int.mul_le_mul_of_nonneg_left h (Int.le_of_lt h0)
            omega
        omega
      subst this
      omega
    · have : d = 0 := by
        have a1 : -1 < d := by
          rcases Int.lt_or_le (-1) d with h | h
          · exact h
          · have := Int.mul_le_mul_of_nonneg_left h (Int.le_of_lt h0)
            omega
        have a2 : d < 1 := by
          rcases Int.lt_or_le d 1 with h | h
          · exact h
          · have := Int.mul_le_mul_of_nonneg_left h (Int.le_of_lt h0)
            omega
        omega
      subst this
      omega
  have hb := Int.emod_lt_of_pos x (b := n) h0
  have hc := Int.emod_nonneg x (b := n) (by omega)
  have hn : ¬ n = 0 := by omega
  replace hx := Lib.hid hx
  by_cases hlt : x.tmod n < 0
  · rw [if_pos hlt] at hr
    generalize x % n = m at hr hb hc ⊢
    replace hr := Lib.hid hr
    have hwr : IntKind.i64.wrap (x.tmod n + n) = m := by
      have := hr.out
      rw [IntWalk.i64_in _ (by omega)]
      omega
    replace h1 := Lib.hid h1
    go_enter Tryz.func9, Tryz.ntmps9
    go_wp2
    go_ret
    exact ⟨rfl, rfl⟩
  · rw [if_neg hlt] at hr
    replace h1 := Lib.hid h1
    replace hr := Lib.hid hr
    go_enter Tryz.func9, Tryz.ntmps9
    go_wp2
    go_ret
    exact ⟨by rw [hr.out]; rfl, rfl⟩
theorem bytes_differ {a b : ByteArray} (h : ¬ a = b) : (a.toList == b.toList) = false := by
  rw [beq_eq_false_iff_ne, ByteArray.toList_eq, ByteArray.toList_eq]
  exact fun e => h (ByteArray.ext (Array.toList_inj.1 e))
end Go.Proofs.YtmijfcdmnibnpaaGreatDoor
/- Contracts of the document's equality of values. -/
namespace Go.Proofs.YtmijfcdmnibnpaaGreatDoor
open Go Go.RowKit

set_option maxHeartbeats 8000000 in
theorem refSame_any (a0 b0 : Option Addr) (l m : List ByteArray) (ca cb : Nat) (w : World) (hl : l.length ≤ 9223372036854775806) (hA : TextsAre a0 l w) (hB : TextsAre b0 m w) :
    Calls Tryz.prog 28 #[.slice a0 (l.length : Nat) ca, .slice b0 (m.length : Nat) cb] w fun e w' => e = .returned (.bool (decide (l = m))) ∧ Below w.heap.size w w' := by
  by_cases hlen : l.length = m.length
  · obtain ⟨r, hr⟩ : ∃ r, decide (l = m) = r := ⟨_, rfl⟩
    rw [hr]
    rw [← hlen]
    replace hr := Lib.hid hr
    replace hlen := Lib.hid hlen
    go_enter Tryz.func28, Tryz.ntmps28
    go_wp2
    go_loopw [5] (fun i wr => ∃ n : Nat, n ≤ l.length ∧ i = .int .i64 n ∧ Hid (l.take n = m.take n) ∧ Below w.heap.size w wr) (fun i _ => l.length - (intOf i).toNat)
    case atStart => exact ⟨0, Nat.zero_le _, rfl, Lib.hid rfl, Below.refl _ _⟩
    case round =>
      obtain ⟨n, hn, rfl, htk, hbl⟩ := hrel
      by_cases hlt : n < l.length
      · have hltm : n < m.length := by have := hlen.out; omega
        obtain ⟨b, off, rfl, hbk, hc⟩ := hA n hlt
        obtain ⟨b', off', rfl, hbk', hc'⟩ := hB n hltm
        have q1 := hbl.cell (p := ⟨b, off + n, none⟩) hbk
        have q2 := hbl.cell (p := ⟨b', off' + n, none⟩) hbk'
        rw [hc] at q1
        rw [hc'] at q2
        have hlt' : (n : Int) < (l.length : Int) := by omega
        have hnext : l[n] = m[n] → l.take (n + 1) = m.take (n + 1) := fun h => by
          rw [List.take_succ_eq_append_getElem hlt, List.take_succ_eq_append_getElem hltm, htk.out, h]
        have hdiff : l[n] ≠ m[n] → r = false := fun h => by
          rw [← hr.out]
          exact decide_eq_false fun e => h (by subst e; rfl)
        replace hnext := Lib.hid hnext
        replace hdiff := Lib.hid hdiff
        replace hc := Lib.hid hc
        replace hc' := Lib.hid hc'
        obtain ⟨s1, e1⟩ : ∃ s1, l[n] = s1 := ⟨_, rfl⟩
        obtain ⟨s2, e2⟩ : ∃ s2, m[n] = s2 := ⟨_, rfl⟩
        rw [e1] at q1 hnext hdiff
        rw [e2] at q2 hnext hdiff
        replace e1 := Lib.hid e1
        replace e2 := Lib.hid e2
        clear htk
        by_cases heq : s1 = s2
        · subst heq
          go_upto_region 6 with (fail)
          go_region
          all_goals
            go_wp2
            refine ⟨⟨n + 1, by omega, by go_num, Lib.hid (hnext.out rfl), hbl.drew⟩, ?_⟩
            simp [intOf]; omega
        · have hd := bytes_differ heq
          replace heq := Lib.hid heq
          go_upto_region 6 with (fail)
          go_region
          all_goals
            go_wp2
            go_ret
            exact ⟨by rw [hdiff.out heq.out]; rfl, hbl.drew⟩
      · obtain rfl : n = l.length := by omega
        have hlt' : ¬ (l.length : Int) < (l.length : Int) := by omega
        have hyes : r = true := by
          rw [← hr.out]
          have h := htk.out
          rw [List.take_of_length_le (Nat.le_refl _), hlen.out, List.take_of_length_le (Nat.le_refl _)] at h
          exact decide_eq_true h
        replace hyes := Lib.hid hyes
        clear htk
        go_wp2
        go_ret
        exact ⟨by rw [hyes.out]; rfl, hbl⟩
  · have hr : decide (l = m) = false := decide_eq_false fun e => hlen (by rw [e])
    rw [hr]
    replace hr := Lib.hid hr
    have hl2 : ¬ (l.length : Int) = (m.length : Int) := by omega
    have hl3 : ((l.length : Int) != (m.length : Int)) = true := by simp; omega
    go_enter Tryz.func28, Tryz.ntmps28
    go_wp2
    go_ret
    exact ⟨rfl, Below.refl _ _⟩
def signI (x y : Bool) : Int := if x then -1 else if y then 1 else 0
def eqV (x y : Val) : Bool := decide (x.kind = y.kind ∧ x.num = y.num ∧ x.text = y.text ∧ x.list = y.list)
set_option maxHeartbeats 8000000 in
theorem refEqual_any (x y : Val) (a0 b0 : Option Addr) (ca cb : Nat) (w : World) (hl : x.list.length ≤ 9223372036854775806) (hA : TextsAre a0 x.list w) (hB : TextsAre b0 y.list w) :
    Calls Tryz.prog 12 #[x.agg a0 ca, y.agg b0 cb] w fun e w' => e = .returned (.bool (eqV x y)) ∧ Below w.heap.size w w' := by
  obtain ⟨k, n, t, l⟩ := x
  obtain ⟨k', n', t', l'⟩ := y
  simp only at hA hB hl
  unfold Val.agg
  have hb := ((Below.refl w.heap.size w).alloc (Nat.le_refl _) (.cells #[.int .i64 k, .int .i64 n, .string t, .slice a0 l.length ca] 29)).alloc (by simp) (.cells #[.int .i64 k', .int .i64 n', .string t', .slice b0 l'.length cb] 29)
  have hsm := Lib.hid (refSame_any a0 b0 l l' ca cb _ hl (hA.below (Nat.le_refl _) hb) (hB.below (Nat.le_refl _) hb))
  replace hb := Lib.hid hb
  by_cases h1 : k = k'
  · subst h1
    by_cases h2 : n = n'
    · subst h2
      by_cases h3 : t = t'
      · subst h3
        have he : eqV ⟨k, n, t, l⟩ ⟨k, n, t, l'⟩ = decide (l = l') := by unfold eqV; simp
        rw [he]
        generalize decide (l = l') = r at hsm
        go_enter Tryz.func12, Tryz.ntmps12
        go_wp2_with (go_at_call 28; refine hsm.out.mono ?_; rintro e w1 ⟨rfl, hb1⟩)
        go_ret
        exact ⟨rfl, hb.out.trans (hb1.mono hb.out.size)⟩
      · have he : eqV ⟨k, n, t, l⟩ ⟨k, n, t', l'⟩ = false := by unfold eqV; simp [h3]
        rw [he]
        have hd := bytes_differ h3
        replace h3 := Lib.hid h3
        go_enter Tryz.func12, Tryz.ntmps12
        go_wp2
        go_ret
        exact ⟨rfl, hb.out⟩
    · have he : eqV ⟨k, n, t, l⟩ ⟨k, n', t', l'⟩ = false := by unfold eqV; simp [h2]
      rw [he]
      have hd : (n == n') = false := by rw [beq_eq_false_iff_ne]; exact h2
      go_enter Tryz.func12, Tryz.ntmps12
      go_wp2
      go_ret
      exact ⟨rfl, hb.out⟩
  · have he : eqV ⟨k, n, t, l⟩ ⟨k', n', t', l'⟩ = false := by unfold eqV; simp [h1]
    rw [he]
    have hd : (k == k') = false := by rw [beq_eq_false_iff_ne]; exact h1
    go_enter Tryz.func12, Tryz.ntmps12
    go_wp2
    go_ret
    exact ⟨rfl, hb.out⟩
end Go.Proofs.YtmijfcdmnibnpaaGreatDoor
/- Contract of the document's comparison of values. -/
namespace Go.Proofs.YtmijfcdmnibnpaaGreatDoor
open Go Go.RowKit

def cmpT (s t : ByteArray) : Int := signI (Op.bytesLess s.toList t.toList) (!Op.bytesLess s.toList t.toList && !(s.toList == t.toList))
def verCmp (s t : ByteArray) : Int :=
  if verN s 0 ≠ verN t 0 then signI (decide (verN s 0 < verN t 0)) true
  else if verN s 1 ≠ verN t 1 then signI (decide (verN s 1 < verN t 1)) true
  else if verN s 2 ≠ verN t 2 then signI (decide (verN s 2 < verN t 2)) true else 0
theorem verCmp_at (s t : ByteArray) (n : Nat) (h3 : n < 3) (hb : ∀ j, j < n → verN s j = verN t j) (hn : verN s n ≠ verN t n) : verCmp s t = signI (decide (verN s n < verN t n)) true := by
  unfold verCmp
  have hc : n = 0 ∨ n = 1 ∨ n = 2 := by omega
  rcases hc with rfl | rfl | rfl
  · rw [if_pos hn]
  · rw [if_neg (by simpa using hb 0 (by omega)), if_pos hn]
  · rw [if_neg (by simpa using hb 0 (by omega)), if_neg (by simpa using hb 1 (by omega)), if_pos hn]
theorem verCmp_none (s t : ByteArray) (hb : ∀ j, j < 3 → verN s j = verN t j) : verCmp s t = 0 := by
  unfold verCmp
  rw [if_neg (by simpa using hb 0 (by omega)), if_neg (by simpa using hb 1 (by omega)), if_neg (by simpa using hb 2 (by omega))]
/-- How two values compare, and the error. -/
def cmpP (x y : Val) : Int × Int :=
  if checkE x ≠ 0 then (0, checkE x) else if checkE y ≠ 0 then (0, checkE y)
  else if x.kind ≠ y.kind ∨ x.kind = 1 ∨ x.kind = 5 then (0, 8)
  else if x.kind = 2 then (signI (decide (x.num < y.num)) (decide (y.num < x.num)), 0)
  else if x.kind = 3 then (cmpT x.text y.text, 0)
  else (verCmp x.text y.text, 0)
theorem checkE_kind (x : Val) (h : checkE x = 0) : 1 ≤ x.kind ∧ x.kind ≤ 5 := by
  unfold checkE at h
  by_cases hk : x.kind < 1 ∨ 5 < x.kind
  · rw [if_pos hk] at h; cases h
  · omega
theorem checkE_ver (x : Val) (h : checkE x = 0) (hk : x.kind = 4) : verOk x.text := by
  unfold checkE at h
  rw [if_neg (by omega)] at h
  by_cases hp : shapeP x
  · rw [if_neg (by simpa using hp), if_neg (by omega), if_neg (by omega), if_neg (by omega), if_pos hk] at h
    by_cases hv : verOk x.text
    · exact hv
    · rw [if_neg hv] at h; cases h
  · rw [if_pos hp] at h; cases h
/-- Two boxed values. -/
structure Box2 (x y : Val) (a0 b0 : Option Addr) (ca cb B : Nat) (w wr : World) : Prop where
  one : wr.heap[B]? = some (.cells #[.int .i64 x.kind, .int .i64 x.num, .string x.text, .slice a0 (x.list.length : Nat) ca] 29 (0, 0))
  two : wr.heap[B + 1]? = some (.cells #[.int .i64 y.kind, .int .i64 y.num, .string y.text, .slice b0 (y.list.length : Nat) cb] 29 (0, 0))
  below : Below B w wr
theorem Box2.lt {x y : Val} {a0 b0 : Option Addr} {ca cb B : Nat} {w wr : World} (h : Box2 x y a0 b0 ca cb B w wr) : B + 1 < wr.heap.size := (Array.getElem?_eq_some_iff.1 h.two).1
theorem Box2.grown {x y : Val} {a0 b0 : Option Addr} {ca cb B : Nat} {w wr w' : World} (h : Box2 x y a0 b0 ca cb B w wr) (hb : Below wr.heap.size wr w') : Box2 x y a0 b0 ca cb B w w' :=
  ⟨(hb.block B (by have := h.lt; omega)).trans h.one, (hb.block (B + 1) h.lt).trans h.two, h.below.trans (hb.mono (by have := h.lt; omega))⟩
theorem Box2.start (x y : Val) (a0 b0 : Option Addr) (ca cb : Nat) (w : World) : Box2 x y a0 b0 ca cb w.heap.size w ((w.alloc (.cells #[.int .i64 x.kind, .int .i64 x.num, .string x.text, .slice a0 (x.list.length : Nat) ca] 29)).alloc (.cells #[.int .i64 y.kind, .int .i64 y.num, .string y.text, .slice b0 (y.list.length : Nat) cb] 29)) := by
  refine ⟨?_, ?_, ((Below.refl _ w).alloc (Nat.le_refl _) _).alloc (by simp) _⟩
  · rw [Below.heap_alloc _ _ _ (by simp)]
    exact heap_alloc_new w _
  · have := heap_alloc_new (w.alloc (.cells #[.int .i64 x.kind, .int .i64 x.num, .string x.text, .slice a0 (x.list.length : Nat) ca] 29)) (.cells #[.int .i64 y.kind, .int .i64 y.num, .string y.text, .slice b0 (y.list.length : Nat) cb] 29)
    rw [World.size_alloc] at this
    exact this

end Go.Proofs.YtmijfcdmnibnpaaGreatDoor
/- Slices of bytes that a call makes itself: built of constants, appended to, turned into a string. -/
namespace Go.Proofs.YtmijfcdmnibnpaaGreatDoor
open Go Go.RowKit

/-- The slice v is the call's own (its row in a block from B on) and holds these bytes. -/
def Own (B : Nat) (v : Value) (l : List UInt8) (w : World) : Prop := w.ownsRow B 5 1 v l.length (Lib.byteCells l)
theorem infoByte : (Tryz.prog.info? 5).map (fun i => (i.zero, i.size, i.bytes)) = some (some (.int .u8 0), 1, 1) := by kernel_rfl
theorem own_nil (B : Nat) (w : World) : Own B (.slice none 0 0) [] w := World.ownsRow_nil w B _ 1
theorem own_made (B : Nat) (l : List UInt8) (w : World) (hb : B ≤ w.heap.size) (hm : l.length ≤ 1000000) :
    Own B (.slice (some ⟨w.heap.size, 0, none⟩) l.length l.length) l (w.alloc (.cells (Lib.byteCells l).toArray 5)) := by
  refine ⟨by simp [Lib.byteCells_length], .inr ⟨w.heap.size, l.length, (Lib.byteCells l).toArray, rfl, hb, heap_alloc_new w _, Nat.le_refl _, by unfold maxLen; omega, by simp [Lib.byteCells_length], ?_⟩⟩
  rw [Nat.mul_one, List.take_of_length_le (by simp [Lib.byteCells_length])]
theorem Own.alloc {B : Nat} {v : Value} {l : List UInt8} {w : World} (h : Own B v l w) (o : Obj) : Own B v l (w.alloc o) := World.ownsRow.alloc h o
theorem Own.below {B : Nat} {v : Value} {l : List UInt8} {w w' : World} (h : Own B v l w) (hb : Below w.heap.size w w') : Own B v l w' := by
  refine ⟨h.1, ?_⟩
  rcases h.2 with h0 | ⟨g, cap, cur, hv, hB, hg, rest⟩
  · exact .inl h0
  · have hlt : g < w.heap.size := (Array.getElem?_eq_some_iff.1 hg).1
    exact .inr ⟨g, cap, cur, hv, hB, (hb.block g hlt).trans hg, rest⟩
theorem Own.string {B : Nat} {v : Value} {l : List UInt8} {w : World} (h : Own B v l w) : (convert 22 9 v).run Tryz.prog w = .ok (.string ⟨l.toArray⟩) w := by
  rcases h.2 with ⟨rfl, h0⟩ | ⟨g, cap, cur, rfl, hB, hg, hn, hc, hs, ht⟩
  · obtain rfl : l = [] := List.length_eq_zero_iff.1 h0
    rw [run_convert_bytes_string w _ _ _ none 0 0 Tryz.underlying22 Tryz.underlying5 Tryz.underlying9]
    simp [Conv.bytesToString]
    rfl
  · refine run_convert_bytes_back w _ _ _ ⟨g, 0, none⟩ cap l Tryz.underlying22 Tryz.underlying5 Tryz.underlying9 fun j hj => ?_
    have h1 : cur.toList[j]? = some (.int .u8 (l[j].toNat : Int)) := by
      have := congrArg (fun x : List Value => x[j]?) ht
      simp only [Nat.mul_one, List.getElem?_take, hj, if_true] at this
      rw [this]
      simp [Lib.byteCells, hj]
    rw [show (⟨g, 0, none⟩ : Addr).add j = ⟨g, j, none⟩ from (by simp [Addr.add]; exact fun h => h.symm), Lib.cell_of_heap hg]
    simpa using h1

/-- 'append' of one byte to a slice of the call's own. -/
theorem wpList_own1 {ops : Array Oper} {rest : List Oper} {o : Oper} {a : Act} {Q : Exit → Act → World → Prop} (hgd : o.guard = none) (s x : Operand)
    (ho : o.op = .call { callee := .builtin .append, args := #[s, x], argTypes := #[22, 22] })
    {B : Nat} {v : Value} {l : List UInt8} (c : UInt8) {w : World} (hown : Own B v l w) (hs : a.eval s = v) (hx : a.eval x = .slice (some ⟨w.heap.size, 0, none⟩) 1 1)
    (hlen : l.length + 1 ≤ 140737488355328) (hB : B ≤ w.heap.size)
    (h : ∀ v' w', Own B v' (l ++ [c]) w' → Below B w w' → wpList Tryz.prog ops Q rest (a.put o.dst v') w') :
    wpList Tryz.prog ops Q (o :: rest) a (w.alloc (.cells #[.int .u8 (c.toNat : Int)] 5)) := by
  obtain ⟨i0, hi, hz0', hz1', hz2'⟩ := info_parts infoByte
  refine wpList_append_own _ hgd s x 22 ho B 5 i0 (.int .u8 0) 1 1 Tryz.underlying22 hi hz0' hz1' hz2' rfl (by decide) v l.length _ hs (World.ownsRow.alloc hown _) ⟨w.heap.size, 0, none⟩ 1 1 [.int .u8 (c.toNat : Int)] hx rfl ?_ ?_ ?_ ?_ ?_ ?_
  · intro j u hj
    match j, hj with
    | 0, hj => simp at hj; subst hj; simp [Addr.add]
  · intro u hu; simp at hu; subst hu; rfl
  · unfold maxLen; omega
  · omega
  · simp; omega
  · intro v' w2 hown' hgrow _
    refine h v' w2 ?_ (((Below.refl B w).alloc hB _).grown hgrow (by simp; omega) (fun k hk => (World.ownsRow.lt hown k hk).1))
    unfold Own
    rw [Lib.byteCells_append, List.length_append]
    exact hown'
end Go.Proofs.YtmijfcdmnibnpaaGreatDoor
/- Contracts: refQuote_bad, refQuote_loop. -/
namespace Go.Proofs.YtmijfcdmnibnpaaGreatDoor
open Go Go.RowKit

set_option maxHeartbeats 8000000 in
set_option maxRecDepth 100000 in
theorem refQuote_loop (s : ByteArray) (w : World) (hv : validB s = true) (hT : Tabs w) :
    Calls Tryz.prog 22 #[.string s] w fun e w' => e = .returned (.tuple #[.string ⟨(quoteL s.data.toList).toArray⟩, .int .i64 0]) ∧ Below w.heap.size w w' := by
  have hs : s.size ≤ 200 := by simp only [validB, Bool.and_eq_true, decide_eq_true_eq] at hv; exact hv.1.1
  go_enter Tryz.func22, Tryz.ntmps22
  go_wp2_with (go_at_call 42; refine (refValid_any _ _ (by omega) hT).mono ?_; rintro e w0 ⟨rfl, hb0⟩)
  have hz0 := hb0.size
  go_loopw [4, 5] (fun v i wr => ∃ k : Nat, k ≤ s.size ∧ i = .int .i64 k ∧ Own w0.heap.size v (34 :: escL (s.data.toList.take k)) wr ∧ Below w.heap.size w wr ∧ w0.heap.size ≤ wr.heap.size) (fun _ i _ => s.size - (intOf i).toNat)
  case atStart => exact ⟨0, Nat.zero_le _, rfl, own_made w0.heap.size [34] w0 (Nat.le_refl _) (by simp), hb0.alloc hz0 _, by simp⟩
  case round =>
    obtain ⟨k, hk, rfl, hown, hbw, hsz⟩ := hrel
    have hal := escL_length (s.data.toList.take k)
    have hll : (s.data.toList.take k).length ≤ k := List.length_take_le _ _
    by_cases hlt : k < s.size
    · have hsn := escL_snoc (s.data.toList.take k) s[k]
      rw [← take_snoc s k hlt] at hsn
      cases he : isEsc s[k] with
      | true =>
        rw [he, if_pos rfl] at hsn
        replace hsn := Lib.hid hsn
        have hc : s[k] = 34 ∨ s[k] = 92 := by simpa [isEsc] using he
        replace he := Lib.hid he
        have hal2 : (34 :: escL (s.data.toList.take k)).length + 2 ≤ 1000 := by simp; omega
        rcases hc with hc | hc
        · have hc1 : ((s[k].toNat : Int) == 34) = true := by rw [hc]; rfl
          replace hc := Lib.hid hc
          go_wp2_with (at_builtin; refine wpList_own1 rfl _ _ rfl 92 hown rfl rfl ?c1 hsz ?_)
          case c1 => omega
          intro v' w2 hown' hb2
          have hz2 := hb2.size
          go_wp2_with (at_builtin; refine wpList_own1 rfl _ _ rfl s[k] hown' rfl rfl ?c2 (by omega) ?_)
          case c2 => simp only [List.length_append, List.length_cons, List.length_nil] at hal2 ⊢; omega
          intro v'' w3 hown'' hb3
          have hz3 := hb3.size
          go_wp2
          go_roundw
          case rel => exact ⟨k + 1, by omega, by go_num, by rw [hsn.out]; simpa using hown'', (hbw.trans (hb2.mono hz0)).trans (hb3.mono hz0), by omega⟩
          case measure => simp [intOf]; omega
        · have hc1 : ((s[k].toNat : Int) == 34) = false := by rw [hc]; rfl
          have hc2 : ((s[k].toNat : Int) == 92) = true := by rw [hc]; rfl
          replace hc := Lib.hid hc
          go_wp2_with (at_builtin; refine wpList_own1 rfl _ _ rfl 92 hown rfl rfl ?c1 hsz ?_)
          case c1 => omega
          intro v' w2 hown' hb2
          have hz2 := hb2.size
          go_wp2_with (at_builtin; refine wpList_own1 rfl _ _ rfl s[k] hown' rfl rfl ?c2 (by omega) ?_)
          case c2 => simp only [List.length_append, List.length_cons, List.length_nil] at hal2 ⊢; omega
          intro v'' w3 hown'' hb3
          have hz3 := hb3.size
          go_wp2
          go_roundw
          case rel => exact ⟨k + 1, by omega, by go_num, by rw [hsn.out]; simpa using hown'', (hbw.trans (hb2.mono hz0)).trans (hb3.mono hz0), by omega⟩
          case measure => simp [intOf]; omega
      | false =>
        rw [he, if_neg (by simp)] at hsn
        replace hsn := Lib.hid hsn
        have hc1 : ((s[k].toNat : Int) == 34) = false := by
          have : s[k] ≠ 34 := by rintro e; rw [e] at he; simp [isEsc] at he
          rw [beq_eq_false_iff_ne]
          intro e
          exact this (UInt8.toNat_inj.1 (by simp; omega))
        have hc2 : ((s[k].toNat : Int) == 92) = false := by
          have : s[k] ≠ 92 := by rintro e; rw [e] at he; simp [isEsc] at he
          rw [beq_eq_false_iff_ne]
          intro e
          exact this (UInt8.toNat_inj.1 (by simp; omega))
        replace he := Lib.hid he
        go_wp2_with (at_builtin; refine wpList_own1 rfl _ _ rfl s[k] hown rfl rfl ?c1 hsz ?_)
        case c1 => simp; omega
        intro v' w2 hown' hb2
        have hz2 := hb2.size
        go_wp2
        go_roundw
        case rel => exact ⟨k + 1, by omega, by go_num, by rw [hsn.out]; exact hown', hbw.trans (hb2.mono hz0), by omega⟩
        case measure => simp [intOf]; omega
    · obtain rfl : k = s.size := by omega
      rw [take_all s] at hown hal
      have hln : s.data.toList.length = s.size := rfl
      go_wp2_with (at_builtin; refine wpList_own1 rfl _ _ rfl 34 hown rfl rfl ?c1 hsz ?_)
      case c1 => simp; omega
      intro v' w2 hown' hb2
      have hcv := Own.string hown'
      replace hown' := Lib.hid hown'
      go_wp2
      go_ret2
      exact ⟨rfl, hbw.trans (hb2.mono hz0)⟩

theorem refQuote_bad (s : ByteArray) (w : World) (hm : s.size ≤ 9223372036854775807) (hv : validB s = false) (hT : Tabs w) :
    Calls Tryz.prog 22 #[.string s] w fun e w' => e = .returned (.tuple #[.string ⟨#[]⟩, .int .i64 2]) ∧ Below w.heap.size w w' := by
  go_enter Tryz.func22, Tryz.ntmps22
  go_wp2_with (go_at_call 42; refine (refValid_any _ _ hm hT).mono ?_; rintro e w0 ⟨rfl, hb0⟩)
  go_ret2
  exact ⟨rfl, hb0⟩
end Go.Proofs.YtmijfcdmnibnpaaGreatDoor
/- Contract of the document's source form of a value. -/
namespace Go.Proofs.YtmijfcdmnibnpaaGreatDoor
open Go Go.RowKit

def quoteB (s : ByteArray) : ByteArray := ⟨(quoteL s.data.toList).toArray⟩
/-- The source form of the first n texts of a list, without the closing sign. -/
def fmtTo (l : List ByteArray) : Nat → ByteArray
  | 0 => ⟨#[91]⟩
  | n + 1 => (if n = 0 then fmtTo l n else fmtTo l n ++ ⟨#[44, 32]⟩) ++ quoteB (l.getD n ByteArray.empty)
def formatP (x : Val) : ByteArray × Int :=
  if checkE x ≠ 0 then (⟨#[]⟩, checkE x)
  else if x.kind = 1 then (if x.num = 1 then ⟨#[116, 114, 117, 101]⟩ else ⟨#[102, 97, 108, 115, 101]⟩, 0)
  else if x.kind = 2 then (⟨(Lib.itoa x.num).toArray⟩, 0)
  else if x.kind = 3 then (quoteB x.text, 0)
  else if x.kind = 4 then (x.text, 0)
  else (fmtTo x.list x.list.length ++ ⟨#[93]⟩, 0)
theorem valid_size {s : ByteArray} (h : validB s = true) : s.size ≤ 200 := by
  simp only [validB, Bool.and_eq_true, decide_eq_true_eq] at h
  exact h.1.1
theorem quoteB_size {s : ByteArray} (h : validB s = true) : (quoteB s).size ≤ 402 := by
  have h1 := valid_size h
  have h2 := escL_length s.data.toList
  have h3 : s.data.toList.length = s.size := rfl
  show (quoteL s.data.toList).toArray.size ≤ 402
  simp only [List.size_toArray, quoteL, List.length_cons, List.length_append, List.length_nil]
  omega
theorem fmtTo_size (l : List ByteArray) (hv : l.all validB = true) : ∀ n, n ≤ l.length → (fmtTo l n).size ≤ 1 + 404 * n
  | 0, _ => by show (1 : Nat) ≤ 1 + 404 * 0; omega
  | n + 1, h => by
    have ih := fmtTo_size l hv n (by omega)
    have hq : validB (l.getD n ByteArray.empty) = true := by
      have : l.getD n ByteArray.empty = l[n]'(by omega) := by simp [List.getD, show n < l.length by omega]
      rw [this]
      exact List.all_eq_true.1 hv _ (List.getElem_mem _)
    have h2 := quoteB_size hq
    unfold fmtTo
    rw [ByteArray.size_append]
    split
    · omega
    · rw [ByteArray.size_append]
      have : (⟨#[44, 32]⟩ : ByteArray).size = 2 := rfl
      omega
theorem checkE_parts (x : Val) (h : checkE x = 0) : (x.kind = 2 → -1099511627776 ≤ x.num ∧ x.num ≤ 1099511627776) ∧ (x.kind = 3 → validB x.text = true) ∧ (x.kind = 5 → x.list.length ≤ 20 ∧ x.list.all validB = true) := by
  have hk := checkE_kind x h
  unfold checkE at h
  rw [if_neg (by omega)] at h
  by_cases hp : shapeP x
  · rw [if_neg (by simpa using hp)] at h
    refine ⟨fun e => ?_, fun e => ?_, fun e => ?_⟩
    · rw [if_neg (by omega), if_pos e] at h
      by_cases g : x.num < -1099511627776 ∨ 1099511627776 < x.num
      · rw [if_pos g] at h; cases h
      · omega
    · rw [if_neg (by omega), if_neg (by omega), if_pos e] at h
      by_cases g : validB x.text = true
      · exact g
      · rw [if_neg g] at h; cases h
    · rw [if_neg (by omega), if_neg (by omega), if_neg (by omega), if_neg (by omega)] at h
      unfold listE at h
      by_cases g : 20 < x.list.length
      · rw [if_pos g] at h; cases h
      · rw [if_neg g] at h
        by_cases g2 : x.list.all validB = true
        · exact ⟨by omega, g2⟩
        · rw [if_neg g2] at h; cases h
  · rw [if_pos hp] at h; cases h
/-- One boxed value. -/
structure Box1 (x : Val) (a0 : Option Addr) (ca B : Nat) (w wr : World) : Prop where
  one : wr.heap[B]? = some (.cells #[.int .i64 x.kind, .int .i64 x.num, .string x.text, .slice a0 (x.list.length : Nat) ca] 29 (0, 0))
  below : Below B w wr
theorem Box1.lt {x : Val} {a0 : Option Addr} {ca B : Nat} {w wr : World} (h : Box1 x a0 ca B w wr) : B < wr.heap.size := (Array.getElem?_eq_some_iff.1 h.one).1
theorem Box1.grown {x : Val} {a0 : Option Addr} {ca B : Nat} {w wr w' : World} (h : Box1 x a0 ca B w wr) (hb : Below wr.heap.size wr w') : Box1 x a0 ca B w w' :=
  ⟨(hb.block B h.lt).trans h.one, h.below.trans (hb.mono (Nat.le_of_lt h.lt))⟩
set_option maxHeartbeats 8000000 in
theorem refFormat_any (x : Val) (a0 : Option Addr) (cap : Nat) (w : World) (hx : x.text.size ≤ 9223372036854775806) (hxl : x.list.length ≤ 9223372036854775806) (hxs : ∀ s ∈ x.list, s.size ≤ 9223372036854775806) (hT : Tabs w) (hA : TextsAre a0 x.list w) :
    Calls Tryz.prog 6 #[x.agg a0 cap] w fun e w' => e = .returned (.tuple #[.string (formatP x).1, .int .i64 (formatP x).2]) ∧ Below w.heap.size w w' := by
  have hs0 : Box1 x a0 cap w.heap.size w (w.alloc (.cells #[.int .i64 x.kind, .int .i64 x.num, .string x.text, .slice a0 (x.list.length : Nat) cap] 29)) := ⟨heap_alloc_new w _, (Below.refl _ w).alloc (Nat.le_refl _) _⟩
  have hcx := Lib.hid (fun W (h : Below w.heap.size w W) => refCheck_any x a0 cap W hx hxl hxs (hT.below h) (hA.below (Nat.le_refl _) h))
  have kx := Lib.hid (checkE_kind x)
  have px := Lib.hid (checkE_parts x)
  obtain ⟨r, hr⟩ : ∃ r, formatP x = r := ⟨_, rfl⟩
  rw [hr]
  unfold formatP at hr
  generalize checkE x = ex at hcx hr kx px
  clear hxs hxl hx
  obtain ⟨k, n, t, l⟩ := x
  unfold Val.agg at hcx ⊢
  replace hcx := Lib.hid hcx.out
  simp only at hr hs0 hA
  by_cases h1 : ex = 0
  · subst h1
    rw [if_neg (by simp)] at hr
    have kx1 : 1 ≤ k := (kx.out rfl).1
    have kx5 : k ≤ 5 := (kx.out rfl).2
    have pp := px.out rfl
    simp only at pp
    replace pp := Lib.hid pp
    clear kx px
    go_enter Tryz.func6, Tryz.ntmps6
    go_upto_region 1 with (fail)
    generalize w.alloc (.cells #[.int .i64 k, .int .i64 n, .string t, .slice a0 l.length cap] 29) = w0 at hs0 ⊢
    have p0 : w0.cell? ⟨w.heap.size, 0, none⟩ = some (.int .i64 k) := by rw [Lib.cell_of_heap hs0.one]; rfl
    have p1 : w0.cell? ⟨w.heap.size, 1, none⟩ = some (.int .i64 n) := by rw [Lib.cell_of_heap hs0.one]; rfl
    have p2 : w0.cell? ⟨w.heap.size, 2, none⟩ = some (.string t) := by rw [Lib.cell_of_heap hs0.one]; rfl
    have p3 : w0.cell? ⟨w.heap.size, 3, none⟩ = some (.slice a0 l.length cap) := by rw [Lib.cell_of_heap hs0.one]; rfl
    go_upto_region 4 with (go_at_call 20; go_fit (hcx.out _ hs0.below); rintro e w1 ⟨rfl, hb1⟩; have hs1 := hs0.grown hb1; have q0 : w1.cell? ⟨w.heap.size, 0, none⟩ = some (.int .i64 k) := (by rw [Lib.cell_of_heap hs1.one]; rfl); have q1 : w1.cell? ⟨w.heap.size, 1, none⟩ = some (.int .i64 n) := (by rw [Lib.cell_of_heap hs1.one]; rfl); have q2 : w1.cell? ⟨w.heap.size, 2, none⟩ = some (.string t) := (by rw [Lib.cell_of_heap hs1.one]; rfl); have q3 : w1.cell? ⟨w.heap.size, 3, none⟩ = some (.slice a0 l.length cap) := (by rw [Lib.cell_of_heap hs1.one]; rfl))
    clear p0 p1 p2 p3 hs0 hb1 hcx
    have hkk : k = 1 ∨ k = 2 ∨ k = 3 ∨ k = 4 ∨ k = 5 := by omega
    clear kx1 kx5
    rcases hkk with rfl | rfl | rfl | rfl | rfl
    · rw [if_pos rfl] at hr
      by_cases g : n = 1
      · subst g
        rw [if_pos rfl] at hr
        replace hr := Lib.hid hr
        go_wp2
        go_ret2
        exact ⟨by rw [← hr.out]; rfl, hs1.below⟩
      · rw [if_neg g] at hr
        replace hr := Lib.hid hr
        have g1 : (n == 1) = false := by rw [beq_eq_false_iff_ne]; exact g
        go_wp2
        go_ret2
        exact ⟨by rw [← hr.out]; rfl, hs1.below⟩
    · rw [if_neg (by decide), if_pos rfl] at hr
      replace hr := Lib.hid hr
      have hnb := pp.out.1 rfl
      have hnum := Lib.hid (fun W => refNumber_any n W (by omega) (by omega))
      clear hnb
      go_wp2_with (go_at_call 21; refine (hnum.out _).mono ?_; rintro e w2 ⟨rfl, rfl⟩)
      go_ret2
      exact ⟨by rw [← hr.out]; rfl, hs1.below⟩
    · rw [if_neg (by decide), if_neg (by decide), if_pos rfl] at hr
      replace hr := Lib.hid hr
      have hq := Lib.hid (refQuote_loop t w1 (pp.out.2.1 rfl) (hT.below hs1.below))
      go_wp2_with (go_at_call 22; refine hq.out.mono ?_; rintro e w2 ⟨rfl, hb2⟩)
      go_ret2
      exact ⟨by rw [← hr.out]; rfl, (hs1.grown hb2).below⟩
    · rw [if_neg (by decide), if_neg (by decide), if_neg (by decide), if_pos rfl] at hr
      replace hr := Lib.hid hr
      go_wp2
      go_ret2
      exact ⟨by rw [← hr.out]; rfl, hs1.below⟩
    · rw [if_neg (by decide), if_neg (by decide), if_neg (by decide), if_neg (by decide)] at hr
      replace hr := Lib.hid hr
      obtain ⟨hl20, hall⟩ := pp.out.2.2 rfl
      have hA1 := hA.below (Nat.le_refl _) hs1.below
      have hT1 := hT.below hs1.below
      have hszs := Lib.hid (fmtTo_size l hall)
      replace hall := Lib.hid hall
      go_wp2
      go_loopw [5, 6, 7, 8] (fun s i _ _ wr => ∃ m : Nat, m ≤ l.length ∧ i = .int .i64 m ∧ s = .string (fmtTo l m) ∧ Below w1.heap.size w1 wr) (fun _ i _ _ _ => l.length - (intOf i).toNat)
      case atStart => exact ⟨0, Nat.zero_le _, rfl, rfl, Below.refl _ _⟩
      case round =>
        obtain ⟨m, hm, rfl, rfl, hbw⟩ := hrel
        have hsw := hs1.grown hbw
        have u0 : wr.cell? ⟨w.heap.size, 0, none⟩ = some (.int .i64 5) := (by rw [Lib.cell_of_heap hsw.one]; rfl)
        have u1 : wr.cell? ⟨w.heap.size, 1, none⟩ = some (.int .i64 n) := (by rw [Lib.cell_of_heap hsw.one]; rfl)
        have u2 : wr.cell? ⟨w.heap.size, 2, none⟩ = some (.string t) := (by rw [Lib.cell_of_heap hsw.one]; rfl)
        have u3 : wr.cell? ⟨w.heap.size, 3, none⟩ = some (.slice a0 l.length cap) := (by rw [Lib.cell_of_heap hsw.one]; rfl)
        have hsz := hszs.out m hm
        clear q0 q1 q2 q3
        by_cases hlt : m < l.length
        · obtain ⟨b, off, rfl, hbk, hc⟩ := hA1 m hlt
          have hcw := hbw.cell (p := ⟨b, off + m, none⟩) hbk
          rw [hc] at hcw
          have hlt' : (m : Int) < (l.length : Int) := by omega
          have hvm : validB l[m] = true := List.all_eq_true.1 hall.out _ (List.getElem_mem _)
          have hq := refQuote_loop l[m] wr hvm (hT1.below hbw)
          have hqs := quoteB_size hvm
          have hnx : fmtTo l (m + 1) = (if m = 0 then fmtTo l m else fmtTo l m ++ ⟨#[44, 32]⟩) ++ quoteB l[m] := by
            show (if m = 0 then fmtTo l m else fmtTo l m ++ ⟨#[44, 32]⟩) ++ quoteB (l.getD m ByteArray.empty) = _
            simp [List.getD, hlt]
          change Calls _ _ _ _ (fun e w' => e = .returned (.tuple #[.string (quoteB l[m]), .int .i64 0]) ∧ _) at hq
          replace hc := Lib.hid hc
          replace hvm := Lib.hid hvm
          generalize quoteB l[m] = qs at hq hqs hnx
          generalize l[m] = s at hcw hq
          replace hq := Lib.hid hq
          generalize fmtTo l m = f at hsz hnx ⊢
          have hz1 : ¬ 9223372036854775807 < f.size + 2 := by omega
          have hz2 : ¬ 9223372036854775807 < f.size + qs.size := by omega
          have hz3 : ¬ 9223372036854775807 < f.size + 2 + qs.size := by omega
          by_cases h0 : m = 0
          · rw [if_pos h0] at hnx
            replace hnx := Lib.hid hnx
            have h0' : ¬ (0 : Int) < (m : Int) := by omega
            replace h0 := Lib.hid h0
            go_wp2_with (go_at_call 22; refine hq.out.mono ?_; rintro e w2 ⟨rfl, hb2⟩)
            go_roundw
            case rel => exact ⟨m + 1, by omega, by go_num, by rw [hnx.out], hbw.trans (hb2.mono hbw.size)⟩
            case measure => simp [intOf]; omega
          · rw [if_neg h0] at hnx
            replace hnx := Lib.hid hnx
            have h0' : (0 : Int) < (m : Int) := by omega
            go_wp2_with (go_at_call 22; refine hq.out.mono ?_; rintro e w2 ⟨rfl, hb2⟩)
            go_roundw
            case rel => exact ⟨m + 1, by omega, by go_num, by rw [hnx.out], hbw.trans (hb2.mono hbw.size)⟩
            case measure => simp [intOf]; omega
        · obtain rfl : m = l.length := by omega
          have hlt' : ¬ (l.length : Int) < (l.length : Int) := by omega
          generalize fmtTo l l.length = f at hsz hr ⊢
          have hz1 : ¬ 9223372036854775807 < f.size + 1 := by omega
          go_wp2
          go_ret2
          exact ⟨by rw [← hr.out]; rfl, hsw.below⟩
  · rw [if_pos h1] at hr
    replace hr := Lib.hid hr
    clear px kx
    go_enter Tryz.func6, Tryz.ntmps6
    go_upto_region 1 with (fail)
    generalize w.alloc (.cells #[.int .i64 k, .int .i64 n, .string t, .slice a0 l.length cap] 29) = w0 at hs0 ⊢
    have p0 : w0.cell? ⟨w.heap.size, 0, none⟩ = some (.int .i64 k) := by rw [Lib.cell_of_heap hs0.one]; rfl
    have p1 : w0.cell? ⟨w.heap.size, 1, none⟩ = some (.int .i64 n) := by rw [Lib.cell_of_heap hs0.one]; rfl
    have p2 : w0.cell? ⟨w.heap.size, 2, none⟩ = some (.string t) := by rw [Lib.cell_of_heap hs0.one]; rfl
    have p3 : w0.cell? ⟨w.heap.size, 3, none⟩ = some (.slice a0 l.length cap) := by rw [Lib.cell_of_heap hs0.one]; rfl
    go_wp2_with (go_at_call 20; go_fit (hcx.out _ hs0.below); rintro e w1 ⟨rfl, hb1⟩; have hs1 := hs0.grown hb1; have q0 : w1.cell? ⟨w.heap.size, 0, none⟩ = some (.int .i64 k) := (by rw [Lib.cell_of_heap hs1.one]; rfl); have q1 : w1.cell? ⟨w.heap.size, 1, none⟩ = some (.int .i64 n) := (by rw [Lib.cell_of_heap hs1.one]; rfl); have q2 : w1.cell? ⟨w.heap.size, 2, none⟩ = some (.string t) := (by rw [Lib.cell_of_heap hs1.one]; rfl); have q3 : w1.cell? ⟨w.heap.size, 3, none⟩ = some (.slice a0 l.length cap) := (by rw [Lib.cell_of_heap hs1.one]; rfl))
    go_ret2
    exact ⟨by rw [← hr.out]; rfl, hs1.below⟩
end Go.Proofs.YtmijfcdmnibnpaaGreatDoor
