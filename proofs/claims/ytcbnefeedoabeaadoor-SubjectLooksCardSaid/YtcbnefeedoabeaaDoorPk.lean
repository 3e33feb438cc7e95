/- Contracts of the law's small, awake and names. The kinds and keys of a subject. Equality of two pairs of texts. -/
import Derived.Test.YtcbnefeedoabeaaDoorPf
import Derived.Test.YtcbnefeedoabeaaDoorPh
import Derived.Deep.RegionHeld3
import Derived.Test.YtcbnefeedoabeaaDoorProg
import Derived.Laws.StructEq
import Derived.WalkKit
import Derived.Test.YtcbnefeedoabeaaDoorPa
/- Contracts of the law's small, awake and names. -/
namespace Go.Proofs.YtcbnefeedoabeaaDoor
open Go Go.RowKit

/-- A subject that is looked at. -/
def smallS (l : List Ctx) : Bool := decide (l.length ≤ 8) && l.all fun x => decide (x.attrs.length ≤ 30) && decide (x.key.size ≤ 400)
theorem smallS_big {l : List Ctx} (h : 8 < l.length) : smallS l = false := by simp [smallS]; omega
theorem smallS_one {l : List Ctx} (i : Nat) (hi : i < l.length) (h : 30 < l[i].attrs.length ∨ 400 < l[i].key.size) : smallS l = false := by
  unfold smallS
  rw [Bool.and_eq_false_iff]
  right
  rw [List.all_eq_false]
  exact ⟨l[i], List.getElem_mem hi, by simp; omega⟩
theorem smallS_yes {l : List Ctx} (h : l.length ≤ 8) (h2 : ∀ i (hi : i < l.length), l[i].attrs.length ≤ 30 ∧ l[i].key.size ≤ 400) : smallS l = true := by
  unfold smallS
  rw [Bool.and_eq_true, decide_eq_true_eq, List.all_eq_true]
  refine ⟨h, fun x hx => ?_⟩
  obtain ⟨i, hi, rfl⟩ := List.getElem_of_mem hx
  simp [h2 i hi]
theorem smallS_len {l : List Ctx} (h : smallS l = true) : l.length ≤ 8 := by
  unfold smallS at h
  rw [Bool.and_eq_true, decide_eq_true_eq] at h
  exact h.1
set_option maxHeartbeats 4000000 in
theorem small_any {P : Nat → Prop} (a0 : Option Addr) (cp : Nat) (l : List Ctx) (w : World) (hA : CtxsP P a0 cp l w) (hF : ∀ x ∈ l, FitC x) (hl : l.length ≤ 9223372036854775000) :
    Calls Tryd.prog 7 #[.agg #[.slice a0 (l.length : Nat) cp]] w fun e w' => e = .returned (.bool (smallS l)) ∧ Below w.heap.size w w' := by
  have hb0 := (Below.refl w.heap.size w).alloc (Nat.le_refl _) (.cells #[.slice a0 (l.length : Nat) cp] 24)
  by_cases h8 : 8 < l.length
  · rw [smallS_big h8]
    replace hb0 := Lib.hid hb0
    go_enter Tryd.func7, Tryd.ntmps7
    go_wp2
    go_ret
    exact ⟨rfl, hb0.out⟩
  · have hz0 := heap_alloc_new w (.cells #[.slice a0 (l.length : Nat) cp] 24)
    have s0 : (w.alloc (.cells #[.slice a0 (l.length : Nat) cp] 24)).cell? ⟨w.heap.size, 0, none⟩ = some (.slice a0 l.length cp) := by rw [Lib.cell_of_heap hz0]; rfl
    have hno := Lib.hid (fun i (hi : i < l.length) h => smallS_one (l := l) i hi h)
    have hyes := Lib.hid (fun h2 => smallS_yes (l := l) (by omega) h2)
    obtain ⟨r, hr⟩ : ∃ r, smallS l = r := ⟨_, rfl⟩
    rw [hr]
    rw [hr] at hno hyes
    replace hr := Lib.hid hr
    replace hz0 := Lib.hid hz0
    go_enter Tryd.func7, Tryd.ntmps7
    go_wp2
    generalize w.alloc (.cells #[.slice a0 (l.length : Nat) cp] 24) = w0 at hb0 s0 ⊢
    go_loop [3] (fun i => ∃ n : Nat, n ≤ l.length ∧ i = .int .i64 n ∧ Hid (∀ j (hj : j < l.length), j < n → l[j].attrs.length ≤ 30 ∧ l[j].key.size ≤ 400)) (fun i => l.length - (intOf i).toNat)
    case atStart => exact ⟨0, Nat.zero_le _, rfl, Lib.hid (fun j _ h => by omega)⟩
    case round =>
      obtain ⟨n, hn, rfl, hsm⟩ := hrel
      by_cases hlt : n < l.length
      · obtain ⟨b, off, rfl, hP, hbk, hat⟩ := hA.at_ n hlt
        obtain ⟨q0, q1, pp, cc, q2, q5⟩ := hat.same (SameB.of_below (P := P) hb0) hP hbk
        have hlt' : (n : Int) < (l.length : Int) := by omega
        have hno2 := Lib.hid (hno.out n hlt)
        have hstep := Lib.hid (fun (h : l[n].attrs.length ≤ 30 ∧ l[n].key.size ≤ 400) (j : Nat) (hj : j < l.length) (hlt2 : j < n + 1) => (show l[j].attrs.length ≤ 30 ∧ l[j].key.size ≤ 400 from if h3 : j < n then hsm.out j hj h3 else (by have e : j = n := (by omega); subst e; exact h)))
        have hFx := hF l[n] (List.getElem_mem hlt)
        have g1 := hFx.key
        have g2 := hFx.attrs
        clear hno hyes hsm
        obtain ⟨x, hx⟩ : ∃ x, l[n] = x := ⟨_, rfl⟩
        rw [hx] at q0 q1 q2 q5 hno2 g1 g2
        have hx2 := Lib.hid hx
        clear hx hat hFx
        by_cases h1 : 30 < x.attrs.length
        · have := hno2.out (.inl h1)
          subst this
          have h1' : (30 : Int) < (x.attrs.length : Int) := by omega
          go_wp2
          go_ret
          exact ⟨rfl, hb0⟩
        · have h1' : ¬ (30 : Int) < (x.attrs.length : Int) := by omega
          by_cases h2 : 400 < x.key.size
          · have := hno2.out (.inr h2)
            subst this
            have h2' : (400 : Int) < (x.key.size : Int) := by omega
            go_wp2
            go_ret
            exact ⟨rfl, hb0⟩
          · have h2' : ¬ (400 : Int) < (x.key.size : Int) := by omega
            go_wp2
            go_round
            case rel => exact ⟨n + 1, by omega, by go_num, Lib.hid (hstep.out (by rw [hx2.out]; omega))⟩
            case measure => simp [intOf]; omega
      · obtain rfl : n = l.length := by omega
        have hlt' : ¬ (l.length : Int) < (l.length : Int) := by omega
        have := hyes.out (fun i hi => hsm.out i hi hi)
        subst this
        go_wp2
        go_ret
        exact ⟨rfl, hb0⟩
def exL : List Ctx := [⟨⟨#[100, 101, 118, 105, 99, 101]⟩, ⟨#[100, 49]⟩, []⟩, ⟨⟨#[117, 115, 101, 114]⟩, ⟨#[97, 110, 110]⟩, []⟩]
theorem ex_canon : canonP exL = (⟨#[100, 101, 118, 105, 99, 101, 58, 34, 100, 49, 34, 44, 117, 115, 101, 114, 58, 34, 97, 110, 110, 34]⟩, 0) := by decide +kernel
theorem ex_ok : subjE exL = 0 := by decide +kernel
theorem ex_fit : ∀ x ∈ exL, FitC x := by
  intro x hx
  simp only [exL, List.mem_cons, List.not_mem_nil, or_false] at hx
  rcases hx with rfl | rfl
  · exact ⟨by decide, by decide, by decide, fun a ha => by simp at ha⟩
  · exact ⟨by decide, by decide, by decide, fun a ha => by simp at ha⟩
theorem attrs_nil (P : Nat → Prop) (w : World) : AttrsP P none 0 [] w := ⟨fun _ => rfl, Nat.le_refl _, fun i hi => by simp at hi⟩
theorem ex_row (w : World) : CtxsP (fun _ => True) (some ⟨w.heap.size, 0, none⟩) 2 exL (w.alloc (.cells #[.string ⟨#[100, 101, 118, 105, 99, 101]⟩, .string ⟨#[100, 49]⟩, .slice none 0 0, .string ⟨#[117, 115, 101, 114]⟩, .string ⟨#[97, 110, 110]⟩, .slice none 0 0] 40)) := by
  refine ⟨(fun h => by cases h), by decide, fun i hi => ?_⟩
  have hz := heap_alloc_new w (.cells #[.string ⟨#[100, 101, 118, 105, 99, 101]⟩, .string ⟨#[100, 49]⟩, .slice none 0 0, .string ⟨#[117, 115, 101, 114]⟩, .string ⟨#[97, 110, 110]⟩, .slice none 0 0] 40)
  refine ⟨w.heap.size, 0, rfl, trivial, by simp, ?_⟩
  have hi2 : i < 2 := hi
  match i, hi2 with
  | 0, _ => exact ⟨by rw [Lib.cell_of_heap hz]; rfl, by rw [Lib.cell_of_heap hz]; rfl, none, 0, by rw [Lib.cell_of_heap hz]; rfl, attrs_nil _ _⟩
  | 1, _ => exact ⟨by rw [Lib.cell_of_heap hz]; rfl, by rw [Lib.cell_of_heap hz]; rfl, none, 0, by rw [Lib.cell_of_heap hz]; rfl, attrs_nil _ _⟩
  | i + 2, h => omega
set_option maxHeartbeats 4000000 in
set_option maxRecDepth 100000 in
theorem awake_any (w : World) (E : Env w) : Calls Tryd.prog 6 #[] w fun e w' => e = .returned (.bool true) ∧ Below w.heap.size w w' := by
  have hrow := ex_row w
  have hb0 := (Below.refl w.heap.size w).alloc (Nat.le_refl _) (.cells #[.string ⟨#[100, 101, 118, 105, 99, 101]⟩, .string ⟨#[100, 49]⟩, .slice none 0 0, .string ⟨#[117, 115, 101, 114]⟩, .string ⟨#[97, 110, 110]⟩, .slice none 0 0] 40)
  have hlt : (w.alloc (.cells #[.string ⟨#[100, 101, 118, 105, 99, 101]⟩, .string ⟨#[100, 49]⟩, .slice none 0 0, .string ⟨#[117, 115, 101, 114]⟩, .string ⟨#[97, 110, 110]⟩, .slice none 0 0] 40)).heap.size = w.heap.size + 1 := by simp
  go_enter Tryd.func6, Tryd.ntmps6
  go_upto_region 2 with (fail)
  generalize w.alloc (.cells #[.string ⟨#[100, 101, 118, 105, 99, 101]⟩, .string ⟨#[100, 49]⟩, .slice none 0 0, .string ⟨#[117, 115, 101, 114]⟩, .string ⟨#[97, 110, 110]⟩, .slice none 0 0] 40) = w0 at hrow hb0 hlt ⊢
  have hb1 := (Below.refl w0.heap.size w0).alloc (Nat.le_refl _) (.cells #[.slice (some ⟨w.heap.size, 0, none⟩) 2 2] 24)
  have hz1 := heap_alloc_new w0 (.cells #[.slice (some ⟨w.heap.size, 0, none⟩) 2 2] 24)
  have hbw := hb0.trans (hb1.mono hb0.size)
  have hrow1 := hrow.same (SameB.of_below (P := fun _ => True) hb1)
  have hg1 : w0.heap.size < (w0.alloc (.cells #[.slice (some ⟨w.heap.size, 0, none⟩) 2 2] 24)).heap.size := by simp
  generalize w0.alloc (.cells #[.slice (some ⟨w.heap.size, 0, none⟩) 2 2] 24) = w1 at hz1 hbw hrow1 hg1 ⊢
  rw [hlt] at hz1 hg1
  generalize w.heap.size + 1 = g at hz1 hg1 ⊢
  have s1 : w1.cell? ⟨g, 0, none⟩ = some (.slice (some ⟨w.heap.size, 0, none⟩) 2 2) := by rw [Lib.cell_of_heap hz1]; rfl
  have hc := canonical_any (P := fun _ => True) (some ⟨w.heap.size, 0, none⟩) 2 exL w1 (E.below hbw) hrow1 ex_fit (by decide)
  rw [ex_canon] at hc
  replace hc := Lib.hid hc
  have hk := Lib.hid (fun W (h : Env W) (h2 : CtxsP (fun _ => True) (some ⟨w.heap.size, 0, none⟩) 2 exL W) => (by have := check_subject (P := fun _ => True) (some ⟨w.heap.size, 0, none⟩) 2 exL W h h2 ex_fit (by decide); rw [ex_ok] at this; exact this : Calls Tryd.prog 11 #[.agg #[.slice (some ⟨w.heap.size, 0, none⟩) 2 2]] W fun e w' => e = .returned (.int .i64 0) ∧ Below W.heap.size W w'))
  go_wp2_with (first
    | (go_at_call 20; refine hc.out.mono ?_; rintro e w2 ⟨rfl, hb2⟩; have s2 := (hb2.cell (p := ⟨g, 0, none⟩) hg1).trans s1; have hbw2 := hbw.trans (hb2.mono hbw.size); have hrow2 := hrow1.same (SameB.of_below (P := fun _ => True) hb2))
    | (go_at_call 11; refine (hk.out _ (E.below hbw2) hrow2).mono ?_; rintro e w3 ⟨rfl, hb3⟩))
  go_ret
  exact ⟨rfl, hbw2.trans (hb3.mono hbw2.size)⟩
end Go.Proofs.YtcbnefeedoabeaaDoor
/- The kinds and keys of a subject. -/
namespace Go.Proofs.YtcbnefeedoabeaaDoor
open Go Go.RowKit

/-- A kind and a key as a pair lies in memory. -/
theorem infoPair : (Tryd.prog.info? 54).map (fun i => (i.zero, i.size, i.bytes)) = some (some (.agg #[.string ⟨#[]⟩, .string ⟨#[]⟩]), 2, 32) := by kernel_rfl
def eltN : Elt (ByteArray × ByteArray) where
  T := 54
  S := 52
  k := 2
  size := 32
  zero := .agg #[.string ⟨#[]⟩, .string ⟨#[]⟩]
  cells e := [.string e.1, .string e.2]
  ok _ _ _ := True
  len _ := rfl
  one e u hu := by
    simp at hu
    rcases hu with rfl | rfl <;> rfl
  pos := by decide
  fit := by decide
  under := Tryd.underlying52
  info := infoPair
  zlen := rfl
  same _ _ := trivial
  mono _ _ := trivial
theorem names_snoc (l : List Ctx) (n : Nat) (h : n < l.length) : namesOf (l.take (n + 1)) = namesOf (l.take n) ++ [(l[n].kind, l[n].key)] := by
  unfold namesOf
  rw [List.take_succ_eq_append_getElem h, List.map_append]
  rfl
set_option maxHeartbeats 8000000 in
set_option maxRecDepth 100000 in
theorem names_any {P : Nat → Prop} (a0 : Option Addr) (cp : Nat) (l : List Ctx) (w : World) (hA : CtxsP P a0 cp l w) (hl : l.length ≤ 100) :
    Calls Tryd.prog 22 #[.agg #[.slice a0 (l.length : Nat) cp]] w fun e w' => ∃ v, e = .returned v ∧ GRow eltN (fun _ => True) (namesOf l) w.heap.size v w' ∧ Below w.heap.size w w' := by
  have hb0 := (Below.refl w.heap.size w).alloc (Nat.le_refl _) (.cells #[.slice a0 (l.length : Nat) cp] 24)
  have hz0 := heap_alloc_new w (.cells #[.slice a0 (l.length : Nat) cp] 24)
  have hg0 : w.heap.size < (w.alloc (.cells #[.slice a0 (l.length : Nat) cp] 24)).heap.size := by simp
  go_enter Tryd.func22, Tryd.ntmps22
  go_wp2
  generalize w.alloc (.cells #[.slice a0 (l.length : Nat) cp] 24) = w0 at hb0 hz0 hg0 ⊢
  go_loopw [3, 4] (fun v i wr => ∃ n : Nat, n ≤ l.length ∧ i = .int .i64 n ∧ GRow eltN (fun _ => True) (namesOf (l.take n)) w0.heap.size v wr ∧ Below w0.heap.size w0 wr) (fun _ i _ => l.length - (intOf i).toNat)
  case atStart => exact ⟨0, Nat.zero_le _, rfl, GRow.nil _ _ _ _, Below.refl _ _⟩
  case round =>
    obtain ⟨n, hn, rfl, hrow, hbl0⟩ := hrel
    have hbl := hb0.trans (hbl0.mono hb0.size)
    have sx : wr.cell? ⟨w.heap.size, 0, none⟩ = some (.slice a0 l.length cp) := by rw [Lib.cell_of_heap ((hbl0.block _ hg0).trans hz0)]; rfl
    have hgr : w.heap.size < wr.heap.size := Nat.lt_of_lt_of_le hg0 hbl0.size
    by_cases hlt : n < l.length
    · obtain ⟨b, off, rfl, hP, hbk, hat⟩ := hA.at_ n hlt
      obtain ⟨q0, q1, pp, cc, q2, q5⟩ := hat.same (SameB.of_below (P := P) hbl) hP hbk
      have hlt' : (n : Int) < (l.length : Int) := by omega
      have h0' : (0 : Int) ≤ (n : Int) := by omega
      have hsn := Lib.hid (names_snoc l n hlt)
      have hlen : (namesOf (l.take n)).length = n := by unfold namesOf; rw [List.length_map, List.length_take]; omega
      have hlen2 : (namesOf (l.take n)).length + 1 ≤ 1000 := by omega
      have hrow1 := hrow.below ((Below.refl wr.heap.size wr).drew)
      have hB1 := hbl0.size
      generalize namesOf (l.take n) = es at hrow1 hsn hlen hlen2 hrow
      have hx2 := Lib.hid (rfl : l[n] = l[n])
      obtain ⟨x, hx⟩ : ∃ x, l[n] = x := ⟨_, rfl⟩
      rw [hx] at q0 q1 q2 q5 hsn
      replace hx := Lib.hid hx
      have hbk2 : b < wr.heap.size := Nat.lt_of_lt_of_le hbk hbl.size
      clear hx2 hat
      have hal := fun o => (Below.refl wr.drew.heap.size wr.drew).alloc (Nat.le_refl _) o
      have hbk0 : b < w0.heap.size := Nat.lt_of_lt_of_le hbk hb0.size
      go_upto_region 5 with (fail)
      go_region_held3 (fun w' => w'.cell? ⟨w.heap.size, 0, none⟩ = some (.slice (some ⟨b, off, none⟩) l.length cp) ∧ w'.cell? ⟨b, off + n * 3, none⟩ = some (.string x.kind) ∧ w'.cell? ⟨b, off + n * 3 + 1, none⟩ = some (.string x.key))
        (first | go_keep | (exact ⟨((hal _).cell (p := ⟨w.heap.size, 0, none⟩) hgr).trans sx, ((hal _).cell (p := ⟨b, off + n * 3, none⟩) hbk2).trans q0, ((hal _).cell (p := ⟨b, off + n * 3 + 1, none⟩) hbk2).trans q1⟩) | (exact ⟨u0, u1, u2⟩))
        ((refine step_grow eltN (by rfl) _ _ (by rfl) (hrow1.below (hal _)) (by rfl) [(x.kind, x.key)] ⟨wr.heap.size, 0, none⟩ 1 1 (by rfl) (by rfl) (news_one eltN (x.kind, x.key) wr.drew) (fun _ _ => trivial) (by decide) hlen2 (Nat.le_trans hB1 (hal _).size) ?_; intro g5 c5 w5 hrow5 hgr5 hlies5 hb5; have u0 := (hb5.cell (p := ⟨w.heap.size, 0, none⟩) hg0).trans (((hal _).cell (p := ⟨w.heap.size, 0, none⟩) hgr).trans sx); have u1 := (hb5.cell (p := ⟨b, off + n * 3, none⟩) hbk0).trans (((hal _).cell (p := ⟨b, off + n * 3, none⟩) hbk2).trans q0); have u2 := (hb5.cell (p := ⟨b, off + n * 3 + 1, none⟩) hbk0).trans (((hal _).cell (p := ⟨b, off + n * 3 + 1, none⟩) hbk2).trans q1)))
      all_goals
        rw [hlen] at hrow5
        have hb6 := (hbl0.alloc hB1 _).drew.trans hb5
        go_wp2
        go_roundw
        case rel => exact ⟨n + 1, by omega, by go_num, by rw [hsn.out]; exact hrow5, hb6⟩
        case measure => simp [intOf]; omega
    · obtain rfl : n = l.length := by omega
      have hlt' : ¬ (l.length : Int) < (l.length : Int) := by omega
      rw [List.take_of_length_le (Nat.le_refl _)] at hrow
      go_wp2
      go_ret
      exact ⟨_, rfl, ⟨⟨hrow.own.1, by
        rcases hrow.own.2 with h | ⟨g, cap, cur, hv, hB, rest⟩
        · exact .inl h
        · exact .inr ⟨g, cap, cur, hv, Nat.le_trans (Nat.le_of_lt hg0) hB, rest⟩⟩, fun e he => trivial⟩, hbl⟩
end Go.Proofs.YtcbnefeedoabeaaDoor
/- Equality of two pairs of texts. -/
namespace Go.Proofs.YtcbnefeedoabeaaDoor
open Go Go.RowKit

theorem run_eql_pair (a b c d : ByteArray) (w : World) : (binOp .eql 54 (.agg #[.string a, .string b]) (.agg #[.string c, .string d])).run Tryd.prog w = .ok (.bool (decide ((a, b) = (c, d)))) w := by
  have hz : ∀ w, (sizeOf 9).run Tryd.prog w = .ok 1 w := Tryd.sizeOf9
  have pe : ∀ (d : Nat) (x y : ByteArray) (w : World), (Op.equalIn (d + 1) 9 (.string x) (.string y)).run Tryd.prog w = .ok (x.toList == y.toList) w := by
    intro d x y w
    simp [Op.equalIn, run_underlying Tryd.underlying9, beq_toListBytes]
  have hd : decide ((a, b) = (c, d)) = ((a.toList == c.toList) && (b.toList == d.toList)) := by
    by_cases h1 : a = c
    · by_cases h2 : b = d
      · rw [bytes_yes h1, bytes_yes h2]; simp [h1, h2]
      · rw [bytes_yes h1, bytes_no h2]; simp [h2]
    · rw [bytes_no h1]; simp [h1]
  rw [run_eql_struct, show (10000 : Nat) = 9998 + 2 from rfl, Op.equalIn]
  simp only [Sem.run_bind, run_underlying Tryd.underlying54, Result.andThen_ok, hz, Std.Legacy.Range.forIn_eq_forIn_range', Std.Legacy.Range.size, Nat.sub_zero, Nat.add_sub_cancel, Nat.div_one]
  rw [show List.range' 0 2 1 = [0, 1] from rfl, hd]
  have p0 : ∀ (x y : ByteArray) (w : World), (part 9 #[.string x, .string y] (0 * 1)).run Tryd.prog w = .ok (.string x) w := by
    intro x y w
    simp [part, isAgg, run_underlying Tryd.underlying9]
  have p1 : ∀ (x y : ByteArray) (w : World), (part 9 #[.string x, .string y] (1 * 1)).run Tryd.prog w = .ok (.string y) w := by
    intro x y w
    simp [part, isAgg, run_underlying Tryd.underlying9]
  simp only [List.forIn_cons, List.forIn_nil, Sem.run_bind, p0, pe, Result.andThen_ok]
  cases hb : (a.toList == c.toList) <;> cases hc : (b.toList == d.toList) <;> simp [hc, p1, pe]
end Go.Proofs.YtcbnefeedoabeaaDoor
