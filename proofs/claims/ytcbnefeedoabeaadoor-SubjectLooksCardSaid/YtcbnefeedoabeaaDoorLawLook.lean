/- SubjectLooks: which context and which value is found. -/
import Derived.Test.YtcbnefeedoabeaaDoorPm
import Derived.Test.YtcbnefeedoabeaaDoorPl
import Derived.Test.YtcbnefeedoabeaaDoorPo
namespace Go.Proofs.YtcbnefeedoabeaaDoor
open Go Go.RowKit

theorem spoil_at {l : List UInt8} {a0 : Option Addr} {cap C at2 cA : Nat} {pA : Option Addr} {w3 w5 : World} {es1 : List CEl} (hl : l.length ≤ 1000000) (hcd : Codes l a0 cap C 0 w3) (hG3 : DrawG C w3) (hd1 : DrawnS (es1.map CEl.x)) (hr5 : GRow eltC (fun b => w3.heap.size ≤ b) es1 w3.heap.size (.slice pA es1.length cA) w5) (hk5 : Kept C w3 w5) (hc5 : Codes l a0 cap C at2 w5) :
    Calls Tryd.prog 10 #[.agg #[.slice pA (es1.length : Nat) cA], .pointer (some ⟨C, 0, none⟩)] w5 (Spoilt (fun b => w3.heap.size ≤ b ∧ b < w5.heap.size) l a0 cap C w5) := by
  have hC3 := hcd.lt
  have hlen1 := hd1.len
  rw [List.length_map] at hlen1
  have hcx : CtxsP (fun b => w3.heap.size ≤ b ∧ b < w5.heap.size) pA cA (es1.map CEl.x) w5 := by
    obtain ⟨a0', cap', hv, hcx⟩ := hr5.ctxs
    injection hv with e1 e2 e3
    subst e1
    subst e3
    exact hcx.mono fun b hb h => ⟨h.elim id (fun e => (hr5.lt b e).1), hb⟩
  have hsp := spoil_any pA cA (es1.map CEl.x) l a0 cap C at2 w5 hl hc5 (hG3.kept hk5) (fun b hb => ⟨hb.2, by have := hb.1; omega⟩) hcx (by rw [List.length_map]; exact hlen1) (fun x hx => ⟨hd1.fit x hx, by
    obtain ⟨kd, hk, hd⟩ := hd1.each x hx
    have := hd.len hk
    omega⟩)
  rw [List.length_map] at hsp
  exact hsp
theorem fit_small {es : List CEl} (h : ∀ x ∈ es, SmallC x.x) : ∀ x ∈ es.map CEl.x, FitC x := fun x hx => by
  obtain ⟨e, he, rfl⟩ := List.mem_map.1 hx
  exact (h e he).fit
/-- What the loops of the law hold of memory. -/
structure LookW (V X J M : Nat) (p : Option Addr) (c : Nat) (l : List Ctx) (q : Option Addr) (d : Nat) (l2 : List Ctx) (ks ns : List ByteArray) (w : World) : Prop where
  s : w.cell? ⟨V, 0, none⟩ = some (.slice p (l.length : Nat) c)
  t : w.cell? ⟨X, 0, none⟩ = some (.slice q (l2.length : Nat) d)
  ks : ∀ i (h : i < ks.length), w.cell? ⟨J, i, none⟩ = some (.string ks[i])
  ns : ∀ i (h : i < ns.length), w.cell? ⟨M, i, none⟩ = some (.string ns[i])
  sA : SubjAt p c l w
  sB : SubjAt q d l2 w
  v : V < w.heap.size
  x : X < w.heap.size
  k : J < w.heap.size
  m : M < w.heap.size
theorem LookW.below {V X J M : Nat} {p : Option Addr} {c : Nat} {l : List Ctx} {q : Option Addr} {d : Nat} {l2 : List Ctx} {ks ns : List ByteArray} {w w' : World} (h : LookW V X J M p c l q d l2 ks ns w) (hb : Below w.heap.size w w') : LookW V X J M p c l q d l2 ks ns w' :=
  ⟨(hb.cell (p := ⟨V, 0, none⟩) h.v).trans h.s, (hb.cell (p := ⟨X, 0, none⟩) h.x).trans h.t, fun i hi => (hb.cell (p := ⟨J, i, none⟩) h.k).trans (h.ks i hi), fun i hi => (hb.cell (p := ⟨M, i, none⟩) h.m).trans (h.ns i hi), h.sA.below hb, h.sB.below hb,
   Nat.lt_of_lt_of_le h.v hb.size, Nat.lt_of_lt_of_le h.x hb.size, Nat.lt_of_lt_of_le h.k hb.size, Nat.lt_of_lt_of_le h.m hb.size⟩
theorem row_cell {l : List ByteArray} {B : Nat} {w : World} {T : TypeId} (h : w.heap[B]? = some (.cells (l.map Value.string).toArray T (0, 0))) : ∀ i (hi : i < l.length), w.cell? ⟨B, i, none⟩ = some (.string l[i]) := by
  intro i hi
  rw [Lib.cell_of_heap h]
  simp [hi]
set_option linter.unusedSimpArgs false in
set_option linter.unusedVariables false in
set_option maxHeartbeats 16000000 in
set_option maxRecDepth 100000 in
theorem looks_walk (p : Option Addr) (c : Nat) (l : List Ctx) (a1 : Option Addr) (l1 : List UInt8) (c1 : Nat) (kd0 nm0 : ByteArray) (w : World) (E : Env w) (G : DrawL w) (hS : SubjAt p c l w) (h1 : BytesIn a1 l1 c1 w) :
    Calls Tryd.prog 4 #[.agg #[.slice p (l.length : Nat) c], .slice a1 (l1.length : Nat) c1, .string kd0, .string nm0] w fun e w' => e = .returned (.bool true) ∧ Below w.heap.size w w' := by
  have hb0 := (Below.refl w.heap.size w).alloc (Nat.le_refl _) (.cells #[.slice p (l.length : Nat) c] 24)
  have hz0 := heap_alloc_new w (.cells #[.slice p (l.length : Nat) c] 24)
  have hg0 : w.heap.size < (w.alloc (.cells #[.slice p (l.length : Nat) c] 24)).heap.size := by simp
  go_enter Tryd.func4, Tryd.ntmps4
  go_upto_region 1 with (fail)
  generalize w.alloc (.cells #[.slice p (l.length : Nat) c] 24) = w0 at hb0 hz0 hg0 ⊢
  go_upto_region 3 with (go_at_call 6; refine (awake_any _ (E.below hb0)).mono ?_; rintro e w1 ⟨rfl, hb1⟩)
  have B1 : Below w.heap.size w w1 := hb0.trans (hb1.mono hb0.size)
  have z1 := (hb1.block _ hg0).trans hz0
  have hg1 := Nat.lt_of_lt_of_le hg0 hb1.size
  clear hb0 hz0 hg0 hb1
  have v1 : w1.cell? ⟨w.heap.size, 0, none⟩ = some (.slice p l.length c) := by rw [Lib.cell_of_heap z1]; rfl
  have hS1 := hS.below B1
  have hsm := Lib.hid (small_any p c l w1 hS1.row hS1.fit hS1.len)
  by_cases hsmall : smallS l = true
  · rw [hsmall] at hsm
    go_upto_region 5 with (go_at_call 7; refine hsm.out.mono ?_; rintro e w2 ⟨rfl, hb2⟩)
    have B2 := B1.trans (hb2.mono B1.size)
    have z2 := (hb2.block _ hg1).trans z1
    have hg2 := Nat.lt_of_lt_of_le hg1 hb2.size
    clear hb2 hsm v1 z1 hS1 B1
    clear hg1 w1
    have hn1 := Lib.hid (new80 (h1.below B2))
    have hl1 : (l1.take 80).length ≤ 1000000 := by rw [List.length_take]; omega
    go_upto_region 6 with (go_at_call 8; with_reducible refine hn1.out.mono ?_; rintro e w3 ⟨rfl, hcd3, hb3⟩)
    have hG3 := (G.below B2).fresh hb3
    have hsub1 := Lib.hid (subject_any _ a1 c1 w2.heap.size 0 w3 hl1 hcd3 hG3)
    have hC3 := hcd3.lt
    go_upto_region 7 with (first
      | (go_at_call 9; with_reducible refine hsub1.out.mono ?_; rintro e w5 ⟨⟨es1, v1, rfl, hd1, hr5⟩, hk5, at5, hc5⟩; obtain ⟨pA, cA, rfl, -, -, -, -⟩ := hr5.form; have hsp := Lib.hid (spoil_at hl1 hcd3 hG3 hd1 hr5 hk5 hc5))
      | (go_at_call 10; refine hsp.out.mono ?_; rintro e w6 ⟨⟨es2, v2, rfl, hr2, hn2, hs2⟩, hk6, at6, hc6⟩; obtain ⟨pB, cB, rfl, -, -, -, -⟩ := hr2.form))
    have hb7 := (Below.refl w6.heap.size w6).alloc (Nat.le_refl _) (.cells #[.slice pB es2.length cB] 24)
    have zX := heap_alloc_new w6 (.cells #[.slice pB es2.length cB] 24)
    have hX7 : w6.heap.size < (w6.alloc (.cells #[.slice pB es2.length cB] 24)).heap.size := by simp
    generalize w6.alloc (.cells #[.slice pB es2.length cB] 24) = w7 at hb7 zX hX7 ⊢
    have hk7 : Kept w2.heap.size w3 w7 := hk5.trans (hk6.trans (Kept.of_below hb7))
    have h36 : w3.heap.size ≤ w6.heap.size := Nat.le_trans hk5.size hk6.size
    have h35 := hk5.size
    have hr7 := hr2.below hb7
    have hnm := Lib.hid (name_any _ a1 c1 w2.heap.size at6 w7 hl1 (hc6.below hb7))
    clear hsp hsub1 hr2 hr5 hk5 hk6 hc5 hc6 hb7 hn1
    go_upto_region 8 with (go_at_call 13; refine hnm.out.mono ?_; rintro e w8 ⟨⟨n1, hn1, rfl⟩, hk8, at8, hc8⟩)
    have hb9 := (Below.refl w8.heap.size w8).alloc (Nat.le_refl _) (.cells #[.string kd0, .string usrB, .string devB, .string n1] 9)
    have zK := heap_alloc_new w8 (.cells #[.string kd0, .string usrB, .string devB, .string n1] 9)
    have hK9 : w8.heap.size < (w8.alloc (.cells #[.string kd0, .string usrB, .string devB, .string n1] 9)).heap.size := by simp
    have hgen : w8.alloc (.cells #[.string kd0, .string ⟨#[117, 115, 101, 114]⟩, .string ⟨#[100, 101, 118, 105, 99, 101]⟩, .string n1] 9) = w8.alloc (.cells #[.string kd0, .string usrB, .string devB, .string n1] 9) := rfl
    rw [hgen]
    clear hgen
    generalize w8.alloc (.cells #[.string kd0, .string usrB, .string devB, .string n1] 9) = w9 at hb9 zK hK9 ⊢
    have hnm2 := Lib.hid (name_any _ a1 c1 w2.heap.size at8 w9 hl1 (hc8.below hb9))
    clear hnm hc8
    go_upto_region 9 with (go_at_call 13; refine hnm2.out.mono ?_; rintro e w10 ⟨⟨n2, hn2', rfl⟩, hk10, at10, hc10⟩)
    have hb11 := (Below.refl w10.heap.size w10).alloc (Nat.le_refl _) (.cells #[.string nm0, .string ⟨#[107, 101, 121]⟩, .string ⟨#[112, 108, 97, 110]⟩, .string ⟨#[99, 111, 114, 101, 115]⟩, .string ⟨#[116, 97, 103, 115]⟩, .string n2] 9)
    have zM := heap_alloc_new w10 (.cells #[.string nm0, .string ⟨#[107, 101, 121]⟩, .string ⟨#[112, 108, 97, 110]⟩, .string ⟨#[99, 111, 114, 101, 115]⟩, .string ⟨#[116, 97, 103, 115]⟩, .string n2] 9)
    have hM11 : w10.heap.size < (w10.alloc (.cells #[.string nm0, .string ⟨#[107, 101, 121]⟩, .string ⟨#[112, 108, 97, 110]⟩, .string ⟨#[99, 111, 114, 101, 115]⟩, .string ⟨#[116, 97, 103, 115]⟩, .string n2] 9)).heap.size := by simp
    generalize w10.alloc (.cells #[.string nm0, .string ⟨#[107, 101, 121]⟩, .string ⟨#[112, 108, 97, 110]⟩, .string ⟨#[99, 111, 114, 101, 115]⟩, .string ⟨#[116, 97, 103, 115]⟩, .string n2] 9) = w11 at hb11 zM hM11 ⊢
    have hk9 : Kept w2.heap.size w7 w9 := hk8.trans (Kept.of_below hb9)
    have hk911 : Kept w2.heap.size w9 w11 := hk10.trans (Kept.of_below hb11)
    have hk711 := hk9.trans hk911
    have h78 := hk8.size
    have h910 := hk10.size
    have h911 := hk911.size
    have hB3 : Below w2.heap.size w2 w11 := hb3.trans ((hk7.trans hk711).below (Nat.le_refl _) (by omega))
    have B11 : Below w.heap.size w w11 := B2.trans (hB3.mono B2.size)
    have zS := (hB3.block w.heap.size hg2).trans z2
    have zX11 := (hk711.block w6.heap.size hX7 (by omega)).trans zX
    have zK11 := (hk911.block w8.heap.size hK9 (by omega)).trans zK
    have hr11 := hr7.kept hk711 (by omega) (fun b hb => by omega)
    have hlen2 : (es2.map CEl.x).length = es2.length := List.length_map ..
    have hL : LookW w.heap.size w6.heap.size w8.heap.size w10.heap.size p c l pB cB (es2.map CEl.x) [kd0, usrB, devB, n1] [nm0, ⟨#[107, 101, 121]⟩, ⟨#[112, 108, 97, 110]⟩, ⟨#[99, 111, 114, 101, 115]⟩, ⟨#[116, 97, 103, 115]⟩, n2] w11 :=
      ⟨by rw [Lib.cell_of_heap zS]; rfl, by rw [Lib.cell_of_heap zX11, hlen2]; rfl, row_cell zK11, row_cell zM, hS.below B11, subj_at hr11 rfl (fit_small hs2) (by rw [List.length_map]; omega), by have := hB3.size; omega, by omega, by omega, hM11⟩
    have hm2 : ∀ x ∈ es2.map CEl.x, x.attrs.length ≤ 1000 ∧ ∀ a ∈ x.attrs, a.val.list.length ≤ 8796093022207 := fun x hx => by
      obtain ⟨e, he, rfl⟩ := List.mem_map.1 hx
      exact ⟨by have := (hs2 e he).few; omega, fun a ha => ((hs2 e he).fit.each a ha).list⟩
    have hm1 : ∀ x ∈ l, x.attrs.length ≤ 1000 ∧ ∀ a ∈ x.attrs, a.val.list.length ≤ 8796093022207 := fun x hx => ⟨by
      unfold smallS at hsmall
      rw [Bool.and_eq_true, List.all_eq_true] at hsmall
      have := hsmall.2 x hx
      simp at this
      omega, fun a ha => ((hS.fit x hx).each a ha).list⟩
    rw [← hlen2]
    generalize es2.map CEl.x = l2 at hL hm2 ⊢
    clear hr11 zX11 zK11 zS hB3 h911 h910 h78 hk711 hk911 hk9 hM11 zM hb11 hc10 hk10 hn2' hnm2 hK9 zK hb9 hk8 hn1 hr7 h35 h36 hk7 hX7 zX hs2 hd1 hC3 hG3 hb3 hcd3 hl1 z2 hlen2 hn2
    obtain ⟨V, hV⟩ : ∃ V, w.heap.size = V := ⟨_, rfl⟩
    rw [hV] at hL ⊢
    replace hV := Lib.hid hV
    replace B11 := Lib.hid B11
    generalize w6.heap.size = X at *
    generalize w8.heap.size = J at *
    generalize w10.heap.size = M at *
    clear hS B2 hg2 E G h1 hsmall
    go_wp2
    go_loopw [13, 15, 16, 17, 18, 19, 20, 21, 22, 23, 24] (fun i _ _ _ _ _ _ _ _ _ _ wr => ∃ n : Nat, n ≤ 4 ∧ i = .int .i64 n ∧ Below w11.heap.size w11 wr) (fun i _ _ _ _ _ _ _ _ _ _ _ => 4 - (intOf i).toNat)
    case atStart => exact ⟨0, Nat.zero_le _, rfl, Below.refl _ _⟩
    case round =>
      obtain ⟨n, hn, rfl, hbl⟩ := hrel
      have hLr := hL.below hbl
      by_cases hlt : n < 4
      · have hnI : (n : Int) < 4 := by omega
        have v0 := hLr.s
        have v1 := hLr.t
        have hks := hLr.ks n hlt
        have hnI0 : (0 : Int) ≤ (n : Int) := by omega
        generalize ([kd0, usrB, devB, n1] : List ByteArray)[n]'hlt = kk at hks
        have hbY := (Below.refl wr.heap.size wr).alloc (Nat.le_refl _) (.cells #[.slice p (l.length : Nat) c, .slice pB (l2.length : Nat) cB] 24)
        have zY := heap_alloc_new wr (.cells #[.slice p (l.length : Nat) c, .slice pB (l2.length : Nat) cB] 24)
        have hYs : wr.heap.size < (wr.alloc (.cells #[.slice p (l.length : Nat) c, .slice pB (l2.length : Nat) cB] 24)).heap.size := by simp
        go_upto_region 13 with (fail)
        generalize wr.alloc (.cells #[.slice p (l.length : Nat) c, .slice pB (l2.length : Nat) cB] 24) = wY at hbY zY hYs ⊢
        have hLY := hLr.below hbY
        have hkY := (hbY.cell (p := ⟨J, n, none⟩) hLr.k).trans hks
        have hblY := hbl.trans (hbY.mono hbl.size)
        generalize wr.heap.size = Y at zY hYs ⊢
        clear hbY hLr hks v0 v1 hbl hL
        go_loopw [15, 16, 17, 18, 19, 20, 21, 22, 23, 24, 54] (fun _ _ _ _ _ _ _ _ _ _ i wq => ∃ m : Nat, m ≤ 2 ∧ i = .int .i64 m ∧ Below wY.heap.size wY wq) (fun _ _ _ _ _ _ _ _ _ _ i _ => 2 - (intOf i).toNat)
        case atStart => exact ⟨0, Nat.zero_le _, rfl, Below.refl _ _⟩
        case round =>
          obtain ⟨m, hm, rfl, hbm⟩ := hrel
          have hLm := hLY.below hbm
          have hkm := (hbm.cell (p := ⟨J, n, none⟩) hLY.k).trans hkY
          by_cases hmt : m < 2
          · have hmI : (m : Int) < 2 := by omega
            have hmI0 : (0 : Int) ≤ (m : Int) := by omega
            obtain ⟨pj, cj, lj, hcj, hSj, hmj⟩ : ∃ (pj : Option Addr) (cj : Nat) (lj : List Ctx), wr.cell? ⟨Y, m, none⟩ = some (.slice pj (lj.length : Nat) cj) ∧ SubjAt pj cj lj wr ∧ (∀ x ∈ lj, x.attrs.length ≤ 1000 ∧ ∀ a ∈ x.attrs, a.val.list.length ≤ 8796093022207) := by
              have hz := (hbm.block Y hYs).trans zY
              rcases (show m = 0 ∨ m = 1 by omega) with rfl | rfl
              · exact ⟨p, c, l, by rw [Lib.cell_of_heap hz]; rfl, hLm.sA, hm1⟩
              · exact ⟨pB, cB, l2, by rw [Lib.cell_of_heap hz]; rfl, hLm.sB, hm2⟩
            have hbZ := (Below.refl wr.heap.size wr).alloc (Nat.le_refl _) (.cells #[.slice pj (lj.length : Nat) cj] 24)
            have zZ := heap_alloc_new wr (.cells #[.slice pj (lj.length : Nat) cj] 24)
            have hZs : wr.heap.size < (wr.alloc (.cells #[.slice pj (lj.length : Nat) cj] 24)).heap.size := by simp
            go_upto_region 15 with (fail)
            generalize wr.alloc (.cells #[.slice pj (lj.length : Nat) cj] 24) = wZ at hbZ zZ hZs ⊢
            have hkZ := (hbZ.cell (p := ⟨J, n, none⟩) hLm.k).trans hkm
            have hSZ := hSj.below hbZ
            have hbmZ := hbm.trans (hbZ.mono hbm.size)
            have hLZ := hLm.below hbZ
            have cZ : wZ.cell? ⟨wr.heap.size, 0, none⟩ = some (.slice pj lj.length cj) := by rw [Lib.cell_of_heap zZ]; rfl
            generalize wr.heap.size = Z at zZ hZs cZ ⊢
            clear hbZ hLm hkm hSj hbm hcj
            have hFind : ∀ W, Below wZ.heap.size wZ W → Calls Tryd.prog 14 #[.agg #[.slice pj (lj.length : Nat) cj], .string kk] W fun e w' => FoundAt (fun b => W.heap.size ≤ b) kk lj e w' ∧ Below W.heap.size W w' := fun W hb => find_any pj cj lj kk W (hSZ.row.same (SameB.of_below hb)) hSZ.len hmj
            replace hFind := Lib.hid hFind
            go_cut [16, 17] (fun a b wx => ∃ (F : Nat) (q : Option Addr) (d : Nat), a = .pointer (some ⟨F, 0, none⟩) ∧ b = .bool (foundC kk lj).2 ∧ wx.heap[F]? = some (.cells #[.string (foundC kk lj).1.kind, .string (foundC kk lj).1.key, .slice q ((foundC kk lj).1.attrs.length : Nat) d] 40 (0, 0)) ∧ wZ.heap.size ≤ F ∧ AttrsP (fun _ => True) q d (foundC kk lj).1.attrs wx ∧ Below wZ.heap.size wZ wx)
            case first =>
              have hdr := (Below.refl wZ.heap.size wZ).drew
              refine wp_region_held_drew (S := fun w' => w'.cell? ⟨Z, 0, none⟩ = some (.slice pj lj.length cj) ∧ w'.cell? ⟨J, n, none⟩ = some (.string kk)) (by kernel_rfl) (⟨cZ, hkZ⟩) (fun hHeld => ?_)
              refine wpAnyH_take (i := 0) (v := ?_) rfl (by kernel_rfl) (by kernel_rfl) (by kernel_rfl) (fun _ _ _ h => h) (Or.inl ⟨by rfl, ?_⟩) hHeld ?_
              rotate_left
              · intro w' hSw
                obtain ⟨e1, e2⟩ := hSw
                go_simp
                try with_reducible rfl
              try simp only [List.getElem_toArray, List.getElem_cons_succ, List.getElem_cons_zero, Act.put, List.setIfInBounds_toArray, List.set_cons_zero, List.set_cons_succ]
              refine wpAnyH_take (i := 1) (v := ?_) rfl (by kernel_rfl) (by kernel_rfl) (by kernel_rfl) (fun _ _ _ h => h) (Or.inl ⟨by rfl, ?_⟩) hHeld ?_
              rotate_left
              · intro w' hSw
                go_simp
                try with_reducible rfl
              try simp only [List.getElem_toArray, List.getElem_cons_succ, List.getElem_cons_zero, Act.put, List.setIfInBounds_toArray, List.set_cons_zero, List.set_cons_succ]
              refine wpAnyH_take (i := 2) (v := ?_) rfl (by kernel_rfl) (by kernel_rfl) (by kernel_rfl) (fun _ _ _ h => h) (Or.inl ⟨by rfl, ?_⟩) hHeld ?_
              rotate_left
              · intro w' hSw
                go_simp
                try with_reducible rfl
              try simp only [List.getElem_toArray, List.getElem_cons_succ, List.getElem_cons_zero, Act.put, List.setIfInBounds_toArray, List.set_cons_zero, List.set_cons_succ]
              refine wpAnyH_take (i := 3) (v := ?_) rfl (by kernel_rfl) (by kernel_rfl) (by kernel_rfl) (fun _ _ _ h => h) (Or.inl ⟨by rfl, ?_⟩) hHeld ?_
              rotate_left
              · intro w' hSw
                go_simp
                try with_reducible rfl
              try simp only [List.getElem_toArray, List.getElem_cons_succ, List.getElem_cons_zero, Act.put, List.setIfInBounds_toArray, List.set_cons_zero, List.set_cons_succ]
              refine wpAnyH_take (i := 4) (v := ?_) rfl (by kernel_rfl) (by kernel_rfl) (by kernel_rfl) (fun _ _ _ h => h) (Or.inl ⟨by rfl, ?_⟩) hHeld ?_
              rotate_left
              · intro w' hSw
                obtain ⟨e1, e2⟩ := hSw
                go_simp
                try with_reducible rfl
              try simp only [List.getElem_toArray, List.getElem_cons_succ, List.getElem_cons_zero, Act.put, List.setIfInBounds_toArray, List.set_cons_zero, List.set_cons_succ]
              refine wpAnyH_ready (rs := [5, 9]) (by kernel_rfl) (by simp) ?_
              refine AllReadyH.cons rfl (fun K hK => ?_) (AllReadyH.cons rfl (fun K hK => ?_) AllReadyH.nil)
              · go_simp
                go_at_call 14
                refine (hFind.out _ hdr).mono ?_
                rintro e w5 ⟨⟨q, d, rfl, hq⟩, hb5'⟩
                have hb5 := hdr.trans (hb5'.mono hdr.size)
                refine hK.out _ _ ⟨(hb5.cell (p := ⟨Z, 0, none⟩) hZs).trans cZ, (hb5.cell (p := ⟨J, n, none⟩) hLZ.k).trans hkZ⟩ (fun _ => ?_)
                clear hK K hHeld
                have hHeld : (fun w' => w'.cell? ⟨Z, 0, none⟩ = some (.slice pj lj.length cj) ∧ w'.cell? ⟨J, n, none⟩ = some (.string kk)) w5 := ⟨(hb5.cell (p := ⟨Z, 0, none⟩) hZs).trans cZ, (hb5.cell (p := ⟨J, n, none⟩) hLZ.k).trans hkZ⟩
                try simp only [List.getElem_toArray, List.getElem_cons_succ, List.getElem_cons_zero, Act.put, List.setIfInBounds_toArray, List.set_cons_zero, List.set_cons_succ]
                refine wpAnyH_take (i := 6) (v := ?_) rfl (by kernel_rfl) (by kernel_rfl) (by kernel_rfl) (fun _ _ _ h => h) (Or.inl ⟨by rfl, ?_⟩) hHeld ?_
                rotate_left
                · intro w' hSw
                  go_simp
                  try with_reducible rfl
                try simp only [List.getElem_toArray, List.getElem_cons_succ, List.getElem_cons_zero, Act.put, List.setIfInBounds_toArray, List.set_cons_zero, List.set_cons_succ]
                refine wpAnyH_take (i := 7) (v := ?_) rfl (by kernel_rfl) (by kernel_rfl) (by kernel_rfl) (fun _ _ _ h => h) (Or.inl ⟨by rfl, ?_⟩) hHeld ?_
                rotate_left
                · intro w' hSw
                  go_simp
                  try with_reducible rfl
                try simp only [List.getElem_toArray, List.getElem_cons_succ, List.getElem_cons_zero, Act.put, List.setIfInBounds_toArray, List.set_cons_zero, List.set_cons_succ]
                refine wpAnyH_take (i := 8) (v := ?_) rfl (by kernel_rfl) (by kernel_rfl) (by kernel_rfl) (fun _ _ _ h => h) (Or.inl ⟨by rfl, ?_⟩) hHeld ?_
                rotate_left
                · intro w' hSw
                  go_simp
                  try with_reducible rfl
                try simp only [List.getElem_toArray, List.getElem_cons_succ, List.getElem_cons_zero, Act.put, List.setIfInBounds_toArray, List.set_cons_zero, List.set_cons_succ]
                have hal0 := hb5.alloc hb5.size (.cells #[.string ⟨#[]⟩, .string ⟨#[]⟩, .slice none 0 0] 40)
                have hal1 := hb5.alloc hb5.size (.cells #[.string (foundC kk lj).1.kind, .string (foundC kk lj).1.key, .slice q ((foundC kk lj).1.attrs.length : Nat) d] 40)
                refine wpAnyH_ready (rs := [9]) (by kernel_rfl) (by simp) ?_
                refine AllReadyH.cons rfl (fun K hK => ?_) AllReadyH.nil
                go_simp
                refine hK.out _ _ ⟨(hal0.cell (p := ⟨Z, 0, none⟩) hZs).trans cZ, (hal0.cell (p := ⟨J, n, none⟩) hLZ.k).trans hkZ⟩ (fun _ => ?_)
                clear hK K
                try simp only [List.getElem_toArray, List.getElem_cons_succ, List.getElem_cons_zero, Act.put, List.setIfInBounds_toArray, List.set_cons_zero, List.set_cons_succ]
                refine wpAnyH_ready (rs := [10]) (by kernel_rfl) (by simp) ?_
                refine AllReadyH.cons rfl (fun K hK => ?_) AllReadyH.nil
                go_simp
                refine hK.out _ _ ⟨(hal1.cell (p := ⟨Z, 0, none⟩) hZs).trans cZ, (hal1.cell (p := ⟨J, n, none⟩) hLZ.k).trans hkZ⟩ (fun _ => ?_)
                clear hK K hHeld
                have hHeld : (fun w' => w'.cell? ⟨Z, 0, none⟩ = some (.slice pj lj.length cj) ∧ w'.cell? ⟨J, n, none⟩ = some (.string kk)) (w5.alloc (.cells #[.string (foundC kk lj).1.kind, .string (foundC kk lj).1.key, .slice q ((foundC kk lj).1.attrs.length : Nat) d] 40)) := ⟨(hal1.cell (p := ⟨Z, 0, none⟩) hZs).trans cZ, (hal1.cell (p := ⟨J, n, none⟩) hLZ.k).trans hkZ⟩
                try simp only [List.getElem_toArray, List.getElem_cons_succ, List.getElem_cons_zero, Act.put, List.setIfInBounds_toArray, List.set_cons_zero, List.set_cons_succ]
                refine wpAnyH_take (i := 11) (v := ?_) rfl (by kernel_rfl) (by kernel_rfl) (by kernel_rfl) (fun _ _ _ h => h) (Or.inl ⟨by rfl, ?_⟩) hHeld ?_
                rotate_left
                · intro w' hSw
                  go_simp
                  try with_reducible rfl
                try simp only [List.getElem_toArray, List.getElem_cons_succ, List.getElem_cons_zero, Act.put, List.setIfInBounds_toArray, List.set_cons_zero, List.set_cons_succ]
                refine wpAnyH_done (by kernel_rfl) ?_ _
                go_wp2
                go_meet
                case rel => exact ⟨w5.heap.size, q, d, rfl, rfl, heap_alloc_new w5 _, hb5.size, (hq.mono fun _ _ _ => trivial).same (SameB.of_below ((Below.refl w5.heap.size w5).alloc (Nat.le_refl _) _)), hal1⟩
              · have hal0 := ((Below.refl wZ.heap.size wZ).alloc (Nat.le_refl _) (.cells #[.string ⟨#[]⟩, .string ⟨#[]⟩, .slice none 0 0] 40)).drew
                have zF := heap_alloc_new wZ (.cells #[.string ⟨#[]⟩, .string ⟨#[]⟩, .slice none 0 0] 40)
                go_simp
                refine hK.out _ _ ⟨(hal0.cell (p := ⟨Z, 0, none⟩) hZs).trans cZ, (hal0.cell (p := ⟨J, n, none⟩) hLZ.k).trans hkZ⟩ (fun _ => ?_)
                clear hK K hHeld
                have hHeld : (fun w' => w'.cell? ⟨Z, 0, none⟩ = some (.slice pj lj.length cj) ∧ w'.cell? ⟨J, n, none⟩ = some (.string kk)) (wZ.alloc (.cells #[.string ⟨#[]⟩, .string ⟨#[]⟩, .slice none 0 0] 40)).drew := ⟨(hal0.cell (p := ⟨Z, 0, none⟩) hZs).trans cZ, (hal0.cell (p := ⟨J, n, none⟩) hLZ.k).trans hkZ⟩
                try simp only [List.getElem_toArray, List.getElem_cons_succ, List.getElem_cons_zero, Act.put, List.setIfInBounds_toArray, List.set_cons_zero, List.set_cons_succ]
                refine wpAnyH_ready (rs := [5]) (by kernel_rfl) (by simp) ?_
                refine AllReadyH.cons rfl (fun K hK => ?_) AllReadyH.nil
                go_simp
                go_at_call 14
                refine (hFind.out _ hal0).mono ?_
                rintro e w5 ⟨⟨q, d, rfl, hq⟩, hb5'⟩
                have hb5 := hal0.trans (hb5'.mono hal0.size)
                have hsF : wZ.heap.size < (wZ.alloc (.cells #[.string ⟨#[]⟩, .string ⟨#[]⟩, .slice none 0 0] 40)).drew.heap.size := by show wZ.heap.size < (wZ.alloc (.cells #[.string ⟨#[]⟩, .string ⟨#[]⟩, .slice none 0 0] 40)).heap.size; simp
                have zF5 : w5.heap[wZ.heap.size]? = some (.cells #[.string ⟨#[]⟩, .string ⟨#[]⟩, .slice none 0 0] 40 (0, 0)) := (hb5'.block wZ.heap.size hsF).trans zF
                have k0 : w5.cell? ⟨wZ.heap.size, 0, none⟩ = some (.string ⟨#[]⟩) := by rw [Lib.cell_of_heap zF5]; rfl
                have k1 : w5.cell? ⟨wZ.heap.size, 1, none⟩ = some (.string ⟨#[]⟩) := by rw [Lib.cell_of_heap zF5]; rfl
                have k2 : w5.cell? ⟨wZ.heap.size, 2, none⟩ = some (.slice none 0 0) := by rw [Lib.cell_of_heap zF5]; rfl
                have kf : ∀ i, w5.frozen? ⟨wZ.heap.size, i, none⟩ = false := Lib.frozen_of_heap zF5
                refine hK.out _ _ ⟨(hb5.cell (p := ⟨Z, 0, none⟩) hZs).trans cZ, (hb5.cell (p := ⟨J, n, none⟩) hLZ.k).trans hkZ⟩ (fun _ => ?_)
                clear hK K hHeld
                have hHeld : (fun w' => w'.cell? ⟨Z, 0, none⟩ = some (.slice pj lj.length cj) ∧ w'.cell? ⟨J, n, none⟩ = some (.string kk)) w5 := ⟨(hb5.cell (p := ⟨Z, 0, none⟩) hZs).trans cZ, (hb5.cell (p := ⟨J, n, none⟩) hLZ.k).trans hkZ⟩
                try simp only [List.getElem_toArray, List.getElem_cons_succ, List.getElem_cons_zero, Act.put, List.setIfInBounds_toArray, List.set_cons_zero, List.set_cons_succ]
                refine wpAnyH_take (i := 6) (v := ?_) rfl (by kernel_rfl) (by kernel_rfl) (by kernel_rfl) (fun _ _ _ h => h) (Or.inl ⟨by rfl, ?_⟩) hHeld ?_
                rotate_left
                · intro w' hSw
                  go_simp
                  try with_reducible rfl
                try simp only [List.getElem_toArray, List.getElem_cons_succ, List.getElem_cons_zero, Act.put, List.setIfInBounds_toArray, List.set_cons_zero, List.set_cons_succ]
                refine wpAnyH_take (i := 7) (v := ?_) rfl (by kernel_rfl) (by kernel_rfl) (by kernel_rfl) (fun _ _ _ h => h) (Or.inl ⟨by rfl, ?_⟩) hHeld ?_
                rotate_left
                · intro w' hSw
                  go_simp
                  try with_reducible rfl
                try simp only [List.getElem_toArray, List.getElem_cons_succ, List.getElem_cons_zero, Act.put, List.setIfInBounds_toArray, List.set_cons_zero, List.set_cons_succ]
                refine wpAnyH_take (i := 8) (v := ?_) rfl (by kernel_rfl) (by kernel_rfl) (by kernel_rfl) (fun _ _ _ h => h) (Or.inl ⟨by rfl, ?_⟩) hHeld ?_
                rotate_left
                · intro w' hSw
                  go_simp
                  try with_reducible rfl
                try simp only [List.getElem_toArray, List.getElem_cons_succ, List.getElem_cons_zero, Act.put, List.setIfInBounds_toArray, List.set_cons_zero, List.set_cons_succ]
                have hb6 := ((hb5.setCell (p := ⟨wZ.heap.size, 0, none⟩) (Nat.le_refl _) (.string (foundC kk lj).1.kind)).setCell (p := ⟨wZ.heap.size, 1, none⟩) (Nat.le_refl _) (.string (foundC kk lj).1.key)).setCell (p := ⟨wZ.heap.size, 2, none⟩) (Nat.le_refl _) (.slice q ((foundC kk lj).1.attrs.length : Nat) d)
                have zF6 : (((w5.setCell ⟨wZ.heap.size, 0, none⟩ (.string (foundC kk lj).1.kind)).setCell ⟨wZ.heap.size, 1, none⟩ (.string (foundC kk lj).1.key)).setCell ⟨wZ.heap.size, 2, none⟩ (.slice q ((foundC kk lj).1.attrs.length : Nat) d)).heap[wZ.heap.size]? = some (.cells #[.string (foundC kk lj).1.kind, .string (foundC kk lj).1.key, .slice q ((foundC kk lj).1.attrs.length : Nat) d] 40 (0, 0)) := box_put (box_put (box_put zF5 _) _) _
                have hXF : ¬ ((wZ.alloc (.cells #[.string ⟨#[]⟩, .string ⟨#[]⟩, .slice none 0 0] 40)).drew.heap.size ≤ wZ.heap.size) := by omega
                have hq6 : AttrsP (fun b => (wZ.alloc (.cells #[.string ⟨#[]⟩, .string ⟨#[]⟩, .slice none 0 0] 40)).drew.heap.size ≤ b) q d (foundC kk lj).1.attrs _ := hq.same ((((SameB.refl _ w5).set (B := wZ.heap.size) hXF 0 (.string (foundC kk lj).1.kind)).set (B := wZ.heap.size) hXF 1 (.string (foundC kk lj).1.key)).set (B := wZ.heap.size) hXF 2 (.slice q ((foundC kk lj).1.attrs.length : Nat) d))
                refine wpAnyH_ready (rs := [10]) (by kernel_rfl) (by simp) ?_
                refine AllReadyH.cons rfl (fun K hK => ?_) AllReadyH.nil
                go_simp
                refine hK.out _ _ ⟨(hb6.cell (p := ⟨Z, 0, none⟩) hZs).trans cZ, (hb6.cell (p := ⟨J, n, none⟩) hLZ.k).trans hkZ⟩ (fun _ => ?_)
                clear hK K hHeld
                have hHeld : (fun w' => w'.cell? ⟨Z, 0, none⟩ = some (.slice pj lj.length cj) ∧ w'.cell? ⟨J, n, none⟩ = some (.string kk)) (((w5.setCell ⟨wZ.heap.size, 0, none⟩ (.string (foundC kk lj).1.kind)).setCell ⟨wZ.heap.size, 1, none⟩ (.string (foundC kk lj).1.key)).setCell ⟨wZ.heap.size, 2, none⟩ (.slice q ((foundC kk lj).1.attrs.length : Nat) d)) := ⟨(hb6.cell (p := ⟨Z, 0, none⟩) hZs).trans cZ, (hb6.cell (p := ⟨J, n, none⟩) hLZ.k).trans hkZ⟩
                try simp only [List.getElem_toArray, List.getElem_cons_succ, List.getElem_cons_zero, Act.put, List.setIfInBounds_toArray, List.set_cons_zero, List.set_cons_succ]
                refine wpAnyH_take (i := 11) (v := ?_) rfl (by kernel_rfl) (by kernel_rfl) (by kernel_rfl) (fun _ _ _ h => h) (Or.inl ⟨by rfl, ?_⟩) hHeld ?_
                rotate_left
                · intro w' hSw
                  go_simp
                  try with_reducible rfl
                try simp only [List.getElem_toArray, List.getElem_cons_succ, List.getElem_cons_zero, Act.put, List.setIfInBounds_toArray, List.set_cons_zero, List.set_cons_succ]
                refine wpAnyH_done (by kernel_rfl) ?_ _
                go_wp2
                go_meet
                case rel => exact ⟨wZ.heap.size, q, d, rfl, rfl, zF6, Nat.le_refl _, hq6.mono fun _ _ _ => trivial, hb6⟩
            case rest =>
              obtain ⟨F, q1, d1, rfl, rfl, zF, hFZ, hqF, hbF⟩ := hcut
              clear hFind hkY hLY hZs zZ
              have hLF := hLZ.below hbF
              have hkF := (hbF.cell (p := ⟨J, n, none⟩) hLZ.k).trans hkZ
              have hZsF : Z < wc.heap.size := Nat.lt_of_lt_of_le (block_lt_of_cell cZ) hbF.size
              have cZF := (hbF.cell (p := ⟨Z, 0, none⟩) (block_lt_of_cell cZ)).trans cZ
              have hSF := hSZ.below hbF
              have hbmF := hbmZ.trans (hbF.mono hbmZ.size)
              have hFs : F < wc.heap.size := (Array.getElem?_eq_some_iff.1 zF).1
              clear hbF hSZ cZ hkZ hLZ hbmZ hFZ
              have hFind : ∀ W, Below wc.heap.size wc W → Calls Tryd.prog 15 #[.agg #[.slice pj (lj.length : Nat) cj], .string kk] W fun e w' => FoundAt (fun b => b < wc.heap.size ∧ b < W.heap.size) kk lj e w' ∧ Below W.heap.size W w' := fun W hb => refFind_any (P := fun b => b < wc.heap.size) pj cj lj kk W ((hSF.row.mono fun b h _ => h).same (SameB.of_below hb)) hSF.len
              replace hFind := Lib.hid hFind
              go_upto_region 16 with (fail)
              go_cut [18, 19] (fun a b wx => ∃ (F2 : Nat) (q : Option Addr) (d : Nat), a = .pointer (some ⟨F2, 0, none⟩) ∧ b = .bool (foundC kk lj).2 ∧ wx.heap[F2]? = some (.cells #[.string (foundC kk lj).1.kind, .string (foundC kk lj).1.key, .slice q ((foundC kk lj).1.attrs.length : Nat) d] 40 (0, 0)) ∧ wc.heap.size ≤ F2 ∧ AttrsP (fun _ => True) q d (foundC kk lj).1.attrs wx ∧ Below wc.heap.size wc wx)
              case first =>
                have hdr := (Below.refl wc.heap.size wc).drew
                refine wp_region_held_drew (S := fun w' => w'.cell? ⟨Z, 0, none⟩ = some (.slice pj lj.length cj) ∧ w'.cell? ⟨J, n, none⟩ = some (.string kk)) (by kernel_rfl) (⟨cZF, hkF⟩) (fun hHeld => ?_)
                refine wpAnyH_take (i := 0) (v := ?_) rfl (by kernel_rfl) (by kernel_rfl) (by kernel_rfl) (fun _ _ _ h => h) (Or.inl ⟨by rfl, ?_⟩) hHeld ?_
                rotate_left
                · intro w' hSw
                  obtain ⟨e1, e2⟩ := hSw
                  go_simp
                  try with_reducible rfl
                try simp only [List.getElem_toArray, List.getElem_cons_succ, List.getElem_cons_zero, Act.put, List.setIfInBounds_toArray, List.set_cons_zero, List.set_cons_succ]
                refine wpAnyH_take (i := 1) (v := ?_) rfl (by kernel_rfl) (by kernel_rfl) (by kernel_rfl) (fun _ _ _ h => h) (Or.inl ⟨by rfl, ?_⟩) hHeld ?_
                rotate_left
                · intro w' hSw
                  go_simp
                  try with_reducible rfl
                try simp only [List.getElem_toArray, List.getElem_cons_succ, List.getElem_cons_zero, Act.put, List.setIfInBounds_toArray, List.set_cons_zero, List.set_cons_succ]
                refine wpAnyH_take (i := 2) (v := ?_) rfl (by kernel_rfl) (by kernel_rfl) (by kernel_rfl) (fun _ _ _ h => h) (Or.inl ⟨by rfl, ?_⟩) hHeld ?_
                rotate_left
                · intro w' hSw
                  go_simp
                  try with_reducible rfl
                try simp only [List.getElem_toArray, List.getElem_cons_succ, List.getElem_cons_zero, Act.put, List.setIfInBounds_toArray, List.set_cons_zero, List.set_cons_succ]
                refine wpAnyH_take (i := 3) (v := ?_) rfl (by kernel_rfl) (by kernel_rfl) (by kernel_rfl) (fun _ _ _ h => h) (Or.inl ⟨by rfl, ?_⟩) hHeld ?_
                rotate_left
                · intro w' hSw
                  go_simp
                  try with_reducible rfl
                try simp only [List.getElem_toArray, List.getElem_cons_succ, List.getElem_cons_zero, Act.put, List.setIfInBounds_toArray, List.set_cons_zero, List.set_cons_succ]
                refine wpAnyH_take (i := 4) (v := ?_) rfl (by kernel_rfl) (by kernel_rfl) (by kernel_rfl) (fun _ _ _ h => h) (Or.inl ⟨by rfl, ?_⟩) hHeld ?_
                rotate_left
                · intro w' hSw
                  obtain ⟨e1, e2⟩ := hSw
                  go_simp
                  try with_reducible rfl
                try simp only [List.getElem_toArray, List.getElem_cons_succ, List.getElem_cons_zero, Act.put, List.setIfInBounds_toArray, List.set_cons_zero, List.set_cons_succ]
                refine wpAnyH_ready (rs := [5, 9]) (by kernel_rfl) (by simp) ?_
                refine AllReadyH.cons rfl (fun K hK => ?_) (AllReadyH.cons rfl (fun K hK => ?_) AllReadyH.nil)
                · go_simp
                  go_at_call 15
                  refine (hFind.out _ hdr).mono ?_
                  rintro e w5 ⟨⟨q, d, rfl, hq⟩, hb5'⟩
                  have hb5 := hdr.trans (hb5'.mono hdr.size)
                  refine hK.out _ _ ⟨(hb5.cell (p := ⟨Z, 0, none⟩) hZsF).trans cZF, (hb5.cell (p := ⟨J, n, none⟩) hLF.k).trans hkF⟩ (fun _ => ?_)
                  clear hK K hHeld
                  have hHeld : (fun w' => w'.cell? ⟨Z, 0, none⟩ = some (.slice pj lj.length cj) ∧ w'.cell? ⟨J, n, none⟩ = some (.string kk)) w5 := ⟨(hb5.cell (p := ⟨Z, 0, none⟩) hZsF).trans cZF, (hb5.cell (p := ⟨J, n, none⟩) hLF.k).trans hkF⟩
                  try simp only [List.getElem_toArray, List.getElem_cons_succ, List.getElem_cons_zero, Act.put, List.setIfInBounds_toArray, List.set_cons_zero, List.set_cons_succ]
                  refine wpAnyH_take (i := 6) (v := ?_) rfl (by kernel_rfl) (by kernel_rfl) (by kernel_rfl) (fun _ _ _ h => h) (Or.inl ⟨by rfl, ?_⟩) hHeld ?_
                  rotate_left
                  · intro w' hSw
                    go_simp
                    try with_reducible rfl
                  try simp only [List.getElem_toArray, List.getElem_cons_succ, List.getElem_cons_zero, Act.put, List.setIfInBounds_toArray, List.set_cons_zero, List.set_cons_succ]
                  refine wpAnyH_take (i := 7) (v := ?_) rfl (by kernel_rfl) (by kernel_rfl) (by kernel_rfl) (fun _ _ _ h => h) (Or.inl ⟨by rfl, ?_⟩) hHeld ?_
                  rotate_left
                  · intro w' hSw
                    go_simp
                    try with_reducible rfl
                  try simp only [List.getElem_toArray, List.getElem_cons_succ, List.getElem_cons_zero, Act.put, List.setIfInBounds_toArray, List.set_cons_zero, List.set_cons_succ]
                  refine wpAnyH_take (i := 8) (v := ?_) rfl (by kernel_rfl) (by kernel_rfl) (by kernel_rfl) (fun _ _ _ h => h) (Or.inl ⟨by rfl, ?_⟩) hHeld ?_
                  rotate_left
                  · intro w' hSw
                    go_simp
                    try with_reducible rfl
                  try simp only [List.getElem_toArray, List.getElem_cons_succ, List.getElem_cons_zero, Act.put, List.setIfInBounds_toArray, List.set_cons_zero, List.set_cons_succ]
                  have hal0 := hb5.alloc hb5.size (.cells #[.string ⟨#[]⟩, .string ⟨#[]⟩, .slice none 0 0] 40)
                  have hal1 := hb5.alloc hb5.size (.cells #[.string (foundC kk lj).1.kind, .string (foundC kk lj).1.key, .slice q ((foundC kk lj).1.attrs.length : Nat) d] 40)
                  refine wpAnyH_ready (rs := [9]) (by kernel_rfl) (by simp) ?_
                  refine AllReadyH.cons rfl (fun K hK => ?_) AllReadyH.nil
                  go_simp
                  refine hK.out _ _ ⟨(hal0.cell (p := ⟨Z, 0, none⟩) hZsF).trans cZF, (hal0.cell (p := ⟨J, n, none⟩) hLF.k).trans hkF⟩ (fun _ => ?_)
                  clear hK K
                  try simp only [List.getElem_toArray, List.getElem_cons_succ, List.getElem_cons_zero, Act.put, List.setIfInBounds_toArray, List.set_cons_zero, List.set_cons_succ]
                  refine wpAnyH_ready (rs := [10]) (by kernel_rfl) (by simp) ?_
                  refine AllReadyH.cons rfl (fun K hK => ?_) AllReadyH.nil
                  go_simp
                  refine hK.out _ _ ⟨(hal1.cell (p := ⟨Z, 0, none⟩) hZsF).trans cZF, (hal1.cell (p := ⟨J, n, none⟩) hLF.k).trans hkF⟩ (fun _ => ?_)
                  clear hK K hHeld
                  have hHeld : (fun w' => w'.cell? ⟨Z, 0, none⟩ = some (.slice pj lj.length cj) ∧ w'.cell? ⟨J, n, none⟩ = some (.string kk)) (w5.alloc (.cells #[.string (foundC kk lj).1.kind, .string (foundC kk lj).1.key, .slice q ((foundC kk lj).1.attrs.length : Nat) d] 40)) := ⟨(hal1.cell (p := ⟨Z, 0, none⟩) hZsF).trans cZF, (hal1.cell (p := ⟨J, n, none⟩) hLF.k).trans hkF⟩
                  try simp only [List.getElem_toArray, List.getElem_cons_succ, List.getElem_cons_zero, Act.put, List.setIfInBounds_toArray, List.set_cons_zero, List.set_cons_succ]
                  refine wpAnyH_take (i := 11) (v := ?_) rfl (by kernel_rfl) (by kernel_rfl) (by kernel_rfl) (fun _ _ _ h => h) (Or.inl ⟨by rfl, ?_⟩) hHeld ?_
                  rotate_left
                  · intro w' hSw
                    go_simp
                    try with_reducible rfl
                  try simp only [List.getElem_toArray, List.getElem_cons_succ, List.getElem_cons_zero, Act.put, List.setIfInBounds_toArray, List.set_cons_zero, List.set_cons_succ]
                  refine wpAnyH_done (by kernel_rfl) ?_ _
                  go_wp2
                  go_meet
                  case rel => exact ⟨w5.heap.size, q, d, rfl, rfl, heap_alloc_new w5 _, hb5.size, (hq.mono fun _ _ _ => trivial).same (SameB.of_below ((Below.refl w5.heap.size w5).alloc (Nat.le_refl _) _)), hal1⟩
                · have hal0 := ((Below.refl wc.heap.size wc).alloc (Nat.le_refl _) (.cells #[.string ⟨#[]⟩, .string ⟨#[]⟩, .slice none 0 0] 40)).drew
                  have zG := heap_alloc_new wc (.cells #[.string ⟨#[]⟩, .string ⟨#[]⟩, .slice none 0 0] 40)
                  go_simp
                  refine hK.out _ _ ⟨(hal0.cell (p := ⟨Z, 0, none⟩) hZsF).trans cZF, (hal0.cell (p := ⟨J, n, none⟩) hLF.k).trans hkF⟩ (fun _ => ?_)
                  clear hK K hHeld
                  have hHeld : (fun w' => w'.cell? ⟨Z, 0, none⟩ = some (.slice pj lj.length cj) ∧ w'.cell? ⟨J, n, none⟩ = some (.string kk)) (wc.alloc (.cells #[.string ⟨#[]⟩, .string ⟨#[]⟩, .slice none 0 0] 40)).drew := ⟨(hal0.cell (p := ⟨Z, 0, none⟩) hZsF).trans cZF, (hal0.cell (p := ⟨J, n, none⟩) hLF.k).trans hkF⟩
                  try simp only [List.getElem_toArray, List.getElem_cons_succ, List.getElem_cons_zero, Act.put, List.setIfInBounds_toArray, List.set_cons_zero, List.set_cons_succ]
                  refine wpAnyH_ready (rs := [5]) (by kernel_rfl) (by simp) ?_
                  refine AllReadyH.cons rfl (fun K hK => ?_) AllReadyH.nil
                  go_simp
                  go_at_call 15
                  refine (hFind.out _ hal0).mono ?_
                  rintro e w5 ⟨⟨q, d, rfl, hq⟩, hb5'⟩
                  have hb5 := hal0.trans (hb5'.mono hal0.size)
                  have hsF : wc.heap.size < (wc.alloc (.cells #[.string ⟨#[]⟩, .string ⟨#[]⟩, .slice none 0 0] 40)).drew.heap.size := by show wc.heap.size < (wc.alloc (.cells #[.string ⟨#[]⟩, .string ⟨#[]⟩, .slice none 0 0] 40)).heap.size; simp
                  have zF5 : w5.heap[wc.heap.size]? = some (.cells #[.string ⟨#[]⟩, .string ⟨#[]⟩, .slice none 0 0] 40 (0, 0)) := (hb5'.block wc.heap.size hsF).trans zG
                  have k0 : w5.cell? ⟨wc.heap.size, 0, none⟩ = some (.string ⟨#[]⟩) := by rw [Lib.cell_of_heap zF5]; rfl
                  have k1 : w5.cell? ⟨wc.heap.size, 1, none⟩ = some (.string ⟨#[]⟩) := by rw [Lib.cell_of_heap zF5]; rfl
                  have k2 : w5.cell? ⟨wc.heap.size, 2, none⟩ = some (.slice none 0 0) := by rw [Lib.cell_of_heap zF5]; rfl
                  have kf : ∀ i, w5.frozen? ⟨wc.heap.size, i, none⟩ = false := Lib.frozen_of_heap zF5
                  refine hK.out _ _ ⟨(hb5.cell (p := ⟨Z, 0, none⟩) hZsF).trans cZF, (hb5.cell (p := ⟨J, n, none⟩) hLF.k).trans hkF⟩ (fun _ => ?_)
                  clear hK K hHeld
                  have hHeld : (fun w' => w'.cell? ⟨Z, 0, none⟩ = some (.slice pj lj.length cj) ∧ w'.cell? ⟨J, n, none⟩ = some (.string kk)) w5 := ⟨(hb5.cell (p := ⟨Z, 0, none⟩) hZsF).trans cZF, (hb5.cell (p := ⟨J, n, none⟩) hLF.k).trans hkF⟩
                  try simp only [List.getElem_toArray, List.getElem_cons_succ, List.getElem_cons_zero, Act.put, List.setIfInBounds_toArray, List.set_cons_zero, List.set_cons_succ]
                  refine wpAnyH_take (i := 6) (v := ?_) rfl (by kernel_rfl) (by kernel_rfl) (by kernel_rfl) (fun _ _ _ h => h) (Or.inl ⟨by rfl, ?_⟩) hHeld ?_
                  rotate_left
                  · intro w' hSw
                    go_simp
                    try with_reducible rfl
                  try simp only [List.getElem_toArray, List.getElem_cons_succ, List.getElem_cons_zero, Act.put, List.setIfInBounds_toArray, List.set_cons_zero, List.set_cons_succ]
                  refine wpAnyH_take (i := 7) (v := ?_) rfl (by kernel_rfl) (by kernel_rfl) (by kernel_rfl) (fun _ _ _ h => h) (Or.inl ⟨by rfl, ?_⟩) hHeld ?_
                  rotate_left
                  · intro w' hSw
                    go_simp
                    try with_reducible rfl
                  try simp only [List.getElem_toArray, List.getElem_cons_succ, List.getElem_cons_zero, Act.put, List.setIfInBounds_toArray, List.set_cons_zero, List.set_cons_succ]
                  refine wpAnyH_take (i := 8) (v := ?_) rfl (by kernel_rfl) (by kernel_rfl) (by kernel_rfl) (fun _ _ _ h => h) (Or.inl ⟨by rfl, ?_⟩) hHeld ?_
                  rotate_left
                  · intro w' hSw
                    go_simp
                    try with_reducible rfl
                  try simp only [List.getElem_toArray, List.getElem_cons_succ, List.getElem_cons_zero, Act.put, List.setIfInBounds_toArray, List.set_cons_zero, List.set_cons_succ]
                  have hb6 := ((hb5.setCell (p := ⟨wc.heap.size, 0, none⟩) (Nat.le_refl _) (.string (foundC kk lj).1.kind)).setCell (p := ⟨wc.heap.size, 1, none⟩) (Nat.le_refl _) (.string (foundC kk lj).1.key)).setCell (p := ⟨wc.heap.size, 2, none⟩) (Nat.le_refl _) (.slice q ((foundC kk lj).1.attrs.length : Nat) d)
                  have zF6 : (((w5.setCell ⟨wc.heap.size, 0, none⟩ (.string (foundC kk lj).1.kind)).setCell ⟨wc.heap.size, 1, none⟩ (.string (foundC kk lj).1.key)).setCell ⟨wc.heap.size, 2, none⟩ (.slice q ((foundC kk lj).1.attrs.length : Nat) d)).heap[wc.heap.size]? = some (.cells #[.string (foundC kk lj).1.kind, .string (foundC kk lj).1.key, .slice q ((foundC kk lj).1.attrs.length : Nat) d] 40 (0, 0)) := box_put (box_put (box_put zF5 _) _) _
                  have hXF : ¬ (wc.heap.size < wc.heap.size ∧ wc.heap.size < (wc.alloc (.cells #[.string ⟨#[]⟩, .string ⟨#[]⟩, .slice none 0 0] 40)).drew.heap.size) := fun h => absurd h.1 (Nat.lt_irrefl _)
                  have hq6 : AttrsP (fun b => b < wc.heap.size ∧ b < (wc.alloc (.cells #[.string ⟨#[]⟩, .string ⟨#[]⟩, .slice none 0 0] 40)).drew.heap.size) q d (foundC kk lj).1.attrs _ := hq.same ((((SameB.refl _ w5).set (B := wc.heap.size) hXF 0 (.string (foundC kk lj).1.kind)).set (B := wc.heap.size) hXF 1 (.string (foundC kk lj).1.key)).set (B := wc.heap.size) hXF 2 (.slice q ((foundC kk lj).1.attrs.length : Nat) d))
                  refine wpAnyH_ready (rs := [10]) (by kernel_rfl) (by simp) ?_
                  refine AllReadyH.cons rfl (fun K hK => ?_) AllReadyH.nil
                  go_simp
                  refine hK.out _ _ ⟨(hb6.cell (p := ⟨Z, 0, none⟩) hZsF).trans cZF, (hb6.cell (p := ⟨J, n, none⟩) hLF.k).trans hkF⟩ (fun _ => ?_)
                  clear hK K hHeld
                  have hHeld : (fun w' => w'.cell? ⟨Z, 0, none⟩ = some (.slice pj lj.length cj) ∧ w'.cell? ⟨J, n, none⟩ = some (.string kk)) (((w5.setCell ⟨wc.heap.size, 0, none⟩ (.string (foundC kk lj).1.kind)).setCell ⟨wc.heap.size, 1, none⟩ (.string (foundC kk lj).1.key)).setCell ⟨wc.heap.size, 2, none⟩ (.slice q ((foundC kk lj).1.attrs.length : Nat) d)) := ⟨(hb6.cell (p := ⟨Z, 0, none⟩) hZsF).trans cZF, (hb6.cell (p := ⟨J, n, none⟩) hLF.k).trans hkF⟩
                  try simp only [List.getElem_toArray, List.getElem_cons_succ, List.getElem_cons_zero, Act.put, List.setIfInBounds_toArray, List.set_cons_zero, List.set_cons_succ]
                  refine wpAnyH_take (i := 11) (v := ?_) rfl (by kernel_rfl) (by kernel_rfl) (by kernel_rfl) (fun _ _ _ h => h) (Or.inl ⟨by rfl, ?_⟩) hHeld ?_
                  rotate_left
                  · intro w' hSw
                    go_simp
                    try with_reducible rfl
                  try simp only [List.getElem_toArray, List.getElem_cons_succ, List.getElem_cons_zero, Act.put, List.setIfInBounds_toArray, List.set_cons_zero, List.set_cons_succ]
                  refine wpAnyH_done (by kernel_rfl) ?_ _
                  go_wp2
                  go_meet
                  case rel => exact ⟨wc.heap.size, q, d, rfl, rfl, zF6, Nat.le_refl _, hq6.mono fun _ _ _ => trivial, hb6⟩
              case rest =>
                obtain ⟨F2, q2, d2, rfl, rfl, zG, hFG, hqG, hbG⟩ := hcut
                clear hFind
                have hLG := hLF.below hbG
                have hkG := (hbG.cell (p := ⟨J, n, none⟩) hLF.k).trans hkF
                have hZsG := Nat.lt_of_lt_of_le hZsF hbG.size
                have cZG := (hbG.cell (p := ⟨Z, 0, none⟩) hZsF).trans cZF
                have hSG := hSF.below hbG
                have hbmG := hbmF.trans (hbG.mono hbmF.size)
                have zFG := (hbG.block F hFs).trans zF
                have hqFG := hqF.same (SameB.of_below hbG)
                clear hLF hkF hZsF cZF hSF hbmF zF hqF hbG hFs hFG
                have f0 : wc.cell? ⟨F, 0, none⟩ = some (.string (foundC kk lj).1.kind) := by rw [Lib.cell_of_heap zFG]; rfl
                have f1 : wc.cell? ⟨F, 1, none⟩ = some (.string (foundC kk lj).1.key) := by rw [Lib.cell_of_heap zFG]; rfl
                have f2 : wc.cell? ⟨F, 2, none⟩ = some (.slice q1 (foundC kk lj).1.attrs.length d1) := by rw [Lib.cell_of_heap zFG]; rfl
                have g0 : wc.cell? ⟨F2, 0, none⟩ = some (.string (foundC kk lj).1.kind) := by rw [Lib.cell_of_heap zG]; rfl
                have g1 : wc.cell? ⟨F2, 1, none⟩ = some (.string (foundC kk lj).1.key) := by rw [Lib.cell_of_heap zG]; rfl
                have g2 : wc.cell? ⟨F2, 2, none⟩ = some (.slice q2 (foundC kk lj).1.attrs.length d2) := by rw [Lib.cell_of_heap zG]; rfl
                have hA1 := (Below.refl wc.heap.size wc).alloc (Nat.le_refl _) (.cells #[.string (foundC kk lj).1.kind, .string (foundC kk lj).1.key, .slice q1 ((foundC kk lj).1.attrs.length : Nat) d1] 40)
                have hA2 := hA1.alloc hA1.size (.cells #[.string (foundC kk lj).1.kind, .string (foundC kk lj).1.key, .slice q2 ((foundC kk lj).1.attrs.length : Nat) d2] 40)
                have hGs : F2 < wc.heap.size := (Array.getElem?_eq_some_iff.1 zG).1
                have g0 := (hA1.cell (p := ⟨F2, 0, none⟩) hGs).trans g0
                have g1 := (hA1.cell (p := ⟨F2, 1, none⟩) hGs).trans g1
                have g2 := (hA1.cell (p := ⟨F2, 2, none⟩) hGs).trans g2
                have zA1 : ((wc.alloc (.cells #[.string (foundC kk lj).1.kind, .string (foundC kk lj).1.key, .slice q1 ((foundC kk lj).1.attrs.length : Nat) d1] 40)).alloc (.cells #[.string (foundC kk lj).1.kind, .string (foundC kk lj).1.key, .slice q2 ((foundC kk lj).1.attrs.length : Nat) d2] 40)).heap[wc.heap.size]? = some (.cells #[.string (foundC kk lj).1.kind, .string (foundC kk lj).1.key, .slice q1 ((foundC kk lj).1.attrs.length : Nat) d1] 40 (0, 0)) := (Lib.alloc_old _ _ _ (by simp)).trans (heap_alloc_new wc _)
                have zA2 : ((wc.alloc (.cells #[.string (foundC kk lj).1.kind, .string (foundC kk lj).1.key, .slice q1 ((foundC kk lj).1.attrs.length : Nat) d1] 40)).alloc (.cells #[.string (foundC kk lj).1.kind, .string (foundC kk lj).1.key, .slice q2 ((foundC kk lj).1.attrs.length : Nat) d2] 40)).heap[wc.heap.size + 1]? = some (.cells #[.string (foundC kk lj).1.kind, .string (foundC kk lj).1.key, .slice q2 ((foundC kk lj).1.attrs.length : Nat) d2] 40 (0, 0)) := by
                  have := heap_alloc_new (wc.alloc (.cells #[.string (foundC kk lj).1.kind, .string (foundC kk lj).1.key, .slice q1 ((foundC kk lj).1.attrs.length : Nat) d1] 40)) (.cells #[.string (foundC kk lj).1.kind, .string (foundC kk lj).1.key, .slice q2 ((foundC kk lj).1.attrs.length : Nat) d2] 40)
                  simpa using this
                have hfX : ∀ x ∈ [(foundC kk lj).1], x.attrs.length ≤ 9223372036854775000 ∧ ∀ a ∈ x.attrs, a.val.list.length ≤ 8796093022207 := fun x hx => by
                  rw [List.mem_singleton] at hx
                  subst hx
                  exact foundC_all (P := fun x => x.attrs.length ≤ 9223372036854775000 ∧ ∀ a ∈ x.attrs, a.val.list.length ≤ 8796093022207) (fun x hx => ⟨Nat.le_trans (hmj x hx).1 (by omega), (hmj x hx).2⟩) ⟨Nat.zero_le _, fun a ha => by simp [noC] at ha⟩
                have hsame : Calls Tryd.prog 16 #[.agg #[.slice (some ⟨wc.heap.size, 0, none⟩) 1 1], .agg #[.slice (some ⟨wc.heap.size + 1, 0, none⟩) 1 1]] ((wc.alloc (.cells #[.string (foundC kk lj).1.kind, .string (foundC kk lj).1.key, .slice q1 ((foundC kk lj).1.attrs.length : Nat) d1] 40)).alloc (.cells #[.string (foundC kk lj).1.kind, .string (foundC kk lj).1.key, .slice q2 ((foundC kk lj).1.attrs.length : Nat) d2] 40)) fun e w' => e = .returned (.bool true) ∧ Below ((wc.alloc (.cells #[.string (foundC kk lj).1.kind, .string (foundC kk lj).1.key, .slice q1 ((foundC kk lj).1.attrs.length : Nat) d1] 40)).alloc (.cells #[.string (foundC kk lj).1.kind, .string (foundC kk lj).1.key, .slice q2 ((foundC kk lj).1.attrs.length : Nat) d2] 40)).heap.size ((wc.alloc (.cells #[.string (foundC kk lj).1.kind, .string (foundC kk lj).1.key, .slice q1 ((foundC kk lj).1.attrs.length : Nat) d1] 40)).alloc (.cells #[.string (foundC kk lj).1.kind, .string (foundC kk lj).1.key, .slice q2 ((foundC kk lj).1.attrs.length : Nat) d2] 40)) w' := same_refl (some ⟨wc.heap.size, 0, none⟩) (some ⟨wc.heap.size + 1, 0, none⟩) 1 1 [(foundC kk lj).1] _ (ctxs_one zA1 (hqFG.same (SameB.of_below hA2))) (ctxs_one zA2 (hqG.same (SameB.of_below hA2))) (by simp) hfX
                replace hsame := Lib.hid hsame
                clear zA1 zA2 hfX hqFG hqG hA1
                go_upto_region 19 with (go_at_call 16; refine hsame.out.mono ?_; rintro e w5 ⟨rfl, hb5⟩)
                have hb5 := hA2.trans (hb5.mono hA2.size)
                clear hsame hA2 f0 f1 f2 g0 g1 g2 zFG zG hGs
                have hLH := hLG.below hb5
                have hkH := (hb5.cell (p := ⟨J, n, none⟩) hLG.k).trans hkG
                have hZsH := Nat.lt_of_lt_of_le hZsG hb5.size
                have cZH := (hb5.cell (p := ⟨Z, 0, none⟩) hZsG).trans cZG
                have hSH := hSG.below hb5
                have hbmH := hbmG.trans (hb5.mono hbmG.size)
                clear hLG hkG hZsG cZG hSG hbmG hb5
                go_wp2
                go_loopw [20, 21, 22, 23, 24] (fun i _ _ _ _ wv => ∃ k : Nat, k ≤ 6 ∧ i = .int .i64 k ∧ Below w5.heap.size w5 wv) (fun i _ _ _ _ _ => 6 - (intOf i).toNat)
                case atStart => exact ⟨0, Nat.zero_le _, rfl, Below.refl _ _⟩
                case round =>
                  obtain ⟨k, hk, rfl, hbv⟩ := hrel
                  have hLv := hLH.below hbv
                  have hkv := (hbv.cell (p := ⟨J, n, none⟩) hLH.k).trans hkH
                  have hZv := Nat.lt_of_lt_of_le hZsH hbv.size
                  have cZv := (hbv.cell (p := ⟨Z, 0, none⟩) hZsH).trans cZH
                  have hSv := hSH.below hbv
                  by_cases hkt : k < 6
                  · have hkI : (k : Int) < 6 := by omega
                    have hkI0 : (0 : Int) ≤ (k : Int) := by omega
                    have hnv := hLv.ns k hkt
                    generalize ([nm0, ⟨#[107, 101, 121]⟩, ⟨#[112, 108, 97, 110]⟩, ⟨#[99, 111, 114, 101, 115]⟩, ⟨#[116, 97, 103, 115]⟩, n2] : List ByteArray)[k]'hkt = nn at hnv
                    have hLook : ∀ W, Below wr.heap.size wr W → Calls Tryd.prog 17 #[.agg #[.slice pj (lj.length : Nat) cj], .string kk, .string nn] W fun e w' => (∃ (q : Option Addr) (d : Nat), e = .returned (.tuple #[.agg #[.int .i64 (foundV kk nn lj).1.kind, .int .i64 (foundV kk nn lj).1.num, .string (foundV kk nn lj).1.text, .slice q ((foundV kk nn lj).1.list.length : Nat) d], .bool (foundV kk nn lj).2]) ∧ ListP (fun b => W.heap.size ≤ b) q d (foundV kk nn lj).1.list w') ∧ Below W.heap.size W w' := fun W hb => lookup_any pj cj lj kk nn W (hSv.row.same (SameB.of_below hb)) hSv.len hmj
                    replace hLook := Lib.hid hLook
                    go_upto_region 22 with (fail)
                    go_cut [21, 22] (fun a b wx => ∃ (F : Nat) (q : Option Addr) (d : Nat), a = .pointer (some ⟨F, 0, none⟩) ∧ b = .bool (foundV kk nn lj).2 ∧ wx.heap[F]? = some (.cells #[.int .i64 (foundV kk nn lj).1.kind, .int .i64 (foundV kk nn lj).1.num, .string (foundV kk nn lj).1.text, .slice q ((foundV kk nn lj).1.list.length : Nat) d] 45 (0, 0)) ∧ wr.heap.size ≤ F ∧ ListP (fun _ => True) q d (foundV kk nn lj).1.list wx ∧ Below wr.heap.size wr wx)
                    case first =>
                      have hdr := (Below.refl wr.heap.size wr).drew
                      refine wp_region_held_drew (S := fun w' => w'.cell? ⟨Z, 0, none⟩ = some (.slice pj lj.length cj) ∧ w'.cell? ⟨J, n, none⟩ = some (.string kk) ∧ w'.cell? ⟨M, k, none⟩ = some (.string nn)) (by kernel_rfl) (⟨cZv, hkv, hnv⟩) (fun hHeld => ?_)
                      refine wpAnyH_take (i := 0) (v := ?_) rfl (by kernel_rfl) (by kernel_rfl) (by kernel_rfl) (fun _ _ _ h => h) (Or.inl ⟨by rfl, ?_⟩) hHeld ?_
                      rotate_left
                      · intro w' hSw
                        obtain ⟨e1, e2, e3⟩ := hSw
                        go_simp
                        try with_reducible rfl
                      try simp only [List.getElem_toArray, List.getElem_cons_succ, List.getElem_cons_zero, Act.put, List.setIfInBounds_toArray, List.set_cons_zero, List.set_cons_succ]
                      refine wpAnyH_take (i := 1) (v := ?_) rfl (by kernel_rfl) (by kernel_rfl) (by kernel_rfl) (fun _ _ _ h => h) (Or.inl ⟨by rfl, ?_⟩) hHeld ?_
                      rotate_left
                      · intro w' hSw
                        go_simp
                        try with_reducible rfl
                      try simp only [List.getElem_toArray, List.getElem_cons_succ, List.getElem_cons_zero, Act.put, List.setIfInBounds_toArray, List.set_cons_zero, List.set_cons_succ]
                      refine wpAnyH_take (i := 2) (v := ?_) rfl (by kernel_rfl) (by kernel_rfl) (by kernel_rfl) (fun _ _ _ h => h) (Or.inl ⟨by rfl, ?_⟩) hHeld ?_
                      rotate_left
                      · intro w' hSw
                        go_simp
                        try with_reducible rfl
                      try simp only [List.getElem_toArray, List.getElem_cons_succ, List.getElem_cons_zero, Act.put, List.setIfInBounds_toArray, List.set_cons_zero, List.set_cons_succ]
                      refine wpAnyH_take (i := 3) (v := ?_) rfl (by kernel_rfl) (by kernel_rfl) (by kernel_rfl) (fun _ _ _ h => h) (Or.inl ⟨by rfl, ?_⟩) hHeld ?_
                      rotate_left
                      · intro w' hSw
                        go_simp
                        try with_reducible rfl
                      try simp only [List.getElem_toArray, List.getElem_cons_succ, List.getElem_cons_zero, Act.put, List.setIfInBounds_toArray, List.set_cons_zero, List.set_cons_succ]
                      refine wpAnyH_take (i := 4) (v := ?_) rfl (by kernel_rfl) (by kernel_rfl) (by kernel_rfl) (fun _ _ _ h => h) (Or.inl ⟨by rfl, ?_⟩) hHeld ?_
                      rotate_left
                      · intro w' hSw
                        obtain ⟨e1, e2, e3⟩ := hSw
                        go_simp
                        try with_reducible rfl
                      try simp only [List.getElem_toArray, List.getElem_cons_succ, List.getElem_cons_zero, Act.put, List.setIfInBounds_toArray, List.set_cons_zero, List.set_cons_succ]
                      refine wpAnyH_take (i := 5) (v := ?_) rfl (by kernel_rfl) (by kernel_rfl) (by kernel_rfl) (fun _ _ _ h => h) (Or.inl ⟨by rfl, ?_⟩) hHeld ?_
                      rotate_left
                      · intro w' hSw
                        go_simp
                        try with_reducible rfl
                      try simp only [List.getElem_toArray, List.getElem_cons_succ, List.getElem_cons_zero, Act.put, List.setIfInBounds_toArray, List.set_cons_zero, List.set_cons_succ]
                      refine wpAnyH_take (i := 6) (v := ?_) rfl (by kernel_rfl) (by kernel_rfl) (by kernel_rfl) (fun _ _ _ h => h) (Or.inl ⟨by rfl, ?_⟩) hHeld ?_
                      rotate_left
                      · intro w' hSw
                        go_simp
                        try with_reducible rfl
                      try simp only [List.getElem_toArray, List.getElem_cons_succ, List.getElem_cons_zero, Act.put, List.setIfInBounds_toArray, List.set_cons_zero, List.set_cons_succ]
                      refine wpAnyH_take (i := 7) (v := ?_) rfl (by kernel_rfl) (by kernel_rfl) (by kernel_rfl) (fun _ _ _ h => h) (Or.inl ⟨by rfl, ?_⟩) hHeld ?_
                      rotate_left
                      · intro w' hSw
                        go_simp
                        try with_reducible rfl
                      try simp only [List.getElem_toArray, List.getElem_cons_succ, List.getElem_cons_zero, Act.put, List.setIfInBounds_toArray, List.set_cons_zero, List.set_cons_succ]
                      refine wpAnyH_take (i := 8) (v := ?_) rfl (by kernel_rfl) (by kernel_rfl) (by kernel_rfl) (fun _ _ _ h => h) (Or.inl ⟨by rfl, ?_⟩) hHeld ?_
                      rotate_left
                      · intro w' hSw
                        obtain ⟨e1, e2, e3⟩ := hSw
                        go_simp
                        try with_reducible rfl
                      try simp only [List.getElem_toArray, List.getElem_cons_succ, List.getElem_cons_zero, Act.put, List.setIfInBounds_toArray, List.set_cons_zero, List.set_cons_succ]
                      refine wpAnyH_ready (rs := [9, 13]) (by kernel_rfl) (by simp) ?_
                      refine AllReadyH.cons rfl (fun K hK => ?_) (AllReadyH.cons rfl (fun K hK => ?_) AllReadyH.nil)
                      · go_simp
                        go_at_call 17
                        refine (hLook.out _ hdr).mono ?_
                        rintro e w5 ⟨⟨q, d, rfl, hq⟩, hb5'⟩
                        have hb5 := hdr.trans (hb5'.mono hdr.size)
                        refine hK.out _ _ ⟨(hb5.cell (p := ⟨Z, 0, none⟩) hZv).trans cZv, (hb5.cell (p := ⟨J, n, none⟩) hLv.k).trans hkv, (hb5.cell (p := ⟨M, k, none⟩) hLv.m).trans hnv⟩ (fun _ => ?_)
                        clear hK K hHeld
                        have hHeld : (fun w' => w'.cell? ⟨Z, 0, none⟩ = some (.slice pj lj.length cj) ∧ w'.cell? ⟨J, n, none⟩ = some (.string kk) ∧ w'.cell? ⟨M, k, none⟩ = some (.string nn)) w5 := ⟨(hb5.cell (p := ⟨Z, 0, none⟩) hZv).trans cZv, (hb5.cell (p := ⟨J, n, none⟩) hLv.k).trans hkv, (hb5.cell (p := ⟨M, k, none⟩) hLv.m).trans hnv⟩
                        try simp only [List.getElem_toArray, List.getElem_cons_succ, List.getElem_cons_zero, Act.put, List.setIfInBounds_toArray, List.set_cons_zero, List.set_cons_succ]
                        refine wpAnyH_take (i := 10) (v := ?_) rfl (by kernel_rfl) (by kernel_rfl) (by kernel_rfl) (fun _ _ _ h => h) (Or.inl ⟨by rfl, ?_⟩) hHeld ?_
                        rotate_left
                        · intro w' hSw
                          go_simp
                          try with_reducible rfl
                        try simp only [List.getElem_toArray, List.getElem_cons_succ, List.getElem_cons_zero, Act.put, List.setIfInBounds_toArray, List.set_cons_zero, List.set_cons_succ]
                        refine wpAnyH_take (i := 11) (v := ?_) rfl (by kernel_rfl) (by kernel_rfl) (by kernel_rfl) (fun _ _ _ h => h) (Or.inl ⟨by rfl, ?_⟩) hHeld ?_
                        rotate_left
                        · intro w' hSw
                          go_simp
                          try with_reducible rfl
                        try simp only [List.getElem_toArray, List.getElem_cons_succ, List.getElem_cons_zero, Act.put, List.setIfInBounds_toArray, List.set_cons_zero, List.set_cons_succ]
                        refine wpAnyH_take (i := 12) (v := ?_) rfl (by kernel_rfl) (by kernel_rfl) (by kernel_rfl) (fun _ _ _ h => h) (Or.inl ⟨by rfl, ?_⟩) hHeld ?_
                        rotate_left
                        · intro w' hSw
                          go_simp
                          try with_reducible rfl
                        try simp only [List.getElem_toArray, List.getElem_cons_succ, List.getElem_cons_zero, Act.put, List.setIfInBounds_toArray, List.set_cons_zero, List.set_cons_succ]
                        have hal0 := hb5.alloc hb5.size (.cells #[.int .i64 0, .int .i64 0, .string ⟨#[]⟩, .slice none 0 0] 45)
                        have hal1 := hb5.alloc hb5.size (.cells #[.int .i64 (foundV kk nn lj).1.kind, .int .i64 (foundV kk nn lj).1.num, .string (foundV kk nn lj).1.text, .slice q ((foundV kk nn lj).1.list.length : Nat) d] 45)
                        refine wpAnyH_ready (rs := [13]) (by kernel_rfl) (by simp) ?_
                        refine AllReadyH.cons rfl (fun K hK => ?_) AllReadyH.nil
                        go_simp
                        refine hK.out _ _ ⟨(hal0.cell (p := ⟨Z, 0, none⟩) hZv).trans cZv, (hal0.cell (p := ⟨J, n, none⟩) hLv.k).trans hkv, (hal0.cell (p := ⟨M, k, none⟩) hLv.m).trans hnv⟩ (fun _ => ?_)
                        clear hK K
                        try simp only [List.getElem_toArray, List.getElem_cons_succ, List.getElem_cons_zero, Act.put, List.setIfInBounds_toArray, List.set_cons_zero, List.set_cons_succ]
                        refine wpAnyH_ready (rs := [14]) (by kernel_rfl) (by simp) ?_
                        refine AllReadyH.cons rfl (fun K hK => ?_) AllReadyH.nil
                        go_simp
                        refine hK.out _ _ ⟨(hal1.cell (p := ⟨Z, 0, none⟩) hZv).trans cZv, (hal1.cell (p := ⟨J, n, none⟩) hLv.k).trans hkv, (hal1.cell (p := ⟨M, k, none⟩) hLv.m).trans hnv⟩ (fun _ => ?_)
                        clear hK K hHeld
                        have hHeld : (fun w' => w'.cell? ⟨Z, 0, none⟩ = some (.slice pj lj.length cj) ∧ w'.cell? ⟨J, n, none⟩ = some (.string kk) ∧ w'.cell? ⟨M, k, none⟩ = some (.string nn)) (w5.alloc (.cells #[.int .i64 (foundV kk nn lj).1.kind, .int .i64 (foundV kk nn lj).1.num, .string (foundV kk nn lj).1.text, .slice q ((foundV kk nn lj).1.list.length : Nat) d] 45)) := ⟨(hal1.cell (p := ⟨Z, 0, none⟩) hZv).trans cZv, (hal1.cell (p := ⟨J, n, none⟩) hLv.k).trans hkv, (hal1.cell (p := ⟨M, k, none⟩) hLv.m).trans hnv⟩
                        try simp only [List.getElem_toArray, List.getElem_cons_succ, List.getElem_cons_zero, Act.put, List.setIfInBounds_toArray, List.set_cons_zero, List.set_cons_succ]
                        refine wpAnyH_take (i := 15) (v := ?_) rfl (by kernel_rfl) (by kernel_rfl) (by kernel_rfl) (fun _ _ _ h => h) (Or.inl ⟨by rfl, ?_⟩) hHeld ?_
                        rotate_left
                        · intro w' hSw
                          go_simp
                          try with_reducible rfl
                        try simp only [List.getElem_toArray, List.getElem_cons_succ, List.getElem_cons_zero, Act.put, List.setIfInBounds_toArray, List.set_cons_zero, List.set_cons_succ]
                        refine wpAnyH_done (by kernel_rfl) ?_ _
                        go_wp2
                        go_meet
                        case rel => exact ⟨w5.heap.size, q, d, rfl, rfl, heap_alloc_new w5 _, hb5.size, (hq.mono fun _ _ _ => trivial).same (SameB.of_below ((Below.refl w5.heap.size w5).alloc (Nat.le_refl _) _)), hal1⟩
                      · have hal0 := ((Below.refl wr.heap.size wr).alloc (Nat.le_refl _) (.cells #[.int .i64 0, .int .i64 0, .string ⟨#[]⟩, .slice none 0 0] 45)).drew
                        have zF := heap_alloc_new wr (.cells #[.int .i64 0, .int .i64 0, .string ⟨#[]⟩, .slice none 0 0] 45)
                        go_simp
                        refine hK.out _ _ ⟨(hal0.cell (p := ⟨Z, 0, none⟩) hZv).trans cZv, (hal0.cell (p := ⟨J, n, none⟩) hLv.k).trans hkv, (hal0.cell (p := ⟨M, k, none⟩) hLv.m).trans hnv⟩ (fun _ => ?_)
                        clear hK K hHeld
                        have hHeld : (fun w' => w'.cell? ⟨Z, 0, none⟩ = some (.slice pj lj.length cj) ∧ w'.cell? ⟨J, n, none⟩ = some (.string kk) ∧ w'.cell? ⟨M, k, none⟩ = some (.string nn)) (wr.alloc (.cells #[.int .i64 0, .int .i64 0, .string ⟨#[]⟩, .slice none 0 0] 45)).drew := ⟨(hal0.cell (p := ⟨Z, 0, none⟩) hZv).trans cZv, (hal0.cell (p := ⟨J, n, none⟩) hLv.k).trans hkv, (hal0.cell (p := ⟨M, k, none⟩) hLv.m).trans hnv⟩
                        try simp only [List.getElem_toArray, List.getElem_cons_succ, List.getElem_cons_zero, Act.put, List.setIfInBounds_toArray, List.set_cons_zero, List.set_cons_succ]
                        refine wpAnyH_ready (rs := [9]) (by kernel_rfl) (by simp) ?_
                        refine AllReadyH.cons rfl (fun K hK => ?_) AllReadyH.nil
                        go_simp
                        go_at_call 17
                        refine (hLook.out _ hal0).mono ?_
                        rintro e w5 ⟨⟨q, d, rfl, hq⟩, hb5'⟩
                        have hb5 := hal0.trans (hb5'.mono hal0.size)
                        have hsF : wr.heap.size < (wr.alloc (.cells #[.int .i64 0, .int .i64 0, .string ⟨#[]⟩, .slice none 0 0] 45)).drew.heap.size := by show wr.heap.size < (wr.alloc (.cells #[.int .i64 0, .int .i64 0, .string ⟨#[]⟩, .slice none 0 0] 45)).heap.size; simp
                        have zF5 : w5.heap[wr.heap.size]? = some (.cells #[.int .i64 0, .int .i64 0, .string ⟨#[]⟩, .slice none 0 0] 45 (0, 0)) := (hb5'.block wr.heap.size hsF).trans zF
                        have k0 : w5.cell? ⟨wr.heap.size, 0, none⟩ = some (.int .i64 0) := by rw [Lib.cell_of_heap zF5]; rfl
                        have k1 : w5.cell? ⟨wr.heap.size, 1, none⟩ = some (.int .i64 0) := by rw [Lib.cell_of_heap zF5]; rfl
                        have k2 : w5.cell? ⟨wr.heap.size, 2, none⟩ = some (.string ⟨#[]⟩) := by rw [Lib.cell_of_heap zF5]; rfl
                        have k3 : w5.cell? ⟨wr.heap.size, 3, none⟩ = some (.slice none 0 0) := by rw [Lib.cell_of_heap zF5]; rfl
                        have kf : ∀ i, w5.frozen? ⟨wr.heap.size, i, none⟩ = false := Lib.frozen_of_heap zF5
                        refine hK.out _ _ ⟨(hb5.cell (p := ⟨Z, 0, none⟩) hZv).trans cZv, (hb5.cell (p := ⟨J, n, none⟩) hLv.k).trans hkv, (hb5.cell (p := ⟨M, k, none⟩) hLv.m).trans hnv⟩ (fun _ => ?_)
                        clear hK K hHeld
                        have hHeld : (fun w' => w'.cell? ⟨Z, 0, none⟩ = some (.slice pj lj.length cj) ∧ w'.cell? ⟨J, n, none⟩ = some (.string kk) ∧ w'.cell? ⟨M, k, none⟩ = some (.string nn)) w5 := ⟨(hb5.cell (p := ⟨Z, 0, none⟩) hZv).trans cZv, (hb5.cell (p := ⟨J, n, none⟩) hLv.k).trans hkv, (hb5.cell (p := ⟨M, k, none⟩) hLv.m).trans hnv⟩
                        try simp only [List.getElem_toArray, List.getElem_cons_succ, List.getElem_cons_zero, Act.put, List.setIfInBounds_toArray, List.set_cons_zero, List.set_cons_succ]
                        refine wpAnyH_take (i := 10) (v := ?_) rfl (by kernel_rfl) (by kernel_rfl) (by kernel_rfl) (fun _ _ _ h => h) (Or.inl ⟨by rfl, ?_⟩) hHeld ?_
                        rotate_left
                        · intro w' hSw
                          go_simp
                          try with_reducible rfl
                        try simp only [List.getElem_toArray, List.getElem_cons_succ, List.getElem_cons_zero, Act.put, List.setIfInBounds_toArray, List.set_cons_zero, List.set_cons_succ]
                        refine wpAnyH_take (i := 11) (v := ?_) rfl (by kernel_rfl) (by kernel_rfl) (by kernel_rfl) (fun _ _ _ h => h) (Or.inl ⟨by rfl, ?_⟩) hHeld ?_
                        rotate_left
                        · intro w' hSw
                          go_simp
                          try with_reducible rfl
                        try simp only [List.getElem_toArray, List.getElem_cons_succ, List.getElem_cons_zero, Act.put, List.setIfInBounds_toArray, List.set_cons_zero, List.set_cons_succ]
                        refine wpAnyH_take (i := 12) (v := ?_) rfl (by kernel_rfl) (by kernel_rfl) (by kernel_rfl) (fun _ _ _ h => h) (Or.inl ⟨by rfl, ?_⟩) hHeld ?_
                        rotate_left
                        · intro w' hSw
                          go_simp
                          try with_reducible rfl
                        try simp only [List.getElem_toArray, List.getElem_cons_succ, List.getElem_cons_zero, Act.put, List.setIfInBounds_toArray, List.set_cons_zero, List.set_cons_succ]
                        have hb6 := ((((hb5.setCell (p := ⟨wr.heap.size, 0, none⟩) (Nat.le_refl _) (.int .i64 (foundV kk nn lj).1.kind)).setCell (p := ⟨wr.heap.size, 1, none⟩) (Nat.le_refl _) (.int .i64 (foundV kk nn lj).1.num)).setCell (p := ⟨wr.heap.size, 2, none⟩) (Nat.le_refl _) (.string (foundV kk nn lj).1.text)).setCell (p := ⟨wr.heap.size, 3, none⟩) (Nat.le_refl _) (.slice q ((foundV kk nn lj).1.list.length : Nat) d))
                        have zF6 : ((((w5.setCell ⟨wr.heap.size, 0, none⟩ (.int .i64 (foundV kk nn lj).1.kind)).setCell ⟨wr.heap.size, 1, none⟩ (.int .i64 (foundV kk nn lj).1.num)).setCell ⟨wr.heap.size, 2, none⟩ (.string (foundV kk nn lj).1.text)).setCell ⟨wr.heap.size, 3, none⟩ (.slice q ((foundV kk nn lj).1.list.length : Nat) d)).heap[wr.heap.size]? = some (.cells #[.int .i64 (foundV kk nn lj).1.kind, .int .i64 (foundV kk nn lj).1.num, .string (foundV kk nn lj).1.text, .slice q ((foundV kk nn lj).1.list.length : Nat) d] 45 (0, 0)) := (box_put (box_put (box_put (box_put zF5 _) _) _) _)
                        have hXF : ¬ ((wr.alloc (.cells #[.int .i64 0, .int .i64 0, .string ⟨#[]⟩, .slice none 0 0] 45)).drew.heap.size ≤ wr.heap.size) := by omega
                        have hq6 : ListP (fun b => ((wr.alloc (.cells #[.int .i64 0, .int .i64 0, .string ⟨#[]⟩, .slice none 0 0] 45)).drew.heap.size ≤ b)) q d (foundV kk nn lj).1.list _ := hq.same (((((SameB.refl _ w5).set (B := wr.heap.size) hXF 0 (.int .i64 (foundV kk nn lj).1.kind)).set (B := wr.heap.size) hXF 1 (.int .i64 (foundV kk nn lj).1.num)).set (B := wr.heap.size) hXF 2 (.string (foundV kk nn lj).1.text)).set (B := wr.heap.size) hXF 3 (.slice q ((foundV kk nn lj).1.list.length : Nat) d))
                        refine wpAnyH_ready (rs := [14]) (by kernel_rfl) (by simp) ?_
                        refine AllReadyH.cons rfl (fun K hK => ?_) AllReadyH.nil
                        go_simp
                        refine hK.out _ _ ⟨(hb6.cell (p := ⟨Z, 0, none⟩) hZv).trans cZv, (hb6.cell (p := ⟨J, n, none⟩) hLv.k).trans hkv, (hb6.cell (p := ⟨M, k, none⟩) hLv.m).trans hnv⟩ (fun _ => ?_)
                        clear hK K hHeld
                        have hHeld : (fun w' => w'.cell? ⟨Z, 0, none⟩ = some (.slice pj lj.length cj) ∧ w'.cell? ⟨J, n, none⟩ = some (.string kk) ∧ w'.cell? ⟨M, k, none⟩ = some (.string nn)) ((((w5.setCell ⟨wr.heap.size, 0, none⟩ (.int .i64 (foundV kk nn lj).1.kind)).setCell ⟨wr.heap.size, 1, none⟩ (.int .i64 (foundV kk nn lj).1.num)).setCell ⟨wr.heap.size, 2, none⟩ (.string (foundV kk nn lj).1.text)).setCell ⟨wr.heap.size, 3, none⟩ (.slice q ((foundV kk nn lj).1.list.length : Nat) d)) := ⟨(hb6.cell (p := ⟨Z, 0, none⟩) hZv).trans cZv, (hb6.cell (p := ⟨J, n, none⟩) hLv.k).trans hkv, (hb6.cell (p := ⟨M, k, none⟩) hLv.m).trans hnv⟩
                        try simp only [List.getElem_toArray, List.getElem_cons_succ, List.getElem_cons_zero, Act.put, List.setIfInBounds_toArray, List.set_cons_zero, List.set_cons_succ]
                        refine wpAnyH_take (i := 15) (v := ?_) rfl (by kernel_rfl) (by kernel_rfl) (by kernel_rfl) (fun _ _ _ h => h) (Or.inl ⟨by rfl, ?_⟩) hHeld ?_
                        rotate_left
                        · intro w' hSw
                          go_simp
                          try with_reducible rfl
                        try simp only [List.getElem_toArray, List.getElem_cons_succ, List.getElem_cons_zero, Act.put, List.setIfInBounds_toArray, List.set_cons_zero, List.set_cons_succ]
                        refine wpAnyH_done (by kernel_rfl) ?_ _
                        go_wp2
                        go_meet
                        case rel => exact ⟨wr.heap.size, q, d, rfl, rfl, zF6, Nat.le_refl _, hq6.mono fun _ _ _ => trivial, hb6⟩
                    case rest =>
                      obtain ⟨F, q1, d1, rfl, rfl, zF, hFZ, hqF, hbF⟩ := hcut
                      clear hLook
                      have hLw := hLv.below hbF
                      have hkw := (hbF.cell (p := ⟨J, n, none⟩) hLv.k).trans hkv
                      have hnw := (hbF.cell (p := ⟨M, k, none⟩) hLv.m).trans hnv
                      have hZw := Nat.lt_of_lt_of_le hZv hbF.size
                      have cZw := (hbF.cell (p := ⟨Z, 0, none⟩) hZv).trans cZv
                      have hSw := hSv.below hbF
                      have hbw := hbv.trans (hbF.mono hbv.size)
                      have hFs : F < wc.heap.size := (Array.getElem?_eq_some_iff.1 zF).1
                      clear hLv hkv hnv hZv cZv hSv hbv hbF hFZ
                      have hLook : ∀ W, Below wc.heap.size wc W → Calls Tryd.prog 18 #[.agg #[.slice pj (lj.length : Nat) cj], .string kk, .string nn] W fun e w' => (∃ (q : Option Addr) (d : Nat), e = .returned (.tuple #[.agg #[.int .i64 (foundV kk nn lj).1.kind, .int .i64 (foundV kk nn lj).1.num, .string (foundV kk nn lj).1.text, .slice q ((foundV kk nn lj).1.list.length : Nat) d], .bool (foundV kk nn lj).2]) ∧ ListP (fun b => b < wc.heap.size ∧ b < W.heap.size) q d (foundV kk nn lj).1.list w') ∧ Below W.heap.size W w' := fun W hb => refLookup_any (P := fun b => b < wc.heap.size) pj cj lj kk nn W ((hSw.row.mono fun b h _ => h).same (SameB.of_below hb)) hSw.len (fun x hx => (hmj x hx).1)
                      replace hLook := Lib.hid hLook
                      go_upto_region 23 with (fail)
                      go_cut [23, 24] (fun a b wx => ∃ (F2 : Nat) (q : Option Addr) (d : Nat), a = .pointer (some ⟨F2, 0, none⟩) ∧ b = .bool (foundV kk nn lj).2 ∧ wx.heap[F2]? = some (.cells #[.int .i64 (foundV kk nn lj).1.kind, .int .i64 (foundV kk nn lj).1.num, .string (foundV kk nn lj).1.text, .slice q ((foundV kk nn lj).1.list.length : Nat) d] 45 (0, 0)) ∧ wc.heap.size ≤ F2 ∧ ListP (fun _ => True) q d (foundV kk nn lj).1.list wx ∧ Below wc.heap.size wc wx)
                      case first =>
                        have hdr := (Below.refl wc.heap.size wc).drew
                        refine wp_region_held_drew (S := fun w' => w'.cell? ⟨Z, 0, none⟩ = some (.slice pj lj.length cj) ∧ w'.cell? ⟨J, n, none⟩ = some (.string kk) ∧ w'.cell? ⟨M, k, none⟩ = some (.string nn)) (by kernel_rfl) (⟨cZw, hkw, hnw⟩) (fun hHeld => ?_)
                        refine wpAnyH_take (i := 0) (v := ?_) rfl (by kernel_rfl) (by kernel_rfl) (by kernel_rfl) (fun _ _ _ h => h) (Or.inl ⟨by rfl, ?_⟩) hHeld ?_
                        rotate_left
                        · intro w' hSw
                          obtain ⟨e1, e2, e3⟩ := hSw
                          go_simp
                          try with_reducible rfl
                        try simp only [List.getElem_toArray, List.getElem_cons_succ, List.getElem_cons_zero, Act.put, List.setIfInBounds_toArray, List.set_cons_zero, List.set_cons_succ]
                        refine wpAnyH_take (i := 1) (v := ?_) rfl (by kernel_rfl) (by kernel_rfl) (by kernel_rfl) (fun _ _ _ h => h) (Or.inl ⟨by rfl, ?_⟩) hHeld ?_
                        rotate_left
                        · intro w' hSw
                          go_simp
                          try with_reducible rfl
                        try simp only [List.getElem_toArray, List.getElem_cons_succ, List.getElem_cons_zero, Act.put, List.setIfInBounds_toArray, List.set_cons_zero, List.set_cons_succ]
                        refine wpAnyH_take (i := 2) (v := ?_) rfl (by kernel_rfl) (by kernel_rfl) (by kernel_rfl) (fun _ _ _ h => h) (Or.inl ⟨by rfl, ?_⟩) hHeld ?_
                        rotate_left
                        · intro w' hSw
                          go_simp
                          try with_reducible rfl
                        try simp only [List.getElem_toArray, List.getElem_cons_succ, List.getElem_cons_zero, Act.put, List.setIfInBounds_toArray, List.set_cons_zero, List.set_cons_succ]
                        refine wpAnyH_take (i := 3) (v := ?_) rfl (by kernel_rfl) (by kernel_rfl) (by kernel_rfl) (fun _ _ _ h => h) (Or.inl ⟨by rfl, ?_⟩) hHeld ?_
                        rotate_left
                        · intro w' hSw
                          go_simp
                          try with_reducible rfl
                        try simp only [List.getElem_toArray, List.getElem_cons_succ, List.getElem_cons_zero, Act.put, List.setIfInBounds_toArray, List.set_cons_zero, List.set_cons_succ]
                        refine wpAnyH_take (i := 4) (v := ?_) rfl (by kernel_rfl) (by kernel_rfl) (by kernel_rfl) (fun _ _ _ h => h) (Or.inl ⟨by rfl, ?_⟩) hHeld ?_
                        rotate_left
                        · intro w' hSw
                          obtain ⟨e1, e2, e3⟩ := hSw
                          go_simp
                          try with_reducible rfl
                        try simp only [List.getElem_toArray, List.getElem_cons_succ, List.getElem_cons_zero, Act.put, List.setIfInBounds_toArray, List.set_cons_zero, List.set_cons_succ]
                        refine wpAnyH_take (i := 5) (v := ?_) rfl (by kernel_rfl) (by kernel_rfl) (by kernel_rfl) (fun _ _ _ h => h) (Or.inl ⟨by rfl, ?_⟩) hHeld ?_
                        rotate_left
                        · intro w' hSw
                          go_simp
                          try with_reducible rfl
                        try simp only [List.getElem_toArray, List.getElem_cons_succ, List.getElem_cons_zero, Act.put, List.setIfInBounds_toArray, List.set_cons_zero, List.set_cons_succ]
                        refine wpAnyH_take (i := 6) (v := ?_) rfl (by kernel_rfl) (by kernel_rfl) (by kernel_rfl) (fun _ _ _ h => h) (Or.inl ⟨by rfl, ?_⟩) hHeld ?_
                        rotate_left
                        · intro w' hSw
                          go_simp
                          try with_reducible rfl
                        try simp only [List.getElem_toArray, List.getElem_cons_succ, List.getElem_cons_zero, Act.put, List.setIfInBounds_toArray, List.set_cons_zero, List.set_cons_succ]
                        refine wpAnyH_take (i := 7) (v := ?_) rfl (by kernel_rfl) (by kernel_rfl) (by kernel_rfl) (fun _ _ _ h => h) (Or.inl ⟨by rfl, ?_⟩) hHeld ?_
                        rotate_left
                        · intro w' hSw
                          go_simp
                          try with_reducible rfl
                        try simp only [List.getElem_toArray, List.getElem_cons_succ, List.getElem_cons_zero, Act.put, List.setIfInBounds_toArray, List.set_cons_zero, List.set_cons_succ]
                        refine wpAnyH_take (i := 8) (v := ?_) rfl (by kernel_rfl) (by kernel_rfl) (by kernel_rfl) (fun _ _ _ h => h) (Or.inl ⟨by rfl, ?_⟩) hHeld ?_
                        rotate_left
                        · intro w' hSw
                          obtain ⟨e1, e2, e3⟩ := hSw
                          go_simp
                          try with_reducible rfl
                        try simp only [List.getElem_toArray, List.getElem_cons_succ, List.getElem_cons_zero, Act.put, List.setIfInBounds_toArray, List.set_cons_zero, List.set_cons_succ]
                        refine wpAnyH_ready (rs := [9, 13]) (by kernel_rfl) (by simp) ?_
                        refine AllReadyH.cons rfl (fun K hK => ?_) (AllReadyH.cons rfl (fun K hK => ?_) AllReadyH.nil)
                        · go_simp
                          go_at_call 18
                          refine (hLook.out _ hdr).mono ?_
                          rintro e w5 ⟨⟨q, d, rfl, hq⟩, hb5'⟩
                          have hb5 := hdr.trans (hb5'.mono hdr.size)
                          refine hK.out _ _ ⟨(hb5.cell (p := ⟨Z, 0, none⟩) hZw).trans cZw, (hb5.cell (p := ⟨J, n, none⟩) hLw.k).trans hkw, (hb5.cell (p := ⟨M, k, none⟩) hLw.m).trans hnw⟩ (fun _ => ?_)
                          clear hK K hHeld
                          have hHeld : (fun w' => w'.cell? ⟨Z, 0, none⟩ = some (.slice pj lj.length cj) ∧ w'.cell? ⟨J, n, none⟩ = some (.string kk) ∧ w'.cell? ⟨M, k, none⟩ = some (.string nn)) w5 := ⟨(hb5.cell (p := ⟨Z, 0, none⟩) hZw).trans cZw, (hb5.cell (p := ⟨J, n, none⟩) hLw.k).trans hkw, (hb5.cell (p := ⟨M, k, none⟩) hLw.m).trans hnw⟩
                          try simp only [List.getElem_toArray, List.getElem_cons_succ, List.getElem_cons_zero, Act.put, List.setIfInBounds_toArray, List.set_cons_zero, List.set_cons_succ]
                          refine wpAnyH_take (i := 10) (v := ?_) rfl (by kernel_rfl) (by kernel_rfl) (by kernel_rfl) (fun _ _ _ h => h) (Or.inl ⟨by rfl, ?_⟩) hHeld ?_
                          rotate_left
                          · intro w' hSw
                            go_simp
                            try with_reducible rfl
                          try simp only [List.getElem_toArray, List.getElem_cons_succ, List.getElem_cons_zero, Act.put, List.setIfInBounds_toArray, List.set_cons_zero, List.set_cons_succ]
                          refine wpAnyH_take (i := 11) (v := ?_) rfl (by kernel_rfl) (by kernel_rfl) (by kernel_rfl) (fun _ _ _ h => h) (Or.inl ⟨by rfl, ?_⟩) hHeld ?_
                          rotate_left
                          · intro w' hSw
                            go_simp
                            try with_reducible rfl
                          try simp only [List.getElem_toArray, List.getElem_cons_succ, List.getElem_cons_zero, Act.put, List.setIfInBounds_toArray, List.set_cons_zero, List.set_cons_succ]
                          refine wpAnyH_take (i := 12) (v := ?_) rfl (by kernel_rfl) (by kernel_rfl) (by kernel_rfl) (fun _ _ _ h => h) (Or.inl ⟨by rfl, ?_⟩) hHeld ?_
                          rotate_left
                          · intro w' hSw
                            go_simp
                            try with_reducible rfl
                          try simp only [List.getElem_toArray, List.getElem_cons_succ, List.getElem_cons_zero, Act.put, List.setIfInBounds_toArray, List.set_cons_zero, List.set_cons_succ]
                          have hal0 := hb5.alloc hb5.size (.cells #[.int .i64 0, .int .i64 0, .string ⟨#[]⟩, .slice none 0 0] 45)
                          have hal1 := hb5.alloc hb5.size (.cells #[.int .i64 (foundV kk nn lj).1.kind, .int .i64 (foundV kk nn lj).1.num, .string (foundV kk nn lj).1.text, .slice q ((foundV kk nn lj).1.list.length : Nat) d] 45)
                          refine wpAnyH_ready (rs := [13]) (by kernel_rfl) (by simp) ?_
                          refine AllReadyH.cons rfl (fun K hK => ?_) AllReadyH.nil
                          go_simp
                          refine hK.out _ _ ⟨(hal0.cell (p := ⟨Z, 0, none⟩) hZw).trans cZw, (hal0.cell (p := ⟨J, n, none⟩) hLw.k).trans hkw, (hal0.cell (p := ⟨M, k, none⟩) hLw.m).trans hnw⟩ (fun _ => ?_)
                          clear hK K
                          try simp only [List.getElem_toArray, List.getElem_cons_succ, List.getElem_cons_zero, Act.put, List.setIfInBounds_toArray, List.set_cons_zero, List.set_cons_succ]
                          refine wpAnyH_ready (rs := [14]) (by kernel_rfl) (by simp) ?_
                          refine AllReadyH.cons rfl (fun K hK => ?_) AllReadyH.nil
                          go_simp
                          refine hK.out _ _ ⟨(hal1.cell (p := ⟨Z, 0, none⟩) hZw).trans cZw, (hal1.cell (p := ⟨J, n, none⟩) hLw.k).trans hkw, (hal1.cell (p := ⟨M, k, none⟩) hLw.m).trans hnw⟩ (fun _ => ?_)
                          clear hK K hHeld
                          have hHeld : (fun w' => w'.cell? ⟨Z, 0, none⟩ = some (.slice pj lj.length cj) ∧ w'.cell? ⟨J, n, none⟩ = some (.string kk) ∧ w'.cell? ⟨M, k, none⟩ = some (.string nn)) (w5.alloc (.cells #[.int .i64 (foundV kk nn lj).1.kind, .int .i64 (foundV kk nn lj).1.num, .string (foundV kk nn lj).1.text, .slice q ((foundV kk nn lj).1.list.length : Nat) d] 45)) := ⟨(hal1.cell (p := ⟨Z, 0, none⟩) hZw).trans cZw, (hal1.cell (p := ⟨J, n, none⟩) hLw.k).trans hkw, (hal1.cell (p := ⟨M, k, none⟩) hLw.m).trans hnw⟩
                          try simp only [List.getElem_toArray, List.getElem_cons_succ, List.getElem_cons_zero, Act.put, List.setIfInBounds_toArray, List.set_cons_zero, List.set_cons_succ]
                          refine wpAnyH_take (i := 15) (v := ?_) rfl (by kernel_rfl) (by kernel_rfl) (by kernel_rfl) (fun _ _ _ h => h) (Or.inl ⟨by rfl, ?_⟩) hHeld ?_
                          rotate_left
                          · intro w' hSw
                            go_simp
                            try with_reducible rfl
                          try simp only [List.getElem_toArray, List.getElem_cons_succ, List.getElem_cons_zero, Act.put, List.setIfInBounds_toArray, List.set_cons_zero, List.set_cons_succ]
                          refine wpAnyH_done (by kernel_rfl) ?_ _
                          go_wp2
                          go_meet
                          case rel => exact ⟨w5.heap.size, q, d, rfl, rfl, heap_alloc_new w5 _, hb5.size, (hq.mono fun _ _ _ => trivial).same (SameB.of_below ((Below.refl w5.heap.size w5).alloc (Nat.le_refl _) _)), hal1⟩
                        · have hal0 := ((Below.refl wc.heap.size wc).alloc (Nat.le_refl _) (.cells #[.int .i64 0, .int .i64 0, .string ⟨#[]⟩, .slice none 0 0] 45)).drew
                          have zF := heap_alloc_new wc (.cells #[.int .i64 0, .int .i64 0, .string ⟨#[]⟩, .slice none 0 0] 45)
                          go_simp
                          refine hK.out _ _ ⟨(hal0.cell (p := ⟨Z, 0, none⟩) hZw).trans cZw, (hal0.cell (p := ⟨J, n, none⟩) hLw.k).trans hkw, (hal0.cell (p := ⟨M, k, none⟩) hLw.m).trans hnw⟩ (fun _ => ?_)
                          clear hK K hHeld
                          have hHeld : (fun w' => w'.cell? ⟨Z, 0, none⟩ = some (.slice pj lj.length cj) ∧ w'.cell? ⟨J, n, none⟩ = some (.string kk) ∧ w'.cell? ⟨M, k, none⟩ = some (.string nn)) (wc.alloc (.cells #[.int .i64 0, .int .i64 0, .string ⟨#[]⟩, .slice none 0 0] 45)).drew := ⟨(hal0.cell (p := ⟨Z, 0, none⟩) hZw).trans cZw, (hal0.cell (p := ⟨J, n, none⟩) hLw.k).trans hkw, (hal0.cell (p := ⟨M, k, none⟩) hLw.m).trans hnw⟩
                          try simp only [List.getElem_toArray, List.getElem_cons_succ, List.getElem_cons_zero, Act.put, List.setIfInBounds_toArray, List.set_cons_zero, List.set_cons_succ]
                          refine wpAnyH_ready (rs := [9]) (by kernel_rfl) (by simp) ?_
                          refine AllReadyH.cons rfl (fun K hK => ?_) AllReadyH.nil
                          go_simp
                          go_at_call 18
                          refine (hLook.out _ hal0).mono ?_
                          rintro e w5 ⟨⟨q, d, rfl, hq⟩, hb5'⟩
                          have hb5 := hal0.trans (hb5'.mono hal0.size)
                          have hsF : wc.heap.size < (wc.alloc (.cells #[.int .i64 0, .int .i64 0, .string ⟨#[]⟩, .slice none 0 0] 45)).drew.heap.size := by show wc.heap.size < (wc.alloc (.cells #[.int .i64 0, .int .i64 0, .string ⟨#[]⟩, .slice none 0 0] 45)).heap.size; simp
                          have zF5 : w5.heap[wc.heap.size]? = some (.cells #[.int .i64 0, .int .i64 0, .string ⟨#[]⟩, .slice none 0 0] 45 (0, 0)) := (hb5'.block wc.heap.size hsF).trans zF
                          have k0 : w5.cell? ⟨wc.heap.size, 0, none⟩ = some (.int .i64 0) := by rw [Lib.cell_of_heap zF5]; rfl
                          have k1 : w5.cell? ⟨wc.heap.size, 1, none⟩ = some (.int .i64 0) := by rw [Lib.cell_of_heap zF5]; rfl
                          have k2 : w5.cell? ⟨wc.heap.size, 2, none⟩ = some (.string ⟨#[]⟩) := by rw [Lib.cell_of_heap zF5]; rfl
                          have k3 : w5.cell? ⟨wc.heap.size, 3, none⟩ = some (.slice none 0 0) := by rw [Lib.cell_of_heap zF5]; rfl
                          have kf : ∀ i, w5.frozen? ⟨wc.heap.size, i, none⟩ = false := Lib.frozen_of_heap zF5
                          refine hK.out _ _ ⟨(hb5.cell (p := ⟨Z, 0, none⟩) hZw).trans cZw, (hb5.cell (p := ⟨J, n, none⟩) hLw.k).trans hkw, (hb5.cell (p := ⟨M, k, none⟩) hLw.m).trans hnw⟩ (fun _ => ?_)
                          clear hK K hHeld
                          have hHeld : (fun w' => w'.cell? ⟨Z, 0, none⟩ = some (.slice pj lj.length cj) ∧ w'.cell? ⟨J, n, none⟩ = some (.string kk) ∧ w'.cell? ⟨M, k, none⟩ = some (.string nn)) w5 := ⟨(hb5.cell (p := ⟨Z, 0, none⟩) hZw).trans cZw, (hb5.cell (p := ⟨J, n, none⟩) hLw.k).trans hkw, (hb5.cell (p := ⟨M, k, none⟩) hLw.m).trans hnw⟩
                          try simp only [List.getElem_toArray, List.getElem_cons_succ, List.getElem_cons_zero, Act.put, List.setIfInBounds_toArray, List.set_cons_zero, List.set_cons_succ]
                          refine wpAnyH_take (i := 10) (v := ?_) rfl (by kernel_rfl) (by kernel_rfl) (by kernel_rfl) (fun _ _ _ h => h) (Or.inl ⟨by rfl, ?_⟩) hHeld ?_
                          rotate_left
                          · intro w' hSw
                            go_simp
                            try with_reducible rfl
                          try simp only [List.getElem_toArray, List.getElem_cons_succ, List.getElem_cons_zero, Act.put, List.setIfInBounds_toArray, List.set_cons_zero, List.set_cons_succ]
                          refine wpAnyH_take (i := 11) (v := ?_) rfl (by kernel_rfl) (by kernel_rfl) (by kernel_rfl) (fun _ _ _ h => h) (Or.inl ⟨by rfl, ?_⟩) hHeld ?_
                          rotate_left
                          · intro w' hSw
                            go_simp
                            try with_reducible rfl
                          try simp only [List.getElem_toArray, List.getElem_cons_succ, List.getElem_cons_zero, Act.put, List.setIfInBounds_toArray, List.set_cons_zero, List.set_cons_succ]
                          refine wpAnyH_take (i := 12) (v := ?_) rfl (by kernel_rfl) (by kernel_rfl) (by kernel_rfl) (fun _ _ _ h => h) (Or.inl ⟨by rfl, ?_⟩) hHeld ?_
                          rotate_left
                          · intro w' hSw
                            go_simp
                            try with_reducible rfl
                          try simp only [List.getElem_toArray, List.getElem_cons_succ, List.getElem_cons_zero, Act.put, List.setIfInBounds_toArray, List.set_cons_zero, List.set_cons_succ]
                          have hb6 := ((((hb5.setCell (p := ⟨wc.heap.size, 0, none⟩) (Nat.le_refl _) (.int .i64 (foundV kk nn lj).1.kind)).setCell (p := ⟨wc.heap.size, 1, none⟩) (Nat.le_refl _) (.int .i64 (foundV kk nn lj).1.num)).setCell (p := ⟨wc.heap.size, 2, none⟩) (Nat.le_refl _) (.string (foundV kk nn lj).1.text)).setCell (p := ⟨wc.heap.size, 3, none⟩) (Nat.le_refl _) (.slice q ((foundV kk nn lj).1.list.length : Nat) d))
                          have zF6 : ((((w5.setCell ⟨wc.heap.size, 0, none⟩ (.int .i64 (foundV kk nn lj).1.kind)).setCell ⟨wc.heap.size, 1, none⟩ (.int .i64 (foundV kk nn lj).1.num)).setCell ⟨wc.heap.size, 2, none⟩ (.string (foundV kk nn lj).1.text)).setCell ⟨wc.heap.size, 3, none⟩ (.slice q ((foundV kk nn lj).1.list.length : Nat) d)).heap[wc.heap.size]? = some (.cells #[.int .i64 (foundV kk nn lj).1.kind, .int .i64 (foundV kk nn lj).1.num, .string (foundV kk nn lj).1.text, .slice q ((foundV kk nn lj).1.list.length : Nat) d] 45 (0, 0)) := (box_put (box_put (box_put (box_put zF5 _) _) _) _)
                          have hXF : ¬ (wc.heap.size < wc.heap.size ∧ wc.heap.size < (wc.alloc (.cells #[.int .i64 0, .int .i64 0, .string ⟨#[]⟩, .slice none 0 0] 45)).drew.heap.size) := fun h => absurd h.1 (Nat.lt_irrefl _)
                          have hq6 : ListP (fun b => (b < wc.heap.size ∧ b < (wc.alloc (.cells #[.int .i64 0, .int .i64 0, .string ⟨#[]⟩, .slice none 0 0] 45)).drew.heap.size)) q d (foundV kk nn lj).1.list _ := hq.same (((((SameB.refl _ w5).set (B := wc.heap.size) hXF 0 (.int .i64 (foundV kk nn lj).1.kind)).set (B := wc.heap.size) hXF 1 (.int .i64 (foundV kk nn lj).1.num)).set (B := wc.heap.size) hXF 2 (.string (foundV kk nn lj).1.text)).set (B := wc.heap.size) hXF 3 (.slice q ((foundV kk nn lj).1.list.length : Nat) d))
                          refine wpAnyH_ready (rs := [14]) (by kernel_rfl) (by simp) ?_
                          refine AllReadyH.cons rfl (fun K hK => ?_) AllReadyH.nil
                          go_simp
                          refine hK.out _ _ ⟨(hb6.cell (p := ⟨Z, 0, none⟩) hZw).trans cZw, (hb6.cell (p := ⟨J, n, none⟩) hLw.k).trans hkw, (hb6.cell (p := ⟨M, k, none⟩) hLw.m).trans hnw⟩ (fun _ => ?_)
                          clear hK K hHeld
                          have hHeld : (fun w' => w'.cell? ⟨Z, 0, none⟩ = some (.slice pj lj.length cj) ∧ w'.cell? ⟨J, n, none⟩ = some (.string kk) ∧ w'.cell? ⟨M, k, none⟩ = some (.string nn)) ((((w5.setCell ⟨wc.heap.size, 0, none⟩ (.int .i64 (foundV kk nn lj).1.kind)).setCell ⟨wc.heap.size, 1, none⟩ (.int .i64 (foundV kk nn lj).1.num)).setCell ⟨wc.heap.size, 2, none⟩ (.string (foundV kk nn lj).1.text)).setCell ⟨wc.heap.size, 3, none⟩ (.slice q ((foundV kk nn lj).1.list.length : Nat) d)) := ⟨(hb6.cell (p := ⟨Z, 0, none⟩) hZw).trans cZw, (hb6.cell (p := ⟨J, n, none⟩) hLw.k).trans hkw, (hb6.cell (p := ⟨M, k, none⟩) hLw.m).trans hnw⟩
                          try simp only [List.getElem_toArray, List.getElem_cons_succ, List.getElem_cons_zero, Act.put, List.setIfInBounds_toArray, List.set_cons_zero, List.set_cons_succ]
                          refine wpAnyH_take (i := 15) (v := ?_) rfl (by kernel_rfl) (by kernel_rfl) (by kernel_rfl) (fun _ _ _ h => h) (Or.inl ⟨by rfl, ?_⟩) hHeld ?_
                          rotate_left
                          · intro w' hSw
                            go_simp
                            try with_reducible rfl
                          try simp only [List.getElem_toArray, List.getElem_cons_succ, List.getElem_cons_zero, Act.put, List.setIfInBounds_toArray, List.set_cons_zero, List.set_cons_succ]
                          refine wpAnyH_done (by kernel_rfl) ?_ _
                          go_wp2
                          go_meet
                          case rel => exact ⟨wc.heap.size, q, d, rfl, rfl, zF6, Nat.le_refl _, hq6.mono fun _ _ _ => trivial, hb6⟩
                      case rest =>
                        obtain ⟨F2, q2, d2, rfl, rfl, zG, hFG, hqG, hbG⟩ := hcut
                        clear hLook
                        have zFG := (hbG.block F hFs).trans zF
                        have hqFG := hqF.same (SameB.of_below hbG)
                        have hbx := hbw.trans (hbG.mono hbw.size)
                        clear hLw hkw hnw hZw cZw hSw hbw zF hqF hbG hFs hFG
                        have f0 : wc.cell? ⟨F, 0, none⟩ = some (.int .i64 (foundV kk nn lj).1.kind) := by rw [Lib.cell_of_heap zFG]; rfl
                        have f1 : wc.cell? ⟨F, 1, none⟩ = some (.int .i64 (foundV kk nn lj).1.num) := by rw [Lib.cell_of_heap zFG]; rfl
                        have f2 : wc.cell? ⟨F, 2, none⟩ = some (.string (foundV kk nn lj).1.text) := by rw [Lib.cell_of_heap zFG]; rfl
                        have f3 : wc.cell? ⟨F, 3, none⟩ = some (.slice q1 ((foundV kk nn lj).1.list.length : Nat) d1) := by rw [Lib.cell_of_heap zFG]; rfl
                        have g0 : wc.cell? ⟨F2, 0, none⟩ = some (.int .i64 (foundV kk nn lj).1.kind) := by rw [Lib.cell_of_heap zG]; rfl
                        have g1 : wc.cell? ⟨F2, 1, none⟩ = some (.int .i64 (foundV kk nn lj).1.num) := by rw [Lib.cell_of_heap zG]; rfl
                        have g2 : wc.cell? ⟨F2, 2, none⟩ = some (.string (foundV kk nn lj).1.text) := by rw [Lib.cell_of_heap zG]; rfl
                        have g3 : wc.cell? ⟨F2, 3, none⟩ = some (.slice q2 ((foundV kk nn lj).1.list.length : Nat) d2) := by rw [Lib.cell_of_heap zG]; rfl
                        have heq : Calls Tryd.prog 19 #[.agg #[.int .i64 (foundV kk nn lj).1.kind, .int .i64 (foundV kk nn lj).1.num, .string (foundV kk nn lj).1.text, .slice q1 ((foundV kk nn lj).1.list.length : Nat) d1], .agg #[.int .i64 (foundV kk nn lj).1.kind, .int .i64 (foundV kk nn lj).1.num, .string (foundV kk nn lj).1.text, .slice q2 ((foundV kk nn lj).1.list.length : Nat) d2]] wc fun e w' => e = .returned (.bool true) ∧ Below wc.heap.size wc w' := equal_refl (foundV kk nn lj).1 q1 q2 d1 d2 wc (Nat.le_trans (foundV_list (m := 8796093022207) fun x hx => (hmj x hx).2) (by omega)) hqFG hqG
                        replace heq := Lib.hid heq
                        clear zFG zG hqFG hqG
                        go_wp2_with (go_at_call 19; refine heq.out.mono ?_; rintro e w6 ⟨rfl, hb6⟩)
                        go_roundw
                        case rel => exact ⟨k + 1, by omega, by go_num, hbx.trans (hb6.mono hbx.size)⟩
                        case measure => simp [intOf]; omega
                  · obtain rfl : k = 6 := by omega
                    go_wp2
                    go_roundw
                    case rel => exact ⟨m + 1, by omega, by go_num, hbmH.trans (hbv.mono hbmH.size)⟩
                    case measure => simp [intOf]; omega
          · obtain rfl : m = 2 := by omega
            go_wp2
            go_roundw
            case rel => exact ⟨n + 1, by omega, by go_num, hblY.trans (hbm.mono hblY.size)⟩
            case measure => simp [intOf]; omega
      · obtain rfl : n = 4 := by omega
        go_wp2
        go_ret
        exact ⟨rfl, B11.out.trans (hbl.mono B11.out.size)⟩
  · replace hsmall : smallS l = false := by simpa using hsmall
    rw [hsmall] at hsm
    go_wp2_with (go_at_call 7; refine hsm.out.mono ?_; rintro e w2 ⟨rfl, hb2⟩)
    go_ret
    exact ⟨rfl, B1.trans (hb2.mono B1.size)⟩
end Go.Proofs.YtcbnefeedoabeaaDoor
