/- Contracts of the document's reader: Fail and Number. -/
import Derived.Test.YtkmnmddengnjlaaWNew
namespace Go.Proofs.Ytkmnmddengnjlaa
open Go Go.RowKit

theorem failQ_err {a : Option Addr} {c : Nat} {b : List UInt8} {at_ : Nat} {e : Int} {hi Q : Nat} {w : World} (x : Int) (h : RqR a c b at_ e hi Q w) (he : e ≠ 0) :
    Calls Try.prog 45 #[.pointer (some ⟨Q, 0, none⟩), .int .i64 x] w fun en w' => en = .returned (.tuple #[]) ∧ w = w' := by
  have c2 := h.c2
  have hb : (e == 0) = false := by simp [he]
  clear h
  go_enter Try.func45, Try.ntmps45
  go_wp2
  go_end0
  exact ⟨rfl, rfl⟩
theorem failQ_ok {a : Option Addr} {c : Nat} {b : List UInt8} {at_ : Nat} {hi Q : Nat} {w : World} (x : Int) (hx : 0 ≤ x ∧ x ≤ 1000) (h : RqR a c b at_ 0 hi Q w) :
    Calls Try.prog 45 #[.pointer (some ⟨Q, 0, none⟩), .int .i64 x] w fun en w' => en = .returned (.tuple #[]) ∧ Kept Q w w' ∧ RqR a c b at_ x hi Q w' := by
  have c2 := h.c2
  have hf := h.f
  have hs := h.setErr x hx
  replace h := Lib.hid h
  go_enter Try.func45, Try.ntmps45
  go_wp2
  go_end0
  exact ⟨rfl, (Kept.refl Q w).setCell 2 _, hs⟩
/-- What a read by the document's reader returns and leaves. -/
def DoneQ (v : Value) (l : List UInt8) (e : Int) (hi Q : Nat) (w : World) (en : Ending) (w' : World) : Prop := en = .returned v ∧ Kept Q w w' ∧ Rq l e hi Q w'
theorem failQ_any {l : List UInt8} {e : Int} {hi Q : Nat} {w : World} (x : Int) (hx : 0 ≤ x ∧ x ≤ 1000) (h : Rq l e hi Q w) :
    Calls Try.prog 45 #[.pointer (some ⟨Q, 0, none⟩), .int .i64 x] w (DoneQ (.tuple #[]) l (failR x e) hi Q w) := by
  obtain ⟨a, c, b, i, h, hl⟩ := h
  by_cases he : e = 0
  · subst he
    obtain rfl := hl rfl
    exact (failQ_ok x hx h).mono fun _ _ ⟨h1, h2, h3⟩ => ⟨h1, h2, h3.rq⟩
  · rw [show failR x e = e from if_neg he]
    exact (failQ_err x h he).mono fun _ _ ⟨h1, h2⟩ => ⟨h1, h2 ▸ Kept.refl _ _, a, c, b, i, h2 ▸ h, hl⟩
theorem BIn.cell {lo hi : Nat} {a : Option Addr} {l : List UInt8} {w : World} (h : BIn lo hi a l w) (i : Nat) (hi : i < l.length) : ∃ b off, a = some ⟨b, off, none⟩ ∧ w.cell? ⟨b, off + i, none⟩ = some (.int .u8 (l[i].toNat : Int)) := by
  obtain ⟨b, off, h1, _, _, h2⟩ := h.at_ i hi
  exact ⟨b, off, h1, h2⟩
/-- What holds at the head of the loop of Number. -/
structure Numb (a : Option Addr) (c : Nat) (b : List UInt8) (at_ hi Q : Nat) (w : World) (T : Nat × Nat × Int) (k v : Nat) (wr : World) : Prop where
  rd : RqR a c b at_ 0 hi Q wr
  kept : Kept Q w wr
  le : at_ + k ≤ b.length
  nine : k ≤ 9
  lt : v < 2 ^ (7 * k)
  eq : readG k v (b.drop (at_ + k)) = T
def NumbAt (a : Option Addr) (c : Nat) (b : List UInt8) (at_ hi Q : Nat) (w : World) (T : Nat × Nat × Int) (u i : Value) (wr : World) : Prop := ∃ k v : Nat, i = .int .i64 k ∧ u = .int .u64 v ∧ Numb a c b at_ hi Q w T k v wr
set_option maxHeartbeats 8000000 in
set_option maxRecDepth 100000 in
theorem refNumber_run {a : Option Addr} {c : Nat} {b : List UInt8} {at_ : Nat} {hi Q : Nat} {w : World} (h : RqR a c b at_ 0 hi Q w) (U N : Nat) (E : Int) (hT : readG 0 0 (b.drop at_) = (U, N, E)) :
    Calls Try.prog 32 #[.pointer (some ⟨Q, 0, none⟩)] w fun en w' => en = .returned (.int .i64 (if E = 0 then unz U else 0)) ∧ Kept Q w w' ∧ RqR a c b (if E = 0 then at_ + N else at_) E hi Q w' := by
  have hst : Numb a c b at_ hi Q w (U, N, E) 0 0 w := ⟨h, Kept.refl _ _, h.at_le, by omega, by decide, hT⟩
  clear h hT
  obtain ⟨V, hV⟩ : ∃ V, (if E = 0 then unz U else 0) = V := ⟨_, rfl⟩
  obtain ⟨A, hA⟩ : ∃ A, (if E = 0 then at_ + N else at_) = A := ⟨_, rfl⟩
  rw [hV, hA]
  replace hV := Lib.hid hV
  replace hA := Lib.hid hA
  go_enter Try.func32, Try.ntmps32
  go_wp2
  go_loopw [3, 4] (fun u i wr => NumbAt a c b at_ hi Q w (U, N, E) u i wr) (fun _ i _ => b.length - (intOf i).toNat)
  case atStart => exact ⟨0, 0, rfl, rfl, hst⟩
  case round =>
    obtain ⟨k, v, rfl, rfl, hr, hk, hle, hk9, hv, hg⟩ := hrel
    clear hst
    have c0 := hr.c0
    have c1 := hr.c1
    have c2 := hr.c2
    have hsm := hr.small
    by_cases hlt : at_ + k < b.length
    · have hlt' : (at_ : Int) + (k : Int) < (b.length : Int) := by omega
      rw [List.drop_eq_getElem_cons hlt] at hg
      simp only [readG] at hg
      obtain ⟨bb, off, hab, hcell⟩ := hr.bytes.cell (at_ + k) hlt
      subst hab
      have hz := b[at_ + k].toNat_lt
      have ha := and8 b[at_ + k].toNat hz
      have hdr := hr.drew
      have hkd := hk.drew
      obtain ⟨m, hm⟩ : ∃ m, b.length = m := ⟨_, rfl⟩
      have hdr2 := hdr.drew
      have hcell2 : wr.drew.drew.cell? ⟨bb, off + (at_ + k), none⟩ = some (.int .u8 (b[at_ + k].toNat : Int)) := hcell
      have hcell1 : wr.drew.cell? ⟨bb, off + (at_ + k), none⟩ = some (.int .u8 (b[at_ + k].toNat : Int)) := hcell
      generalize b[at_ + k].toNat = z at hg hcell1 hcell2 hz ha
      have hz' : z < 256 := hz
      clear hcell hz
      rw [hm] at c0 hlt' hsm hlt
      replace hr := Lib.hid hr
      replace hg := Lib.hid hg
      replace hv := Lib.hid hv
      go_upto_region 5 with (fail)
      go_region
      all_goals
        have d0 := hdr.c0
        have d1 := hdr.c1
        rw [hm] at d0
        have e0 := hdr2.c0
        have e1 := hdr2.c1
        have e2 := hdr2.c2
        have ef := hdr2.f
        rw [hm] at e0
        replace hdr := Lib.hid hdr
        replace hdr2 := Lib.hid hdr2
        replace hm := Lib.hid hm
        go_upto_region 8 with (fail)
        go_region
        all_goals
          have hkx : Kept Q w wr.drew.drew := hkd.drew
          generalize wr.drew.drew = wx at e0 e1 e2 ef hdr2 hkx ⊢
          replace hg := hg.out
          replace hv := hv.out
          clear c0 c1 c2 d0 d1 hcell1 hcell2 hk hkd hdr hr
          have hF := Lib.hid (fun (x : Int) (hx : 0 ≤ x ∧ x ≤ 1000) => failQ_ok x hx hdr2.out)
          by_cases c1 : k = 9 ∧ 1 < z
          · obtain ⟨rfl, hz1⟩ := c1
            rw [if_pos ⟨rfl, hz1⟩] at hg
            simp only [Prod.mk.injEq] at hg
            obtain ⟨rfl, rfl, rfl⟩ := hg
            clear ha hv
            go_wp2_with (go_at_call 45; refine (hF.out 3 (by omega)).mono ?_; rintro en w1 ⟨rfl, hk1, hr1⟩)
            go_ret
            exact ⟨by rw [← hV.out]; rfl, hkx.trans hk1, by rw [← hA.out]; exact hr1⟩
          · rw [if_neg c1] at hg
            have hp1 : 2 ^ (7 * k) ≤ 2 ^ 63 := Nat.pow_le_pow_right (by omega) (by omega)
            have hp2 : k ≠ 9 → 2 ^ (7 * k) ≤ 2 ^ 56 := fun h => Nat.pow_le_pow_right (by omega) (by omega)
            simp only [Nat.reducePow] at hp1 hp2
            have hy : z % 128 * 2 ^ (7 * k) ≤ (if k = 9 then 1 else 127) * 2 ^ (7 * k) := Nat.mul_le_mul_right _ (by split <;> omega)
            have hfit : v + z % 128 * 2 ^ (7 * k) < 18446744073709551616 := by
              by_cases h9 : k = 9
              · subst h9
                simp only [if_true, Nat.reduceMul, Nat.reducePow] at hy hv ⊢
                omega
              · rw [if_neg h9] at hy
                have := hp2 h9
                omega
            have hor := or_sum v (z % 128) (7 * k) hv hfit
            have hw : IntKind.u64.wrap ((z % 128 : Nat) : Int) = ((z % 128 : Nat) : Int) := by rw [IntKind.wrap_u64]; omega
            have hy2 : z % 128 < 128 := by omega
            have hk0 : (k : Int) ≤ 9 := by omega
            by_cases c2 : z = 0 ∧ 0 < k
            · obtain ⟨rfl, hk0⟩ := c2
              rw [if_pos ⟨rfl, hk0⟩] at hg
              simp only [Prod.mk.injEq] at hg
              obtain ⟨rfl, rfl, rfl⟩ := hg
              obtain ⟨g, hgk⟩ : ∃ g, ((k : Int) == 9) = g := ⟨_, rfl⟩
              have hgd : decide ((k : Int) = 9) = g := by rw [← hgk]; rfl
              have hk1 : (0 : Int) < (k : Int) := by omega
              clear hv hp1 hp2 hy hfit c1 hy2 hor hw ha
              go_wp2_with (go_at_call 45; refine (hF.out 1 (by omega)).mono ?_; rintro en w1 ⟨rfl, hkk, hr1⟩)
              all_goals
                go_ret
                exact ⟨by rw [← hV.out]; rfl, hkx.trans hkk, by rw [← hA.out]; exact hr1⟩
            · rw [if_neg c2] at hg
              by_cases c3 : z < 128
              · rw [if_pos c3] at hg
                simp only [Prod.mk.injEq] at hg
                obtain ⟨hU, rfl, rfl⟩ := hg
                by_cases hz0 : z = 0
                · subst hz0
                  obtain rfl : k = 0 := by omega
                  obtain rfl : v = 0 := by simpa using hv
                  obtain rfl : U = 0 := by simpa using hU.symm
                  have hset := hdr2.out.setAt (at_ + 1) (by have := hm.out; omega)
                  have hA2 : at_ + 1 = A := by rw [← hA.out, if_pos rfl]
                  have hV2 : (0 : Int) = V := by rw [← hV.out, if_pos rfl]; rfl
                  rw [show ((at_ + 1 : Nat) : Int) = (at_ : Int) + 1 from by omega, hA2] at hset
                  have hor0 : bits .or .u64 0 (IntKind.u64.wrap (IntKind.u64.wrap (bits .and .u8 0 127))) = 0 := by decide
                  have hand0 : bits .and .u64 0 1 = 0 := by decide
                  rw [show (((0 : Nat)) : Int) = 0 from rfl]
                  clear hor ha hw hp1 hp2 hy hv c1 c2 c3 hU hfit hA2 hz' hy2
                  replace hset := Lib.hid hset
                  replace hV2 := Lib.hid hV2
                  go_wp2
                  go_ret
                  exact ⟨ret_i64 hV2.out, hkx.setCell 1 _, hset.out⟩
                have hzz : z % 128 = z := by omega
                rw [hzz] at hor ha hw hfit
                rw [hU] at hor hfit
                have hz3 : ¬ (127 : Int) < (z : Int) := by omega
                have hset := hdr2.out.setAt (at_ + (k + 1)) (by have := hm.out; omega)
                rw [show ((at_ + (k + 1) : Nat) : Int) = (at_ : Int) + ((k : Int) + 1) from by omega] at hset
                have hm1 := and64_1 U hfit
                have hd : (U : Int) / 2 = ((U / 2 : Nat) : Int) := by omega
                have hn := not_word (U / 2) (by omega)
                have hw1 : IntKind.i64.wrap ((18446744073709551615 - U / 2 : Nat) : Int) = -((U / 2 : Nat) : Int) - 1 := by rw [IntKind.wrap_i64]; omega
                have hw2 : IntKind.i64.wrap ((U / 2 : Nat) : Int) = ((U / 2 : Nat) : Int) := by rw [IntKind.wrap_i64]; omega
                have hres : (U % 2 = 1 ∧ -((U / 2 : Nat) : Int) - 1 = V) ∨ (U % 2 = 0 ∧ ((U / 2 : Nat) : Int) = V) := by
                  rw [← hV.out, if_pos rfl]
                  unfold unz
                  split
                  · exact .inl ⟨by assumption, rfl⟩
                  · exact .inr ⟨by omega, rfl⟩
                have hzc : z = 1 ∨ (1 < z ∧ k ≠ 9) := by omega
                have hA2 : at_ + (k + 1) = A := by rw [← hA.out, if_pos rfl]
                rw [hA2] at hset
                generalize 18446744073709551615 - U / 2 = q at hn hw1
                generalize U / 2 = h at hd hn hw1 hw2 hres
                generalize U % 2 = p at hm1 hres
                replace hw1 : wrap64 (q : Int) = -(h : Int) - 1 := by rw [IntKind.wrap_i64] at hw1; unfold wrap64; omega
                replace hset := Lib.hid hset
                obtain ⟨s, hs⟩ : ∃ s, 7 * k = s := ⟨_, rfl⟩
                have h7 : 7 * (k : Int) = (s : Int) := by omega
                have hs63 : s ≤ 63 := by omega
                rw [hs] at hor
                clear hp1 hp2 hy hv c1 c2 c3 hzz hU hfit hA2
                rcases hzc with rfl | ⟨hz1, hk99⟩
                · obtain ⟨g, hgk⟩ : ∃ g, ((k : Int) == 9) = g := ⟨_, rfl⟩
                  have hgd : decide ((k : Int) = 9) = g := by rw [← hgk]; rfl
                  have horX : bits .or .u64 (v : Int) (IntKind.u64.wrap (IntKind.u64.wrap (bits .and .u8 1 127) * 2 ^ s)) = (U : Int) := by
                    rw [show bits .and .u8 1 127 = 1 from by decide, show IntKind.u64.wrap 1 = 1 from by decide]
                    exact hor
                  clear hor ha hw hz' hz3 hy2 hz0
                  rcases hres with ⟨rfl, hr⟩ | ⟨rfl, hr⟩
                  · replace hr := Lib.hid hr
                    go_wp2
                    all_goals
                      go_ret
                      exact ⟨ret_i64 hr.out, hkx.setCell 1 _, hset.out⟩
                  · replace hr := Lib.hid hr
                    go_wp2
                    all_goals
                      go_ret
                      exact ⟨ret_i64 hr.out, hkx.setCell 1 _, hset.out⟩
                · have hq1 : ((k : Int) == 9) = false := by simp; omega
                  have hq2 : ((z : Int) == 0) = false := by simp; omega
                  rcases hres with ⟨rfl, hr⟩ | ⟨rfl, hr⟩
                  · replace hr := Lib.hid hr
                    go_wp2
                    go_ret
                    exact ⟨ret_i64 hr.out, hkx.setCell 1 _, hset.out⟩
                  · replace hr := Lib.hid hr
                    go_wp2
                    go_ret
                    exact ⟨ret_i64 hr.out, hkx.setCell 1 _, hset.out⟩
              · rw [if_neg c3] at hg
                have hzz : z % 128 = z - 128 := by omega
                have h9 : k ≠ 9 := by omega
                have hv2 : v + (z - 128) * 2 ^ (7 * k) < 2 ^ (7 * (k + 1)) := by
                  rw [← hzz]
                  rw [if_neg h9] at hy
                  rw [show 7 * (k + 1) = 7 + 7 * k from by omega, Nat.pow_add]
                  omega
                rw [← hzz] at hg hv2
                have hq1 : ((k : Int) == 9) = false := by simp; omega
                have hz3 : (127 : Int) < (z : Int) := by omega
                have hnx0 : ∀ S, S = v + z % 128 * 2 ^ (7 * k) → Numb (some ⟨bb, off, none⟩) c b at_ hi Q w (U, N, E) (k + 1) S wx := fun S e => ⟨hdr2.out, hkx, by have := hm.out; omega, by omega, by rw [e]; exact hv2, by rw [e]; exact hg⟩
                obtain ⟨S, hS⟩ : ∃ S, v + z % 128 * 2 ^ (7 * k) = S := ⟨_, rfl⟩
                rw [hS] at hor
                have hnx := Lib.hid (hnx0 S hS.symm)
                have hms : b.length - (k + 1) < b.length - k := by have := hm.out; omega
                generalize z % 128 = y at ha hor hw hy2
                obtain ⟨s, hs⟩ : ∃ s, 7 * k = s := ⟨_, rfl⟩
                have h7 : 7 * (k : Int) = (s : Int) := by omega
                have hs63 : s ≤ 63 := by omega
                rw [hs] at hor
                clear hp1 hp2 hy hfit hv c1 c2 c3 hzz hv2 hg hS hnx0 hs hk9 hk0 h9
                replace hms := Lib.hid hms
                go_wp2
                go_roundw
                case rel => exact ⟨k + 1, S, by go_num, rfl, hnx.out⟩
                case measure => have := hms.out; simp [intOf]; omega
    · have hF := fun w' (h' : RqR a c b at_ 0 hi Q w') => failQ_ok 16 (by omega) h'
      rw [List.drop_eq_nil_of_le (by omega)] at hg
      simp only [readG, Prod.mk.injEq] at hg
      obtain ⟨rfl, rfl, rfl⟩ := hg
      have hge : (b.length : Int) ≤ (at_ : Int) + (k : Int) := by omega
      have hdr := hr.drew
      have hkd := hk.drew
      obtain ⟨m, hm⟩ : ∃ m, b.length = m := ⟨_, rfl⟩
      rw [hm] at c0 hge hsm hle
      replace hr := Lib.hid hr
      replace hdr := Lib.hid hdr
      replace hF := Lib.hid hF
      replace hm := Lib.hid hm
      clear hv hlt
      go_upto_region 5 with (fail)
      go_region
      all_goals
        go_wp2_with (go_at_call 45; refine (hF.out _ hdr.out).mono ?_; rintro en w1 ⟨rfl, hk1, hr1⟩)
        go_ret
        exact ⟨by rw [← hV.out]; rfl, hkd.trans hk1, by rw [← hA.out]; exact hr1⟩
end Go.Proofs.Ytkmnmddengnjlaa
