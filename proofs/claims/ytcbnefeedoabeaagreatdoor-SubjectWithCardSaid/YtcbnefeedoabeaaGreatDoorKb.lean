/- A subject with another value of an attribute: plain definitions and laws. A list with an element in the place of some: 'append' to a full slice; what the place of a name in ascending names is. slices.BinarySearchFunc at attributes, by their names. replace: a list with an element in the place of some. put: an attribute in ascending attributes. The package's With. -/
import Derived.Test.YtcbnefeedoabeaaGreatDoorKf
import Derived.Test.YtcbnefeedoabeaaGreatDoorKa
import Derived.Test.YtcbnefeedoabeaaGreatDoorPn
import Derived.Test.YtcbnefeedoabeaaGreatDoorKz
import Derived.Test.YtcbnefeedoabeaaGreatDoorShelf
import Derived.BigRegion
import Derived.Test.YtcbnefeedoabeaaGreatDoorPx
/- A subject with another value of an attribute: plain definitions and laws. -/
namespace Go.Proofs.YtcbnefeedoabeaaGreatDoor
open Go Go.RowKit

/-- The names ascend. -/
def AscA (l : List Attr) : Prop := l.Pairwise fun x y => kl x.name y.name = true
/-- The place of a name in a list whose names ascend. -/
def rankA (n : ByteArray) : List Attr → Nat
  | [] => 0
  | x :: t => if kl x.name n = true then rankA n t + 1 else 0
theorem rankA_le (n : ByteArray) : ∀ l, rankA n l ≤ l.length
  | [] => Nat.le_refl _
  | x :: t => by
    unfold rankA
    have := rankA_le n t
    split
    · simp; omega
    · exact Nat.zero_le _
theorem rankA_lt (n : ByteArray) : ∀ l j (h : j < l.length), j < rankA n l → kl l[j].name n = true
  | [], j, h, _ => by simp at h
  | x :: t, j, h, hj => by
    unfold rankA at hj
    split at hj
    · rename_i hx
      cases j with
      | zero => exact hx
      | succ j => exact rankA_lt n t j (by simpa using h) (by omega)
    · omega
theorem rankA_eq (n : ByteArray) : ∀ (l : List Attr) (k : Nat), k ≤ l.length → (∀ j (hj : j < l.length), j < k → kl l[j].name n = true) → (∀ (hk : k < l.length), kl l[k].name n = false) → rankA n l = k
  | [], k, h, _, _ => by simp at h; rw [h]; rfl
  | x :: t, 0, _, _, h2 => by
    have := h2 (by simp)
    unfold rankA
    rw [if_neg (by simpa using this)]
  | x :: t, k + 1, h, h1, h2 => by
    have h3 := h1 0 (by simp) (by omega)
    unfold rankA
    rw [if_pos (by simpa using h3), rankA_eq n t k (by simpa using h) (fun j hj hk => h1 (j + 1) (Nat.succ_lt_succ hj) (by omega)) (fun hk => h2 (Nat.succ_lt_succ hk))]
/-- Whether an attribute has the name. -/
def hitA (n : ByteArray) (l : List Attr) : Bool := match l[rankA n l]? with
  | none => false
  | some x => x.name.toList == n.toList
theorem hitA_at {n : ByteArray} {l : List Attr} {k : Nat} (h : rankA n l = k) (hk : k < l.length) : hitA n l = (l[k].name.toList == n.toList) := by
  unfold hitA
  rw [h, List.getElem?_eq_getElem hk]
theorem hitA_end {n : ByteArray} {l : List Attr} (h : rankA n l = l.length) : hitA n l = false := by
  unfold hitA
  rw [h, List.getElem?_eq_none (Nat.le_refl _)]
theorem hitA_lt {n : ByteArray} {l : List Attr} (h : hitA n l = true) : rankA n l < l.length := by
  have := rankA_le n l
  rcases Nat.lt_or_ge (rankA n l) l.length with h2 | h2
  · exact h2
  · rw [hitA_end (by omega)] at h
    cases h
def restA (n : ByteArray) (l : List Attr) : Nat := if hitA n l = true then rankA n l + 1 else rankA n l
theorem restA_le (n : ByteArray) (l : List Attr) : restA n l ≤ l.length := by
  unfold restA
  have := rankA_le n l
  split
  · rename_i h
    exact hitA_lt h
  · exact this
theorem restA_ge (n : ByteArray) (l : List Attr) : rankA n l ≤ restA n l ∧ restA n l ≤ rankA n l + 1 := by
  unfold restA
  split <;> omega
/-- The list with an attribute in the place of the one of its name, or in its place in the order. -/
def putA (a : Attr) (l : List Attr) : List Attr := l.take (rankA a.name l) ++ ([a] ++ l.drop (restA a.name l))
theorem putA_len (a : Attr) (l : List Attr) : (putA a l).length = rankA a.name l + 1 + (l.length - restA a.name l) := by
  unfold putA
  rw [List.length_append, List.length_append, List.length_take, List.length_drop, Nat.min_eq_left (rankA_le _ _)]
  simp
  omega
theorem putA_mem {a x : Attr} {l : List Attr} (h : x ∈ putA a l) : x = a ∨ x ∈ l := by
  unfold putA at h
  rcases List.mem_append.1 h with h | h
  · exact .inr (List.mem_of_mem_take h)
  · rcases List.mem_append.1 h with h | h
    · exact .inl (List.mem_singleton.1 h)
    · exact .inr (List.mem_of_mem_drop h)
def putC (a : Attr) (x : Ctx) : Ctx := ⟨x.kind, x.key, putA a x.attrs⟩
def withE (kd nm : ByteArray) (v : Val) (l : List Ctx) : Int :=
  if subjE l ≠ 0 then subjE l else match findK kd l with
  | none => 11
  | some i => if nameB nm = false then 6 else if checkE v ≠ 0 then checkE v else if 20 < (putA ⟨nm, v⟩ (l.getD i noC).attrs).length then 5 else 0
def withL (kd nm : ByteArray) (v : Val) (l : List Ctx) : List Ctx := match findK kd l with
  | none => l
  | some i => l.take i ++ ([putC ⟨nm, v⟩ (l.getD i noC)] ++ l.drop (i + 1))
def withP (kd nm : ByteArray) (v : Val) (l : List Ctx) : List Ctx × Int := if withE kd nm v l = 0 then (withL kd nm v l, 0) else ([], withE kd nm v l)
theorem withE_bad {kd nm : ByteArray} {v : Val} {l : List Ctx} {e : Int} (h : subjE l = e) (he : e ≠ 0) : withP kd nm v l = ([], e) := by
  have h1 : withE kd nm v l = e := by unfold withE; rw [if_pos (by rw [h]; exact he), h]
  unfold withP
  rw [if_neg (by rw [h1]; exact he), h1]
theorem withE_none {kd nm : ByteArray} {v : Val} {l : List Ctx} (h : subjE l = 0) (hk : findK kd l = none) : withP kd nm v l = ([], 11) := by
  have h1 : withE kd nm v l = 11 := by unfold withE; rw [if_neg (by simp [h]), hk]
  unfold withP
  rw [if_neg (by rw [h1]; decide), h1]
theorem withE_name {kd nm : ByteArray} {v : Val} {l : List Ctx} {i : Nat} (h : subjE l = 0) (hk : findK kd l = some i) (hn : nameB nm = false) : withP kd nm v l = ([], 6) := by
  have h1 : withE kd nm v l = 6 := by unfold withE; rw [if_neg (by simp [h]), hk]; simp only; rw [if_pos hn]
  unfold withP
  rw [if_neg (by rw [h1]; decide), h1]
theorem withE_val {kd nm : ByteArray} {v : Val} {l : List Ctx} {i : Nat} {e : Int} (h : subjE l = 0) (hk : findK kd l = some i) (hn : nameB nm = true) (hv : checkE v = e) (he : e ≠ 0) : withP kd nm v l = ([], e) := by
  have h1 : withE kd nm v l = e := by unfold withE; rw [if_neg (by simp [h]), hk]; simp only; rw [if_neg (by simp [hn]), if_pos (by rw [hv]; exact he), hv]
  unfold withP
  rw [if_neg (by rw [h1]; exact he), h1]
theorem getD_at {l : List Ctx} {i : Nat} (h : i < l.length) : l.getD i noC = l[i] := by simp [List.getD, h]
theorem withE_many {kd nm : ByteArray} {v : Val} {l : List Ctx} {i : Nat} (h : subjE l = 0) (hk : findK kd l = some i) (hi : i < l.length) (hn : nameB nm = true) (hv : checkE v = 0) (hm : 20 < (putA ⟨nm, v⟩ l[i].attrs).length) : withP kd nm v l = ([], 5) := by
  have h1 : withE kd nm v l = 5 := by unfold withE; rw [if_neg (by simp [h]), hk]; simp only; rw [if_neg (by simp [hn]), if_neg (by simp [hv]), getD_at hi, if_pos hm]
  unfold withP
  rw [if_neg (by rw [h1]; decide), h1]
theorem withE_good {kd nm : ByteArray} {v : Val} {l : List Ctx} {i : Nat} (h : subjE l = 0) (hk : findK kd l = some i) (hi : i < l.length) (hn : nameB nm = true) (hv : checkE v = 0) (hm : ¬ 20 < (putA ⟨nm, v⟩ l[i].attrs).length) : withP kd nm v l = (l.take i ++ ([putC ⟨nm, v⟩ l[i]] ++ l.drop (i + 1)), 0) := by
  have h1 : withE kd nm v l = 0 := by unfold withE; rw [if_neg (by simp [h]), hk]; simp only; rw [if_neg (by simp [hn]), if_neg (by simp [hv]), getD_at hi, if_neg hm]
  unfold withP
  rw [if_pos h1]
  unfold withL
  rw [hk]
  simp only
  rw [getD_at hi]
theorem with_ok {kd nm : ByteArray} {v : Val} {l : List Ctx} (h : (withP kd nm v l).2 = 0) : ∃ i, ∃ hi : i < l.length, subjE l = 0 ∧ findK kd l = some i ∧ nameB nm = true ∧ checkE v = 0 ∧ ¬ 20 < (putA ⟨nm, v⟩ l[i].attrs).length ∧ withP kd nm v l = (l.take i ++ ([putC ⟨nm, v⟩ l[i]] ++ l.drop (i + 1)), 0) := by
  by_cases h1 : subjE l = 0
  · cases hk : findK kd l with
    | none => rw [withE_none h1 hk] at h; exact absurd h (by decide)
    | some i =>
      have hi := findK_lt hk
      cases hn : nameB nm with
      | false => rw [withE_name h1 hk hn] at h; exact absurd h (by decide)
      | true =>
        by_cases hv : checkE v = 0
        · by_cases hm : 20 < (putA ⟨nm, v⟩ l[i].attrs).length
          · rw [withE_many h1 hk hi hn hv hm] at h; exact absurd h (by decide)
          · exact ⟨i, hi, h1, rfl, rfl, hv, hm, withE_good h1 hk hi hn hv hm⟩
        · rw [withE_val h1 hk hn rfl hv] at h; exact absurd h hv
  · rw [withE_bad rfl h1] at h; exact absurd h h1
/-- The result is small. -/
theorem with_tiny (kd nm : ByteArray) (v : Val) (l : List Ctx) : (withP kd nm v l).1.length ≤ 4 ∧ ∀ x ∈ (withP kd nm v l).1, TinyC x := by
  by_cases h : (withP kd nm v l).2 = 0
  · obtain ⟨i, hi, h1, hk, hn, hv, hm, he⟩ := with_ok h
    obtain ⟨h4, ht⟩ := valid_tiny h1
    rw [he]
    refine ⟨?_, fun x hx => ?_⟩
    · show (l.take i ++ ([putC ⟨nm, v⟩ l[i]] ++ l.drop (i + 1))).length ≤ 4
      rw [List.length_append, List.length_append, List.length_take, List.length_drop]
      simp
      omega
    · rcases List.mem_append.1 hx with hx | hx
      · exact ht x (List.mem_of_mem_take hx)
      · rcases List.mem_append.1 hx with hx | hx
        · obtain rfl := List.mem_singleton.1 hx
          have t := ht l[i] (List.getElem_mem hi)
          refine ⟨t.kind, t.key, ?_, fun a ha => ?_⟩
          · show (putA ⟨nm, v⟩ l[i].attrs).length ≤ 20
            omega
          · rcases putA_mem ha with rfl | ha
            · exact tiny_of hv (nameB_size hn).2
            · exact t.each a ha
        · exact ht x (List.mem_of_mem_drop hx)
  · have he : (withP kd nm v l).1 = [] := by
      unfold withP at h ⊢
      split
      · rename_i h2
        rw [if_pos h2] at h
        exact absurd rfl h
      · rfl
    rw [he]
    exact ⟨by simp, fun x hx => by cases hx⟩
theorem find_idx {α : Type} (p : α → Bool) (l : List α) : l.find? p = (match l.findIdx? p with
    | none => none
    | some j => l[j]?) := by
  cases h : l.findIdx? p with
  | none =>
    rw [List.findIdx?_eq_none_iff] at h
    exact List.find?_eq_none.2 fun x hx => by simp [h x hx]
  | some j =>
    rw [List.findIdx?_eq_some_iff_getElem] at h
    obtain ⟨hj, h1, h2⟩ := h
    simp only [List.getElem?_eq_getElem hj]
    exact List.find?_eq_some_iff_getElem.2 ⟨h1, j, hj, rfl, fun i hi => by simpa using h2 i hi⟩
theorem lookIn_find (nm : ByteArray) (x : Ctx) : lookIn nm x = if isKey nm = true then (⟨3, 0, x.key, []⟩, true) else match x.attrs.find? (hasName nm) with
    | none => (noV, false)
    | some a => (a.val, true) := by
  unfold lookIn
  split
  · rfl
  · rw [find_idx]
    show (match x.attrs.findIdx? (hasName nm) with | none => _ | some j => _) = _
    cases h : x.attrs.findIdx? (hasName nm) with
    | none => rfl
    | some j =>
      have hj : j < x.attrs.length := by
        rw [List.findIdx?_eq_some_iff_getElem] at h
        exact h.1
      simp [List.getD, hj]
theorem take_find {n m : ByteArray} (l : List Attr) (h : ¬ kl m n = true) : (l.take (rankA n l)).find? (hasName m) = none := by
  refine List.find?_eq_none.2 fun x hx => ?_
  obtain ⟨j, hj, rfl⟩ := List.getElem_of_mem hx
  rw [List.length_take] at hj
  rw [List.getElem_take]
  intro e
  have e2 : l[j].name = m := list_inj (by simpa [hasName] using e)
  have := rankA_lt n l j (by omega) (by omega)
  rw [e2] at this
  exact h this
/-- The name is found. -/
theorem put_hit (a : Attr) (l : List Attr) : (putA a l).find? (hasName a.name) = some a := by
  unfold putA
  rw [List.find?_append, take_find l (by simp [kl_irrefl]), List.find?_append]
  simp [hasName]
/-- No other name is touched. -/
theorem put_miss (a : Attr) (l : List Attr) {m : ByteArray} (h : m ≠ a.name) : (putA a l).find? (hasName m) = l.find? (hasName m) := by
  have hne : hasName m a = false := by
    cases h2 : hasName m a with
    | false => rfl
    | true => exact absurd (list_inj (by simpa [hasName] using h2)).symm h
  have hd : (l.drop (restA a.name l)).find? (hasName m) = (l.drop (rankA a.name l)).find? (hasName m) := by
    unfold restA
    split
    · rename_i hit
      have hk := hitA_lt hit
      rw [hitA_at rfl hk] at hit
      rw [List.drop_eq_getElem_cons hk, List.find?_cons_of_neg]
      intro e
      have e1 : l[rankA a.name l].name = m := list_inj (by simpa [hasName] using e)
      have e2 : l[rankA a.name l].name = a.name := list_inj (by simpa using hit)
      exact h (e1.symm.trans e2)
    · rfl
  unfold putA
  rw [List.find?_append, List.find?_append, hd]
  conv => rhs; rw [← List.take_append_drop (rankA a.name l) l, List.find?_append]
  congr 1
  simp [hne]
theorem put_take {α : Type} {l : List α} {i : Nat} (hi : i < l.length) (y : α) : l.take i ++ ([y] ++ l.drop (i + 1)) = l.set i y := by
  rw [List.set_eq_take_append_cons_drop, if_pos hi]
  rfl
theorem findK_set {kd : ByteArray} {l : List Ctx} {i : Nat} (hi : i < l.length) (y : Ctx) (hy : y.kind = l[i].kind) : findK kd (l.set i y) = findK kd l := by
  have key : ∀ L : List Ctx, findK kd L = (L.map Ctx.kind).findIdx? (fun k => k.toList == kd.toList) := fun L => by
    unfold findK
    rw [List.findIdx?_map]
    rfl
  rw [key, key]
  congr 1
  apply List.ext_getElem?
  intro j
  rw [List.getElem?_map, List.getElem?_map, List.getElem?_set]
  by_cases h : i = j
  · subst h
    rw [if_pos rfl, if_pos hi, List.getElem?_eq_getElem hi]
    simp [hy]
  · rw [if_neg h]
theorem foundV_at {kd nm : ByteArray} {l : List Ctx} {i : Nat} (h : findK kd l = some i) (hi : i < l.length) : foundV kd nm l = lookIn nm l[i] := foundV_some h hi
theorem key_not {nm : ByteArray} (h : nameB nm = true) : isKey nm = false := by
  unfold nameB at h
  unfold isKey
  simp at h
  simp [h.2]
/-- What a look says of the result. -/
theorem with_look {kd nm : ByteArray} {v : Val} {l : List Ctx} (h : (withP kd nm v l).2 = 0) : foundV kd nm (withP kd nm v l).1 = (v, true) ∧ ∀ kd2 nm2, ¬ (kd2 = kd ∧ nm2 = nm) → foundV kd2 nm2 (withP kd nm v l).1 = foundV kd2 nm2 l := by
  obtain ⟨i, hi, h1, hk, hn, hv, hm, he⟩ := with_ok h
  have hL : (withP kd nm v l).1 = l.set i (putC ⟨nm, v⟩ l[i]) := by
    rw [he]
    exact put_take hi _
  rw [hL]
  have hF : ∀ kd, findK kd (l.set i (putC ⟨nm, v⟩ l[i])) = findK kd l := fun kd => findK_set hi _ rfl
  refine ⟨?_, fun kd2 nm2 hne => ?_⟩
  · rw [foundV_at ((hF kd).trans hk) (by simpa using hi), lookIn_find, if_neg (by simp [key_not hn])]
    simp only [List.getElem_set_self]
    rw [show (putC ⟨nm, v⟩ l[i]).attrs.find? (hasName nm) = some ⟨nm, v⟩ from put_hit ⟨nm, v⟩ l[i].attrs]
  · cases hk2 : findK kd2 l with
    | none => rw [foundV_none ((hF kd2).trans hk2), foundV_none hk2]
    | some j =>
      have hj := findK_lt hk2
      rw [foundV_at ((hF kd2).trans hk2) (by simpa using hj), foundV_at hk2 hj]
      by_cases hij : i = j
      · subst hij
        simp only [List.getElem_set_self]
        rw [lookIn_find, lookIn_find]
        have hkk : kd2 = kd := by
          have e1 : isKind kd2 l[i] = true := by
            unfold findK at hk2
            rw [List.findIdx?_eq_some_iff_getElem] at hk2
            exact hk2.2.1
          have e2 : isKind kd l[i] = true := by
            unfold findK at hk
            rw [List.findIdx?_eq_some_iff_getElem] at hk
            exact hk.2.1
          unfold isKind at e1 e2
          exact (list_inj (by simpa using e1)).symm.trans (list_inj (by simpa using e2))
        have hnn : nm2 ≠ nm := fun e => hne ⟨hkk, e⟩
        rw [show (putC ⟨nm, v⟩ l[i]).attrs.find? (hasName nm2) = l[i].attrs.find? (hasName nm2) from put_miss ⟨nm, v⟩ l[i].attrs hnn]
        rfl
      · rw [List.getElem_set_ne hij]
end Go.Proofs.YtcbnefeedoabeaaGreatDoor
/- A list with an element in the place of some: 'append' to a full slice; what the place of a name in ascending names is. -/
namespace Go.Proofs.YtcbnefeedoabeaaGreatDoor
open Go Go.RowKit

/-- 'append' to a full slice: the result is new memory. -/
theorem run_clip {α : Type} (E : Elt α) {P : Nat → Prop} {fa fb : List α} {w : World} (ty : TypeId) (hPB : ∀ k, P k → k < w.heap.size) (pa : Option Addr) (ka : Nat) (hka : fa.length = ka) (hna : pa = none → fa = []) (hnews : ∀ ad, pa = some ad → ∀ j u, (E.row fa)[j]? = some u → w.cell? (ad.add j) = some u) (hoka : ∀ e ∈ fa, E.ok P e w)
    (ad : Addr) (m c : Nat) (hm : fb.length = m) (hnb : ∀ j u, (E.row fb)[j]? = some u → w.cell? (ad.add j) = some u) (hokb : ∀ e ∈ fb, E.ok P e w) (h0 : 0 < m) (hl : ka + m ≤ 1000) :
    ∃ v' w', (Builtin.append_ #[E.S, E.S] ty #[.slice pa (ka : Nat) ka, .slice (some ad) (m : Nat) c]).run Tryz.prog w = .ok v' w' ∧ GRow E P (fa ++ fb) w.heap.size v' w' ∧ Below w.heap.size w w' := by
  subst hm
  subst hka
  obtain ⟨i0, hi, hz0, hz1, hz2⟩ := info_parts E.info
  have hfit := E.fit
  have hbytes : (fa.length + fb.length) * E.size ≤ 140737488355328 := by
    have : (fa.length + fb.length) * E.size ≤ 1000 * 1000 := Nat.mul_le_mul hl hfit
    omega
  have key : ∃ v' w', (Builtin.append_ #[E.S, E.S] ty #[.slice pa (fa.length : Nat) fa.length, .slice (some ad) (fb.length : Nat) c]).run Tryz.prog w = .ok v' w' ∧ w'.ownsRow w.heap.size E.T E.k v' (fa.length + fb.length) (E.row fa ++ E.row fb) ∧ w.grownBy w' none := by
    cases pa with
    | some a0 => exact run_append_arg_grows (P := Tryz.prog) w E.S ty E.T i0 E.zero E.k E.size E.under hi hz0 hz1 hz2 E.zlen E.pos a0 fa.length fa.length (E.row fa) (E.row_length fa) (hnews a0 rfl) ad fb.length c (E.row fb) (E.row_length fb) hnb (by omega) (by unfold maxLen; omega) hbytes
    | none =>
      have h2 := hna rfl
      subst h2
      obtain ⟨v', w', h3, h4, h5, _⟩ := run_append_own (P := Tryz.prog) w w.heap.size E.S ty E.T i0 E.zero E.k E.size E.under hi hz0 hz1 hz2 E.zlen E.pos (.slice none 0 0) 0 [] (World.ownsRow_nil w _ _ _) ad fb.length c (E.row fb) (E.row_length fb) hnb (E.row_one fb) (by unfold maxLen; omega) (by simpa using hbytes) (Nat.le_refl _)
      exact ⟨v', w', h3, by simpa [Elt.row] using h4, h5⟩
  obtain ⟨v', w', hrun, hown, hg⟩ := key
  have hbl := (Below.refl w.heap.size w).grown hg (Nat.le_refl _) (fun k hk => by cases hk)
  refine ⟨v', w', hrun, ⟨?_, fun e he => ?_⟩, hbl⟩
  · have h9 : E.row (fa ++ fb) = E.row fa ++ E.row fb := by simp [Elt.row]
    rw [h9, List.length_append]
    exact hown
  · have h8 : E.ok P e w := by
      rcases List.mem_append.1 he with h | h
      · exact hoka e h
      · exact hokb e h
    refine E.mono (E.same h8 (SameB.of_below hbl)) fun k _ hk => ⟨hk, fun e => ?_⟩
    have := (World.ownsRow.lt hown k e).1
    have := hPB k hk
    omega
theorem attrsGo_asc2 : ∀ (l : List Attr) (b : ByteArray), attrsGo b l = 0 → AscA l ∧ ∀ x ∈ l, kl b x.name = true
  | [], _, _ => ⟨List.Pairwise.nil, fun x hx => by simp at hx⟩
  | a :: t, b, h => by
    unfold attrsGo at h
    split at h
    · split at h
      · exact absurd h (by decide)
      · rename_i hb
        split at h
        · have hk := leqK_not (Bool.eq_false_iff.2 hb)
          obtain ⟨h1, h2⟩ := attrsGo_asc2 t a.name h
          refine ⟨List.pairwise_cons.2 ⟨h2, h1⟩, fun x hx => ?_⟩
          rcases List.mem_cons.1 hx with rfl | hx
          · exact hk
          · exact kl_trans hk (h2 x hx)
        · rename_i hc
          exact absurd h hc
    · exact absurd h (by decide)
theorem ctxE_ascA {b : ByteArray} {x : Ctx} (h : ctxE b x = 0) : AscA x.attrs := by
  unfold ctxE at h
  split at h
  · split at h
    · exact absurd h (by decide)
    · split at h
      · exact absurd h (by decide)
      · unfold attrsE at h
        split at h
        · exact absurd h (by decide)
        · exact (attrsGo_asc2 _ _ h).1
  · exact absurd h (by decide)
theorem subjGo_ascA : ∀ (l : List Ctx) (b : ByteArray), subjGo b l = 0 → ∀ x ∈ l, AscA x.attrs
  | [], _, _, a, ha => by simp at ha
  | x :: t, b, h, y, hy => by
    unfold subjGo at h
    split at h
    · rename_i h0
      rcases List.mem_cons.1 hy with rfl | hy
      · exact ctxE_ascA h0
      · exact subjGo_ascA t _ h y hy
    · rename_i h0
      exact absurd h h0
theorem valid_ascA {l : List Ctx} (h : subjE l = 0) : ∀ x ∈ l, AscA x.attrs := by
  unfold subjE at h
  split at h
  · exact absurd h (by decide)
  · exact subjGo_ascA _ _ h
theorem rankA_at (n : ByteArray) : ∀ l (h : rankA n l < l.length), kl l[rankA n l].name n = false
  | [], h => by simp at h
  | x :: t, h => by
    cases hx : kl x.name n with
    | true =>
      have h1 : rankA n (x :: t) = rankA n t + 1 := if_pos hx
      have h2 : rankA n t < t.length := by rw [h1] at h; simpa using h
      have := rankA_at n t h2
      simp only [h1, List.getElem_cons_succ]
      exact this
    | false =>
      have h1 : rankA n (x :: t) = 0 := if_neg (by simp [hx])
      simp only [h1, List.getElem_cons_zero]
      exact hx
/-- Behind its place no name is less. -/
theorem rankA_ge {n : ByteArray} {l : List Attr} (ha : AscA l) {j : Nat} (hj : j < l.length) (h : rankA n l ≤ j) : kl l[j].name n = false := by
  rcases Nat.lt_or_ge (rankA n l) j with h1 | h1
  · cases h2 : kl l[j].name n with
    | false => rfl
    | true =>
      have h3 := List.pairwise_iff_getElem.1 ha (rankA n l) j (by omega) hj h1
      have h4 := rankA_at n l (by omega)
      rw [kl_trans h3 h2] at h4
      cases h4
  · have e : j = rankA n l := by omega
    subst e
    exact rankA_at n l hj
/-- What a comparison says of an element's place. -/
theorem rankA_cmp {n : ByteArray} {l : List Attr} (ha : AscA l) {j : Nat} (hj : j < l.length) : decide (Lib.compareBytes l[j].name.data.toList n.data.toList < 0) = decide (j < rankA n l) := by
  rw [cmp_lt, ← ByteArray.toList_eq, ← ByteArray.toList_eq]
  show kl l[j].name n = _
  by_cases h : j < rankA n l
  · rw [rankA_lt n l j hj h, decide_eq_true h]
  · rw [rankA_ge ha hj (by omega), decide_eq_false h]
theorem cmp_eq : ∀ a b : List UInt8, decide (Lib.compareBytes a b = 0) = (a == b)
  | [], [] => by simp [Lib.compareBytes]
  | [], _ :: _ => by simp [Lib.compareBytes]
  | _ :: _, [] => by simp [Lib.compareBytes]
  | p :: a, q :: b => by
    have ih := cmp_eq a b
    unfold Lib.compareBytes
    by_cases h : p < q
    · have hne : p ≠ q := fun e => by subst e; exact absurd h (UInt8.lt_irrefl p)
      simp [h, hne]
    · by_cases h2 : q < p
      · have hne : p ≠ q := fun e => by subst e; exact absurd h2 (UInt8.lt_irrefl p)
        simp [h, h2, hne]
      · have he : p = q := UInt8.le_antisymm (UInt8.not_lt.1 h2) (UInt8.not_lt.1 h)
        subst he
        simp [h]
        simpa using ih
end Go.Proofs.YtcbnefeedoabeaaGreatDoor
/- slices.BinarySearchFunc at attributes, by their names. -/
namespace Go.Proofs.YtcbnefeedoabeaaGreatDoor
open Go Go.RowKit

set_option maxHeartbeats 1000000 in
/-- The closure of put's search. -/
theorem byName_any (x : Attr) (p : Option Addr) (c : Nat) (nm : ByteArray) (w : World) : Calls Tryz.prog 83 #[.agg #[.string x.name, .int .i64 x.val.kind, .int .i64 x.val.num, .string x.val.text, .slice p (x.val.list.length : Nat) c], .string nm] w fun e w' => e = .returned (.int .i64 (Lib.compareBytes x.name.data.toList nm.data.toList)) ∧ Below w.heap.size w w' := by
  have hb := (Below.refl w.heap.size w).alloc (Nat.le_refl _) (.cells #[.string x.name, .int .i64 x.val.kind, .int .i64 x.val.num, .string x.val.text, .slice p (x.val.list.length : Nat) c] 72)
  have hz := heap_alloc_new w (.cells #[.string x.name, .int .i64 x.val.kind, .int .i64 x.val.num, .string x.val.text, .slice p (x.val.list.length : Nat) c] 72)
  have hcon := fun W' => Tryz.strings_Compare x.name nm W'
  generalize Lib.compareBytes x.name.data.toList nm.data.toList = r at hcon ⊢
  replace hcon := Lib.hid hcon
  go_enter Tryz.func83, Tryz.ntmps83
  go_upto_region 1 with (fail)
  generalize w.alloc (.cells #[.string x.name, .int .i64 x.val.kind, .int .i64 x.val.num, .string x.val.text, .slice p (x.val.list.length : Nat) c] 72) = w0 at hb hz ⊢
  have c0 : w0.cell? ⟨w.heap.size, 0, none⟩ = some (.string x.name) := by rw [Lib.cell_of_heap hz]; rfl
  go_wp2_with (go_at_call 38; refine (hcon.out _).mono ?_; rintro e w' ⟨rfl, rfl⟩)
  go_ret
  exact ⟨rfl, hb⟩
set_option linter.unusedSimpArgs false in
set_option linter.unusedVariables false in
set_option maxHeartbeats 8000000 in
set_option maxRecDepth 100000 in
theorem search_any {P : Nat → Prop} (p : Option Addr) (c : Nat) (l : List Attr) (nm : ByteArray) (w : World) (hA : AttrsP P p c l w) (ha : AscA l) (hl : l.length ≤ 1000) :
    Calls Tryz.prog 82 #[.slice p (l.length : Nat) c, .string nm, .func (.func 83) #[] #[]] w fun e w' => e = .returned (.tuple #[.int .i64 (rankA nm l : Nat), .bool (hitA nm l)]) ∧ Below w.heap.size w w' := by
  obtain ⟨R, hR⟩ : ∃ R, rankA nm l = R := ⟨_, rfl⟩
  have hRl := rankA_le nm l
  rw [hR] at hRl ⊢
  obtain ⟨n, hn⟩ : ∃ n, l.length = n := ⟨_, rfl⟩
  rw [hn] at hRl hl ⊢
  go_enter Tryz.func82, Tryz.ntmps82
  replace hR := Lib.hid hR
  replace hn := Lib.hid hn
  go_wp2
  go_loopw [9, 10, 11] (fun i j _ wr => ∃ a b : Nat, a ≤ R ∧ R ≤ b ∧ b ≤ n ∧ i = .int .i64 a ∧ j = .int .i64 b ∧ Below w.heap.size w wr) (fun i j _ _ => (intOf j).toNat - (intOf i).toNat)
  case atStart => exact ⟨0, n, Nat.zero_le _, hRl, Nat.le_refl _, rfl, rfl, Below.refl _ _⟩
  case round =>
    obtain ⟨a, b, haR, hRb, hbn, rfl, rfl, hbl⟩ := hrel
    by_cases hlt : a < b
    · have hltI : (a : Int) < (b : Int) := by omega
      have hm0 : (a + b) / 2 < n := by omega
      have hm1 : (a + b) / 2 < l.length := by rw [hn.out]; exact hm0
      obtain ⟨h, hh⟩ : ∃ h, (a + b) / 2 = h := ⟨_, rfl⟩
      have hhI : ((a : Int) + (b : Int)) / 2 = (h : Int) := by omega
      rw [hh] at hm0 hm1
      have hah : a ≤ h := by omega
      have hhb : h < b := by omega
      have hhI0 : (0 : Int) ≤ (h : Int) := by omega
      have hhI1 : (h : Int) < (n : Int) := by omega
      obtain ⟨bk, off, rfl, hPb, hbk, hat⟩ := hA.at_ h hm1
      obtain ⟨q0, q1, q2, q3, pp, cc, q4, -⟩ := hat.same (SameB.of_below (P := P) hbl) hPb hbk
      have hcmp := rankA_cmp (n := nm) ha hm1
      rw [hR.out] at hcmp
      have hcl := byName_any l[h] pp cc nm wr
      obtain ⟨z, hz⟩ : ∃ z, Lib.compareBytes l[h].name.data.toList nm.data.toList = z := ⟨_, rfl⟩
      rw [hz] at hcmp hcl
      obtain ⟨x, hx⟩ : ∃ x, l[h] = x := ⟨_, rfl⟩
      rw [hx] at q0 q1 q2 q3 q4 hcl
      replace hcl := Lib.hid hcl
      replace hhI := Lib.hid hhI
      clear hat hx hz hh
      have go5 : ∀ W, Below w.heap.size w W → True := fun _ _ => trivial
      clear go5
      by_cases hlR : h < R
      · rw [decide_eq_true hlR] at hcmp
        have hz0 : z < 0 := by simpa using hcmp
        go_upto_region 5 with (fail)
        rw [hhI.out]
        go_wp2_with (go_at_call 83; refine hcl.out.mono ?_; rintro e w1 ⟨rfl, hb1⟩)
        go_roundw
        case rel => exact ⟨h + 1, b, by omega, hRb, hbn, by go_num, rfl, hbl.trans (hb1.mono hbl.size)⟩
        case measure => simp [intOf]; omega
      · rw [decide_eq_false hlR] at hcmp
        have hz0 : ¬ z < 0 := by simpa using hcmp
        go_upto_region 5 with (fail)
        rw [hhI.out]
        go_wp2_with (go_at_call 83; refine hcl.out.mono ?_; rintro e w1 ⟨rfl, hb1⟩)
        go_roundw
        case rel => exact ⟨a, h, haR, by omega, by omega, rfl, rfl, hbl.trans (hb1.mono hbl.size)⟩
        case measure => simp [intOf]; omega
    · have hltI : ¬ (a : Int) < (b : Int) := by omega
      obtain rfl : a = R := by omega
      by_cases hlt2 : a < n
      · have hnI : (a : Int) < (n : Int) := by omega
        have hnI0 : (0 : Int) ≤ (a : Int) := by omega
        have hm1 : a < l.length := by rw [hn.out]; exact hlt2
        obtain ⟨bk, off, rfl, hPb, hbk, hat⟩ := hA.at_ a hm1
        obtain ⟨q0, q1, q2, q3, pp, cc, q4, -⟩ := hat.same (SameB.of_below (P := P) hbl) hPb hbk
        have hcl := byName_any l[a] pp cc nm wr
        have hcmp := cmp_eq l[a].name.data.toList nm.data.toList
        have hhit := hitA_at hR.out hm1
        rw [ByteArray.toList_eq, ByteArray.toList_eq] at hhit
        obtain ⟨z, hz⟩ : ∃ z, Lib.compareBytes l[a].name.data.toList nm.data.toList = z := ⟨_, rfl⟩
        rw [hz] at hcmp hcl
        obtain ⟨x, hx⟩ : ∃ x, l[a] = x := ⟨_, rfl⟩
        rw [hx] at q0 q1 q2 q3 q4 hcl hcmp hhit
        have hzb : (z == 0) = hitA nm l := by rw [hhit, ← hcmp]; rfl
        replace hcl := Lib.hid hcl
        replace hzb := Lib.hid hzb
        clear hat hx hz hhit hcmp
        go_wp2_with (go_at_call 83; refine hcl.out.mono ?_; rintro e w1 ⟨rfl, hb1⟩)
        refine bodyPost_ret (v := .tuple #[.int .i64 (a : Int), .bool (z == 0)]) (by simp [results, Tryz.results82, go_sem]) rfl ⟨by rw [← hzb.out], hbl.trans (hb1.mono hbl.size)⟩
      · have hnI : ¬ (a : Int) < (n : Int) := by omega
        have hend := Lib.hid (hitA_end (n := nm) (l := l) (by rw [hR.out, hn.out]; omega))
        go_wp2
        refine bodyPost_ret (v := .tuple #[.int .i64 (a : Int), .bool false]) (by simp [results, Tryz.results82, go_sem]) rfl ⟨by rw [hend.out], hbl⟩
end Go.Proofs.YtcbnefeedoabeaaGreatDoor
/- replace: a list with an element in the place of some. -/
namespace Go.Proofs.YtcbnefeedoabeaaGreatDoor
open Go Go.RowKit

theorem els_drop_none {α : Type} {E : Elt α} {P : Nat → Prop} {p : Option Addr} {c k K : Nat} {fs : List α} {w : World} (h : ElsAt E P p c fs w) (e : (if c = k then p else p.map (·.add (k * K))) = none) : fs.length - k = 0 ∧ c - k = 0 := by
  have hp : p = none := by
    split at e
    · exact e
    · cases p with
      | none => rfl
      | some ad => cases e
  have h1 := h.nil hp
  have h2 := h.cap
  omega
theorem els_drop_news {α : Type} {E : Elt α} {P : Nat → Prop} {p : Option Addr} {c k K : Nat} {fs : List α} {w w' : World} (h : ElsAt E P p c fs w) (hK : E.k = K) (hb : Below w.heap.size w w') (hk : k ≤ fs.length) {ad : Addr} (e : (if c = k then p else p.map (·.add (k * K))) = some ad) {j : Nat} {u : Value} (hu : (E.row (fs.drop k))[j]? = some u) : w'.cell? (ad.add j) = some u := by
  have hcap := h.cap
  subst hK
  split at e
  · have h0 : fs.drop k = [] := List.drop_eq_nil_of_le (by omega)
    rw [h0] at hu
    simp [Elt.row] at hu
  · by_cases hlt : k < fs.length
    · obtain ⟨b, off, rfl, hP, hbs, _⟩ := h.at_ k hlt
      cases e
      rw [row_drop E fs k hk j] at hu
      have h1 := els_news h _ u hu
      rw [add_at] at h1
      show w'.cell? (((⟨b, off, none⟩ : Addr).add (k * E.k)).add j) = some u
      rw [add_at, add_at, Nat.add_assoc]
      exact (hb.cell (p := ⟨b, off + (k * E.k + j), none⟩) hbs).trans h1
    · have h0 : fs.drop k = [] := List.drop_eq_nil_of_le (by omega)
      rw [h0] at hu
      simp [Elt.row] at hu
theorem els_take_news {α : Type} {E : Elt α} {P : Nat → Prop} {p : Option Addr} {c k : Nat} {fs : List α} {w w' : World} (h : ElsAt E P p c fs w) (hb : Below w.heap.size w w') {ad : Addr} (e : p = some ad) {j : Nat} {u : Value} (hu : (E.row (fs.take k))[j]? = some u) : w'.cell? (ad.add j) = some u := by
  subst e
  have hne : 0 < fs.length := by
    cases fs with
    | nil => simp [Elt.row] at hu
    | cons e t => simp
  obtain ⟨b, off, he, hP, hbs, _⟩ := h.at_ 0 hne
  cases he
  have h1 := els_news h _ u (row_take E fs k j u hu)
  rw [add_at] at h1 ⊢
  exact (hb.cell (p := ⟨b, off + j, none⟩) hbs).trans h1
set_option linter.unusedSimpArgs false in
set_option linter.unusedVariables false in
set_option maxHeartbeats 8000000 in
set_option maxRecDepth 100000 in
theorem replaceA_any {P : Nat → Prop} (p : Option Addr) (c : Nat) (fs : List AEl) (i j n : Nat) (x : AEl) (w : World) (hE : ElsAt eltA P p c fs w) (hx : eltA.ok P x w) (hPB : ∀ b, P b → b < w.heap.size) (hn : fs.length = n) (hij : i ≤ j) (hj : j ≤ n) (hl : n ≤ 900) :
    Calls Tryz.prog 84 #[.slice p (n : Nat) c, .int .i64 (i : Nat), .int .i64 (j : Nat), .agg #[.string x.a.name, .int .i64 x.a.val.kind, .int .i64 x.a.val.num, .string x.a.val.text, .slice x.p (x.a.val.list.length : Nat) x.c]] w fun e w' => (∃ v, e = .returned v ∧ GRow eltA P (fs.take i ++ ([x] ++ fs.drop j)) w.heap.size v w') ∧ Below w.heap.size w w' := by
  have hbA := (Below.refl w.heap.size w).alloc (Nat.le_refl _) (.cells #[.string x.a.name, .int .i64 x.a.val.kind, .int .i64 x.a.val.num, .string x.a.val.text, .slice x.p (x.a.val.list.length : Nat) x.c] 72)
  have zA := heap_alloc_new w (.cells #[.string x.a.name, .int .i64 x.a.val.kind, .int .i64 x.a.val.num, .string x.a.val.text, .slice x.p (x.a.val.list.length : Nat) x.c] 72)
  have hAs : w.heap.size < (w.alloc (.cells #[.string x.a.name, .int .i64 x.a.val.kind, .int .i64 x.a.val.num, .string x.a.val.text, .slice x.p (x.a.val.list.length : Nat) x.c] 72)).heap.size := by simp
  go_enter Tryz.func84, Tryz.ntmps84
  go_upto_region 1 with (fail)
  generalize w.alloc (.cells #[.string x.a.name, .int .i64 x.a.val.kind, .int .i64 x.a.val.num, .string x.a.val.text, .slice x.p (x.a.val.list.length : Nat) x.c] 72) = w0 at hbA zA hAs ⊢
  have hE0 := hE.same (SameB.of_below hbA)
  have hx0 := eltA.same hx (SameB.of_below hbA)
  have hcap := hE.cap
  have hi0 : (0 : Int) ≤ (i : Int) := by omega
  have hi1 : (i : Int) ≤ (c : Int) := by omega
  have hi2 : (i : Int) ≤ (n : Int) := by omega
  have hj0 : (0 : Int) ≤ (j : Int) := by omega
  have hj1 : (j : Int) ≤ (n : Int) := by omega
  have hj2 : (n : Int) ≤ (c : Int) := by omega
  have hj3 : (j : Int) ≤ (c : Int) := by omega
  have hhold : ∀ W, Below w0.heap.size w0 W → (fun w' => w'.cell? ⟨w.heap.size, 0, none⟩ = some (.string x.a.name) ∧ w'.cell? ⟨w.heap.size, 1, none⟩ = some (.int .i64 x.a.val.kind) ∧ w'.cell? ⟨w.heap.size, 2, none⟩ = some (.int .i64 x.a.val.num) ∧ w'.cell? ⟨w.heap.size, 3, none⟩ = some (.string x.a.val.text) ∧ w'.cell? ⟨w.heap.size, 4, none⟩ = some (.slice x.p (x.a.val.list.length : Nat) x.c)) W := fun W h => ⟨by rw [Lib.cell_of_heap ((h.block _ hAs).trans zA)]; rfl, by rw [Lib.cell_of_heap ((h.block _ hAs).trans zA)]; rfl, by rw [Lib.cell_of_heap ((h.block _ hAs).trans zA)]; rfl, by rw [Lib.cell_of_heap ((h.block _ hAs).trans zA)]; rfl, by rw [Lib.cell_of_heap ((h.block _ hAs).trans zA)]; rfl⟩
  replace hhold := Lib.hid hhold
  replace hE0 := Lib.hid hE0
  refine wp_region_held_drew (S := fun w' => w'.cell? ⟨w.heap.size, 0, none⟩ = some (.string x.a.name) ∧ w'.cell? ⟨w.heap.size, 1, none⟩ = some (.int .i64 x.a.val.kind) ∧ w'.cell? ⟨w.heap.size, 2, none⟩ = some (.int .i64 x.a.val.num) ∧ w'.cell? ⟨w.heap.size, 3, none⟩ = some (.string x.a.val.text) ∧ w'.cell? ⟨w.heap.size, 4, none⟩ = some (.slice x.p (x.a.val.list.length : Nat) x.c)) (by kernel_rfl) (hhold.out w0 (Below.refl _ _)) (fun hHeld => ?_)
  have hbd : Below w0.heap.size w0 w0.drew := (Below.refl _ _).drew
  generalize w0.drew = wd at hbd hHeld ⊢
  have hAd := hbA.size
  have hsd := hbd.size
  refine wpAnyH_take (i := 0) (v := ?_) rfl (by kernel_rfl) (by kernel_rfl) (by kernel_rfl) (fun _ _ _ h => h) (Or.inl ⟨by rfl, ?_⟩) hHeld ?_
  rotate_left
  · intro w' hSw
    go_simp
    try with_reducible rfl
  try simp only [List.getElem_toArray, List.getElem_cons_succ, List.getElem_cons_zero, Act.put, List.setIfInBounds_toArray, List.set_cons_zero, List.set_cons_succ]
  refine wpAnyH_take (i := 1) (v := ?_) rfl (by kernel_rfl) (by kernel_rfl) (by kernel_rfl) (fun _ _ _ h => h) (Or.inl ⟨by rfl, ?_⟩) hHeld ?_
  rotate_left
  · intro w' hSw
    go_simp
    try with_reducible rfl
  try simp only [List.getElem_toArray, List.getElem_cons_succ, List.getElem_cons_zero, Act.put, List.setIfInBounds_toArray, List.set_cons_zero, List.set_cons_succ]
  refine wpAnyH_take (i := 2) (v := ?_) rfl (by kernel_rfl) (by kernel_rfl) (by kernel_rfl) (fun _ _ _ h => h) (Or.inl ⟨by rfl, ?_⟩) hHeld ?_
  rotate_left
  · intro w' hSw
    go_simp
    try with_reducible rfl
  try simp only [List.getElem_toArray, List.getElem_cons_succ, List.getElem_cons_zero, Act.put, List.setIfInBounds_toArray, List.set_cons_zero, List.set_cons_succ]
  refine wpAnyH_take (i := 3) (v := ?_) rfl (by kernel_rfl) (by kernel_rfl) (by kernel_rfl) (fun _ _ _ h => h) (Or.inl ⟨by rfl, ?_⟩) hHeld ?_
  rotate_left
  · intro w' hSw
    go_simp
    try with_reducible rfl
  try simp only [List.getElem_toArray, List.getElem_cons_succ, List.getElem_cons_zero, Act.put, List.setIfInBounds_toArray, List.set_cons_zero, List.set_cons_succ]
  refine wpAnyH_take (i := 4) (v := ?_) rfl (by kernel_rfl) (by kernel_rfl) (by kernel_rfl) (fun _ _ _ h => h) (Or.inl ⟨by rfl, ?_⟩) hHeld ?_
  rotate_left
  · intro w' hSw
    obtain ⟨e0, e1, e2, e3, e4⟩ := hSw
    go_simp
    try with_reducible rfl
  try simp only [List.getElem_toArray, List.getElem_cons_succ, List.getElem_cons_zero, Act.put, List.setIfInBounds_toArray, List.set_cons_zero, List.set_cons_succ]
  refine wpAnyH_take (i := 7) (v := ?_) rfl (by kernel_rfl) (by kernel_rfl) (by kernel_rfl) (fun _ _ _ h => h) (Or.inl ⟨by rfl, ?_⟩) hHeld ?_
  rotate_left
  · intro w' hSw
    go_simp
    try with_reducible rfl
  try simp only [List.getElem_toArray, List.getElem_cons_succ, List.getElem_cons_zero, Act.put, List.setIfInBounds_toArray, List.set_cons_zero, List.set_cons_succ]
  refine wpAnyH_take (i := 8) (v := ?_) rfl (by kernel_rfl) (by kernel_rfl) (by kernel_rfl) (fun _ _ _ h => h) (Or.inl ⟨by rfl, ?_⟩) hHeld ?_
  rotate_left
  · intro w' hSw
    go_simp
    try with_reducible rfl
  try simp only [List.getElem_toArray, List.getElem_cons_succ, List.getElem_cons_zero, Act.put, List.setIfInBounds_toArray, List.set_cons_zero, List.set_cons_succ]
  refine wpAnyH_take (i := 9) (v := ?_) rfl (by kernel_rfl) (by kernel_rfl) (by kernel_rfl) (fun _ _ _ h => h) (Or.inl ⟨by rfl, ?_⟩) hHeld ?_
  rotate_left
  · intro w' hSw
    go_simp
    try with_reducible rfl
  try simp only [List.getElem_toArray, List.getElem_cons_succ, List.getElem_cons_zero, Act.put, List.setIfInBounds_toArray, List.set_cons_zero, List.set_cons_succ]
  refine wpAnyH_ready (rs := [5]) (by kernel_rfl) (by simp) ?_
  refine AllReadyH.cons rfl (fun K hK => ?_) AllReadyH.nil
  go_simp
  have hb4 : Below w0.heap.size w0 (wd.alloc (.cells #[.string x.a.name, .int .i64 x.a.val.kind, .int .i64 x.a.val.num, .string x.a.val.text, .slice x.p (x.a.val.list.length : Nat) x.c] 72)) := hbd.alloc hsd (.cells #[.string x.a.name, .int .i64 x.a.val.kind, .int .i64 x.a.val.num, .string x.a.val.text, .slice x.p (x.a.val.list.length : Nat) x.c] 72)
  refine hK.out _ _ (hhold.out _ hb4) (fun _ => ?_)
  clear hK K hHeld
  have hHeld := hhold.out (wd.alloc (.cells #[.string x.a.name, .int .i64 x.a.val.kind, .int .i64 x.a.val.num, .string x.a.val.text, .slice x.p (x.a.val.list.length : Nat) x.c] 72)) hb4
  try simp only [List.getElem_toArray, List.getElem_cons_succ, List.getElem_cons_zero, Act.put, List.setIfInBounds_toArray, List.set_cons_zero, List.set_cons_succ]
  have hs4 := hb4.size
  refine wpAnyH_ready (rs := [6]) (by kernel_rfl) (by simp) ?_
  refine AllReadyH.cons rfl (fun K hK => ?_) AllReadyH.nil
  obtain ⟨v6, w6, hrun6, hrow6, hb6'⟩ := run_clip eltA (P := P) 61 (w := (wd.alloc (.cells #[.string x.a.name, .int .i64 x.a.val.kind, .int .i64 x.a.val.num, .string x.a.val.text, .slice x.p (x.a.val.list.length : Nat) x.c] 72))) (fa := fs.take i) (fb := [x]) (fun k hk => by have := hPB k hk; omega) p i (by rw [List.length_take]; omega) (fun e => by have h1 := hE.nil e; have : fs = [] := List.eq_nil_of_length_eq_zero (by omega); rw [this]; exact List.take_nil) (fun ad e j u hu => els_take_news hE0.out hb4 e hu) (fun e he => eltA.same (hE0.out.ok e (List.mem_of_mem_take he)) (SameB.of_below hb4)) ⟨wd.heap.size, 0, none⟩ 1 1 rfl (news_one eltA x wd) (fun e he => by obtain rfl := List.mem_singleton.1 he; exact eltA.same hx0 (SameB.of_below hb4)) (by decide) (by omega)
  refine step_run (by rfl) _ _ (by rfl) (by rfl) (by rfl) hrun6 ?_
  have hb6 : Below w0.heap.size w0 w6 := hb4.trans (hb6'.mono hs4)
  refine hK.out _ _ (hhold.out _ hb6) (fun _ => ?_)
  clear hK K hHeld
  have hHeld := hhold.out w6 hb6
  try simp only [List.getElem_toArray, List.getElem_cons_succ, List.getElem_cons_zero, Act.put, List.setIfInBounds_toArray, List.set_cons_zero, List.set_cons_succ]
  refine wpAnyH_ready (rs := [10]) (by kernel_rfl) (by simp) ?_
  refine AllReadyH.cons rfl (fun K hK => ?_) AllReadyH.nil
  have hs6 := hb6'.size
  obtain ⟨v9, w9, hrun9, hrow9, hb9'⟩ := run_own eltA 61 (P := P) (fun k hk => by have := hPB k hk; omega) hrow6 (if c = j then p else p.map (·.add (j * 5))) (n - j) (c - j) (fs := fs.drop j) (by rw [List.length_drop]; omega) (fun e => by have := els_drop_none (K := 5) hE0.out e; omega) (fun ad e jj u hu => els_drop_news hE0.out rfl hb6 (by omega) e hu) (fun e he => eltA.same (hE0.out.ok e (List.mem_of_mem_drop he)) (SameB.of_below hb6)) (by rw [List.length_append, List.length_take, List.length_singleton]; omega) hs6
  refine step_run (by rfl) _ _ (by rfl) (by rfl) (by rfl) hrun9 ?_
  have hb9 : Below w0.heap.size w0 w9 := hb6.trans (hb9'.mono hs4)
  refine hK.out _ _ (hhold.out _ hb9) (fun _ => ?_)
  clear hK K hHeld
  have hHeld := hhold.out w9 hb9
  try simp only [List.getElem_toArray, List.getElem_cons_succ, List.getElem_cons_zero, Act.put, List.setIfInBounds_toArray, List.set_cons_zero, List.set_cons_succ]
  refine wpAnyH_ready (rs := [11]) (by kernel_rfl) (by simp) ?_
  refine AllReadyH.cons rfl (fun K hK => ?_) AllReadyH.nil
  go_simp
  refine hK.out _ _ (hhold.out _ hb9) (fun _ => ?_)
  clear hK K hHeld
  have hHeld := hhold.out w9 hb9
  try simp only [List.getElem_toArray, List.getElem_cons_succ, List.getElem_cons_zero, Act.put, List.setIfInBounds_toArray, List.set_cons_zero, List.set_cons_succ]
  refine wpAnyH_done (by kernel_rfl) ?_ _
  have hbend := hbA.trans (hb9.mono hAd)
  rw [List.append_assoc] at hrow9
  have hrowE := hrow9.base (C := w.heap.size) (by omega)
  clear hHeld
  go_wp2
  all_goals (go_ret; exact ⟨⟨_, rfl, hrowE⟩, hbend⟩)
set_option linter.unusedSimpArgs false in
set_option linter.unusedVariables false in
set_option maxHeartbeats 8000000 in
set_option maxRecDepth 100000 in
theorem replaceC_any {P : Nat → Prop} (p : Option Addr) (c : Nat) (fs : List CEl) (i j n : Nat) (x : CEl) (w : World) (hE : ElsAt eltC P p c fs w) (hx : eltC.ok P x w) (hPB : ∀ b, P b → b < w.heap.size) (hn : fs.length = n) (hij : i ≤ j) (hj : j ≤ n) (hl : n ≤ 900) :
    Calls Tryz.prog 45 #[.slice p (n : Nat) c, .int .i64 (i : Nat), .int .i64 (j : Nat), .agg #[.string x.x.kind, .string x.x.key, .slice x.p (x.x.attrs.length : Nat) x.c]] w fun e w' => (∃ v, e = .returned v ∧ GRow eltC P (fs.take i ++ ([x] ++ fs.drop j)) w.heap.size v w') ∧ Below w.heap.size w w' := by
  have hbA := (Below.refl w.heap.size w).alloc (Nat.le_refl _) (.cells #[.string x.x.kind, .string x.x.key, .slice x.p (x.x.attrs.length : Nat) x.c] 63)
  have zA := heap_alloc_new w (.cells #[.string x.x.kind, .string x.x.key, .slice x.p (x.x.attrs.length : Nat) x.c] 63)
  have hAs : w.heap.size < (w.alloc (.cells #[.string x.x.kind, .string x.x.key, .slice x.p (x.x.attrs.length : Nat) x.c] 63)).heap.size := by simp
  go_enter Tryz.func45, Tryz.ntmps45
  go_upto_region 1 with (fail)
  generalize w.alloc (.cells #[.string x.x.kind, .string x.x.key, .slice x.p (x.x.attrs.length : Nat) x.c] 63) = w0 at hbA zA hAs ⊢
  have hE0 := hE.same (SameB.of_below hbA)
  have hx0 := eltC.same hx (SameB.of_below hbA)
  have hcap := hE.cap
  have hi0 : (0 : Int) ≤ (i : Int) := by omega
  have hi1 : (i : Int) ≤ (c : Int) := by omega
  have hi2 : (i : Int) ≤ (n : Int) := by omega
  have hj0 : (0 : Int) ≤ (j : Int) := by omega
  have hj1 : (j : Int) ≤ (n : Int) := by omega
  have hj2 : (n : Int) ≤ (c : Int) := by omega
  have hj3 : (j : Int) ≤ (c : Int) := by omega
  have hhold : ∀ W, Below w0.heap.size w0 W → (fun w' => w'.cell? ⟨w.heap.size, 0, none⟩ = some (.string x.x.kind) ∧ w'.cell? ⟨w.heap.size, 1, none⟩ = some (.string x.x.key) ∧ w'.cell? ⟨w.heap.size, 2, none⟩ = some (.slice x.p (x.x.attrs.length : Nat) x.c)) W := fun W h => ⟨by rw [Lib.cell_of_heap ((h.block _ hAs).trans zA)]; rfl, by rw [Lib.cell_of_heap ((h.block _ hAs).trans zA)]; rfl, by rw [Lib.cell_of_heap ((h.block _ hAs).trans zA)]; rfl⟩
  replace hhold := Lib.hid hhold
  replace hE0 := Lib.hid hE0
  refine wp_region_held_drew (S := fun w' => w'.cell? ⟨w.heap.size, 0, none⟩ = some (.string x.x.kind) ∧ w'.cell? ⟨w.heap.size, 1, none⟩ = some (.string x.x.key) ∧ w'.cell? ⟨w.heap.size, 2, none⟩ = some (.slice x.p (x.x.attrs.length : Nat) x.c)) (by kernel_rfl) (hhold.out w0 (Below.refl _ _)) (fun hHeld => ?_)
  have hbd : Below w0.heap.size w0 w0.drew := (Below.refl _ _).drew
  generalize w0.drew = wd at hbd hHeld ⊢
  have hAd := hbA.size
  have hsd := hbd.size
  refine wpAnyH_take (i := 0) (v := ?_) rfl (by kernel_rfl) (by kernel_rfl) (by kernel_rfl) (fun _ _ _ h => h) (Or.inl ⟨by rfl, ?_⟩) hHeld ?_
  rotate_left
  · intro w' hSw
    go_simp
    try with_reducible rfl
  try simp only [List.getElem_toArray, List.getElem_cons_succ, List.getElem_cons_zero, Act.put, List.setIfInBounds_toArray, List.set_cons_zero, List.set_cons_succ]
  refine wpAnyH_take (i := 1) (v := ?_) rfl (by kernel_rfl) (by kernel_rfl) (by kernel_rfl) (fun _ _ _ h => h) (Or.inl ⟨by rfl, ?_⟩) hHeld ?_
  rotate_left
  · intro w' hSw
    go_simp
    try with_reducible rfl
  try simp only [List.getElem_toArray, List.getElem_cons_succ, List.getElem_cons_zero, Act.put, List.setIfInBounds_toArray, List.set_cons_zero, List.set_cons_succ]
  refine wpAnyH_take (i := 2) (v := ?_) rfl (by kernel_rfl) (by kernel_rfl) (by kernel_rfl) (fun _ _ _ h => h) (Or.inl ⟨by rfl, ?_⟩) hHeld ?_
  rotate_left
  · intro w' hSw
    go_simp
    try with_reducible rfl
  try simp only [List.getElem_toArray, List.getElem_cons_succ, List.getElem_cons_zero, Act.put, List.setIfInBounds_toArray, List.set_cons_zero, List.set_cons_succ]
  refine wpAnyH_take (i := 3) (v := ?_) rfl (by kernel_rfl) (by kernel_rfl) (by kernel_rfl) (fun _ _ _ h => h) (Or.inl ⟨by rfl, ?_⟩) hHeld ?_
  rotate_left
  · intro w' hSw
    go_simp
    try with_reducible rfl
  try simp only [List.getElem_toArray, List.getElem_cons_succ, List.getElem_cons_zero, Act.put, List.setIfInBounds_toArray, List.set_cons_zero, List.set_cons_succ]
  refine wpAnyH_take (i := 4) (v := ?_) rfl (by kernel_rfl) (by kernel_rfl) (by kernel_rfl) (fun _ _ _ h => h) (Or.inl ⟨by rfl, ?_⟩) hHeld ?_
  rotate_left
  · intro w' hSw
    obtain ⟨e0, e1, e2⟩ := hSw
    go_simp
    try with_reducible rfl
  try simp only [List.getElem_toArray, List.getElem_cons_succ, List.getElem_cons_zero, Act.put, List.setIfInBounds_toArray, List.set_cons_zero, List.set_cons_succ]
  refine wpAnyH_take (i := 7) (v := ?_) rfl (by kernel_rfl) (by kernel_rfl) (by kernel_rfl) (fun _ _ _ h => h) (Or.inl ⟨by rfl, ?_⟩) hHeld ?_
  rotate_left
  · intro w' hSw
    go_simp
    try with_reducible rfl
  try simp only [List.getElem_toArray, List.getElem_cons_succ, List.getElem_cons_zero, Act.put, List.setIfInBounds_toArray, List.set_cons_zero, List.set_cons_succ]
  refine wpAnyH_take (i := 8) (v := ?_) rfl (by kernel_rfl) (by kernel_rfl) (by kernel_rfl) (fun _ _ _ h => h) (Or.inl ⟨by rfl, ?_⟩) hHeld ?_
  rotate_left
  · intro w' hSw
    go_simp
    try with_reducible rfl
  try simp only [List.getElem_toArray, List.getElem_cons_succ, List.getElem_cons_zero, Act.put, List.setIfInBounds_toArray, List.set_cons_zero, List.set_cons_succ]
  refine wpAnyH_take (i := 9) (v := ?_) rfl (by kernel_rfl) (by kernel_rfl) (by kernel_rfl) (fun _ _ _ h => h) (Or.inl ⟨by rfl, ?_⟩) hHeld ?_
  rotate_left
  · intro w' hSw
    go_simp
    try with_reducible rfl
  try simp only [List.getElem_toArray, List.getElem_cons_succ, List.getElem_cons_zero, Act.put, List.setIfInBounds_toArray, List.set_cons_zero, List.set_cons_succ]
  refine wpAnyH_ready (rs := [5]) (by kernel_rfl) (by simp) ?_
  refine AllReadyH.cons rfl (fun K hK => ?_) AllReadyH.nil
  go_simp
  have hb4 : Below w0.heap.size w0 (wd.alloc (.cells #[.string x.x.kind, .string x.x.key, .slice x.p (x.x.attrs.length : Nat) x.c] 63)) := hbd.alloc hsd (.cells #[.string x.x.kind, .string x.x.key, .slice x.p (x.x.attrs.length : Nat) x.c] 63)
  refine hK.out _ _ (hhold.out _ hb4) (fun _ => ?_)
  clear hK K hHeld
  have hHeld := hhold.out (wd.alloc (.cells #[.string x.x.kind, .string x.x.key, .slice x.p (x.x.attrs.length : Nat) x.c] 63)) hb4
  try simp only [List.getElem_toArray, List.getElem_cons_succ, List.getElem_cons_zero, Act.put, List.setIfInBounds_toArray, List.set_cons_zero, List.set_cons_succ]
  have hs4 := hb4.size
  refine wpAnyH_ready (rs := [6]) (by kernel_rfl) (by simp) ?_
  refine AllReadyH.cons rfl (fun K hK => ?_) AllReadyH.nil
  obtain ⟨v6, w6, hrun6, hrow6, hb6'⟩ := run_clip eltC (P := P) 23 (w := (wd.alloc (.cells #[.string x.x.kind, .string x.x.key, .slice x.p (x.x.attrs.length : Nat) x.c] 63))) (fa := fs.take i) (fb := [x]) (fun k hk => by have := hPB k hk; omega) p i (by rw [List.length_take]; omega) (fun e => by have h1 := hE.nil e; have : fs = [] := List.eq_nil_of_length_eq_zero (by omega); rw [this]; exact List.take_nil) (fun ad e j u hu => els_take_news hE0.out hb4 e hu) (fun e he => eltC.same (hE0.out.ok e (List.mem_of_mem_take he)) (SameB.of_below hb4)) ⟨wd.heap.size, 0, none⟩ 1 1 rfl (news_one eltC x wd) (fun e he => by obtain rfl := List.mem_singleton.1 he; exact eltC.same hx0 (SameB.of_below hb4)) (by decide) (by omega)
  refine step_run (by rfl) _ _ (by rfl) (by rfl) (by rfl) hrun6 ?_
  have hb6 : Below w0.heap.size w0 w6 := hb4.trans (hb6'.mono hs4)
  refine hK.out _ _ (hhold.out _ hb6) (fun _ => ?_)
  clear hK K hHeld
  have hHeld := hhold.out w6 hb6
  try simp only [List.getElem_toArray, List.getElem_cons_succ, List.getElem_cons_zero, Act.put, List.setIfInBounds_toArray, List.set_cons_zero, List.set_cons_succ]
  refine wpAnyH_ready (rs := [10]) (by kernel_rfl) (by simp) ?_
  refine AllReadyH.cons rfl (fun K hK => ?_) AllReadyH.nil
  have hs6 := hb6'.size
  obtain ⟨v9, w9, hrun9, hrow9, hb9'⟩ := run_own eltC 23 (P := P) (fun k hk => by have := hPB k hk; omega) hrow6 (if c = j then p else p.map (·.add (j * 3))) (n - j) (c - j) (fs := fs.drop j) (by rw [List.length_drop]; omega) (fun e => by have := els_drop_none (K := 3) hE0.out e; omega) (fun ad e jj u hu => els_drop_news hE0.out rfl hb6 (by omega) e hu) (fun e he => eltC.same (hE0.out.ok e (List.mem_of_mem_drop he)) (SameB.of_below hb6)) (by rw [List.length_append, List.length_take, List.length_singleton]; omega) hs6
  refine step_run (by rfl) _ _ (by rfl) (by rfl) (by rfl) hrun9 ?_
  have hb9 : Below w0.heap.size w0 w9 := hb6.trans (hb9'.mono hs4)
  refine hK.out _ _ (hhold.out _ hb9) (fun _ => ?_)
  clear hK K hHeld
  have hHeld := hhold.out w9 hb9
  try simp only [List.getElem_toArray, List.getElem_cons_succ, List.getElem_cons_zero, Act.put, List.setIfInBounds_toArray, List.set_cons_zero, List.set_cons_succ]
  refine wpAnyH_ready (rs := [11]) (by kernel_rfl) (by simp) ?_
  refine AllReadyH.cons rfl (fun K hK => ?_) AllReadyH.nil
  go_simp
  refine hK.out _ _ (hhold.out _ hb9) (fun _ => ?_)
  clear hK K hHeld
  have hHeld := hhold.out w9 hb9
  try simp only [List.getElem_toArray, List.getElem_cons_succ, List.getElem_cons_zero, Act.put, List.setIfInBounds_toArray, List.set_cons_zero, List.set_cons_succ]
  refine wpAnyH_done (by kernel_rfl) ?_ _
  have hbend := hbA.trans (hb9.mono hAd)
  rw [List.append_assoc] at hrow9
  have hrowE := hrow9.base (C := w.heap.size) (by omega)
  clear hHeld
  go_wp2
  all_goals (go_ret; exact ⟨⟨_, rfl, hrowE⟩, hbend⟩)
end Go.Proofs.YtcbnefeedoabeaaGreatDoor
/- put: an attribute in ascending attributes. -/
namespace Go.Proofs.YtcbnefeedoabeaaGreatDoor
open Go Go.RowKit

theorem map_putA {fs : List AEl} {l : List Attr} (hfs : fs.map AEl.a = l) (x : AEl) (k : Nat) (hk : restA x.a.name l = k) : (fs.take (rankA x.a.name l) ++ ([x] ++ fs.drop k)).map AEl.a = putA x.a l := by
  subst hfs
  subst hk
  unfold putA
  simp [List.map_take, List.map_drop]
set_option linter.unusedSimpArgs false in
set_option linter.unusedVariables false in
set_option maxHeartbeats 8000000 in
set_option maxRecDepth 100000 in
theorem put_any {P : Nat → Prop} (p : Option Addr) (c : Nat) (l : List Attr) (x : AEl) (w : World) (hA : AttrsP P p c l w) (hx : eltA.ok P x w) (hPB : ∀ b, P b → b < w.heap.size) (ha : AscA l) (hl : l.length ≤ 900) :
    Calls Tryz.prog 44 #[.slice p (l.length : Nat) c, .agg #[.string x.a.name, .int .i64 x.a.val.kind, .int .i64 x.a.val.num, .string x.a.val.text, .slice x.p (x.a.val.list.length : Nat) x.c]] w fun e w' => (∃ v es, e = .returned v ∧ GRow eltA P es w.heap.size v w' ∧ es.map AEl.a = putA x.a l) ∧ Below w.heap.size w w' := by
  have hbA := (Below.refl w.heap.size w).alloc (Nat.le_refl _) (.cells #[.string x.a.name, .int .i64 x.a.val.kind, .int .i64 x.a.val.num, .string x.a.val.text, .slice x.p (x.a.val.list.length : Nat) x.c] 72)
  have zA := heap_alloc_new w (.cells #[.string x.a.name, .int .i64 x.a.val.kind, .int .i64 x.a.val.num, .string x.a.val.text, .slice x.p (x.a.val.list.length : Nat) x.c] 72)
  have hAs : w.heap.size < (w.alloc (.cells #[.string x.a.name, .int .i64 x.a.val.kind, .int .i64 x.a.val.num, .string x.a.val.text, .slice x.p (x.a.val.list.length : Nat) x.c] 72)).heap.size := by simp
  obtain ⟨fs, hfs, hE⟩ := hA.els
  obtain ⟨n, hn⟩ : ∃ n, l.length = n := ⟨_, rfl⟩
  have hfn : fs.length = n := by rw [← hn, ← hfs, List.length_map]
  have hR := rankA_le x.a.name l
  have hR2 := restA_le x.a.name l
  have hR3 := restA_ge x.a.name l
  have hmap := fun k hk => map_putA hfs x k hk
  have hrest : restA x.a.name l = if hitA x.a.name l = true then rankA x.a.name l + 1 else rankA x.a.name l := rfl
  obtain ⟨R, hRe⟩ : ∃ R, rankA x.a.name l = R := ⟨_, rfl⟩
  obtain ⟨S, hSe⟩ : ∃ S, restA x.a.name l = S := ⟨_, rfl⟩
  have hs := fun W (h : Below w.heap.size w W) => search_any p c l x.a.name W (hA.same (SameB.of_below h)) ha (by omega)
  rw [hRe] at hs hR3 hR hrest
  rw [hSe] at hR2 hR3 hrest
  rw [hRe] at hmap
  have hmp := Lib.hid (hmap S hSe)
  obtain ⟨H, hHe⟩ : ∃ H, hitA x.a.name l = H := ⟨_, rfl⟩
  rw [hHe] at hs hrest
  rw [hn] at hs hR hR2 hl ⊢
  replace hs := Lib.hid hs
  have hrp := fun i j (hij : i ≤ j) (hj : j ≤ n) W (h : Below w.heap.size w W) => replaceA_any (P := P) p c fs i j n x W (hE.same (SameB.of_below h)) (eltA.same hx (SameB.of_below h)) (fun b hb => Nat.lt_of_lt_of_le (hPB b hb) h.size) hfn hij hj hl
  replace hrp := Lib.hid hrp
  clear hmap hHe hSe hRe hfn hfs hE hA hx hn ha
  go_enter Tryz.func44, Tryz.ntmps44
  go_upto_region 1 with (fail)
  generalize w.alloc (.cells #[.string x.a.name, .int .i64 x.a.val.kind, .int .i64 x.a.val.num, .string x.a.val.text, .slice x.p (x.a.val.list.length : Nat) x.c] 72) = w0 at hbA zA hAs ⊢
  have hhold : ∀ W, Below w0.heap.size w0 W → W.cell? ⟨w.heap.size, 0, none⟩ = some (.string x.a.name) ∧ W.cell? ⟨w.heap.size, 1, none⟩ = some (.int .i64 x.a.val.kind) ∧ W.cell? ⟨w.heap.size, 2, none⟩ = some (.int .i64 x.a.val.num) ∧ W.cell? ⟨w.heap.size, 3, none⟩ = some (.string x.a.val.text) ∧ W.cell? ⟨w.heap.size, 4, none⟩ = some (.slice x.p (x.a.val.list.length : Nat) x.c) := fun W h => ⟨by rw [Lib.cell_of_heap ((h.block _ hAs).trans zA)]; rfl, by rw [Lib.cell_of_heap ((h.block _ hAs).trans zA)]; rfl, by rw [Lib.cell_of_heap ((h.block _ hAs).trans zA)]; rfl, by rw [Lib.cell_of_heap ((h.block _ hAs).trans zA)]; rfl, by rw [Lib.cell_of_heap ((h.block _ hAs).trans zA)]; rfl⟩
  obtain ⟨c0, -⟩ := hhold w0 (Below.refl _ _)
  replace hhold := Lib.hid hhold
  have hs0 := Lib.hid (hs.out w0 hbA)
  clear hs zA
  go_upto_region 2 with (go_at_call 82; refine hs0.out.mono ?_; rintro e w1 ⟨rfl, hb1⟩)
  clear hs0
  obtain ⟨k0, k1, k2, k3, k4⟩ := hhold.out w1 hb1
  have hb01 := hbA.trans (hb1.mono hbA.size)
  have hrp1 := fun i j hij hj => hrp.out i j hij hj w1 hb01
  clear hrp hhold c0
  cases H with
  | true =>
    have hSR : S = R + 1 := by simpa using hrest
    subst hSR
    have hrp2 := hrp1 R (R + 1) (by omega) hR2
    simp only [Int.natCast_add, Int.natCast_one] at hrp2
    replace hrp2 := Lib.hid hrp2
    clear hrp1 hrest
    go_wp2_with (go_at_call 84; refine hrp2.out.mono ?_; rintro e w2 ⟨⟨v, rfl, hrow⟩, hb2⟩)
    go_ret
    exact ⟨⟨_, _, rfl, hrow.base hb01.size, hmp.out⟩, hb01.trans (hb2.mono hb01.size)⟩
  | false =>
    have hSR : S = R := by simpa using hrest
    subst hSR
    have hrp2 := Lib.hid (hrp1 S S (Nat.le_refl _) hR2)
    clear hrp1 hrest
    go_wp2_with (go_at_call 84; refine hrp2.out.mono ?_; rintro e w2 ⟨⟨v, rfl, hrow⟩, hb2⟩)
    go_ret
    exact ⟨⟨_, _, rfl, hrow.base hb01.size, hmp.out⟩, hb01.trans (hb2.mono hb01.size)⟩
end Go.Proofs.YtcbnefeedoabeaaGreatDoor
/- The package's With. -/
namespace Go.Proofs.YtcbnefeedoabeaaGreatDoor
open Go Go.RowKit

theorem GRow.attrsB {P : Nat → Prop} {es : List AEl} {l : List Attr} {B : Nat} {v : Value} {w : World} (h : GRow eltA P es B v w) (hl : es.map AEl.a = l) : ∃ (q : Option Addr) (d : Nat), v = .slice q l.length d ∧ AttrsP (fun b => P b ∨ B ≤ b) q d l w := by
  obtain ⟨a0, cap, hv, hA⟩ := h.attrs
  subst hl
  exact ⟨a0, cap, hv, hA.mono fun b _ hb => hb.elim .inl fun e => .inr (h.lt b e).1⟩
theorem GRow.ctxsB {P : Nat → Prop} {es : List CEl} {l : List Ctx} {B : Nat} {v : Value} {w : World} (h : GRow eltC P es B v w) (hl : es.map CEl.x = l) : ∃ (q : Option Addr) (d : Nat), v = .slice q l.length d ∧ CtxsP (fun b => P b ∨ B ≤ b) q d l w := by
  obtain ⟨a0, cap, hv, hA⟩ := h.ctxs
  subst hl
  exact ⟨a0, cap, hv, hA.mono fun b _ hb => hb.elim .inl fun e => .inr (h.lt b e).1⟩
set_option linter.unusedSimpArgs false in
set_option linter.unusedVariables false in
set_option maxHeartbeats 8000000 in
set_option maxRecDepth 100000 in
theorem with_any5 {P Q : Nat → Prop} (p : Option Addr) (c : Nat) (l : List Ctx) (kd nm : ByteArray) (v : Val) (a : Option Addr) (d : Nat) (w : World) (E : Env w) (hA : CtxsP P p c l w) (hF : ∀ x ∈ l, FitC x) (hl : l.length ≤ 100) (hV : ListP Q a d v.list w) (hvt : v.text.size ≤ 9223372036854775000) (hvl : v.list.length ≤ 1000) (hve : ∀ s ∈ v.list, s.size ≤ 9223372036854775000) (hnm : nm.size ≤ 9223372036854775000) :
    Calls Tryz.prog 17 #[.agg #[.slice p (l.length : Nat) c], .string kd, .string nm, v.agg a d] w fun en w' => (∃ (q : Option Addr) (e : Nat), en = .returned (.tuple #[.agg #[.slice q ((withP kd nm v l).1.length : Nat) e], .int .i64 (withP kd nm v l).2]) ∧ CtxsP (fun k => w.heap.size ≤ k) q e (withP kd nm v l).1 w') ∧ Below w.heap.size w w' := by
  have hAk : CtxsP (fun b => b < w.heap.size) p c l w := hA.mono fun b hb _ => hb
  have hVk : ListP (fun b => b < w.heap.size) a d v.list w := hV.mono fun b hb _ => hb
  have hb0 := (((Below.refl w.heap.size w).alloc (Nat.le_refl _) (.cells #[.slice p (l.length : Nat) c] 25)).alloc (by simp) (.cells #[.int .i64 v.kind, .int .i64 v.num, .string v.text, .slice a (v.list.length : Nat) d] 41)).alloc (by simp; omega) (.cells #[.slice none 0 0] 25)
  have hs0 : (((w.alloc (.cells #[.slice p (l.length : Nat) c] 25)).alloc (.cells #[.int .i64 v.kind, .int .i64 v.num, .string v.text, .slice a (v.list.length : Nat) d] 41)).alloc (.cells #[.slice none 0 0] 25)).heap.size = w.heap.size + 3 := by simp
  have zA : (((w.alloc (.cells #[.slice p (l.length : Nat) c] 25)).alloc (.cells #[.int .i64 v.kind, .int .i64 v.num, .string v.text, .slice a (v.list.length : Nat) d] 41)).alloc (.cells #[.slice none 0 0] 25)).heap[w.heap.size]? = some (.cells #[.slice p (l.length : Nat) c] 25 (0, 0)) := (Lib.alloc_old _ _ _ (by simp; omega)).trans ((Lib.alloc_old _ _ _ (by simp)).trans (heap_alloc_new w _))
  have zB : (((w.alloc (.cells #[.slice p (l.length : Nat) c] 25)).alloc (.cells #[.int .i64 v.kind, .int .i64 v.num, .string v.text, .slice a (v.list.length : Nat) d] 41)).alloc (.cells #[.slice none 0 0] 25)).heap[w.heap.size + 1]? = some (.cells #[.int .i64 v.kind, .int .i64 v.num, .string v.text, .slice a (v.list.length : Nat) d] 41 (0, 0)) := (Lib.alloc_old _ _ _ (by simp)).trans (by have := heap_alloc_new (w.alloc (.cells #[.slice p (l.length : Nat) c] 25)) (.cells #[.int .i64 v.kind, .int .i64 v.num, .string v.text, .slice a (v.list.length : Nat) d] 41); simpa using this)
  have zR : (((w.alloc (.cells #[.slice p (l.length : Nat) c] 25)).alloc (.cells #[.int .i64 v.kind, .int .i64 v.num, .string v.text, .slice a (v.list.length : Nat) d] 41)).alloc (.cells #[.slice none 0 0] 25)).heap[w.heap.size + 2]? = some (.cells #[.slice none 0 0] 25 (0, 0)) := by have := heap_alloc_new ((w.alloc (.cells #[.slice p (l.length : Nat) c] 25)).alloc (.cells #[.int .i64 v.kind, .int .i64 v.num, .string v.text, .slice a (v.list.length : Nat) d] 41)) (.cells #[.slice none 0 0] 25); simpa using this
  obtain ⟨dd, hdr⟩ : ∃ dd, withP kd nm v l = dd := ⟨_, rfl⟩
  rw [hdr]
  replace hdr := Lib.hid hdr
  unfold Val.agg
  go_enter Tryz.func17, Tryz.ntmps17
  go_upto_region 1 with (fail)
  generalize (((w.alloc (.cells #[.slice p (l.length : Nat) c] 25)).alloc (.cells #[.int .i64 v.kind, .int .i64 v.num, .string v.text, .slice a (v.list.length : Nat) d] 41)).alloc (.cells #[.slice none 0 0] 25)) = w0 at hb0 hs0 zA zB zR ⊢
  have hA0 := hAk.same (SameB.of_below hb0)
  have hV0 := hVk.same (SameB.of_below hb0)
  have hE0 := E.below hb0
  have cA : ∀ W, Below w0.heap.size w0 W → W.cell? ⟨w.heap.size, 0, none⟩ = some (.slice p l.length c) := fun W h => by rw [Lib.cell_of_heap ((h.block _ (by omega)).trans zA)]; rfl
  have cV : ∀ W, Below w0.heap.size w0 W → W.cell? ⟨w.heap.size + 1, 0, none⟩ = some (.int .i64 v.kind) ∧ W.cell? ⟨w.heap.size + 1, 1, none⟩ = some (.int .i64 v.num) ∧ W.cell? ⟨w.heap.size + 1, 2, none⟩ = some (.string v.text) ∧ W.cell? ⟨w.heap.size + 1, 3, none⟩ = some (.slice a v.list.length d) := fun W h => ⟨by rw [Lib.cell_of_heap ((h.block _ (by omega)).trans zB)]; rfl, by rw [Lib.cell_of_heap ((h.block _ (by omega)).trans zB)]; rfl, by rw [Lib.cell_of_heap ((h.block _ (by omega)).trans zB)]; rfl, by rw [Lib.cell_of_heap ((h.block _ (by omega)).trans zB)]; rfl⟩
  have hH : ∀ W, Below w0.heap.size w0 W → W.cell? ⟨w.heap.size + 2, 0, none⟩ = some (.slice none 0 0) ∧ (∀ i, W.frozen? ⟨w.heap.size + 2, i, none⟩ = false) := fun W h => ⟨by rw [Lib.cell_of_heap ((h.block _ (by omega)).trans zR)]; rfl, Lib.frozen_of_heap ((h.block _ (by omega)).trans zR)⟩
  have hfin : ∀ (u : Value) w5, Below w0.heap.size w0 w5 → (w5.setCell ⟨w.heap.size + 2, 0, none⟩ u).cell? ⟨w.heap.size + 2, 0, none⟩ = some u ∧ Below w.heap.size w (w5.setCell ⟨w.heap.size + 2, 0, none⟩ u) := fun u w5 hb5 => by
    have z5 := (hb5.block (w.heap.size + 2) (by omega)).trans zR
    refine ⟨?_, (hb0.trans (hb5.mono (by omega))).setCell (p := ⟨w.heap.size + 2, 0, none⟩) (by show w.heap.size ≤ w.heap.size + 2; omega) u⟩
    rw [Lib.cell_of_heap (box_put z5 (i := 0) u)]
    rfl
  have hCa := check_subject p c l w0 hE0 hA0 hF (by omega)
  have hCI := fun W (h : Below w0.heap.size w0 W) => contextIndex_any p c l kd W (hA0.same (SameB.of_below h)) (by omega)
  have hIN := fun W (h : Below w0.heap.size w0 W) => isName_any nm W (by omega) (hE0.below h)
  have hCV := fun W (h : Below w0.heap.size w0 W) => check_any v a d W hvt (by omega) (fun s hs => by have := hve s hs; omega) (hE0.below h).tabs (hV0.same (SameB.of_below h)).texts.are
  unfold Val.agg at hCV
  have cA0 := cA w0 (Below.refl _ _)
  replace cA := Lib.hid cA
  replace cV := Lib.hid cV
  replace hH := Lib.hid hH
  replace hfin := Lib.hid hfin
  replace hCI := Lib.hid hCI
  replace hIN := Lib.hid hIN
  replace hCV := Lib.hid hCV
  replace hCa := Lib.hid hCa
  clear zA zB zR hA hV hAk hVk E
  by_cases ea : subjE l = 0
  · have hCa' := hCa.out
    rw [ea] at hCa'
    replace hCa' := Lib.hid hCa'
    clear hCa
    go_upto_region 4 with (go_at_call 29; refine hCa'.out.mono ?_; rintro e w1 ⟨rfl, hb1⟩; have aw1 := cA.out w1 hb1)
    have hCI1 := hCI.out w1 hb1
    clear hCI hCa' cA0
    cases hk : findK kd l with
    | none =>
      obtain rfl := hdr.out.symm.trans (withE_none ea hk)
      rw [hk] at hCI1
      have hCI2 : Calls Tryz.prog 34 #[.agg #[.slice p (l.length : Nat) c], .string kd] w1 fun e w' => e = .returned (.int .i64 (-1)) ∧ Below w1.heap.size w1 w' := hCI1
      replace hCI2 := Lib.hid hCI2
      clear hCI1 hdr hk
      go_upto_region 6 with (go_at_call 34; refine hCI2.out.mono ?_; rintro e w2 ⟨rfl, hb2'⟩)
      have hb2 := hb1.trans (hb2'.mono hb1.size)
      obtain ⟨r2, f2⟩ := hH.out w2 hb2
      clear aw1
      go_wp2
      obtain ⟨s6, hb6⟩ := hfin.out (.slice none 0 0) w2 hb2
      generalize World.setCell _ _ _ = w6 at s6 hb6 ⊢
      refine bodyPost_ret (v := .tuple #[.agg #[.slice none 0 0], .int .i64 (11)]) (by simp [results, Tryz.results17, go_sem, s6]) rfl ⟨⟨none, 0, rfl, ⟨fun _ => rfl, Nat.zero_le _, fun i hi => by simp at hi⟩⟩, hb6⟩
    | some i =>
      have hil := findK_lt hk
      rw [hk] at hCI1
      have hCI2 : Calls Tryz.prog 34 #[.agg #[.slice p (l.length : Nat) c], .string kd] w1 fun e w' => e = .returned (.int .i64 (i : Int)) ∧ Below w1.heap.size w1 w' := hCI1
      replace hCI2 := Lib.hid hCI2
      have hiI : ¬ ((i : Int) < 0) := by omega
      have hiI0 : (0 : Int) ≤ (i : Int) := by omega
      have hiI1 : (i : Int) < (l.length : Int) := by omega
      clear hCI1
      go_upto_region 7 with (go_at_call 34; refine hCI2.out.mono ?_; rintro e w2 ⟨rfl, hb2'⟩)
      have hb2 := hb1.trans (hb2'.mono hb1.size)
      have hIN2 := hIN.out w2 hb2
      clear aw1 hCI2 hIN
      cases hn : nameB nm with
      | false =>
        obtain rfl := hdr.out.symm.trans (withE_name ea hk hn)
        rw [hn] at hIN2
        replace hIN2 := Lib.hid hIN2
        clear hdr hk
        go_upto_region 8 with (go_at_call 42; refine hIN2.out.mono ?_; rintro e w3 ⟨rfl, hb3'⟩)
        have hb3 := hb2.trans (hb3'.mono hb2.size)
        obtain ⟨r3, f3⟩ := hH.out w3 hb3
        go_wp2
        obtain ⟨s6, hb6⟩ := hfin.out (.slice none 0 0) w3 hb3
        generalize World.setCell _ _ _ = w6 at s6 hb6 ⊢
        refine bodyPost_ret (v := .tuple #[.agg #[.slice none 0 0], .int .i64 (6)]) (by simp [results, Tryz.results17, go_sem, s6]) rfl ⟨⟨none, 0, rfl, ⟨fun _ => rfl, Nat.zero_le _, fun i hi => by simp at hi⟩⟩, hb6⟩
      | true =>
        rw [hn] at hIN2
        replace hIN2 := Lib.hid hIN2
        go_upto_region 9 with (go_at_call 42; refine hIN2.out.mono ?_; rintro e w3 ⟨rfl, hb3'⟩)
        have hb3 := hb2.trans (hb3'.mono hb2.size)
        obtain ⟨v0, v1, v2, v3⟩ := cV.out w3 hb3
        have hCV3 := hCV.out w3 hb3
        clear hIN2 hCV
        by_cases ev : checkE v = 0
        · rw [ev] at hCV3
          replace hCV3 := Lib.hid hCV3
          go_upto_region 12 with (go_at_call 43; refine hCV3.out.mono ?_; rintro e w4 ⟨rfl, hb4'⟩)
          have hb4 := hb3.trans (hb4'.mono hb3.size)
          clear v0 v1 v2 v3 hCV3
          have hA4 := hA0.same (SameB.of_below hb4)
          have hti := (valid_tiny ea).2 l[i] (List.getElem_mem hil)
          have hasc := valid_ascA ea l[i] (List.getElem_mem hil)
          obtain ⟨bk, off, rfl, hPb, hbl, hat⟩ := hA4.at_ i hil
          have aw4 := cA.out w4 hb4
          obtain ⟨d0, d1, pq, cq, d2, hq⟩ := hat
          have hmany := fun h => hdr.out.symm.trans (withE_many ea hk hil hn ev h)
          have hgood := fun h => hdr.out.symm.trans (withE_good ea hk hil hn ev h)
          obtain ⟨x, hx⟩ : ∃ x, l[i] = x := ⟨_, rfl⟩
          rw [hx] at d0 d1 d2 hq hti hasc hmany hgood
          obtain ⟨L5, hL5⟩ : ∃ L5, putA ⟨nm, v⟩ x.attrs = L5 := ⟨_, rfl⟩
          have hputC : putC ⟨nm, v⟩ x = ⟨x.kind, x.key, L5⟩ := by rw [← hL5]; rfl
          obtain ⟨L7, hL7⟩ : ∃ L7, l.take i ++ ([putC ⟨nm, v⟩ x] ++ l.drop (i + 1)) = L7 := ⟨_, rfl⟩
          rw [hL5] at hmany hgood
          rw [hL7] at hgood
          rw [hputC] at hL7
          have htiny := fun hm => by
            have h9 := with_tiny kd nm v l
            rw [hdr.out, hgood hm] at h9
            exact h9
          replace hmany := Lib.hid hmany
          replace hgood := Lib.hid hgood
          replace htiny := Lib.hid htiny
          replace hL7 := Lib.hid hL7
          replace hx := Lib.hid hx
          clear hdr hk hn hF hputC
          have hXB := (Below.refl w4.heap.size w4).alloc (Nat.le_refl _) (.cells #[.string x.kind, .string x.key, .slice pq (x.attrs.length : Nat) cq] 63)
          have zX := heap_alloc_new w4 (.cells #[.string x.kind, .string x.key, .slice pq (x.attrs.length : Nat) cq] 63)
          have hXs : w4.heap.size < (w4.alloc (.cells #[.string x.kind, .string x.key, .slice pq (x.attrs.length : Nat) cq] 63)).heap.size := by simp
          go_upto_region 13 with (fail)
          generalize w4.alloc (.cells #[.string x.kind, .string x.key, .slice pq (x.attrs.length : Nat) cq] 63) = wX at hXB zX hXs ⊢
          have hw04 := hb4.size
          have hbX := hb4.trans (hXB.mono hw04)
          have hqX := hq.same (SameB.of_below hXB)
          have hpt := put_any (P := fun b => b < w.heap.size) pq cq x.attrs ⟨⟨nm, v⟩, a, d⟩ wX hqX (hV0.same (SameB.of_below hbX)) (fun b hb => by omega) hasc (by have := hti.attrs; omega)
          rw [hL5] at hpt
          replace hpt := Lib.hid hpt
          obtain ⟨v0, v1, v2, v3⟩ := cV.out wX hbX
          obtain ⟨X, hX⟩ : ∃ X, w4.heap.size = X := ⟨_, rfl⟩
          rw [hX] at zX hXs hw04 ⊢
          have x2 : wX.cell? ⟨X, 2, none⟩ = some (.slice pq x.attrs.length cq) := by rw [Lib.cell_of_heap zX]; rfl
          clear d0 d1 d2 hq hqX aw4 hXB
          go_upto_region 14 with (go_at_call 44; refine hpt.out.mono ?_; rintro e w5 ⟨⟨v5, es5, rfl, hrow5, hmap5⟩, hb5'⟩; obtain ⟨q5, d5, rfl, hq5⟩ := hrow5.attrsB hmap5; have z5 := (hb5'.block X hXs).trans zX; have y2 : w5.cell? ⟨X, 2, none⟩ = some (.slice pq x.attrs.length cq) := (by rw [Lib.cell_of_heap z5]; rfl); have yf : ∀ i, w5.frozen? ⟨X, i, none⟩ = false := Lib.frozen_of_heap z5)
          have hb5 := hbX.trans (hb5'.mono hbX.size)
          have hXw5 : wX.heap.size ≤ w5.heap.size := hb5'.size
          have z6 : (w5.setCell ⟨X, 2, none⟩ (.slice q5 (L5.length : Nat) d5)).heap[X]? = some (.cells #[.string x.kind, .string x.key, .slice q5 (L5.length : Nat) d5] 63 (0, 0)) := box_put z5 _
          have hb6 := hb5.setCell (p := ⟨X, 2, none⟩) (by show w0.heap.size ≤ X; omega) (.slice q5 (L5.length : Nat) d5)
          have hq6 : AttrsP (fun b => b < w.heap.size ∨ wX.heap.size ≤ b) q5 d5 L5 (w5.setCell ⟨X, 2, none⟩ (.slice q5 (L5.length : Nat) d5)) := hq5.same ((SameB.refl _ w5).set (B := X) (by omega) 2 (.slice q5 (L5.length : Nat) d5))
          clear hpt hrow5 hmap5 hq5 z5 y2 yf hb5' v0 v1 v2 v3 x2 zX
          generalize w5.setCell ⟨X, 2, none⟩ (.slice q5 (L5.length : Nat) d5) = w6 at z6 hb6 hq6 ⊢
          have x0 : w6.cell? ⟨X, 0, none⟩ = some (.string x.kind) := by rw [Lib.cell_of_heap z6]; rfl
          have x1 : w6.cell? ⟨X, 1, none⟩ = some (.string x.key) := by rw [Lib.cell_of_heap z6]; rfl
          have x2 : w6.cell? ⟨X, 2, none⟩ = some (.slice q5 L5.length d5) := by rw [Lib.cell_of_heap z6]; rfl
          have aw6 := cA.out w6 hb6
          by_cases hm : 20 < L5.length
          · have hmI : (20 : Int) < (L5.length : Int) := by omega
            obtain rfl := hmany.out hm
            obtain ⟨r6, f6⟩ := hH.out w6 hb6
            clear hmany hgood htiny aw6
            go_wp2
            obtain ⟨s6, hb6⟩ := hfin.out (.slice none 0 0) w6 hb6
            generalize World.setCell _ _ _ = w6 at s6 hb6 ⊢
            refine bodyPost_ret (v := .tuple #[.agg #[.slice none 0 0], .int .i64 (5)]) (by simp [results, Tryz.results17, go_sem, s6]) rfl ⟨⟨none, 0, rfl, ⟨fun _ => rfl, Nat.zero_le _, fun i hi => by simp at hi⟩⟩, hb6⟩
          · have hmI : ¬ ((20 : Int) < (L5.length : Int)) := by omega
            obtain rfl := hgood.out hm
            obtain ⟨ht4, htL⟩ := htiny.out hm
            try simp only at ht4 htL
            have hl4 := (valid_tiny ea).1
            obtain ⟨fs, hfs, hels⟩ := ((hA0.same (SameB.of_below hb6)).mono (Q := fun b => b < w6.heap.size) fun b hb _ => hb).els
            have hfl : fs.length = l.length := by rw [← hfs, List.length_map]
            have hrp := replaceC_any (some ⟨bk, off, none⟩) c fs i (i + 1) l.length ⟨⟨x.kind, x.key, L5⟩, q5, d5⟩ w6 hels (hq6.mono fun b hb _ => hb) (fun b hb => hb) hfl (by omega) (by omega) (by omega)
            have hmap7 : (fs.take i ++ ([(⟨⟨x.kind, x.key, L5⟩, q5, d5⟩ : CEl)] ++ fs.drop (i + 1))).map CEl.x = L7 := by
              rw [← hL7.out, ← hfs]
              simp [List.map_take, List.map_drop]
            simp only [Int.natCast_add, Int.natCast_one] at hrp
            replace hrp := Lib.hid hrp
            replace hmap7 := Lib.hid hmap7
            replace htL := Lib.hid htL
            clear hmany hgood htiny hfs hels hq6 hL7
            go_wp2_with (first | (go_at_call 45; refine hrp.out.mono ?_; rintro e w7 ⟨⟨v7, rfl, hrow7⟩, hb7'⟩; obtain ⟨q7, d7, rfl, hq7⟩ := hrow7.ctxsB hmap7.out; have hcp := Lib.hid (copySubject_any q7 d7 L7 w7 hq7 (by omega) (fun y hy => ⟨by have := (htL.out y hy).attrs; omega, fun b hb => by have := ((htL.out y hy).each b hb).list; omega⟩))) | (go_at_call 35; refine hcp.out.mono ?_; rintro e w8 ⟨⟨q8, rfl, hq8, -⟩, hb8'⟩; have hb7 := hb6.trans (hb7'.mono hb6.size); have hb8 := hb7.trans (hb8'.mono hb7.size); obtain ⟨r8, f8⟩ := hH.out w8 hb8))
            obtain ⟨s9, hb9⟩ := hfin.out (.slice q8 (L7.length : Nat) L7.length) w8 hb8
            have hq9 : CtxsP (fun k => w7.heap.size ≤ k) q8 L7.length L7 _ := CtxsP.same hq8 ((SameB.refl _ w8).set (B := w.heap.size + 2) (by have := hb7.size; omega) 0 (.slice q8 (L7.length : Nat) L7.length))
            generalize World.setCell _ _ _ = w9 at s9 hb9 hq9 ⊢
            refine bodyPost_ret (v := .tuple #[.agg #[.slice q8 (L7.length : Nat) L7.length], .int .i64 0]) (by simp [results, Tryz.results17, go_sem, s9]) rfl ⟨⟨q8, L7.length, rfl, hq9.mono fun k _ hk => by have := hb7.size; omega⟩, hb9⟩
        · obtain ⟨ce, hce⟩ : ∃ ce, checkE v = ce := ⟨_, rfl⟩
          obtain rfl := hdr.out.symm.trans (withE_val ea hk hn hce (by rw [← hce]; exact ev))
          rw [hce] at ev hCV3
          have hev : (ce == 0) = false := by simp [ev]
          replace hCV3 := Lib.hid hCV3
          clear hdr hk hce
          go_upto_region 11 with (go_at_call 43; refine hCV3.out.mono ?_; rintro e w4 ⟨rfl, hb4'⟩)
          have hb4 := hb3.trans (hb4'.mono hb3.size)
          obtain ⟨r4, f4⟩ := hH.out w4 hb4
          clear v0 v1 v2 v3
          go_wp2
          obtain ⟨s6, hb6⟩ := hfin.out (.slice none 0 0) w4 hb4
          generalize World.setCell _ _ _ = w6 at s6 hb6 ⊢
          refine bodyPost_ret (v := .tuple #[.agg #[.slice none 0 0], .int .i64 (ce)]) (by simp [results, Tryz.results17, go_sem, s6]) rfl ⟨⟨none, 0, rfl, ⟨fun _ => rfl, Nat.zero_le _, fun i hi => by simp at hi⟩⟩, hb6⟩
  · obtain ⟨ce, hce⟩ : ∃ ce, subjE l = ce := ⟨_, rfl⟩
    obtain rfl := hdr.out.symm.trans (withE_bad hce (by rw [← hce]; exact ea))
    have hCa' := hCa.out
    rw [hce] at ea hCa'
    have hea : (ce == 0) = false := by simp [ea]
    replace hCa' := Lib.hid hCa'
    clear hdr hce hCa
    go_wp2_with (go_at_call 29; refine hCa'.out.mono ?_; rintro e w1 ⟨rfl, hb1⟩; obtain ⟨r1, f1⟩ := hH.out w1 hb1)
    obtain ⟨s6, hb6⟩ := hfin.out (.slice none 0 0) w1 hb1
    generalize World.setCell _ _ _ = w6 at s6 hb6 ⊢
    refine bodyPost_ret (v := .tuple #[.agg #[.slice none 0 0], .int .i64 (ce)]) (by simp [results, Tryz.results17, go_sem, s6]) rfl ⟨⟨none, 0, rfl, ⟨fun _ => rfl, Nat.zero_le _, fun i hi => by simp at hi⟩⟩, hb6⟩
end Go.Proofs.YtcbnefeedoabeaaGreatDoor
