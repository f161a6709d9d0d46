
/- Plain mathematics of layer frame: what Unwrap and All answer, in terms of lists of bytes. No condition. Plain mathematics of layer wal: formed records, their bytes, what bytes are read as, what a disk's bytes tell. No condition. Contract of bytes.Equal. No condition. -/
import Derived.Test.YtcfmifongbapkaaGreatDoorQA
import Derived.Test.YtcfmifongbapkaaGreatDoorQM
import Derived.Test.YtcfmifongbapkaaGreatDoorQG
import Derived.Test.YtcfmifongbapkaaGreatDoorQH
/- FrameUw -/
namespace Go.Proofs.YtcfmifongbapkaaGreatDoor

/-- The length that a head tells; the sum that it tells; the body that it names. -/
def lenB (L : List UInt8) : Nat := numB (L.take 4)
def sumOf (L : List UInt8) : Nat := numB ((L.drop 4).take 4)
def bodyB (L : List UInt8) : List UInt8 := (L.drop 8).take (lenB L)
theorem lenB_lt (L : List UInt8) : lenB L < 4294967296 := by
  have h := numB_lt (L.take 4)
  have h2 : 256 ^ (L.take 4).length ≤ 256 ^ 4 := Nat.pow_le_pow_right (by omega) (by simp; omega)
  unfold lenB; omega
theorem sumOf_lt (L : List UInt8) : sumOf L < 4294967296 := by
  have h := numB_lt ((L.drop 4).take 4)
  have h2 : 256 ^ ((L.drop 4).take 4).length ≤ 256 ^ 4 := Nat.pow_le_pow_right (by omega) (by simp; omega)
  unfold sumOf; omega
/-- What Unwrap says: 0 is OK. -/
def uwErr (L : List UInt8) : Nat := if L.length < 8 then 4 else if 60000 < lenB L then 3 else if L.length - 8 < lenB L then 4 else if sumB (bodyB L) = sumOf L then 0 else 5
theorem uwErr_short {L : List UInt8} (h : L.length < 8) : uwErr L = 4 := by unfold uwErr; rw [if_pos h]
theorem uwErr_long {L : List UInt8} (h : 8 ≤ L.length) (h1 : 60000 < lenB L) : uwErr L = 3 := by unfold uwErr; rw [if_neg (by omega), if_pos h1]
theorem uwErr_cut {L : List UInt8} (h : 8 ≤ L.length) (h1 : lenB L ≤ 60000) (h2 : L.length - 8 < lenB L) : uwErr L = 4 := by unfold uwErr; rw [if_neg (by omega), if_neg (by omega), if_pos h2]
theorem uwErr_sum {L : List UInt8} (h : 8 ≤ L.length) (h1 : lenB L ≤ 60000) (h2 : lenB L ≤ L.length - 8) (h3 : sumB (bodyB L) ≠ sumOf L) : uwErr L = 5 := by unfold uwErr; rw [if_neg (by omega), if_neg (by omega), if_neg (by omega), if_neg h3]
theorem uwErr_ok {L : List UInt8} (h : 8 ≤ L.length) (h1 : lenB L ≤ 60000) (h2 : lenB L ≤ L.length - 8) (h3 : sumB (bodyB L) = sumOf L) : uwErr L = 0 := by unfold uwErr; rw [if_neg (by omega), if_neg (by omega), if_neg (by omega), if_pos h3]
theorem uwErr_zero {L : List UInt8} (h : uwErr L = 0) : 8 ≤ L.length ∧ lenB L ≤ 60000 ∧ lenB L ≤ L.length - 8 ∧ sumB (bodyB L) = sumOf L := by
  unfold uwErr at h
  split at h
  · cases h
  · split at h
    · cases h
    · split at h
      · cases h
      · split at h
        · exact ⟨by omega, by omega, by omega, by assumption⟩
        · cases h
theorem uwErr_lt (L : List UInt8) : uwErr L < 6 := by
  unfold uwErr; split; · omega
  split; · omega
  split; · omega
  split <;> omega
theorem bodyB_len {L : List UInt8} (h : uwErr L = 0) : (bodyB L).length = lenB L := by
  obtain ⟨h1, h2, h3, _⟩ := uwErr_zero h
  simp [bodyB]; omega

/-- The bodies of the frames that stand there, and how many bytes these have: over at most k frames. -/
def allK : Nat → List UInt8 → List (List UInt8)
  | 0, _ => []
  | k + 1, L => if uwErr L = 0 then bodyB L :: allK k (L.drop (8 + lenB L)) else []
def usedK : Nat → List UInt8 → Nat
  | 0, _ => 0
  | k + 1, L => if uwErr L = 0 then 8 + lenB L + usedK k (L.drop (8 + lenB L)) else 0
def allB (L : List UInt8) : List (List UInt8) := allK L.length L
def usedB (L : List UInt8) : Nat := usedK L.length L
theorem fuel (k : Nat) : ∀ (j : Nat) (L : List UInt8), L.length ≤ k → L.length ≤ j → allK k L = allK j L ∧ usedK k L = usedK j L := by
  induction k with
  | zero =>
    intro j L h _
    have e : uwErr L ≠ 0 := by rw [uwErr_short (by omega)]; omega
    cases j with
    | zero => exact ⟨rfl, rfl⟩
    | succ j => rw [allK, usedK, allK, usedK, if_neg e, if_neg e]; exact ⟨rfl, rfl⟩
  | succ k ih =>
    intro j L h hj
    cases j with
    | zero =>
      have e : uwErr L ≠ 0 := by rw [uwErr_short (by omega)]; omega
      rw [allK, usedK, allK, usedK, if_neg e, if_neg e]; exact ⟨rfl, rfl⟩
    | succ j =>
      by_cases e : uwErr L = 0
      · have := ih j (L.drop (8 + lenB L)) (by simp; omega) (by simp; omega)
        rw [allK, usedK, allK, usedK, if_pos e, if_pos e, if_pos e, if_pos e, this.1, this.2]; exact ⟨rfl, rfl⟩
      · rw [allK, usedK, allK, usedK, if_neg e, if_neg e, if_neg e, if_neg e]; exact ⟨rfl, rfl⟩
theorem all_no {L : List UInt8} (h : uwErr L ≠ 0) : allB L = [] ∧ usedB L = 0 := by
  unfold allB usedB
  cases hl : L.length with
  | zero => exact ⟨rfl, rfl⟩
  | succ k => rw [allK, usedK, if_neg h, if_neg h]; exact ⟨rfl, rfl⟩
theorem all_yes {L : List UInt8} (h : uwErr L = 0) : allB L = bodyB L :: allB (L.drop (8 + lenB L)) ∧ usedB L = 8 + lenB L + usedB (L.drop (8 + lenB L)) := by
  obtain ⟨h8, _⟩ := uwErr_zero h
  unfold allB usedB
  obtain ⟨k, hk⟩ : ∃ k, L.length = k + 1 := ⟨L.length - 1, by omega⟩
  have := fuel k (L.drop (8 + lenB L)).length (L.drop (8 + lenB L)) (by simp; omega) (Nat.le_refl _)
  rw [hk, allK, usedK, if_pos h, if_pos h, this.1, this.2]; exact ⟨rfl, rfl⟩
theorem used_le (L : List UInt8) : usedB L ≤ L.length := by
  suffices h : ∀ k (L : List UInt8), L.length ≤ k → usedB L ≤ L.length from h _ L (Nat.le_refl _)
  intro k
  induction k with
  | zero => intro L h; rw [(all_no (by rw [uwErr_short (by omega)]; omega)).2]; omega
  | succ k ih =>
    intro L h
    by_cases e : uwErr L = 0
    · obtain ⟨h8, _, h3, _⟩ := uwErr_zero e
      have := ih (L.drop (8 + lenB L)) (by simp; omega)
      rw [(all_yes e).2]
      simp at this; omega
    · rw [(all_no e).2]; omega
/-- A body's frame. -/
def frameB (l : List UInt8) : List UInt8 := putB l.length 4 ++ putB (sumB l) 4 ++ l
theorem frameB_len (l : List UInt8) : (frameB l).length = 8 + l.length := by simp [frameB, putB_len]; omega
theorem frame_back (l r : List UInt8) (h : l.length ≤ 60000) :
    lenB (frameB l ++ r) = l.length ∧ bodyB (frameB l ++ r) = l ∧ uwErr (frameB l ++ r) = 0 ∧ (frameB l ++ r).drop (8 + l.length) = r := by
  have p1 := putB_len l.length 4
  have p2 := putB_len (sumB l) 4
  have hs := sumB_lt l
  have e : frameB l ++ r = putB l.length 4 ++ (putB (sumB l) 4 ++ (l ++ r)) := by simp [frameB]
  have e1 : lenB (frameB l ++ r) = l.length := by
    unfold lenB
    rw [e, take_app _ _ 4 p1, numB_put]; exact Nat.mod_eq_of_lt (by omega)
  have e2 : sumOf (frameB l ++ r) = sumB l := by
    unfold sumOf
    rw [e, drop_app _ _ 4 p1, take_app _ _ 4 p2, numB_put]; exact Nat.mod_eq_of_lt (by omega)
  have e3 : (frameB l ++ r).drop 8 = l ++ r := by
    have : frameB l ++ r = (putB l.length 4 ++ putB (sumB l) 4) ++ (l ++ r) := by simp [frameB]
    rw [this, drop_app _ _ 8 (by rw [List.length_append, p1, p2])]
  have e4 : bodyB (frameB l ++ r) = l := by
    unfold bodyB
    rw [e3, e1, take_app _ _ _ rfl]
  have e5 : (frameB l ++ r).length = 8 + l.length + r.length := by rw [List.length_append, frameB_len]
  refine ⟨e1, e4, uwErr_ok (by omega) (by omega) (by omega) (by rw [e4, e2]), ?_⟩
  rw [drop_app _ _ _ (frameB_len l)]
/-- Frames one behind the other. -/
def catB : List (List UInt8) → List UInt8
  | [] => []
  | l :: r => frameB l ++ catB r
theorem cut_err (l R : List UInt8) (k : Nat) (hl : l.length ≤ 60000) (hk : k < 8 + l.length) : uwErr ((frameB l ++ R).take k) ≠ 0 := by
  have hF := frameB_len l
  have hlen : ((frameB l ++ R).take k).length = k := by simp; omega
  by_cases h8 : k < 8
  · rw [uwErr_short (by omega)]; omega
  · have e1 : lenB ((frameB l ++ R).take k) = l.length := by
      rw [← (frame_back l R hl).1]
      unfold lenB
      rw [List.take_take, Nat.min_eq_left (by omega)]
    rw [uwErr_cut (by omega) (by omega) (by omega)]; omega
/-- Of frames, cut off anywhere, those are found that stand there whole. -/
theorem cuts (ls : List (List UInt8)) (h : ∀ l ∈ ls, l.length ≤ 60000) (n k : Nat) (hn : n ≤ ls.length) (h1 : (catB (ls.take n)).length ≤ k) (h2 : n = ls.length ∨ k < (catB (ls.take (n + 1))).length) :
    allB ((catB ls).take k) = ls.take n ∧ usedB ((catB ls).take k) = (catB (ls.take n)).length := by
  induction ls generalizing n k with
  | nil =>
    have : uwErr ((catB []).take k) ≠ 0 := by rw [uwErr_short (by simp [catB])]; omega
    obtain ⟨a1, a2⟩ := all_no this
    rw [a1, a2]; simp [catB]
  | cons l r ih =>
    have hl := h l (by simp)
    have hF := frameB_len l
    cases n with
    | zero =>
      have hk : k < 8 + l.length := by
        rcases h2 with h2 | h2
        · simp at h2
        · simpa [catB, hF] using h2
      obtain ⟨a1, a2⟩ := all_no (cut_err l (catB r) k hl hk)
      rw [catB, a1, a2]; simp [catB]
    | succ n =>
      rw [List.take_succ_cons, catB, List.length_append, hF] at h1
      obtain ⟨j, rfl⟩ : ∃ j, k = (8 + l.length) + j := ⟨k - (8 + l.length), by omega⟩
      have hi := ih (fun x hx => h x (by simp [hx])) n j (by simp at hn; omega) (by omega) (by
        rcases h2 with h2 | h2
        · left; simp at h2; omega
        · right; rw [List.take_succ_cons, catB, List.length_append, hF] at h2; omega)
      have e : (catB (l :: r)).take ((8 + l.length) + j) = frameB l ++ (catB r).take j := by
        rw [catB, ← hF, List.take_length_add_append]
      obtain ⟨f1, f2, f3, f4⟩ := frame_back l ((catB r).take j) hl
      obtain ⟨y1, y2⟩ := all_yes f3
      rw [f1, f4] at y1 y2
      rw [e, y1, y2, f2, hi.1, hi.2, List.take_succ_cons, catB, List.length_append, hF]
      exact ⟨rfl, rfl⟩
end Go.Proofs.YtcfmifongbapkaaGreatDoor

/- WalMath -/
namespace Go.Proofs.YtcfmifongbapkaaGreatDoor

set_option linter.unusedVariables false
set_option linter.unusedSimpArgs false

/-- A record: its kind, ballot, slot, command, data. -/
structure Rc where
  k : Int
  ba : Bal
  sl : Int
  cm : Cm
  da : List UInt8
def slotP (n : Int) : Prop := 0 ≤ n ∧ n ≤ 1000000
def FormR (x : Rc) : Prop :=
  (x.k = 1 ∧ formB x.ba.2 = true ∧ x.sl = 0 ∧ x.cm = zeroC ∧ x.da = []) ∨ (x.k = 2 ∧ formB x.ba.2 = true ∧ slotP x.sl ∧ formCm x.cm = true ∧ x.da = []) ∨
  (x.k = 3 ∧ x.ba = (0, 0) ∧ slotP x.sl ∧ formCm x.cm = true ∧ x.da = []) ∨ (x.k = 4 ∧ x.ba = (0, 0) ∧ slotP x.sl ∧ x.cm = zeroC ∧ x.da.length ≤ 59900)
noncomputable def formR (x : Rc) : Bool := @decide (FormR x) (Classical.propDecidable _)
theorem formR_iff (x : Rc) : formR x = true ↔ FormR x := ⟨@of_decide_eq_true _ (Classical.propDecidable _), @decide_eq_true _ (Classical.propDecidable _)⟩
def zeroRc : Rc := ⟨0, (0, 0), 0, zeroC, []⟩
/-- Its numbers are of a size that is. -/
def RcOk (x : Rc) : Prop := (0 ≤ x.ba.1 ∧ x.ba.1 < 4294967296) ∧ CmOk x.cm
noncomputable def rcB (x : Rc) : List UInt8 := putB x.k.toNat 1 ++ (if x.k = 1 then balBytes x.ba else if x.k = 2 then balBytes x.ba ++ (putB x.sl.toNat 4 ++ cmB x.cm) else if x.k = 3 then putB x.sl.toNat 4 ++ cmB x.cm else if x.k = 4 then putB x.sl.toNat 4 ++ dataB x.da else [])
/-- Data are read: their length is that of all that is left. -/
def dataR : Prs (List UInt8) := fun l => if 4 ≤ l.length ∧ numB (l.take 4) = l.length - 4 then some (l.drop 4, []) else none
noncomputable def rcTail (k : Nat) : Prs Rc :=
  if k = 1 then bindP balQ fun b => pureP ⟨1, b, 0, zeroC, []⟩
  else if k = 2 then bindP balQ fun b => bindP (numI 4) fun s => bindP cmF fun c => pureP ⟨2, b, s, c, []⟩
  else if k = 3 then bindP (numI 4) fun s => bindP cmF fun c => pureP ⟨3, (0, 0), s, c, []⟩
  else if k = 4 then bindP (numI 4) fun s => bindP dataR fun d => pureP ⟨4, (0, 0), s, zeroC, d⟩
  else pureP ⟨(k : Int), (0, 0), 0, zeroC, []⟩
noncomputable def rcP : Prs Rc := bindP (numP 1) rcTail
/-- What bytes are read as, all of them. -/
noncomputable def readR (l : List UInt8) : Option Rc := match rcP l with
  | some (x, []) => if formR x = true then some x else none
  | _ => none
theorem readR_some {l : List UInt8} {x : Rc} (h : rcP l = some (x, [])) (hf : formR x = true) : readR l = some x := by unfold readR; rw [h]; simp [hf]
theorem readR_inv {l : List UInt8} {x : Rc} (h : readR l = some x) : rcP l = some (x, []) ∧ formR x = true := by
  unfold readR at h
  split at h
  · rename_i y e
    split at h
    · rename_i hf
      injection h with h; subst h; exact ⟨e, hf⟩
    · cases h
  · cases h
theorem readR_none {l : List UInt8} (h : rcP l = none) : readR l = none := by unfold readR; rw [h]
theorem readR_more {l : List UInt8} {x : Rc} {r : List UInt8} (h : rcP l = some (x, r)) (hr : r ≠ []) : readR l = none := by
  unfold readR; rw [h]
  cases r with
  | nil => exact absurd rfl hr
  | cons a r => rfl
theorem readR_bad {l : List UInt8} {x : Rc} {r : List UInt8} (h : rcP l = some (x, r)) (hf : formR x = false) : readR l = none := by
  unfold readR; rw [h]
  cases r with
  | nil => simp [hf]
  | cons a r => rfl
theorem dataR_yes (d : List UInt8) (h : d.length < 256 ^ 4) : dataR (dataB d) = some (d, []) := by
  unfold dataR dataB
  rw [take_app _ _ 4 (putB_len _ _), drop_app _ _ 4 (putB_len _ _), numB_put, Nat.mod_eq_of_lt h, List.length_append, putB_len, if_pos ⟨by omega, by omega⟩]
theorem dataR_snd {l d r : List UInt8} (h : dataR l = some (d, r)) : l = dataB d ∧ r = [] := by
  unfold dataR at h
  split at h
  · rename_i hc
    injection h with h; injection h with h1 h2
    refine ⟨?_, h2.symm⟩
    subst h1
    unfold dataB
    have e : (l.take 4).length = 4 := by rw [List.length_take]; omega
    have e2 := put_num (l.take 4)
    rw [e] at e2
    rw [List.length_drop, ← hc.2, e2, List.take_append_drop]
  · cases h
/-- What is written is read. -/
theorem read_back (x : Rc) (hf : FormR x) (ho : RcOk x) : readR (rcB x) = some x := by
  obtain ⟨k, ba, sl, cm, da⟩ := x
  obtain ⟨⟨h1, h2⟩, h3⟩ := ho
  refine readR_some ?_ ((formR_iff _).2 hf)
  unfold FormR slotP at hf
  simp only at hf h1 h2 h3
  unfold rcP rcB
  rcases hf with ⟨rfl, f1, rfl, rfl, rfl⟩ | ⟨rfl, f1, ⟨f2, f3⟩, f4, rfl⟩ | ⟨rfl, rfl, ⟨f2, f3⟩, f4, rfl⟩ | ⟨rfl, rfl, ⟨f2, f3⟩, rfl, f5⟩
  · show bindP (numP 1) rcTail (putB 1 1 ++ balBytes ba) = _
    rw [bind_some (back_num 1 1 _ (by decide))]
    show (bindP balQ fun b => pureP (⟨1, b, 0, zeroC, []⟩ : Rc)) (balBytes ba) = _
    have h := back_bal ba [] f1 h1 h2
    rw [List.append_nil] at h
    rw [bind_some h]; rfl
  · show bindP (numP 1) rcTail (putB 2 1 ++ (balBytes ba ++ (putB sl.toNat 4 ++ cmB cm))) = _
    rw [bind_some (back_num 2 1 _ (by decide))]
    show (bindP balQ fun b => bindP (numI 4) fun s => bindP cmF fun c => pureP (⟨2, b, s, c, []⟩ : Rc)) (balBytes ba ++ (putB sl.toNat 4 ++ cmB cm)) = _
    have h := back_cm cm [] f4 h3
    rw [List.append_nil] at h
    rw [bind_some (back_bal ba _ f1 h1 h2), bind_some (back_numI sl 4 _ f2 (by omega)), bind_some h]; rfl
  · show bindP (numP 1) rcTail (putB 3 1 ++ (putB sl.toNat 4 ++ cmB cm)) = _
    rw [bind_some (back_num 3 1 _ (by decide))]
    show (bindP (numI 4) fun s => bindP cmF fun c => pureP (⟨3, (0, 0), s, c, []⟩ : Rc)) (putB sl.toNat 4 ++ cmB cm) = _
    have h := back_cm cm [] f4 h3
    rw [List.append_nil] at h
    rw [bind_some (back_numI sl 4 _ f2 (by omega)), bind_some h]; rfl
  · show bindP (numP 1) rcTail (putB 4 1 ++ (putB sl.toNat 4 ++ dataB da)) = _
    rw [bind_some (back_num 4 1 _ (by decide))]
    show (bindP (numI 4) fun s => bindP dataR fun d => pureP (⟨4, (0, 0), s, zeroC, d⟩ : Rc)) (putB sl.toNat 4 ++ dataB da) = _
    rw [bind_some (back_numI sl 4 _ f2 (by omega)), bind_some (dataR_yes da (by omega))]; rfl
/-- What is read was written. -/
theorem read_snd {l : List UInt8} {x : Rc} (h : readR l = some x) : l = rcB x ∧ FormR x := by
  obtain ⟨hp, hf⟩ := readR_inv h
  refine ⟨?_, (formR_iff _).1 hf⟩
  obtain ⟨k, m, e1, e2⟩ := bind_inv hp
  have hl := snd_num 1 _ _ _ e1
  subst hl
  unfold rcTail at e2
  unfold rcB
  split at e2
  · rename_i hk; subst hk
    obtain ⟨b, m2, e3, e4⟩ := bind_inv e2
    injection e4 with e4; injection e4 with e5 e6
    subst e5; subst e6
    rw [snd_bal _ _ _ e3, List.append_nil]; rfl
  · split at e2
    · rename_i hk; subst hk
      obtain ⟨b, m2, e3, e4⟩ := bind_inv e2
      obtain ⟨s, m3, e5, e6⟩ := bind_inv e4
      obtain ⟨c, m4, e7, e8⟩ := bind_inv e6
      injection e8 with e8; injection e8 with e9 e10
      subst e9; subst e10
      rw [snd_bal _ _ _ e3, snd_numI 4 _ _ _ e5, snd_cm _ _ _ e7, List.append_nil]; rfl
    · split at e2
      · rename_i hk; subst hk
        obtain ⟨s, m3, e5, e6⟩ := bind_inv e2
        obtain ⟨c, m4, e7, e8⟩ := bind_inv e6
        injection e8 with e8; injection e8 with e9 e10
        subst e9; subst e10
        rw [snd_numI 4 _ _ _ e5, snd_cm _ _ _ e7, List.append_nil]; rfl
      · split at e2
        · rename_i hk; subst hk
          obtain ⟨s, m3, e5, e6⟩ := bind_inv e2
          obtain ⟨d, m4, e7, e8⟩ := bind_inv e6
          injection e8 with e8; injection e8 with e9 e10
          subst e9; subst e10
          rw [snd_numI 4 _ _ _ e5, (dataR_snd e7).1]; rfl
        · injection e2 with e2; injection e2 with e3 e4
          subst e3
          have := (formR_iff _).1 hf
          unfold FormR at this
          simp only at this
          omega
/-- How long a formed record's bytes are. -/
theorem txnB_small (t : Tx Val) (h : formT formedB t = true) : (txnB bytesV t).length ≤ 1300 := by
  have hF := (formT_iff _ _).1 h
  have l1 := hF.rlen
  have l2 := hF.wlen
  have k1 : ∀ x ∈ t.rs, (readB x).length ≤ 100 := fun x hx => by
    have := key_len (List.all_eq_true.1 hF.rkeys x.1 (List.mem_map.2 ⟨x, hx, rfl⟩))
    unfold readB; rw [List.length_append, putB_len, textB_len]; omega
  have k2 : ∀ x ∈ t.ws, (writeB bytesV x).length ≤ 100 := fun x hx => by
    have h1 := key_len (List.all_eq_true.1 hF.wkeys x.1 (List.mem_map.2 ⟨x, hx, rfl⟩))
    have h2 := List.all_eq_true.1 hF.vals x hx
    have h3 : (bytesV x.2).length ≤ 50 := by
      unfold bytesV
      split
      · rw [List.length_cons, putB_len]; omega
      · split
        · rename_i n1 n2
          unfold formedB at h2
          rw [if_neg (by omega), if_neg n1] at h2
          simp only [Bool.and_eq_true, decide_eq_true_eq] at h2
          rw [List.length_cons, textB_len]; omega
        · simp
    unfold writeB; rw [List.length_append, textB_len]; omega
  have flat : ∀ {α : Type} (f : α → List UInt8) (xs : List α), (∀ x ∈ xs, (f x).length ≤ 100) → (xs.flatMap f).length ≤ xs.length * 100 := by
    intro α f xs
    induction xs with
    | nil => intro _; simp
    | cons x r ih => intro h; rw [List.flatMap_cons, List.length_append, List.length_cons, Nat.succ_mul]; have := h x (List.mem_cons_self ..); have := ih fun y hy => h y (List.mem_cons_of_mem _ hy); omega
  have h1 := flat readB t.rs k1
  have h2 := flat (writeB bytesV) t.ws k2
  unfold txnB
  rw [List.length_append, List.length_append, List.length_append, List.length_append, idBytes_len, putB_len, putB_len]
  omega
theorem cmB_small (c : Cm) (hf : formCm c = true) : (cmB c).length ≤ 1301 := by
  rcases form_kinds hf with e | ⟨h1, e⟩ | ⟨_, e⟩ | ⟨_, e⟩
  · rw [e]; decide
  · generalize c.t = t at *
    subst e
    show (putB 1 1 ++ txnB bytesV t).length ≤ _
    have := txnB_small t h1
    rw [List.length_append, putB_len]; omega
  · rw [e]; show (putB 2 1 ++ (idBytes c.id ++ (putB c.g.toNat 1 ++ putB c.st 8))).length ≤ _
    simp [idBytes_len, putB_len]
  · rw [e]; show (putB 3 1 ++ (idBytes c.id ++ (putB c.g.toNat 1 ++ putB (yesN c.y) 1))).length ≤ _
    simp [idBytes_len, putB_len]
theorem rcB_max {x : Rc} (hf : FormR x) : (rcB x).length ≤ 1400 + x.da.length ∧ (rcB x).length ≤ 60000 := by
  obtain ⟨k, ba, sl, cm, da⟩ := x
  unfold FormR at hf
  simp only at hf
  rcases hf with ⟨rfl, f1, rfl, rfl, rfl⟩ | ⟨rfl, f1, f2, f4, rfl⟩ | ⟨rfl, rfl, f2, f4, rfl⟩ | ⟨rfl, rfl, f2, rfl, f5⟩
  · show (putB 1 1 ++ balBytes ba).length ≤ _ ∧ (putB 1 1 ++ balBytes ba).length ≤ _
    rw [List.length_append, putB_len, balBytes_len]; simp
  · show (putB 2 1 ++ (balBytes ba ++ (putB sl.toNat 4 ++ cmB cm))).length ≤ _ ∧ (putB 2 1 ++ (balBytes ba ++ (putB sl.toNat 4 ++ cmB cm))).length ≤ _
    have := cmB_small cm f4
    rw [List.length_append, List.length_append, List.length_append, putB_len, balBytes_len, putB_len]; omega
  · show (putB 3 1 ++ (putB sl.toNat 4 ++ cmB cm)).length ≤ _ ∧ (putB 3 1 ++ (putB sl.toNat 4 ++ cmB cm)).length ≤ _
    have := cmB_small cm f4
    rw [List.length_append, List.length_append, putB_len, putB_len]; omega
  · show (putB 4 1 ++ (putB sl.toNat 4 ++ dataB da)).length ≤ _ ∧ (putB 4 1 ++ (putB sl.toNat 4 ++ dataB da)).length ≤ _
    unfold dataB
    rw [List.length_append, List.length_append, List.length_append, putB_len, putB_len, putB_len]
    simp only
    omega

/-- What bodies tell, one after the other, up to the first that is no record's; and how many bytes their frames have. -/
noncomputable def tells : List (List UInt8) → List Rc
  | [] => []
  | b :: r => match readR b with
    | some x => x :: tells r
    | none => []
noncomputable def tellsN : List (List UInt8) → Nat
  | [] => 0
  | b :: r => match readR b with
    | some _ => 8 + b.length + tellsN r
    | none => 0
noncomputable def tellB (L : List UInt8) : List Rc := tells (allB L)
noncomputable def tellN (L : List UInt8) : Nat := tellsN (allB L)
theorem tell_no {L : List UInt8} (h : uwErr L ≠ 0) : tellB L = [] ∧ tellN L = 0 := by unfold tellB tellN; rw [(all_no h).1]; exact ⟨rfl, rfl⟩
theorem tell_bad {L : List UInt8} (h : uwErr L = 0) (hr : readR (bodyB L) = none) : tellB L = [] ∧ tellN L = 0 := by
  unfold tellB tellN; rw [(all_yes h).1]
  unfold tells tellsN; rw [hr]; exact ⟨rfl, rfl⟩
theorem tell_yes {L : List UInt8} {x : Rc} (h : uwErr L = 0) (hr : readR (bodyB L) = some x) : tellB L = x :: tellB (L.drop (8 + lenB L)) ∧ tellN L = 8 + lenB L + tellN (L.drop (8 + lenB L)) := by
  have e1 : tells (bodyB L :: allB (L.drop (8 + lenB L))) = x :: tells (allB (L.drop (8 + lenB L))) := by rw [tells, hr]
  have e2 : tellsN (bodyB L :: allB (L.drop (8 + lenB L))) = 8 + (bodyB L).length + tellsN (allB (L.drop (8 + lenB L))) := by rw [tellsN, hr]
  unfold tellB tellN; rw [(all_yes h).1, e1, e2, bodyB_len h]; exact ⟨rfl, rfl⟩
/-- The frames of records, one behind the other. -/
noncomputable def catR (xs : List Rc) : List UInt8 := xs.flatMap fun x => frameB (rcB x)
/-- Formed records with numbers of a size that is. -/
def Good (xs : List Rc) : Prop := ∀ x ∈ xs, FormR x ∧ RcOk x
theorem tell_nil : tellB [] = [] ∧ tellN [] = 0 := tell_no (by decide)
end Go.Proofs.YtcfmifongbapkaaGreatDoor

/- BytesEqual -/
namespace Go.Proofs.YtcfmifongbapkaaGreatDoor

open Go.RowKit

set_option linter.unusedVariables false

theorem str_cases (u v : ByteArray) : (eqB u v = true ∧ (u.toList == v.toList) = true) ∨ (eqB u v = false ∧ (u.toList == v.toList) = false) := by
  rw [bytes_beq]
  cases eqB u v
  · exact .inr ⟨rfl, rfl⟩
  · exact .inl ⟨rfl, rfl⟩
set_option maxHeartbeats 1000000 in
theorem bequal_any (a a' : Option Addr) (n n' c c' B B' : Nat) (l l' : List UInt8) (w : World) (h : BAt w B a n l) (h' : BAt w B' a' n' l') :
    Calls Tryz.prog 55 #[.slice a n c, .slice a' n' c'] w fun e w' => e = .returned (.bool (eqB l l')) ∧ w = w' := by
  have c1 := run_convert_bytes (P := Tryz.prog) w 34 5 9 Tryz.underlying34 Tryz.underlying5 Tryz.underlying9 B a n l c h
  have c2 := run_convert_bytes (P := Tryz.prog) w 34 5 9 Tryz.underlying34 Tryz.underlying5 Tryz.underlying9 B' a' n' l' c' h'
  have e : eqB (⟨l.toArray⟩ : ByteArray) ⟨l'.toArray⟩ = eqB l l' := by
    by_cases hl : l = l'
    · rw [eqB_yes hl, hl, eqB_self]
    · rw [eqB_no hl, eqB_no (fun e => hl (by have h := congrArg (fun z : ByteArray => z.data.toList) e; simpa using h))]
  rw [← e]
  clear e h h'
  generalize (⟨l.toArray⟩ : ByteArray) = s at *
  generalize (⟨l'.toArray⟩ : ByteArray) = s' at *
  rcases str_cases s s' with ⟨e, q⟩ | ⟨e, q⟩
  · rw [e]
    clear e
    go_enter Tryz.func55, Tryz.ntmps55
    go_wp2
    go_ret
    exact ⟨by first | rfl | simp [*], rfl⟩
  · rw [e]
    clear e
    go_enter Tryz.func55, Tryz.ntmps55
    go_wp2
    go_ret
    exact ⟨by first | rfl | simp [*], rfl⟩
end Go.Proofs.YtcfmifongbapkaaGreatDoor
