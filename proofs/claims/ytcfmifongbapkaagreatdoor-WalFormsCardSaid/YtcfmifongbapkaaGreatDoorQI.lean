
/- Reading as a state: the bytes that are left, or none where it has failed; what the two readers answer in these words. No condition. Contracts of the document's own Key and Valid. Conditions: none but the texts' lengths. Contract of the document's own Valid: valid UTF-8. Condition: the text's length. Contract of the document's own Formed. Conditions: the value's number and text fit their kinds. A value in a box. No condition. -/
import Derived.Test.YtcfmifongbapkaaGreatDoorQF
import Derived.Test.YtcfmifongbapkaaGreatDoorQB
import Derived.Test.YtcfmifongbapkaaGreatDoorQD
import Derived.Test.YtcfmifongbapkaaGreatDoorQG
import Derived.Lib.OthersKept
import Derived.WalkSmall
import Derived.Deep.QuietTactic
import Derived.BigQuiet
/- Read -/
namespace Go.Proofs.YtcfmifongbapkaaGreatDoor

open Go.RowKit

abbrev St := Option (List UInt8)
section

variable {α β : Type} {p : Prs α} {f : α → Prs β} {st st1 st2 st' : St} {x : α} {y : β} {n k : Nat} {ys : List α}

/-- Either y is read, or it fails (and y is anything). -/
def Res (p : Prs α) (st : St) (y : α) (st' : St) : Prop := (∃ l r, st = some l ∧ p l = some (y, r) ∧ st' = some r) ∨ ((∀ l, st = some l → p l = none) ∧ st' = none)
theorem Res.bind (h1 : Res p st x st1) (h2 : Res (f x) st1 y st2) : Res (bindP p f) st y st2 := by
  rcases h1 with ⟨l, r, rfl, hp, rfl⟩ | ⟨hp, rfl⟩
  · rcases h2 with ⟨l', r', e, hf, rfl⟩ | ⟨hf, rfl⟩
    · injection e with e; subst e
      exact .inl ⟨l, r', rfl, by rw [bind_some hp]; exact hf, rfl⟩
    · exact .inr ⟨fun l' e => by injection e with e; subst e; rw [bind_some hp]; exact hf r rfl, rfl⟩
  · rcases h2 with ⟨l', r', e, _⟩ | ⟨_, rfl⟩
    · cases e
    · exact .inr ⟨fun l e => bind_none (hp l e), rfl⟩
theorem Res.pure (y : α) (st : St) : Res (pureP y) st y st := by
  cases st with
  | none => exact .inr ⟨(fun l e => by cases e), rfl⟩
  | some l => exact .inl ⟨l, l, rfl, rfl, rfl⟩
theorem Res.yes {l r : List UInt8} (h : p l = some (x, r)) : Res p (some l) x (some r) := .inl ⟨l, r, rfl, h, rfl⟩
theorem Res.no (x : α) (h : ∀ l, st = some l → p l = none) : Res p st x none := .inr ⟨h, rfl⟩
/-- p, if what is read is good. -/
def guardP (c : α → Bool) (p : Prs α) : Prs α := fun l => match p l with
  | some (x, r) => if c x = true then some (x, r) else none
  | none => none
theorem guard_yes {c : α → Bool} {l r : List UInt8} (h : p l = some (x, r)) (hc : c x = true) : guardP c p l = some (x, r) := by unfold guardP; rw [h]; simp [hc]
theorem guard_bad {c : α → Bool} {l r : List UInt8} (h : p l = some (x, r)) (hc : c x = false) : guardP c p l = none := by unfold guardP; rw [h]; simp [hc]
theorem guard_none {c : α → Bool} {l : List UInt8} (h : p l = none) : guardP c p l = none := by unfold guardP; rw [h]
theorem Res.guard_no {c : α → Bool} (h : Res p st x none) (z : α) : Res (guardP c p) st z none := by
  rcases h with ⟨l, r, _, _, e⟩ | ⟨h, _⟩
  · cases e
  · exact .no z fun l e => guard_none (h l e)
theorem Res.guard_bad {c : α → Bool} (h : Res p st x st') (hc : c x = false) (z : α) : Res (guardP c p) st z none := by
  rcases h with ⟨l, r, rfl, h, _⟩ | ⟨h, _⟩
  · exact .no z fun l' e => by injection e with e; subst e; exact Go.Proofs.YtcfmifongbapkaaGreatDoor.guard_bad h hc
  · exact .no z fun l e => guard_none (h l e)
theorem Res.guard_yes {c : α → Bool} (h : Res p st x st') (hc : c x = true) : Res (guardP c p) st x st' := by
  rcases h with ⟨l, r, rfl, h, rfl⟩ | ⟨h, rfl⟩
  · exact .yes (Go.Proofs.YtcfmifongbapkaaGreatDoor.guard_yes h hc)
  · exact .no x fun l e => guard_none (h l e)
/-- A list: how many, one byte, then each. -/
def listP (p : Prs α) : Prs (List α) := bindP (numP 1) fun n => repP p n
/-- k of n were read, one after the other, or it has failed. -/
def RunZ (p : Prs α) (n : Nat) (st1 : St) (k : Nat) (ys : List α) (st : St) : Prop :=
  k ≤ n ∧ ys.length = k ∧ ((∃ l r, st1 = some l ∧ st = some r ∧ RunP p n l k ys r) ∨ (st = none ∧ ∀ l, st1 = some l → repP p n l = none))
theorem RunZ.start (p : Prs α) (n : Nat) (st1 : St) : RunZ p n st1 0 [] st1 := by
  refine ⟨Nat.zero_le _, rfl, ?_⟩
  cases st1 with
  | none => exact .inr ⟨rfl, fun l e => by cases e⟩
  | some l => exact .inl ⟨l, l, rfl, rfl, RunP.start p n l⟩
theorem RunZ.next (h : RunZ p n st1 k ys st) (hk : k < n) (hr : Res p st x st') : RunZ p n st1 (k + 1) (ys ++ [x]) st' := by
  obtain ⟨_, h2, h3⟩ := h
  refine ⟨hk, by simp [h2], ?_⟩
  rcases h3 with ⟨l, r, rfl, rfl, hR⟩ | ⟨rfl, hn⟩
  · rcases hr with ⟨l', r', e, hp, rfl⟩ | ⟨hp, rfl⟩
    · injection e with e; subst e
      exact .inl ⟨l, r', rfl, rfl, hR.next hk hp⟩
    · exact .inr ⟨rfl, fun l' e => by injection e with e; subst e; exact hR.fail hk (hp r rfl)⟩
  · rcases hr with ⟨l', r', e, _⟩ | ⟨_, rfl⟩
    · cases e
    · exact .inr ⟨rfl, hn⟩
theorem RunZ.done (h : RunZ p n st1 n ys st) : Res (repP p n) st1 ys st := by
  obtain ⟨_, _, h3⟩ := h
  rcases h3 with ⟨l, r, rfl, rfl, hR⟩ | ⟨rfl, hn⟩
  · exact .yes hR.done
  · exact .no ys hn
theorem RunZ.stop (h : RunZ p n st1 k ys none) (zs : List α) : Res (repP p n) st1 zs none := by
  obtain ⟨_, _, h3⟩ := h
  rcases h3 with ⟨l, r, _, e, _⟩ | ⟨_, hn⟩
  · cases e
  · exact .no zs hn
theorem RunZ.len (h : RunZ p n st1 k ys st) : ys.length = k := h.2.1
theorem num_lt {x : Nat} (h : Res (numP k) st x st') (h0 : st' = none → x = 0) (hk : 0 < 256 ^ k) : x < 256 ^ k := by
  rcases h with ⟨l, r, rfl, h, rfl⟩ | ⟨_, e⟩
  · unfold numP at h
    split at h
    · rename_i hl
      injection h with h; injection h with h _
      subst h
      have := numB_lt (l.take k)
      rw [List.length_take, Nat.min_eq_left hl] at this
      exact this
    · cases h
  · rw [h0 e]; exact hk
theorem text_le {x : List UInt8} {lim : Nat} (h : Res (textP lim) st x st') (h0 : st' = none → x = []) : x.length ≤ lim := by
  rcases h with ⟨l, r, rfl, h, rfl⟩ | ⟨_, e⟩
  · unfold textP at h
    split at h
    · rename_i hl
      injection h with h; injection h with h _
      subst h
      have := hl.2.1
      rw [List.length_take]; omega
    · cases h
  · rw [h0 e]; exact Nat.zero_le _
end

/-- The program's reader in block g, the document's: as a state. -/
def RS (g : Nat) (st : St) (W : World) : Prop := match st with
  | some l => RdAt W g l true
  | none => RdAt W g [] false
def FS (B g : Nat) (L : List UInt8) (st : St) (W : World) : Prop := ∃ k, RefAt W B g L k st.isSome ∧ ∀ l, st = some l → l = L.drop k
/-- What is said of a reader stands as long as the blocks up to its own stand. -/
class Keep (g : Nat) (rd : World → Prop) : Prop where
  keep : ∀ W W' : World, rd W → (∀ b, b ≤ g → W'.heap[b]? = W.heap[b]?) → rd W'
/-- The program's reader. -/
instance (g : Nat) (st : St) : Keep g (RS g st) := ⟨fun W W' h hk => by
  cases st with
  | none => exact RdAt.keep h hk
  | some l => exact RdAt.keep h hk⟩
/-- The document's reader. -/
instance (B g : Nat) (L : List UInt8) (st : St) : Keep g (FS B g L st) := ⟨fun W W' h hk => by
  obtain ⟨k, h1, h2⟩ := h
  exact ⟨k, h1.keep hk, h2⟩⟩
theorem RS.lt {g : Nat} {st : St} {W : World} (h : RS g st W) : g < W.heap.size := by
  cases st with
  | none => exact RdAt.lt h
  | some l => exact RdAt.lt h
theorem FS.lt {B g : Nat} {L : List UInt8} {st : St} {W : World} (h : FS B g L st W) : g < W.heap.size := by
  obtain ⟨k, h, _⟩ := h
  exact h.lt
theorem FS.flag {B g : Nat} {L : List UInt8} {st : St} {W : World} (h : FS B g L st W) : W.cell? ⟨g, 2, none⟩ = some (.bool (!st.isSome)) ∧ W.frozen? ⟨g, 2, none⟩ = false := by
  obtain ⟨k, h, _⟩ := h
  exact h.flag
theorem FS.fails {B g : Nat} {L : List UInt8} {st : St} {W : World} (h : FS B g L st W) : FS B g L none (W.setCell ⟨g, 2, none⟩ (.bool true)) := by
  obtain ⟨k, h, _⟩ := h
  exact ⟨k, h.fails, fun l e => by cases e⟩

/-- Something is taken: it is answered as P tells, the reader goes on; z where it fails. -/
def Took1 {α : Type} (rd : St → World → Prop) (g : Nat) (P : α → Value) (p : Prs α) (z : α) (st : St) (W : World) (e : Ending) (w' : World) : Prop :=
  ∃ x st', e = .returned (P x) ∧ rd st' w' ∧ Only g W w' ∧ Res p st x st' ∧ (st' = none → x = z)
abbrev numV (x : Nat) : Value := .int .u64 ((x : Nat) : Int)
abbrev textV (x : List UInt8) : Value := .string ⟨x.toArray⟩
theorem takeS_any (g k : Nat) (st : St) (W : World) (h : RS g st W) (h8 : k ≤ 8) :
    Calls Tryz.prog 80 #[.pointer (some ⟨g, 0, none⟩), .int .i64 k] W (Took1 (RS g) g numV (numP k) 0 st W) := by
  cases st with
  | none => exact (take_no g [] false k W h (.inl rfl)).mono fun e w' ⟨h1, h2, h3⟩ => ⟨0, none, h1, h2, h3, .no _ (fun l e => by cases e), fun _ => rfl⟩
  | some l =>
    by_cases hk : k ≤ l.length
    · exact (take_yes g l k W h hk h8).mono fun e w' ⟨h1, h2, h3⟩ => ⟨_, some (l.drop k), h1, h2, h3, .yes (by unfold numP; rw [if_pos hk]), fun e => by cases e⟩
    · exact (take_no g l true k W h (.inr (.inr (.inr (by omega))))).mono fun e w' ⟨h1, h2, h3⟩ => ⟨0, none, h1, h2, h3, .no _ (fun l' e => by injection e with e; subst e; unfold numP; rw [if_neg hk]), fun _ => rfl⟩
theorem takeTextS_any (g m : Nat) (st : St) (W : World) (h : RS g st W) :
    Calls Tryz.prog 151 #[.pointer (some ⟨g, 0, none⟩), .int .i64 (m : Int)] W (Took1 (RS g) g textV (textP m) [] st W) := by
  cases st with
  | none => exact (takeText_no g [] false m W h (fun h => by cases h.1)).mono fun e w' ⟨h1, h2, h3⟩ => ⟨[], none, h1, h2, h3, .no _ (fun l e => by cases e), fun _ => rfl⟩
  | some l =>
    by_cases hk : textOk l m
    · exact (takeText_yes g l m W h hk).mono fun e w' ⟨h1, h2, h3⟩ => ⟨_, some _, h1, h2, h3, .yes (by unfold textP; rw [if_pos hk]), fun e => by cases e⟩
    · exact (takeText_no g l true m W h (fun h => hk h.2)).mono fun e w' ⟨h1, h2, h3⟩ => ⟨[], none, h1, h2, h3, .no _ (fun l' e => by injection e with e; subst e; unfold textP; rw [if_neg hk]), fun _ => rfl⟩
theorem refTakeS_any (B g : Nat) (L : List UInt8) (k : Nat) (st : St) (W : World) (h : FS B g L st W) (h8 : k ≤ 8) :
    Calls Tryz.prog 45 #[.pointer (some ⟨g, 0, none⟩), .int .i64 k] W (Took1 (FS B g L) g numV (numP k) 0 st W) := by
  obtain ⟨q, h, hq⟩ := h
  cases st with
  | none => exact (refTake_no B g L q false k W h (.inl rfl)).mono fun e w' ⟨h1, h2, h3⟩ => ⟨0, none, h1, ⟨q, h2, fun l e => by cases e⟩, h3, .no _ (fun l e => by cases e), fun _ => rfl⟩
  | some l =>
    obtain rfl := hq l rfl
    by_cases hk : k ≤ (L.drop q).length
    · exact (refTake_yes B g L q k W h hk h8).mono fun e w' ⟨h1, h2, h3⟩ => ⟨_, some ((L.drop q).drop k), h1, ⟨q + k, h2, fun l e => by injection e with e; rw [← e, List.drop_drop]⟩, h3, .yes (by unfold numP; rw [if_pos hk]), fun e => by cases e⟩
    · exact (refTake_no B g L q true k W h (.inr (.inr (.inr (by omega))))).mono fun e w' ⟨h1, h2, h3⟩ => ⟨0, none, h1, ⟨q, h2, fun l e => by cases e⟩, h3, .no _ (fun l' e => by injection e with e; subst e; unfold numP; rw [if_neg hk]), fun _ => rfl⟩
theorem refTakeTextS_any (B g : Nat) (L : List UInt8) (m : Nat) (st : St) (W : World) (h : FS B g L st W) :
    Calls Tryz.prog 115 #[.pointer (some ⟨g, 0, none⟩), .int .i64 (m : Int)] W (Took1 (FS B g L) g textV (textP m) [] st W) := by
  obtain ⟨q, h, hq⟩ := h
  cases st with
  | none => exact (refTakeText_no B g L q false m W h (fun h => by cases h.1)).mono fun e w' ⟨h1, ⟨q', h2⟩, h3⟩ => ⟨[], none, h1, ⟨q', h2, fun l e => by cases e⟩, h3, .no _ (fun l e => by cases e), fun _ => rfl⟩
  | some l =>
    obtain rfl := hq l rfl
    by_cases hk : textOk (L.drop q) m
    · exact (refTakeText_yes B g L q m W h hk).mono fun e w' ⟨h1, h2, h3⟩ => ⟨_, some (((L.drop q).drop 2).drop (textLen (L.drop q))), h1, ⟨_, h2, fun l e => by injection e with e; rw [← e, List.drop_drop, List.drop_drop, Nat.add_assoc]⟩, h3, .yes (by unfold textP; rw [if_pos hk]), fun e => by cases e⟩
    · exact (refTakeText_no B g L q true m W h (fun h => hk h.2)).mono fun e w' ⟨h1, ⟨q', h2⟩, h3⟩ => ⟨[], none, h1, ⟨q', h2, fun l e => by cases e⟩, h3, .no _ (fun l' e => by injection e with e; subst e; unfold textP; rw [if_neg hk]), fun _ => rfl⟩
end Go.Proofs.YtcfmifongbapkaaGreatDoor

/- ValueRef -/
namespace Go.Proofs.YtcfmifongbapkaaGreatDoor

open Go.RowKit

theorem drop3 (l : List UInt8) (p : Nat) (h : p + 3 ≤ l.length) : (l.drop p).take 3 = [l[p], l[p + 1], l[p + 2]] := by
  rw [List.drop_eq_getElem_cons (by omega), List.drop_eq_getElem_cons (by omega), List.drop_eq_getElem_cons (by omega)]; rfl

end Go.Proofs.YtcfmifongbapkaaGreatDoor

/- ValueValid -/
namespace Go.Proofs.YtcfmifongbapkaaGreatDoor

open Go.RowKit

theorem valid_go (s : ByteArray) (p : Nat) (hp : p < s.size) (h : ¬ ((Utf8.decode s p).1 = 65533 ∧ (Utf8.decode s p).2 = 1)) : validT (s.data.toList.drop (p + (Utf8.decode s p).2)) = validT (s.data.toList.drop p) := by
  have hne : s.data.toList.drop p ≠ [] := by
    intro e
    have := congrArg List.length e
    simp at this
    have : s.data.size = s.size := rfl
    omega
  have := Lib.validD_step _ hne
  rw [Lib.decodeL_drop, if_neg h, List.drop_drop] at this
  exact this.symm
theorem valid_stop (s : ByteArray) (p : Nat) (hp : p < s.size) (h : (Utf8.decode s p).1 = 65533 ∧ (Utf8.decode s p).2 = 1) : validT (s.data.toList.drop p) = false := by
  have hne : s.data.toList.drop p ≠ [] := by
    intro e
    have := congrArg List.length e
    simp at this
    have : s.data.size = s.size := rfl
    omega
  have := Lib.validD_step _ hne
  rw [Lib.decodeL_drop, if_pos h] at this
  exact this
/-- What the look asks, in terms of the text's bytes. -/
theorem valid_look (s : ByteArray) (p : Nat) (h : (Utf8.decode s p).1 = 65533) : (Utf8.decode s p).2 = 1 ↔ ¬ (∃ h3 : p + 3 ≤ s.size, (s[p]'(by omega)).toNat = 239 ∧ (s[p + 1]'(by omega)).toNat = 191 ∧ (s[p + 2]'(by omega)).toNat = 189) := by
  have hz : s.data.toList.length = s.size := by rw [Array.length_toList]; rfl
  have hb := valid_bad (s.data.toList.drop p) (by rw [Lib.decodeL_drop]; exact h)
  rw [Lib.decodeL_drop] at hb
  rw [hb]
  apply not_congr
  constructor
  · intro e
    have hl : p + 3 ≤ s.size := by
      have := congrArg List.length e
      simp only [List.length_take, List.length_drop, List.length_cons, List.length_nil] at this
      omega
    rw [drop3 _ _ (by omega)] at e
    simp only [List.cons.injEq] at e
    refine ⟨hl, ?_, ?_, ?_⟩
    · exact congrArg UInt8.toNat e.1
    · exact congrArg UInt8.toNat e.2.1
    · exact congrArg UInt8.toNat e.2.2.1
  · rintro ⟨hl, h0, h1, h2⟩
    rw [drop3 _ _ (by omega)]
    have e0 : s.data.toList[p]'(by omega) = 239 := UInt8.toNat_inj.1 h0
    have e1 : s.data.toList[p + 1]'(by omega) = 191 := UInt8.toNat_inj.1 h1
    have e2 : s.data.toList[p + 2]'(by omega) = 189 := UInt8.toNat_inj.1 h2
    rw [e0, e1, e2]

set_option maxHeartbeats 2000000 in
theorem refValid_any (s : ByteArray) (w : World) (hs : s.size ≤ maxLen) :
    Calls Tryz.prog 137 #[.string s] w fun e w' => e = .returned (.bool (validT s.data.toList)) ∧ Below w.heap.size w w' := by
  unfold maxLen at hs
  go_enter Tryz.func137, Tryz.ntmps137
  go_wp2
  go_loopw [3] (fun _ wr => ∃ pos, wr.heap[w.heap.size]? = some (.stringIter s pos) ∧ Below w.heap.size w wr ∧ validT (s.data.toList.drop pos) = validT s.data.toList) (fun _ wr => s.size - wr.iterPos w.heap.size)
  case atStart => exact ⟨0, World.iter_heap w s 0, (Below.refl _ _).alloc (Nat.le_refl _) _, by simp⟩
  case round =>
    obtain ⟨pos, hit, hbw, hv⟩ := hrel
    have hpos0 := Lib.hid (iterPos_of hit)
    have HV := Lib.hid hv
    clear hv
    by_cases hp : pos < s.size
    · have hnx : ∀ ty, (Instr.next (.pointer (some ⟨w.heap.size, 0, none⟩)) true ty).run Tryz.prog wr = _ := fun ty => Lib.run_next_any_at wr w.heap.size s pos ty hit hp
      have hit2 := Lib.iterAt_heap wr w.heap.size s pos (pos + (Utf8.decode s pos).2) hit
      have hbw2 := Lib.below_iterAt hbw (k := w.heap.size) (Nat.le_refl _) s (pos + (Utf8.decode s pos).2)
      have hwd := Lib.decodeL_width (s.data.toList.drop pos)
      rw [Lib.decodeL_drop] at hwd
      have hgo := fun h => Lib.hid (valid_go s pos hp h)
      have hst := fun h => Lib.hid (valid_stop s pos hp h)
      have hlk := fun h => Lib.hid (valid_look s pos h)
      generalize wr.iterAt w.heap.size s (pos + (Utf8.decode s pos).2) = W1 at hnx hit2 hbw2
      generalize (Utf8.decode s pos).1 = r at *
      generalize (Utf8.decode s pos).2 = d at *
      have HI2 := Lib.hid (iterPos_of hit2)
      clear hit hbw
      by_cases hr : r = 65533
      · subst hr
        have hL := hlk rfl
        clear hlk
        by_cases h3 : pos + 3 ≤ s.size
        · have g0 : decide ((s.size : Int) - (pos : Int) < 3) = false := by simp; omega
          have g1 : IntKind.i64.wrap ((s.size : Int) - (pos : Int)) = (s.size : Int) - (pos : Int) := by rw [IntKind.wrap_i64]; omega
          obtain ⟨v0, e0⟩ : ∃ v, (s[pos]'hp).toNat = v := ⟨_, rfl⟩
          obtain ⟨v1, e1⟩ : ∃ v, (s[pos + 1]'(by omega)).toNat = v := ⟨_, rfl⟩
          obtain ⟨v2, e2⟩ : ∃ v, (s[pos + 2]'(by omega)).toNat = v := ⟨_, rfl⟩
          have hq : d = 1 ↔ ¬ (v0 = 239 ∧ v1 = 191 ∧ v2 = 189) := by
            rw [hL.out, ← e0, ← e1, ← e2]
            exact not_congr ⟨fun ⟨_, h⟩ => h, fun h => ⟨h3, h⟩⟩
          have HQ := Lib.hid hq
          clear hL hq
          by_cases q0 : v0 = 239
          · by_cases q1 : v1 = 191
            · by_cases q2 : v2 = 189
              · have R := hgo (fun h => (HQ.out.1 h.2) ⟨q0, q1, q2⟩)
                clear hgo hst HQ
                subst q0; subst q1; subst q2
                go_wp2
                go_roundw
                case rel => exact ⟨pos + d, hit2, hbw2, R.out.trans HV.out⟩
                case measure => rw [HI2.out, hpos0.out]; omega
              · have R := hst ⟨rfl, HQ.out.2 (fun h => q2 h.2.2)⟩
                have c2 : ((v2 : Int) != 189) = true := by simp; omega
                clear hgo hst HQ
                subst q0; subst q1
                go_wp2
                go_ret
                exact ⟨by rw [← HV.out, R.out]; rfl, hbw2⟩
            · have R := hst ⟨rfl, HQ.out.2 (fun h => q1 h.2.1)⟩
              have c2 : ((v1 : Int) != 191) = true := by simp; omega
              clear hgo hst HQ
              subst q0
              go_wp2
              go_ret
              exact ⟨by rw [← HV.out, R.out]; rfl, hbw2⟩
          · have R := hst ⟨rfl, HQ.out.2 (fun h => q0 h.1)⟩
            have c2 : ((v0 : Int) != 239) = true := by simp; omega
            clear hgo hst HQ
            go_wp2
            go_ret
            exact ⟨by rw [← HV.out, R.out]; rfl, hbw2⟩
        · have g0 : decide ((s.size : Int) - (pos : Int) < 3) = true := by simp; omega
          have g1 : IntKind.i64.wrap ((s.size : Int) - (pos : Int)) = (s.size : Int) - (pos : Int) := by rw [IntKind.wrap_i64]; omega
          have R := hst ⟨rfl, hL.out.2 (fun ⟨h, _⟩ => h3 h)⟩
          clear hgo hst hL
          go_wp2
          go_ret
          exact ⟨by rw [← HV.out, R.out]; rfl, hbw2⟩
      · have R := hgo (fun h => hr h.1)
        have c1 : ((r : Int) == 65533) = false := by simp; omega
        clear hgo hst hlk
        go_wp2
        go_roundw
        case rel => exact ⟨pos + d, hit2, hbw2, R.out.trans HV.out⟩
        case measure => rw [HI2.out, hpos0.out]; omega
    · have hnx : ∀ ty, (Instr.next (.pointer (some ⟨w.heap.size, 0, none⟩)) true ty).run Tryz.prog wr = _ := fun ty => Lib.run_next_end_at wr w.heap.size s pos ty hit hp
      have hz : s.data.toList.length = s.size := by rw [Array.length_toList]; rfl
      have R : Hid (validT s.data.toList = true) := by
        have := HV.out
        rw [List.drop_eq_nil_of_le (by omega)] at this
        exact this.symm.trans Lib.validD_nil
      clear hz hit
      go_wp2
      go_ret
      exact ⟨by rw [R.out]; rfl, hbw⟩
end Go.Proofs.YtcfmifongbapkaaGreatDoor

/- ValueFormed -/
namespace Go.Proofs.YtcfmifongbapkaaGreatDoor

open Go.RowKit

/-- A value as it is handed over. -/
def vOf (v : Val) : Value := .agg #[.int .i64 v.k, .int .u64 (v.b : Nat), .string ⟨v.t.toArray⟩]
theorem box3 (w : World) (x y z : Value) (t : TypeId) : (w.alloc (.cells #[x, y, z] t)).cell? ⟨w.heap.size, 0, none⟩ = some x ∧ (w.alloc (.cells #[x, y, z] t)).cell? ⟨w.heap.size, 1, none⟩ = some y ∧ (w.alloc (.cells #[x, y, z] t)).cell? ⟨w.heap.size, 2, none⟩ = some z := by
  have hr := heap_alloc_new w (.cells #[x, y, z] t)
  refine ⟨?_, ?_, ?_⟩ <;> (rw [cell_of_row _ _ _ _ _ _ hr]; rfl)
theorem formed_none (b : Nat) (l : List UInt8) : formedB ⟨0, b, l⟩ = (decide (b = 0) && l.isEmpty) := rfl
theorem formed_num (b : Nat) (l : List UInt8) : formedB ⟨1, b, l⟩ = (l.isEmpty && decide (canonF b = b)) := rfl
theorem formed_text (b : Nat) (l : List UInt8) : formedB ⟨2, b, l⟩ = (decide (b = 0) && decide (l.length ≤ 40) && validT l) := by
  unfold formedB; simp
theorem formed_other (k : Int) (b : Nat) (l : List UInt8) (h0 : k ≠ 0) (h1 : k ≠ 1) (h2 : k ≠ 2) : formedB ⟨k, b, l⟩ = false := by
  unfold formedB; simp [h0, h1, h2]

set_option maxHeartbeats 1000000 in
theorem refFormed_any (k : Int) (b : Nat) (t : ByteArray) (w : World) (hb : b < 18446744073709551616) (ht : t.size ≤ maxLen) :
    Calls Tryz.prog 123 #[.agg #[.int .i64 k, .int .u64 b, .string t]] w fun e w' => e = .returned (.bool (formedB ⟨k, b, t.data.toList⟩)) ∧ Below w.heap.size w w' := by
  have ht' := ht
  unfold maxLen at ht'
  have hB1 : Below w.heap.size w (w.alloc (.cells #[.int .i64 k, .int .u64 b, .string t] 155)) := (Below.refl _ _).alloc (Nat.le_refl _) _
  have hE : t.data.toList.isEmpty = t.toList.isEmpty := by rw [ByteArray.toList_eq]
  have hz : t.data.toList.length = t.size := by rw [Array.length_toList]; rfl
  by_cases k0 : k = 0
  · subst k0
    rw [formed_none, hE]
    clear hE hz
    by_cases b0 : b = 0
    · subst b0
      cases e : t.toList.isEmpty
      all_goals
        go_enter Tryz.func123, Tryz.ntmps123
        go_wp2
        go_ret
        exact ⟨rfl, hB1⟩
    · have q : ((b : Int) == 0) = false := by simp; omega
      rw [decide_eq_false b0, Bool.false_and]
      go_enter Tryz.func123, Tryz.ntmps123
      go_wp2
      go_ret
      exact ⟨rfl, hB1⟩
  · have q0 : (k == 0) = false := by simp; omega
    by_cases k1 : k = 1
    · subst k1
      rw [formed_num, hE]
      clear hE hz k0 q0
      obtain ⟨c0, c1, c2⟩ := box3 w (.int .i64 1) (.int .u64 b) (.string t) 155
      have hC := fun W => canonRef_any b hb W
      cases e : t.toList.isEmpty
      · go_enter Tryz.func123, Tryz.ntmps123
        go_upto_region 4 with (fail)
        generalize w.alloc (.cells #[.int .i64 1, .int .u64 b, .string t] 155) = W at *
        go_quiet (fail)
        go_wp2
        go_ret
        exact ⟨rfl, below_drewN _ hB1⟩
      · by_cases hc : canonF b = b
        · rw [hc] at hC ⊢
          rw [decide_eq_true rfl]
          go_enter Tryz.func123, Tryz.ntmps123
          go_upto_region 4 with (fail)
          generalize w.alloc (.cells #[.int .i64 1, .int .u64 b, .string t] 155) = W at *
          go_quiet ((go_at_call 136; exact quiet_same (hC _)))
          go_wp2
          go_ret
          exact ⟨rfl, below_drewN _ hB1⟩
        · rw [decide_eq_false hc]
          have q : ((canonF b : Int) == (b : Int)) = false := by simp; omega
          generalize canonF b = cb at *
          go_enter Tryz.func123, Tryz.ntmps123
          go_upto_region 4 with (fail)
          generalize w.alloc (.cells #[.int .i64 1, .int .u64 b, .string t] 155) = W at *
          go_quiet ((go_at_call 136; exact quiet_same (hC _)))
          go_wp2
          go_ret
          exact ⟨rfl, below_drewN _ hB1⟩
    · have q1 : (k == 1) = false := by simp; omega
      clear hE
      by_cases k2 : k = 2
      · subst k2
        rw [formed_text, hz]
        clear hz q0 q1 k0 k1
        by_cases b0 : b = 0
        · subst b0
          by_cases h40 : t.size ≤ 40
          · have q : decide ((t.size : Int) ≤ 40) = true := by simp; omega
            rw [decide_eq_true h40, Bool.and_true, decide_eq_true rfl, Bool.true_and]
            go_enter Tryz.func123, Tryz.ntmps123
            go_wp2_with (go_at_call 137; ((with_reducible refine (refValid_any t _ ht).mono ?_); rintro e w1 ⟨rfl, hb1⟩))
            go_ret
            exact ⟨rfl, hB1.trans (hb1.mono hB1.size)⟩
          · have q : decide ((t.size : Int) ≤ 40) = false := by simp; omega
            rw [decide_eq_false h40, Bool.and_false, Bool.false_and]
            go_enter Tryz.func123, Tryz.ntmps123
            go_wp2
            go_ret
            exact ⟨rfl, hB1⟩
        · have q : ((b : Int) == 0) = false := by simp; omega
          rw [decide_eq_false b0, Bool.false_and, Bool.false_and]
          go_enter Tryz.func123, Tryz.ntmps123
          go_wp2
          go_ret
          exact ⟨rfl, hB1⟩
      · have q2 : (k == 2) = false := by simp; omega
        rw [formed_other k b _ k0 k1 k2]
        clear hz
        go_enter Tryz.func123, Tryz.ntmps123
        go_wp2
        go_ret
        exact ⟨rfl, hB1⟩
end Go.Proofs.YtcfmifongbapkaaGreatDoor

/- ValueBox -/
namespace Go.Proofs.YtcfmifongbapkaaGreatDoor

open Go.RowKit

theorem str_eq {S : ByteArray} {l : List UInt8} (h : S.data.toList = l) : S = ⟨l.toArray⟩ := by
  obtain ⟨d⟩ := S
  subst h; simp
theorem three_cells {w : World} {g : Nat} {x y z : Value} {t : TypeId} (h : w.heap[g]? = some (.cells #[x, y, z] t (0, 0))) :
    w.cell? ⟨g, 0, none⟩ = some x ∧ w.cell? ⟨g, 1, none⟩ = some y ∧ w.cell? ⟨g, 2, none⟩ = some z ∧ w.frozen? ⟨g, 0, none⟩ = false ∧ w.frozen? ⟨g, 1, none⟩ = false ∧ w.frozen? ⟨g, 2, none⟩ = false := by
  refine ⟨by rw [cell_of_row _ _ _ _ _ _ h]; rfl, by rw [cell_of_row _ _ _ _ _ _ h]; rfl, by rw [cell_of_row _ _ _ _ _ _ h]; rfl, ?_, ?_, ?_⟩ <;> simp [World.frozen?, h]

/-- A value in a box. -/
def BoxV (w1 : World) (g : Nat) (k : Int) (b : Nat) (t : ByteArray) : Prop := w1.cell? ⟨g, 0, none⟩ = some (.int .i64 k) ∧ w1.cell? ⟨g, 1, none⟩ = some (.int .u64 (b : Nat)) ∧ w1.cell? ⟨g, 2, none⟩ = some (.string t)
theorem BoxV.below {w1 w2 : World} {g B : Nat} {k : Int} {b : Nat} {t : ByteArray} (h : BoxV w1 g k b t) (hb : Below B w1 w2) (hg : g < B) : BoxV w2 g k b t :=
  ⟨(hb.cell (p := ⟨g, 0, none⟩) hg).trans h.1, (hb.cell (p := ⟨g, 1, none⟩) hg).trans h.2.1, (hb.cell (p := ⟨g, 2, none⟩) hg).trans h.2.2⟩
theorem BoxV.new (w : World) (k : Int) (b : Nat) (t : ByteArray) (ty : TypeId) : BoxV (w.alloc (.cells #[.int .i64 k, .int .u64 b, .string t] ty)) w.heap.size k b t := box3 w _ _ _ ty
theorem BoxV.drew {w : World} {g : Nat} {k : Int} {b : Nat} {t : ByteArray} (h : BoxV w g k b t) : BoxV w.drew g k b t := h
end Go.Proofs.YtcfmifongbapkaaGreatDoor
