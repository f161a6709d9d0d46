
/- Contracts of code.New and of a code.Reader's methods OK, Left, End, fail, next. Conditions: the reader lies in memory as New lays it. Contracts of a code.Reader's methods Take and TakeText. Conditions: the reader lies in memory as New lays it. Plain mathematics: reading values out of bytes one after the other; what more bytes behind change (nothing), what is put is taken. No condition. -/
import Derived.Test.YtcfmifongbapkaaGreatDoorQA
import Derived.Deep.AppendLies
import Derived.Lib.SliceRun
/- CodeReader -/
namespace Go.Proofs.YtcfmifongbapkaaGreatDoor

open Go.RowKit

/-- A reader in block g: the bytes that are left, and whether it is well. -/
def RdAt (w : World) (g : Nat) (l : List UInt8) (ok : Bool) : Prop :=
  ∃ a n c, w.heap[g]? = some (.cells #[.slice a n c, .bool (!ok)] 130 (0, 0)) ∧ n ≤ c ∧ c ≤ maxLen ∧ BAt w g a n l ∧ (ok = false → l = [])
/-- A new reader is answered. -/
def NewR (w : World) (l : List UInt8) (e : Ending) (w' : World) : Prop :=
  ∃ g, e = .returned (.pointer (some ⟨g, 0, none⟩)) ∧ RdAt w' g l true ∧ w.heap.size ≤ g ∧ g < w'.heap.size ∧ Below w.heap.size w w'

theorem own_empty (w : World) : (w.alloc (.cells #[] 5)).ownsRow w.heap.size 5 1 (.slice (some ⟨w.heap.size, 0, none⟩) 0 0) 0 (bcells []) :=
  ⟨rfl, .inr ⟨w.heap.size, 0, _, rfl, Nat.le_refl _, heap_alloc_new w _, by simp, by unfold maxLen; omega, rfl, rfl⟩⟩

set_option maxHeartbeats 1000000 in
theorem clone_any (a : Option Addr) (m c : Nat) (l : List UInt8) (w : World) (hl : BAt w w.heap.size a m l) (hlen : m ≤ 1099511627776) :
    Calls Tryz.prog 79 #[.slice a m c] w (NewB w l) := by
  obtain ⟨i0, hi, hz0, hz1, hz2⟩ := info_parts Tryz.info5
  rcases a with _ | ad
  · have hm : m = 0 := by
      rcases hl with ⟨_, h | ⟨b, off, h, _⟩⟩
      · exact h
      · cases h
    obtain rfl : l = [] := List.eq_nil_of_length_eq_zero (by rw [hl.len, hm])
    have heq : ∀ W : World, (binOp .eql 34 (.slice none m c) (.slice none 0 0)).run Tryz.prog W = .ok (.bool true) W := fun W => Lib.run_eql_slice_nil W 34 5 _ _ _ _ _ Tryz.underlying34
    clear hm
    go_enter Tryz.func79, Tryz.ntmps79
    go_wp2
    go_ret
    exact ⟨none, 0, 0, rfl, World.ownsRow_nil _ _ _ _, Below.refl _ _⟩
  · have heq : ∀ W : World, (binOp .eql 34 (.slice (some ad) m c) (.slice none 0 0)).run Tryz.prog W = .ok (.bool false) W := fun W => Lib.run_eql_slice_nil W 34 5 _ _ _ _ _ Tryz.underlying34
    go_enter Tryz.func79, Tryz.ntmps79
    go_wp2_with (at_builtin; (refine wpList_append_bytes _ rfl _ _ 34 rfl w.heap.size 5 i0 Tryz.underlying34 hi hz0 hz1 hz2 _ 0 [] rfl (own_empty w) w.heap.size (some ad) m l c rfl (hl.alloc (Nat.le_refl _) _) (by omega) (by simp) ?_; intro v' w1 hown hg; have R : PutIn w w1 v' (0 + m) ([] ++ l) := ⟨hown, ((Below.refl _ _).alloc (Nat.le_refl _) _).grown hg (by simp) (own_block (own_empty w))⟩; clear hown hg))
    go_ret
    exact R.out

theorem new_any (a : Option Addr) (m c : Nat) (l : List UInt8) (w : World) (hl : BAt w w.heap.size a m l) (hlen : m ≤ 1099511627776) :
    Calls Tryz.prog 42 #[.slice a m c] w (NewR w l) := by
  go_enter Tryz.func42, Tryz.ntmps42
  go_wp2_with (go_at_call 79; ((with_reducible refine (clone_any _ _ _ _ _ hl hlen).mono ?_); rintro e w1 ⟨a1, n1, c1, rfl, ho, hb⟩))
  go_ret
  obtain ⟨_, _, e1, h1, h2, _⟩ := own_form ho
  injection e1 with e1 e2 e3
  subst e1; subst e3
  exact ⟨w1.heap.size, rfl, ⟨a1, n1, c1, heap_alloc_new _ _, h1, h2, (BAt.of_own ho).alloc (Nat.le_refl _) _, fun h => by cases h⟩, hb.size, by simp, hb.alloc hb.size _⟩

/-- Only block g has turned. -/
def Only (g : Nat) (w w' : World) : Prop := w.grownBy w' (some g)
theorem Only.refl (g : Nat) (w : World) : Only g w w := World.grownBy.refl w _
theorem Only.trans {g : Nat} {a b c : World} (h : Only g a b) (k : Only g b c) : Only g a c := World.grownBy.trans h k
theorem Only.below {B g : Nat} {w0 w w' : World} (hb : Below B w0 w) (h : Only g w w') (h1 : B ≤ g) (h2 : B ≤ w.heap.size) : Below B w0 w' :=
  hb.grown h h2 fun k hk => by injection hk; omega

theorem rd_cells {w : World} {g : Nat} {x y : Value} {t : TypeId} (h : w.heap[g]? = some (.cells #[x, y] t (0, 0))) :
    w.cell? ⟨g, 0, none⟩ = some x ∧ w.cell? ⟨g, 1, none⟩ = some y ∧ w.frozen? ⟨g, 0, none⟩ = false ∧ w.frozen? ⟨g, 1, none⟩ = false := by
  refine ⟨by rw [cell_of_row _ _ _ _ _ _ h]; rfl, by rw [cell_of_row _ _ _ _ _ _ h]; rfl, ?_, ?_⟩ <;> simp [World.frozen?, h]

theorem ok_any (g : Nat) (l : List UInt8) (ok : Bool) (w : World) (h : RdAt w g l ok) :
    Calls Tryz.prog 85 #[.pointer (some ⟨g, 0, none⟩)] w fun e w' => e = .returned (.bool ok) ∧ w = w' := by
  obtain ⟨a, n, c, hh, h1, h2, hl, hf⟩ := h
  obtain ⟨c0, c1, _, _⟩ := rd_cells hh
  clear hh hf
  cases ok
  all_goals
    go_enter Tryz.func85, Tryz.ntmps85
    go_wp2
    go_ret
    exact ⟨rfl, rfl⟩
theorem left_yes (g : Nat) (l : List UInt8) (w : World) (h : RdAt w g l true) :
    Calls Tryz.prog 86 #[.pointer (some ⟨g, 0, none⟩)] w fun e w' => e = .returned (.int .i64 l.length) ∧ w = w' := by
  have hok := ok_any g l true w h
  obtain ⟨a, n, c, hh, h1, h2, hl, hf⟩ := h
  obtain ⟨c0, c1, _, _⟩ := rd_cells hh
  have hlen := Lib.hid hl.len
  clear hh hf
  go_enter Tryz.func86, Tryz.ntmps86
  go_wp2_with (go_at_call 85; ((with_reducible refine hok.mono ?_); rintro e w' ⟨rfl, rfl⟩))
  go_ret
  exact ⟨by rw [hlen.out]; rfl, rfl⟩
theorem left_no (g : Nat) (l : List UInt8) (w : World) (h : RdAt w g l false) :
    Calls Tryz.prog 86 #[.pointer (some ⟨g, 0, none⟩)] w fun e w' => e = .returned (.int .i64 0) ∧ w = w' := by
  go_enter Tryz.func86, Tryz.ntmps86
  go_wp2_with (go_at_call 85; ((with_reducible refine (ok_any g l false _ h).mono ?_); rintro e w' ⟨rfl, rfl⟩))
  go_ret
  exact ⟨rfl, rfl⟩
theorem left_any (g : Nat) (l : List UInt8) (ok : Bool) (w : World) (h : RdAt w g l ok) :
    Calls Tryz.prog 86 #[.pointer (some ⟨g, 0, none⟩)] w fun e w' => e = .returned (.int .i64 l.length) ∧ w = w' := by
  cases ok
  · have hl : l = [] := by obtain ⟨_, _, _, _, _, _, _, hf⟩ := h; exact hf rfl
    subst hl; exact left_no g _ w h
  · exact left_yes g l w h
theorem end_any (g : Nat) (l : List UInt8) (ok : Bool) (w : World) (h : RdAt w g l ok) :
    Calls Tryz.prog 44 #[.pointer (some ⟨g, 0, none⟩)] w fun e w' => e = .returned (.bool (ok && l.isEmpty)) ∧ w = w' := by
  cases ok
  · go_enter Tryz.func44, Tryz.ntmps44
    go_wp2_with (go_at_call 85; ((with_reducible refine (ok_any g l false _ h).mono ?_); rintro e w' ⟨rfl, rfl⟩))
    go_ret
    exact ⟨rfl, rfl⟩
  · cases l with
    | nil =>
      go_enter Tryz.func44, Tryz.ntmps44
      go_wp2_with (first | (go_at_call 85; ((with_reducible refine (ok_any g _ true _ h).mono ?_); rintro e w' ⟨rfl, rfl⟩)) | (go_at_call 86; ((with_reducible refine (left_any g _ true _ h).mono ?_); rintro e w' ⟨rfl, rfl⟩)))
      go_ret
      exact ⟨rfl, rfl⟩
    | cons x r =>
      have h1 : ((((x :: r).length : Nat) : Int) == 0) = false := by simp; omega
      go_enter Tryz.func44, Tryz.ntmps44
      go_wp2_with (first | (go_at_call 85; ((with_reducible refine (ok_any g _ true _ h).mono ?_); rintro e w' ⟨rfl, rfl⟩)) | (go_at_call 86; ((with_reducible refine (left_any g _ true _ h).mono ?_); rintro e w' ⟨rfl, rfl⟩)))
      go_ret
      exact ⟨by simp; omega, rfl⟩
theorem set_row {w : World} {g : Nat} {cs : Array Value} {t : TypeId} (h : w.heap[g]? = some (.cells cs t (0, 0))) (i : Nat) (u : Value) :
    (w.setCell ⟨g, i, none⟩ u).heap[g]? = some (.cells (cs.setIfInBounds i u) t (0, 0)) := by
  simp [World.setCell, Array.getElem?_modify, h]
theorem only_set (w : World) (g i : Nat) (u : Value) : Only g w (w.setCell ⟨g, i, none⟩ u) :=
  ⟨rfl, rfl, rfl, by simp [World.setCell], fun k _ hk => Below.heap_setCell w ⟨g, i, none⟩ u k (fun e => hk (by subst e; rfl))⟩
theorem only_set2 (w : World) (g i j : Nat) (u v : Value) : Only g w ((w.setCell ⟨g, i, none⟩ u).setCell ⟨g, j, none⟩ v) := (only_set w g i u).trans (only_set _ g j v)

theorem fail_any (g : Nat) (l : List UInt8) (ok : Bool) (w : World) (h : RdAt w g l ok) :
    Calls Tryz.prog 109 #[.pointer (some ⟨g, 0, none⟩)] w fun e w' => e = .returned (.tuple #[]) ∧ RdAt w' g [] false ∧ Only g w w' := by
  obtain ⟨a, n, c, hh, h1, h2, hl, hf⟩ := h
  obtain ⟨c0, c1, f0, f1⟩ := rd_cells hh
  have HH := Lib.hid hh
  clear hh hf
  go_enter Tryz.func109, Tryz.ntmps109
  go_wp2
  go_end0
  exact ⟨rfl, ⟨none, 0, 0, by rw [set_row (set_row HH.out _ _)]; rfl, Nat.le_refl _, by unfold maxLen; omega, BAt.nil, fun _ => rfl⟩, only_set2 _ _ _ _ _ _⟩
/-- The next n bytes are answered: they read as l, and lie below the reader. -/
def Took (g : Nat) (l r : List UInt8) (w : World) (e : Ending) (w' : World) : Prop :=
  ∃ a n c, e = .returned (.slice a n c) ∧ BAt w' g a n l ∧ RdAt w' g r true ∧ Only g w w'

theorem next_no (g : Nat) (l : List UInt8) (ok : Bool) (n : Int) (w : World) (h : RdAt w g l ok) (hn : ok = false ∨ n < 0 ∨ (l.length : Int) < n) :
    Calls Tryz.prog 110 #[.pointer (some ⟨g, 0, none⟩), .int .i64 n] w fun e w' => e = .returned (.slice none 0 0) ∧ RdAt w' g [] false ∧ Only g w w' := by
  by_cases h0 : n < 0
  · go_enter Tryz.func110, Tryz.ntmps110
    go_wp2_with (first | (go_at_call 109; ((with_reducible refine (fail_any g l ok _ h).mono ?_); rintro e w1 ⟨rfl, hr, ho⟩)) | (go_at_call 85; ((with_reducible refine (ok_any g [] false _ hr).mono ?_); rintro e w' ⟨rfl, rfl⟩)))
    go_ret
    exact ⟨rfl, hr, ho⟩
  · by_cases h1 : (l.length : Int) < n
    · have hd : decide ((l.length : Int) < n) = true := by simpa using h1
      go_enter Tryz.func110, Tryz.ntmps110
      go_wp2_with (first | (go_at_call 86; ((with_reducible refine (left_any g l ok _ h).mono ?_); rintro e w' ⟨rfl, rfl⟩)) | (go_at_call 109; ((with_reducible refine (fail_any g l ok _ h).mono ?_); rintro e w1 ⟨rfl, hr, ho⟩)) | (go_at_call 85; ((with_reducible refine (ok_any g [] false _ hr).mono ?_); rintro e w' ⟨rfl, rfl⟩)))
      go_ret
      exact ⟨rfl, hr, ho⟩
    · have hok : ok = false := by rcases hn with h | h | h; · exact h
                                  · omega
                                  · omega
      subst hok
      have hl : l = [] := by obtain ⟨_, _, _, _, _, _, _, hf⟩ := h; exact hf rfl
      subst hl
      have hd : decide ((0 : Int) < n) = false := by simpa using h1
      go_enter Tryz.func110, Tryz.ntmps110
      go_wp2_with (first | (go_at_call 86; ((with_reducible refine (left_no g _ _ h).mono ?_); rintro e w' ⟨rfl, rfl⟩)) | (go_at_call 85; ((with_reducible refine (ok_any g [] false _ h).mono ?_); rintro e w' ⟨rfl, rfl⟩)))
      go_ret
      exact ⟨rfl, h, Only.refl _ _⟩

theorem lt_of_heap {w : World} {g : Nat} {o : Obj} (h : w.heap[g]? = some o) : g < w.heap.size := by
  rcases Nat.lt_or_ge g w.heap.size with h1 | h1
  · exact h1
  · rw [Array.getElem?_eq_none h1] at h; cases h
theorem took_mk {w : World} {g n c k : Nat} {a a' : Option Addr} {l : List UInt8} (hh : w.heap[g]? = some (.cells #[.slice a n c, .bool (!true)] 130 (0, 0))) (hl : BAt w g a n l) (hk : k ≤ n) (h1 : n ≤ c) (h2 : c ≤ maxLen)
    (ha : a' = if c = k then a else a.map (·.add k)) : Took g (l.take k) (l.drop k) w (.returned (.slice a k c)) (w.setCell ⟨g, 0, none⟩ (.slice a' (n - k) (c - k))) := by
  have hg := lt_of_heap hh
  have ho := only_set w g 0 (.slice a' (n - k) (c - k))
  refine ⟨a, k, c, rfl, (hl.take hk).grown ho (by omega) (Nat.le_refl _), ⟨a', n - k, c - k, by rw [set_row hh]; rfl, by omega, by omega, ?_, fun h => by cases h⟩, ho⟩
  have hdr := hl.drop hk h1
  rw [← ha] at hdr
  exact hdr.grown ho (by omega) (Nat.le_refl _)

set_option maxHeartbeats 1000000 in
theorem next_yes (g : Nat) (l : List UInt8) (k : Nat) (w : World) (h : RdAt w g l true) (hk : k ≤ l.length) :
    Calls Tryz.prog 110 #[.pointer (some ⟨g, 0, none⟩), .int .i64 k] w (Took g (l.take k) (l.drop k) w) := by
  have hL := left_any g l true w h
  have hO := ok_any g l true w h
  obtain ⟨a, n, c, hh, h1, h2, hl, hf⟩ := h
  have hn := hl.len
  obtain ⟨c0, c1, f0, f1⟩ := rd_cells hh
  have hd : decide (l.length < k) = false := by simp; omega
  have hkn : k ≤ n := by omega
  have hT := fun a' => took_mk (a' := a') hh hl hkn h1 h2
  unfold maxLen at h2
  clear hh hf hn hl
  by_cases e : c = k
  · obtain rfl : n = k := by omega
    subst e
    have hT' := Lib.hid (hT a (by rw [if_pos rfl]))
    clear hT
    go_enter Tryz.func110, Tryz.ntmps110
    go_wp2_with (first | (go_at_call 86; ((with_reducible refine hL.mono ?_); rintro e w' ⟨rfl, rfl⟩)) | (go_at_call 85; ((with_reducible refine hO.mono ?_); rintro e w' ⟨rfl, rfl⟩)))
    go_ret
    simpa using hT'.out
  · have hT' := Lib.hid (hT (a.map (·.add k)) (by rw [if_neg e]))
    clear hT
    go_enter Tryz.func110, Tryz.ntmps110
    go_wp2_with (first | (go_at_call 86; ((with_reducible refine hL.mono ?_); rintro e w' ⟨rfl, rfl⟩)) | (go_at_call 85; ((with_reducible refine hO.mono ?_); rintro e w' ⟨rfl, rfl⟩)))
    go_ret
    exact hT'.out
end Go.Proofs.YtcfmifongbapkaaGreatDoor

/- CodeTake -/
namespace Go.Proofs.YtcfmifongbapkaaGreatDoor

open Go.RowKit

theorem or_step (x c : Nat) (hx : x < 72057594037927936) (hc : c < 256) : bits .or .u64 (IntKind.u64.wrap ((x : Int) * 256)) (IntKind.u64.wrap (c : Int)) = ((x * 256 + c : Nat) : Int) := by
  have h1 : IntKind.u64.wrap ((x : Int) * 256) = ((x * 256 : Nat) : Int) := by rw [IntKind.wrap_u64]; omega
  have h2 : IntKind.u64.wrap (c : Int) = (c : Int) := by rw [IntKind.wrap_u64]; omega
  rw [h1, h2, u64_or_nat _ _ (by omega) (by omega), nat_join 8 _ _ (by omega) (by omega)]
theorem num_step (l : List UInt8) (k q : Nat) (hq : q < k) (hk : k ≤ l.length) (h8 : k ≤ 8) :
    bits .or .u64 (IntKind.u64.wrap ((numB ((l.take k).take q) : Int) * 256)) (IntKind.u64.wrap ((l[q]'(by omega)).toNat : Int)) = ((numB ((l.take k).take (q + 1)) : Nat) : Int) := by
  have h1 : (l.take k).take (q + 1) = (l.take k).take q ++ [l[q]'(by omega)] := by
    rw [take_snoc _ _ (by simp; omega)]; simp
  have h2 := numB_lt ((l.take k).take q)
  have h3 : ((l.take k).take q).length ≤ 7 := by simp; omega
  have h4 : 256 ^ ((l.take k).take q).length ≤ 256 ^ 7 := Nat.pow_le_pow_right (by omega) h3
  rw [h1, numB_snoc]
  exact or_step _ _ (by omega) (UInt8.toNat_lt _)

set_option maxHeartbeats 1000000 in
theorem take_yes (g : Nat) (l : List UInt8) (k : Nat) (w : World) (h : RdAt w g l true) (hk : k ≤ l.length) (h8 : k ≤ 8) :
    Calls Tryz.prog 80 #[.pointer (some ⟨g, 0, none⟩), .int .i64 k] w fun e w' => e = .returned (.int .u64 (numB (l.take k) : Nat)) ∧ RdAt w' g (l.drop k) true ∧ Only g w w' := by
  have hd : decide (8 < k) = false := by simp; omega
  go_enter Tryz.func80, Tryz.ntmps80
  go_wp2_with (go_at_call 110; ((with_reducible refine (next_yes g l k _ h hk).mono ?_); rintro e w1 ⟨a, n, c, rfl, hb, hr, ho⟩))
  have hlen := hb.len
  have hnk : n = k := by rw [← hlen]; simp; omega
  subst hnk
  clear hlen
  go_loop [5, 16] (fun x i => ∃ q : Nat, q ≤ n ∧ i = .int .i64 q ∧ x = .int .u64 (numB ((l.take n).take q) : Nat)) (fun _ i => n - (intOf i).toNat)
  case atStart => exact ⟨0, by omega, rfl, rfl⟩
  case round =>
    obtain ⟨q, hq, rfl, rfl⟩ := hrel
    by_cases hlt : q < n
    · obtain ⟨b, off, rfl, hbg, hc⟩ := hb.at_ (i := q) (by simp; omega)
      have HS := Lib.hid (num_step l n q hlt hk h8)
      go_wp2
      go_round
      case rel => exact ⟨q + 1, by omega, by go_num, by rw [← HS.out]⟩
      case measure => simp [intOf]; omega
    · have HE : Hid ((l.take n).take q = l.take n) := List.take_of_length_le (by simp; omega)
      go_wp2
      go_ret
      exact ⟨by rw [HE.out]; rfl, hr, ho⟩

theorem take_no (g : Nat) (l : List UInt8) (ok : Bool) (n : Int) (w : World) (h : RdAt w g l ok) (hn : ok = false ∨ n < 0 ∨ 8 < n ∨ (l.length : Int) < n) :
    Calls Tryz.prog 80 #[.pointer (some ⟨g, 0, none⟩), .int .i64 n] w fun e w' => e = .returned (.int .u64 0) ∧ RdAt w' g [] false ∧ Only g w w' := by
  by_cases h8 : 8 < n
  · go_enter Tryz.func80, Tryz.ntmps80
    go_wp2_with (go_at_call 109; ((with_reducible refine (fail_any g l ok _ h).mono ?_); rintro e w1 ⟨rfl, hr, ho⟩))
    go_ret
    exact ⟨rfl, hr, ho⟩
  · have hn' : ok = false ∨ n < 0 ∨ (l.length : Int) < n := by
      rcases hn with h | h | h | h
      · exact .inl h
      · exact .inr (.inl h)
      · exact absurd h h8
      · exact .inr (.inr h)
    clear hn
    have H := Lib.hid hn'
    clear hn'
    go_enter Tryz.func80, Tryz.ntmps80
    go_wp2_with (go_at_call 110; ((with_reducible refine (next_no g l ok n _ h H.out).mono ?_); rintro e w1 ⟨rfl, hr, ho⟩))
    refine wp_loop_rounds 1 ?_
    rw [rounds_succ]
    go_wp2
    go_ret
    exact ⟨rfl, hr, ho⟩

/-- How long the text is that is next, as its first two bytes tell. -/
def textLen (l : List UInt8) : Nat := numB (l.take 2)
theorem textLen_lt (l : List UInt8) : textLen l < 65536 := by
  have h := numB_lt (l.take 2)
  have h2 : 256 ^ (l.take 2).length ≤ 256 ^ 2 := Nat.pow_le_pow_right (by omega) (by simp; omega)
  unfold textLen; omega
theorem take2_yes (g : Nat) (l : List UInt8) (w : World) (h : RdAt w g l true) (h2 : 2 ≤ l.length) :
    Calls Tryz.prog 80 #[.pointer (some ⟨g, 0, none⟩), .int .i64 2] w fun e w' => e = .returned (.int .u64 (textLen l : Nat)) ∧ RdAt w' g (l.drop 2) true ∧ Only g w w' := take_yes g l 2 w h h2 (by omega)
/-- Whether a text of at most m bytes is there whole. -/
def textOk (l : List UInt8) (m : Int) : Prop := 2 ≤ l.length ∧ (textLen l : Int) ≤ m ∧ 2 + textLen l ≤ l.length

set_option maxHeartbeats 1000000 in
theorem takeText_yes (g : Nat) (l : List UInt8) (m : Int) (w : World) (h : RdAt w g l true) (hT : textOk l m) :
    Calls Tryz.prog 151 #[.pointer (some ⟨g, 0, none⟩), .int .i64 m] w fun e w' => e = .returned (.string ⟨((l.drop 2).take (textLen l)).toArray⟩) ∧ RdAt w' g ((l.drop 2).drop (textLen l)) true ∧ Only g w w' := by
  obtain ⟨h2, h3, h4⟩ := hT
  have hlt := textLen_lt l
  have hk : textLen l ≤ (l.drop 2).length := by simp; omega
  have hd : decide (m < (textLen l : Int)) = false := by simp; omega
  go_enter Tryz.func151, Tryz.ntmps151
  go_wp2_with (first | (go_at_call 80; ((with_reducible refine (take2_yes g l _ h h2).mono ?_); rintro e w1 ⟨rfl, hr, ho⟩)) | (go_at_call 110; ((with_reducible refine (next_yes g (l.drop 2) (textLen l) _ hr hk).mono ?_); rintro e w2 ⟨a, n, c, rfl, hb, hr2, ho2⟩; have hcv := run_convert_bytes (P := Tryz.prog) w2 34 5 9 Tryz.underlying34 Tryz.underlying5 Tryz.underlying9 g a n _ c hb)))
  go_ret
  exact ⟨rfl, hr2, ho.trans ho2⟩

set_option maxHeartbeats 1000000 in
theorem takeText_no (g : Nat) (l : List UInt8) (ok : Bool) (m : Int) (w : World) (h : RdAt w g l ok) (hT : ¬ (ok = true ∧ textOk l m)) :
    Calls Tryz.prog 151 #[.pointer (some ⟨g, 0, none⟩), .int .i64 m] w fun e w' => e = .returned (.string ⟨#[]⟩) ∧ RdAt w' g [] false ∧ Only g w w' := by
  have hc0 := fun W : World => run_convert_bytes (P := Tryz.prog) W 34 5 9 Tryz.underlying34 Tryz.underlying5 Tryz.underlying9 0 none 0 [] 0 BAt.nil
  by_cases h1 : ok = true ∧ 2 ≤ l.length
  · obtain ⟨rfl, h2⟩ := h1
    have hlt := textLen_lt l
    have hT' : m < (textLen l : Int) ∨ l.length < 2 + textLen l := by
      rcases Classical.em (m < (textLen l : Int)) with h | h
      · exact .inl h
      · refine .inr ?_
        rcases Classical.em (l.length < 2 + textLen l) with h' | h'
        · exact h'
        · exact absurd ⟨rfl, h2, by omega, by omega⟩ hT
    clear hT
    by_cases hm : m < (textLen l : Int)
    · clear hT'
      have hd : decide (m < (textLen l : Int)) = true := by simp; omega
      go_enter Tryz.func151, Tryz.ntmps151
      go_wp2_with (first | (go_at_call 80; ((with_reducible refine (take2_yes g l _ h h2).mono ?_); rintro e w1 ⟨rfl, hr, ho⟩)) | (go_at_call 109; ((with_reducible refine (fail_any g _ true _ hr).mono ?_); rintro e w2 ⟨rfl, hr2, ho2⟩)))
      go_ret
      exact ⟨rfl, hr2, ho.trans ho2⟩
    · have hd : decide (m < (textLen l : Int)) = false := by simp; omega
      have hlong : true = false ∨ (textLen l : Int) < 0 ∨ (((l.drop 2).length : Nat) : Int) < (textLen l : Int) := .inr (.inr (by simp; omega))
      have HL := Lib.hid hlong
      clear hT' hlong
      go_enter Tryz.func151, Tryz.ntmps151
      go_wp2_with (first | (go_at_call 80; ((with_reducible refine (take2_yes g l _ h h2).mono ?_); rintro e w1 ⟨rfl, hr, ho⟩)) | (go_at_call 110; ((with_reducible refine (next_no g (l.drop 2) true _ _ hr (HL.out)).mono ?_); rintro e w2 ⟨rfl, hr2, ho2⟩)))
      go_ret
      exact ⟨rfl, hr2, ho.trans ho2⟩
  · have hn : ok = false ∨ (2 : Int) < 0 ∨ (8 : Int) < 2 ∨ (l.length : Int) < 2 := by
      cases ok
      · exact .inl rfl
      · refine .inr (.inr (.inr ?_))
        have : ¬ 2 ≤ l.length := fun h => h1 ⟨rfl, h⟩
        omega
    have HN := Lib.hid hn
    clear hn hT h1
    by_cases hm : m < 0
    · go_enter Tryz.func151, Tryz.ntmps151
      go_wp2_with (first | (go_at_call 80; ((with_reducible refine (take_no g l ok 2 _ h HN.out).mono ?_); rintro e w1 ⟨rfl, hr, ho⟩)) | (go_at_call 109; ((with_reducible refine (fail_any g _ false _ hr).mono ?_); rintro e w2 ⟨rfl, hr2, ho2⟩)))
      go_ret
      exact ⟨rfl, hr2, ho.trans ho2⟩
    · go_enter Tryz.func151, Tryz.ntmps151
      go_wp2_with (first | (go_at_call 80; ((with_reducible refine (take_no g l ok 2 _ h HN.out).mono ?_); rintro e w1 ⟨rfl, hr, ho⟩)) | (go_at_call 110; ((with_reducible refine (next_no g _ false _ _ hr (.inl rfl)).mono ?_); rintro e w2 ⟨rfl, hr2, ho2⟩)))
      go_ret
      exact ⟨rfl, hr2, ho.trans ho2⟩
end Go.Proofs.YtcfmifongbapkaaGreatDoor

/- Parse -/
namespace Go.Proofs.YtcfmifongbapkaaGreatDoor

/-- A way to read: the value and what is left; none, if it isn't there. -/
abbrev Prs (α : Type) := List UInt8 → Option (α × List UInt8)
def pureP {α : Type} (x : α) : Prs α := fun l => some (x, l)
def bindP {α β : Type} (p : Prs α) (f : α → Prs β) : Prs β := fun l => match p l with
  | some (x, r) => f x r
  | none => none
/-- n values in a row. -/
def repP {α : Type} (p : Prs α) : Nat → Prs (List α)
  | 0 => pureP []
  | n + 1 => bindP p fun x => bindP (repP p n) fun xs => pureP (x :: xs)
section

variable {α β : Type} {p : Prs α} {f : α → Prs β} {l r s : List UInt8} {x : α} {y : β}

theorem bind_some (h : p l = some (x, r)) : bindP p f l = f x r := by unfold bindP; rw [h]
theorem bind_none (h : p l = none) : bindP p f l = none := by unfold bindP; rw [h]
theorem bind_inv (h : bindP p f l = some (y, s)) : ∃ x r, p l = some (x, r) ∧ f x r = some (y, s) := by
  unfold bindP at h
  split at h
  · rename_i x r e; exact ⟨x, r, e, h⟩
  · cases h
/-- What stands behind is left as it stands. -/
def ExtP (p : Prs α) : Prop := ∀ l x r s, p l = some (x, r) → p (l ++ s) = some (x, r ++ s)
/-- i values of n were read: xs, and r is left. -/
def RunP (p : Prs α) (n : Nat) (l : List UInt8) (i : Nat) (xs : List α) (r : List UInt8) : Prop :=
  i ≤ n ∧ xs.length = i ∧ repP p n l = match repP p (n - i) r with
    | some (ys, s) => some (xs ++ ys, s)
    | none => none
theorem RunP.start (p : Prs α) (n : Nat) (l : List UInt8) : RunP p n l 0 [] l := by
  refine ⟨Nat.zero_le _, rfl, ?_⟩
  rw [Nat.sub_zero]
  split
  · rename_i ys s e; rw [e]; rfl
  · assumption
theorem RunP.next {n i : Nat} {xs : List α} {r' : List UInt8} (h : RunP p n l i xs r) (hi : i < n) (hx : p r = some (x, r')) : RunP p n l (i + 1) (xs ++ [x]) r' := by
  obtain ⟨_, h2, h3⟩ := h
  refine ⟨hi, by simp [h2], ?_⟩
  rw [h3]
  have e : n - i = (n - (i + 1)) + 1 := by omega
  rw [e, repP, bind_some hx]
  cases e2 : repP p (n - (i + 1)) r' with
  | none => rw [bind_none e2]
  | some z =>
    obtain ⟨ys, s⟩ := z
    rw [bind_some e2]
    simp [pureP]
theorem RunP.fail {n i : Nat} {xs : List α} (h : RunP p n l i xs r) (hi : i < n) (hx : p r = none) : repP p n l = none := by
  obtain ⟨_, _, h3⟩ := h
  rw [h3]
  have e : n - i = (n - (i + 1)) + 1 := by omega
  rw [e, repP, bind_none hx]
theorem RunP.done {n : Nat} {xs : List α} (h : RunP p n l n xs r) : repP p n l = some (xs, r) := by
  obtain ⟨_, _, h3⟩ := h
  rw [h3, Nat.sub_self]
  simp [repP, pureP]
/-- What is put is taken. -/
theorem back_rep (enc : α → List UInt8) (good : α → Prop) (h : ∀ x R, good x → p (enc x ++ R) = some (x, R)) : ∀ (xs : List α) (R : List UInt8), (∀ x ∈ xs, good x) → repP p xs.length (xs.flatMap enc ++ R) = some (xs, R)
  | [], R, _ => rfl
  | x :: xs, R, hg => by
    rw [List.length_cons, repP, List.flatMap_cons, List.append_assoc, bind_some (h x _ (hg x (by simp))), bind_some (back_rep enc good h xs R fun y hy => hg y (by simp [hy]))]
    rfl
end

/-- A number of k bytes; a text of at most lim bytes. -/
def numP (k : Nat) : Prs Nat := fun l => if k ≤ l.length then some (numB (l.take k), l.drop k) else none
noncomputable def textP (lim : Nat) : Prs (List UInt8) := open Classical in fun l => if textOk l lim then some ((l.drop 2).take (textLen l), (l.drop 2).drop (textLen l)) else none
theorem back_num (x k : Nat) (R : List UInt8) (h : x < 256 ^ k) : numP k (putB x k ++ R) = some (x, R) := by
  unfold numP
  rw [if_pos (by rw [List.length_append, putB_len]; omega), take_app _ _ k (putB_len x k), drop_app _ _ k (putB_len x k), numB_put, Nat.mod_eq_of_lt h]
theorem back_text (t R : List UInt8) (lim : Nat) (h : t.length ≤ lim) (hl : lim ≤ 65535) : textP lim (textB t ++ R) = some (t, R) := by
  have ht : t.take 65535 = t := List.take_of_length_le (by omega)
  have hm : min t.length 65535 = t.length := by omega
  have e : textB t ++ R = putB t.length 2 ++ (t ++ R) := by rw [textB, ht, hm, List.append_assoc]
  have hp := putB_len t.length 2
  have e1 : textLen (putB t.length 2 ++ (t ++ R)) = t.length := by
    rw [textLen, take_app _ _ 2 hp, numB_put]; exact Nat.mod_eq_of_lt (by omega)
  rw [e]
  unfold textP
  rw [if_pos (show textOk _ lim from ⟨by rw [List.length_append, hp]; omega, by rw [e1]; omega, by rw [e1, List.length_append, hp, List.length_append]; omega⟩), e1, drop_app _ _ 2 hp, take_app _ _ _ rfl, drop_app _ _ _ rfl]
end Go.Proofs.YtcfmifongbapkaaGreatDoor
