/- Contracts of txn's readKeys, writeKeys, risingKeys and formedValues. Conditions: the lists lie in memory, and are no longer than a million. Contract of txn.Formed. Conditions: the lists lie in memory, and are no longer than a million; the tables of utf8 lie there. Contracts of txn.Reads and Writes. Conditions: the configuration's and the transaction's lists lie in memory; the tables of utf8 lie there. -/
import Derived.Test.YtlkgpajpblhkeaaDoorGI
import Derived.Test.YtlkgpajpblhkeaaDoorGH
import Derived.Test.YtlkgpajpblhkeaaDoorQuorumList
import Derived.Test.YtlkgpajpblhkeaaDoorValueProg
import Derived.Test.YtlkgpajpblhkeaaDoorGB
/- TxnKeys -/
namespace Go.Proofs.YtlkgpajpblhkeaaDoor

open Go.RowKit

theorem Tryd.sInfo9 : (Tryd.prog.info? 9).map (fun i => (i.zero, i.size, i.bytes)) = some (some (.string ⟨#[]⟩), 1, 16) := by kernel_rfl
theorem str_one (u : ByteArray) : ∀ x ∈ [Value.string u], x.oneCell' = true := by
  intro x hx
  simp only [List.mem_cons, List.not_mem_nil, or_false] at hx
  subst hx; rfl
/-- What a loop holds: the list of texts made so far. -/
def MadeS (w wr : World) (v : Value) (l : List ByteArray) : Prop := wr.ownsRow w.heap.size 9 1 v l.length (l.map Value.string) ∧ Below w.heap.size w wr
section

variable {w wr w1 : World} {v v' : Value} {l : List ByteArray} {u : ByteArray} {o : Obj}

theorem MadeS.start (w : World) : MadeS w w (.slice none 0 0) [] := ⟨World.ownsRow_nil _ _ _ _, Below.refl _ _⟩
theorem MadeS.own (h : MadeS w wr v l) : wr.ownsRow w.heap.size 9 1 v l.length (l.map Value.string) := h.1
theorem MadeS.bel (h : MadeS w wr v l) : Below w.heap.size w wr := h.2
theorem MadeS.later (h : MadeS w wr v l) (hb : Below wr.heap.size wr w1) : MadeS w w1 v l := ⟨ownk_below h.1 hb, h.2.trans (hb.mono h.2.size)⟩
theorem MadeS.next (h : MadeS w wr v l) (ho : w1.ownsRow w.heap.size 9 1 v' (l.length + 1) (l.map Value.string ++ [.string u])) (hg : (wr.alloc o).grownBy w1 v.ownBlock) : MadeS w w1 v' (l ++ [u]) := by
  refine ⟨?_, ?_⟩
  · rw [List.map_append, List.length_append]; exact ho
  · have hs := h.2.size
    exact (h.2.alloc hs o).grown hg (by simp; omega) fun j hj => (h.1.lt j hj).1
/-- What a call that answers a new list of texts does. -/
def NewS (w : World) (l : List ByteArray) (e : Ending) (w' : World) : Prop := ∃ a cap, e = .returned (.slice a l.length cap) ∧ StrsAt w' w'.heap.size a l.length l ∧ (l.length ≤ cap ∧ cap ≤ maxLen) ∧ Below w.heap.size w w'
theorem MadeS.lies (h : MadeS w wr v l) : ∃ a cap, v = .slice a l.length cap ∧ StrsAt wr wr.heap.size a l.length l ∧ (l.length ≤ cap ∧ cap ≤ maxLen) := by
  obtain ⟨a, c, rfl, h1, h2⟩ := ownk_form h.1
  exact ⟨a, c, rfl, ⟨rfl, RowAt.of_own h.1⟩, h1, h2⟩
end

theorem RowAt.oneS (W : World) (u : ByteArray) (t : TypeId) : RowAt (W.alloc (.cells #[.string u] t)) (W.heap.size + 1) (some ⟨W.heap.size, 0, none⟩) 1 1 [.string u] := RowAt.one W #[.string u] t
theorem keysM_snoc (rs : List RdM) (k : Nat) (h : k < rs.length) : keysM (rs.take (k + 1)) = keysM (rs.take k) ++ [rs[k].1] := by
  unfold keysM; rw [List.take_succ_eq_append_getElem h, List.map_append]; rfl
theorem keysV_snoc (ws : List WrM) (k : Nat) (h : k < ws.length) : keysV (ws.take (k + 1)) = keysV (ws.take k) ++ [ws[k].key] := by
  unfold keysV; rw [List.take_succ_eq_append_getElem h, List.map_append]; rfl
theorem keysM_len (rs : List RdM) : (keysM rs).length = rs.length := by simp [keysM]
theorem keysV_len (ws : List WrM) : (keysV ws).length = ws.length := by simp [keysV]

set_option maxHeartbeats 1000000 in
theorem readKeys_any (a : Option Addr) (n c : Nat) (rs : List RdM) (w : World) (h : RdsAt w w.heap.size a n rs) (hn : n ≤ 1000000) :
    Calls Tryd.prog 42 #[.slice a n c] w (NewS w (keysM rs)) := by
  obtain ⟨iS, hi, hz0, hz1, hz2⟩ := info_parts Tryd.sInfo9
  have hlen := h.1
  have HA := Lib.hid h
  clear h
  go_enter Tryd.func42, Tryd.ntmps42
  go_wp2
  go_loopw [3, 8] (fun v i wr => ∃ k : Nat, k ≤ n ∧ i = .int .i64 k ∧ MadeS w wr v (keysM (rs.take k))) (fun _ i _ => n - (intOf i).toNat)
  case atStart => exact ⟨0, Nat.zero_le _, rfl, MadeS.start w⟩
  case round =>
    obtain ⟨k, hk, rfl, hM⟩ := hrel
    by_cases hlt : k < n
    · have hk1 : k < rs.length := by omega
      have HS := Lib.hid (keysM_snoc rs k hk1)
      have hll : (keysM (rs.take k)).length ≤ 1000000 := by rw [keysM_len, List.length_take]; omega
      obtain ⟨b, off, rfl, hbb, x0, x1⟩ := (HA.out.later hM.bel).at_ (i := k) hk1
      generalize rs[k] = x at *
      generalize keysM (rs.take k) = l at *
      obtain ⟨xk, xv⟩ := x
      have HM := Lib.hid (hM.later (one_box wr #[.string xk, .int .u64 ((xv : Nat) : Int)] 63))
      obtain ⟨y0, y1⟩ := (BoxC.new wr #[.string xk, .int .u64 ((xv : Nat) : Int)] 63).two
      clear hM
      go_upto_region 5 with (fail)
      generalize wr.alloc (.cells #[.string xk, .int .u64 ((xv : Nat) : Int)] 63) = W1 at *
      have hown := HM.out.own
      have hsz := HM.out.bel.size
      go_wp2_with (at_builtin; (refine wpList_append_rowk _ rfl _ _ 34 rfl w.heap.size 9 iS _ 1 16 Tryd.underlying34 hi hz0 hz1 hz2 rfl (by omega) _ l.length (l.map Value.string) rfl (hown.alloc _) (W1.heap.size + 1) (some ⟨W1.heap.size, 0, none⟩) 1 1 [.string xk] rfl (RowAt.oneS W1 xk _) (str_one _) (by unfold maxLen; omega) (by omega) (by simp; omega) ?_; intro v2 w2 ho2 hg2 hat2; have R := Lib.hid (HM.out.next ho2 hg2); clear ho2 hg2 hat2))
      go_roundw
      case rel => exact ⟨k + 1, by omega, by go_num, by rw [HS.out]; exact R.out⟩
      case measure => simp [intOf]; omega
    · have HQ : Hid (rs.take k = rs) := List.take_of_length_le (by omega)
      rw [HQ.out] at hM
      have hbel := hM.bel
      obtain ⟨a1, c1, rfl, hN⟩ := hM.lies
      clear hM
      go_wp2
      go_ret
      exact ⟨a1, c1, rfl, hN.1, hN.2, hbel⟩

set_option maxHeartbeats 1000000 in
theorem writeKeys_any (a : Option Addr) (n c : Nat) (ws : List WrM) (w : World) (h : WrsAt w w.heap.size a n ws) (hn : n ≤ 1000000) :
    Calls Tryd.prog 43 #[.slice a n c] w (NewS w (keysV ws)) := by
  obtain ⟨iS, hi, hz0, hz1, hz2⟩ := info_parts Tryd.sInfo9
  have hlen := h.1
  have HA := Lib.hid h
  clear h
  go_enter Tryd.func43, Tryd.ntmps43
  go_wp2
  go_loopw [3, 8] (fun v i wr => ∃ k : Nat, k ≤ n ∧ i = .int .i64 k ∧ MadeS w wr v (keysV (ws.take k))) (fun _ i _ => n - (intOf i).toNat)
  case atStart => exact ⟨0, Nat.zero_le _, rfl, MadeS.start w⟩
  case round =>
    obtain ⟨k, hk, rfl, hM⟩ := hrel
    by_cases hlt : k < n
    · have hk1 : k < ws.length := by omega
      have HS := Lib.hid (keysV_snoc ws k hk1)
      have hll : (keysV (ws.take k)).length ≤ 1000000 := by rw [keysV_len, List.length_take]; omega
      obtain ⟨b, off, rfl, hbb, x0, x1, x2, x3⟩ := (HA.out.later hM.bel).at_ (i := k) hk1
      generalize ws[k] = x at *
      generalize keysV (ws.take k) = l at *
      obtain ⟨xk, xa, xb, xt⟩ := x
      have HM := Lib.hid (hM.later (one_box wr #[.string xk, .int .i64 xa, .int .u64 ((xb : Nat) : Int), .string xt] 67))
      obtain ⟨y0, y1, y2, y3⟩ := (BoxC.new wr #[.string xk, .int .i64 xa, .int .u64 ((xb : Nat) : Int), .string xt] 67).four
      clear hM
      go_upto_region 5 with (fail)
      generalize wr.alloc (.cells #[.string xk, .int .i64 xa, .int .u64 ((xb : Nat) : Int), .string xt] 67) = W1 at *
      have hown := HM.out.own
      have hsz := HM.out.bel.size
      go_wp2_with (at_builtin; (refine wpList_append_rowk _ rfl _ _ 34 rfl w.heap.size 9 iS _ 1 16 Tryd.underlying34 hi hz0 hz1 hz2 rfl (by omega) _ l.length (l.map Value.string) rfl (hown.alloc _) (W1.heap.size + 1) (some ⟨W1.heap.size, 0, none⟩) 1 1 [.string xk] rfl (RowAt.oneS W1 xk _) (str_one _) (by unfold maxLen; omega) (by omega) (by simp; omega) ?_; intro v2 w2 ho2 hg2 hat2; have R := Lib.hid (HM.out.next ho2 hg2); clear ho2 hg2 hat2))
      go_roundw
      case rel => exact ⟨k + 1, by omega, by go_num, by rw [HS.out]; exact R.out⟩
      case measure => simp [intOf]; omega
    · have HQ : Hid (ws.take k = ws) := List.take_of_length_le (by omega)
      rw [HQ.out] at hM
      have hbel := hM.bel
      obtain ⟨a1, c1, rfl, hN⟩ := hM.lies
      clear hM
      go_wp2
      go_ret
      exact ⟨a1, c1, rfl, hN.1, hN.2, hbel⟩

/-- All texts are keys, strictly rising. -/
def riseB (L : List (List UInt8)) : Bool := L.all keyB && adjB L
theorem rise_key (L : List (List UInt8)) (k : Nat) (h : k < L.length) (hp : keyB L[k] = false) : riseB L = false := by unfold riseB; rw [all_bad keyB L k h hp]; rfl
theorem rise_adj (L : List (List UInt8)) (k : Nat) (h : k + 1 < L.length) (hp : leB L[k + 1] L[k] = true) : riseB L = false := by unfold riseB; rw [adj_bad L k h hp, Bool.and_false]
/-- The first k of them are. -/
def RiseP (L : List (List UInt8)) (k : Nat) : Prop := (L.take k).all keyB = true ∧ ∀ j (hj : j + 1 < L.length), j + 1 < k → leB L[j + 1] L[j] = false
theorem RiseP.start (L : List (List UInt8)) : RiseP L 0 := ⟨rfl, fun j _ h => by omega⟩
theorem RiseP.first (L : List (List UInt8)) (h : 0 < L.length) (hk : keyB L[0] = true) : RiseP L 1 := ⟨all_next keyB L 0 h rfl hk, fun j _ h => by omega⟩
theorem RiseP.next {L : List (List UInt8)} {k : Nat} (h : RiseP L (k + 1)) (hl : k + 1 < L.length) (hk : keyB L[k + 1] = true) (ha : leB L[k + 1] L[k] = false) : RiseP L (k + 1 + 1) := by
  refine ⟨all_next keyB L (k + 1) hl h.1 hk, fun j hj hlt => ?_⟩
  by_cases e : j = k
  · subst e; exact ha
  · exact h.2 j hj (by omega)
theorem RiseP.done {L : List (List UInt8)} {k : Nat} (h : RiseP L k) (hl : L.length ≤ k) : riseB L = true := by
  unfold riseB
  rw [all_done keyB L k hl h.1, adj_all L fun j hj => h.2 j hj (by omega)]; rfl

set_option maxHeartbeats 1000000 in
theorem rising_any (a : Option Addr) (n c B : Nat) (Bs : List ByteArray) (w : World) (h : StrsAt w B a n Bs) (hs : ∀ z ∈ Bs, z.size ≤ maxLen) (hn : n ≤ 1000000) :
    Calls Tryd.prog 41 #[.slice a n c] w fun e w' => e = .returned (.bool (riseB (txt Bs))) ∧ w = w' := by
  have hlen := h.1
  have hsl := txt_len Bs
  have HB := Lib.hid h
  have HS := Lib.hid hs
  clear h hs
  go_enter Tryd.func41, Tryd.ntmps41
  go_wp2
  go_loop [7] (fun i => ∃ k : Nat, k ≤ n ∧ i = .int .i64 k ∧ RiseP (txt Bs) k) (fun i => n - (intOf i).toNat)
  case atStart => exact ⟨0, Nat.zero_le _, rfl, RiseP.start _⟩
  case round =>
    obtain ⟨k, hk, rfl, ht⟩ := hrel
    have HT := Lib.hid ht
    clear ht
    by_cases hlt : k < n
    · have hl : k < Bs.length := by omega
      have hl' : k < (txt Bs).length := by omega
      have cK := fun W => key_same Bs[k] W (HS.out _ (List.getElem_mem hl))
      have hbad : keyB Bs[k].data.toList = false → Hid (riseB (txt Bs) = false) := fun e => rise_key (txt Bs) k hl' (by rw [txt_get Bs k hl]; exact e)
      cases hz : keyB Bs[k].data.toList
      · rw [hz] at cK
        have Q := hbad hz
        obtain ⟨b, off, rfl, _, hc⟩ := HB.out.at_ hl
        clear hbad hz HT
        generalize Bs[k] = z at *
        go_wp2_with (go_at_call 70; ((with_reducible refine (cK _).mono ?_); rintro e w' ⟨rfl, rfl⟩))
        go_ret
        exact ⟨by rw [Q.out]; rfl, rfl⟩
      · rw [hz] at cK
        clear hbad
        cases k with
        | zero =>
          have Q := Lib.hid (RiseP.first (txt Bs) hl' (by rw [txt_get Bs 0 hl]; exact hz))
          obtain ⟨b, off, rfl, _, hc⟩ := HB.out.at_ hl
          rw [Nat.add_zero] at hc
          clear hz HT
          generalize Bs[0] = z at *
          go_wp2_with (go_at_call 70; ((with_reducible refine (cK _).mono ?_); rintro e w' ⟨rfl, rfl⟩))
          go_round
          case rel => exact ⟨1, by omega, by go_num, Q.out⟩
          case measure => simp [intOf]; omega
        | succ k =>
          have hgood : leB Bs[k + 1].data.toList (Bs[k]'(by omega)).data.toList = false → Hid (RiseP (txt Bs) (k + 1 + 1)) := fun e => HT.out.next hl' (by rw [txt_get Bs (k + 1) hl]; exact hz) (by rw [txt_get Bs (k + 1) hl, txt_get Bs k (by omega)]; exact e)
          have hbad : leB Bs[k + 1].data.toList (Bs[k]'(by omega)).data.toList = true → Hid (riseB (txt Bs) = false) := fun e => rise_adj (txt Bs) k hl' (by rw [txt_get Bs (k + 1) hl, txt_get Bs k (by omega)]; exact e)
          obtain ⟨b, off, rfl, _, hc⟩ := HB.out.at_ (i := k) (by omega)
          obtain ⟨b', off', e1, _, hc'⟩ := HB.out.at_ (i := k + 1) hl
          injection e1 with e1
          injection e1 with e1 e2
          subst e1; subst e2
          generalize Bs[k]'(by omega) = x at *
          generalize Bs[k + 1] = y at *
          have hE := ltS x y
          have e5 : (((k + 1 : Nat) : Int)) = (k : Int) + 1 := by omega
          have hw : IntKind.i64.wrap (k : Int) = k := by rw [IntKind.wrap_i64]; omega
          clear hz HT
          cases hz : leB y.data.toList x.data.toList
          · rw [hz] at hE
            have Q := hgood hz
            clear hgood hbad hz
            go_wp2_with (go_at_call 70; ((with_reducible refine (cK _).mono ?_); rintro e w' ⟨rfl, rfl⟩))
            go_round
            case rel => exact ⟨k + 1 + 1, by omega, by go_num, Q.out⟩
            case measure => simp [intOf]; omega
          · rw [hz] at hE
            have Q := hbad hz
            clear hgood hbad hz
            go_wp2_with (go_at_call 70; ((with_reducible refine (cK _).mono ?_); rintro e w' ⟨rfl, rfl⟩))
            go_ret
            exact ⟨by rw [Q.out]; rfl, rfl⟩
    · have Q := Lib.hid (HT.out.done (by omega))
      go_wp2
      go_ret
      exact ⟨by rw [Q.out]; rfl, rfl⟩

def valsB (ws : List WrM) : Bool := ws.all fun x => formedB (valM x)
set_option maxHeartbeats 1000000 in
theorem values_any (a : Option Addr) (n c : Nat) (ws : List WrM) (w : World) (h : WrsAt w w.heap.size a n ws) (ho : ∀ x ∈ ws, WrOk x) (hn : n ≤ 1000000) (hT : Tabs w) :
    Calls Tryd.prog 44 #[.slice a n c] w (Says w (valsB ws)) := by
  have hlen := h.1
  have HA := Lib.hid h
  have HO := Lib.hid ho
  have HU := Lib.hid hT
  clear h ho hT
  go_enter Tryd.func44, Tryd.ntmps44
  go_wp2
  go_loopw [7] (fun i wr => ∃ k : Nat, k ≤ n ∧ i = .int .i64 k ∧ (ws.take k).all (fun x => formedB (valM x)) = true ∧ Below w.heap.size w wr) (fun i _ => n - (intOf i).toNat)
  case atStart => exact ⟨0, Nat.zero_le _, rfl, rfl, Below.refl _ _⟩
  case round =>
    obtain ⟨k, hk, rfl, ht, hM⟩ := hrel
    by_cases hlt : k < n
    · have hk1 : k < ws.length := by omega
      have hbad := fun e => Lib.hid (all_bad (fun x => formedB (valM x)) ws k hk1 e)
      have hgood := fun e => Lib.hid (all_next (fun x => formedB (valM x)) ws k hk1 ht e)
      have hO := HO.out _ (List.getElem_mem hk1)
      obtain ⟨b, off, rfl, hbb, x0, x1, x2, x3⟩ := (HA.out.later hM).at_ (i := k) hk1
      clear ht
      generalize ws[k] = x at *
      obtain ⟨xk, xa, xb, xt⟩ := x
      have HM := Lib.hid (hM.trans ((one_box wr #[.string xk, .int .i64 xa, .int .u64 ((xb : Nat) : Int), .string xt] 67).mono hM.size))
      obtain ⟨y0, y1, y2, y3⟩ := (BoxC.new wr #[.string xk, .int .i64 xa, .int .u64 ((xb : Nat) : Int), .string xt] 67).four
      have cF := formed_any xa xb xt _ hO.2.1 hO.2.2 (HU.out.below HM.out)
      clear hM hO
      cases hz : formedB ⟨xa, xb, xt.data.toList⟩
      · rw [hz] at cF
        have Q := hbad hz
        clear hgood hbad hz
        go_upto_region 4 with (fail)
        generalize wr.alloc (.cells #[.string xk, .int .i64 xa, .int .u64 ((xb : Nat) : Int), .string xt] 67) = W1 at *
        go_wp2_with (go_at_call 71; ((with_reducible refine cF.mono ?_); rintro e w2 ⟨rfl, hb2⟩; have H2 := Lib.hid (HM.out.trans (hb2.mono HM.out.size))))
        go_ret
        exact ⟨by rw [valsB, Q.out]; rfl, H2.out⟩
      · rw [hz] at cF
        have Q := hgood hz
        clear hgood hbad hz
        go_upto_region 4 with (fail)
        generalize wr.alloc (.cells #[.string xk, .int .i64 xa, .int .u64 ((xb : Nat) : Int), .string xt] 67) = W1 at *
        go_wp2_with (go_at_call 71; ((with_reducible refine cF.mono ?_); rintro e w2 ⟨rfl, hb2⟩; have H2 := Lib.hid (HM.out.trans (hb2.mono HM.out.size))))
        go_roundw
        case rel => exact ⟨k + 1, by omega, by go_num, Q.out, H2.out⟩
        case measure => simp [intOf]; omega
    · have Q := Lib.hid (all_done (fun x => formedB (valM x)) ws k (by omega) ht)
      clear ht
      go_wp2
      go_ret
      exact ⟨by rw [valsB, Q.out]; rfl, hM⟩
end Go.Proofs.YtlkgpajpblhkeaaDoor

/- TxnFormed -/
namespace Go.Proofs.YtlkgpajpblhkeaaDoor

open Go.RowKit

theorem vals_all (i : IdN) (rs : List RdM) (ws : List WrM) : ((txT i rs ws).ws.all fun x => formedB x.2) = valsB ws := by
  unfold txT txW valsB
  rw [List.all_map]; rfl
theorem form_len (i : IdN) (rs : List RdM) (ws : List WrM) (h : idB i = false ∨ 6 < rs.length ∨ 6 < ws.length ∨ (rs.length = 0 ∧ ws.length = 0)) : formT formedB (txT i rs ws) = false := by
  cases e : formT formedB (txT i rs ws)
  · rfl
  · have hf := (formT_iff _ _).1 e
    have h1 := hf.id
    have h2 := hf.rlen
    have h3 := hf.wlen
    have h4 := hf.some
    simp only [txT, txR, txW, List.length_map] at h1 h2 h3 h4
    rcases h with h | h | h | h
    · rw [h] at h1; cases h1
    · omega
    · omega
    · omega
theorem form_parts (i : IdN) (rs : List RdM) (ws : List WrM) (hi : idB i = true) (h1 : rs.length ≤ 6) (h2 : ws.length ≤ 6) (h3 : ¬ (rs.length = 0 ∧ ws.length = 0)) :
    formT formedB (txT i rs ws) = (riseB (txt (keysM rs)) && (riseB (txt (keysV ws)) && valsB ws)) := by
  have e1 : idB (txT i rs ws).id = true := hi
  have e2 : (txT i rs ws).rs.length = rs.length := by simp [txT, txR]
  have e3 : (txT i rs ws).ws.length = ws.length := by simp [txT, txW]
  have e4 : (decide (rs.length = 0) && decide (ws.length = 0)) = false := by
    rw [Bool.and_eq_false_iff, decide_eq_false_iff_not, decide_eq_false_iff_not]; omega
  unfold formT
  rw [e1, e2, e3, decide_eq_true h1, decide_eq_true h2, e4, keysM_txt, keysV_txt, vals_all]
  unfold riseB
  cases (txt (keysM rs)).all keyB <;> cases adjB (txt (keysM rs)) <;> cases (txt (keysV ws)).all keyB <;> cases adjB (txt (keysV ws)) <;> cases valsB ws <;> rfl
theorem keysM_ok {rs : List RdM} (h : ∀ x ∈ rs, RdOk x) : ∀ z ∈ keysM rs, z.size ≤ maxLen := by
  intro z hz
  obtain ⟨x, hx, rfl⟩ := List.mem_map.1 hz
  exact (h x hx).1
theorem keysV_ok {ws : List WrM} (h : ∀ x ∈ ws, WrOk x) : ∀ z ∈ keysV ws, z.size ≤ maxLen := by
  intro z hz
  obtain ⟨x, hx, rfl⟩ := List.mem_map.1 hz
  exact (h x hx).1

set_option maxHeartbeats 1000000 in
theorem tFormed_any (s q : Int) (a : Option Addr) (n c : Nat) (b : Option Addr) (m d : Nat) (rs : List RdM) (ws : List WrM) (w : World) (h : TxAt w a n b m rs ws) (hU : Tabs w) :
    Calls Tryd.prog 10 #[.agg (txV s q a n c b m d)] w (Says w (formT formedB (txT (s, q) rs ws))) := by
  have H0 := Lib.hid ((Boxs.start w).more (txV s q a n c b m d) 27)
  have HT := Lib.hid h
  have HU := Lib.hid hU
  have hl := h.lenR
  have hk := h.lenW
  have cI := fun W => tId_any s q W
  obtain ⟨x0, x1, x2, x3⟩ := (H0.out.get 0 _ _ _ rfl).four
  clear h hU
  cases hI : idB (s, q)
  · rw [hI] at cI
    have Q := Lib.hid (form_len (s, q) rs ws (.inl hI))
    clear hI
    go_enter Tryd.func10, Tryd.ntmps10
    go_wp2_with (go_at_call 12; ((with_reducible refine (cI _).mono ?_); rintro e w1 ⟨rfl, hb1⟩; have H1 := Lib.hid (H0.out.below hb1)))
    go_ret
    exact ⟨by rw [Q.out]; rfl, H1.out.bel⟩
  rw [hI] at cI
  by_cases hn : 6 < n
  · have Q := Lib.hid (form_len (s, q) rs ws (.inr (.inl (by omega))))
    have d1 : decide ((6 : Int) < (n : Int)) = true := by simp; omega
    clear hI
    go_enter Tryd.func10, Tryd.ntmps10
    go_wp2_with (go_at_call 12; ((with_reducible refine (cI _).mono ?_); rintro e w1 ⟨rfl, hb1⟩; have H1 := Lib.hid (H0.out.below hb1); (clear x0 x1 x2 x3); obtain ⟨x0, x1, x2, x3⟩ := (H1.out.get 0 _ _ _ rfl).four))
    go_ret
    exact ⟨by rw [Q.out]; rfl, H1.out.bel⟩
  have d1 : decide ((6 : Int) < (n : Int)) = false := by simp; omega
  by_cases hm : 6 < m
  · have Q := Lib.hid (form_len (s, q) rs ws (.inr (.inr (.inl (by omega)))))
    have d2 : decide ((6 : Int) < (m : Int)) = true := by simp; omega
    clear hI
    go_enter Tryd.func10, Tryd.ntmps10
    go_wp2_with (go_at_call 12; ((with_reducible refine (cI _).mono ?_); rintro e w1 ⟨rfl, hb1⟩; have H1 := Lib.hid (H0.out.below hb1); (clear x0 x1 x2 x3); obtain ⟨x0, x1, x2, x3⟩ := (H1.out.get 0 _ _ _ rfl).four))
    go_ret
    exact ⟨by rw [Q.out]; rfl, H1.out.bel⟩
  have d2 : decide ((6 : Int) < (m : Int)) = false := by simp; omega
  by_cases h0 : n + m = 0
  · have Q := Lib.hid (form_len (s, q) rs ws (.inr (.inr (.inr (by omega)))))
    have d3 : ((n : Int) + (m : Int) == 0) = true := by simp; omega
    clear hI
    go_enter Tryd.func10, Tryd.ntmps10
    go_wp2_with (go_at_call 12; ((with_reducible refine (cI _).mono ?_); rintro e w1 ⟨rfl, hb1⟩; have H1 := Lib.hid (H0.out.below hb1); (clear x0 x1 x2 x3); obtain ⟨x0, x1, x2, x3⟩ := (H1.out.get 0 _ _ _ rfl).four))
    go_ret
    exact ⟨by rw [Q.out]; rfl, H1.out.bel⟩
  have d3 : ((n : Int) + (m : Int) == 0) = false := by simp; omega
  rw [form_parts (s, q) rs ws hI (by omega) (by omega) (by omega)]
  have cK := fun W (hW : Below w.heap.size w W) => readKeys_any a n c rs W (HT.out.later hW).rds (by omega)
  have cK' := fun W (hW : Below w.heap.size w W) => writeKeys_any b m d ws W (HT.out.later hW).wrs (by omega)
  have cV := fun W (hW : Below w.heap.size w W) => values_any b m d ws W (HT.out.later hW).wrs HT.out.okW (by omega) (HU.out.below hW)
  have HR := Lib.hid (fun a1 c1 W (hW : StrsAt W W.heap.size a1 (keysM rs).length (keysM rs)) => rising_any a1 (keysM rs).length c1 _ (keysM rs) W hW (keysM_ok HT.out.okR) (by rw [keysM_len]; omega))
  have HR' := Lib.hid (fun a1 c1 W (hW : StrsAt W W.heap.size a1 (keysV ws).length (keysV ws)) => rising_any a1 (keysV ws).length c1 _ (keysV ws) W hW (keysV_ok HT.out.okW) (by rw [keysV_len]; omega))
  clear hI
  cases h1 : riseB (txt (keysM rs))
  · rw [h1] at HR
    clear h1
    go_enter Tryd.func10, Tryd.ntmps10
    go_wp2_with (first | (go_at_call 12; ((with_reducible refine (cI _).mono ?_); rintro e w1 ⟨rfl, hb1⟩; have H1 := Lib.hid (H0.out.below hb1); (clear x0 x1 x2 x3); obtain ⟨x0, x1, x2, x3⟩ := (H1.out.get 0 _ _ _ rfl).four)) | (go_at_call 42; ((with_reducible refine (cK _ H1.out.bel).mono ?_); rintro e w2 ⟨a1, c1, rfl, hS, _, hb2⟩; have H2 := Lib.hid (H1.out.below hb2); have cR := HR.out a1 c1 w2 hS; (clear x0 x1 x2 x3))) | (go_at_call 41; ((with_reducible refine cR.mono ?_); rintro e w3 ⟨rfl, rfl⟩)))
    go_ret
    exact ⟨rfl, H2.out.bel⟩
  rw [h1] at HR
  clear h1
  cases h2 : riseB (txt (keysV ws))
  · rw [h2] at HR'
    clear h2
    go_enter Tryd.func10, Tryd.ntmps10
    go_wp2_with (first | (go_at_call 12; ((with_reducible refine (cI _).mono ?_); rintro e w1 ⟨rfl, hb1⟩; have H1 := Lib.hid (H0.out.below hb1); (clear x0 x1 x2 x3); obtain ⟨x0, x1, x2, x3⟩ := (H1.out.get 0 _ _ _ rfl).four)) | (go_at_call 42; ((with_reducible refine (cK _ H1.out.bel).mono ?_); rintro e w2 ⟨a1, c1, rfl, hS, _, hb2⟩; have H2 := Lib.hid (H1.out.below hb2); have cR := HR.out a1 c1 w2 hS; (clear x0 x1 x2 x3); obtain ⟨x0, x1, x2, x3⟩ := (H2.out.get 0 _ _ _ rfl).four)) | (go_at_call 41; ((with_reducible refine cR.mono ?_); rintro e w3 ⟨rfl, rfl⟩)) | (go_at_call 43; ((with_reducible refine (cK' _ H2.out.bel).mono ?_); rintro e w4 ⟨a2, c2, rfl, hS2, _, hb4⟩; have H4 := Lib.hid (H2.out.below hb4); have cR' := HR'.out a2 c2 w4 hS2; (clear x0 x1 x2 x3))) | (go_at_call 41; ((with_reducible refine cR'.mono ?_); rintro e w5 ⟨rfl, rfl⟩)))
    go_ret
    exact ⟨rfl, H4.out.bel⟩
  rw [h2] at HR'
  clear h2
  go_enter Tryd.func10, Tryd.ntmps10
  go_wp2_with (first | (go_at_call 12; ((with_reducible refine (cI _).mono ?_); rintro e w1 ⟨rfl, hb1⟩; have H1 := Lib.hid (H0.out.below hb1); (clear x0 x1 x2 x3); obtain ⟨x0, x1, x2, x3⟩ := (H1.out.get 0 _ _ _ rfl).four)) | (go_at_call 42; ((with_reducible refine (cK _ H1.out.bel).mono ?_); rintro e w2 ⟨a1, c1, rfl, hS, _, hb2⟩; have H2 := Lib.hid (H1.out.below hb2); have cR := HR.out a1 c1 w2 hS; (clear x0 x1 x2 x3); obtain ⟨x0, x1, x2, x3⟩ := (H2.out.get 0 _ _ _ rfl).four)) | (go_at_call 41; ((with_reducible refine cR.mono ?_); rintro e w3 ⟨rfl, rfl⟩)) | (go_at_call 43; ((with_reducible refine (cK' _ H2.out.bel).mono ?_); rintro e w4 ⟨a2, c2, rfl, hS2, _, hb4⟩; have H4 := Lib.hid (H2.out.below hb4); have cR' := HR'.out a2 c2 w4 hS2; (clear x0 x1 x2 x3); obtain ⟨x0, x1, x2, x3⟩ := (H4.out.get 0 _ _ _ rfl).four)) | (go_at_call 41; ((with_reducible refine cR'.mono ?_); rintro e w5 ⟨rfl, rfl⟩)) | (go_at_call 44; ((with_reducible refine (cV _ H4.out.bel).mono ?_); rintro e w6 ⟨rfl, hb6⟩; have H6 := Lib.hid (H4.out.below hb6))))
  go_ret
  exact ⟨rfl, H6.out.bel⟩
end Go.Proofs.YtlkgpajpblhkeaaDoor

/- TxnCut -/
namespace Go.Proofs.YtlkgpajpblhkeaaDoor

open Go.RowKit

set_option linter.unusedVariables false

theorem Tryd.rInfo63 : (Tryd.prog.info? 63).map (fun i => (i.zero, i.size, i.bytes)) = some (some (.agg #[.string ⟨#[]⟩, .int .u64 0]), 2, 24) := by kernel_rfl
theorem Tryd.rInfo67 : (Tryd.prog.info? 67).map (fun i => (i.zero, i.size, i.bytes)) = some (some (.agg #[.string ⟨#[]⟩, .int .i64 0, .int .u64 0, .string ⟨#[]⟩]), 4, 48) := by kernel_rfl
theorem RowAt.oneR (W : World) (x : RdM) (t : TypeId) : RowAt (W.alloc (.cells #[.string x.1, .int .u64 ((x.2 : Nat) : Int)] t)) (W.heap.size + 1) (some ⟨W.heap.size, 0, none⟩) 1 2 (readC x) := RowAt.one W #[.string x.1, .int .u64 ((x.2 : Nat) : Int)] t
theorem RowAt.oneW (W : World) (x : WrM) (t : TypeId) : RowAt (W.alloc (.cells #[.string x.key, .int .i64 x.k, .int .u64 ((x.b : Nat) : Int), .string x.t] t)) (W.heap.size + 1) (some ⟨W.heap.size, 0, none⟩) 1 4 (writeC x) := RowAt.one W #[.string x.key, .int .i64 x.k, .int .u64 ((x.b : Nat) : Int), .string x.t] t
/-- Those of a list whose keys are the group's. -/
def cutM {α : Type} (key : α → ByteArray) (L : List (List UInt8)) (g : Int) (l : List α) : List α := l.filter fun x => decide (((homeC L (key x).data.toList : Nat) : Int) = g)
theorem cutM_yes {α : Type} (key : α → ByteArray) (L : List (List UInt8)) (g : Int) (l : List α) (k : Nat) (h : k < l.length) (e : ((homeC L (key l[k]).data.toList : Nat) : Int) = g) : cutM key L g (l.take (k + 1)) = cutM key L g (l.take k) ++ [l[k]] := by
  unfold cutM; rw [List.take_succ_eq_append_getElem h, List.filter_append]; simp [e]
theorem cutM_no {α : Type} (key : α → ByteArray) (L : List (List UInt8)) (g : Int) (l : List α) (k : Nat) (h : k < l.length) (e : ¬ ((homeC L (key l[k]).data.toList : Nat) : Int) = g) : cutM key L g (l.take (k + 1)) = cutM key L g (l.take k) := by
  unfold cutM; rw [List.take_succ_eq_append_getElem h, List.filter_append]; simp [e]
theorem cutM_len {α : Type} (key : α → ByteArray) (L : List (List UInt8)) (g : Int) (l : List α) : (cutM key L g l).length ≤ l.length := List.length_filter_le _ _
/-- Both are formed. -/
def bothB (R : List Int) (Bs : List ByteArray) (t : Tx Val) : Bool := formedC R (txt Bs) && formT formedB t
def readsM (R : List Int) (Bs : List ByteArray) (i : IdN) (rs : List RdM) (ws : List WrM) (g : Int) : List RdM := if bothB R Bs (txT i rs ws) = true then cutM (fun x : RdM => x.1) (txt Bs) g rs else []
def writesM (R : List Int) (Bs : List ByteArray) (i : IdN) (rs : List RdM) (ws : List WrM) (g : Int) : List WrM := if bothB R Bs (txT i rs ws) = true then cutM (fun x : WrM => x.key) (txt Bs) g ws else []

set_option maxHeartbeats 1000000 in
theorem both_any (ca : Option Addr) (cn cc : Nat) (cb : Option Addr) (cm cd : Nat) (R : List Int) (Bs : List ByteArray) (s q : Int) (a : Option Addr) (n c : Nat) (b : Option Addr) (m d : Nat) (rs : List RdM) (ws : List WrM) (w : World) (hC : CfgAt w ca cn cb cm R Bs) (hX : TxAt w a n b m rs ws) (hU : Tabs w) :
    Calls Tryd.prog 49 #[.agg #[.slice ca cn cc, .slice cb cm cd], .agg (txV s q a n c b m d)] w (Says w (bothB R Bs (txT (s, q) rs ws))) := by
  have H0 := Lib.hid (((Boxs.start w).more #[.slice ca cn cc, .slice cb cm cd] 36).more (txV s q a n c b m d) 27)
  have hs : (w.alloc (.cells #[.slice ca cn cc, .slice cb cm cd] 36)).heap.size = w.heap.size + 1 := by simp
  rw [hs] at H0
  have c1 := cFormed_any ca cn cc cb cm cd R Bs _ (hC.later H0.out.bel)
  have c2 := fun W (hW : Below w.heap.size w W) => tFormed_any s q a n c b m d rs ws W (hX.later hW) (hU.below hW)
  obtain ⟨x0, x1, x2, x3⟩ := (H0.out.get 0 _ _ _ rfl).four
  obtain ⟨y0, y1⟩ := (H0.out.get 1 _ _ _ rfl).two
  clear hC hX hU hs
  unfold bothB
  cases hf : formedC R (txt Bs)
  · rw [hf] at c1
    clear hf
    go_enter Tryd.func49, Tryd.ntmps49
    go_wp2_with (go_at_call 74; ((with_reducible refine c1.mono ?_); rintro e w1 ⟨rfl, hb1⟩; have H1 := Lib.hid (H0.out.below hb1)))
    go_ret
    exact ⟨rfl, H1.out.bel⟩
  · rw [hf] at c1
    clear hf
    go_enter Tryd.func49, Tryd.ntmps49
    go_wp2_with (first | (go_at_call 74; ((with_reducible refine c1.mono ?_); rintro e w1 ⟨rfl, hb1⟩; have H1 := Lib.hid (H0.out.below hb1); (clear x0 x1 x2 x3 y0 y1); obtain ⟨x0, x1, x2, x3⟩ := (H1.out.get 0 _ _ _ rfl).four)) | (go_at_call 10; ((with_reducible refine (c2 _ H1.out.bel).mono ?_); rintro e w2 ⟨rfl, hb2⟩; have H2 := Lib.hid (H1.out.below hb2))))
    go_ret
    exact ⟨rfl, H2.out.bel⟩

set_option maxHeartbeats 2000000 in
theorem tReads_any (ca : Option Addr) (cn cc : Nat) (cb : Option Addr) (cm cd : Nat) (R : List Int) (Bs : List ByteArray) (s q : Int) (a : Option Addr) (n c : Nat) (b : Option Addr) (m d : Nat) (rs : List RdM) (ws : List WrM) (g : Int) (w : World) (hC : CfgAt w ca cn cb cm R Bs) (hX : TxAt w a n b m rs ws) (hU : Tabs w) :
    Calls Tryd.prog 19 #[.agg #[.slice ca cn cc, .slice cb cm cd], .agg (txV s q a n c b m d), .int .i64 g] w (NewL readC 2 w (readsM R Bs (s, q) rs ws g)) := by
  obtain ⟨iR, hi, hz0, hz1, hz2⟩ := info_parts Tryd.rInfo63
  have H0 := Lib.hid (((Boxs.start w).more #[.slice ca cn cc, .slice cb cm cd] 36).more (txV s q a n c b m d) 27)
  have hs : (w.alloc (.cells #[.slice ca cn cc, .slice cb cm cd] 36)).heap.size = w.heap.size + 1 := by simp
  rw [hs] at H0
  have cB := both_any ca cn cc cb cm cd R Bs s q a n c b m d rs ws _ (hC.later H0.out.bel) (hX.later H0.out.bel) (hU.below H0.out.bel)
  have HX := Lib.hid hX
  have hl := hX.lenR
  have cH := fun z W (hW : Below w.heap.size w W) => cHome_any ca cn cc cb cm cd R Bs z W (hC.later hW)
  obtain ⟨x0, x1, x2, x3⟩ := (H0.out.get 0 _ _ _ rfl).four
  obtain ⟨y0, y1⟩ := (H0.out.get 1 _ _ _ rfl).two
  clear hX hU hs
  unfold readsM
  cases hB : bothB R Bs (txT (s, q) rs ws)
  · rw [hB] at cB
    clear hB hC
    rw [if_neg (by decide)]
    go_enter Tryd.func19, Tryd.ntmps19
    go_wp2_with (go_at_call 49; ((with_reducible refine cB.mono ?_); rintro e w1 ⟨rfl, hb1⟩; have H1 := Lib.hid (H0.out.below hb1)))
    go_ret
    exact NewL.none H1.out.bel
  · rw [hB] at cB
    rw [if_pos rfl]
    have hF : formedC R (txt Bs) = true := by unfold bothB at hB; rw [Bool.and_eq_true] at hB; exact hB.1
    have hT : formT formedB (txT (s, q) rs ws) = true := by unfold bothB at hB; rw [Bool.and_eq_true] at hB; exact hB.2
    have h6 : n ≤ 6 := by
      have := ((formT_iff _ _).1 hT).rlen
      simp only [txT, txR, List.length_map] at this; omega
    have HH : Hid (∀ z : ByteArray, homeI R (txt Bs) z.data.toList = (homeC (txt Bs) z.data.toList : Nat)) := fun z => home_of hF _
    clear hB hC hF hT
    go_enter Tryd.func19, Tryd.ntmps19
    go_wp2_with (go_at_call 49; ((with_reducible refine cB.mono ?_); rintro e w1 ⟨rfl, hb1⟩; have H1 := Lib.hid (H0.out.below hb1); (clear x0 x1 x2 x3 y0 y1); obtain ⟨x0, x1, x2, x3⟩ := (H1.out.get 0 _ _ _ rfl).four))
    go_loopw [7, 17] (fun v i wr => ∃ k : Nat, k ≤ n ∧ i = .int .i64 k ∧ MadeL readC 2 63 w wr v (cutM (fun x : RdM => x.1) (txt Bs) g (rs.take k)) [(w.heap.size + 1, txV s q a n c b m d, 27), (w.heap.size, #[.slice ca cn cc, .slice cb cm cd], 36)]) (fun _ i _ => n - (intOf i).toNat)
    case atStart => exact ⟨0, Nat.zero_le _, rfl, MadeL.start H1.out⟩
    case round =>
      obtain ⟨k, hk, rfl, hM⟩ := hrel
      by_cases hlt : k < n
      · have hk1 : k < rs.length := by omega
        have HY : ((homeC (txt Bs) ((fun x : RdM => x.1) rs[k]).data.toList : Nat) : Int) = g → Hid _ := fun e => Lib.hid (cutM_yes (fun x : RdM => x.1) (txt Bs) g rs k hk1 e)
        have HN : ¬ ((homeC (txt Bs) ((fun x : RdM => x.1) rs[k]).data.toList : Nat) : Int) = g → Hid _ := fun e => Lib.hid (cutM_no (fun x : RdM => x.1) (txt Bs) g rs k hk1 e)
        have hll : (cutM (fun x : RdM => x.1) (txt Bs) g (rs.take k)).length ≤ 6 := by have h1 := cutM_len (fun x : RdM => x.1) (txt Bs) g (rs.take k); rw [List.length_take] at h1; omega
        obtain ⟨b0, off, rfl, hbb, x0, x1⟩ := (HX.out.later hM.bel).rds.at_ (i := k) hk1
        generalize rs[k] = x at *
        generalize cutM (fun x : RdM => x.1) (txt Bs) g (rs.take k) = l at *
        obtain ⟨xk, xv⟩ := x
        have M1 := Lib.hid (hM.more #[.string xk, .int .u64 ((xv : Nat) : Int)] 63)
        clear hM H0 H1 hb1 cB
        go_upto_region 7 with (fail)
        have hgs : wr.heap.size < (wr.alloc (.cells #[.string xk, .int .u64 ((xv : Nat) : Int)] 63)).heap.size := by simp
        generalize wr.alloc (.cells #[.string xk, .int .u64 ((xv : Nat) : Int)] 63) = W1 at *
        generalize wr.heap.size = G at *
        have cH1 := cH xk W1 M1.out.bel
        rw [HH.out xk] at cH1
        obtain ⟨y0, y1⟩ := (M1.out.boxs.get 0 _ _ _ rfl).two
        obtain ⟨u0, u1⟩ := (M1.out.boxs.get 2 _ _ _ rfl).two
        by_cases hg : ((homeC (txt Bs) xk.data.toList : Nat) : Int) = g
        · have Q := HY hg
          have p1 : (((homeC (txt Bs) xk.data.toList : Nat) : Int) == g) = true := by simpa using hg
          clear HY HN hg
          go_wp2_with (first | (go_at_call 50; ((with_reducible refine cH1.mono ?_); rintro e w2 ⟨rfl, hb2⟩; have M2 := Lib.hid (M1.out.below hb2); (clear y0 y1 u0 u1); obtain ⟨y0, y1⟩ := (M2.out.boxs.get 0 _ _ _ rfl).two)) | (at_builtin; (refine wpList_append_rowk _ rfl _ _ 24 rfl w.heap.size 63 iR _ 2 24 Tryd.underlying24 hi hz0 hz1 hz2 rfl (by omega) _ l.length (l.flatMap readC) rfl (M2.out.own.alloc _) (w2.heap.size + 1) (some ⟨w2.heap.size, 0, none⟩) 1 1 (readC (xk, xv)) rfl (RowAt.oneR w2 (xk, xv) _) (readC_cells _) (by unfold maxLen; omega) (by omega) (by have := M2.out.bel.size; simp; omega) ?_; intro v3 w3 ho3 hg3 hat3; have M3 := Lib.hid (M2.out.tail.push ho3 hg3 hat3); clear ho3 hg3 hat3)))
          go_roundw
          case rel => exact ⟨k + 1, by omega, by go_num, by rw [Q.out]; exact M3.out⟩
          case measure => simp [intOf]; omega
        · have Q := HN hg
          have p1 : (((homeC (txt Bs) xk.data.toList : Nat) : Int) == g) = false := by simpa using hg
          clear HY HN hg
          go_wp2_with (go_at_call 50; ((with_reducible refine cH1.mono ?_); rintro e w2 ⟨rfl, hb2⟩; have M2 := Lib.hid (M1.out.below hb2)))
          go_roundw
          case rel => exact ⟨k + 1, by omega, by go_num, by rw [Q.out]; exact M2.out.tail⟩
          case measure => simp [intOf]; omega
      · have HQ : Hid (rs.take k = rs) := List.take_of_length_le (by omega)
        rw [HQ.out] at hM
        have hN := Lib.hid (NewL.of hM)
        obtain ⟨a1, c1, rfl, _⟩ := hM.lies
        clear hM
        go_wp2
        go_ret
        exact hN.out

set_option maxHeartbeats 2000000 in
theorem tWrites_any (ca : Option Addr) (cn cc : Nat) (cb : Option Addr) (cm cd : Nat) (R : List Int) (Bs : List ByteArray) (s q : Int) (a : Option Addr) (n c : Nat) (b : Option Addr) (m d : Nat) (rs : List RdM) (ws : List WrM) (g : Int) (w : World) (hC : CfgAt w ca cn cb cm R Bs) (hX : TxAt w a n b m rs ws) (hU : Tabs w) :
    Calls Tryd.prog 20 #[.agg #[.slice ca cn cc, .slice cb cm cd], .agg (txV s q a n c b m d), .int .i64 g] w (NewL writeC 4 w (writesM R Bs (s, q) rs ws g)) := by
  obtain ⟨iR, hi, hz0, hz1, hz2⟩ := info_parts Tryd.rInfo67
  have H0 := Lib.hid (((Boxs.start w).more #[.slice ca cn cc, .slice cb cm cd] 36).more (txV s q a n c b m d) 27)
  have hs : (w.alloc (.cells #[.slice ca cn cc, .slice cb cm cd] 36)).heap.size = w.heap.size + 1 := by simp
  rw [hs] at H0
  have cB := both_any ca cn cc cb cm cd R Bs s q a n c b m d rs ws _ (hC.later H0.out.bel) (hX.later H0.out.bel) (hU.below H0.out.bel)
  have HX := Lib.hid hX
  have hl := hX.lenW
  have cH := fun z W (hW : Below w.heap.size w W) => cHome_any ca cn cc cb cm cd R Bs z W (hC.later hW)
  obtain ⟨x0, x1, x2, x3⟩ := (H0.out.get 0 _ _ _ rfl).four
  obtain ⟨y0, y1⟩ := (H0.out.get 1 _ _ _ rfl).two
  clear hX hU hs
  unfold writesM
  cases hB : bothB R Bs (txT (s, q) rs ws)
  · rw [hB] at cB
    clear hB hC
    rw [if_neg (by decide)]
    go_enter Tryd.func20, Tryd.ntmps20
    go_wp2_with (go_at_call 49; ((with_reducible refine cB.mono ?_); rintro e w1 ⟨rfl, hb1⟩; have H1 := Lib.hid (H0.out.below hb1)))
    go_ret
    exact NewL.none H1.out.bel
  · rw [hB] at cB
    rw [if_pos rfl]
    have hF : formedC R (txt Bs) = true := by unfold bothB at hB; rw [Bool.and_eq_true] at hB; exact hB.1
    have hT : formT formedB (txT (s, q) rs ws) = true := by unfold bothB at hB; rw [Bool.and_eq_true] at hB; exact hB.2
    have h6 : m ≤ 6 := by
      have := ((formT_iff _ _).1 hT).wlen
      simp only [txT, txW, List.length_map] at this; omega
    have HH : Hid (∀ z : ByteArray, homeI R (txt Bs) z.data.toList = (homeC (txt Bs) z.data.toList : Nat)) := fun z => home_of hF _
    clear hB hC hF hT
    go_enter Tryd.func20, Tryd.ntmps20
    go_wp2_with (go_at_call 49; ((with_reducible refine cB.mono ?_); rintro e w1 ⟨rfl, hb1⟩; have H1 := Lib.hid (H0.out.below hb1); (clear x0 x1 x2 x3 y0 y1); obtain ⟨x0, x1, x2, x3⟩ := (H1.out.get 0 _ _ _ rfl).four))
    go_loopw [7, 17] (fun v i wr => ∃ k : Nat, k ≤ m ∧ i = .int .i64 k ∧ MadeL writeC 4 67 w wr v (cutM (fun x : WrM => x.key) (txt Bs) g (ws.take k)) [(w.heap.size + 1, txV s q a n c b m d, 27), (w.heap.size, #[.slice ca cn cc, .slice cb cm cd], 36)]) (fun _ i _ => m - (intOf i).toNat)
    case atStart => exact ⟨0, Nat.zero_le _, rfl, MadeL.start H1.out⟩
    case round =>
      obtain ⟨k, hk, rfl, hM⟩ := hrel
      by_cases hlt : k < m
      · have hk1 : k < ws.length := by omega
        have HY : ((homeC (txt Bs) ((fun x : WrM => x.key) ws[k]).data.toList : Nat) : Int) = g → Hid _ := fun e => Lib.hid (cutM_yes (fun x : WrM => x.key) (txt Bs) g ws k hk1 e)
        have HN : ¬ ((homeC (txt Bs) ((fun x : WrM => x.key) ws[k]).data.toList : Nat) : Int) = g → Hid _ := fun e => Lib.hid (cutM_no (fun x : WrM => x.key) (txt Bs) g ws k hk1 e)
        have hll : (cutM (fun x : WrM => x.key) (txt Bs) g (ws.take k)).length ≤ 6 := by have h1 := cutM_len (fun x : WrM => x.key) (txt Bs) g (ws.take k); rw [List.length_take] at h1; omega
        obtain ⟨b0, off, rfl, hbb, x0, x1, x2, x3⟩ := (HX.out.later hM.bel).wrs.at_ (i := k) hk1
        generalize ws[k] = x at *
        generalize cutM (fun x : WrM => x.key) (txt Bs) g (ws.take k) = l at *
        obtain ⟨xk, xa, xb, xt⟩ := x
        have M1 := Lib.hid (hM.more #[.string xk, .int .i64 xa, .int .u64 ((xb : Nat) : Int), .string xt] 67)
        clear hM H0 H1 hb1 cB
        go_upto_region 7 with (fail)
        have hgs : wr.heap.size < (wr.alloc (.cells #[.string xk, .int .i64 xa, .int .u64 ((xb : Nat) : Int), .string xt] 67)).heap.size := by simp
        generalize wr.alloc (.cells #[.string xk, .int .i64 xa, .int .u64 ((xb : Nat) : Int), .string xt] 67) = W1 at *
        generalize wr.heap.size = G at *
        have cH1 := cH xk W1 M1.out.bel
        rw [HH.out xk] at cH1
        obtain ⟨y0, y1, y2, y3⟩ := (M1.out.boxs.get 0 _ _ _ rfl).four
        obtain ⟨u0, u1⟩ := (M1.out.boxs.get 2 _ _ _ rfl).two
        by_cases hg : ((homeC (txt Bs) xk.data.toList : Nat) : Int) = g
        · have Q := HY hg
          have p1 : (((homeC (txt Bs) xk.data.toList : Nat) : Int) == g) = true := by simpa using hg
          clear HY HN hg
          go_wp2_with (first | (go_at_call 50; ((with_reducible refine cH1.mono ?_); rintro e w2 ⟨rfl, hb2⟩; have M2 := Lib.hid (M1.out.below hb2); (clear y0 y1 y2 y3 u0 u1); obtain ⟨y0, y1, y2, y3⟩ := (M2.out.boxs.get 0 _ _ _ rfl).four)) | (at_builtin; (refine wpList_append_rowk _ rfl _ _ 25 rfl w.heap.size 67 iR _ 4 48 Tryd.underlying25 hi hz0 hz1 hz2 rfl (by omega) _ l.length (l.flatMap writeC) rfl (M2.out.own.alloc _) (w2.heap.size + 1) (some ⟨w2.heap.size, 0, none⟩) 1 1 (writeC ⟨xk, xa, xb, xt⟩) rfl (RowAt.oneW w2 ⟨xk, xa, xb, xt⟩ _) (writeC_cells _) (by unfold maxLen; omega) (by omega) (by have := M2.out.bel.size; simp; omega) ?_; intro v3 w3 ho3 hg3 hat3; have M3 := Lib.hid (M2.out.tail.push ho3 hg3 hat3); clear ho3 hg3 hat3)))
          go_roundw
          case rel => exact ⟨k + 1, by omega, by go_num, by rw [Q.out]; exact M3.out⟩
          case measure => simp [intOf]; omega
        · have Q := HN hg
          have p1 : (((homeC (txt Bs) xk.data.toList : Nat) : Int) == g) = false := by simpa using hg
          clear HY HN hg
          go_wp2_with (go_at_call 50; ((with_reducible refine cH1.mono ?_); rintro e w2 ⟨rfl, hb2⟩; have M2 := Lib.hid (M1.out.below hb2)))
          go_roundw
          case rel => exact ⟨k + 1, by omega, by go_num, by rw [Q.out]; exact M2.out.tail⟩
          case measure => simp [intOf]; omega
      · have HQ : Hid (ws.take k = ws) := List.take_of_length_le (by omega)
        rw [HQ.out] at hM
        have hN := Lib.hid (NewL.of hM)
        obtain ⟨a1, c1, rfl, _⟩ := hM.lies
        clear hM
        go_wp2
        go_ret
        exact hN.out
end Go.Proofs.YtlkgpajpblhkeaaDoor
