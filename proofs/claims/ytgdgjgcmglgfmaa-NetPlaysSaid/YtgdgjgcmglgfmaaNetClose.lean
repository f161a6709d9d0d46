/- A net whose one bag was turned, and kept: it is a net again. No condition. -/
import Derived.Test.YtgdgjgcmglgfmaaNetMem
namespace Go.Proofs.Ytgdgjgcmglgfmaa

open Go.RowKit

open Go.ChangeMaps (setBlock)

set_option linter.unusedVariables false
set_option linter.unusedSimpArgs false

def putG (gs : List Bg) (x : Bg) : List Bg := if x.k ∈ (hdOf gs).map (·.1) then gs.map (fun y => if y.k = x.k then x else y) else gs ++ [x]
def keepG (gs : List Bg) (x : Bg) : List Bg := if x.n = 0 then gs.filter (fun y => !decide (y.k = x.k)) else putG gs x
theorem keys_hd (gs : List Bg) : (hdOf gs).map (·.1) = gs.map (·.k) := by simp [hdOf, List.map_map, Function.comp_def]
theorem keys_bs (gs : List Bg) : (bsOf gs).map (·.1) = gs.map (·.k) := by simp [bsOf, List.map_map, Function.comp_def]
theorem hd_keep (gs : List Bg) (x : Bg) : hdOf (keepG gs x) = keepV (hdOf gs) x.k x.n x.v := by
  unfold keepG keepV
  by_cases h : x.n = 0
  · rw [if_pos h, if_pos h]
    simp only [hdOf, delV, List.filter_map]; rfl
  · rw [if_neg h, if_neg h]
    unfold putG putV
    by_cases hk : x.k ∈ (hdOf gs).map (·.1)
    · rw [if_pos hk, if_pos hk]
      simp only [hdOf, List.map_map]
      refine List.map_congr_left fun y _ => ?_
      show ((if y.k = x.k then x else y).k, (if y.k = x.k then x else y).v) = if y.k = x.k then (x.k, x.v) else (y.k, y.v)
      by_cases e : y.k = x.k
      · rw [if_pos e, if_pos e]
      · rw [if_neg e, if_neg e]
    · rw [if_neg hk, if_neg hk]
      simp [hdOf]
theorem bs_keep (gs : List Bg) (x : Bg) (hx : x.ls = [] ↔ x.n = 0) : bsOf (keepG gs x) = keepB (bsOf gs) x.k x.ls := by
  unfold keepG keepB
  by_cases h : x.n = 0
  · rw [if_pos h, if_pos (hx.2 h)]
    simp only [bsOf, delB, List.filter_map]; rfl
  · rw [if_neg h, if_neg (fun e => h (hx.1 e))]
    unfold putG putB'
    have hkk : (x.k ∈ (hdOf gs).map (·.1)) = (x.k ∈ (bsOf gs).map (·.1)) := by rw [keys_hd, keys_bs]
    by_cases hk : x.k ∈ (hdOf gs).map (·.1)
    · rw [if_pos hk, if_pos (hkk ▸ hk)]
      simp only [bsOf, List.map_map]
      refine List.map_congr_left fun y _ => ?_
      show ((if y.k = x.k then x else y).k, (if y.k = x.k then x else y).ls) = if y.k = x.k then (x.k, x.ls) else (y.k, y.ls)
      by_cases e : y.k = x.k
      · rw [if_pos e, if_pos e]
      · rw [if_neg e, if_neg e]
    · rw [if_neg hk, if_neg (fun e => hk (hkk ▸ e))]
      simp [bsOf]
theorem mem_keepG {gs : List Bg} {x y : Bg} (h : y ∈ keepG gs x) : (y = x ∧ x.n ≠ 0) ∨ (y ∈ gs ∧ y.k ≠ x.k) := by
  unfold keepG at h
  split at h
  · obtain ⟨h1, h2⟩ := List.mem_filter.1 h
    exact .inr ⟨h1, by simpa using h2⟩
  · rename_i hn
    unfold putG at h
    split at h
    · obtain ⟨z, hz, e⟩ := List.mem_map.1 h
      by_cases hk : z.k = x.k
      · rw [if_pos hk] at e; exact .inl ⟨e.symm, hn⟩
      · rw [if_neg hk] at e; subst e; exact .inr ⟨hz, hk⟩
    · rename_i hk
      rcases List.mem_append.1 h with h | h
      · exact .inr ⟨h, fun e => hk (by rw [keys_hd, ← e]; exact List.mem_map.2 ⟨y, h, rfl⟩)⟩
      · simp at h; exact .inl ⟨h, hn⟩
theorem apart_keepG {gs : List Bg} {x : Bg} (hn : (gs.map (·.k)).Nodup) (h : gs.Pairwise fun x y => x.v.ownBlock ≠ y.v.ownBlock) (hx : ∀ y ∈ gs, y.k ≠ x.k → y.v.ownBlock ≠ x.v.ownBlock) : (keepG gs x).Pairwise fun x y => x.v.ownBlock ≠ y.v.ownBlock := by
  unfold keepG
  split
  · exact h.filter _
  · unfold putG
    split
    · induction gs with
      | nil => exact .nil
      | cons y gs ih =>
        obtain ⟨p1, p2⟩ := List.pairwise_cons.1 h
        simp only [List.map_cons, List.nodup_cons] at hn
        rw [List.map_cons]
        by_cases hk : y.k = x.k
        · rw [if_pos hk]
          have hno : gs.map (fun y => if y.k = x.k then x else y) = gs := by
            conv => rhs; rw [← List.map_id gs]
            refine List.map_congr_left fun z hz => ?_
            rw [if_neg (fun e => hn.1 (by rw [hk, ← e]; exact List.mem_map.2 ⟨z, hz, rfl⟩))]; rfl
          rw [hno]
          refine .cons (fun z hz => ?_) p2
          have hzk : z.k ≠ x.k := fun e => hn.1 (by rw [hk, ← e]; exact List.mem_map.2 ⟨z, hz, rfl⟩)
          exact (hx z (List.mem_cons_of_mem _ hz) hzk).symm
        · rw [if_neg hk]
          rename_i hin
          have hin' : x.k ∈ (hdOf gs).map (·.1) := by
            rw [keys_hd] at hin ⊢
            rcases List.mem_cons.1 hin with e | e
            · exact absurd e.symm hk
            · exact e
          refine .cons (fun z hz => ?_) (ih hn.2 p2 (fun z hz => hx z (List.mem_cons_of_mem _ hz)) hin')
          obtain ⟨u, hu, rfl⟩ := List.mem_map.1 hz
          by_cases e : u.k = x.k
          · rw [if_pos e]; exact hx y (List.mem_cons_self ..) hk
          · rw [if_neg e]; exact p1 u hu
    · rename_i hk
      rw [List.pairwise_append]
      refine ⟨h, .cons (fun _ h => by cases h) .nil, fun y hy z hz => ?_⟩
      simp at hz; subst hz
      exact hx y hy (fun e => hk (by rw [keys_hd, ← e]; exact List.mem_map.2 ⟨y, hy, rfl⟩))
/-- What stands for a link: its slice, its packets. -/
structure RowOf (W : World) (gs : List Bg) (k : Lk) (v : Value) (n : Nat) (xs : List Value) (ls : List Pk) : Prop where
  is : getV (hdOf gs) k = v
  own : W.ownsRow 0 32 1 v n xs
  pk : Pks W xs ls
  get : getB (bsOf gs) k = ls
  len : ls.length = n
  in_ : ∀ j, v.ownBlock = some j → ∃ x ∈ gs, x.k = k ∧ x.v.ownBlock = some j
theorem row_of {W : World} {g : Nat} {m : Option Nat} {gs : List Bg} (h : NetIn W g m gs) (k : Lk) : ∃ v n xs ls, RowOf W gs k v n xs ls := by
  by_cases hk : k ∈ gs.map (·.k)
  · obtain ⟨x, hx, rfl⟩ := List.mem_map.1 hk
    have hr := h.rows x hx
    obtain ⟨i, hi, he⟩ := List.getElem_of_mem hx
    have hn : ((hdOf gs).map (·.1)).Nodup := by have := h.nodup; rw [keys_bs] at this; rw [keys_hd]; exact this
    have hj : (hdOf gs)[i]? = some (x.k, x.v) := by simp [hdOf, hi, he]
    refine ⟨x.v, x.n, x.xs, x.ls, getV_at hn hj, hr.own, hr.pk, ?_, hr.len, fun j hj => ⟨x, hx, rfl, hj⟩⟩
    exact getB_mem (x := (x.k, x.ls)) h.nodup (List.mem_map.2 ⟨x, hx, rfl⟩)
  · refine ⟨.slice none 0 0, 0, [], [], getV_none (by rw [keys_hd]; exact hk), World.ownsRow_nil _ _ _ _, Pks.nil, getB_none (by rw [keys_bs]; exact hk), rfl, fun j hj => by cases hj⟩
/-- What an operation leaves. -/
def Step (W W' : World) (g : Nat) (own : List Nat) (bs' : Bags) : Prop := ∃ own', NetC W' g bs' own' ∧ Fr W W' own ∧ ∀ i ∈ own', i ∈ own ∨ W.heap.size ≤ i
theorem own_mem {g : Nat} {m : Option Nat} {gs : List Bg} {x : Bg} {j : Nat} (hx : x ∈ gs) (hj : x.v.ownBlock = some j) : j ∈ ownN g m gs :=
  List.mem_cons_of_mem _ (List.mem_append_right _ (List.mem_filterMap.2 ⟨x, hx, hj⟩))
theorem net_close {W V W' : World} {g : Nat} {m m' : Option Nat} {gs : List Bg} {v0 : Value} {n0 : Nat} {xs0 : List Value} {ls0 : List Pk} {x : Bg} (h : NetIn W g m gs) (hR : RowOf W gs x.k v0 n0 xs0 ls0)
    (hV : Fr W V v0.ownBlock.toList) (hx : x.n ≠ 0 → RowP V x) (hl : x.ls.length = x.n) (hat : x.n ≠ 0 → x.v.ownBlock = v0.ownBlock ∨ ∃ j, x.v.ownBlock = some j ∧ W.heap.size ≤ j)
    (hk : KeptP V W' g m m' (hdOf gs) (keepV (hdOf gs) x.k x.n x.v)) : Step W W' g (ownN g m gs) (keepB (bsOf gs) x.k x.ls) := by
  have hown0 : ∀ j, v0.ownBlock = some j → j ∈ ownN g m gs := fun j hj => by
    obtain ⟨y, hy, _, hyj⟩ := hR.in_ j hj
    exact own_mem hy hyj
  have hVo : Fr W V (ownN g m gs) := ⟨hV.os, hV.tape, hV.output, hV.size, fun i hi hn => hV.block i hi (fun e => hn (hown0 i (by simpa using e)))⟩
  have hgm : ∀ i ∈ g :: m.toList, i ∈ ownN g m gs := fun i hi => by
    unfold ownN
    rcases List.mem_cons.1 hi with rfl | hi
    · exact List.mem_cons_self ..
    · exact List.mem_cons_of_mem _ (List.mem_append_left _ hi)
  have hF : Fr W W' (ownN g m gs) := hVo.trans hk.fr fun i hi => .inl (hgm i hi)
  have hu : U8s W W' := h.u8s hF
  have hnk : (gs.map (·.k)).Nodup := by have := h.nodup; rwa [keys_bs] at this
  have hgV : V.heap[g]? = some (.cells #[.map m] 62 (0, 0)) := (hV.block g (lt_of_heap h.hd.1) (fun e => by
    obtain ⟨y, hy, _, hyj⟩ := hR.in_ g (by simpa using e)
    obtain ⟨j, c, cu, e1, e2⟩ := (h.rows y hy).block
    rw [e1] at hyj; injection hyj with hyj
    rw [show j = g from hyj, h.hd.1] at e2
    injection e2 with e2; injection e2 with _ e3
    exact absurd e3 (by decide))).trans h.hd.1
  have hmV : ∀ b, m = some b → V.heap[b]? = W.heap[b]? := fun b hb => by
    subst hb
    obtain ⟨_, es, c, h1, _⟩ := h.hd.2
    refine hV.block b (lt_of_heap h1) (fun e => ?_)
    obtain ⟨y, hy, _, hyj⟩ := hR.in_ b (by simpa using e)
    obtain ⟨j, c', cu, e1, e2⟩ := (h.rows y hy).block
    rw [e1] at hyj; injection hyj with hyj
    rw [show j = b from hyj, h1] at e2
    cases e2
  -- blocks of rows stand through keep
  have hrowV : ∀ (z : Bg), RowP V z → ∀ j, z.v.ownBlock = some j → W'.heap[j]? = V.heap[j]? := fun z hz j hj => by
    obtain ⟨j', c, cu, e1, e2⟩ := hz.block
    rw [e1] at hj; injection hj with hj
    have hj' : j' = j := hj
    subst hj'
    refine hk.fr.block j' (lt_of_heap e2) (fun e => ?_)
    rcases List.mem_cons.1 e with e3 | e3
    · rw [e3, hgV] at e2
      injection e2 with e2; injection e2 with _ e4
      exact absurd e4 (by decide)
    · cases m with
      | none => cases e3
      | some b =>
        simp at e3; subst e3
        obtain ⟨_, es, c', h1, _⟩ := h.hd.2
        rw [hmV _ rfl, h1] at e2
        cases e2
  have hu1 : U8s W V := h.u8s hVo
  have hu2 : U8s V W' := fun b cur fr hb => by
    refine hk.fr.block b (lt_of_heap hb) (fun e => ?_)
    rcases List.mem_cons.1 e with e3 | e3
    · rw [e3, hgV] at hb
      injection hb with hb; injection hb with _ e4
      exact absurd e4 (by decide)
    · cases m with
      | none => cases e3
      | some b' =>
        simp at e3; subst e3
        obtain ⟨_, es, c', h1, _⟩ := h.hd.2
        rw [hmV _ rfl, h1] at hb
        cases hb
  -- the other rows
  have hothV : ∀ y ∈ gs, y.k ≠ x.k → RowP V y := fun y hy hyk => (h.rows y hy).moved hu1 hV.size fun j hj => by
    refine hV.block j (h.lt j (own_mem hy hj)) (fun e => ?_)
    obtain ⟨z, hz, hzk, hzj⟩ := hR.in_ j (by simpa using e)
    obtain ⟨i1, hi1, rfl⟩ := List.getElem_of_mem hy
    obtain ⟨i2, hi2, rfl⟩ := List.getElem_of_mem hz
    have hne : i1 ≠ i2 := fun e4 => hyk (by subst e4; exact hzk)
    have hp := List.pairwise_iff_getElem.1 h.apart
    rcases Nat.lt_or_gt_of_ne hne with hlt | hlt
    · exact hp i1 i2 hi1 hi2 hlt (hj.trans hzj.symm)
    · exact hp i2 i1 hi2 hi1 hlt (hzj.trans hj.symm)
  have hrows : ∀ y ∈ keepG gs x, RowP W' y := fun y hy => by
    rcases mem_keepG hy with ⟨rfl, hn⟩ | ⟨hy1, hyk⟩
    · exact (hx hn).moved hu2 hk.fr.size (hrowV _ (hx hn))
    · exact (hothV y hy1 hyk).moved hu2 hk.fr.size (hrowV _ (hothV y hy1 hyk))
  have hap : ∀ y ∈ gs, y.k ≠ x.k → x.n ≠ 0 → y.v.ownBlock ≠ x.v.ownBlock := fun y hy hyk hn e => by
    obtain ⟨j, c, cu, e1, e2⟩ := (h.rows y hy).block
    have hyj : y.v.ownBlock = some j := by rw [e1]; rfl
    rcases hat hn with e3 | ⟨j', e3, hj'⟩
    · obtain ⟨z, hz, hzk, hzj⟩ := hR.in_ j (by rw [← e3, ← e]; exact hyj)
      obtain ⟨i1, hi1, rfl⟩ := List.getElem_of_mem hy
      obtain ⟨i2, hi2, rfl⟩ := List.getElem_of_mem hz
      have hne : i1 ≠ i2 := fun e4 => hyk (by subst e4; exact hzk)
      have hp := List.pairwise_iff_getElem.1 h.apart
      rcases Nat.lt_or_gt_of_ne hne with hlt | hlt
      · exact hp i1 i2 hi1 hi2 hlt (hyj.trans hzj.symm)
      · exact hp i2 i1 hi2 hi1 hlt (hzj.trans hyj.symm)
    · have := h.lt j (own_mem hy hyj)
      rw [hyj, e3] at e; injection e with e; omega
  have hapG : (keepG gs x).Pairwise fun x y => x.v.ownBlock ≠ y.v.ownBlock := by
    by_cases hn : x.n = 0
    · unfold keepG
      rw [if_pos hn]
      exact h.apart.filter _
    · exact apart_keepG hnk h.apart fun y hy hyk => hap y hy hyk hn
  have hzl : x.ls = [] ↔ x.n = 0 := ⟨fun e => by rw [e] at hl; exact hl.symm, fun e => List.eq_nil_of_length_eq_zero (hl.trans e)⟩
  refine ⟨ownN g m' (keepG gs x), ⟨m', keepG gs x, ⟨by rw [hd_keep]; exact hk.hd, hrows, hapG⟩, (bs_keep gs x hzl).symm, rfl⟩, hF, fun i hi => ?_⟩
  unfold ownN at hi
  rcases List.mem_cons.1 hi with rfl | hi
  · exact .inl (List.mem_cons_self ..)
  · rcases List.mem_append.1 hi with hi | hi
    · rcases hk.at_ with e | ⟨b, e, hb⟩
      · rw [e] at hi; exact .inl (hgm i (List.mem_cons_of_mem _ hi))
      · rw [e] at hi; simp at hi; subst hi; exact .inr (Nat.le_trans hV.size hb)
    · obtain ⟨y, hy, hyj⟩ := List.mem_filterMap.1 hi
      rcases mem_keepG hy with ⟨rfl, hn⟩ | ⟨hy1, _⟩
      · rcases hat hn with e3 | ⟨j', e3, hj'⟩
        · exact .inl (hown0 i (e3 ▸ hyj))
        · rw [e3] at hyj; injection hyj with hyj; subst hyj; exact .inr hj'
      · exact .inl (own_mem hy1 hyj)
end Go.Proofs.Ytgdgjgcmglgfmaa
