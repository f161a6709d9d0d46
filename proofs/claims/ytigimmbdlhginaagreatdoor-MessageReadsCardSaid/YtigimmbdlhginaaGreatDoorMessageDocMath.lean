/- Plain mathematics: what the document's Read reads, letter by letter: it is lenient, but reads what mgF reads to the end. No condition. -/
import Derived.Test.YtigimmbdlhginaaGreatDoorHI
import Derived.Test.YtigimmbdlhginaaGreatDoorGX
namespace Go.Proofs.YtigimmbdlhginaaGreatDoor
open Go.RowKit
set_option linter.unusedVariables false
set_option linter.unusedSimpArgs false
/-- What the document's Read reads by a letter. -/
noncomputable def fldD (c : Nat) (m : Mg) : Prs Mg :=
 if c = 104 then bindP (numP 1) fun z=>if z = 1 then bindP balQ fun v=>bindP cmF fun k=>pureP { m with has:=decide (z = 1),vo:=v,cm:=k } else pureP { m with has:=decide (z = 1) }
 else if c = 121 then bindP (numP 1) fun z=>pureP { m with y:=decide (z = 1) }
 else if c = 100 then bindP (numP 4) fun _=>fun l=>some ({ m with data:=l },[])
 else fldP c m
noncomputable def fldsD : List Nat→Mg→Prs Mg
 | [],m=>pureP m
 | c :: cs,m=>bindP (fldD c m) (fldsD cs)
theorem fldsD_app (cs ds : List Nat) : ∀ m,fldsD (cs ++ ds) m = bindP (fldsD cs m) (fldsD ds):=by
 induction cs with
 | nil=>intro m;rw [List.nil_append];show _ = bindP (pureP m) (fldsD ds);rw [bind_pure_l]
 | cons c cs ih =>
  intro m
  show bindP (fldD c m) (fldsD (cs ++ ds)) = bindP (bindP (fldD c m) (fldsD cs)) (fldsD ds)
  rw [bind_assoc]
  congr 1
  funext y
  exact ih y
theorem bind_inv5 {α β : Type} {p : Prs α} {f : α→Prs β} {l r : List UInt8} {y : β} (h : bindP p f l = some (y,r)) : ∃ x r1,p l = some (x,r1)∧f x r1 = some (y,r):=by
 unfold bindP at h
 cases e : p l with
 | none=>rw [e] at h;cases h
 | some q=>obtain ⟨x,r1⟩:=q;rw [e] at h;exact ⟨x,r1,rfl,h⟩
theorem yes_inv {l r : List UInt8} {y : Bool} (h : yesP l = some (y,r)) : ∃ z,numP 1 l = some (z,r)∧decide (z = 1) = y∧z≤1:=by
 obtain ⟨z,r1,h1,h2⟩:=bind_inv5 h
 by_cases hz : z≤1
 ·rw [if_pos hz] at h2
  unfold pureP at h2
  injection h2 with h2;injection h2 with h3 h4
  subst h4
  exact ⟨z,h1,h3,hz⟩
 ·rw [if_neg hz] at h2;cases h2
/-- Data stands last, if it stands. -/
def okL : List Nat→Bool
 | []=>true
 | [_]=>true
 | c :: cs=>c != 100 && okL cs
theorem fld_len {c : Nat} {m m' : Mg} {l r : List UInt8} (h : fldP c m l = some (m',r)) (hd : c = 100→r = []) : fldD c m l = some (m',r):=by
 unfold fldD
 by_cases h1 : c = 104
 ·subst h1
  rw [if_pos rfl]
  rw [fldP_104] at h
  obtain ⟨y,r1,hy,h2⟩:=bind_inv5 h
  obtain ⟨z,hz,hzy,hz1⟩:=yes_inv hy
  rw [bind_some hz]
  by_cases e : z = 1
  ·have hy1 : y = true:=by rw [← hzy,e];rfl
   rw [if_pos e]
   subst hy1
   rw [if_pos rfl] at h2
   rw [show decide (z = 1) = true from decide_eq_true e]
   exact h2
  ·have hy1 : y = false:=by rw [← hzy];exact decide_eq_false e
   rw [if_neg e]
   subst hy1
   rw [show decide (z = 1) = false from decide_eq_false e]
   exact h2
 ·rw [if_neg h1]
  by_cases h2 : c = 121
  ·subst h2
   rw [if_pos rfl]
   rw [fldP_121] at h
   obtain ⟨y,r1,hy,h3⟩:=bind_inv5 h
   obtain ⟨z,hz,hzy,_⟩:=yes_inv hy
   rw [bind_some hz,hzy]
   exact h3
  ·rw [if_neg h2]
   by_cases h3 : c = 100
   ·have hr:=hd h3
    subst h3
    rw [if_pos rfl]
    rw [fldP_100] at h
    obtain ⟨d,r1,hd1,h4⟩:=bind_inv5 h
    unfold pureP at h4
    injection h4 with h4;injection h4 with h5 h6
    have hd2:=guard_val hd1
    obtain ⟨n,r2,hn,h7⟩:=bind_inv5 hd2
    rw [bind_some hn]
    unfold cutP at h7
    split at h7
    ·injection h7 with h7;injection h7 with h8 h9
     have h10 : r2 = d:=by
      have:=List.take_append_drop n r2
      rw [h9,h6,hr,List.append_nil] at this
      rw [← this,h8]
     rw [hr,← h5,h10]
    ·cases h7
   ·rw [if_neg h3];exact h
theorem flds_len : ∀ (cs : List Nat) (m m' : Mg) (l : List UInt8),okL cs = true→fldsP cs m l = some (m',[])→fldsD cs m l = some (m',[])
 | [],m,m',l,_,h=>h
 | [c],m,m',l,_,h=>by
  obtain ⟨y,r,h1,h2⟩:=bind_inv5 (f:=fldsP []) h
  have h3 : some (y,r) = some (m',([] : List UInt8)):=h2
  injection h3 with h3;injection h3 with h4 h5
  subst h4;subst h5
  show bindP (fldD c m) (fldsD []) l = _
  rw [bind_some (fld_len h1 fun _=>rfl)];rfl
 | c :: d :: cs,m,m',l,ho,h=>by
  obtain ⟨y,r,h1,h2⟩:=bind_inv5 (f:=fldsP (d :: cs)) h
  have hc : c≠100∧okL (d :: cs) = true:=by simpa [okL] using ho
  show bindP (fldD c m) (fldsD (d :: cs)) l = _
  rw [bind_some (fld_len h1 fun e=>absurd e hc.1)]
  exact flds_len (d :: cs) y m' r hc.2 h2
/-- What the document's Read reads. -/
noncomputable def rdD : Prs Mg:=bindP (numI 1) fun k=>fldsD (lets (letters k)) (zM k)
theorem okL_all (k : Int) : okL (lets (letters k)) = true:=by
 by_cases h : 1≤k∧k≤15
 ·rcases kind_cases h with rfl | rfl | rfl | rfl | rfl | rfl | rfl | rfl | rfl | rfl | rfl | rfl | rfl | rfl | rfl <;> decide
 ·rw [letters_none h];rfl
theorem rd_len {l : List UInt8} {m x : Mg} {st : St} (h : mgF l = some (m,[])) (hx : Res rdD (some l) x st) : x = m:=by
 rw [← rd_mg] at h
 obtain ⟨k,r,h1,h2⟩:=bind_inv5 (guard_val h)
 have h3 : rdD l = some (m,[]):=by
  unfold rdD
  rw [bind_some h1]
  exact flds_len _ _ _ _ (okL_all k) h2
 rcases hx with ⟨l',r',e,hp,_⟩ | ⟨hn,_⟩
 ·injection e with e;subst e
  rw [h3] at hp;injection hp with hp;injection hp with hp _
  exact hp.symm
 ·rw [hn l rfl] at h3;cases h3
end Go.Proofs.YtigimmbdlhginaaGreatDoor
