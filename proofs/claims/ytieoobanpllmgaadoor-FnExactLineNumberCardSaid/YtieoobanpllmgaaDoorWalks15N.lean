/- Chapter 15 in the model: how many lines there are; the line with a number. -/
import Derived.Test.YtieoobanpllmgaaDoorWalks15C
import Derived.Test.YtieoobanpllmgaaDoorRegionD
namespace Go.Proofs.YtieoobanpllmgaaDoor
set_option linter.unusedSimpArgs false
set_option linter.unusedVariables false
set_option maxRecDepth 8000
open Go.RowKit

theorem ctS_is {f : Int} {va : Value} {c T : List Pt} {w : World} {n t : Nat} (hnl : c.length = n) (htl : T.length = t) (hc : SlAt w va n 3 (pcC c)) (hn : n ≤ 10) (h1 : 1 ≤ n) (hm : t ≤ 63) (hcp : ∀ x ∈ c, pvP x = true) (htp : ∀ x ∈ T, pvP x = true) (vt : Value) (W : World) (hW : Below w.heap.size w W) (ht : SlAt W vt t 3 (pcC T)) :
    Calls Tryd.prog 33 #[.int .i64 f, va, vt] W (NtOut (tbN T f c 0) W) := by
  subst hnl htl; exact ctS_any f va vt c T W (hc.below hW) ht hn h1 hm hcp htp
theorem soS_is {f lo hi : Int} {va : Value} {c : List Pt} {w : World} {n : Nat} {b : Bool} (hnl : c.length = n) (hc : SlAt w va n 3 (pcC c)) (hn : n ≤ 1048576) (hb : soB f c lo hi = b) (W : World) (hW : Below w.heap.size w W) :
    Calls Tryd.prog 32 #[.int .i64 f, va, .int .i64 lo, .int .i64 hi] W fun e w' => e = .returned (.bool b) ∧ Below W.heap.size W w' := by
  subst hnl hb; exact soS_any f lo hi va c W (hc.below hW) hn
theorem nt_row {es : List (Value × List Int)} {k : Nat} {v : Value} {r : List Int} (h : es[k]? = some (v, r)) : Item.row 3 1 v r.length (intC r) ∈ rwN es := List.mem_map.2 ⟨(v, r), List.mem_of_getElem? h, rfl⟩
theorem nt_at {es : List (Value × List Int)} {ll : List (List Int)} {k : Nat} {r : List Int} (h : lsN es = ll) (hk : ll[k]? = some r) : ∃ v, es[k]? = some (v, r) ∧ (vsN es)[k]? = some v := by
  subst h
  rw [List.getElem?_map] at hk
  obtain ⟨p, hp, rfl⟩ := Option.map_eq_some_iff.1 hk
  exact ⟨p.1, hp, by rw [List.getElem?_map, hp]; rfl⟩
theorem ts_pv {f lo hi : Int} (h0 : 0 ≤ lo) : ∀ x ∈ tsL f lo hi, pvP x = true := fun _ hx => (tn_pv h0 hx).1
theorem own_last {n : Nat} {B : World → Prop} {w : World} {s a b : Item} {E : List Item} (h : Own n B w (s :: (E ++ [a, b]))) : Own n B w (b :: s :: (E ++ [a])) := by
  refine h.perm ?_
  have e : s :: (E ++ [a, b]) = (s :: (E ++ [a])) ++ [b] := by simp
  rw [e]
  exact List.perm_append_comm

set_option maxRecDepth 20000 in
set_option maxHeartbeats 8000000 in
theorem countS_any (f lo hi : Int) (va : Value) (c : List Pt) (w : World) (hs : SlAt w va c.length 3 (pcC c)) (hn : c.length ≤ 1048576) :
    Calls Tryd.prog 12 #[.int .i64 f, va, .int .i64 lo, .int .i64 hi] w fun e w' => e = .returned (.int .i64 (clZ f c lo hi)) ∧ Below w.heap.size w w' := by
  have hO := Own.start w
  have hF := True.intro
  obtain ⟨n, hnl⟩ : ∃ n, c.length = n := ⟨_, rfl⟩
  rw [hnl] at hs hn
  obtain ⟨b, hb⟩ : ∃ b, soB f c lo hi = b := ⟨_, rfl⟩
  have HSO := hid (soS_is hnl hs hn hb)
  obtain ⟨A, ca, hva, nb, hA⟩ := hs.open
  cases b
  · have HE := hid (show clZ f c lo hi = -1 by unfold clZ; rw [if_neg (by rw [hb]; simp)])
    subst hva
    clear hs hnl hb
    go_enter Tryd.func12, Tryd.ntmps12
    go_wp2_with (go_at_call 32; apply own_at hO; (repeat (first | (with_reducible exact hO) | (with_reducible apply Own.alloc) | (with_reducible apply Own.drew) | ((with_reducible apply Own.set_at); (focus (show _ ≤ _; omega))))); have hG := hF; clear hF; clear hO; intro hO; refine own_call hO (fun hB => HSO.out _ hB) ?_; clear hO; intro w1 hO; (try simp only [World.size_alloc1, World.size_drew, Nat.reduceAdd] at hO); (try simp only [upd, updI, List.map_cons, List.map_nil, eq_self, if_true, if_false, reduceIte, Nat.add_eq_left, Nat.left_eq_add, Nat.reduceEqDiff, List.set_cons_zero, List.set_cons_succ, hG] at hO); clear hG; have hF := hO; (try simp only [Own, Item.Holds, apartI, CellsAt, Nat.reduceAdd, Nat.zero_add, List.mem_cons, List.not_mem_nil, or_false, forall_eq_or_imp, forall_eq, ne_eq, false_imp_iff, implies_true, and_true] at hF))
    go_ret
    exact ⟨ret_int HE.out.symm, Own.base (by first | exact hO | (repeat (first | (with_reducible exact hO) | (with_reducible apply Own.alloc) | (with_reducible apply Own.drew) | ((with_reducible apply Own.set_at); (focus (show _ ≤ _; omega))))))⟩
  · obtain ⟨hcv, ⟨l0, l1⟩, ⟨g0, g1⟩, g2⟩ := soB_iff.1 hb
    have h10 := (cvB_iff.1 hcv).2.2.1
    have h2 := (cvB_iff.1 hcv).2.1
    rw [hnl] at h10 h2
    obtain ⟨T, hT⟩ : ∃ T, tsL f lo hi = T := ⟨_, rfl⟩
    have hT63 : T.length ≤ 63 := by rw [← hT]; exact tnL_len _ _ _
    have hTpv := ts_pv (f := f) (hi := hi) l0
    rw [hT] at hTpv
    obtain ⟨t, ht⟩ : ∃ t, T.length = t := ⟨_, rfl⟩
    have HE := hid (show clZ f c lo hi = (smK T f c t : Int) by unfold clZ; rw [if_pos hb, hT, ← ht, smK_full])
    have HTS := hid (fun W => tsS_is l0 g0 g1 hT ht W)
    have HSM := hid (fun i => smK_num (f := f) (c := c) (i := i) hT63 (by rw [hnl]; exact h10))
    rw [ht] at hT63
    have HCT := hid (ctS_is hnl ht hs h10 (by omega) hT63 (cv_pv hcv) hTpv (f := f))
    have HN := hid (And.intro hnl ht)
    subst hva
    clear hs hb hcv l0 l1 g0 g1 g2 hT hTpv hnl ht hA
    go_enter Tryd.func12, Tryd.ntmps12
    go_wp2_with (first | (go_at_call 32; apply own_at hO; (repeat (first | (with_reducible exact hO) | (with_reducible apply Own.alloc) | (with_reducible apply Own.drew) | ((with_reducible apply Own.set_at); (focus (show _ ≤ _; omega))))); have hG := hF; clear hF; clear hO; intro hO; refine own_call hO (fun hB => HSO.out _ hB) ?_; clear hO; intro w1 hO; (try simp only [World.size_alloc1, World.size_drew, Nat.reduceAdd] at hO); (try simp only [upd, updI, List.map_cons, List.map_nil, eq_self, if_true, if_false, reduceIte, Nat.add_eq_left, Nat.left_eq_add, Nat.reduceEqDiff, List.set_cons_zero, List.set_cons_succ, hG] at hO); clear hG; have hF := hO; (try simp only [Own, Item.Holds, apartI, CellsAt, Nat.reduceAdd, Nat.zero_add, List.mem_cons, List.not_mem_nil, or_false, forall_eq_or_imp, forall_eq, ne_eq, false_imp_iff, implies_true, and_true] at hF)) | (go_at_call 34; apply own_at hO; (repeat (first | (with_reducible exact hO) | (with_reducible apply Own.alloc) | (with_reducible apply Own.drew) | ((with_reducible apply Own.set_at); (focus (show _ ≤ _; omega))))); have hG := hF; clear hF; clear hO; intro hO; refine own_call_row hO (fun hB => HTS.out _) ?_; clear hO; intro v w1 hO; (try simp only [World.size_alloc1, World.size_drew, Nat.reduceAdd] at hO); (try simp only [upd, updI, List.map_cons, List.map_nil, eq_self, if_true, if_false, reduceIte, Nat.add_eq_left, Nat.left_eq_add, Nat.reduceEqDiff, List.set_cons_zero, List.set_cons_succ, hG] at hO); clear hG; have hF := hO; (try simp only [Own, Item.Holds, apartI, CellsAt, Nat.reduceAdd, Nat.zero_add, List.mem_cons, List.not_mem_nil, or_false, forall_eq_or_imp, forall_eq, ne_eq, false_imp_iff, implies_true, and_true] at hF)) | (go_at_call 33; apply own_at hO; (repeat (first | (with_reducible exact hO) | (with_reducible apply Own.alloc) | (with_reducible apply Own.drew) | ((with_reducible apply Own.set_at); (focus (show _ ≤ _; omega))))); clear hF; clear hO; intro hO; refine own_call_nt hO (fun hB => HCT.out _ _ hB (SlAt.of_row hO.1.1)) ?_; clear hO; intro vo es w1 hE hO; have hF := True.intro))
    have hel : es.length = n := by
      have := congrArg List.length hE
      rw [List.length_map, tbN_len] at this
      rw [this]; exact HN.out.1
    obtain ⟨v0, he0, hv0⟩ := nt_at hE (tbN_at (T := T) (f := f) (c := c) (k := 0) (r := 0) (by rw [HN.out.1]; omega) (Nat.le_refl _))
    have hrow : Item.row 3 1 v0 t (intC (tbR T f c 0)) ∈ rwN es := by
      have := nt_row he0
      rwa [tbR_len, HN.out.2] at this
    rw [hel] at hO
    obtain ⟨qo, co, hvo, ho1, ho2⟩ := hO.row_open (by omega)
    subst hvo
    have hco : co ≤ 9223372036854775807 := by unfold maxLen at ho2; omega
    have hn0 : (0 : Int) < (n : Int) := by omega
    obtain ⟨A0, c0, hv00⟩ := (SlAt.of_row (hO.holds (.row 3 1 v0 t (intC (tbR T f c 0))) (by simp [hrow]))).form
    have HROW := hid hrow
    have HV0 := hid hv0
    have e0 := hO.row_cell hv0
    subst hv00
    clear hE hel he0 hv0 hrow ho2 HCT HTS HSO
    go_wp2_with fail
    go_loopw [10, 11] (fun s u wr => ∃ i : Nat, i ≤ t ∧ u = .int .i64 i ∧ s = .int .i64 (smK T f c i : Int) ∧ Own w.heap.size (Below w.heap.size w) wr (.row 60 1 (.slice (some ⟨qo, 0, none⟩) n co) n (vsN es) :: (rwN es ++ [.row 37 3 v t (pcC T)]))) (fun _ u _ => t - (intOf u).toNat)
    case atStart => exact ⟨0, by omega, rfl, rfl, hO⟩
    case round =>
      clear hO hF e0
      obtain ⟨i, hi9, rfl, rfl, hO⟩ := hrel
      have hF := True.intro
      have e0 := hO.row_cell HV0.out
      by_cases he : i = t
      · subst he
        go_wp2_with fail
        go_ret
        exact ⟨ret_int HE.out.symm, Own.base (by first | exact hO | (repeat (first | (with_reducible exact hO) | (with_reducible apply Own.alloc) | (with_reducible apply Own.drew) | ((with_reducible apply Own.set_at); (focus (show _ ≤ _; omega))))))⟩
      · have hil : i < t := by omega
        have hil2 : (i : Int) < (t : Int) := by omega
        have hi0 : (0 : Int) ≤ (i : Int) := by omega
        obtain ⟨p, hp⟩ : ∃ x, T[i]? = some x := ⟨_, List.getElem?_eq_getElem (by have := HN.out.2; omega)⟩
        obtain ⟨q0, k0, hq0, hk1, hk2⟩ := nt_form hO (v := .slice A0 t c0) (k := t) (xs := intC (tbR T f c 0)) (by simp [HROW.out]) (by omega)
        cases hq0
        have hck : c0 ≤ 9223372036854775807 := by unfold maxLen at hk2; omega
        clear hk2
        have e1 := nt_cell (q := q0) (k := t) (cap := c0) hO (by simp [HROW.out]) (tbR_at (f := f) (c := c) (k := 0) hp)
        have HUP := hid (smK_up (f := f) (c := c) hp)
        have b1 := HSM.out i
        have b2 := HSM.out (i + 1)
        rw [HUP.out] at b2
        obtain ⟨g, hg⟩ : ∃ g : Int, (smK T f c i : Int) = g := ⟨_, rfl⟩
        obtain ⟨h, hh⟩ : ∃ g : Int, (cnK T f c 0 p : Int) = g := ⟨_, rfl⟩
        have g0 : 0 ≤ g := by omega
        have h0 : 0 ≤ h := by omega
        have b3 : g + h ≤ 984930291881790849 := by omega
        have HN2 := hid (show (smK T f c (i + 1) : Int) = g + h by rw [HUP.out, ← hg, ← hh]; omega)
        rw [hh] at e1
        rw [hg]
        have wg : IntKind.i64.wrap (g + h) = g + h := IntWalk.i64_in _ (by omega)
        clear he hp b1 b2 hg hh
        go_wp2_with fail
        go_roundw
        case rel => exact ⟨i + 1, by omega, by go_num, by rw [HN2.out], hO⟩
        case measure => simp [intOf]; omega

theorem countS_is {f lo hi : Int} {va : Value} {c : List Pt} {w : World} {n : Nat} {z : Int} (hnl : c.length = n) (hc : SlAt w va n 3 (pcC c)) (hn : n ≤ 1048576) (hz : clZ f c lo hi = z) (W : World) (hW : Below w.heap.size w W) :
    Calls Tryd.prog 12 #[.int .i64 f, va, .int .i64 lo, .int .i64 hi] W fun e w' => e = .returned (.int .i64 z) ∧ Below W.heap.size W w' := by
  subst hnl hz; exact countS_any f lo hi va c W (hc.below hW) hn

set_option maxRecDepth 20000 in
set_option maxHeartbeats 8000000 in
theorem numberS_no (f lo hi m : Int) (va : Value) (c : List Pt) (w : World) (hs : SlAt w va c.length 3 (pcC c)) (hn : c.length ≤ 1048576) (h : lbB f c lo hi m = false) :
    Calls Tryd.prog 17 #[.int .i64 f, va, .int .i64 lo, .int .i64 hi, .int .i64 m] w (RowOutB 37 3 (lnZ f c lo hi m).length (pcC (lnZ f c lo hi m)) (lbB f c lo hi m) w) := by
  have hO := Own.start w
  have hF := True.intro
  obtain ⟨n, hnl⟩ : ∃ n, c.length = n := ⟨_, rfl⟩
  rw [hnl] at hs hn
  obtain ⟨z, hz⟩ : ∃ z, clZ f c lo hi = z := ⟨_, rfl⟩
  have HCL := hid (countS_is hnl hs hn hz)
  obtain ⟨A, ca, hva, nb, hA⟩ := hs.open
  have HE := hid (show lnZ f c lo hi m = [] by unfold lnZ; rw [h]; rfl)
  have HB := hid h
  have hm : m < 0 ∨ (¬ m < 0 ∧ z ≤ m) := by
    unfold lbB at h
    rw [hz] at h
    simp at h
    omega
  subst hva
  clear hs hnl hz h hA
  rcases hm with h0 | ⟨h0, h1⟩
  · go_enter Tryd.func17, Tryd.ntmps17
    go_wp2_with fail
    replace hO := hO.allocRow (e := 37) (cur := #[]) (k := 0) (cap := 0) 3 (by omega) (by unfold maxLen; omega) rfl
    go_ret2
    rw [HE.out, HB.out]
    exact RowOutB.mk hO
  · go_enter Tryd.func17, Tryd.ntmps17
    go_wp2_with fail
    replace hO := hO.allocRow (e := 37) (cur := #[]) (k := 0) (cap := 0) 3 (by omega) (by unfold maxLen; omega) rfl
    go_wp2_with (go_at_call 12; apply own_at hO; (repeat (first | (with_reducible exact hO) | (with_reducible apply Own.alloc) | (with_reducible apply Own.drew) | ((with_reducible apply Own.set_at); (focus (show _ ≤ _; omega))))); have hG := hF; clear hF; clear hO; intro hO; refine own_call hO (fun hB => HCL.out _ hB) ?_; clear hO; intro w1 hO; (try simp only [World.size_alloc1, World.size_drew, Nat.reduceAdd] at hO); (try simp only [upd, updI, List.map_cons, List.map_nil, eq_self, if_true, if_false, reduceIte, Nat.add_eq_left, Nat.left_eq_add, Nat.reduceEqDiff, List.set_cons_zero, List.set_cons_succ, hG] at hO); clear hG; have hF := hO; (try simp only [Own, Item.Holds, apartI, CellsAt, Nat.reduceAdd, Nat.zero_add, List.mem_cons, List.not_mem_nil, or_false, forall_eq_or_imp, forall_eq, ne_eq, false_imp_iff, implies_true, and_true] at hF))
    go_ret2
    rw [HE.out, HB.out]
    exact RowOutB.mk hO

/-- What is known of a line, as far as it has come. -/
structure LnI (T : List Pt) (f : Int) (c : List Pt) (m k : Nat) (o : List Pt) (j : Nat) : Prop where
  hl : o.length = k
  hj : j ≤ m
  hr : lnL T f c m = o ++ rsK T f c k (o.getD (k - 1) ⟨0, 0, 0⟩) j
  hs : k < c.length → j < (T.map (shK T f c k (o.getD (k - 1) ⟨0, 0, 0⟩))).sum
  hT : ∀ x ∈ o, x ∈ T
theorem LnI.start {T : List Pt} {f : Int} {c : List Pt} {m : Nat} (h : m < cnZ T f c) : LnI T f c m 0 [] m :=
  ⟨rfl, Nat.le_refl _, by unfold rsK; rw [if_pos rfl]; rfl, fun _ => by show m < (T.map (shK T f c 0 ⟨0, 0, 0⟩)).sum; rw [← cnK_zero]; exact h, fun x hx => by cases hx⟩
theorem LnI.next {T : List Pt} {f : Int} {c : List Pt} {m k j i : Nat} {o : List Pt} {q : Pt} (h : LnI T f c m k o j) (hk : k < c.length) (hq : q ∈ T) (hi : i ≤ m) (hp : pkN (shK T f c k (o.getD (k - 1) ⟨0, 0, 0⟩)) j T = some (q, i)) (hs : i < shK T f c k (o.getD (k - 1) ⟨0, 0, 0⟩) q) : LnI T f c m (k + 1) (o ++ [q]) i := by
  have e : (o ++ [q]).getD (k + 1 - 1) ⟨0, 0, 0⟩ = q := by
    rw [Nat.add_sub_cancel, List.getD_eq_getElem?_getD, List.getElem?_append_right (by rw [h.hl]; exact Nat.le_refl _), h.hl, Nat.sub_self]; rfl
  refine ⟨by rw [List.length_append, h.hl]; rfl, hi, ?_, fun hk2 => ?_, fun x hx => ?_⟩
  · rw [e, h.hr, rs_step hk hp, List.append_assoc]; rfl
  · rw [e]; exact sh_next hk2 hs
  · rcases List.mem_append.1 hx with hx | hx
    · exact h.hT x hx
    · simp at hx; subst hx; exact hq
theorem LnI.end {T : List Pt} {f : Int} {c : List Pt} {m j : Nat} {o : List Pt} (h : LnI T f c m c.length o j) (hc : c ≠ []) : lnL T f c m = o := by rw [h.hr, rs_end hc, List.append_nil]
theorem sh_k0 {T : List Pt} {f : Int} {c : List Pt} {p q : Pt} : shK T f c 0 p q = cnK T f c 0 q := by unfold shK; rw [if_pos rfl]
theorem sh_k1 {T : List Pt} {f : Int} {c : List Pt} {k : Nat} {x y p q : Pt} (hx : c[k]? = some x) (hy : c[k + 1]? = some y) : shK T f c (k + 1) p q = if twoZ x p y q = 0 then cnK T f c (k + 1) q else 0 := by
  unfold shK stK
  rw [if_neg (by omega), Nat.add_sub_cancel, List.getD_eq_getElem?_getD, List.getD_eq_getElem?_getD, hx, hy]; rfl

set_option maxRecDepth 20000 in
set_option maxHeartbeats 16000000 in
theorem numberS_yes (f lo hi m : Int) (va : Value) (c : List Pt) (w : World) (hs : SlAt w va c.length 3 (pcC c)) (hn : c.length ≤ 1048576) (h : lbB f c lo hi m = true) :
    Calls Tryd.prog 17 #[.int .i64 f, va, .int .i64 lo, .int .i64 hi, .int .i64 m] w (RowOutB 37 3 (lnZ f c lo hi m).length (pcC (lnZ f c lo hi m)) (lbB f c lo hi m) w) := by
  have hO := Own.start w
  have hF := True.intro
  obtain ⟨i0, hi0, hz0, hz1, hz2⟩ := info_parts infoPi
  obtain ⟨n, hnl⟩ : ∃ n, c.length = n := ⟨_, rfl⟩
  rw [hnl] at hs hn
  obtain ⟨z, hz⟩ : ∃ z, clZ f c lo hi = z := ⟨_, rfl⟩
  have HCL := hid (countS_is hnl hs hn hz)
  obtain ⟨hso, hm0, hmc, _, _⟩ := ln_good h
  obtain ⟨hcv, ⟨l0, l1⟩, ⟨g0, g1⟩, g2⟩ := soB_iff.1 hso
  have h10 := (cvB_iff.1 hcv).2.2.1
  have h2 := (cvB_iff.1 hcv).2.1
  rw [hnl] at h10 h2
  obtain ⟨T, hT⟩ : ∃ T, tsL f lo hi = T := ⟨_, rfl⟩
  have hT63 : T.length ≤ 63 := by rw [← hT]; exact tnL_len _ _ _
  have hTpv := ts_pv (f := f) (hi := hi) l0
  rw [hT] at hTpv hmc
  obtain ⟨t, ht⟩ : ∃ t, T.length = t := ⟨_, rfl⟩
  obtain ⟨M, hM⟩ : ∃ M : Nat, m.toNat = M := ⟨_, rfl⟩
  have hmM : m = (M : Int) := by omega
  rw [hM] at hmc
  have hE : lnZ f c lo hi m = lnL T f c M := by unfold lnZ; rw [if_pos h, hT, hM]
  rw [hE, h]
  have hc1 : z = (cnZ T f c : Int) := by rw [← hz]; unfold clZ; rw [if_pos hso, hT]
  have hzz : cnZ T f c ≤ 63 ^ 10 := cnZ_le T f c hT63 (by rw [hnl]; exact h10)
  have e63 : (63 : Nat) ^ 10 = 984930291881790849 := by decide
  have hM9 : (M : Int) ≤ 984930291881790849 := by omega
  have hMz : ¬ z ≤ (M : Int) := by omega
  have HTS := hid (fun W => tsS_is l0 g0 g1 hT ht W)
  have HCN := hid (fun k p => cnK_num (T := T) (f := f) (c := c) (k := k) (p := p) hT63 (by rw [hnl]; exact h10))
  have hc0 : c ≠ [] := by intro e; rw [e] at hnl; simp at hnl; omega
  have HLS := hid (LnI.start hmc)
  rw [ht] at hT63
  have HCT := hid (ctS_is hnl ht hs h10 (by omega) hT63 (cv_pv hcv) hTpv (f := f))
  have HN := hid (And.intro hnl (And.intro ht hc0))
  have HPV := hid (And.intro (cv_pv hcv) hTpv)
  have HC := hid hs
  obtain ⟨A, ca, hva, nb, hA⟩ := hs.open
  obtain ⟨b1, o1, hA1, _, _, hb1⟩ := hA (by omega)
  subst hA1
  subst hva
  have M0 : ¬ (M : Int) < 0 := by omega
  subst hmM
  clear hs hz hso hcv l0 l1 g0 g1 g2 hT hTpv hnl ht hA hmc hM hE hc1 hzz e63 hc0 h hm0
  go_enter Tryd.func17, Tryd.ntmps17
  go_wp2_with fail
  replace hO := hO.allocRow (e := 37) (cur := #[]) (k := 0) (cap := 0) 3 (by omega) (by unfold maxLen; omega) rfl
  go_wp2_with (first | (go_at_call 12; apply own_at hO; (repeat (first | (with_reducible exact hO) | (with_reducible apply Own.alloc) | (with_reducible apply Own.drew) | ((with_reducible apply Own.set_at); (focus (show _ ≤ _; omega))))); have hG := hF; clear hF; clear hO; intro hO; refine own_call hO (fun hB => HCL.out _ hB) ?_; clear hO; intro w1 hO; (try simp only [World.size_alloc1, World.size_drew, Nat.reduceAdd] at hO); (try simp only [upd, updI, List.map_cons, List.map_nil, eq_self, if_true, if_false, reduceIte, Nat.add_eq_left, Nat.left_eq_add, Nat.reduceEqDiff, List.set_cons_zero, List.set_cons_succ, hG] at hO); clear hG; have hF := hO; (try simp only [Own, Item.Holds, apartI, CellsAt, Nat.reduceAdd, Nat.zero_add, List.mem_cons, List.not_mem_nil, or_false, forall_eq_or_imp, forall_eq, ne_eq, false_imp_iff, implies_true, and_true] at hF)) | (go_at_call 34; apply own_at hO; (repeat (first | (with_reducible exact hO) | (with_reducible apply Own.alloc) | (with_reducible apply Own.drew) | ((with_reducible apply Own.set_at); (focus (show _ ≤ _; omega))))); have hG := hF; clear hF; clear hO; intro hO; refine own_call_row hO (fun hB => HTS.out _) ?_; clear hO; intro v w1 hO; (try simp only [World.size_alloc1, World.size_drew, Nat.reduceAdd] at hO); (try simp only [upd, updI, List.map_cons, List.map_nil, eq_self, if_true, if_false, reduceIte, Nat.add_eq_left, Nat.left_eq_add, Nat.reduceEqDiff, List.set_cons_zero, List.set_cons_succ, hG] at hO); clear hG; have hF := hO; (try simp only [Own, Item.Holds, apartI, CellsAt, Nat.reduceAdd, Nat.zero_add, List.mem_cons, List.not_mem_nil, or_false, forall_eq_or_imp, forall_eq, ne_eq, false_imp_iff, implies_true, and_true] at hF)) | (go_at_call 33; apply own_at hO; (repeat (first | (with_reducible exact hO) | (with_reducible apply Own.alloc) | (with_reducible apply Own.drew) | ((with_reducible apply Own.set_at); (focus (show _ ≤ _; omega))))); clear hF; clear hO; intro hO; refine own_call_nt hO (fun hB => HCT.out _ _ hB (SlAt.of_row hO.1.1)) ?_; clear hO; intro vo es w1 hE hO; have hF := True.intro))
  have hel : es.length = n := by
    have := congrArg List.length hE
    rw [List.length_map, tbN_len] at this
    rw [this]; exact HN.out.1
  rw [hel] at hO
  obtain ⟨qo, co, hvo, ho1, ho2⟩ := hO.row_open (by omega)
  subst hvo
  have hco : co ≤ 9223372036854775807 := by unfold maxLen at ho2; omega
  have HES := hid (fun k (hk : k < n) => nt_at hE (tbN_at (T := T) (f := f) (c := c) (k := 0) (r := k) (by rw [HN.out.1]; exact hk) (Nat.zero_le _)))
  replace hO := own_last hO
  obtain ⟨At, ct, hvt⟩ := (SlAt.of_row (hO.holds (.row 37 3 v t (pcC T)) (by simp))).form
  subst hvt
  clear hE hel ho2 HCT HTS HCL hMz
  go_wp2_with fail
  go_loopw [4, 12, 15] (fun s u v wr => ∃ (k : Nat) (o : List Pt) (j : Nat), k ≤ n ∧ v = .int .i64 k ∧ s = .int .i64 (j : Int) ∧ Hid (LnI T f c M k o j) ∧ Own w.heap.size (Below w.heap.size w) wr (.row 37 3 u k (pcC o) :: .row 60 1 (.slice (some ⟨qo, 0, none⟩) n co) n (vsN es) :: (rwN es ++ [.row 37 3 (.slice At t ct) t (pcC T)]))) (fun _ _ v _ => n - (intOf v).toNat)
  case atStart => exact ⟨0, [], M, by omega, rfl, rfl, HLS.out, hO⟩
  case round =>
    clear hO hF HLS
    obtain ⟨k, o, j, hk, rfl, rfl, hI, hO⟩ := hrel
    have hF := True.intro
    by_cases he : k = n
    · subst he
      have HEE := hid (show lnL T f c M = o by
        have := hI.out
        rw [← HN.out.1] at this
        exact this.end HN.out.2.2)
      go_wp2_with fail
      go_ret2
      rw [HEE.out, hI.out.hl]
      exact RowOutB.mk hO
    · have hkl : k < n := by omega
      have hkl2 : (k : Int) < (n : Int) := by omega
      have hk0 : (0 : Int) ≤ (k : Int) := by omega
      obtain ⟨vk, hek, hvk⟩ := HES.out k hkl
      have hrow : Item.row 3 1 vk t (intC (tbR T f c k)) ∈ rwN es := by
        have := nt_row hek
        rwa [tbR_len, HN.out.2.1] at this
      have HROW := hid hrow
      have HVK := hid hvk
      obtain ⟨P, hP⟩ : ∃ P, o.getD (k - 1) ⟨0, 0, 0⟩ = P := ⟨_, rfl⟩
      have HS0 := hid (hI.out.hs (by rw [HN.out.1]; exact hkl))
      rw [hP] at HS0
      have HPP := hid hP
      obtain ⟨y, hy⟩ : ∃ x, c[k]? = some x := ⟨_, List.getElem?_eq_getElem (by have := HN.out.1; omega)⟩
      have HY := hid hy
      have py := HPV.out.1 y (List.mem_of_getElem? hy)
      clear he hek hvk hrow hP hy
      go_wp2_with fail
      rcases (show k = 0 ∨ ∃ p, k = p + 1 by cases k with | zero => exact Or.inl rfl | succ p => exact Or.inr ⟨p, rfl⟩) with h0 | ⟨p, rfl⟩
      · have HSH := hid (show ∀ q, shK T f c k P q = cnK T f c k q by subst h0; exact fun q => sh_k0)
        have k1 : ¬ (0 : Int) < (k : Int) := by omega
        have k2 : decide ((0 : Int) < (k : Int)) = false := decide_eq_false k1
        have k3 : ¬ 0 < k := by omega
        clear h0
        go_loopw [4, 12, 16] (fun s u v wr => ∃ (i a : Nat), i ≤ t ∧ v = .int .i64 i ∧ s = .int .i64 (a : Int) ∧ u = u12 ∧ Hid (a ≤ j ∧ pkN (shK T f c k P) j T = pkN (shK T f c k P) a (T.drop i) ∧ a < ((T.drop i).map (shK T f c k P)).sum) ∧ Own w.heap.size (Below w.heap.size w) wr (.row 37 3 u12 k (pcC o) :: .row 60 1 (.slice (some ⟨qo, 0, none⟩) n co) n (vsN es) :: (rwN es ++ [.row 37 3 (.slice At t ct) t (pcC T)]))) (fun _ _ v _ => t - (intOf v).toNat)
        case atStart => exact ⟨0, j, by omega, rfl, rfl, rfl, ⟨Nat.le_refl _, rfl, HS0.out⟩, hO⟩
        case round =>
          clear hO hF
          obtain ⟨i, a, hi9, rfl, rfl, rfl, hA9, hO⟩ := hrel
          have hF := True.intro
          by_cases he : i = t
          · exfalso
            have h3 := hA9.out.2.2
            rw [he, ← HN.out.2.1, List.drop_of_length_le (Nat.le_refl _)] at h3
            simp at h3
          · have hil : i < t := by omega
            have hil2 : (i : Int) < (t : Int) := by omega
            have hi8 : (0 : Int) ≤ (i : Int) := by omega
            have haM : a ≤ M := Nat.le_trans hA9.out.1 hI.out.hj
            obtain ⟨q, hq⟩ : ∃ x, T[i]? = some x := ⟨_, List.getElem?_eq_getElem (by have := HN.out.2.1; omega)⟩
            have HQ := hid hq
            have pq := HPV.out.2 q (List.mem_of_getElem? hq)
            obtain ⟨bt, ot, kt, hvt, _, hct, hbt, _⟩ := SlAt.some (SlAt.of_row (hO.holds (.row 37 3 (.slice At t ct) t (pcC T)) (by simp))) (by omega)
            cases hvt
            have hct2 : ct ≤ 9223372036854775807 := by unfold maxLen at hct; omega
            obtain ⟨qk, ck, hvk2, hck1, hck2⟩ := nt_form hO (v := vk) (k := t) (xs := intC (tbR T f c k)) (by simp [HROW.out]) (by omega)
            subst hvk2
            have hck : ck ≤ 9223372036854775807 := by unfold maxLen at hck2; omega
            clear hck2 hct
            obtain ⟨g, hg⟩ : ∃ g : Nat, cnK T f c k q = g := ⟨_, rfl⟩
            have hg9 := HCN.out k q
            rw [hg] at hg9
            have HTB := hid (tbR_at (f := f) (c := c) (k := k) hq)
            rw [hg] at HTB
            obtain ⟨d, hd⟩ : ∃ d : Nat, a - g = d := ⟨_, rfl⟩
            have HG := hid (And.intro hg hd)
            have HSQ := hid (show shK T f c k P q = g by rw [HSH.out]; exact hg)
            clear he hq hg hd
            go_wp2_with fail
            apply own_code hO
            (repeat (first | (with_reducible exact hO) | (with_reducible apply Own.alloc) | (with_reducible apply Own.drew) | ((with_reducible apply Own.set_at); (focus (show _ ≤ _; omega)))))
            have hG := hF; clear hF; clear hO; intro hO
            (try simp only [World.size_alloc1, World.size_drew, Nat.reduceAdd] at hO); (try simp only [upd, updI, List.map_cons, List.map_nil, eq_self, if_true, if_false, reduceIte, Nat.add_eq_left, Nat.left_eq_add, Nat.reduceEqDiff, List.set_cons_zero, List.set_cons_succ, hG] at hO); clear hG
            refine region_own (X := fun _ => True) [] (by kernel_rfl) (hO) (trivial) (by first | exact XStab.true | exact XStab.rd | exact XStab.rdIf) ?_
            clear hO
            refine Sim.sP (i := 0) (d := some 50) (h := ?_)
            refine Sim.sP (i := 1) (d := some 51) (h := ?_)
            refine Sim.sP (i := 2) (d := some 52) (h := ?_)
            refine Sim.sP (i := 3) (d := some 53) (h := ?_)
            refine Sim.sP (i := 4) (d := some 54) (h := ?_)
            refine Sim.sP (i := 5) (d := some 55) (h := ?_)
            refine Sim.sP (i := 6) (d := some 56) (h := ?_)
            refine Sim.sP (i := 7) (d := some 57) (h := ?_)
            refine Sim.sP (i := 8) (d := some 58) (h := ?_)
            refine Sim.sP (i := 9) (d := some 59) (h := ?_)
            refine Sim.sP (i := 10) (d := some 60) (h := ?_)
            refine Sim.sP (i := 11) (d := some 61) (h := ?_)
            refine Sim.sP (i := 12) (d := some 62) (h := ?_)
            refine Sim.sP (i := 13) (d := some 63) (h := ?_)
            refine Sim.sP (i := 14) (d := some 64) (h := ?_)
            refine Sim.sP (i := 15) (d := some 65) (h := ?_)
            refine Sim.sP (i := 16) (d := some 66) (h := ?_)
            refine Sim.sP (i := 17) (d := some 67) (h := ?_)
            refine Sim.sP (i := 18) (d := some 68) (h := ?_)
            refine Sim.sP (i := 19) (d := some 69) (h := ?_)
            refine Sim.sP (i := 20) (d := some 70) (h := ?_)
            refine Sim.sP (i := 21) (d := some 71) (h := ?_)
            refine Sim.sP (i := 22) (d := some 72) (h := ?_)
            refine Sim.sP (i := 23) (d := some 73) (h := ?_)
            refine Sim.done (by kernel_rfl) (fun w1 hO hX => ?_) _
            (try simp only [World.size_alloc1, World.size_drew, Nat.reduceAdd] at hO); (try simp only [upd, updI, List.map_cons, List.map_nil, eq_self, if_true, if_false, reduceIte, Nat.add_eq_left, Nat.left_eq_add, Nat.reduceEqDiff, List.set_cons_zero, List.set_cons_succ] at hO)
            have hF := hO; (try simp only [Own, Item.Holds, apartI, CellsAt, Nat.reduceAdd, Nat.zero_add, List.mem_cons, List.not_mem_nil, or_false, forall_eq_or_imp, forall_eq, ne_eq, false_imp_iff, implies_true, and_true] at hF)
            have e0 := hO.2.row_cell HVK.out
            have e1 := nt_cell (q := qk) (k := t) (cap := ck) hO (by simp [HROW.out]) HTB.out
            have hcr := SlAt.of_row (hO.holds (.row 37 3 (.slice (some ⟨bt, ot, none⟩) t ct) t (pcC T)) (by simp))
            obtain ⟨d0, d1, d2⟩ := ptAt hcr HQ.out
            by_cases hlt : a < g
            · have hlt2 : (a : Int) < (g : Int) := by omega
              have HNX := hid (hI.out.next (i := a) (by rw [HN.out.1]; omega) (List.mem_of_getElem? HQ.out) haM (by
                rw [HPP.out, hA9.out.2.1, pk_step HQ.out, HSQ.out, if_pos hlt]) (by rw [HPP.out, HSQ.out]; exact hlt))
              clear hcr
              go_wp2_with (at_builtin; apply own_list hO; (repeat (first | (with_reducible exact hO) | (with_reducible apply Own.alloc) | (with_reducible apply Own.drew) | ((with_reducible apply Own.set_at); (focus (show _ ≤ _; omega))))); have hG := hF; clear hF; clear hO; intro hO; (try simp only [World.size_alloc1, World.size_drew, Nat.reduceAdd] at hO); (try simp only [upd, updI, List.map_cons, List.map_nil, eq_self, if_true, if_false, reduceIte, Nat.add_eq_left, Nat.left_eq_add, Nat.reduceEqDiff, List.set_cons_zero, List.set_cons_succ, hG] at hO); clear hG; (try simp only [World.size_setCell] at hO); have hF := hO; (try simp only [Own, Item.Holds, apartI, CellsAt, Nat.reduceAdd, Nat.zero_add, List.mem_cons, List.not_mem_nil, or_false, forall_eq_or_imp, forall_eq, ne_eq, false_imp_iff, implies_true, and_true] at hF); refine wpList_append_item rfl _ _ 23 rfl 37 i0 (.agg #[.int .i64 0, .int .i64 0, .int .i64 0]) 3 24 Tryd.underlying23 hi0 hz0 hz1 hz2 rfl (by decide) rfl rfl hO rfl one3t (by unfold maxLen; omega) (by omega) ?_; clear hO hF; intro v' w2 hO _; have hF := True.intro)
              go_roundw
              case rel => exact ⟨k + 1, o ++ [q], a, by omega, by go_num, rfl, HNX.out, by rw [← pcC_snoc]; exact hO⟩
              case measure => simp [intOf] <;> omega
            · have hlt2 : ¬ (a : Int) < (g : Int) := by omega
              have hd9 := HG.out.2
              have wd : IntKind.i64.wrap ((a : Int) - (g : Int)) = (d : Int) := by rw [show (a : Int) - (g : Int) = (d : Int) by omega]; exact IntWalk.i64_in _ (by omega)
              have HST := hid (show d ≤ j ∧ pkN (shK T f c k P) j T = pkN (shK T f c k P) d (T.drop (i + 1)) ∧ d < ((T.drop (i + 1)).map (shK T f c k P)).sum from by
                have h5 := hA9.out
                have h6 := pk_sum (g := shK T f c k P) HQ.out h5.2.2 (by rw [HSQ.out]; exact hlt)
                rw [HSQ.out, HG.out.2] at h6
                refine ⟨by omega, ?_, h6⟩
                rw [h5.2.1, pk_step HQ.out, HSQ.out, if_neg hlt, HG.out.2])
              clear hcr
              go_wp2_with fail
              go_roundw
              case rel => exact ⟨i + 1, d, by omega, by go_num, rfl, rfl, HST.out, hO⟩
              case measure => simp [intOf] <;> omega
      · obtain ⟨qq, cq, hu, hq1, hq2⟩ := hO.row_open (by omega)
        subst hu
        have hcq : cq ≤ 9223372036854775807 := by unfold maxLen at hq2; omega
        clear hq2
        have p0 : (0 : Int) ≤ (p : Int) := by omega
        have p1 : (0 : Int) < (p : Int) + 1 := by omega
        have p5 : decide ((0 : Int) < (p : Int) + 1) = true := decide_eq_true p1
        have p2 : (p : Int) < (n : Int) := by omega
        have p3 : (p : Int) + 1 < (n : Int) := by omega
        have p4 : (0 : Int) ≤ (p : Int) + 1 := by omega
        have p6 : (p : Int) < (p : Int) + 1 := by omega
        have wi : IntKind.i64.wrap ((p : Int) + 1 - 1) = (p : Int) := by rw [show (p : Int) + 1 - 1 = (p : Int) by omega]; exact IntWalk.i64_in _ (by omega)
        have wi2 : IntKind.i64.wrap (p : Int) = (p : Int) := IntWalk.i64_in _ (by omega)
        have wj : IntKind.i64.wrap ((p : Int) + 1 + 1) = (p : Int) + 1 + 1 := IntWalk.i64_in _ (by omega)
        obtain ⟨x, hx⟩ : ∃ x, c[p]? = some x := ⟨_, List.getElem?_eq_getElem (by have := HN.out.1; omega)⟩
        have HX := hid hx
        have px := HPV.out.1 x (List.mem_of_getElem? hx)
        obtain ⟨r, hr⟩ : ∃ x, o[p]? = some x := ⟨_, List.getElem?_eq_getElem (by have := hI.out.hl; omega)⟩
        have HR := hid hr
        have pr := HPV.out.2 r (hI.out.hT r (List.mem_of_getElem? hr))
        have HPR := hid (show P = r by rw [← HPP.out, Nat.add_sub_cancel, List.getD_eq_getElem?_getD, hr]; rfl)
        clear hx hr
        go_loopw [4, 12, 16] (fun s u v wr => ∃ (i a : Nat), i ≤ t ∧ v = .int .i64 i ∧ s = .int .i64 (a : Int) ∧ u = .slice (some ⟨qq, 0, none⟩) (p + 1) cq ∧ Hid (a ≤ j ∧ pkN (shK T f c (p + 1) P) j T = pkN (shK T f c (p + 1) P) a (T.drop i) ∧ a < ((T.drop i).map (shK T f c (p + 1) P)).sum) ∧ Own w.heap.size (Below w.heap.size w) wr (.row 37 3 (.slice (some ⟨qq, 0, none⟩) (p + 1) cq) (p + 1) (pcC o) :: .row 60 1 (.slice (some ⟨qo, 0, none⟩) n co) n (vsN es) :: (rwN es ++ [.row 37 3 (.slice At t ct) t (pcC T)]))) (fun _ _ v _ => t - (intOf v).toNat)
        case atStart => exact ⟨0, j, by omega, rfl, rfl, rfl, ⟨Nat.le_refl _, rfl, HS0.out⟩, hO⟩
        case round =>
          clear hO hF
          obtain ⟨i, a, hi9, rfl, rfl, rfl, hA9, hO⟩ := hrel
          have hF := True.intro
          by_cases he : i = t
          · exfalso
            have h3 := hA9.out.2.2
            rw [he, ← HN.out.2.1, List.drop_of_length_le (Nat.le_refl _)] at h3
            simp at h3
          · have hil : i < t := by omega
            have hil2 : (i : Int) < (t : Int) := by omega
            have hi8 : (0 : Int) ≤ (i : Int) := by omega
            have haM : a ≤ M := Nat.le_trans hA9.out.1 hI.out.hj
            obtain ⟨q, hq⟩ : ∃ x, T[i]? = some x := ⟨_, List.getElem?_eq_getElem (by have := HN.out.2.1; omega)⟩
            have HQ := hid hq
            have pq := HPV.out.2 q (List.mem_of_getElem? hq)
            obtain ⟨bt, ot, kt, hvt, _, hct, hbt, _⟩ := SlAt.some (SlAt.of_row (hO.holds (.row 37 3 (.slice At t ct) t (pcC T)) (by simp))) (by omega)
            cases hvt
            have hct2 : ct ≤ 9223372036854775807 := by unfold maxLen at hct; omega
            obtain ⟨qk, ck, hvk2, hck1, hck2⟩ := nt_form hO (v := vk) (k := t) (xs := intC (tbR T f c (p + 1))) (by simp [HROW.out]) (by omega)
            subst hvk2
            have hck : ck ≤ 9223372036854775807 := by unfold maxLen at hck2; omega
            clear hck2 hct
            obtain ⟨g, hg⟩ : ∃ g : Nat, cnK T f c (p + 1) q = g := ⟨_, rfl⟩
            have hg9 := HCN.out (p + 1) q
            rw [hg] at hg9
            have HTB := hid (tbR_at (f := f) (c := c) (k := (p + 1)) hq)
            rw [hg] at HTB
            obtain ⟨d, hd⟩ : ∃ d : Nat, a - g = d := ⟨_, rfl⟩
            have HG := hid (And.intro hg hd)
            obtain ⟨s, hs⟩ : ∃ z, twoZ x r y q = z := ⟨_, rfl⟩
            have HTWO := hid (fun W => twoS_is px pr py pq hs W)
            have HSQ0 := hid (show shK T f c (p + 1) P q = if s = 0 then g else 0 by rw [sh_k1 HX.out HY.out, HPR.out, hs, hg])
            clear he hq hg hd hs
            go_wp2_with fail
            apply own_code hO
            (repeat (first | (with_reducible exact hO) | (with_reducible apply Own.alloc) | (with_reducible apply Own.drew) | ((with_reducible apply Own.set_at); (focus (show _ ≤ _; omega)))))
            have hG := hF; clear hF; clear hO; intro hO
            (try simp only [World.size_alloc1, World.size_drew, Nat.reduceAdd] at hO); (try simp only [upd, updI, List.map_cons, List.map_nil, eq_self, if_true, if_false, reduceIte, Nat.add_eq_left, Nat.left_eq_add, Nat.reduceEqDiff, List.set_cons_zero, List.set_cons_succ, hG] at hO); clear hG
            refine region_own (X := fun _ => True) [] (by kernel_rfl) (hO) (trivial) (by first | exact XStab.true | exact XStab.rd | exact XStab.rdIf) ?_
            clear hO
            refine Sim.sP (i := 0) (d := some 50) (h := ?_)
            refine Sim.sP (i := 1) (d := some 51) (h := ?_)
            refine Sim.sP (i := 2) (d := some 52) (h := ?_)
            refine Sim.sP (i := 3) (d := some 53) (h := ?_)
            refine Sim.sP (i := 4) (d := some 54) (h := ?_)
            refine Sim.sP (i := 5) (d := some 55) (h := ?_)
            refine Sim.sP (i := 6) (d := some 56) (h := ?_)
            refine Sim.sO (i := 7) (d := some 57) (v := ?_) (hy := ?_) (h := ?_)
            rotate_left
            · first | refine Or.inl ⟨by rfl, fun w hO => ?_⟩ | (refine Or.inr ⟨by rfl, ?_⟩; with_reducible rfl)
              first | done | (have hF := hO; (try simp only [Own, Item.Holds, apartI, CellsAt, Nat.reduceAdd, Nat.zero_add, List.mem_cons, List.not_mem_nil, or_false, forall_eq_or_imp, forall_eq, ne_eq, false_imp_iff, implies_true, and_true] at hF); ((have ⟨x0, x1, x2⟩ := ptAt (HC.out.below hO.base) HX.out; have ⟨x3, x4, x5⟩ := ptAt (HC.out.below hO.base) HY.out; have ⟨y0, y1, y2⟩ := ptAt (SlAt.of_row hO.1.1) HR.out; rw [Nat.zero_add] at y0 y1 y2; have hcr := SlAt.of_row (hO.holds (.row 37 3 (.slice (some ⟨bt, ot, none⟩) t ct) t (pcC T)) (by simp)); have ⟨d0, d1, d2⟩ := ptAt hcr HQ.out; clear hcr)); refine Out.same ?_; go_simp; all_goals with_reducible rfl)
            refine Sim.sP (i := 8) (d := some 58) (h := ?_)
            refine Sim.sP (i := 9) (d := some 59) (h := ?_)
            refine Sim.sP (i := 10) (d := some 60) (h := ?_)
            refine Sim.sP (i := 11) (d := some 61) (h := ?_)
            refine Sim.sO (i := 12) (d := some 62) (v := ?_) (hy := ?_) (h := ?_)
            rotate_left
            · first | refine Or.inl ⟨by rfl, fun w hO => ?_⟩ | (refine Or.inr ⟨by rfl, ?_⟩; with_reducible rfl)
              first | done | (have hF := hO; (try simp only [Own, Item.Holds, apartI, CellsAt, Nat.reduceAdd, Nat.zero_add, List.mem_cons, List.not_mem_nil, or_false, forall_eq_or_imp, forall_eq, ne_eq, false_imp_iff, implies_true, and_true] at hF); ((have ⟨x0, x1, x2⟩ := ptAt (HC.out.below hO.base) HX.out; have ⟨x3, x4, x5⟩ := ptAt (HC.out.below hO.base) HY.out; have ⟨y0, y1, y2⟩ := ptAt (SlAt.of_row hO.1.1) HR.out; rw [Nat.zero_add] at y0 y1 y2; have hcr := SlAt.of_row (hO.holds (.row 37 3 (.slice (some ⟨bt, ot, none⟩) t ct) t (pcC T)) (by simp)); have ⟨d0, d1, d2⟩ := ptAt hcr HQ.out; clear hcr)); refine Out.same ?_; go_simp; all_goals with_reducible rfl)
            refine Sim.sP (i := 13) (d := some 63) (h := ?_)
            refine Sim.sP (i := 14) (d := some 64) (h := ?_)
            refine Sim.sP (i := 15) (d := some 65) (h := ?_)
            refine Sim.sO (i := 16) (d := some 66) (v := ?_) (hy := ?_) (h := ?_)
            rotate_left
            · first | refine Or.inl ⟨by rfl, fun w hO => ?_⟩ | (refine Or.inr ⟨by rfl, ?_⟩; with_reducible rfl)
              first | done | (have hF := hO; (try simp only [Own, Item.Holds, apartI, CellsAt, Nat.reduceAdd, Nat.zero_add, List.mem_cons, List.not_mem_nil, or_false, forall_eq_or_imp, forall_eq, ne_eq, false_imp_iff, implies_true, and_true] at hF); ((have ⟨x0, x1, x2⟩ := ptAt (HC.out.below hO.base) HX.out; have ⟨x3, x4, x5⟩ := ptAt (HC.out.below hO.base) HY.out; have ⟨y0, y1, y2⟩ := ptAt (SlAt.of_row hO.1.1) HR.out; rw [Nat.zero_add] at y0 y1 y2; have hcr := SlAt.of_row (hO.holds (.row 37 3 (.slice (some ⟨bt, ot, none⟩) t ct) t (pcC T)) (by simp)); have ⟨d0, d1, d2⟩ := ptAt hcr HQ.out; clear hcr)); refine Out.same ?_; go_simp; all_goals with_reducible rfl)
            refine Sim.sP (i := 17) (d := some 67) (h := ?_)
            refine Sim.sP (i := 18) (d := some 68) (h := ?_)
            refine Sim.sP (i := 19) (d := some 69) (h := ?_)
            refine Sim.sO (i := 20) (d := some 70) (v := ?_) (hy := ?_) (h := ?_)
            rotate_left
            · first | refine Or.inl ⟨by rfl, fun w hO => ?_⟩ | (refine Or.inr ⟨by rfl, ?_⟩; with_reducible rfl)
              first | done | (have hF := hO; (try simp only [Own, Item.Holds, apartI, CellsAt, Nat.reduceAdd, Nat.zero_add, List.mem_cons, List.not_mem_nil, or_false, forall_eq_or_imp, forall_eq, ne_eq, false_imp_iff, implies_true, and_true] at hF); ((have ⟨x0, x1, x2⟩ := ptAt (HC.out.below hO.base) HX.out; have ⟨x3, x4, x5⟩ := ptAt (HC.out.below hO.base) HY.out; have ⟨y0, y1, y2⟩ := ptAt (SlAt.of_row hO.1.1) HR.out; rw [Nat.zero_add] at y0 y1 y2; have hcr := SlAt.of_row (hO.holds (.row 37 3 (.slice (some ⟨bt, ot, none⟩) t ct) t (pcC T)) (by simp)); have ⟨d0, d1, d2⟩ := ptAt hcr HQ.out; clear hcr)); refine Out.same ?_; go_simp; all_goals with_reducible rfl)
            refine Sim.sO (i := 21) (d := some 71) (v := ?_) (hy := ?_) (h := ?_)
            rotate_left
            · first | refine Or.inl ⟨by rfl, fun w hO => ?_⟩ | (refine Or.inr ⟨by rfl, ?_⟩; with_reducible rfl)
              first | done | (refine Out.call (f := 38) (args := ?_) ?_ ?_; rotate_left; (focus (go_simp; all_goals with_reducible rfl)); exact HTWO.out _)
            refine Sim.sP (i := 22) (d := some 72) (h := ?_)
            refine Sim.sP (i := 23) (d := some 73) (h := ?_)
            refine Sim.done (by kernel_rfl) (fun w1 hO hX => ?_) _
            (try simp only [World.size_alloc1, World.size_drew, Nat.reduceAdd] at hO); (try simp only [upd, updI, List.map_cons, List.map_nil, eq_self, if_true, if_false, reduceIte, Nat.add_eq_left, Nat.left_eq_add, Nat.reduceEqDiff, List.set_cons_zero, List.set_cons_succ] at hO)
            have hF := hO; (try simp only [Own, Item.Holds, apartI, CellsAt, Nat.reduceAdd, Nat.zero_add, List.mem_cons, List.not_mem_nil, or_false, forall_eq_or_imp, forall_eq, ne_eq, false_imp_iff, implies_true, and_true] at hF)
            by_cases hs0 : s = 0
            rotate_left
            · have s1 : (s == 0) = false := by simp [hs0]
              have s2 : (s != 0) = true := by simp [hs0]
              have HSQ := hid (show shK T f c (p + 1) P q = 0 by rw [HSQ0.out, if_neg hs0])
              have HST := hid (show a ≤ j ∧ pkN (shK T f c (p + 1) P) j T = pkN (shK T f c (p + 1) P) a (T.drop (i + 1)) ∧ a < ((T.drop (i + 1)).map (shK T f c (p + 1) P)).sum from by
                have h5 := hA9.out
                have h6 := pk_sum (g := shK T f c (p + 1) P) HQ.out h5.2.2 (by rw [HSQ.out]; omega)
                rw [HSQ.out] at h6
                refine ⟨h5.1, ?_, by simpa using h6⟩
                rw [h5.2.1, pk_step HQ.out, HSQ.out, if_neg (by omega)]
                rfl)
              go_wp2_with fail
              go_roundw
              case rel => exact ⟨i + 1, a, by omega, by go_num, rfl, rfl, HST.out, hO⟩
              case measure => simp [intOf] <;> omega
            subst hs0
            have HSQ := hid (show shK T f c (p + 1) P q = g by rw [HSQ0.out, if_pos rfl])
            have e0 := hO.2.row_cell HVK.out
            have e1 := nt_cell (q := qk) (k := t) (cap := ck) hO (by simp [HROW.out]) HTB.out
            have hcr := SlAt.of_row (hO.holds (.row 37 3 (.slice (some ⟨bt, ot, none⟩) t ct) t (pcC T)) (by simp))
            obtain ⟨d0, d1, d2⟩ := ptAt hcr HQ.out
            by_cases hlt : a < g
            · have hlt2 : (a : Int) < (g : Int) := by omega
              have HNX := hid (hI.out.next (i := a) (by rw [HN.out.1]; omega) (List.mem_of_getElem? HQ.out) haM (by
                rw [HPP.out, hA9.out.2.1, pk_step HQ.out, HSQ.out, if_pos hlt]) (by rw [HPP.out, HSQ.out]; exact hlt))
              clear hcr
              go_wp2_with (at_builtin; apply own_list hO; (repeat (first | (with_reducible exact hO) | (with_reducible apply Own.alloc) | (with_reducible apply Own.drew) | ((with_reducible apply Own.set_at); (focus (show _ ≤ _; omega))))); have hG := hF; clear hF; clear hO; intro hO; (try simp only [World.size_alloc1, World.size_drew, Nat.reduceAdd] at hO); (try simp only [upd, updI, List.map_cons, List.map_nil, eq_self, if_true, if_false, reduceIte, Nat.add_eq_left, Nat.left_eq_add, Nat.reduceEqDiff, List.set_cons_zero, List.set_cons_succ, hG] at hO); clear hG; (try simp only [World.size_setCell] at hO); have hF := hO; (try simp only [Own, Item.Holds, apartI, CellsAt, Nat.reduceAdd, Nat.zero_add, List.mem_cons, List.not_mem_nil, or_false, forall_eq_or_imp, forall_eq, ne_eq, false_imp_iff, implies_true, and_true] at hF); refine wpList_append_item rfl _ _ 23 rfl 37 i0 (.agg #[.int .i64 0, .int .i64 0, .int .i64 0]) 3 24 Tryd.underlying23 hi0 hz0 hz1 hz2 rfl (by decide) rfl rfl hO rfl one3t (by unfold maxLen; omega) (by omega) ?_; clear hO hF; intro v' w2 hO _; have hF := True.intro)
              go_roundw
              case rel => exact ⟨(p + 1) + 1, o ++ [q], a, by omega, by go_num, rfl, HNX.out, by rw [← pcC_snoc]; exact hO⟩
              case measure => simp [intOf] <;> omega
            · have hlt2 : ¬ (a : Int) < (g : Int) := by omega
              have hd9 := HG.out.2
              have wd : IntKind.i64.wrap ((a : Int) - (g : Int)) = (d : Int) := by rw [show (a : Int) - (g : Int) = (d : Int) by omega]; exact IntWalk.i64_in _ (by omega)
              have HST := hid (show d ≤ j ∧ pkN (shK T f c (p + 1) P) j T = pkN (shK T f c (p + 1) P) d (T.drop (i + 1)) ∧ d < ((T.drop (i + 1)).map (shK T f c (p + 1) P)).sum from by
                have h5 := hA9.out
                have h6 := pk_sum (g := shK T f c (p + 1) P) HQ.out h5.2.2 (by rw [HSQ.out]; exact hlt)
                rw [HSQ.out, HG.out.2] at h6
                refine ⟨by omega, ?_, h6⟩
                rw [h5.2.1, pk_step HQ.out, HSQ.out, if_neg hlt, HG.out.2])
              clear hcr
              go_wp2_with fail
              go_roundw
              case rel => exact ⟨i + 1, d, by omega, by go_num, rfl, rfl, HST.out, hO⟩
              case measure => simp [intOf] <;> omega

theorem numberS_any (f lo hi m : Int) (va : Value) (c : List Pt) (w : World) (hs : SlAt w va c.length 3 (pcC c)) (hn : c.length ≤ 1048576) :
    Calls Tryd.prog 17 #[.int .i64 f, va, .int .i64 lo, .int .i64 hi, .int .i64 m] w (RowOutB 37 3 (lnZ f c lo hi m).length (pcC (lnZ f c lo hi m)) (lbB f c lo hi m) w) := by
  by_cases h : lbB f c lo hi m = true
  · exact numberS_yes f lo hi m va c w hs hn h
  · exact numberS_no f lo hi m va c w hs hn (by rwa [Bool.not_eq_true] at h)
end Go.Proofs.YtieoobanpllmgaaDoor
