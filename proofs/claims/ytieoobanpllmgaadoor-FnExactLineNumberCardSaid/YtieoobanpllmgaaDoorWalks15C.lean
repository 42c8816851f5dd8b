/- Chapter 15 in the model: the table of how many good ends begin with a tone. -/
import Derived.Test.YtieoobanpllmgaaDoorWalks15S
import Derived.Test.YtieoobanpllmgaaDoorWalks14L
import Derived.Test.YtieoobanpllmgaaDoorIntRows
import Derived.Test.YtieoobanpllmgaaDoorRegionD
namespace Go.Proofs.YtieoobanpllmgaaDoor
set_option linter.unusedSimpArgs false
set_option linter.unusedVariables false
set_option maxRecDepth 8000
open Go.RowKit

theorem madeN15 (n : Nat) : (madeCells (Value.int .i64 0).cells (n * 1)).toList = intC (List.replicate n 0) := by
  have hz : (Value.int .i64 0).cells = #[.int .i64 0] := by kernel_rfl
  rw [hz]
  have := made_rep #[Value.int .i64 0] (by decide) n
  rw [show (#[Value.int .i64 0] : Array Value).size = 1 from rfl] at this
  rw [this]
  show _ = List.map (Value.int .i64) (List.replicate n 0)
  rw [List.map_replicate]
  clear this hz
  induction n with
  | zero => rfl
  | succ n ih => rw [List.replicate_succ, List.flatten_cons, ih, List.replicate_succ]; rfl
/-- A table's row k is at its place; another one is put there. -/
theorem tb_split {es : List (Value × List Int)} {T : List Pt} {f : Int} {c : List Pt} {k : Nat} (h : lsN es = tbN T f c (k + 1)) (hk : k < c.length) : ∃ U V v, es = U ++ (v, List.replicate T.length 0) :: V ∧ U.length = k ∧ lsN (U ++ (v, tbR T f c k) :: V) = tbN T f c k := by
  have hl : es.length = c.length := by
    have := congrArg List.length h
    rwa [List.length_map, tbN_len] at this
  obtain ⟨⟨v, r⟩, hp⟩ : ∃ p, es[k]? = some p := ⟨_, List.getElem?_eq_getElem (by omega)⟩
  have hr : r = List.replicate T.length 0 := by
    have h1 : (lsN es)[k]? = some r := by rw [List.getElem?_map, hp]; rfl
    rw [h, tbN_no hk (by omega)] at h1
    exact (Option.some.inj h1).symm
  subst hr
  obtain ⟨U, V, rfl, hU⟩ := split_at15 hp
  refine ⟨U, V, v, rfl, hU, ?_⟩
  rw [← tbN_set hk, ← h]
  subst hU
  simp [lsN]
theorem tb_next {U V : List (Value × List Int)} {v : Value} {r : List Int} {T : List Pt} {f : Int} {c : List Pt} {k : Nat} (h : lsN (U ++ (v, r) :: V) = tbN T f c k) (hU : U.length = k) (hk : k + 1 < c.length) : ∃ v1 V', V = (v1, tbR T f c (k + 1)) :: V' := by
  have h1 : (lsN (U ++ (v, r) :: V))[k + 1]? = some (tbR T f c (k + 1)) := by rw [h, tbN_at hk (by omega)]
  rw [List.getElem?_map, List.getElem?_append_right (by omega), hU, show k + 1 - k = 1 by omega] at h1
  cases V with
  | nil => simp at h1
  | cons p V' =>
    obtain ⟨v1, r1⟩ := p
    simp at h1
    subst h1
    exact ⟨v1, V', rfl⟩
theorem vs_at {U V : List (Value × List Int)} {p : Value × List Int} {k : Nat} (hU : U.length = k) : (vsN (U ++ p :: V))[k]? = some p.1 := by
  subst hU; simp [vsN]
theorem vs_at1 {U V : List (Value × List Int)} {p q : Value × List Int} {k : Nat} (hU : U.length = k) : (vsN (U ++ p :: q :: V))[k + 1]? = some q.1 := by
  subst hU
  rw [List.getElem?_map, List.getElem?_append_right (by omega), show U.length + 1 - U.length = 1 by omega]
  rfl
theorem vs_put {U V : List (Value × List Int)} {v : Value} {r r' : List Int} : vsN (U ++ (v, r) :: V) = vsN (U ++ (v, r') :: V) := by simp [vsN]

set_option maxRecDepth 20000 in
set_option maxHeartbeats 16000000 in
theorem ctS_any (f : Int) (va vt : Value) (c T : List Pt) (w : World) (hc : SlAt w va c.length 3 (pcC c)) (ht : SlAt w vt T.length 3 (pcC T)) (hn : c.length ≤ 10) (h1 : 1 ≤ c.length) (hm : T.length ≤ 63) (hcp : ∀ x ∈ c, pvP x = true) (htp : ∀ x ∈ T, pvP x = true) :
    Calls Tryd.prog 33 #[.int .i64 f, va, vt] w (NtOut (tbN T f c 0) w) := by
  have hO := Own.start w
  have hF := True.intro
  obtain ⟨i0, hi0, hz0, hz1, hz2⟩ := info_parts infoI10
  obtain ⟨i1, hi1, hy0, hy1, hy2⟩ := info_parts infoNt
  obtain ⟨A, ca, rfl, nb, hA⟩ := hc.open
  obtain ⟨A', cb, rfl, mb, hA'⟩ := ht.open
  obtain ⟨n, hnl⟩ : ∃ n, c.length = n := ⟨_, rfl⟩
  obtain ⟨t, htl⟩ : ∃ t, T.length = t := ⟨_, rfl⟩
  have HN := hid (And.intro hnl htl)
  have HPV := hid (And.intro hcp htp)
  have HCN := hid (fun (k : Nat) (p : Pt) => cnK_num (f := f) (k := k) (p := p) hm hn)
  have HPN := hid (fun (k : Nat) (x p y : Pt) (j : Nat) => psK_num (f := f) (k := k) (x := x) (p := p) (y := y) (j := j) hm hn)
  have HTS := hid (show tbN T f c n = List.replicate n (List.replicate t 0) by rw [← hnl, ← htl]; exact tbN_start T f c)
  rw [hnl] at hn h1 nb hA hc ⊢
  rw [htl] at hm mb hA' ht ⊢
  have HC := hid hc
  have HT := hid ht
  obtain ⟨b1, o1, rfl, _, _, hb1⟩ := hA (by omega)
  clear hc ht hnl htl hcp htp hA
  have wn : IntKind.i64.wrap ((n : Int) - 1) = (n : Int) - 1 := IntWalk.i64_in _ (by omega)
  go_enter Tryd.func33, Tryd.ntmps33
  go_wp2_with fail
  go_loopw [8, 9] (fun u s wr => ∃ (k : Nat) (es : List (Value × List Int)), k ≤ n ∧ s = .int .i64 k ∧ Hid (lsN es = List.replicate k (List.replicate t 0)) ∧ Own w.heap.size (Below w.heap.size w) wr (.row 60 1 u es.length (vsN es) :: (rwN es ++ []))) (fun _ s _ => n - (intOf s).toNat)
  case atStart => exact ⟨0, [], by omega, rfl, rfl, hO.allocRow (e := 60) (cur := #[]) (k := 0) (cap := 0) 1 (by omega) (by unfold maxLen; omega) rfl⟩
  case round =>
    clear hO hF
    obtain ⟨k, es, hk, rfl, hes, hO⟩ := hrel
    have hF := True.intro
    have hel : es.length = k := by
      have := congrArg List.length hes.out
      rwa [List.length_map, List.length_replicate] at this
    by_cases he : k = n
    · subst he
      rw [hel] at hO
      obtain ⟨qo, co, hvo, ho1, ho2⟩ := hO.row_open (by omega)
      subst hvo
      have hos : co ≤ 9223372036854775807 := by unfold maxLen at ho2; omega
      clear ho2
      have HES := hid (show lsN es = tbN T f c k from hes.out.trans HTS.out.symm)
      clear hes
      have k0 : (0 : Int) ≤ (k : Int) := by omega
      go_wp2_with fail
      go_loopw [10] (fun s wr => ∃ (m : Nat) (es : List (Value × List Int)), m ≤ k ∧ s = .int .i64 ((m : Int) - 1) ∧ Hid (lsN es = tbN T f c m) ∧ Own w.heap.size (Below w.heap.size w) wr (.row 60 1 (.slice (some ⟨qo, 0, none⟩) k co) k (vsN es) :: (rwN es ++ []))) (fun s _ => (intOf s + 1).toNat)
      case atStart => exact ⟨k, es, by omega, rfl, HES.out, hO⟩
      case round =>
        clear hO hF hel HES es
        obtain ⟨m, es, hm9, rfl, hes, hO⟩ := hrel
        have hF := True.intro
        have hel : es.length = k := by
          have := congrArg List.length hes.out
          rw [List.length_map, tbN_len] at this
          rw [this]; exact HN.out.1
        cases m with
        | zero =>
          have HES := hid hes.out
          have hz : ¬ (0 : Int) ≤ ((0 : Nat) : Int) - 1 := by omega
          go_wp2_with fail
          go_ret
          exact NtOut.mk HES.out hel hO
        | succ r =>
          have hrk : r < k := by omega
          rw [show (((r + 1 : Nat)) : Int) - 1 = (r : Int) by omega]
          have r0 : (0 : Int) ≤ (r : Int) := by omega
          have r1 : (r : Int) < (k : Int) := by omega
          have wr1 : IntKind.i64.wrap ((r : Int) - 1) = (r : Int) - 1 := IntWalk.i64_in _ (by omega)
          obtain ⟨U, V, vk, hes2, hU, hput⟩ := tb_split hes.out (by rw [HN.out.1]; exact hrk)
          subst hes2
          replace hO := nt_head hO
          dsimp only at hO
          obtain ⟨x, hx⟩ : ∃ x, c[r]? = some x := ⟨_, List.getElem?_eq_getElem (by have := HN.out.1; omega)⟩
          have HX := hid hx
          have px := HPV.out.1 x (List.mem_of_getElem? hx)
          have HVS := hid (vs_at (U := U) (V := V) (p := (vk, List.replicate T.length 0)) hU)
          have HVP := hid (vs_put (U := U) (V := V) (v := vk) (r := List.replicate T.length 0) (r' := tbR T f c r))
          have HPUT := hid hput
          obtain ⟨vs, hvs⟩ : ∃ vs, vsN (U ++ (vk, List.replicate T.length 0) :: V) = vs := ⟨_, rfl⟩
          rw [hvs] at hO HVS HVP
          rw [show (List.replicate T.length (0 : Int)) = frL (tbR T f c r) 0 by rw [fr_zero, tbR_len], fr_len (by omega), tbR_len, HN.out.2] at hO
          have HU := hid hU
          clear hel hx hvs hU hput
          go_wp2_with fail
          by_cases hlast : r + 1 = k
          · clear hes
            go_loopw [11] (fun s wr => ∃ i : Nat, i ≤ t ∧ s = .int .i64 i ∧ Own w.heap.size (Below w.heap.size w) wr (.row 3 1 vk t (intC (frL (tbR T f c r) i)) :: .row 60 1 (.slice (some ⟨qo, 0, none⟩) k co) k vs :: (rwN U ++ (rwN V ++ [])))) (fun s _ => t - (intOf s).toNat)
            case atStart => exact ⟨0, by omega, rfl, hO⟩
            case round =>
              clear hO hF
              obtain ⟨i, hi, rfl, hO⟩ := hrel
              have hF := True.intro
              by_cases he : i = t
              · subst he
                have HES := hid HPUT.out
                go_wp2_with fail
                go_roundw
                case rel => exact ⟨r, U ++ (vk, tbR T f c r) :: V, by omega, by go_num, HES.out, by
                  rw [← HVP.out]
                  refine nt_back (p := (vk, tbR T f c r)) ?_
                  dsimp only
                  rw [tbR_len, HN.out.2]
                  have h2 : frL (tbR T f c r) i = tbR T f c r := by
                    have := fr_full (tbR T f c r)
                    rwa [tbR_len, HN.out.2] at this
                  rwa [h2] at hO⟩
                case measure => simp [intOf] <;> omega
              · have hil : i < t := by omega
                have hil2 : (i : Int) < (t : Int) := by omega
                have hi9 : (0 : Int) ≤ (i : Int) := by omega
                obtain ⟨b2, o2, rfl, _, _, hb2⟩ := hA' (by omega)
                obtain ⟨qk, ck, hvk, hk1, hk2⟩ := hO.row_open (by omega)
                subst hvk
                have hck : ck ≤ 9223372036854775807 := by unfold maxLen at hk2; omega
                clear hk2
                obtain ⟨p, hp⟩ : ∃ x, T[i]? = some x := ⟨_, List.getElem?_eq_getElem (by have := HN.out.2; omega)⟩
                have HP := hid hp
                have pp := HPV.out.2 p (List.mem_of_getElem? hp)
                obtain ⟨z, hz⟩ : ∃ z, oneZ f x p (r : Int) (k : Int) = z := ⟨_, rfl⟩
                have HONE := hid (fun W => oneS_is px pp (k := r) (n := k) (by omega) (by omega) hz W)
                have hrow := tbR_at (f := f) (c := c) (k := r) hp
                rw [cnK_last HX.out (by rw [HN.out.1]; exact hlast), HN.out.1, hz] at hrow
                have HROW := hid hrow
                have e0 := hO.2.row_cell HVS.out
                have c0 := hO.row_cell (intC_get (fr_at (by rw [tbR_len, HN.out.2]; exact hil)))
                have f0 := hO.row_free i
                have hlast2 : ((r : Int) == (k : Int) - 1) = true := by simp; omega
                have hlast3 : (r : Int) = (k : Int) - 1 := by omega
                have HL := hid (And.intro hlast2 hlast3)
                clear hrow hp he hz hlast3
                go_wp2_with fail
                apply own_code hO
                (repeat (first | (with_reducible exact hO) | (with_reducible apply Own.alloc) | (with_reducible apply Own.drew) | ((with_reducible apply Own.set_at); (focus (show _ ≤ _; omega)))))
                have hG := hF; clear hF; clear hO; intro hO
                (try simp only [World.size_alloc1, World.size_drew, Nat.reduceAdd] at hO); (try simp only [upd, updI, List.map_cons, List.map_nil, eq_self, if_true, if_false, reduceIte, Nat.add_eq_left, Nat.left_eq_add, Nat.reduceEqDiff, List.set_cons_zero, List.set_cons_succ, hG] at hO); clear hG
                refine region_own (X := fun _ => True) [] (by kernel_rfl) (hO) (trivial) (by first | exact XStab.true | exact XStab.rd | exact XStab.rdIf) ?_
                clear hO
                refine Sim.sP (i := 0) (d := some 39) (h := ?_)
                refine Sim.sP (i := 1) (d := some 40) (h := ?_)
                refine Sim.sP (i := 2) (d := some 41) (h := ?_)
                refine Sim.sP (i := 3) (d := some 42) (h := ?_)
                refine Sim.sO (i := 4) (d := some 43) (v := ?_) (hy := ?_) (h := ?_)
                rotate_left
                · first | refine Or.inl ⟨by rfl, fun w hO => ?_⟩ | (refine Or.inr ⟨by rfl, ?_⟩; with_reducible rfl)
                  first | done | (have hF := hO; (try simp only [Own, Item.Holds, apartI, CellsAt, Nat.reduceAdd, Nat.zero_add, List.mem_cons, List.not_mem_nil, or_false, forall_eq_or_imp, forall_eq, ne_eq, false_imp_iff, implies_true, and_true] at hF); ((have ⟨x0, x1, x2⟩ := ptAt (HC.out.below hO.base) HX.out; have ⟨y0, y1, y2⟩ := ptAt (HT.out.below hO.base) HP.out)); refine Out.same ?_; go_simp; all_goals with_reducible rfl)
                refine Sim.sP (i := 5) (d := some 44) (h := ?_)
                refine Sim.sP (i := 6) (d := some 45) (h := ?_)
                refine Sim.sP (i := 7) (d := some 46) (h := ?_)
                refine Sim.sO (i := 8) (d := some 47) (v := ?_) (hy := ?_) (h := ?_)
                rotate_left
                · first | refine Or.inl ⟨by rfl, fun w hO => ?_⟩ | (refine Or.inr ⟨by rfl, ?_⟩; with_reducible rfl)
                  first | done | (have hF := hO; (try simp only [Own, Item.Holds, apartI, CellsAt, Nat.reduceAdd, Nat.zero_add, List.mem_cons, List.not_mem_nil, or_false, forall_eq_or_imp, forall_eq, ne_eq, false_imp_iff, implies_true, and_true] at hF); ((have ⟨x0, x1, x2⟩ := ptAt (HC.out.below hO.base) HX.out; have ⟨y0, y1, y2⟩ := ptAt (HT.out.below hO.base) HP.out)); refine Out.same ?_; go_simp; all_goals with_reducible rfl)
                refine Sim.sP (i := 9) (d := some 48) (h := ?_)
                refine Sim.sP (i := 10) (d := some 49) (h := ?_)
                refine Sim.sO (i := 11) (d := some 50) (v := ?_) (hy := ?_) (h := ?_)
                rotate_left
                · first | refine Or.inl ⟨by rfl, fun w hO => ?_⟩ | (refine Or.inr ⟨by rfl, ?_⟩; with_reducible rfl)
                  first | done | (refine Out.call (f := 57) (args := ?_) ?_ ?_; rotate_left; (focus (go_simp; all_goals with_reducible rfl)); exact HONE.out _)
                refine Sim.sP (i := 12) (d := some 51) (h := ?_)
                refine Sim.done (by kernel_rfl) (fun w1 hO hX => ?_) _
                (try simp only [World.size_alloc1, World.size_drew, Nat.reduceAdd] at hO); (try simp only [upd, updI, List.map_cons, List.map_nil, eq_self, if_true, if_false, reduceIte, Nat.add_eq_left, Nat.left_eq_add, Nat.reduceEqDiff, List.set_cons_zero, List.set_cons_succ] at hO)
                have hF := hO; (try simp only [Own, Item.Holds, apartI, CellsAt, Nat.reduceAdd, Nat.zero_add, List.mem_cons, List.not_mem_nil, or_false, forall_eq_or_imp, forall_eq, ne_eq, false_imp_iff, implies_true, and_true] at hF)
                have e0 := hO.2.row_cell HVS.out
                have c0 := hO.row_cell (intC_get (fr_at (by rw [tbR_len, HN.out.2]; exact hil)))
                have f0 := hO.row_free i
                by_cases hz0 : z = 0
                · subst hz0
                  have hO2 := hO.row_set i (.int .i64 1)
                  rw [nt_set, fr_set (by rw [HROW.out]; rfl)] at hO2
                  clear hO
                  go_wp2_with fail
                  go_roundw
                  case rel => exact ⟨i + 1, by omega, by go_num, hO2⟩
                  case measure => simp [intOf]; omega
                · have z1 : (z == 0) = false := by simp [hz0]
                  have z2 : (z != 0) = true := by simp [hz0]
                  have HF := hid (fr_same (R := tbR T f c r) (i := i) (by rw [HROW.out, if_neg hz0]; rfl))
                  go_wp2_with fail
                  go_roundw
                  case rel => exact ⟨i + 1, by omega, by go_num, by rw [← HF.out]; exact hO⟩
                  case measure => simp [intOf]; omega
          · have hr2 : r + 1 < k := by omega
            have hlast2 : ((r : Int) == (k : Int) - 1) = false := by simp; omega
            have r2 : (0 : Int) ≤ (r : Int) + 1 := by omega
            have r3 : (r : Int) + 1 < (k : Int) := by omega
            have wr2 : IntKind.i64.wrap ((r : Int) + 1) = (r : Int) + 1 := IntWalk.i64_in _ (by omega)
            obtain ⟨v1, V', hV⟩ := tb_next HPUT.out HU.out (by rw [HN.out.1]; exact hr2)
            subst hV
            obtain ⟨y, hy⟩ : ∃ x, c[r + 1]? = some x := ⟨_, List.getElem?_eq_getElem (by have := HN.out.1; omega)⟩
            have HY := hid hy
            have py := HPV.out.1 y (List.mem_of_getElem? hy)
            have HVS1 := hid (show vs[r + 1]? = some v1 by
              have h3 := HVP.out
              rw [h3]
              exact vs_at1 HU.out)
            rw [rwN_cons] at hO
            dsimp only at hO
            rw [tbR_len, HN.out.2] at hO
            clear hes hy hlast
            go_loopw [11] (fun s wr => ∃ i : Nat, i ≤ t ∧ s = .int .i64 i ∧ Own w.heap.size (Below w.heap.size w) wr (.row 3 1 vk t (intC (frL (tbR T f c r) i)) :: .row 60 1 (.slice (some ⟨qo, 0, none⟩) k co) k vs :: (rwN U ++ ((.row 3 1 v1 t (intC (tbR T f c (r + 1))) :: rwN V') ++ [])))) (fun s _ => t - (intOf s).toNat)
            case atStart => exact ⟨0, by omega, rfl, hO⟩
            case round =>
              clear hO hF
              obtain ⟨i, hi, rfl, hO⟩ := hrel
              have hF := True.intro
              by_cases he : i = t
              · subst he
                have HES := hid HPUT.out
                go_wp2_with fail
                go_roundw
                case rel => exact ⟨r, U ++ (vk, tbR T f c r) :: (v1, tbR T f c (r + 1)) :: V', by omega, by go_num, HES.out, by
                  rw [← HVP.out]
                  refine nt_back (p := (vk, tbR T f c r)) ?_
                  rw [rwN_cons]
                  dsimp only
                  rw [tbR_len, tbR_len, HN.out.2]
                  have h2 : frL (tbR T f c r) i = tbR T f c r := by
                    have := fr_full (tbR T f c r)
                    rwa [tbR_len, HN.out.2] at this
                  rwa [h2] at hO⟩
                case measure => simp [intOf] <;> omega
              · have hil : i < t := by omega
                have hil2 : (i : Int) < (t : Int) := by omega
                have hi9 : (0 : Int) ≤ (i : Int) := by omega
                obtain ⟨b2, o2, rfl, _, _, hb2⟩ := hA' (by omega)
                obtain ⟨qk, ck, hvk, hk1, hk2⟩ := hO.row_open (by omega)
                obtain ⟨q1, c1, hv1, hk3, hk4⟩ := nt_form hO (v := v1) (k := t) (xs := intC (tbR T f c (r + 1))) (by simp) (by omega)
                subst hvk hv1
                have hck : ck ≤ 9223372036854775807 := by unfold maxLen at hk2; omega
                have hc19 : c1 ≤ 9223372036854775807 := by unfold maxLen at hk4; omega
                clear hk2 hk4
                obtain ⟨p, hp⟩ : ∃ x, T[i]? = some x := ⟨_, List.getElem?_eq_getElem (by have := HN.out.2; omega)⟩
                have HP := hid hp
                have pp := HPV.out.2 p (List.mem_of_getElem? hp)
                obtain ⟨z, hz⟩ : ∃ z, oneZ f x p (r : Int) (k : Int) = z := ⟨_, rfl⟩
                have HONE := hid (fun W => oneS_is px pp (k := r) (n := k) (by omega) (by omega) hz W)
                have hrow := tbR_at (f := f) (c := c) (k := r) hp
                rw [cnK_next HX.out HY.out, HN.out.1, hz, HN.out.2] at hrow
                have HROW := hid hrow
                clear hrow hp he hz
                go_wp2_with fail
                apply own_code hO
                (repeat (first | (with_reducible exact hO) | (with_reducible apply Own.alloc) | (with_reducible apply Own.drew) | ((with_reducible apply Own.set_at); (focus (show _ ≤ _; omega)))))
                have hG := hF; clear hF; clear hO; intro hO
                (try simp only [World.size_alloc1, World.size_drew, Nat.reduceAdd] at hO); (try simp only [upd, updI, List.map_cons, List.map_nil, eq_self, if_true, if_false, reduceIte, Nat.add_eq_left, Nat.left_eq_add, Nat.reduceEqDiff, List.set_cons_zero, List.set_cons_succ, hG] at hO); clear hG
                refine region_own (X := fun _ => True) [] (by kernel_rfl) (hO) (trivial) (by first | exact XStab.true | exact XStab.rd | exact XStab.rdIf) ?_
                clear hO
                refine Sim.sP (i := 0) (d := some 39) (h := ?_)
                refine Sim.sP (i := 1) (d := some 40) (h := ?_)
                refine Sim.sP (i := 2) (d := some 41) (h := ?_)
                refine Sim.sP (i := 3) (d := some 42) (h := ?_)
                refine Sim.sO (i := 4) (d := some 43) (v := ?_) (hy := ?_) (h := ?_)
                rotate_left
                · first | refine Or.inl ⟨by rfl, fun w hO => ?_⟩ | (refine Or.inr ⟨by rfl, ?_⟩; with_reducible rfl)
                  first | done | (have hF := hO; (try simp only [Own, Item.Holds, apartI, CellsAt, Nat.reduceAdd, Nat.zero_add, List.mem_cons, List.not_mem_nil, or_false, forall_eq_or_imp, forall_eq, ne_eq, false_imp_iff, implies_true, and_true] at hF); ((have ⟨x0, x1, x2⟩ := ptAt (HC.out.below hO.base) HX.out; have ⟨y0, y1, y2⟩ := ptAt (HT.out.below hO.base) HP.out)); refine Out.same ?_; go_simp; all_goals with_reducible rfl)
                refine Sim.sP (i := 5) (d := some 44) (h := ?_)
                refine Sim.sP (i := 6) (d := some 45) (h := ?_)
                refine Sim.sP (i := 7) (d := some 46) (h := ?_)
                refine Sim.sO (i := 8) (d := some 47) (v := ?_) (hy := ?_) (h := ?_)
                rotate_left
                · first | refine Or.inl ⟨by rfl, fun w hO => ?_⟩ | (refine Or.inr ⟨by rfl, ?_⟩; with_reducible rfl)
                  first | done | (have hF := hO; (try simp only [Own, Item.Holds, apartI, CellsAt, Nat.reduceAdd, Nat.zero_add, List.mem_cons, List.not_mem_nil, or_false, forall_eq_or_imp, forall_eq, ne_eq, false_imp_iff, implies_true, and_true] at hF); ((have ⟨x0, x1, x2⟩ := ptAt (HC.out.below hO.base) HX.out; have ⟨y0, y1, y2⟩ := ptAt (HT.out.below hO.base) HP.out)); refine Out.same ?_; go_simp; all_goals with_reducible rfl)
                refine Sim.sP (i := 9) (d := some 48) (h := ?_)
                refine Sim.sP (i := 10) (d := some 49) (h := ?_)
                refine Sim.sO (i := 11) (d := some 50) (v := ?_) (hy := ?_) (h := ?_)
                rotate_left
                · first | refine Or.inl ⟨by rfl, fun w hO => ?_⟩ | (refine Or.inr ⟨by rfl, ?_⟩; with_reducible rfl)
                  first | done | (refine Out.call (f := 57) (args := ?_) ?_ ?_; rotate_left; (focus (go_simp; all_goals with_reducible rfl)); exact HONE.out _)
                refine Sim.sP (i := 12) (d := some 51) (h := ?_)
                refine Sim.done (by kernel_rfl) (fun w1 hO hX => ?_) _
                (try simp only [World.size_alloc1, World.size_drew, Nat.reduceAdd] at hO); (try simp only [upd, updI, List.map_cons, List.map_nil, eq_self, if_true, if_false, reduceIte, Nat.add_eq_left, Nat.left_eq_add, Nat.reduceEqDiff, List.set_cons_zero, List.set_cons_succ] at hO)
                have hF := hO; (try simp only [Own, Item.Holds, apartI, CellsAt, Nat.reduceAdd, Nat.zero_add, List.mem_cons, List.not_mem_nil, or_false, forall_eq_or_imp, forall_eq, ne_eq, false_imp_iff, implies_true, and_true] at hF)
                by_cases hz0 : z = 0
                · subst hz0
                  have HZ := hid (show (frL (tbR T f c r) i).set i 0 = frL (tbR T f c r) i by
                    refine List.ext_getElem? fun j => ?_
                    by_cases hj : i = j
                    · subst hj
                      rw [List.getElem?_set_self (by rw [fr_len (by rw [tbR_len, HN.out.2]; omega), tbR_len, HN.out.2]; exact hil), fr_at (by rw [tbR_len, HN.out.2]; exact hil)]
                    · rw [List.getElem?_set_ne hj])
                  go_wp2_with fail
                  go_loopw [12] (fun s wr => ∃ j : Nat, j ≤ t ∧ s = .int .i64 j ∧ Own w.heap.size (Below w.heap.size w) wr (.row 3 1 (.slice (some ⟨qk, 0, none⟩) t ck) t (intC ((frL (tbR T f c r) i).set i (psK T f c r x p y j : Int))) :: .row 60 1 (.slice (some ⟨qo, 0, none⟩) k co) k vs :: (rwN U ++ ((.row 3 1 (.slice (some ⟨q1, 0, none⟩) t c1) t (intC (tbR T f c (r + 1))) :: rwN V') ++ [])))) (fun s _ => t - (intOf s).toNat)
                  case atStart => exact ⟨0, by omega, rfl, by rw [psK_zero]; rw [show (((0 : Nat)) : Int) = 0 from rfl, HZ.out]; exact hO⟩
                  case round =>
                    clear hO hF
                    obtain ⟨j, hj, rfl, hO⟩ := hrel
                    have hF := True.intro
                    by_cases he : j = t
                    · subst he
                      have HSET := hid (show (frL (tbR T f c r) i).set i (psK T f c r x p y j : Int) = frL (tbR T f c r) (i + 1) from fr_set (by rw [HROW.out]; simp))
                      go_wp2_with fail
                      go_roundw
                      case rel => exact ⟨i + 1, by omega, by go_num, by rw [← HSET.out]; exact hO⟩
                      case measure => simp [intOf]; omega
                    · have hjl : j < t := by omega
                      have hjl2 : (j : Int) < (t : Int) := by omega
                      have hj9 : (0 : Int) ≤ (j : Int) := by omega
                      obtain ⟨q, hq⟩ : ∃ x, T[j]? = some x := ⟨_, List.getElem?_eq_getElem (by have := HN.out.2; omega)⟩
                      have HQ := hid hq
                      have pq := HPV.out.2 q (List.mem_of_getElem? hq)
                      obtain ⟨s, hs⟩ : ∃ z, twoZ x p y q = z := ⟨_, rfl⟩
                      have HTWO := hid (fun W => twoS_is px pp py pq hs W)
                      have HUP := hid (psK_up (f := f) (c := c) (k := r) (x := x) (p := p) (y := y) hq)
                      have HST := hid (show stK T f c r x p y q = if s = 0 then cnK T f c (r + 1) q else 0 by unfold stK; rw [hs])
                      have HR1 := hid (tbR_at (f := f) (c := c) (k := r + 1) hq)
                      have b7 := HPN.out r x p y j
                      have b8 := HCN.out (r + 1) q
                      obtain ⟨g, hg⟩ : ∃ g : Int, (psK T f c r x p y j : Int) = g := ⟨_, rfl⟩
                      obtain ⟨h, hh⟩ : ∃ g : Int, (cnK T f c (r + 1) q : Int) = g := ⟨_, rfl⟩
                      have g0 : 0 ≤ g := by omega
                      have h0 : 0 ≤ h := by omega
                      have HG := hid hg
                      have HH := hid hh
                      rw [hg] at b7 hO
                      rw [hh] at b8 HR1
                      have wg : IntKind.i64.wrap (g + h) = g + h := IntWalk.i64_in _ (by omega)
                      clear he hq hs hg hh
                      go_wp2_with fail
                      apply own_code hO
                      (repeat (first | (with_reducible exact hO) | (with_reducible apply Own.alloc) | (with_reducible apply Own.drew) | ((with_reducible apply Own.set_at); (focus (show _ ≤ _; omega)))))
                      have hG := hF; clear hF; clear hO; intro hO
                      (try simp only [World.size_alloc1, World.size_drew, Nat.reduceAdd] at hO); (try simp only [upd, updI, List.map_cons, List.map_nil, eq_self, if_true, if_false, reduceIte, Nat.add_eq_left, Nat.left_eq_add, Nat.reduceEqDiff, List.set_cons_zero, List.set_cons_succ, hG] at hO); clear hG
                      refine region_own (X := fun _ => True) [] (by kernel_rfl) (hO) (trivial) (by first | exact XStab.true | exact XStab.rd | exact XStab.rdIf) ?_
                      clear hO
                      refine Sim.sP (i := 0) (d := some 68) (h := ?_)
                      refine Sim.sP (i := 1) (d := some 69) (h := ?_)
                      refine Sim.sP (i := 2) (d := some 70) (h := ?_)
                      refine Sim.sO (i := 3) (d := some 71) (v := ?_) (hy := ?_) (h := ?_)
                      rotate_left
                      · first | refine Or.inl ⟨by rfl, fun w hO => ?_⟩ | (refine Or.inr ⟨by rfl, ?_⟩; with_reducible rfl)
                        first | done | (have hF := hO; (try simp only [Own, Item.Holds, apartI, CellsAt, Nat.reduceAdd, Nat.zero_add, List.mem_cons, List.not_mem_nil, or_false, forall_eq_or_imp, forall_eq, ne_eq, false_imp_iff, implies_true, and_true] at hF); ((have ⟨x0, x1, x2⟩ := ptAt (HC.out.below hO.base) HX.out; have ⟨x3, x4, x5⟩ := ptAt (HC.out.below hO.base) HY.out; have ⟨y0, y1, y2⟩ := ptAt (HT.out.below hO.base) HP.out; have ⟨y3, y4, y5⟩ := ptAt (HT.out.below hO.base) HQ.out)); refine Out.same ?_; go_simp; all_goals with_reducible rfl)
                      refine Sim.sP (i := 4) (d := some 72) (h := ?_)
                      refine Sim.sP (i := 5) (d := some 73) (h := ?_)
                      refine Sim.sP (i := 6) (d := some 74) (h := ?_)
                      refine Sim.sO (i := 7) (d := some 75) (v := ?_) (hy := ?_) (h := ?_)
                      rotate_left
                      · first | refine Or.inl ⟨by rfl, fun w hO => ?_⟩ | (refine Or.inr ⟨by rfl, ?_⟩; with_reducible rfl)
                        first | done | (have hF := hO; (try simp only [Own, Item.Holds, apartI, CellsAt, Nat.reduceAdd, Nat.zero_add, List.mem_cons, List.not_mem_nil, or_false, forall_eq_or_imp, forall_eq, ne_eq, false_imp_iff, implies_true, and_true] at hF); ((have ⟨x0, x1, x2⟩ := ptAt (HC.out.below hO.base) HX.out; have ⟨x3, x4, x5⟩ := ptAt (HC.out.below hO.base) HY.out; have ⟨y0, y1, y2⟩ := ptAt (HT.out.below hO.base) HP.out; have ⟨y3, y4, y5⟩ := ptAt (HT.out.below hO.base) HQ.out)); refine Out.same ?_; go_simp; all_goals with_reducible rfl)
                      refine Sim.sP (i := 8) (d := some 76) (h := ?_)
                      refine Sim.sP (i := 9) (d := some 77) (h := ?_)
                      refine Sim.sP (i := 10) (d := some 78) (h := ?_)
                      refine Sim.sP (i := 11) (d := some 79) (h := ?_)
                      refine Sim.sO (i := 12) (d := some 80) (v := ?_) (hy := ?_) (h := ?_)
                      rotate_left
                      · first | refine Or.inl ⟨by rfl, fun w hO => ?_⟩ | (refine Or.inr ⟨by rfl, ?_⟩; with_reducible rfl)
                        first | done | (have hF := hO; (try simp only [Own, Item.Holds, apartI, CellsAt, Nat.reduceAdd, Nat.zero_add, List.mem_cons, List.not_mem_nil, or_false, forall_eq_or_imp, forall_eq, ne_eq, false_imp_iff, implies_true, and_true] at hF); ((have ⟨x0, x1, x2⟩ := ptAt (HC.out.below hO.base) HX.out; have ⟨x3, x4, x5⟩ := ptAt (HC.out.below hO.base) HY.out; have ⟨y0, y1, y2⟩ := ptAt (HT.out.below hO.base) HP.out; have ⟨y3, y4, y5⟩ := ptAt (HT.out.below hO.base) HQ.out)); refine Out.same ?_; go_simp; all_goals with_reducible rfl)
                      refine Sim.sP (i := 13) (d := some 81) (h := ?_)
                      refine Sim.sP (i := 14) (d := some 82) (h := ?_)
                      refine Sim.sP (i := 15) (d := some 83) (h := ?_)
                      refine Sim.sO (i := 16) (d := some 84) (v := ?_) (hy := ?_) (h := ?_)
                      rotate_left
                      · first | refine Or.inl ⟨by rfl, fun w hO => ?_⟩ | (refine Or.inr ⟨by rfl, ?_⟩; with_reducible rfl)
                        first | done | (have hF := hO; (try simp only [Own, Item.Holds, apartI, CellsAt, Nat.reduceAdd, Nat.zero_add, List.mem_cons, List.not_mem_nil, or_false, forall_eq_or_imp, forall_eq, ne_eq, false_imp_iff, implies_true, and_true] at hF); ((have ⟨x0, x1, x2⟩ := ptAt (HC.out.below hO.base) HX.out; have ⟨x3, x4, x5⟩ := ptAt (HC.out.below hO.base) HY.out; have ⟨y0, y1, y2⟩ := ptAt (HT.out.below hO.base) HP.out; have ⟨y3, y4, y5⟩ := ptAt (HT.out.below hO.base) HQ.out)); refine Out.same ?_; go_simp; all_goals with_reducible rfl)
                      refine Sim.sO (i := 17) (d := some 85) (v := ?_) (hy := ?_) (h := ?_)
                      rotate_left
                      · first | refine Or.inl ⟨by rfl, fun w hO => ?_⟩ | (refine Or.inr ⟨by rfl, ?_⟩; with_reducible rfl)
                        first | done | (refine Out.call (f := 38) (args := ?_) ?_ ?_; rotate_left; (focus (go_simp; all_goals with_reducible rfl)); exact HTWO.out _)
                      refine Sim.sP (i := 18) (d := some 86) (h := ?_)
                      refine Sim.done (by kernel_rfl) (fun w1 hO hX => ?_) _
                      (try simp only [World.size_alloc1, World.size_drew, Nat.reduceAdd] at hO); (try simp only [upd, updI, List.map_cons, List.map_nil, eq_self, if_true, if_false, reduceIte, Nat.add_eq_left, Nat.left_eq_add, Nat.reduceEqDiff, List.set_cons_zero, List.set_cons_succ] at hO)
                      have hF := hO; (try simp only [Own, Item.Holds, apartI, CellsAt, Nat.reduceAdd, Nat.zero_add, List.mem_cons, List.not_mem_nil, or_false, forall_eq_or_imp, forall_eq, ne_eq, false_imp_iff, implies_true, and_true] at hF)
                      by_cases hs0 : s = 0
                      · subst hs0
                        have HN2 := hid (show (psK T f c r x p y (j + 1) : Int) = g + h by rw [HUP.out, HST.out, if_pos rfl, ← HG.out, ← HH.out]; omega)
                        go_wp2_with fail
                        apply own_code hO
                        (repeat (first | (with_reducible exact hO) | (with_reducible apply Own.alloc) | (with_reducible apply Own.drew) | ((with_reducible apply Own.set_at); (focus (show _ ≤ _; omega)))))
                        have hG := hF; clear hF; clear hO; intro hO
                        (try simp only [World.size_alloc1, World.size_drew, Nat.reduceAdd] at hO); (try simp only [upd, updI, List.map_cons, List.map_nil, eq_self, if_true, if_false, reduceIte, Nat.add_eq_left, Nat.left_eq_add, Nat.reduceEqDiff, List.set_cons_zero, List.set_cons_succ, hG] at hO); clear hG
                        refine region_own (X := fun _ => True) [22] (by kernel_rfl) (hO) (trivial) (by first | exact XStab.true | exact XStab.rd | exact XStab.rdIf) ?_
                        clear hO
                        refine Sim.sP (i := 0) (d := some 87) (h := ?_)
                        refine Sim.sP (i := 1) (d := some 88) (h := ?_)
                        refine Sim.sP (i := 2) (d := some 89) (h := ?_)
                        refine Sim.sO (i := 3) (d := some 90) (v := ?_) (hy := ?_) (h := ?_)
                        rotate_left
                        · first | refine Or.inl ⟨by rfl, fun w hO => ?_⟩ | (refine Or.inr ⟨by rfl, ?_⟩; with_reducible rfl)
                          first | done | (skip; ((have e0 := hO.2.row_cell HVS.out; have e1 := hO.2.row_cell HVS1.out; have c0 := hO.row_cell (intC_get (fr_put (z := g) (R := tbR T f c r) (i := i) (by rw [tbR_len, HN.out.2]; exact hil))); have c1 := nt_cell (q := q1) (k := t) (cap := c1) hO (by simp) HR1.out)); refine Out.same ?_; go_simp; all_goals with_reducible rfl)
                        refine Sim.sP (i := 4) (d := some 91) (h := ?_)
                        refine Sim.sP (i := 5) (d := some 92) (h := ?_)
                        refine Sim.sP (i := 6) (d := some 93) (h := ?_)
                        refine Sim.sP (i := 7) (d := some 94) (h := ?_)
                        refine Sim.sO (i := 8) (d := some 95) (v := ?_) (hy := ?_) (h := ?_)
                        rotate_left
                        · first | refine Or.inl ⟨by rfl, fun w hO => ?_⟩ | (refine Or.inr ⟨by rfl, ?_⟩; with_reducible rfl)
                          first | done | (skip; ((have e0 := hO.2.row_cell HVS.out; have e1 := hO.2.row_cell HVS1.out; have c0 := hO.row_cell (intC_get (fr_put (z := g) (R := tbR T f c r) (i := i) (by rw [tbR_len, HN.out.2]; exact hil))); have c1 := nt_cell (q := q1) (k := t) (cap := c1) hO (by simp) HR1.out)); refine Out.same ?_; go_simp; all_goals with_reducible rfl)
                        refine Sim.sP (i := 9) (d := some 96) (h := ?_)
                        refine Sim.sP (i := 10) (d := some 97) (h := ?_)
                        refine Sim.sO (i := 11) (d := some 98) (v := ?_) (hy := ?_) (h := ?_)
                        rotate_left
                        · first | refine Or.inl ⟨by rfl, fun w hO => ?_⟩ | (refine Or.inr ⟨by rfl, ?_⟩; with_reducible rfl)
                          first | done | (skip; ((have e0 := hO.2.row_cell HVS.out; have e1 := hO.2.row_cell HVS1.out; have c0 := hO.row_cell (intC_get (fr_put (z := g) (R := tbR T f c r) (i := i) (by rw [tbR_len, HN.out.2]; exact hil))); have c1 := nt_cell (q := q1) (k := t) (cap := c1) hO (by simp) HR1.out)); refine Out.same ?_; go_simp; all_goals with_reducible rfl)
                        refine Sim.sP (i := 12) (d := some 99) (h := ?_)
                        refine Sim.sP (i := 13) (d := some 100) (h := ?_)
                        refine Sim.sP (i := 14) (d := some 101) (h := ?_)
                        refine Sim.sP (i := 15) (d := some 102) (h := ?_)
                        refine Sim.sO (i := 16) (d := some 103) (v := ?_) (hy := ?_) (h := ?_)
                        rotate_left
                        · first | refine Or.inl ⟨by rfl, fun w hO => ?_⟩ | (refine Or.inr ⟨by rfl, ?_⟩; with_reducible rfl)
                          first | done | (skip; ((have e0 := hO.2.row_cell HVS.out; have e1 := hO.2.row_cell HVS1.out; have c0 := hO.row_cell (intC_get (fr_put (z := g) (R := tbR T f c r) (i := i) (by rw [tbR_len, HN.out.2]; exact hil))); have c1 := nt_cell (q := q1) (k := t) (cap := c1) hO (by simp) HR1.out)); refine Out.same ?_; go_simp; all_goals with_reducible rfl)
                        refine Sim.sP (i := 17) (d := some 104) (h := ?_)
                        refine Sim.sP (i := 18) (d := some 105) (h := ?_)
                        refine Sim.sO (i := 19) (d := some 106) (v := ?_) (hy := ?_) (h := ?_)
                        rotate_left
                        · first | refine Or.inl ⟨by rfl, fun w hO => ?_⟩ | (refine Or.inr ⟨by rfl, ?_⟩; with_reducible rfl)
                          first | done | (skip; ((have e0 := hO.2.row_cell HVS.out; have e1 := hO.2.row_cell HVS1.out; have c0 := hO.row_cell (intC_get (fr_put (z := g) (R := tbR T f c r) (i := i) (by rw [tbR_len, HN.out.2]; exact hil))); have c1 := nt_cell (q := q1) (k := t) (cap := c1) hO (by simp) HR1.out)); refine Out.same ?_; go_simp; all_goals with_reducible rfl)
                        refine Sim.sP (i := 20) (d := some 107) (h := ?_)
                        refine Sim.sP (i := 21) (d := some 108) (h := ?_)
                        refine Sim.one' (i := 22) (oi := { dst := none, op := Op.store 3 (Operand.tmp 108) (Operand.tmp 107), type := 0, pos := "l15_completion.go:37", after := #[{ on := 21, ground := Ground.data }, { on := 20, ground := Ground.data }, { on := 0, ground := Ground.phase }, { on := 1, ground := Ground.phase }, { on := 2, ground := Ground.phase }, { on := 3, ground := Ground.phase }, { on := 4, ground := Ground.phase }, { on := 5, ground := Ground.phase }, { on := 6, ground := Ground.phase }, { on := 7, ground := Ground.phase }, { on := 8, ground := Ground.phase }, { on := 9, ground := Ground.phase }, { on := 10, ground := Ground.phase }, { on := 11, ground := Ground.phase }, { on := 12, ground := Ground.phase }, { on := 13, ground := Ground.phase }, { on := 14, ground := Ground.phase }, { on := 15, ground := Ground.phase }, { on := 16, ground := Ground.phase }, { on := 17, ground := Ground.phase }, { on := 18, ground := Ground.phase }, { on := 19, ground := Ground.phase }, { on := 20, ground := Ground.phase }], guard := none }) (by kernel_rfl) rfl (by rfl) (fun w0 hO hX K hK => ?_)
                        (have hF := hO; (try simp only [Own, Item.Holds, apartI, CellsAt, Nat.reduceAdd, Nat.zero_add, List.mem_cons, List.not_mem_nil, or_false, forall_eq_or_imp, forall_eq, ne_eq, false_imp_iff, implies_true, and_true] at hF))
                        have c0 := hO.row_cell (intC_get (fr_put (z := g) (R := tbR T f c r) (i := i) (by rw [tbR_len, HN.out.2]; exact hil)))
                        have f0 := hO.row_free i
                        go_simp
                        apply hK _ _ _ (fun _ => True)
                        · exact hO.row_set i (.int .i64 (g + h))
                        · exact trivial
                        · exact XStab.true
                        · first | exact fun _ _ h => h.2 | exact fun h => absurd h (by decide)
                        clear hO hF c0 f0
                        clear hK K
                        try simp only [Act.put, List.setIfInBounds_toArray, List.set_cons_zero, List.set_cons_succ]
                        refine Sim.done (by kernel_rfl) (fun w1 hO hX => ?_) _
                        (try simp only [World.size_alloc1, World.size_drew, Nat.reduceAdd] at hO); (try simp only [upd, updI, List.map_cons, List.map_nil, eq_self, if_true, if_false, reduceIte, Nat.add_eq_left, Nat.left_eq_add, Nat.reduceEqDiff, List.set_cons_zero, List.set_cons_succ] at hO)
                        have hF := hO; (try simp only [Own, Item.Holds, apartI, CellsAt, Nat.reduceAdd, Nat.zero_add, List.mem_cons, List.not_mem_nil, or_false, forall_eq_or_imp, forall_eq, ne_eq, false_imp_iff, implies_true, and_true] at hF)
                        go_wp2_with fail
                        go_roundw
                        case rel => exact ⟨j + 1, by omega, by go_num, by rw [HN2.out]; rw [nt_set, List.set_set] at hO; exact hO⟩
                        case measure => simp [intOf]; omega
                      · have z1 : (s == 0) = false := by simp [hs0]
                        have HN2 := hid (show (psK T f c r x p y (j + 1) : Int) = g by rw [HUP.out, HST.out, if_neg hs0, ← HG.out]; omega)
                        go_wp2_with fail
                        go_roundw
                        case rel => exact ⟨j + 1, by omega, by go_num, by rw [HN2.out]; exact hO⟩
                        case measure => simp [intOf]; omega
                · have z1 : (z == 0) = false := by simp [hz0]
                  have z2 : (z != 0) = true := by simp [hz0]
                  have HF := hid (fr_same (R := tbR T f c r) (i := i) (by rw [HROW.out, if_neg hz0]; rfl))
                  go_wp2_with fail
                  go_roundw
                  case rel => exact ⟨i + 1, by omega, by go_num, by rw [← HF.out]; exact hO⟩
                  case measure => simp [intOf]; omega
    · have hkl : k < n := by omega
      have hkl2 : (k : Int) < (n : Int) := by omega
      have HL := hid (show lsN es ++ [List.replicate t 0] = List.replicate (k + 1) (List.replicate t 0) by rw [hes.out]; exact (List.replicate_succ' ..).symm)
      have HL2 := hid (fun (V : Value) => show lsN (es ++ [(V, List.replicate t 0)]) = List.replicate (k + 1) (List.replicate t 0) by rw [← HL.out]; simp [lsN])
      have HEL := hid hel
      rw [hel] at hO
      clear he hes hel
      go_wp2_with (first | (at_make; go_loud (refine wpList_make_item rfl _ _ 60 rfl 3 i0 (.int .i64 0) 1 8 Tryd.underlying60 hi0 hz0 hz1 hz2 _ _ _ _ t rfl rfl rfl rfl (by omega) (by unfold maxLen; omega) (by (repeat (first | (with_reducible exact hO) | (with_reducible apply Own.alloc) | (with_reducible apply Own.drew) | ((with_reducible apply Own.set_at); (focus (show _ ≤ _; omega)))))) ?_); clear hO hF; intro qg w4 hO; rw [madeN15] at hO; have hF := True.intro) | (at_builtin; apply own_list hO; (repeat (first | (with_reducible exact hO) | (with_reducible apply Own.alloc) | (with_reducible apply Own.drew) | ((with_reducible apply Own.set_at); (focus (show _ ≤ _; omega))))); have hG := hF; clear hF; clear hO; intro hO; (try simp only [World.size_alloc1, World.size_drew, Nat.reduceAdd] at hO); (try simp only [upd, updI, List.map_cons, List.map_nil, eq_self, if_true, if_false, reduceIte, Nat.add_eq_left, Nat.left_eq_add, Nat.reduceEqDiff, List.set_cons_zero, List.set_cons_succ, hG] at hO); clear hG; (try simp only [World.size_setCell] at hO); have hF := hO; (try simp only [Own, Item.Holds, apartI, CellsAt, Nat.reduceAdd, Nat.zero_add, List.mem_cons, List.not_mem_nil, or_false, forall_eq_or_imp, forall_eq, ne_eq, false_imp_iff, implies_true, and_true] at hF); replace hO := hO.perm (List.Perm.cons _ (List.Perm.swap _ _ _)); refine wpList_append_item rfl _ _ 57 rfl 60 i1 (.slice none 0 0) 1 24 Tryd.underlying57 hi1 hy0 hy1 hy2 rfl (by decide) rfl rfl hO rfl one1n (by unfold maxLen; omega) (by omega) ?_; clear hO hF; intro v' w2 hO _; have hF := True.intro))
      go_roundw
      case rel => exact ⟨k + 1, es ++ [(.slice (some ⟨qg, 0, none⟩) t t, List.replicate t 0)], by omega, by go_num, HL2.out _, nt_snoc (s := List.replicate t 0) (by rw [HEL.out, List.length_replicate]; exact hO)⟩
      case measure => simp [intOf]; omega
end Go.Proofs.YtieoobanpllmgaaDoor
