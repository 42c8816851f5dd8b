/- Chapter 13 in the model: faults of realized basses. -/
import Derived.Test.YtfiodejbeeblgaaDoorWalks13S
import Derived.Test.YtfiodejbeeblgaaDoorWalks12P
import Derived.Test.YtfiodejbeeblgaaDoorCon13
import Derived.Test.YtfiodejbeeblgaaDoorRegionD
namespace Go.Proofs.YtfiodejbeeblgaaDoor
set_option linter.unusedSimpArgs false
set_option linter.unusedVariables false
set_option maxRecDepth 8000
open Go.RowKit

theorem ftS_is {f : Int} {x : Pt} {g : Int} {T : List Pt} {q : Nat} (hT : ftL f x g = T) (hq : T.length = q) (W : World) :
    Calls Tryd.prog 13 #[.int .i64 f, .agg #[.int .i64 x.s, .int .i64 x.a, .int .i64 x.o], .int .i64 g] W (RowOut 24 3 q (pcC T) W) := by
  subst hT hq; exact ftS_any f x g W

set_option maxRecDepth 20000 in
set_option maxHeartbeats 16000000 in
theorem rfS_in (hMv : MvS) (f : Int) (vb vg vl : Value) (bs : List Pt) (gs : List Int) (ll : List (List Pt)) (w : World) (hb : SlAt w vb bs.length 3 (pcC bs)) (hg : SlAt w vg gs.length 1 (intC gs)) (hl : StkR w vl ll) (hle : ∀ l ∈ ll, l.length ≤ 1048576) (hc : rfC f bs gs ll) :
    Calls Tryd.prog 23 #[.int .i64 f, vb, vg, vl] w fun e w' => e = .returned (.int .i64 (rfZ f bs gs ll)) ∧ Below w.heap.size w w' := by
  have hO := Own.start w
  have hF := True.intro
  have HC := hid hc
  obtain ⟨h8, hbn, hgn, hkb⟩ := hc
  have HPA := hid (fun W (hW : Below w.heap.size w W) => paS_of hMv vl ll W (hl.below hW) (by omega) hle)
  have HI := hid (fun W => in_is W (show inB f (-7) 7 = true from hkb))
  have HLE := hid hle
  obtain ⟨n, hnl⟩ : ∃ n, ll.length = n := ⟨_, rfl⟩
  have HN := hid hnl
  obtain ⟨us, hus⟩ : ∃ us, paZ ll = us := ⟨_, rfl⟩
  obtain ⟨q, hq⟩ : ∃ q, us.length = q := ⟨_, rfl⟩
  have HUS := hid (And.intro hus hq)
  have hq9 : q ≤ 16 := by
    have := paF_len ll ll.length
    unfold paZ at hus
    rw [if_pos h8] at hus
    rw [← hq, ← hus]
    omega
  rw [hus, hq] at HPA
  rw [hbn, hnl] at hb
  rw [hgn, hnl] at hg
  obtain ⟨Ab, cb, rfl, nb, hAb⟩ := hb.open
  obtain ⟨Ag, cg, rfl, ng, hAg⟩ := hg.open
  obtain ⟨Al, cl, rfl, nl, hAl⟩ := hl.open
  have HB := hid hb
  have HG := hid hg
  have HBN := hid (And.intro (hbn.trans hnl) (hgn.trans hnl))
  rw [hnl] at h8 nl hAl HPA ⊢
  have h8' : ¬ 8 < (n : Int) := by omega
  have h8'' : (n : Int) ≤ 8 := by omega
  clear hb hg hl hle hnl hbn hgn hkb hus hq
  go_enter Tryd.func23, Tryd.ntmps23
  go_wp2_with (first | (go_at_call 50; apply own_at hO; (repeat (first | (with_reducible exact hO) | (with_reducible apply Own.alloc) | (with_reducible apply Own.drew) | ((with_reducible apply Own.set_at); (focus (show _ ≤ _; omega))))); have hG := hF; clear hF; clear hO; intro hO; refine own_call hO (fun hB => HI.out _) ?_; clear hO; intro w1 hO; (try simp only [World.size_alloc1, World.size_drew, Nat.reduceAdd] at hO); (try simp only [upd, updI, List.map_cons, List.map_nil, eq_self, if_true, if_false, reduceIte, Nat.add_eq_left, Nat.left_eq_add, Nat.reduceEqDiff, List.set_cons_zero, List.set_cons_succ, hG] at hO); clear hG; have hF := hO; (try simp only [Own, Item.Holds, apartI, CellsAt, Nat.reduceAdd, Nat.zero_add, List.mem_cons, List.not_mem_nil, or_false, forall_eq_or_imp, forall_eq, ne_eq, false_imp_iff, implies_true, and_true] at hF)) | (go_at_call 67; apply own_at hO; (repeat (first | (with_reducible exact hO) | (with_reducible apply Own.alloc) | (with_reducible apply Own.drew) | ((with_reducible apply Own.set_at); (focus (show _ ≤ _; omega))))); have hG := hF; clear hF; clear hO; intro hO; refine own_call_row hO (fun hB => HPA.out _ hB) ?_; clear hO; intro v w1 hO; (try simp only [World.size_alloc1, World.size_drew, Nat.reduceAdd] at hO); (try simp only [upd, updI, List.map_cons, List.map_nil, eq_self, if_true, if_false, reduceIte, Nat.add_eq_left, Nat.left_eq_add, Nat.reduceEqDiff, List.set_cons_zero, List.set_cons_succ, hG] at hO); clear hG; have hF := hO; (try simp only [Own, Item.Holds, apartI, CellsAt, Nat.reduceAdd, Nat.zero_add, List.mem_cons, List.not_mem_nil, or_false, forall_eq_or_imp, forall_eq, ne_eq, false_imp_iff, implies_true, and_true] at hF)))
  obtain ⟨Au, cu, hvu⟩ := (SlAt.of_row hO.1.1).form
  subst hvu
  go_loopw [11] (fun t wr => ∃ k : Nat, k ≤ n ∧ t = .int .i64 k ∧ Hid (∀ j, j < k → ¬ rfP f bs gs ll j) ∧ Own w.heap.size (Below w.heap.size w) wr [.row 87 2 (.slice Au q cu) q (tnC us)]) (fun t _ => n - (intOf t).toNat)
  case atStart => exact ⟨0, by omega, rfl, fun j h => by omega, hO⟩
  case round =>
    clear hO hF
    obtain ⟨k, hk, rfl, hno, hO⟩ := hrel
    have hF := hO; (try simp only [Own, Item.Holds, apartI, CellsAt, Nat.reduceAdd, Nat.zero_add, List.mem_cons, List.not_mem_nil, or_false, forall_eq_or_imp, forall_eq, ne_eq, false_imp_iff, implies_true, and_true] at hF)
    by_cases he : k = n
    · subst he
      have HE := hid (rf_none (f := f) (bs := bs) (gs := gs) (ll := ll) (fun j hj => hno.out j (by have := HN.out; omega)))
      go_wp2_with fail
      go_ret
      exact ⟨ret_int HE.out.symm, Own.base (by first | exact hO | (repeat (first | (with_reducible exact hO) | (with_reducible apply Own.alloc) | (with_reducible apply Own.drew) | ((with_reducible apply Own.set_at); (focus (show _ ≤ _; omega))))))⟩
    · have hkl : k < n := by omega
      have hkl2 : (k : Int) < n := by omega
      have hk0 : (0 : Int) ≤ (k : Int) := by omega
      obtain ⟨b1, o1, rfl, hc1, hc2, hb1⟩ := hAb (by omega)
      obtain ⟨b2, o2, rfl, hd1, hd2, hb2⟩ := hAg (by omega)
      obtain ⟨b3, o3, rfl, hf1, hf2, hb3, hcell⟩ := hAl (by omega)
      obtain ⟨x, hx⟩ : ∃ x, bs[k]? = some x := ⟨_, List.getElem?_eq_getElem (by have := HBN.out.1; omega)⟩
      obtain ⟨g, hg⟩ : ∃ x, gs[k]? = some x := ⟨_, List.getElem?_eq_getElem (by have := HBN.out.2; omega)⟩
      obtain ⟨l, hl⟩ : ∃ x, ll[k]? = some x := ⟨_, List.getElem?_eq_getElem (by have := HN.out; omega)⟩
      obtain ⟨A1, c1, hs1, d1⟩ := hcell k l hl
      have hll := HLE.out l (List.mem_of_getElem? hl)
      obtain ⟨m, hm⟩ : ∃ m, l.length = m := ⟨_, rfl⟩
      rw [hm] at hs1 d1 hll
      obtain ⟨T, hT⟩ : ∃ T, ftL f x g = T := ⟨_, rfl⟩
      obtain ⟨r, hr⟩ : ∃ r, T.length = r := ⟨_, rfl⟩
      have hr4 : r ≤ 4 := by rw [← hr, ← hT]; exact ft_len f x g
      have HFT := hid (fun W => ftS_is hT hr W)
      have HX := hid (And.intro hx (And.intro hg (And.intro hl (And.intro hT (And.intro hr hm)))))
      have HS1 := hid hs1
      have HD1 := hid (fun W (hW : Below w.heap.size w W) => ((bcell hW).1 b3 (o3 + k) hb3).trans d1)
      have HEND := hid (fun (b : Bool) (h : b = true ↔ rf2 T l x us k q) => rf2_is HC.out.1 hx hg hl hT HUS.out.1 HUS.out.2 h)
      clear he hx hg hl hT hr hm hcell hs1 d1
      go_wp2_with fail
      apply own_code hO
      (repeat (first | (with_reducible exact hO) | (with_reducible apply Own.alloc) | (with_reducible apply Own.drew) | ((with_reducible apply Own.set_at); (focus (show _ ≤ _; omega)))))
      have hG := hF; clear hF; clear hO; intro hO
      (try simp only [World.size_alloc1, World.size_drew, Nat.reduceAdd] at hO); (try simp only [upd, updI, List.map_cons, List.map_nil, eq_self, if_true, if_false, reduceIte, Nat.add_eq_left, Nat.left_eq_add, Nat.reduceEqDiff, List.set_cons_zero, List.set_cons_succ, hG] at hO); clear hG
      refine region_own (X := fun _ => True) [] (by kernel_rfl) (hO) (trivial) (by first | exact XStab.true | exact XStab.rd | exact XStab.rdIf) ?_
      clear hO
      refine Sim.sP (i := 0) (d := some 44) (h := ?_)
      refine Sim.sP (i := 1) (d := some 45) (h := ?_)
      refine Sim.sP (i := 2) (d := some 46) (h := ?_)
      refine Sim.sP (i := 3) (d := some 47) (h := ?_)
      refine Sim.sO (i := 4) (d := some 48) (v := ?_) (hy := ?_) (h := ?_)
      rotate_left
      · first | refine Or.inl ⟨by rfl, fun w hO => ?_⟩ | (refine Or.inr ⟨by rfl, ?_⟩; with_reducible rfl)
        first | done | (have hF := hO; (try simp only [Own, Item.Holds, apartI, CellsAt, Nat.reduceAdd, Nat.zero_add, List.mem_cons, List.not_mem_nil, or_false, forall_eq_or_imp, forall_eq, ne_eq, false_imp_iff, implies_true, and_true] at hF); ((have ⟨d0, d1, d2⟩ := ptAt (HB.out.below hO.base) HX.out.1; have d3 := inAt (HG.out.below hO.base) HX.out.2.1)); refine Out.same ?_; go_simp; all_goals with_reducible rfl)
      refine Sim.sP (i := 5) (d := some 49) (h := ?_)
      refine Sim.sP (i := 6) (d := some 50) (h := ?_)
      refine Sim.sP (i := 7) (d := some 51) (h := ?_)
      refine Sim.sO (i := 8) (d := some 52) (v := ?_) (hy := ?_) (h := ?_)
      rotate_left
      · first | refine Or.inl ⟨by rfl, fun w hO => ?_⟩ | (refine Or.inr ⟨by rfl, ?_⟩; with_reducible rfl)
        first | done | (have hF := hO; (try simp only [Own, Item.Holds, apartI, CellsAt, Nat.reduceAdd, Nat.zero_add, List.mem_cons, List.not_mem_nil, or_false, forall_eq_or_imp, forall_eq, ne_eq, false_imp_iff, implies_true, and_true] at hF); ((have ⟨d0, d1, d2⟩ := ptAt (HB.out.below hO.base) HX.out.1; have d3 := inAt (HG.out.below hO.base) HX.out.2.1)); refine Out.same ?_; go_simp; all_goals with_reducible rfl)
      refine Sim.one' (i := 9) (oi := { dst := some 53, op := Op.call { callee := Callee.value (Operand.func 13), args := #[Operand.tmp 44, Operand.tmp 48, Operand.tmp 52], argTypes := #[3, 24, 3] }, type := 27, pos := "l13_figured_bass.go:115", after := #[{ on := 0, ground := Ground.data }, { on := 4, ground := Ground.data }, { on := 8, ground := Ground.data }], guard := none }) (by kernel_rfl) rfl (by rfl) (fun w0 hO hX K hK => ?_)
      have hF := hO; (try simp only [Own, Item.Holds, apartI, CellsAt, Nat.reduceAdd, Nat.zero_add, List.mem_cons, List.not_mem_nil, or_false, forall_eq_or_imp, forall_eq, ne_eq, false_imp_iff, implies_true, and_true] at hF)
      go_simp
      refine (HFT.out _).mono ?_
      rintro e wa ⟨ra, rfl, hra, hBa⟩
      apply hK _ _ _ (fun _ => True)
      · exact hO.addRow hBa hra
      · exact trivial
      · exact XStab.true
      · first | exact fun _ _ h => h.2 | exact fun h => absurd h (by decide)
      clear hra hBa
      clear hK K hF hO
      try simp only [Act.put, List.setIfInBounds_toArray, List.set_cons_zero, List.set_cons_succ]
      refine Sim.sP (i := 10) (d := some 12) (h := ?_)
      refine Sim.done (by kernel_rfl) (fun w1 hO hX => ?_) _
      (try simp only [World.size_alloc1, World.size_drew, Nat.reduceAdd] at hO); (try simp only [upd, updI, List.map_cons, List.map_nil, eq_self, if_true, if_false, reduceIte, Nat.add_eq_left, Nat.left_eq_add, Nat.reduceEqDiff, List.set_cons_zero, List.set_cons_succ] at hO)
      have hF := hO; (try simp only [Own, Item.Holds, apartI, CellsAt, Nat.reduceAdd, Nat.zero_add, List.mem_cons, List.not_mem_nil, or_false, forall_eq_or_imp, forall_eq, ne_eq, false_imp_iff, implies_true, and_true] at hF)
      all_goals
        obtain ⟨AT, cT, hvT⟩ := (SlAt.of_row hO.1.1).form
        subst hvT
        by_cases hr0 : r = 0
        · have hT0 := hid (List.eq_nil_of_length_eq_zero (HX.out.2.2.2.2.1.trans hr0))
          subst hr0
          have HBD := hid (show true = true ↔ rf0 T l x from ⟨fun _ => Or.inl hT0.out, fun _ => rfl⟩)
          go_wp2_with fail
          apply own_code hO
          (repeat (first | (with_reducible exact hO) | (with_reducible apply Own.alloc) | (with_reducible apply Own.drew) | ((with_reducible apply Own.set_at); (focus (show _ ≤ _; omega)))))
          have hG := hF; clear hF; clear hO; intro hO
          (try simp only [World.size_alloc1, World.size_drew, Nat.reduceAdd] at hO); (try simp only [upd, updI, List.map_cons, List.map_nil, eq_self, if_true, if_false, reduceIte, Nat.add_eq_left, Nat.left_eq_add, Nat.reduceEqDiff, List.set_cons_zero, List.set_cons_succ, hG] at hO); clear hG
          refine region_own (X := fun _ => True) [] (by kernel_rfl) (hO) (trivial) (by first | exact XStab.true | exact XStab.rd | exact XStab.rdIf) ?_
          clear hO
          refine Sim.sP (i := 0) (d := some 54) (h := ?_)
          refine Sim.sO (i := 1) (d := some 55) (v := ?_) (hy := ?_) (h := ?_)
          rotate_left
          · first | refine Or.inl ⟨by rfl, fun w hO => ?_⟩ | (refine Or.inr ⟨by rfl, ?_⟩; with_reducible rfl)
            first | done | (have hF := hO; (try simp only [Own, Item.Holds, apartI, CellsAt, Nat.reduceAdd, Nat.zero_add, List.mem_cons, List.not_mem_nil, or_false, forall_eq_or_imp, forall_eq, ne_eq, false_imp_iff, implies_true, and_true] at hF); refine Out.same ?_; go_simp; all_goals with_reducible rfl)
          refine Sim.sP (i := 2) (d := some 56) (h := ?_)
          refine Sim.sP (i := 3) (d := some 57) (h := ?_)
          refine Sim.sP (i := 4) (d := some 58) (h := ?_)
          refine Sim.sP (i := 5) (d := some 59) (h := ?_)
          refine Sim.sP (i := 6) (d := some 60) (h := ?_)
          refine Sim.sP (i := 7) (d := some 61) (h := ?_)
          refine Sim.sP (i := 8) (d := some 62) (h := ?_)
          refine Sim.sP (i := 9) (d := some 63) (h := ?_)
          refine Sim.sP (i := 10) (d := some 64) (h := ?_)
          refine Sim.sP (i := 11) (d := some 65) (h := ?_)
          refine Sim.sP (i := 12) (d := some 66) (h := ?_)
          refine Sim.sP (i := 13) (d := some 67) (h := ?_)
          refine Sim.sP (i := 14) (d := some 68) (h := ?_)
          refine Sim.sP (i := 15) (d := some 69) (h := ?_)
          refine Sim.sP (i := 16) (d := some 70) (h := ?_)
          refine Sim.sP (i := 17) (d := some 71) (h := ?_)
          refine Sim.sP (i := 18) (d := some 72) (h := ?_)
          refine Sim.sP (i := 19) (d := some 73) (h := ?_)
          refine Sim.sP (i := 20) (d := some 74) (h := ?_)
          refine Sim.sP (i := 21) (d := some 75) (h := ?_)
          refine Sim.sP (i := 22) (d := some 76) (h := ?_)
          refine Sim.sP (i := 23) (d := some 77) (h := ?_)
          refine Sim.sP (i := 24) (d := some 78) (h := ?_)
          refine Sim.sP (i := 25) (d := some 79) (h := ?_)
          refine Sim.sP (i := 26) (d := some 80) (h := ?_)
          refine Sim.sP (i := 27) (d := some 81) (h := ?_)
          refine Sim.sP (i := 28) (d := some 82) (h := ?_)
          refine Sim.sP (i := 29) (d := some 83) (h := ?_)
          refine Sim.sP (i := 30) (d := some 84) (h := ?_)
          refine Sim.sP (i := 31) (d := some 85) (h := ?_)
          refine Sim.sP (i := 32) (d := some 86) (h := ?_)
          refine Sim.sP (i := 33) (d := some 13) (h := ?_)
          refine Sim.done (by kernel_rfl) (fun w1 hO hX => ?_) _
          (try simp only [World.size_alloc1, World.size_drew, Nat.reduceAdd] at hO); (try simp only [upd, updI, List.map_cons, List.map_nil, eq_self, if_true, if_false, reduceIte, Nat.add_eq_left, Nat.left_eq_add, Nat.reduceEqDiff, List.set_cons_zero, List.set_cons_succ] at hO)
          have hF := hO; (try simp only [Own, Item.Holds, apartI, CellsAt, Nat.reduceAdd, Nat.zero_add, List.mem_cons, List.not_mem_nil, or_false, forall_eq_or_imp, forall_eq, ne_eq, false_imp_iff, implies_true, and_true] at hF)
          all_goals
            go_wp2_with fail
            go_loopw [13, 14] (fun u t ws => ∃ (j : Nat) (b : Bool), j ≤ m ∧ t = .int .i64 j ∧ u = .bool b ∧ Hid (b = true ↔ rf1 T l x j) ∧ Own w.heap.size (Below w.heap.size w) ws [.row 24 3 (.slice AT 0 cT) 0 (pcC T), .row 87 2 (.slice Au q cu) q (tnC us)]) (fun _ t _ => m - (intOf t).toNat)
            case atStart => exact ⟨0, _, by omega, rfl, rfl, rf1_zero (show _ = true ↔ rf0 T l x from by have := HBD.out; simpa using this), hO⟩
            case round =>
              clear hO hF
              obtain ⟨j, b, hj, rfl, rfl, hbj, hO⟩ := hrel
              have e1 := HD1.out _ hO.base
              have hF := hO; (try simp only [Own, Item.Holds, apartI, CellsAt, Nat.reduceAdd, Nat.zero_add, List.mem_cons, List.not_mem_nil, or_false, forall_eq_or_imp, forall_eq, ne_eq, false_imp_iff, implies_true, and_true] at hF)
              by_cases he : j = m
              · subst he
                have HBE := hid (rf2_zero (us := us) (k := k) HX.out.2.2.2.2.2 hbj.out)
                clear hbj hj
                go_wp2_with fail
                go_loopw [13, 15] (fun u t ws => ∃ (j : Nat) (b : Bool), j ≤ q ∧ t = .int .i64 j ∧ u = .bool b ∧ Hid (b = true ↔ rf2 T l x us k j) ∧ Own w.heap.size (Below w.heap.size w) ws [.row 24 3 (.slice AT 0 cT) 0 (pcC T), .row 87 2 (.slice Au q cu) q (tnC us)]) (fun _ t _ => q - (intOf t).toNat)
                case atStart => exact ⟨0, _, by omega, rfl, rfl, HBE.out, hO⟩
                case round =>
                  clear hO hF e1
                  obtain ⟨j, b, hj, rfl, rfl, hbj, hO⟩ := hrel
                  have hF := hO; (try simp only [Own, Item.Holds, apartI, CellsAt, Nat.reduceAdd, Nat.zero_add, List.mem_cons, List.not_mem_nil, or_false, forall_eq_or_imp, forall_eq, ne_eq, false_imp_iff, implies_true, and_true] at hF)
                  by_cases he : j = q
                  · subst he
                    have HBF := hid (HEND.out b hbj.out)
                    clear hbj
                    cases b
                    · have HU := hid (upto_P hno.out (fun hc => by have := HBF.out.2 hc; cases this))
                      go_wp2_with fail
                      go_roundw
                      case rel => exact ⟨k + 1, by omega, by go_num, HU.out, Own.drop hO⟩
                      case measure => simp [intOf]; omega
                    · have HE := hid (rf_hit HC.out (by have := HN.out; omega) (HBF.out.1 rfl) hno.out)
                      go_wp2_with fail
                      go_ret
                      exact ⟨ret_int HE.out.symm, Own.base (by first | exact hO | (repeat (first | (with_reducible exact hO) | (with_reducible apply Own.alloc) | (with_reducible apply Own.drew) | ((with_reducible apply Own.set_at); (focus (show _ ≤ _; omega))))))⟩
                  · have hjl : j < q := by omega
                    have hjl2 : (j : Int) < q := by omega
                    have hj0 : (0 : Int) ≤ (j : Int) := by omega
                    obtain ⟨u, hu⟩ : ∃ u, us[j]? = some u := ⟨_, List.getElem?_eq_getElem (by have := HUS.out.2; omega)⟩
                    have HU0 := hid hu
                    cases b
                    · obtain ⟨b6, o6, c6, hv6⟩ : ∃ b6 o6 c6, Value.slice Au q cu = .slice (some ⟨b6, o6, none⟩) q c6 := by
                        rcases (SlAt.of_row hO.2.1.1).2 with ⟨h, h0⟩ | ⟨b6, o6, c6, h1, _⟩
                        · omega
                        · exact ⟨b6, o6, c6, h1⟩
                      cases hv6
                      obtain ⟨g0, g1⟩ := tnAt (SlAt.of_row hO.2.1.1) hu
                      by_cases hd : u.1 = (k : Int)
                      · have HB2 := hid (show true = true ↔ rf2 T l x us k (j + 1) from by have := rf2_up HU0.out (show (u.1 == (k : Int)) = true by simp [hd]) hbj.out; simpa using this)
                        rw [hd] at g0
                        clear he hu hbj hd
                        go_wp2_with fail
                        go_roundw
                        case rel => exact ⟨j + 1, _, by omega, by go_num, rfl, HB2.out, hO⟩
                        case measure => simp [intOf]; omega
                      · have hd2 : (u.1 == (k : Int)) = false := by simp [hd]
                        have HB2 := hid (show false = true ↔ rf2 T l x us k (j + 1) from by have := rf2_up HU0.out hd2 hbj.out; simpa using this)
                        clear he hu hbj
                        go_wp2_with fail
                        go_roundw
                        case rel => exact ⟨j + 1, _, by omega, by go_num, rfl, HB2.out, hO⟩
                        case measure => simp [intOf]; omega
                    · have HB2 := hid (show true = true ↔ rf2 T l x us k (j + 1) from by have := rf2_up HU0.out (d := (u.1 == (k : Int))) rfl hbj.out; simpa using this)
                      clear he hu hbj
                      go_wp2_with fail
                      go_roundw
                      case rel => exact ⟨j + 1, _, by omega, by go_num, rfl, HB2.out, hO⟩
                      case measure => simp [intOf]; omega
              · have hjl : j < m := by omega
                have hjl2 : (j : Int) < (m : Nat) := by omega
                have hj0 : (0 : Int) ≤ (j : Int) := by omega
                obtain ⟨z, hz⟩ : ∃ z, l[j]? = some z := ⟨_, List.getElem?_eq_getElem (by have := HX.out.2.2.2.2.2; omega)⟩
                have HZ := hid hz
                cases b
                · obtain ⟨b6, o6, c6, hv6⟩ : ∃ b6 o6 c6, Value.slice A1 m c1 = .slice (some ⟨b6, o6, none⟩) m c6 := by
                    rcases HS1.out.2 with ⟨h, h0⟩ | ⟨b6, o6, c6, h1, _⟩
                    · omega
                    · exact ⟨b6, o6, c6, h1⟩
                  cases hv6
                  obtain ⟨g0, g1, g2⟩ := ptAt (HS1.out.below hO.base) hz
                  obtain ⟨d, hd⟩ : ∃ d, hasB T z = d := ⟨_, rfl⟩
                  have HH := hid (fun va W (ha : SlAt W va 0 3 (pcC T)) => hasS_is HX.out.2.2.2.2.1 (by omega) hd W ha)
                  have HB2 := hid (show (!d) = true ↔ rf1 T l x (j + 1) from by have := rf1_up HZ.out hd hbj.out; simpa using this)
                  clear he hz hbj hd
                  go_wp2_with (go_at_call 69; apply own_at hO; (repeat (first | (with_reducible exact hO) | (with_reducible apply Own.alloc) | (with_reducible apply Own.drew) | ((with_reducible apply Own.set_at); (focus (show _ ≤ _; omega))))); have hG := hF; clear hF; clear hO; intro hO; refine own_callO hO (fun hW => HH.out _ _ (SlAt.of_row hW.1.1)) ?_; clear hO; intro w1 hO; (try simp only [World.size_alloc1, World.size_drew, Nat.reduceAdd] at hO); (try simp only [upd, updI, List.map_cons, List.map_nil, eq_self, if_true, if_false, reduceIte, Nat.add_eq_left, Nat.left_eq_add, Nat.reduceEqDiff, List.set_cons_zero, List.set_cons_succ, hG] at hO); clear hG; have hF := hO; (try simp only [Own, Item.Holds, apartI, CellsAt, Nat.reduceAdd, Nat.zero_add, List.mem_cons, List.not_mem_nil, or_false, forall_eq_or_imp, forall_eq, ne_eq, false_imp_iff, implies_true, and_true] at hF))
                  go_roundw
                  case rel => exact ⟨j + 1, _, by omega, by go_num, rfl, HB2.out, hO⟩
                  case measure => simp [intOf]; omega
                · have HB2 := hid (show true = true ↔ rf1 T l x (j + 1) from by have := rf1_up HZ.out (d := hasB T z) rfl hbj.out; simpa using this)
                  clear he hz hbj
                  go_wp2_with fail
                  go_roundw
                  case rel => exact ⟨j + 1, _, by omega, by go_num, rfl, HB2.out, hO⟩
                  case measure => simp [intOf]; omega
        · have hr1 : 0 < r := by omega
          have hr2 : ((r : Int) == 0) = false := by simp; omega
          have hr3 : ¬ (r : Int) = 0 := by omega
          have hr4 : ¬ r = 0 := hr0
          by_cases hm4 : m = 4
          · subst hm4
            obtain ⟨b4, o4, c4, hv4, hk4⟩ : ∃ b4 o4 c4, Value.slice A1 4 c1 = .slice (some ⟨b4, o4, none⟩) 4 c4 ∧ b4 < w.heap.size := by
              rcases HS1.out.2 with ⟨h, _⟩ | ⟨b4, o4, c4, h1, _, _, h4, _⟩
              · cases h
              · exact ⟨b4, o4, c4, h1, h4⟩
            cases hv4
            obtain ⟨y, hy⟩ : ∃ y, l[0]? = some y := ⟨_, List.getElem?_eq_getElem (by have := HX.out.2.2.2.2.2; omega)⟩
            have HY := hid hy
            by_cases hyx : y = x
            · subst hyx
              clear hy
              obtain ⟨du, hdu⟩ : ∃ b, T.all (hasB l) = b := ⟨_, rfl⟩
              have HFU := hid (fun va W (ha : SlAt W va r 3 (pcC T)) (hW : Below w.heap.size w W) => fuS_is HX.out.2.2.2.2.2 HX.out.2.2.2.2.1 (by omega) (by omega) hdu (HS1.out.below hW) ha W (Below.refl _ _))
              have HBD := hid (show (!du) = true ↔ rf0 T l y from by
                rw [← hdu]
                unfold rf0
                constructor
                · intro h; exact Or.inr (Or.inr (Or.inr (by simpa using h)))
                · rintro (h | h | h | h)
                  · exact absurd (by rw [← HX.out.2.2.2.2.1, h]; rfl) hr0
                  · exact absurd HX.out.2.2.2.2.2 h
                  · exact absurd HY.out h
                  · simpa using h)
              clear hdu
              go_wp2_with fail
              apply own_code hO
              (repeat (first | (with_reducible exact hO) | (with_reducible apply Own.alloc) | (with_reducible apply Own.drew) | ((with_reducible apply Own.set_at); (focus (show _ ≤ _; omega)))))
              have hG := hF; clear hF; clear hO; intro hO
              (try simp only [World.size_alloc1, World.size_drew, Nat.reduceAdd] at hO); (try simp only [upd, updI, List.map_cons, List.map_nil, eq_self, if_true, if_false, reduceIte, Nat.add_eq_left, Nat.left_eq_add, Nat.reduceEqDiff, List.set_cons_zero, List.set_cons_succ, hG] at hO); clear hG
              refine region_own (X := fun _ => True) [] (by kernel_rfl) (hO) (trivial) (by first | exact XStab.true | exact XStab.rd | exact XStab.rdIf) ?_
              clear hO
              refine Sim.sP (i := 0) (d := some 54) (h := ?_)
              refine Sim.sO (i := 1) (d := some 55) (v := ?_) (hy := ?_) (h := ?_)
              rotate_left
              · first | refine Or.inl ⟨by rfl, fun w hO => ?_⟩ | (refine Or.inr ⟨by rfl, ?_⟩; with_reducible rfl)
                first | done | (have hF := hO; (try simp only [Own, Item.Holds, apartI, CellsAt, Nat.reduceAdd, Nat.zero_add, List.mem_cons, List.not_mem_nil, or_false, forall_eq_or_imp, forall_eq, ne_eq, false_imp_iff, implies_true, and_true] at hF); ((have e1 := HD1.out _ hO.base; have ⟨d0, d1, d2⟩ := ptAt (HS1.out.below hO.base) HY.out; have ⟨d3, d4, d5⟩ := ptAt (HB.out.below hO.base) HX.out.1; simp at d0 d1 d2)); refine Out.same ?_; go_simp; all_goals with_reducible rfl)
              refine Sim.sP (i := 2) (d := some 56) (h := ?_)
              refine Sim.sP (i := 3) (d := some 57) (h := ?_)
              refine Sim.sP (i := 4) (d := some 58) (h := ?_)
              refine Sim.sP (i := 5) (d := some 59) (h := ?_)
              refine Sim.sP (i := 6) (d := some 60) (h := ?_)
              refine Sim.sO (i := 7) (d := some 61) (v := ?_) (hy := ?_) (h := ?_)
              rotate_left
              · first | refine Or.inl ⟨by rfl, fun w hO => ?_⟩ | (refine Or.inr ⟨by rfl, ?_⟩; with_reducible rfl)
                first | done | (have hF := hO; (try simp only [Own, Item.Holds, apartI, CellsAt, Nat.reduceAdd, Nat.zero_add, List.mem_cons, List.not_mem_nil, or_false, forall_eq_or_imp, forall_eq, ne_eq, false_imp_iff, implies_true, and_true] at hF); ((have e1 := HD1.out _ hO.base; have ⟨d0, d1, d2⟩ := ptAt (HS1.out.below hO.base) HY.out; have ⟨d3, d4, d5⟩ := ptAt (HB.out.below hO.base) HX.out.1; simp at d0 d1 d2)); refine Out.same ?_; go_simp; all_goals with_reducible rfl)
              refine Sim.sO (i := 8) (d := some 62) (v := ?_) (hy := ?_) (h := ?_)
              rotate_left
              · first | refine Or.inl ⟨by rfl, fun w hO => ?_⟩ | (refine Or.inr ⟨by rfl, ?_⟩; with_reducible rfl)
                first | done | (have hF := hO; (try simp only [Own, Item.Holds, apartI, CellsAt, Nat.reduceAdd, Nat.zero_add, List.mem_cons, List.not_mem_nil, or_false, forall_eq_or_imp, forall_eq, ne_eq, false_imp_iff, implies_true, and_true] at hF); ((have e1 := HD1.out _ hO.base; have ⟨d0, d1, d2⟩ := ptAt (HS1.out.below hO.base) HY.out; have ⟨d3, d4, d5⟩ := ptAt (HB.out.below hO.base) HX.out.1; simp at d0 d1 d2)); refine Out.same ?_; go_simp; all_goals with_reducible rfl)
              refine Sim.sP (i := 9) (d := some 63) (h := ?_)
              refine Sim.sP (i := 10) (d := some 64) (h := ?_)
              refine Sim.sP (i := 11) (d := some 65) (h := ?_)
              refine Sim.sP (i := 12) (d := some 66) (h := ?_)
              refine Sim.sP (i := 13) (d := some 67) (h := ?_)
              refine Sim.sP (i := 14) (d := some 68) (h := ?_)
              refine Sim.sO (i := 15) (d := some 69) (v := ?_) (hy := ?_) (h := ?_)
              rotate_left
              · first | refine Or.inl ⟨by rfl, fun w hO => ?_⟩ | (refine Or.inr ⟨by rfl, ?_⟩; with_reducible rfl)
                first | done | (have hF := hO; (try simp only [Own, Item.Holds, apartI, CellsAt, Nat.reduceAdd, Nat.zero_add, List.mem_cons, List.not_mem_nil, or_false, forall_eq_or_imp, forall_eq, ne_eq, false_imp_iff, implies_true, and_true] at hF); ((have e1 := HD1.out _ hO.base; have ⟨d0, d1, d2⟩ := ptAt (HS1.out.below hO.base) HY.out; have ⟨d3, d4, d5⟩ := ptAt (HB.out.below hO.base) HX.out.1; simp at d0 d1 d2)); refine Out.same ?_; go_simp; all_goals with_reducible rfl)
              refine Sim.sP (i := 16) (d := some 70) (h := ?_)
              refine Sim.sO (i := 17) (d := some 71) (v := ?_) (hy := ?_) (h := ?_)
              rotate_left
              · first | refine Or.inl ⟨by rfl, fun w hO => ?_⟩ | (refine Or.inr ⟨by rfl, ?_⟩; with_reducible rfl)
                first | done | (have hF := hO; (try simp only [Own, Item.Holds, apartI, CellsAt, Nat.reduceAdd, Nat.zero_add, List.mem_cons, List.not_mem_nil, or_false, forall_eq_or_imp, forall_eq, ne_eq, false_imp_iff, implies_true, and_true] at hF); ((have e1 := HD1.out _ hO.base; have ⟨d0, d1, d2⟩ := ptAt (HS1.out.below hO.base) HY.out; have ⟨d3, d4, d5⟩ := ptAt (HB.out.below hO.base) HX.out.1; simp at d0 d1 d2)); refine Out.same ?_; go_simp; all_goals with_reducible rfl)
              refine Sim.sP (i := 18) (d := some 72) (h := ?_)
              refine Sim.sP (i := 19) (d := some 73) (h := ?_)
              refine Sim.sP (i := 20) (d := some 74) (h := ?_)
              refine Sim.sO (i := 21) (d := some 75) (v := ?_) (hy := ?_) (h := ?_)
              rotate_left
              · first | refine Or.inl ⟨by rfl, fun w hO => ?_⟩ | (refine Or.inr ⟨by rfl, ?_⟩; with_reducible rfl)
                first | done | (have hF := hO; (try simp only [Own, Item.Holds, apartI, CellsAt, Nat.reduceAdd, Nat.zero_add, List.mem_cons, List.not_mem_nil, or_false, forall_eq_or_imp, forall_eq, ne_eq, false_imp_iff, implies_true, and_true] at hF); ((have e1 := HD1.out _ hO.base; have ⟨d0, d1, d2⟩ := ptAt (HS1.out.below hO.base) HY.out; have ⟨d3, d4, d5⟩ := ptAt (HB.out.below hO.base) HX.out.1; simp at d0 d1 d2)); refine Out.same ?_; go_simp; all_goals with_reducible rfl)
              refine Sim.sP (i := 22) (d := some 76) (h := ?_)
              refine Sim.sP (i := 23) (d := some 77) (h := ?_)
              refine Sim.sP (i := 24) (d := some 78) (h := ?_)
              refine Sim.sP (i := 25) (d := some 79) (h := ?_)
              refine Sim.sP (i := 26) (d := some 80) (h := ?_)
              refine Sim.sP (i := 27) (d := some 81) (h := ?_)
              refine Sim.sO (i := 28) (d := some 82) (v := ?_) (hy := ?_) (h := ?_)
              rotate_left
              · first | refine Or.inl ⟨by rfl, fun w hO => ?_⟩ | (refine Or.inr ⟨by rfl, ?_⟩; with_reducible rfl)
                first | done | (have hF := hO; (try simp only [Own, Item.Holds, apartI, CellsAt, Nat.reduceAdd, Nat.zero_add, List.mem_cons, List.not_mem_nil, or_false, forall_eq_or_imp, forall_eq, ne_eq, false_imp_iff, implies_true, and_true] at hF); ((have e1 := HD1.out _ hO.base; have ⟨d0, d1, d2⟩ := ptAt (HS1.out.below hO.base) HY.out; have ⟨d3, d4, d5⟩ := ptAt (HB.out.below hO.base) HX.out.1; simp at d0 d1 d2)); refine Out.same ?_; go_simp; all_goals with_reducible rfl)
              refine Sim.sP (i := 29) (d := some 83) (h := ?_)
              refine Sim.sO (i := 30) (d := some 84) (v := ?_) (hy := ?_) (h := ?_)
              rotate_left
              · first | refine Or.inl ⟨by rfl, fun w hO => ?_⟩ | (refine Or.inr ⟨by rfl, ?_⟩; with_reducible rfl)
                first | done | (refine Out.call (f := 68) (args := ?_) ?_ ?_; rotate_left; (focus (go_simp; all_goals with_reducible rfl)); exact HFU.out _ _ (SlAt.of_row hO.1.1) hO.base)
              refine Sim.sP (i := 31) (d := some 85) (h := ?_)
              refine Sim.sP (i := 32) (d := some 86) (h := ?_)
              refine Sim.sP (i := 33) (d := some 13) (h := ?_)
              refine Sim.done (by kernel_rfl) (fun w1 hO hX => ?_) _
              (try simp only [World.size_alloc1, World.size_drew, Nat.reduceAdd] at hO); (try simp only [upd, updI, List.map_cons, List.map_nil, eq_self, if_true, if_false, reduceIte, Nat.add_eq_left, Nat.left_eq_add, Nat.reduceEqDiff, List.set_cons_zero, List.set_cons_succ] at hO)
              have hF := hO; (try simp only [Own, Item.Holds, apartI, CellsAt, Nat.reduceAdd, Nat.zero_add, List.mem_cons, List.not_mem_nil, or_false, forall_eq_or_imp, forall_eq, ne_eq, false_imp_iff, implies_true, and_true] at hF)
              all_goals
                go_wp2_with fail
                go_loopw [13, 14] (fun u t ws => ∃ (j : Nat) (b : Bool), j ≤ 4 ∧ t = .int .i64 j ∧ u = .bool b ∧ Hid (b = true ↔ rf1 T l y j) ∧ Own w.heap.size (Below w.heap.size w) ws [.row 24 3 (.slice AT r cT) r (pcC T), .row 87 2 (.slice Au q cu) q (tnC us)]) (fun _ t _ => 4 - (intOf t).toNat)
                case atStart => exact ⟨0, _, by omega, rfl, rfl, rf1_zero (show _ = true ↔ rf0 T l y from by have := HBD.out; simpa using this), hO⟩
                case round =>
                  clear hO hF
                  obtain ⟨j, b, hj, rfl, rfl, hbj, hO⟩ := hrel
                  have e1 := HD1.out _ hO.base
                  have hF := hO; (try simp only [Own, Item.Holds, apartI, CellsAt, Nat.reduceAdd, Nat.zero_add, List.mem_cons, List.not_mem_nil, or_false, forall_eq_or_imp, forall_eq, ne_eq, false_imp_iff, implies_true, and_true] at hF)
                  by_cases he : j = 4
                  · subst he
                    have HBE := hid (rf2_zero (us := us) (k := k) HX.out.2.2.2.2.2 hbj.out)
                    clear hbj hj
                    go_wp2_with fail
                    go_loopw [13, 15] (fun u t ws => ∃ (j : Nat) (b : Bool), j ≤ q ∧ t = .int .i64 j ∧ u = .bool b ∧ Hid (b = true ↔ rf2 T l y us k j) ∧ Own w.heap.size (Below w.heap.size w) ws [.row 24 3 (.slice AT r cT) r (pcC T), .row 87 2 (.slice Au q cu) q (tnC us)]) (fun _ t _ => q - (intOf t).toNat)
                    case atStart => exact ⟨0, _, by omega, rfl, rfl, HBE.out, hO⟩
                    case round =>
                      clear hO hF e1
                      obtain ⟨j, b, hj, rfl, rfl, hbj, hO⟩ := hrel
                      have hF := hO; (try simp only [Own, Item.Holds, apartI, CellsAt, Nat.reduceAdd, Nat.zero_add, List.mem_cons, List.not_mem_nil, or_false, forall_eq_or_imp, forall_eq, ne_eq, false_imp_iff, implies_true, and_true] at hF)
                      by_cases he : j = q
                      · subst he
                        have HBF := hid (HEND.out b hbj.out)
                        clear hbj
                        cases b
                        · have HU := hid (upto_P hno.out (fun hc => by have := HBF.out.2 hc; cases this))
                          go_wp2_with fail
                          go_roundw
                          case rel => exact ⟨k + 1, by omega, by go_num, HU.out, Own.drop hO⟩
                          case measure => simp [intOf]; omega
                        · have HE := hid (rf_hit HC.out (by have := HN.out; omega) (HBF.out.1 rfl) hno.out)
                          go_wp2_with fail
                          go_ret
                          exact ⟨ret_int HE.out.symm, Own.base (by first | exact hO | (repeat (first | (with_reducible exact hO) | (with_reducible apply Own.alloc) | (with_reducible apply Own.drew) | ((with_reducible apply Own.set_at); (focus (show _ ≤ _; omega))))))⟩
                      · have hjl : j < q := by omega
                        have hjl2 : (j : Int) < q := by omega
                        have hj0 : (0 : Int) ≤ (j : Int) := by omega
                        obtain ⟨u, hu⟩ : ∃ u, us[j]? = some u := ⟨_, List.getElem?_eq_getElem (by have := HUS.out.2; omega)⟩
                        have HU0 := hid hu
                        cases b
                        · obtain ⟨b6, o6, c6, hv6⟩ : ∃ b6 o6 c6, Value.slice Au q cu = .slice (some ⟨b6, o6, none⟩) q c6 := by
                            rcases (SlAt.of_row hO.2.1.1).2 with ⟨h, h0⟩ | ⟨b6, o6, c6, h1, _⟩
                            · omega
                            · exact ⟨b6, o6, c6, h1⟩
                          cases hv6
                          obtain ⟨g0, g1⟩ := tnAt (SlAt.of_row hO.2.1.1) hu
                          by_cases hd : u.1 = (k : Int)
                          · have HB2 := hid (show true = true ↔ rf2 T l y us k (j + 1) from by have := rf2_up HU0.out (show (u.1 == (k : Int)) = true by simp [hd]) hbj.out; simpa using this)
                            rw [hd] at g0
                            clear he hu hbj hd
                            go_wp2_with fail
                            go_roundw
                            case rel => exact ⟨j + 1, _, by omega, by go_num, rfl, HB2.out, hO⟩
                            case measure => simp [intOf]; omega
                          · have hd2 : (u.1 == (k : Int)) = false := by simp [hd]
                            have HB2 := hid (show false = true ↔ rf2 T l y us k (j + 1) from by have := rf2_up HU0.out hd2 hbj.out; simpa using this)
                            clear he hu hbj
                            go_wp2_with fail
                            go_roundw
                            case rel => exact ⟨j + 1, _, by omega, by go_num, rfl, HB2.out, hO⟩
                            case measure => simp [intOf]; omega
                        · have HB2 := hid (show true = true ↔ rf2 T l y us k (j + 1) from by have := rf2_up HU0.out (d := (u.1 == (k : Int))) rfl hbj.out; simpa using this)
                          clear he hu hbj
                          go_wp2_with fail
                          go_roundw
                          case rel => exact ⟨j + 1, _, by omega, by go_num, rfl, HB2.out, hO⟩
                          case measure => simp [intOf]; omega
                  · have hjl : j < 4 := by omega
                    have hjl2 : (j : Int) < (4 : Nat) := by omega
                    have hj0 : (0 : Int) ≤ (j : Int) := by omega
                    obtain ⟨z, hz⟩ : ∃ z, l[j]? = some z := ⟨_, List.getElem?_eq_getElem (by have := HX.out.2.2.2.2.2; omega)⟩
                    have HZ := hid hz
                    cases b
                    · obtain ⟨b6, o6, c6, hv6⟩ : ∃ b6 o6 c6, Value.slice (some ⟨b4, o4, none⟩) 4 c1 = .slice (some ⟨b6, o6, none⟩) 4 c6 := by
                        rcases HS1.out.2 with ⟨h, h0⟩ | ⟨b6, o6, c6, h1, _⟩
                        · omega
                        · exact ⟨b6, o6, c6, h1⟩
                      cases hv6
                      obtain ⟨g0, g1, g2⟩ := ptAt (HS1.out.below hO.base) hz
                      obtain ⟨d, hd⟩ : ∃ d, hasB T z = d := ⟨_, rfl⟩
                      have HH := hid (fun va W (ha : SlAt W va r 3 (pcC T)) => hasS_is HX.out.2.2.2.2.1 (by omega) hd W ha)
                      have HB2 := hid (show (!d) = true ↔ rf1 T l y (j + 1) from by have := rf1_up HZ.out hd hbj.out; simpa using this)
                      clear he hz hbj hd
                      go_wp2_with (go_at_call 69; apply own_at hO; (repeat (first | (with_reducible exact hO) | (with_reducible apply Own.alloc) | (with_reducible apply Own.drew) | ((with_reducible apply Own.set_at); (focus (show _ ≤ _; omega))))); have hG := hF; clear hF; clear hO; intro hO; refine own_callO hO (fun hW => HH.out _ _ (SlAt.of_row hW.1.1)) ?_; clear hO; intro w1 hO; (try simp only [World.size_alloc1, World.size_drew, Nat.reduceAdd] at hO); (try simp only [upd, updI, List.map_cons, List.map_nil, eq_self, if_true, if_false, reduceIte, Nat.add_eq_left, Nat.left_eq_add, Nat.reduceEqDiff, List.set_cons_zero, List.set_cons_succ, hG] at hO); clear hG; have hF := hO; (try simp only [Own, Item.Holds, apartI, CellsAt, Nat.reduceAdd, Nat.zero_add, List.mem_cons, List.not_mem_nil, or_false, forall_eq_or_imp, forall_eq, ne_eq, false_imp_iff, implies_true, and_true] at hF))
                      go_roundw
                      case rel => exact ⟨j + 1, _, by omega, by go_num, rfl, HB2.out, hO⟩
                      case measure => simp [intOf]; omega
                    · have HB2 := hid (show true = true ↔ rf1 T l y (j + 1) from by have := rf1_up HZ.out (d := hasB T z) rfl hbj.out; simpa using this)
                      clear he hz hbj
                      go_wp2_with fail
                      go_roundw
                      case rel => exact ⟨j + 1, _, by omega, by go_num, rfl, HB2.out, hO⟩
                      case measure => simp [intOf]; omega
            · have HBD := hid (show true = true ↔ rf0 T l x from ⟨fun _ => Or.inr (Or.inr (Or.inl (by rw [HY.out]; exact fun hc => hyx (Option.some.inj hc)))), fun _ => rfl⟩)
              have hne : ∀ {α : Type} (A B : α), (if y.s = x.s then (if y.a = x.a then (if y.o = x.o then A else B) else B) else B) = B := fun A B => by
                split
                · rename_i e1
                  split
                  · rename_i e2
                    split
                    · rename_i e3
                      exact absurd (by cases y; cases x; simp at e1 e2 e3; rw [e1, e2, e3]) hyx
                    · rfl
                  · rfl
                · rfl
              clear hy hyx
              go_wp2_with fail
              apply own_code hO
              (repeat (first | (with_reducible exact hO) | (with_reducible apply Own.alloc) | (with_reducible apply Own.drew) | ((with_reducible apply Own.set_at); (focus (show _ ≤ _; omega)))))
              have hG := hF; clear hF; clear hO; intro hO
              (try simp only [World.size_alloc1, World.size_drew, Nat.reduceAdd] at hO); (try simp only [upd, updI, List.map_cons, List.map_nil, eq_self, if_true, if_false, reduceIte, Nat.add_eq_left, Nat.left_eq_add, Nat.reduceEqDiff, List.set_cons_zero, List.set_cons_succ, hG] at hO); clear hG
              refine region_own (X := fun _ => True) [] (by kernel_rfl) (hO) (trivial) (by first | exact XStab.true | exact XStab.rd | exact XStab.rdIf) ?_
              clear hO
              refine Sim.sP (i := 0) (d := some 54) (h := ?_)
              refine Sim.sO (i := 1) (d := some 55) (v := ?_) (hy := ?_) (h := ?_)
              rotate_left
              · first | refine Or.inl ⟨by rfl, fun w hO => ?_⟩ | (refine Or.inr ⟨by rfl, ?_⟩; with_reducible rfl)
                first | done | (have hF := hO; (try simp only [Own, Item.Holds, apartI, CellsAt, Nat.reduceAdd, Nat.zero_add, List.mem_cons, List.not_mem_nil, or_false, forall_eq_or_imp, forall_eq, ne_eq, false_imp_iff, implies_true, and_true] at hF); ((have e1 := HD1.out _ hO.base; have ⟨d0, d1, d2⟩ := ptAt (HS1.out.below hO.base) HY.out; have ⟨d3, d4, d5⟩ := ptAt (HB.out.below hO.base) HX.out.1; simp at d0 d1 d2)); refine Out.same ?_; go_simp; all_goals with_reducible rfl)
              refine Sim.sP (i := 2) (d := some 56) (h := ?_)
              refine Sim.sP (i := 3) (d := some 57) (h := ?_)
              refine Sim.sP (i := 4) (d := some 58) (h := ?_)
              refine Sim.sP (i := 5) (d := some 59) (h := ?_)
              refine Sim.sP (i := 6) (d := some 60) (h := ?_)
              refine Sim.sO (i := 7) (d := some 61) (v := ?_) (hy := ?_) (h := ?_)
              rotate_left
              · first | refine Or.inl ⟨by rfl, fun w hO => ?_⟩ | (refine Or.inr ⟨by rfl, ?_⟩; with_reducible rfl)
                first | done | (have hF := hO; (try simp only [Own, Item.Holds, apartI, CellsAt, Nat.reduceAdd, Nat.zero_add, List.mem_cons, List.not_mem_nil, or_false, forall_eq_or_imp, forall_eq, ne_eq, false_imp_iff, implies_true, and_true] at hF); ((have e1 := HD1.out _ hO.base; have ⟨d0, d1, d2⟩ := ptAt (HS1.out.below hO.base) HY.out; have ⟨d3, d4, d5⟩ := ptAt (HB.out.below hO.base) HX.out.1; simp at d0 d1 d2)); refine Out.same ?_; go_simp; all_goals with_reducible rfl)
              refine Sim.sO (i := 8) (d := some 62) (v := ?_) (hy := ?_) (h := ?_)
              rotate_left
              · first | refine Or.inl ⟨by rfl, fun w hO => ?_⟩ | (refine Or.inr ⟨by rfl, ?_⟩; with_reducible rfl)
                first | done | (have hF := hO; (try simp only [Own, Item.Holds, apartI, CellsAt, Nat.reduceAdd, Nat.zero_add, List.mem_cons, List.not_mem_nil, or_false, forall_eq_or_imp, forall_eq, ne_eq, false_imp_iff, implies_true, and_true] at hF); ((have e1 := HD1.out _ hO.base; have ⟨d0, d1, d2⟩ := ptAt (HS1.out.below hO.base) HY.out; have ⟨d3, d4, d5⟩ := ptAt (HB.out.below hO.base) HX.out.1; simp at d0 d1 d2)); refine Out.same ?_; go_simp; all_goals with_reducible rfl)
              refine Sim.sP (i := 9) (d := some 63) (h := ?_)
              refine Sim.sP (i := 10) (d := some 64) (h := ?_)
              refine Sim.sP (i := 11) (d := some 65) (h := ?_)
              refine Sim.sP (i := 12) (d := some 66) (h := ?_)
              refine Sim.sP (i := 13) (d := some 67) (h := ?_)
              refine Sim.sP (i := 14) (d := some 68) (h := ?_)
              refine Sim.sO (i := 15) (d := some 69) (v := ?_) (hy := ?_) (h := ?_)
              rotate_left
              · first | refine Or.inl ⟨by rfl, fun w hO => ?_⟩ | (refine Or.inr ⟨by rfl, ?_⟩; with_reducible rfl)
                first | done | (have hF := hO; (try simp only [Own, Item.Holds, apartI, CellsAt, Nat.reduceAdd, Nat.zero_add, List.mem_cons, List.not_mem_nil, or_false, forall_eq_or_imp, forall_eq, ne_eq, false_imp_iff, implies_true, and_true] at hF); ((have e1 := HD1.out _ hO.base; have ⟨d0, d1, d2⟩ := ptAt (HS1.out.below hO.base) HY.out; have ⟨d3, d4, d5⟩ := ptAt (HB.out.below hO.base) HX.out.1; simp at d0 d1 d2)); refine Out.same ?_; go_simp; all_goals with_reducible rfl)
              refine Sim.sP (i := 16) (d := some 70) (h := ?_)
              refine Sim.sO (i := 17) (d := some 71) (v := ?_) (hy := ?_) (h := ?_)
              rotate_left
              · first | refine Or.inl ⟨by rfl, fun w hO => ?_⟩ | (refine Or.inr ⟨by rfl, ?_⟩; with_reducible rfl)
                first | done | (have hF := hO; (try simp only [Own, Item.Holds, apartI, CellsAt, Nat.reduceAdd, Nat.zero_add, List.mem_cons, List.not_mem_nil, or_false, forall_eq_or_imp, forall_eq, ne_eq, false_imp_iff, implies_true, and_true] at hF); ((have e1 := HD1.out _ hO.base; have ⟨d0, d1, d2⟩ := ptAt (HS1.out.below hO.base) HY.out; have ⟨d3, d4, d5⟩ := ptAt (HB.out.below hO.base) HX.out.1; simp at d0 d1 d2)); refine Out.same ?_; go_simp; all_goals with_reducible rfl)
              refine Sim.sP (i := 18) (d := some 72) (h := ?_)
              refine Sim.sP (i := 19) (d := some 73) (h := ?_)
              refine Sim.sP (i := 20) (d := some 74) (h := ?_)
              refine Sim.sO (i := 21) (d := some 75) (v := ?_) (hy := ?_) (h := ?_)
              rotate_left
              · first | refine Or.inl ⟨by rfl, fun w hO => ?_⟩ | (refine Or.inr ⟨by rfl, ?_⟩; with_reducible rfl)
                first | done | (have hF := hO; (try simp only [Own, Item.Holds, apartI, CellsAt, Nat.reduceAdd, Nat.zero_add, List.mem_cons, List.not_mem_nil, or_false, forall_eq_or_imp, forall_eq, ne_eq, false_imp_iff, implies_true, and_true] at hF); ((have e1 := HD1.out _ hO.base; have ⟨d0, d1, d2⟩ := ptAt (HS1.out.below hO.base) HY.out; have ⟨d3, d4, d5⟩ := ptAt (HB.out.below hO.base) HX.out.1; simp at d0 d1 d2)); refine Out.same ?_; go_simp; all_goals with_reducible rfl)
              refine Sim.sP (i := 22) (d := some 76) (h := ?_)
              refine Sim.sP (i := 23) (d := some 77) (h := ?_)
              refine Sim.sP (i := 24) (d := some 78) (h := ?_)
              refine Sim.sP (i := 25) (d := some 79) (h := ?_)
              refine Sim.sP (i := 26) (d := some 80) (h := ?_)
              refine Sim.sP (i := 27) (d := some 81) (h := ?_)
              refine Sim.sP (i := 28) (d := some 82) (h := ?_)
              refine Sim.sP (i := 29) (d := some 83) (h := ?_)
              refine Sim.sP (i := 30) (d := some 84) (h := ?_)
              refine Sim.sP (i := 31) (d := some 85) (h := ?_)
              refine Sim.sP (i := 32) (d := some 86) (h := ?_)
              refine Sim.sP (i := 33) (d := some 13) (h := ?_)
              refine Sim.done (by kernel_rfl) (fun w1 hO hX => ?_) _
              (try simp only [World.size_alloc1, World.size_drew, Nat.reduceAdd] at hO); (try simp only [upd, updI, List.map_cons, List.map_nil, eq_self, if_true, if_false, reduceIte, Nat.add_eq_left, Nat.left_eq_add, Nat.reduceEqDiff, List.set_cons_zero, List.set_cons_succ] at hO)
              have hF := hO; (try simp only [Own, Item.Holds, apartI, CellsAt, Nat.reduceAdd, Nat.zero_add, List.mem_cons, List.not_mem_nil, or_false, forall_eq_or_imp, forall_eq, ne_eq, false_imp_iff, implies_true, and_true] at hF)
              all_goals
                go_wp2_with fail
                go_loopw [13, 14] (fun u t ws => ∃ (j : Nat) (b : Bool), j ≤ 4 ∧ t = .int .i64 j ∧ u = .bool b ∧ Hid (b = true ↔ rf1 T l x j) ∧ Own w.heap.size (Below w.heap.size w) ws [.row 24 3 (.slice AT r cT) r (pcC T), .row 87 2 (.slice Au q cu) q (tnC us)]) (fun _ t _ => 4 - (intOf t).toNat)
                case atStart => exact ⟨0, _, by omega, rfl, rfl, rf1_zero (show _ = true ↔ rf0 T l x from by have := HBD.out; simpa using this), hO⟩
                case round =>
                  clear hO hF
                  obtain ⟨j, b, hj, rfl, rfl, hbj, hO⟩ := hrel
                  have e1 := HD1.out _ hO.base
                  have hF := hO; (try simp only [Own, Item.Holds, apartI, CellsAt, Nat.reduceAdd, Nat.zero_add, List.mem_cons, List.not_mem_nil, or_false, forall_eq_or_imp, forall_eq, ne_eq, false_imp_iff, implies_true, and_true] at hF)
                  by_cases he : j = 4
                  · subst he
                    have HBE := hid (rf2_zero (us := us) (k := k) HX.out.2.2.2.2.2 hbj.out)
                    clear hbj hj
                    go_wp2_with fail
                    go_loopw [13, 15] (fun u t ws => ∃ (j : Nat) (b : Bool), j ≤ q ∧ t = .int .i64 j ∧ u = .bool b ∧ Hid (b = true ↔ rf2 T l x us k j) ∧ Own w.heap.size (Below w.heap.size w) ws [.row 24 3 (.slice AT r cT) r (pcC T), .row 87 2 (.slice Au q cu) q (tnC us)]) (fun _ t _ => q - (intOf t).toNat)
                    case atStart => exact ⟨0, _, by omega, rfl, rfl, HBE.out, hO⟩
                    case round =>
                      clear hO hF e1
                      obtain ⟨j, b, hj, rfl, rfl, hbj, hO⟩ := hrel
                      have hF := hO; (try simp only [Own, Item.Holds, apartI, CellsAt, Nat.reduceAdd, Nat.zero_add, List.mem_cons, List.not_mem_nil, or_false, forall_eq_or_imp, forall_eq, ne_eq, false_imp_iff, implies_true, and_true] at hF)
                      by_cases he : j = q
                      · subst he
                        have HBF := hid (HEND.out b hbj.out)
                        clear hbj
                        cases b
                        · have HU := hid (upto_P hno.out (fun hc => by have := HBF.out.2 hc; cases this))
                          go_wp2_with fail
                          go_roundw
                          case rel => exact ⟨k + 1, by omega, by go_num, HU.out, Own.drop hO⟩
                          case measure => simp [intOf]; omega
                        · have HE := hid (rf_hit HC.out (by have := HN.out; omega) (HBF.out.1 rfl) hno.out)
                          go_wp2_with fail
                          go_ret
                          exact ⟨ret_int HE.out.symm, Own.base (by first | exact hO | (repeat (first | (with_reducible exact hO) | (with_reducible apply Own.alloc) | (with_reducible apply Own.drew) | ((with_reducible apply Own.set_at); (focus (show _ ≤ _; omega))))))⟩
                      · have hjl : j < q := by omega
                        have hjl2 : (j : Int) < q := by omega
                        have hj0 : (0 : Int) ≤ (j : Int) := by omega
                        obtain ⟨u, hu⟩ : ∃ u, us[j]? = some u := ⟨_, List.getElem?_eq_getElem (by have := HUS.out.2; omega)⟩
                        have HU0 := hid hu
                        cases b
                        · obtain ⟨b6, o6, c6, hv6⟩ : ∃ b6 o6 c6, Value.slice Au q cu = .slice (some ⟨b6, o6, none⟩) q c6 := by
                            rcases (SlAt.of_row hO.2.1.1).2 with ⟨h, h0⟩ | ⟨b6, o6, c6, h1, _⟩
                            · omega
                            · exact ⟨b6, o6, c6, h1⟩
                          cases hv6
                          obtain ⟨g0, g1⟩ := tnAt (SlAt.of_row hO.2.1.1) hu
                          by_cases hd : u.1 = (k : Int)
                          · have HB2 := hid (show true = true ↔ rf2 T l x us k (j + 1) from by have := rf2_up HU0.out (show (u.1 == (k : Int)) = true by simp [hd]) hbj.out; simpa using this)
                            rw [hd] at g0
                            clear he hu hbj hd
                            go_wp2_with fail
                            go_roundw
                            case rel => exact ⟨j + 1, _, by omega, by go_num, rfl, HB2.out, hO⟩
                            case measure => simp [intOf]; omega
                          · have hd2 : (u.1 == (k : Int)) = false := by simp [hd]
                            have HB2 := hid (show false = true ↔ rf2 T l x us k (j + 1) from by have := rf2_up HU0.out hd2 hbj.out; simpa using this)
                            clear he hu hbj
                            go_wp2_with fail
                            go_roundw
                            case rel => exact ⟨j + 1, _, by omega, by go_num, rfl, HB2.out, hO⟩
                            case measure => simp [intOf]; omega
                        · have HB2 := hid (show true = true ↔ rf2 T l x us k (j + 1) from by have := rf2_up HU0.out (d := (u.1 == (k : Int))) rfl hbj.out; simpa using this)
                          clear he hu hbj
                          go_wp2_with fail
                          go_roundw
                          case rel => exact ⟨j + 1, _, by omega, by go_num, rfl, HB2.out, hO⟩
                          case measure => simp [intOf]; omega
                  · have hjl : j < 4 := by omega
                    have hjl2 : (j : Int) < (4 : Nat) := by omega
                    have hj0 : (0 : Int) ≤ (j : Int) := by omega
                    obtain ⟨z, hz⟩ : ∃ z, l[j]? = some z := ⟨_, List.getElem?_eq_getElem (by have := HX.out.2.2.2.2.2; omega)⟩
                    have HZ := hid hz
                    cases b
                    · obtain ⟨b6, o6, c6, hv6⟩ : ∃ b6 o6 c6, Value.slice (some ⟨b4, o4, none⟩) 4 c1 = .slice (some ⟨b6, o6, none⟩) 4 c6 := by
                        rcases HS1.out.2 with ⟨h, h0⟩ | ⟨b6, o6, c6, h1, _⟩
                        · omega
                        · exact ⟨b6, o6, c6, h1⟩
                      cases hv6
                      obtain ⟨g0, g1, g2⟩ := ptAt (HS1.out.below hO.base) hz
                      obtain ⟨d, hd⟩ : ∃ d, hasB T z = d := ⟨_, rfl⟩
                      have HH := hid (fun va W (ha : SlAt W va r 3 (pcC T)) => hasS_is HX.out.2.2.2.2.1 (by omega) hd W ha)
                      have HB2 := hid (show (!d) = true ↔ rf1 T l x (j + 1) from by have := rf1_up HZ.out hd hbj.out; simpa using this)
                      clear he hz hbj hd
                      go_wp2_with (go_at_call 69; apply own_at hO; (repeat (first | (with_reducible exact hO) | (with_reducible apply Own.alloc) | (with_reducible apply Own.drew) | ((with_reducible apply Own.set_at); (focus (show _ ≤ _; omega))))); have hG := hF; clear hF; clear hO; intro hO; refine own_callO hO (fun hW => HH.out _ _ (SlAt.of_row hW.1.1)) ?_; clear hO; intro w1 hO; (try simp only [World.size_alloc1, World.size_drew, Nat.reduceAdd] at hO); (try simp only [upd, updI, List.map_cons, List.map_nil, eq_self, if_true, if_false, reduceIte, Nat.add_eq_left, Nat.left_eq_add, Nat.reduceEqDiff, List.set_cons_zero, List.set_cons_succ, hG] at hO); clear hG; have hF := hO; (try simp only [Own, Item.Holds, apartI, CellsAt, Nat.reduceAdd, Nat.zero_add, List.mem_cons, List.not_mem_nil, or_false, forall_eq_or_imp, forall_eq, ne_eq, false_imp_iff, implies_true, and_true] at hF))
                      go_roundw
                      case rel => exact ⟨j + 1, _, by omega, by go_num, rfl, HB2.out, hO⟩
                      case measure => simp [intOf]; omega
                    · have HB2 := hid (show true = true ↔ rf1 T l x (j + 1) from by have := rf1_up HZ.out (d := hasB T z) rfl hbj.out; simpa using this)
                      clear he hz hbj
                      go_wp2_with fail
                      go_roundw
                      case rel => exact ⟨j + 1, _, by omega, by go_num, rfl, HB2.out, hO⟩
                      case measure => simp [intOf]; omega
          · have hm5 : ((m : Int) == 4) = false := by simp; omega
            have hm6 : ¬ (m : Int) = 4 := by omega
            have hm7 : ((m : Int) != 4) = true := by simp; omega
            have HBD := hid (show true = true ↔ rf0 T l x from ⟨fun _ => Or.inr (Or.inl (by rw [HX.out.2.2.2.2.2]; exact hm4)), fun _ => rfl⟩)
            go_wp2_with fail
            apply own_code hO
            (repeat (first | (with_reducible exact hO) | (with_reducible apply Own.alloc) | (with_reducible apply Own.drew) | ((with_reducible apply Own.set_at); (focus (show _ ≤ _; omega)))))
            have hG := hF; clear hF; clear hO; intro hO
            (try simp only [World.size_alloc1, World.size_drew, Nat.reduceAdd] at hO); (try simp only [upd, updI, List.map_cons, List.map_nil, eq_self, if_true, if_false, reduceIte, Nat.add_eq_left, Nat.left_eq_add, Nat.reduceEqDiff, List.set_cons_zero, List.set_cons_succ, hG] at hO); clear hG
            refine region_own (X := fun _ => True) [] (by kernel_rfl) (hO) (trivial) (by first | exact XStab.true | exact XStab.rd | exact XStab.rdIf) ?_
            clear hO
            refine Sim.sP (i := 0) (d := some 54) (h := ?_)
            refine Sim.sO (i := 1) (d := some 55) (v := ?_) (hy := ?_) (h := ?_)
            rotate_left
            · first | refine Or.inl ⟨by rfl, fun w hO => ?_⟩ | (refine Or.inr ⟨by rfl, ?_⟩; with_reducible rfl)
              first | done | (have hF := hO; (try simp only [Own, Item.Holds, apartI, CellsAt, Nat.reduceAdd, Nat.zero_add, List.mem_cons, List.not_mem_nil, or_false, forall_eq_or_imp, forall_eq, ne_eq, false_imp_iff, implies_true, and_true] at hF); ((have e1 := HD1.out _ hO.base)); refine Out.same ?_; go_simp; all_goals with_reducible rfl)
            refine Sim.sP (i := 2) (d := some 56) (h := ?_)
            refine Sim.sP (i := 3) (d := some 57) (h := ?_)
            refine Sim.sP (i := 4) (d := some 58) (h := ?_)
            refine Sim.sP (i := 5) (d := some 59) (h := ?_)
            refine Sim.sP (i := 6) (d := some 60) (h := ?_)
            refine Sim.sO (i := 7) (d := some 61) (v := ?_) (hy := ?_) (h := ?_)
            rotate_left
            · first | refine Or.inl ⟨by rfl, fun w hO => ?_⟩ | (refine Or.inr ⟨by rfl, ?_⟩; with_reducible rfl)
              first | done | (have hF := hO; (try simp only [Own, Item.Holds, apartI, CellsAt, Nat.reduceAdd, Nat.zero_add, List.mem_cons, List.not_mem_nil, or_false, forall_eq_or_imp, forall_eq, ne_eq, false_imp_iff, implies_true, and_true] at hF); ((have e1 := HD1.out _ hO.base)); refine Out.same ?_; go_simp; all_goals with_reducible rfl)
            refine Sim.sO (i := 8) (d := some 62) (v := ?_) (hy := ?_) (h := ?_)
            rotate_left
            · first | refine Or.inl ⟨by rfl, fun w hO => ?_⟩ | (refine Or.inr ⟨by rfl, ?_⟩; with_reducible rfl)
              first | done | (have hF := hO; (try simp only [Own, Item.Holds, apartI, CellsAt, Nat.reduceAdd, Nat.zero_add, List.mem_cons, List.not_mem_nil, or_false, forall_eq_or_imp, forall_eq, ne_eq, false_imp_iff, implies_true, and_true] at hF); ((have e1 := HD1.out _ hO.base)); refine Out.same ?_; go_simp; all_goals with_reducible rfl)
            refine Sim.sP (i := 9) (d := some 63) (h := ?_)
            refine Sim.sP (i := 10) (d := some 64) (h := ?_)
            refine Sim.sP (i := 11) (d := some 65) (h := ?_)
            refine Sim.sP (i := 12) (d := some 66) (h := ?_)
            refine Sim.sP (i := 13) (d := some 67) (h := ?_)
            refine Sim.sP (i := 14) (d := some 68) (h := ?_)
            refine Sim.sP (i := 15) (d := some 69) (h := ?_)
            refine Sim.sP (i := 16) (d := some 70) (h := ?_)
            refine Sim.sP (i := 17) (d := some 71) (h := ?_)
            refine Sim.sP (i := 18) (d := some 72) (h := ?_)
            refine Sim.sP (i := 19) (d := some 73) (h := ?_)
            refine Sim.sP (i := 20) (d := some 74) (h := ?_)
            refine Sim.sP (i := 21) (d := some 75) (h := ?_)
            refine Sim.sP (i := 22) (d := some 76) (h := ?_)
            refine Sim.sP (i := 23) (d := some 77) (h := ?_)
            refine Sim.sP (i := 24) (d := some 78) (h := ?_)
            refine Sim.sP (i := 25) (d := some 79) (h := ?_)
            refine Sim.sP (i := 26) (d := some 80) (h := ?_)
            refine Sim.sP (i := 27) (d := some 81) (h := ?_)
            refine Sim.sP (i := 28) (d := some 82) (h := ?_)
            refine Sim.sP (i := 29) (d := some 83) (h := ?_)
            refine Sim.sP (i := 30) (d := some 84) (h := ?_)
            refine Sim.sP (i := 31) (d := some 85) (h := ?_)
            refine Sim.sP (i := 32) (d := some 86) (h := ?_)
            refine Sim.sP (i := 33) (d := some 13) (h := ?_)
            refine Sim.done (by kernel_rfl) (fun w1 hO hX => ?_) _
            (try simp only [World.size_alloc1, World.size_drew, Nat.reduceAdd] at hO); (try simp only [upd, updI, List.map_cons, List.map_nil, eq_self, if_true, if_false, reduceIte, Nat.add_eq_left, Nat.left_eq_add, Nat.reduceEqDiff, List.set_cons_zero, List.set_cons_succ] at hO)
            have hF := hO; (try simp only [Own, Item.Holds, apartI, CellsAt, Nat.reduceAdd, Nat.zero_add, List.mem_cons, List.not_mem_nil, or_false, forall_eq_or_imp, forall_eq, ne_eq, false_imp_iff, implies_true, and_true] at hF)
            all_goals
              go_wp2_with fail
              go_loopw [13, 14] (fun u t ws => ∃ (j : Nat) (b : Bool), j ≤ m ∧ t = .int .i64 j ∧ u = .bool b ∧ Hid (b = true ↔ rf1 T l x j) ∧ Own w.heap.size (Below w.heap.size w) ws [.row 24 3 (.slice AT r cT) r (pcC T), .row 87 2 (.slice Au q cu) q (tnC us)]) (fun _ t _ => m - (intOf t).toNat)
              case atStart => exact ⟨0, _, by omega, rfl, rfl, rf1_zero (show _ = true ↔ rf0 T l x from by have := HBD.out; simpa using this), hO⟩
              case round =>
                clear hO hF
                obtain ⟨j, b, hj, rfl, rfl, hbj, hO⟩ := hrel
                have e1 := HD1.out _ hO.base
                have hF := hO; (try simp only [Own, Item.Holds, apartI, CellsAt, Nat.reduceAdd, Nat.zero_add, List.mem_cons, List.not_mem_nil, or_false, forall_eq_or_imp, forall_eq, ne_eq, false_imp_iff, implies_true, and_true] at hF)
                by_cases he : j = m
                · subst he
                  have HBE := hid (rf2_zero (us := us) (k := k) HX.out.2.2.2.2.2 hbj.out)
                  clear hbj hj
                  go_wp2_with fail
                  go_loopw [13, 15] (fun u t ws => ∃ (j : Nat) (b : Bool), j ≤ q ∧ t = .int .i64 j ∧ u = .bool b ∧ Hid (b = true ↔ rf2 T l x us k j) ∧ Own w.heap.size (Below w.heap.size w) ws [.row 24 3 (.slice AT r cT) r (pcC T), .row 87 2 (.slice Au q cu) q (tnC us)]) (fun _ t _ => q - (intOf t).toNat)
                  case atStart => exact ⟨0, _, by omega, rfl, rfl, HBE.out, hO⟩
                  case round =>
                    clear hO hF e1
                    obtain ⟨j, b, hj, rfl, rfl, hbj, hO⟩ := hrel
                    have hF := hO; (try simp only [Own, Item.Holds, apartI, CellsAt, Nat.reduceAdd, Nat.zero_add, List.mem_cons, List.not_mem_nil, or_false, forall_eq_or_imp, forall_eq, ne_eq, false_imp_iff, implies_true, and_true] at hF)
                    by_cases he : j = q
                    · subst he
                      have HBF := hid (HEND.out b hbj.out)
                      clear hbj
                      cases b
                      · have HU := hid (upto_P hno.out (fun hc => by have := HBF.out.2 hc; cases this))
                        go_wp2_with fail
                        go_roundw
                        case rel => exact ⟨k + 1, by omega, by go_num, HU.out, Own.drop hO⟩
                        case measure => simp [intOf]; omega
                      · have HE := hid (rf_hit HC.out (by have := HN.out; omega) (HBF.out.1 rfl) hno.out)
                        go_wp2_with fail
                        go_ret
                        exact ⟨ret_int HE.out.symm, Own.base (by first | exact hO | (repeat (first | (with_reducible exact hO) | (with_reducible apply Own.alloc) | (with_reducible apply Own.drew) | ((with_reducible apply Own.set_at); (focus (show _ ≤ _; omega))))))⟩
                    · have hjl : j < q := by omega
                      have hjl2 : (j : Int) < q := by omega
                      have hj0 : (0 : Int) ≤ (j : Int) := by omega
                      obtain ⟨u, hu⟩ : ∃ u, us[j]? = some u := ⟨_, List.getElem?_eq_getElem (by have := HUS.out.2; omega)⟩
                      have HU0 := hid hu
                      cases b
                      · obtain ⟨b6, o6, c6, hv6⟩ : ∃ b6 o6 c6, Value.slice Au q cu = .slice (some ⟨b6, o6, none⟩) q c6 := by
                          rcases (SlAt.of_row hO.2.1.1).2 with ⟨h, h0⟩ | ⟨b6, o6, c6, h1, _⟩
                          · omega
                          · exact ⟨b6, o6, c6, h1⟩
                        cases hv6
                        obtain ⟨g0, g1⟩ := tnAt (SlAt.of_row hO.2.1.1) hu
                        by_cases hd : u.1 = (k : Int)
                        · have HB2 := hid (show true = true ↔ rf2 T l x us k (j + 1) from by have := rf2_up HU0.out (show (u.1 == (k : Int)) = true by simp [hd]) hbj.out; simpa using this)
                          rw [hd] at g0
                          clear he hu hbj hd
                          go_wp2_with fail
                          go_roundw
                          case rel => exact ⟨j + 1, _, by omega, by go_num, rfl, HB2.out, hO⟩
                          case measure => simp [intOf]; omega
                        · have hd2 : (u.1 == (k : Int)) = false := by simp [hd]
                          have HB2 := hid (show false = true ↔ rf2 T l x us k (j + 1) from by have := rf2_up HU0.out hd2 hbj.out; simpa using this)
                          clear he hu hbj
                          go_wp2_with fail
                          go_roundw
                          case rel => exact ⟨j + 1, _, by omega, by go_num, rfl, HB2.out, hO⟩
                          case measure => simp [intOf]; omega
                      · have HB2 := hid (show true = true ↔ rf2 T l x us k (j + 1) from by have := rf2_up HU0.out (d := (u.1 == (k : Int))) rfl hbj.out; simpa using this)
                        clear he hu hbj
                        go_wp2_with fail
                        go_roundw
                        case rel => exact ⟨j + 1, _, by omega, by go_num, rfl, HB2.out, hO⟩
                        case measure => simp [intOf]; omega
                · have hjl : j < m := by omega
                  have hjl2 : (j : Int) < (m : Nat) := by omega
                  have hj0 : (0 : Int) ≤ (j : Int) := by omega
                  obtain ⟨z, hz⟩ : ∃ z, l[j]? = some z := ⟨_, List.getElem?_eq_getElem (by have := HX.out.2.2.2.2.2; omega)⟩
                  have HZ := hid hz
                  cases b
                  · obtain ⟨b6, o6, c6, hv6⟩ : ∃ b6 o6 c6, Value.slice A1 m c1 = .slice (some ⟨b6, o6, none⟩) m c6 := by
                      rcases HS1.out.2 with ⟨h, h0⟩ | ⟨b6, o6, c6, h1, _⟩
                      · omega
                      · exact ⟨b6, o6, c6, h1⟩
                    cases hv6
                    obtain ⟨g0, g1, g2⟩ := ptAt (HS1.out.below hO.base) hz
                    obtain ⟨d, hd⟩ : ∃ d, hasB T z = d := ⟨_, rfl⟩
                    have HH := hid (fun va W (ha : SlAt W va r 3 (pcC T)) => hasS_is HX.out.2.2.2.2.1 (by omega) hd W ha)
                    have HB2 := hid (show (!d) = true ↔ rf1 T l x (j + 1) from by have := rf1_up HZ.out hd hbj.out; simpa using this)
                    clear he hz hbj hd
                    go_wp2_with (go_at_call 69; apply own_at hO; (repeat (first | (with_reducible exact hO) | (with_reducible apply Own.alloc) | (with_reducible apply Own.drew) | ((with_reducible apply Own.set_at); (focus (show _ ≤ _; omega))))); have hG := hF; clear hF; clear hO; intro hO; refine own_callO hO (fun hW => HH.out _ _ (SlAt.of_row hW.1.1)) ?_; clear hO; intro w1 hO; (try simp only [World.size_alloc1, World.size_drew, Nat.reduceAdd] at hO); (try simp only [upd, updI, List.map_cons, List.map_nil, eq_self, if_true, if_false, reduceIte, Nat.add_eq_left, Nat.left_eq_add, Nat.reduceEqDiff, List.set_cons_zero, List.set_cons_succ, hG] at hO); clear hG; have hF := hO; (try simp only [Own, Item.Holds, apartI, CellsAt, Nat.reduceAdd, Nat.zero_add, List.mem_cons, List.not_mem_nil, or_false, forall_eq_or_imp, forall_eq, ne_eq, false_imp_iff, implies_true, and_true] at hF))
                    go_roundw
                    case rel => exact ⟨j + 1, _, by omega, by go_num, rfl, HB2.out, hO⟩
                    case measure => simp [intOf]; omega
                  · have HB2 := hid (show true = true ↔ rf1 T l x (j + 1) from by have := rf1_up HZ.out (d := hasB T z) rfl hbj.out; simpa using this)
                    clear he hz hbj
                    go_wp2_with fail
                    go_roundw
                    case rel => exact ⟨j + 1, _, by omega, by go_num, rfl, HB2.out, hO⟩
                    case measure => simp [intOf]; omega

set_option maxHeartbeats 4000000 in
theorem rfS_any (hMv : MvS) (f : Int) (vb vg vl : Value) (bs : List Pt) (gs : List Int) (ll : List (List Pt)) (w : World) (hb : SlAt w vb bs.length 3 (pcC bs)) (hg : SlAt w vg gs.length 1 (intC gs)) (hl : StkR w vl ll) (hle : ∀ l ∈ ll, l.length ≤ 1048576) :
    Calls Tryd.prog 23 #[.int .i64 f, vb, vg, vl] w fun e w' => e = .returned (.int .i64 (rfZ f bs gs ll)) ∧ Below w.heap.size w w' := by
  by_cases hc : rfC f bs gs ll
  · exact rfS_in hMv f vb vg vl bs gs ll w hb hg hl hle hc
  · have hO := Own.start w
    have hF := True.intro
    have HE := hid (rf_out hc)
    obtain ⟨Ab, cb, rfl, nb, _⟩ := hb.open
    obtain ⟨Ag, cg, rfl, ng, _⟩ := hg.open
    obtain ⟨Al, cl, rfl, nl, _⟩ := hl.open
    unfold rfC at hc
    clear hb hg hl hle
    obtain ⟨n, hnl⟩ : ∃ n, ll.length = n := ⟨_, rfl⟩
    obtain ⟨m, hm⟩ : ∃ n, bs.length = n := ⟨_, rfl⟩
    obtain ⟨g, hg⟩ : ∃ n, gs.length = n := ⟨_, rfl⟩
    rw [hnl, hm, hg] at hc
    rw [hnl] at nl ⊢
    rw [hm] at nb ⊢
    rw [hg] at ng ⊢
    clear hnl hm hg
    by_cases h8 : n ≤ 8
    · have h8' : ¬ 8 < (n : Int) := by omega
      have h8'' : (n : Int) ≤ 8 := by omega
      by_cases hm : m = n
      · subst hm
        by_cases hg : g = m
        · subst hg
          have hk : inB f (-7) 7 = false := by
            rw [← Bool.not_eq_true]
            exact fun h => hc ⟨h8, rfl, rfl, h⟩
          have HI := hid (fun W => in_is W hk)
          clear hc hk
          go_enter Tryd.func23, Tryd.ntmps23
          go_wp2_with (go_at_call 50; apply own_at hO; (repeat (first | (with_reducible exact hO) | (with_reducible apply Own.alloc) | (with_reducible apply Own.drew) | ((with_reducible apply Own.set_at); (focus (show _ ≤ _; omega))))); have hG := hF; clear hF; clear hO; intro hO; refine own_call hO (fun hB => HI.out _) ?_; clear hO; intro w1 hO; (try simp only [World.size_alloc1, World.size_drew, Nat.reduceAdd] at hO); (try simp only [upd, updI, List.map_cons, List.map_nil, eq_self, if_true, if_false, reduceIte, Nat.add_eq_left, Nat.left_eq_add, Nat.reduceEqDiff, List.set_cons_zero, List.set_cons_succ, hG] at hO); clear hG; have hF := hO; (try simp only [Own, Item.Holds, apartI, CellsAt, Nat.reduceAdd, Nat.zero_add, List.mem_cons, List.not_mem_nil, or_false, forall_eq_or_imp, forall_eq, ne_eq, false_imp_iff, implies_true, and_true] at hF))
          go_ret
          exact ⟨ret_int HE.out.symm, Own.base (by first | exact hO | (repeat (first | (with_reducible exact hO) | (with_reducible apply Own.alloc) | (with_reducible apply Own.drew) | ((with_reducible apply Own.set_at); (focus (show _ ≤ _; omega))))))⟩
        · have hg2 : ((g : Int) == (m : Int)) = false := by simp; omega
          have hg3 : ((g : Int) != (m : Int)) = true := by simp; omega
          have hg4 : ¬ (g : Int) = (m : Int) := by omega
          clear hc
          go_enter Tryd.func23, Tryd.ntmps23
          go_wp2_with fail
          go_ret
          exact ⟨ret_int HE.out.symm, Own.base (by first | exact hO | (repeat (first | (with_reducible exact hO) | (with_reducible apply Own.alloc) | (with_reducible apply Own.drew) | ((with_reducible apply Own.set_at); (focus (show _ ≤ _; omega))))))⟩
      · have hg2 : ((m : Int) == (n : Int)) = false := by simp; omega
        have hg3 : ((m : Int) != (n : Int)) = true := by simp; omega
        have hg4 : ¬ (m : Int) = (n : Int) := by omega
        clear hc
        go_enter Tryd.func23, Tryd.ntmps23
        go_wp2_with fail
        go_ret
        exact ⟨ret_int HE.out.symm, Own.base (by first | exact hO | (repeat (first | (with_reducible exact hO) | (with_reducible apply Own.alloc) | (with_reducible apply Own.drew) | ((with_reducible apply Own.set_at); (focus (show _ ≤ _; omega))))))⟩
    · have h8' : 8 < (n : Int) := by omega
      clear hc
      go_enter Tryd.func23, Tryd.ntmps23
      go_wp2_with fail
      go_ret
      exact ⟨ret_int HE.out.symm, Own.base (by first | exact hO | (repeat (first | (with_reducible exact hO) | (with_reducible apply Own.alloc) | (with_reducible apply Own.drew) | ((with_reducible apply Own.set_at); (focus (show _ ≤ _; omega))))))⟩

/- What the functions of chapter 13 answer, as contracts. -/
open Go.RowKit
theorem rfS_C (hMv : MvS) (w : World) : CRf 23 w := fun f vb vg vl bs gs ll W _ _ hb hg hl _ _ _ _ _ hle _ => rfS_any hMv f vb vg vl bs gs ll W hb hg hl hle
end Go.Proofs.YtfiodejbeeblgaaDoor
