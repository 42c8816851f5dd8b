/- Chapter 13 in the program: RealizeFault. -/
import Derived.Test.YtfdglkiehkilnaaDoorWalks13H
import Derived.Test.YtfdglkiehkilnaaDoorRegionD
namespace Go.Proofs.YtfdglkiehkilnaaDoor
set_option linter.unusedSimpArgs false
set_option linter.unusedVariables false
set_option maxRecDepth 8000
open Go.RowKit Go.Joins

/-- The first chords of a list of chords. -/
theorem StkR.takeS {w : World} {b off cap n m : Nat} {ll : List (List Pt)} (h : StkR w (.slice (some ⟨b, off, none⟩) n cap) ll) (hn : ll.length = n) (hm : m ≤ n) : StkR w (.slice (some ⟨b, off, none⟩) m cap) (ll.take m) := by
  obtain ⟨evs, h1, h2, h3⟩ := h
  refine ⟨evs.take m, by rw [List.length_take, List.length_take, h1], ?_, fun k l ev hl hev => ?_⟩
  · rw [List.length_take, hn, Nat.min_eq_left hm]
    obtain ⟨g1, g2⟩ := h2
    refine ⟨by rw [List.length_take, g1, hn, Nat.mul_one, Nat.mul_one, Nat.min_eq_left hm], ?_⟩
    rcases g2 with ⟨g3, g4⟩ | ⟨b', off', cap', g3, g4, g5, g6, g7⟩
    · cases g3
    · cases g3
      refine Or.inr ⟨b, off, cap, rfl, by omega, g5, g6, fun j u hj => g7 j u ?_⟩
      rw [List.getElem?_take] at hj
      split at hj
      · exact hj
      · cases hj
  · rw [List.getElem?_take] at hl hev
    split at hl
    · rename_i hk
      rw [if_pos hk] at hev
      exact h3 k l ev hl hev
    · cases hl
/-- Where the chords before have no fault, the faults up to a chord are its own. -/
theorem pa_own {ll : List (List Pt)} {k : Nat} (h8 : ll.length ≤ 8) (hk : k < ll.length) (hn : ∀ j, j < k → faL ll j = []) : paZ (ll.take (k + 1)) = faL ll k := by
  have e : ∀ j, j < k + 1 → faL (ll.take (k + 1)) j = faL ll j := fun j hj => by
    have e1 : ∀ i, i < k + 1 → (ll.take (k + 1)).getD i [] = ll.getD i [] := fun i hi => by
      rw [List.getD_eq_getElem?_getD, List.getD_eq_getElem?_getD, List.getElem?_take_of_lt hi]
    unfold faL
    rw [e1 j hj]
    by_cases h0 : j = 0
    · rw [if_pos h0, if_pos h0]
    · rw [if_neg h0, if_neg h0, e1 (j - 1) (by omega)]
  have hl : (ll.take (k + 1)).length = k + 1 := by rw [List.length_take]; omega
  unfold paZ
  rw [if_pos (by omega), hl, paF_up, e k (by omega)]
  rw [show paF (ll.take (k + 1)) k = [] from List.flatMap_eq_nil_iff.2 fun j hj => by
    have := List.mem_range.1 hj
    rw [e j (by omega), hn j this], List.nil_append]
/-- A chord without a fault is not right exactly if it doesn't stand on the tones. -/
theorem rf_sd {f : Int} {bs : List Pt} {gs : List Int} {ll : List (List Pt)} {k : Nat} {x : Pt} {g : Int} {l T : List Pt} (hx : bs[k]? = some x) (hg : gs[k]? = some g) (hl : ll[k]? = some l) (hT : ftL f x g = T) (h4 : l.length = 4) (hf : faL ll k = []) : rfP f bs gs ll k ↔ sdB l T = false := by
  have e1 : bs.getD k ⟨0, 0, 0⟩ = x := by rw [List.getD_eq_getElem?_getD, hx]; rfl
  have e2 : gs.getD k 0 = g := by rw [List.getD_eq_getElem?_getD, hg]; rfl
  have e3 : ll.getD k [] = l := by rw [List.getD_eq_getElem?_getD, hl]; rfl
  unfold rfP
  rw [e1, e2, e3, hT, hf]
  unfold sdB
  by_cases hn : T = []
  · rw [hn]; simp
  · have hp : 0 < T.length := List.length_pos_iff.2 hn
    have h0 : T[0]? = some x := by rw [← hT]; exact (ft_n (by rw [hT]; exact hn)).1
    rw [decide_eq_true hp, Bool.true_and, h0, Bool.and_eq_false_iff, Bool.and_eq_false_iff, decide_eq_false_iff_not]
    constructor
    · rintro (h | h | h | h | h | h)
      · exact absurd h hn
      · exact absurd h4 h
      · exact Or.inl h
      · exact Or.inr (Or.inl h)
      · exact Or.inr (Or.inr h)
      · exact absurd rfl h
    · rintro (h | h | h)
      · exact Or.inr (Or.inr (Or.inl h))
      · exact Or.inr (Or.inr (Or.inr (Or.inl h)))
      · exact Or.inr (Or.inr (Or.inr (Or.inr (Or.inl h))))
theorem rf_fa {f : Int} {bs : List Pt} {gs : List Int} {ll : List (List Pt)} {k : Nat} (h : faL ll k ≠ []) : rfP f bs gs ll k := Or.inr (Or.inr (Or.inr (Or.inr (Or.inr h))))
theorem fa_no {f : Int} {bs : List Pt} {gs : List Int} {ll : List (List Pt)} {k : Nat} (h : ¬ rfP f bs gs ll k) : faL ll k = [] := Classical.byContradiction fun hc => h (rf_fa hc)
theorem fa_len {ll : List (List Pt)} {k : Nat} {l : List Pt} (hl : ll[k]? = some l) (h : faL ll k = []) : l.length = 4 := by
  have e3 : ll.getD k [] = l := by rw [List.getD_eq_getElem?_getD, hl]; rfl
  unfold faL at h
  rw [e3] at h
  by_cases hs : stZ l = 0
  · exact (vo4_iff.1 (st_zero hs).1).2
  · rw [if_neg hs] at h
    cases h
theorem paI_is {va : Value} {ll : List (List Pt)} {q : Nat} {fs : List (Int × Int)} {w : World} (hT : TabH w) (hV : TabV w) (hn : ll.length ≤ 1048576) (hle : ∀ l ∈ ll, l.length ≤ 1048576) (hf : paZ ll = fs) (hq : fs.length = q) (hs : StkR w va ll) (W : World) (hW : Below w.heap.size w W) :
    Calls Tryd.prog 32 #[va] W (RowOut 36 2 q (tnC fs) W) := by
  subst hf hq
  exact piI_any va ll W (hs.below hW) hn hle (hT.below hW) (hV.below hW)

set_option maxRecDepth 20000 in
set_option maxHeartbeats 8000000 in
theorem rfI_in (f : Int) (vb vg vl : Value) (bs : List Pt) (gs : List Int) (ll : List (List Pt)) (w : World) (hc : rfC f bs gs ll) (hb : SlAt w vb bs.length 3 (pcC bs)) (hg : SlAt w vg gs.length 1 (intC gs)) (hl : StkR w vl ll) (hle : ∀ l ∈ ll, l.length ≤ 1048576) (hT : TabH w) (hV : TabV w) (hA : TabA w) :
    Calls Tryd.prog 44 #[.int .i64 f, vb, vg, vl] w fun e w' => e = .returned (.int .i64 (rfZ f bs gs ll)) ∧ Below w.heap.size w w' := by
  have hO := Own.start w
  have hF := True.intro
  have HC := hid hc
  obtain ⟨h8, hbl, hgl, hk⟩ := hc
  have HLE := hid hle
  obtain ⟨Ab, cb, rfl, nb, hAb⟩ := hb.open
  obtain ⟨Ag, cg, rfl, ng, hAg⟩ := hg.open
  obtain ⟨Al, cl, rfl, nl, hAl⟩ := hl.open
  obtain ⟨n, hn⟩ : ∃ n, ll.length = n := ⟨_, rfl⟩
  have HN := hid hn
  rw [hn] at h8 hbl hgl hAl nl hl
  rw [hbl] at hAb hb nb
  rw [hgl] at hAg hg ng
  have HB := hid hb
  have HG := hid hg
  have HL := hid hl
  have HT := hid (And.intro hT (And.intro hV hA))
  have HKV := hid (fun W => kvI_is W hk)
  have HBL := hid (And.intro hbl hgl)
  rw [hbl, hgl, hn]
  have h8' : ¬ 8 < (n : Int) := by omega
  have h8b : decide (8 < (n : Int)) = false := decide_eq_false h8'
  clear hb hg hl hT hV hA hk hn hbl hgl hle
  go_enter Tryd.func44, Tryd.ntmps44
  go_wp2_with (go_at_call 59; apply own_at hO; (repeat (first | (with_reducible exact hO) | (with_reducible apply Own.alloc) | (with_reducible apply Own.drew) | ((with_reducible apply Own.set_at); (focus (show _ ≤ _; omega))))); have hG := hF; clear hF; clear hO; intro hO; refine own_call hO (fun hB => HKV.out _) ?_; clear hO; intro w1 hO; (try simp only [World.size_alloc1, World.size_drew, Nat.reduceAdd] at hO); (try simp only [upd, updI, List.map_cons, List.map_nil, eq_self, if_true, if_false, reduceIte, Nat.add_eq_left, Nat.left_eq_add, Nat.reduceEqDiff, List.set_cons_zero, List.set_cons_succ, hG] at hO); clear hG; have hF := hO; (try simp only [Own, Item.Holds, apartI, CellsAt, Nat.reduceAdd, Nat.zero_add, List.mem_cons, List.not_mem_nil, or_false, forall_eq_or_imp, forall_eq, ne_eq, false_imp_iff, implies_true, and_true] at hF))
  go_loopw [36] (fun t wr => ∃ k : Nat, k ≤ n ∧ t = .int .i64 k ∧ Hid (∀ j, j < k → ¬ rfP f bs gs ll j) ∧ Own w.heap.size (Below w.heap.size w) wr []) (fun t _ => n - (intOf t).toNat)
  case atStart => exact ⟨0, by omega, rfl, fun j hj => by omega, hO⟩
  case round =>
    clear hO hF
    obtain ⟨k, hk, rfl, hno, hO⟩ := hrel
    have hF := True.intro
    by_cases he : k = n
    · subst he
      have HE := hid (rf_none (f := f) (bs := bs) (gs := gs) (ll := ll) (fun j hj => hno.out j (by have := HN.out; omega)))
      go_wp2_with fail
      go_ret
      exact ⟨ret_int HE.out.symm, Own.base (by first | exact hO | (repeat (first | (with_reducible exact hO) | (with_reducible apply Own.alloc) | (with_reducible apply Own.drew) | ((with_reducible apply Own.set_at); (focus (show _ ≤ _; omega))))))⟩
    · have hkl : k < n := by omega
      have hkl2 : (k : Int) < n := by omega
      have hk0 : (0 : Int) ≤ (k : Int) := by omega
      have hk1 : ((k : Int) + 1).toNat = k + 1 := by omega
      have hk2 : (k : Int) + 1 ≤ (n : Int) := by omega
      have hk3 : (0 : Int) ≤ (k : Int) + 1 := by omega
      have wk : IntKind.i64.wrap ((k : Int) + 1) = (k : Int) + 1 := IntWalk.i64_in _ (by omega)
      obtain ⟨bl, ol, rfl, hl1, hl2, hl3, hcell⟩ := hAl (by omega)
      obtain ⟨bb, ob, rfl, _⟩ := hAb (by omega)
      obtain ⟨bg, og, rfl, _⟩ := hAg (by omega)
      obtain ⟨l, hl⟩ : ∃ l, ll[k]? = some l := ⟨_, List.getElem?_eq_getElem (by have := HN.out; omega)⟩
      obtain ⟨x, hx⟩ : ∃ x, bs[k]? = some x := ⟨_, List.getElem?_eq_getElem (by have := HBL.out.1; omega)⟩
      obtain ⟨g, hg⟩ : ∃ g, gs[k]? = some g := ⟨_, List.getElem?_eq_getElem (by have := HBL.out.2; omega)⟩
      obtain ⟨A1, c1, hs1, d1⟩ := hcell k l hl
      have HD1 := hid (fun W (hW : Below w.heap.size w W) => ((bcell hW).1 bl (ol + k) hl3).trans d1)
      have e1 := HD1.out _ hO.base
      obtain ⟨fs, hfs⟩ : ∃ fs, faL ll k = fs := ⟨_, rfl⟩
      obtain ⟨q, hq⟩ : ∃ q, fs.length = q := ⟨_, rfl⟩
      have HPA := hid (fun W hW => paI_is (ll := ll.take (k + 1)) HT.out.1 HT.out.2.1 (by rw [List.length_take]; omega) (fun l hl => HLE.out l (List.mem_of_mem_take hl)) ((pa_own (by have := HN.out; omega) (by have := HN.out; omega) (fun j hj => fa_no (hno.out j hj))).trans hfs) hq (HL.out.takeS HN.out (by omega)) W hW)
      by_cases hf0 : fs = []
      · subst hf0
        have hq0 : q = 0 := by rw [← hq]; rfl
        subst hq0
        have h4 := fa_len hl hfs
        obtain ⟨T, hTT⟩ : ∃ T, ftL f x g = T := ⟨_, rfl⟩
        obtain ⟨r, hr⟩ : ∃ r, T.length = r := ⟨_, rfl⟩
        have hr4 : r ≤ 4 := by rw [← hr, ← hTT]; exact ft_len _ _ _
        obtain ⟨b, hb⟩ : ∃ b, sdB l T = b := ⟨_, rfl⟩
        have HSD := hid (rf_sd hx hg hl hTT h4 hfs)
        rw [h4] at hs1 d1
        have HS1 := hid hs1
        have HD2 := hid (fun W (hW : Below w.heap.size w W) => ((bcell hW).1 bl (ol + k) hl3).trans d1)
        have HFT := hid (fun W (hW : Below w.heap.size w W) => show Calls Tryd.prog 82 #[.int .i64 f, .agg #[.int .i64 x.s, .int .i64 x.a, .int .i64 x.o], .int .i64 g] W (RowOut 29 3 r (pcC T) W) by
          have := ftI_any f x g W (HT.out.2.2.below hW)
          rwa [hTT, hr] at this)
        have HSO := hid (fun va vt W (hs : SlAt W va 4 3 (pcC l)) (ht : SlAt W vt r 3 (pcC T)) => sdI_is h4 hr (by omega) (by omega) (fun _ => by omega) hb va vt W hs ht)
        rw [h4] at e1
        have HXX := hid (And.intro hx (And.intro hg hl))
        have HBB := hid hb
        clear he hl hx hg hcell hs1 d1 hfs hq h4 hTT hr hb
        cases b
        · have HE := hid (rf_hit HC.out (by have := HN.out; omega) (HSD.out.2 HBB.out) hno.out)
          go_wp2_with ((go_at_call 32; apply own_at hO; (repeat (first | (with_reducible exact hO) | (with_reducible apply Own.alloc) | (with_reducible apply Own.drew) | ((with_reducible apply Own.set_at); (focus (show _ ≤ _; omega))))); have hG := hF; clear hF; clear hO; intro hO; refine own_call_row hO (fun hB => HPA.out _ hB) ?_; clear hO; intro v w1 hO; (try simp only [World.size_alloc1, World.size_drew, Nat.reduceAdd] at hO); (try simp only [upd, updI, List.map_cons, List.map_nil, eq_self, if_true, if_false, reduceIte, Nat.add_eq_left, Nat.left_eq_add, Nat.reduceEqDiff, List.set_cons_zero, List.set_cons_succ, hG] at hO); clear hG; have hF := hO; (try simp only [Own, Item.Holds, apartI, CellsAt, Nat.reduceAdd, Nat.zero_add, List.mem_cons, List.not_mem_nil, or_false, forall_eq_or_imp, forall_eq, ne_eq, false_imp_iff, implies_true, and_true] at hF)); obtain ⟨Av, cv, hv⟩ := (SlAt.of_row hO.1.1).form; subst hv)
          apply own_code hO
          (repeat (first | (with_reducible exact hO) | (with_reducible apply Own.alloc) | (with_reducible apply Own.drew) | ((with_reducible apply Own.set_at); (focus (show _ ≤ _; omega)))))
          have hG := hF; clear hF; clear hO; intro hO
          (try simp only [World.size_alloc1, World.size_drew, Nat.reduceAdd] at hO); (try simp only [upd, updI, List.map_cons, List.map_nil, eq_self, if_true, if_false, reduceIte, Nat.add_eq_left, Nat.left_eq_add, Nat.reduceEqDiff, List.set_cons_zero, List.set_cons_succ, hG] at hO); clear hG
          refine region_own (X := fun _ => True) [] (by kernel_rfl) (hO) (trivial) (by first | exact XStab.true | exact XStab.rd | exact XStab.rdIf) ?_
          clear hO
          refine Sim.sP (i := 0) (d := some 46) (h := ?_)
          refine Sim.sO (i := 1) (d := some 47) (v := ?_) (hy := ?_) (h := ?_)
          rotate_left
          · first | refine Or.inl ⟨by rfl, fun w hO => ?_⟩ | (refine Or.inr ⟨by rfl, ?_⟩; with_reducible rfl)
            first | done | (have hF := hO; (try simp only [Own, Item.Holds, apartI, CellsAt, Nat.reduceAdd, Nat.zero_add, List.mem_cons, List.not_mem_nil, or_false, forall_eq_or_imp, forall_eq, ne_eq, false_imp_iff, implies_true, and_true] at hF); ((have ⟨x0, x1, x2⟩ := ptAt (HB.out.below hO.base) HXX.out.1; have g0 := inAt (HG.out.below hO.base) HXX.out.2.1)); refine Out.same ?_; go_simp; all_goals with_reducible rfl)
          refine Sim.sP (i := 2) (d := some 48) (h := ?_)
          refine Sim.sP (i := 3) (d := some 49) (h := ?_)
          refine Sim.sP (i := 4) (d := some 50) (h := ?_)
          refine Sim.sP (i := 5) (d := some 51) (h := ?_)
          refine Sim.sP (i := 6) (d := some 52) (h := ?_)
          refine Sim.sP (i := 7) (d := some 53) (h := ?_)
          refine Sim.sP (i := 8) (d := some 54) (h := ?_)
          refine Sim.sO (i := 9) (d := some 55) (v := ?_) (hy := ?_) (h := ?_)
          rotate_left
          · first | refine Or.inl ⟨by rfl, fun w hO => ?_⟩ | (refine Or.inr ⟨by rfl, ?_⟩; with_reducible rfl)
            first | done | (have hF := hO; (try simp only [Own, Item.Holds, apartI, CellsAt, Nat.reduceAdd, Nat.zero_add, List.mem_cons, List.not_mem_nil, or_false, forall_eq_or_imp, forall_eq, ne_eq, false_imp_iff, implies_true, and_true] at hF); ((have ⟨x0, x1, x2⟩ := ptAt (HB.out.below hO.base) HXX.out.1; have g0 := inAt (HG.out.below hO.base) HXX.out.2.1)); refine Out.same ?_; go_simp; all_goals with_reducible rfl)
          refine Sim.sP (i := 10) (d := some 56) (h := ?_)
          refine Sim.sP (i := 11) (d := some 57) (h := ?_)
          refine Sim.sP (i := 12) (d := some 58) (h := ?_)
          refine Sim.sO (i := 13) (d := some 59) (v := ?_) (hy := ?_) (h := ?_)
          rotate_left
          · first | refine Or.inl ⟨by rfl, fun w hO => ?_⟩ | (refine Or.inr ⟨by rfl, ?_⟩; with_reducible rfl)
            first | done | (have hF := hO; (try simp only [Own, Item.Holds, apartI, CellsAt, Nat.reduceAdd, Nat.zero_add, List.mem_cons, List.not_mem_nil, or_false, forall_eq_or_imp, forall_eq, ne_eq, false_imp_iff, implies_true, and_true] at hF); ((have ⟨x0, x1, x2⟩ := ptAt (HB.out.below hO.base) HXX.out.1; have g0 := inAt (HG.out.below hO.base) HXX.out.2.1)); refine Out.same ?_; go_simp; all_goals with_reducible rfl)
          refine Sim.one' (i := 14) (oi := { dst := some 60, op := Op.call { callee := Callee.value (Operand.func 82), args := #[Operand.tmp 51, Operand.tmp 55, Operand.tmp 59], argTypes := #[3, 29, 3] }, type := 23, pos := "l13_figured_bass.go:47", after := #[{ on := 5, ground := Ground.data }, { on := 9, ground := Ground.data }, { on := 13, ground := Ground.data }, { on := 3, ground := Ground.chain }, { on := 3, ground := Ground.guard }], guard := some (3, false) }) (by kernel_rfl) rfl (by rfl) (fun w0 hO hX K hK => ?_)
          have hF := hO; (try simp only [Own, Item.Holds, apartI, CellsAt, Nat.reduceAdd, Nat.zero_add, List.mem_cons, List.not_mem_nil, or_false, forall_eq_or_imp, forall_eq, ne_eq, false_imp_iff, implies_true, and_true] at hF)
          go_simp
          refine (HFT.out _ hO.base).mono ?_
          rintro e wa ⟨ra, rfl, hra, hBa⟩
          apply hK _ _ _ (fun _ => True)
          · exact hO.addRow hBa hra
          · exact trivial
          · exact XStab.true
          · first | exact fun _ _ h => h.2 | exact fun h => absurd h (by decide)
          clear hra hBa
          clear hK K hF hO
          try simp only [Act.put, List.setIfInBounds_toArray, List.set_cons_zero, List.set_cons_succ]
          refine Sim.sO (i := 15) (d := some 61) (v := ?_) (hy := ?_) (h := ?_)
          rotate_left
          · first | refine Or.inl ⟨by rfl, fun w hO => ?_⟩ | (refine Or.inr ⟨by rfl, ?_⟩; with_reducible rfl)
            first | done | (refine Out.call (f := 86) (args := ?_) ?_ ?_; rotate_left; (focus (go_simp; all_goals with_reducible rfl)); exact HSO.out _ _ _ (HS1.out.below hO.base) (SlAt.of_row hO.1.1))
          refine Sim.sP (i := 16) (d := some 62) (h := ?_)
          refine Sim.sP (i := 17) (d := some 63) (h := ?_)
          refine Sim.done (by kernel_rfl) (fun w1 hO hX => ?_) _
          (try simp only [World.size_alloc1, World.size_drew, Nat.reduceAdd] at hO); (try simp only [upd, updI, List.map_cons, List.map_nil, eq_self, if_true, if_false, reduceIte, Nat.add_eq_left, Nat.left_eq_add, Nat.reduceEqDiff, List.set_cons_zero, List.set_cons_succ] at hO)
          have hF := hO; (try simp only [Own, Item.Holds, apartI, CellsAt, Nat.reduceAdd, Nat.zero_add, List.mem_cons, List.not_mem_nil, or_false, forall_eq_or_imp, forall_eq, ne_eq, false_imp_iff, implies_true, and_true] at hF)
          all_goals
            go_wp2_with fail
            go_ret
            exact ⟨ret_int HE.out.symm, Own.base (by first | exact hO | (repeat (first | (with_reducible exact hO) | (with_reducible apply Own.alloc) | (with_reducible apply Own.drew) | ((with_reducible apply Own.set_at); (focus (show _ ≤ _; omega))))))⟩
        · have HU := hid (upto_P hno.out (fun hc => by have h1 := HSD.out.1 hc; have h2 := HBB.out; rw [h1] at h2; cases h2))
          go_wp2_with ((go_at_call 32; apply own_at hO; (repeat (first | (with_reducible exact hO) | (with_reducible apply Own.alloc) | (with_reducible apply Own.drew) | ((with_reducible apply Own.set_at); (focus (show _ ≤ _; omega))))); have hG := hF; clear hF; clear hO; intro hO; refine own_call_row hO (fun hB => HPA.out _ hB) ?_; clear hO; intro v w1 hO; (try simp only [World.size_alloc1, World.size_drew, Nat.reduceAdd] at hO); (try simp only [upd, updI, List.map_cons, List.map_nil, eq_self, if_true, if_false, reduceIte, Nat.add_eq_left, Nat.left_eq_add, Nat.reduceEqDiff, List.set_cons_zero, List.set_cons_succ, hG] at hO); clear hG; have hF := hO; (try simp only [Own, Item.Holds, apartI, CellsAt, Nat.reduceAdd, Nat.zero_add, List.mem_cons, List.not_mem_nil, or_false, forall_eq_or_imp, forall_eq, ne_eq, false_imp_iff, implies_true, and_true] at hF)); obtain ⟨Av, cv, hv⟩ := (SlAt.of_row hO.1.1).form; subst hv)
          apply own_code hO
          (repeat (first | (with_reducible exact hO) | (with_reducible apply Own.alloc) | (with_reducible apply Own.drew) | ((with_reducible apply Own.set_at); (focus (show _ ≤ _; omega)))))
          have hG := hF; clear hF; clear hO; intro hO
          (try simp only [World.size_alloc1, World.size_drew, Nat.reduceAdd] at hO); (try simp only [upd, updI, List.map_cons, List.map_nil, eq_self, if_true, if_false, reduceIte, Nat.add_eq_left, Nat.left_eq_add, Nat.reduceEqDiff, List.set_cons_zero, List.set_cons_succ, hG] at hO); clear hG
          refine region_own (X := fun _ => True) [] (by kernel_rfl) (hO) (trivial) (by first | exact XStab.true | exact XStab.rd | exact XStab.rdIf) ?_
          clear hO
          refine Sim.sP (i := 0) (d := some 46) (h := ?_)
          refine Sim.sO (i := 1) (d := some 47) (v := ?_) (hy := ?_) (h := ?_)
          rotate_left
          · first | refine Or.inl ⟨by rfl, fun w hO => ?_⟩ | (refine Or.inr ⟨by rfl, ?_⟩; with_reducible rfl)
            first | done | (have hF := hO; (try simp only [Own, Item.Holds, apartI, CellsAt, Nat.reduceAdd, Nat.zero_add, List.mem_cons, List.not_mem_nil, or_false, forall_eq_or_imp, forall_eq, ne_eq, false_imp_iff, implies_true, and_true] at hF); ((have ⟨x0, x1, x2⟩ := ptAt (HB.out.below hO.base) HXX.out.1; have g0 := inAt (HG.out.below hO.base) HXX.out.2.1)); refine Out.same ?_; go_simp; all_goals with_reducible rfl)
          refine Sim.sP (i := 2) (d := some 48) (h := ?_)
          refine Sim.sP (i := 3) (d := some 49) (h := ?_)
          refine Sim.sP (i := 4) (d := some 50) (h := ?_)
          refine Sim.sP (i := 5) (d := some 51) (h := ?_)
          refine Sim.sP (i := 6) (d := some 52) (h := ?_)
          refine Sim.sP (i := 7) (d := some 53) (h := ?_)
          refine Sim.sP (i := 8) (d := some 54) (h := ?_)
          refine Sim.sO (i := 9) (d := some 55) (v := ?_) (hy := ?_) (h := ?_)
          rotate_left
          · first | refine Or.inl ⟨by rfl, fun w hO => ?_⟩ | (refine Or.inr ⟨by rfl, ?_⟩; with_reducible rfl)
            first | done | (have hF := hO; (try simp only [Own, Item.Holds, apartI, CellsAt, Nat.reduceAdd, Nat.zero_add, List.mem_cons, List.not_mem_nil, or_false, forall_eq_or_imp, forall_eq, ne_eq, false_imp_iff, implies_true, and_true] at hF); ((have ⟨x0, x1, x2⟩ := ptAt (HB.out.below hO.base) HXX.out.1; have g0 := inAt (HG.out.below hO.base) HXX.out.2.1)); refine Out.same ?_; go_simp; all_goals with_reducible rfl)
          refine Sim.sP (i := 10) (d := some 56) (h := ?_)
          refine Sim.sP (i := 11) (d := some 57) (h := ?_)
          refine Sim.sP (i := 12) (d := some 58) (h := ?_)
          refine Sim.sO (i := 13) (d := some 59) (v := ?_) (hy := ?_) (h := ?_)
          rotate_left
          · first | refine Or.inl ⟨by rfl, fun w hO => ?_⟩ | (refine Or.inr ⟨by rfl, ?_⟩; with_reducible rfl)
            first | done | (have hF := hO; (try simp only [Own, Item.Holds, apartI, CellsAt, Nat.reduceAdd, Nat.zero_add, List.mem_cons, List.not_mem_nil, or_false, forall_eq_or_imp, forall_eq, ne_eq, false_imp_iff, implies_true, and_true] at hF); ((have ⟨x0, x1, x2⟩ := ptAt (HB.out.below hO.base) HXX.out.1; have g0 := inAt (HG.out.below hO.base) HXX.out.2.1)); refine Out.same ?_; go_simp; all_goals with_reducible rfl)
          refine Sim.one' (i := 14) (oi := { dst := some 60, op := Op.call { callee := Callee.value (Operand.func 82), args := #[Operand.tmp 51, Operand.tmp 55, Operand.tmp 59], argTypes := #[3, 29, 3] }, type := 23, pos := "l13_figured_bass.go:47", after := #[{ on := 5, ground := Ground.data }, { on := 9, ground := Ground.data }, { on := 13, ground := Ground.data }, { on := 3, ground := Ground.chain }, { on := 3, ground := Ground.guard }], guard := some (3, false) }) (by kernel_rfl) rfl (by rfl) (fun w0 hO hX K hK => ?_)
          have hF := hO; (try simp only [Own, Item.Holds, apartI, CellsAt, Nat.reduceAdd, Nat.zero_add, List.mem_cons, List.not_mem_nil, or_false, forall_eq_or_imp, forall_eq, ne_eq, false_imp_iff, implies_true, and_true] at hF)
          go_simp
          refine (HFT.out _ hO.base).mono ?_
          rintro e wa ⟨ra, rfl, hra, hBa⟩
          apply hK _ _ _ (fun _ => True)
          · exact hO.addRow hBa hra
          · exact trivial
          · exact XStab.true
          · first | exact fun _ _ h => h.2 | exact fun h => absurd h (by decide)
          clear hra hBa
          clear hK K hF hO
          try simp only [Act.put, List.setIfInBounds_toArray, List.set_cons_zero, List.set_cons_succ]
          refine Sim.sO (i := 15) (d := some 61) (v := ?_) (hy := ?_) (h := ?_)
          rotate_left
          · first | refine Or.inl ⟨by rfl, fun w hO => ?_⟩ | (refine Or.inr ⟨by rfl, ?_⟩; with_reducible rfl)
            first | done | (refine Out.call (f := 86) (args := ?_) ?_ ?_; rotate_left; (focus (go_simp; all_goals with_reducible rfl)); exact HSO.out _ _ _ (HS1.out.below hO.base) (SlAt.of_row hO.1.1))
          refine Sim.sP (i := 16) (d := some 62) (h := ?_)
          refine Sim.sP (i := 17) (d := some 63) (h := ?_)
          refine Sim.done (by kernel_rfl) (fun w1 hO hX => ?_) _
          (try simp only [World.size_alloc1, World.size_drew, Nat.reduceAdd] at hO); (try simp only [upd, updI, List.map_cons, List.map_nil, eq_self, if_true, if_false, reduceIte, Nat.add_eq_left, Nat.left_eq_add, Nat.reduceEqDiff, List.set_cons_zero, List.set_cons_succ] at hO)
          have hF := hO; (try simp only [Own, Item.Holds, apartI, CellsAt, Nat.reduceAdd, Nat.zero_add, List.mem_cons, List.not_mem_nil, or_false, forall_eq_or_imp, forall_eq, ne_eq, false_imp_iff, implies_true, and_true] at hF)
          all_goals
            go_wp2_with fail
            go_roundw
            case rel => exact ⟨k + 1, by omega, by go_num, HU.out, Own.sub (.cons _ (.cons _ (.refl _))) hO⟩
            case measure => simp [intOf]; omega
      · have q0 : 0 < q := by rw [← hq]; exact List.length_pos_iff.2 hf0
        have q0' : (0 : Int) < (q : Int) := by omega
        have q0b : decide ((0 : Int) < (q : Int)) = true := decide_eq_true q0'
        have HE := hid (rf_hit HC.out (by have := HN.out; omega) (rf_fa (f := f) (bs := bs) (gs := gs) (by rw [hfs]; exact hf0)) hno.out)
        clear he hl hx hg hcell hs1 d1 hfs hq hf0
        go_wp2_with ((go_at_call 32; apply own_at hO; (repeat (first | (with_reducible exact hO) | (with_reducible apply Own.alloc) | (with_reducible apply Own.drew) | ((with_reducible apply Own.set_at); (focus (show _ ≤ _; omega))))); have hG := hF; clear hF; clear hO; intro hO; refine own_call_row hO (fun hB => HPA.out _ hB) ?_; clear hO; intro v w1 hO; (try simp only [World.size_alloc1, World.size_drew, Nat.reduceAdd] at hO); (try simp only [upd, updI, List.map_cons, List.map_nil, eq_self, if_true, if_false, reduceIte, Nat.add_eq_left, Nat.left_eq_add, Nat.reduceEqDiff, List.set_cons_zero, List.set_cons_succ, hG] at hO); clear hG; have hF := hO; (try simp only [Own, Item.Holds, apartI, CellsAt, Nat.reduceAdd, Nat.zero_add, List.mem_cons, List.not_mem_nil, or_false, forall_eq_or_imp, forall_eq, ne_eq, false_imp_iff, implies_true, and_true] at hF)); obtain ⟨Av, cv, hv⟩ := (SlAt.of_row hO.1.1).form; subst hv)
        apply own_code hO
        (repeat (first | (with_reducible exact hO) | (with_reducible apply Own.alloc) | (with_reducible apply Own.drew) | ((with_reducible apply Own.set_at); (focus (show _ ≤ _; omega)))))
        have hG := hF; clear hF; clear hO; intro hO
        (try simp only [World.size_alloc1, World.size_drew, Nat.reduceAdd] at hO); (try simp only [upd, updI, List.map_cons, List.map_nil, eq_self, if_true, if_false, reduceIte, Nat.add_eq_left, Nat.left_eq_add, Nat.reduceEqDiff, List.set_cons_zero, List.set_cons_succ, hG] at hO); clear hG
        refine region_own (X := fun _ => True) [] (by kernel_rfl) (hO) (trivial) (by first | exact XStab.true | exact XStab.rd | exact XStab.rdIf) ?_
        clear hO
        refine Sim.sP (i := 0) (d := some 46) (h := ?_)
        refine Sim.sO (i := 1) (d := some 47) (v := ?_) (hy := ?_) (h := ?_)
        rotate_left
        · first | refine Or.inl ⟨by rfl, fun w hO => ?_⟩ | (refine Or.inr ⟨by rfl, ?_⟩; with_reducible rfl)
          first | done | (have hF := hO; (try simp only [Own, Item.Holds, apartI, CellsAt, Nat.reduceAdd, Nat.zero_add, List.mem_cons, List.not_mem_nil, or_false, forall_eq_or_imp, forall_eq, ne_eq, false_imp_iff, implies_true, and_true] at hF); refine Out.same ?_; go_simp; all_goals with_reducible rfl)
        refine Sim.sP (i := 2) (d := some 48) (h := ?_)
        refine Sim.sP (i := 3) (d := some 49) (h := ?_)
        refine Sim.sP (i := 4) (d := some 50) (h := ?_)
        refine Sim.sP (i := 5) (d := some 51) (h := ?_)
        refine Sim.sP (i := 6) (d := some 52) (h := ?_)
        refine Sim.sP (i := 7) (d := some 53) (h := ?_)
        refine Sim.sP (i := 8) (d := some 54) (h := ?_)
        refine Sim.sP (i := 9) (d := some 55) (h := ?_)
        refine Sim.sP (i := 10) (d := some 56) (h := ?_)
        refine Sim.sP (i := 11) (d := some 57) (h := ?_)
        refine Sim.sP (i := 12) (d := some 58) (h := ?_)
        refine Sim.sP (i := 13) (d := some 59) (h := ?_)
        refine Sim.sP (i := 14) (d := some 60) (h := ?_)
        refine Sim.sP (i := 15) (d := some 61) (h := ?_)
        refine Sim.sP (i := 16) (d := some 62) (h := ?_)
        refine Sim.sP (i := 17) (d := some 63) (h := ?_)
        refine Sim.done (by kernel_rfl) (fun w1 hO hX => ?_) _
        (try simp only [World.size_alloc1, World.size_drew, Nat.reduceAdd] at hO); (try simp only [upd, updI, List.map_cons, List.map_nil, eq_self, if_true, if_false, reduceIte, Nat.add_eq_left, Nat.left_eq_add, Nat.reduceEqDiff, List.set_cons_zero, List.set_cons_succ] at hO)
        have hF := hO; (try simp only [Own, Item.Holds, apartI, CellsAt, Nat.reduceAdd, Nat.zero_add, List.mem_cons, List.not_mem_nil, or_false, forall_eq_or_imp, forall_eq, ne_eq, false_imp_iff, implies_true, and_true] at hF)
        all_goals
          go_wp2_with fail
          go_ret
          exact ⟨ret_int HE.out.symm, Own.base (by first | exact hO | (repeat (first | (with_reducible exact hO) | (with_reducible apply Own.alloc) | (with_reducible apply Own.drew) | ((with_reducible apply Own.set_at); (focus (show _ ≤ _; omega))))))⟩

set_option maxHeartbeats 4000000 in
theorem rfI_any (f : Int) (vb vg vl : Value) (bs : List Pt) (gs : List Int) (ll : List (List Pt)) (w : World) (hb : SlAt w vb bs.length 3 (pcC bs)) (hg : SlAt w vg gs.length 1 (intC gs)) (hl : StkR w vl ll) (hle : ∀ l ∈ ll, l.length ≤ 1048576) (hT : TabH w) (hV : TabV w) (hA : TabA w) :
    Calls Tryd.prog 44 #[.int .i64 f, vb, vg, vl] w fun e w' => e = .returned (.int .i64 (rfZ f bs gs ll)) ∧ Below w.heap.size w w' := by
  by_cases hc : rfC f bs gs ll
  · exact rfI_in f vb vg vl bs gs ll w hc hb hg hl hle hT hV hA
  · have hO := Own.start w
    have hF := True.intro
    have HE := hid (rf_out hc)
    obtain ⟨Ab, cb, rfl, nb, _⟩ := hb.open
    obtain ⟨Ag, cg, rfl, ng, _⟩ := hg.open
    obtain ⟨Al, cl, rfl, nl, _⟩ := hl.open
    unfold rfC at hc
    clear hb hg hl hle hT hV hA
    obtain ⟨n, hnl⟩ : ∃ n, ll.length = n := ⟨_, rfl⟩
    obtain ⟨m, hm⟩ : ∃ n, bs.length = n := ⟨_, rfl⟩
    obtain ⟨g, hg⟩ : ∃ n, gs.length = n := ⟨_, rfl⟩
    rw [hnl, hm, hg] at hc
    rw [hnl] at nl ⊢
    rw [hm] at nb ⊢
    rw [hg] at ng ⊢
    clear hnl hm hg
    obtain ⟨b, hb⟩ : ∃ b, keyB f = b := ⟨_, rfl⟩
    have HK := hid (fun W => kvI_is W hb)
    cases b
    · clear hc hb
      go_enter Tryd.func44, Tryd.ntmps44
      go_wp2_with (go_at_call 59; apply own_at hO; (repeat (first | (with_reducible exact hO) | (with_reducible apply Own.alloc) | (with_reducible apply Own.drew) | ((with_reducible apply Own.set_at); (focus (show _ ≤ _; omega))))); have hG := hF; clear hF; clear hO; intro hO; refine own_call hO (fun hB => HK.out _) ?_; clear hO; intro w1 hO; (try simp only [World.size_alloc1, World.size_drew, Nat.reduceAdd] at hO); (try simp only [upd, updI, List.map_cons, List.map_nil, eq_self, if_true, if_false, reduceIte, Nat.add_eq_left, Nat.left_eq_add, Nat.reduceEqDiff, List.set_cons_zero, List.set_cons_succ, hG] at hO); clear hG; have hF := hO; (try simp only [Own, Item.Holds, apartI, CellsAt, Nat.reduceAdd, Nat.zero_add, List.mem_cons, List.not_mem_nil, or_false, forall_eq_or_imp, forall_eq, ne_eq, false_imp_iff, implies_true, and_true] at hF))
      go_ret
      exact ⟨ret_int HE.out.symm, Own.base (by first | exact hO | (repeat (first | (with_reducible exact hO) | (with_reducible apply Own.alloc) | (with_reducible apply Own.drew) | ((with_reducible apply Own.set_at); (focus (show _ ≤ _; omega))))))⟩
    · by_cases h8 : n ≤ 8
      · have h8' : ¬ 8 < (n : Int) := by omega
        have h8'' : (n : Int) ≤ 8 := by omega
        by_cases hm : m = n
        · subst hm
          have hg1 : g ≠ m := fun hg => hc ⟨h8, rfl, hg, hb⟩
          have hg2 : ((g : Int) == (m : Int)) = false := by simp; omega
          have hg3 : ((g : Int) != (m : Int)) = true := by simp; omega
          have hg4 : ¬ (g : Int) = (m : Int) := by omega
          clear hc hb hg1
          go_enter Tryd.func44, Tryd.ntmps44
          go_wp2_with (go_at_call 59; apply own_at hO; (repeat (first | (with_reducible exact hO) | (with_reducible apply Own.alloc) | (with_reducible apply Own.drew) | ((with_reducible apply Own.set_at); (focus (show _ ≤ _; omega))))); have hG := hF; clear hF; clear hO; intro hO; refine own_call hO (fun hB => HK.out _) ?_; clear hO; intro w1 hO; (try simp only [World.size_alloc1, World.size_drew, Nat.reduceAdd] at hO); (try simp only [upd, updI, List.map_cons, List.map_nil, eq_self, if_true, if_false, reduceIte, Nat.add_eq_left, Nat.left_eq_add, Nat.reduceEqDiff, List.set_cons_zero, List.set_cons_succ, hG] at hO); clear hG; have hF := hO; (try simp only [Own, Item.Holds, apartI, CellsAt, Nat.reduceAdd, Nat.zero_add, List.mem_cons, List.not_mem_nil, or_false, forall_eq_or_imp, forall_eq, ne_eq, false_imp_iff, implies_true, and_true] at hF))
          go_ret
          exact ⟨ret_int HE.out.symm, Own.base (by first | exact hO | (repeat (first | (with_reducible exact hO) | (with_reducible apply Own.alloc) | (with_reducible apply Own.drew) | ((with_reducible apply Own.set_at); (focus (show _ ≤ _; omega))))))⟩
        · have hg2 : ((m : Int) == (n : Int)) = false := by simp; omega
          have hg3 : ((m : Int) != (n : Int)) = true := by simp; omega
          have hg4 : ¬ (m : Int) = (n : Int) := by omega
          clear hc hb
          go_enter Tryd.func44, Tryd.ntmps44
          go_wp2_with (go_at_call 59; apply own_at hO; (repeat (first | (with_reducible exact hO) | (with_reducible apply Own.alloc) | (with_reducible apply Own.drew) | ((with_reducible apply Own.set_at); (focus (show _ ≤ _; omega))))); have hG := hF; clear hF; clear hO; intro hO; refine own_call hO (fun hB => HK.out _) ?_; clear hO; intro w1 hO; (try simp only [World.size_alloc1, World.size_drew, Nat.reduceAdd] at hO); (try simp only [upd, updI, List.map_cons, List.map_nil, eq_self, if_true, if_false, reduceIte, Nat.add_eq_left, Nat.left_eq_add, Nat.reduceEqDiff, List.set_cons_zero, List.set_cons_succ, hG] at hO); clear hG; have hF := hO; (try simp only [Own, Item.Holds, apartI, CellsAt, Nat.reduceAdd, Nat.zero_add, List.mem_cons, List.not_mem_nil, or_false, forall_eq_or_imp, forall_eq, ne_eq, false_imp_iff, implies_true, and_true] at hF))
          go_ret
          exact ⟨ret_int HE.out.symm, Own.base (by first | exact hO | (repeat (first | (with_reducible exact hO) | (with_reducible apply Own.alloc) | (with_reducible apply Own.drew) | ((with_reducible apply Own.set_at); (focus (show _ ≤ _; omega))))))⟩
      · have h8' : 8 < (n : Int) := by omega
        clear hc hb
        go_enter Tryd.func44, Tryd.ntmps44
        go_wp2_with (go_at_call 59; apply own_at hO; (repeat (first | (with_reducible exact hO) | (with_reducible apply Own.alloc) | (with_reducible apply Own.drew) | ((with_reducible apply Own.set_at); (focus (show _ ≤ _; omega))))); have hG := hF; clear hF; clear hO; intro hO; refine own_call hO (fun hB => HK.out _) ?_; clear hO; intro w1 hO; (try simp only [World.size_alloc1, World.size_drew, Nat.reduceAdd] at hO); (try simp only [upd, updI, List.map_cons, List.map_nil, eq_self, if_true, if_false, reduceIte, Nat.add_eq_left, Nat.left_eq_add, Nat.reduceEqDiff, List.set_cons_zero, List.set_cons_succ, hG] at hO); clear hG; have hF := hO; (try simp only [Own, Item.Holds, apartI, CellsAt, Nat.reduceAdd, Nat.zero_add, List.mem_cons, List.not_mem_nil, or_false, forall_eq_or_imp, forall_eq, ne_eq, false_imp_iff, implies_true, and_true] at hF))
        go_ret
        exact ⟨ret_int HE.out.symm, Own.base (by first | exact hO | (repeat (first | (with_reducible exact hO) | (with_reducible apply Own.alloc) | (with_reducible apply Own.drew) | ((with_reducible apply Own.set_at); (focus (show _ ≤ _; omega))))))⟩
theorem rfI_C (w : World) (hT : TabH w) (hV : TabV w) (hA : TabA w) : CRf 44 w := fun f vb vg vl bs gs ll W hW _ hb hg hl _ _ _ _ _ hle _ => rfI_any f vb vg vl bs gs ll W hb hg hl hle (hT.below hW) (hV.below hW) (hA.below hW)
end Go.Proofs.YtfdglkiehkilnaaDoor
