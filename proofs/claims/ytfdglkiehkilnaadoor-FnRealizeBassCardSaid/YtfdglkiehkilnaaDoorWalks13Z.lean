/- Chapter 13 in the program: the first way through the chords that are left; RealizeBass. -/
import Derived.Test.YtfdglkiehkilnaaDoorWalks13P
import Derived.Test.YtfdglkiehkilnaaDoorRegionD
namespace Go.Proofs.YtfdglkiehkilnaaDoor
set_option linter.unusedSimpArgs false
set_option linter.unusedVariables false
set_option maxRecDepth 8000
open Go.RowKit Go.Joins

set_option maxHeartbeats 2000000 in
theorem fwI_no (qs cs N c0 : Nat) (A0 : Option Addr) (w : World) (hN : 1 ≤ N) (e : w.cell? ⟨qs, 0, none⟩ = some (.slice A0 0 c0)) :
    Calls Tryd.prog 84 #[.slice (some ⟨qs, 0, none⟩) N cs] w fun e w' => e = .returned (.tuple #[.slice none 0 0, .bool false]) ∧ Below w.heap.size w w' := by
  have n0 : (0 : Int) < (N : Int) := by omega
  go_enter Tryd.func84, Tryd.ntmps84
  go_wp2
  go_ret2
  exact ⟨rfl, Below.refl _ _⟩
theorem fb_first {es : List (Value × List Pt)} {s : List Pt} (h : (lsO es).find? (wyB none) = some s) : ∃ c r, es = c :: r ∧ c.2 = s := by
  cases es with
  | nil => simp at h
  | cons c r =>
    refine ⟨c, r, rfl, ?_⟩
    simp only [List.map_cons, List.find?_cons] at h
    rw [show wyB none c.2 = true from rfl] at h
    exact Option.some.inj h
theorem fb_next {es : List (Value × List Pt)} {l s : List Pt} (h : (lsO es).find? (wyB (some l)) = some s) : ∃ c, fbE l es = some c ∧ c ∈ es ∧ c.2 = s := by
  rw [← fb_stk] at h
  obtain ⟨c, hc, hs⟩ := Option.map_eq_some_iff.1 h
  refine ⟨c, hc, ?_, hs⟩
  unfold fbE at hc
  exact List.mem_of_find?_eq_some hc

set_option maxRecDepth 20000 in
set_option maxHeartbeats 8000000 in
theorem fwI_yes (qs cs N : Nat) (As : List (Value × List (Value × List Pt))) (out : List (List Pt)) (w : World) (hN1 : 1 ≤ N) (hN8 : N ≤ 8) (hl : As.length = N) (hq : qs < w.heap.size)
    (hA : ∀ (i : Nat) (p : Value × List (Value × List Pt)), As[i]? = some p → w.cell? ⟨qs, i, none⟩ = some p.1 ∧ SlAt w p.1 p.2.length 1 (vsO p.2) ∧ (∀ c ∈ p.2, c.2.length = 4 ∧ SlAt w c.1 4 3 (pcC c.2)) ∧ p.2.length ≤ 1528823808)
    (hol : out.length = N) (hout : ∀ (k : Nat) (s : List Pt), out[k]? = some s → ∃ p, As[k]? = some p ∧ (lsO p.2).find? (wyB (if k = 0 then none else out[k - 1]?)) = some s) (hT : TabH w) :
    Calls Tryd.prog 84 #[.slice (some ⟨qs, 0, none⟩) N cs] w fun e w' => ∃ v ch, e = .returned (.tuple #[v, .bool true]) ∧ chOk out As N ch ∧ w'.ownsRow w.heap.size 23 1 v N (vsO ch) ∧ Below w.heap.size w w' := by
  have hO := Own.start w
  have hF := True.intro
  obtain ⟨is, hs0, hs1, hs2, hs3⟩ := info_parts infoSt
  have n0 : (0 : Int) < (N : Int) := by omega
  obtain ⟨s0, hs0o⟩ : ∃ s, out[0]? = some s := ⟨_, List.getElem?_eq_getElem (by omega)⟩
  obtain ⟨⟨v0, es0⟩, hp0, hf0⟩ := hout 0 s0 hs0o
  obtain ⟨⟨c0, l0⟩, r0, rfl, hc0⟩ := fb_first (by simpa using hf0)
  obtain ⟨g1, g2, g3, _⟩ := hA 0 _ hp0
  dsimp only at g1 g2 g3 hc0
  obtain ⟨b0, o0, k0, hv0⟩ : ∃ b o k, v0 = .slice (some ⟨b, o, none⟩) ((c0, l0) :: r0).length k := by
    rcases g2.2 with ⟨_, h⟩ | ⟨b, o, k, h, _⟩
    · simp at h
    · exact ⟨b, o, k, h⟩
  subst hv0
  obtain ⟨m0, hm0⟩ : ∃ m, ((c0, l0) :: r0).length = m := ⟨_, rfl⟩
  have m1 : 0 < m0 := by rw [← hm0]; simp
  have m2 : (0 : Int) < (m0 : Int) := by omega
  have m3 : ((m0 : Int) == 0) = false := by simp; omega
  have g4 := g2.cellAt (show (vsO ((c0, l0) :: r0))[0]? = some c0 from rfl)
  obtain ⟨A0, kc, hcf⟩ := (g3 (c0, l0) List.mem_cons_self).2.form
  dsimp only at hcf
  subst hcf
  rw [hm0] at g1
  rw [Nat.add_zero] at g4
  have HOK := hid (show chOk out As 1 [(.slice A0 4 kc, l0)] from ⟨rfl, fun i c h => by
    cases i with
    | zero => simp at h; subst h; exact ⟨_, hp0, List.mem_cons_self⟩
    | succ i => simp at h, fun i hi => by
    obtain rfl : i = 0 := by omega
    rw [hs0o, ← hc0]; rfl⟩)
  have HA := hid hA
  have HOUT := hid hout
  have HL := hid (And.intro hl hol)
  have HT := hid hT
  clear hA hout hl hol hT hs0o hp0 hf0 hc0 g2 g3 hm0 m1
  go_enter Tryd.func84, Tryd.ntmps84
  go_wp2_with fail
  clear g1 g4
  go_loopw [4, 5] (fun u t wr => ∃ (m : Nat) (ch : List (Value × List Pt)), 1 ≤ m ∧ m ≤ N ∧ t = .int .i64 m ∧ Hid (chOk out As m ch) ∧ Own w.heap.size (Below w.heap.size w) wr [.row 23 1 u ch.length (vsO ch)]) (fun _ t _ => N - (intOf t).toNat)
  case atStart => exact ⟨1, _, by omega, by omega, rfl, HOK.out, hO.allocRow (e := 23) (cur := #[.slice A0 4 kc]) (k := 1) (cap := 1) 1 (Nat.le_refl _) (by unfold maxLen; omega) rfl⟩
  case round =>
    clear hO hF HOK
    obtain ⟨m, ch, hm1, hmN, rfl, hch, hO⟩ := hrel
    have hF := True.intro
    have hcl : ch.length ≤ 8 := by have := hch.out.1; omega
    by_cases he : m = N
    · subst he
      have HCH := hid hch.out.1
      go_wp2_with fail
      go_ret2
      refine ⟨_, ch, rfl, hch.out, ?_, hO.base⟩
      have := hO.1.1
      rw [hch.out.1] at this
      exact this
    · have hmk : m < N := by omega
      have hmk2 : (m : Int) < (N : Int) := by omega
      have hm0 : (0 : Int) ≤ (m : Int) := by omega
      have wm : IntKind.i64.wrap ((m : Int) - 1) = (m : Int) - 1 := IntWalk.i64_in _ (by omega)
      have wm2 : IntKind.i64.wrap ((m : Int) + 1) = (m : Int) + 1 := IntWalk.i64_in _ (by omega)
      have hm2 : (0 : Int) ≤ (m : Int) - 1 := by omega
      have hm3 : (m : Int) - 1 < (ch.length : Int) := by have := hch.out.1; omega
      have hm4 : ((m : Int) - 1).toNat = m - 1 := by omega
      have hm5 : (1 : Int) ≤ (m : Int) := by omega
      obtain ⟨qo, co, huo, _, _⟩ := hO.row_open (by have := hch.out.1; omega)
      subst huo
      obtain ⟨so, hso⟩ : ∃ s, out[m]? = some s := ⟨_, List.getElem?_eq_getElem (by have := HL.out.2; omega)⟩
      obtain ⟨⟨va, es⟩, hAm, hfi⟩ := HOUT.out m so hso
      obtain ⟨⟨cp, lp⟩, hcp⟩ : ∃ c, ch[m - 1]? = some c := ⟨_, List.getElem?_eq_getElem (by have := hch.out.1; omega)⟩
      have hlp : out[m - 1]? = some lp := by
        have := hch.out.2.2 (m - 1) (by omega)
        rw [hcp] at this
        exact this.symm
      rw [if_neg (by omega), hlp] at hfi
      obtain ⟨c, hfb, hcm, hcs⟩ := fb_next hfi
      obtain ⟨pp, hpp, hcpm⟩ := hch.out.2.1 (m - 1) _ hcp
      obtain ⟨x1, x2, x3, x4⟩ := HA.out m _ hAm
      obtain ⟨_, _, y3, _⟩ := HA.out (m - 1) _ hpp
      dsimp only at x1 x2 x3 x4 hfb hcm
      have z1 := y3 _ hcpm
      dsimp only at z1
      obtain ⟨Av, kv, hvf⟩ := x2.form
      subst hvf
      obtain ⟨Ap, kp, hpf⟩ := z1.2.form
      subst hpf
      obtain ⟨Ac, kc2, hcf⟩ := (x3 c hcm).2.form
      have hV : fbV lp es = .slice Ac 4 kc2 := by unfold fbV; rw [hfb, ← hcf]; rfl
      have HFB := hid (fun W (hW : Below w.heap.size w W) => show Calls Tryd.prog 109 #[.slice Ap 4 kp, .slice Av es.length kv] W fun e w' => e = .returned (.slice Ac 4 kc2) ∧ Below W.heap.size W w' by
        have := fbI_any (.slice Ap 4 kp) (.slice Av es.length kv) lp es W z1.1 (z1.2.below hW) (x2.below hW) (fun c hc => (x3 c hc).1) (fun c hc => (x3 c hc).2.below hW) x4 (HT.out.below hW)
        rwa [hV] at this)
      have HX1 := hid (fun W (hW : Below w.heap.size w W) => ((bcell hW).1 qs m hq).trans x1)
      have HE5 := hid (show (vsO ch)[m - 1]? = some (.slice Ap 4 kp) by rw [List.getElem?_map, hcp]; rfl)
      have HN := hid (hch.out.more hAm hcm (by rw [hso, hcs]))
      have HVS := hid (show vsO (ch ++ [c]) = vsO ch ++ [.slice Ac 4 kc2] by rw [vsO_snoc, hcf])
      clear he hso hAm hcp hlp hfi hfb hcm hcs hpp hcpm x1 x2 x3 x4 y3 z1 hcf hV
      go_wp2_with fail
      apply own_code hO
      (repeat (first | (with_reducible exact hO) | (with_reducible apply Own.alloc) | (with_reducible apply Own.drew) | ((with_reducible apply Own.set_at); (focus (show _ ≤ _; omega)))))
      have hG := hF; clear hF; clear hO; intro hO
      (try simp only [World.size_alloc1, World.size_drew, Nat.reduceAdd] at hO); (try simp only [upd, updI, List.map_cons, List.map_nil, eq_self, if_true, if_false, reduceIte, Nat.add_eq_left, Nat.left_eq_add, Nat.reduceEqDiff, List.set_cons_zero, List.set_cons_succ, hG] at hO); clear hG
      refine region_own (X := fun _ => True) [12] (by kernel_rfl) (hO) (trivial) (by first | exact XStab.true | exact XStab.rd | exact XStab.rdIf) ?_
      clear hO
      refine Sim.sP (i := 0) (d := some 23) (h := ?_)
      refine Sim.sP (i := 1) (d := some 24) (h := ?_)
      refine Sim.sP (i := 2) (d := some 25) (h := ?_)
      refine Sim.sP (i := 3) (d := some 26) (h := ?_)
      refine Sim.sP (i := 4) (d := some 27) (h := ?_)
      refine Sim.sD (i := 5) (d := some 28) (v := ?_) (D := [5, 10, 11, 12, 13]) (hy := ?_) (h := ?_)
      rotate_left
      · first | refine Or.inl ⟨by rfl, fun w hO => ?_⟩ | (refine Or.inr ⟨by rfl, ?_⟩; with_reducible rfl)
        first | done | (have hF := hO; (try simp only [Own, Item.Holds, apartI, CellsAt, Nat.reduceAdd, Nat.zero_add, List.mem_cons, List.not_mem_nil, or_false, forall_eq_or_imp, forall_eq, ne_eq, false_imp_iff, implies_true, and_true] at hF); ((have e5 := hO.mem_cell (i := m - 1) List.mem_cons_self HE5.out; have x1 := HX1.out _ hO.base)); refine Out.same ?_; go_simp; all_goals with_reducible rfl)
      refine Sim.sP (i := 6) (d := some 29) (h := ?_)
      refine Sim.sP (i := 7) (d := some 30) (h := ?_)
      refine Sim.sP (i := 8) (d := some 31) (h := ?_)
      refine Sim.sD (i := 9) (d := some 32) (v := ?_) (D := [9, 10, 11, 12, 13]) (hy := ?_) (h := ?_)
      rotate_left
      · first | refine Or.inl ⟨by rfl, fun w hO => ?_⟩ | (refine Or.inr ⟨by rfl, ?_⟩; with_reducible rfl)
        first | done | (have hF := hO; (try simp only [Own, Item.Holds, apartI, CellsAt, Nat.reduceAdd, Nat.zero_add, List.mem_cons, List.not_mem_nil, or_false, forall_eq_or_imp, forall_eq, ne_eq, false_imp_iff, implies_true, and_true] at hF); ((have e5 := hO.mem_cell (i := m - 1) List.mem_cons_self HE5.out; have x1 := HX1.out _ hO.base)); refine Out.same ?_; go_simp; all_goals with_reducible rfl)
      refine Sim.sO (i := 10) (d := some 33) (v := ?_) (hy := ?_) (h := ?_)
      rotate_left
      · first | refine Or.inl ⟨by rfl, fun w hO => ?_⟩ | (refine Or.inr ⟨by rfl, ?_⟩; with_reducible rfl)
        first | done | (refine Out.call (f := 109) (args := ?_) ?_ ?_; rotate_left; (focus (go_simp; all_goals with_reducible rfl)); exact HFB.out _ hO.base)
      refine Sim.one' (i := 11) (oi := { dst := some 34, op := Op.buildSlice 49 1 #[(0, Operand.tmp 33)], type := 49, pos := "l13_figured_bass.go:120", after := #[{ on := 10, ground := Ground.data }], guard := none }) (by kernel_rfl) rfl (by rfl) (fun w0 hO hX K hK => ?_)
      have hF := hO; (try simp only [Own, Item.Holds, apartI, CellsAt, Nat.reduceAdd, Nat.zero_add, List.mem_cons, List.not_mem_nil, or_false, forall_eq_or_imp, forall_eq, ne_eq, false_imp_iff, implies_true, and_true] at hF)
      go_simp
      apply hK _ _ _ (fun _ => True)
      (repeat (first | (with_reducible exact hO) | (with_reducible apply Own.alloc) | (with_reducible apply Own.drew) | ((with_reducible apply Own.set_at); (focus (show _ ≤ _; omega)))))
      · first | exact trivial | exact hX | exact hX.below (below1 _) | exact RdIf.gone | exact hX.keep ((Below.refl _ _).setCell (by first | omega | (dsimp only; omega)) _)
      · exact (by first | exact XStab.true | exact XStab.rd | exact XStab.rdIf)
      · first | exact fun _ _ h => h.2 | exact fun _ _ h => h | exact fun h => absurd h (by decide)
      try simp only [upd, updI, List.map_cons, List.map_nil, eq_self, if_true, if_false, reduceIte, Nat.add_eq_left, Nat.left_eq_add, Nat.reduceEqDiff, List.set_cons_zero, List.set_cons_succ, hF]
      clear hK K hF hO
      try simp only [Act.put, List.setIfInBounds_toArray, List.set_cons_zero, List.set_cons_succ]
      refine Sim.one' (i := 12) (oi := { dst := some 35, op := Op.call { callee := Callee.builtin Builtin.append, args := #[Operand.tmp 23, Operand.tmp 34], argTypes := #[49, 49] }, type := 49, pos := "l13_figured_bass.go:120", after := #[{ on := 0, ground := Ground.data }, { on := 11, ground := Ground.data }, { on := 10, ground := Ground.chain }], guard := none }) (by kernel_rfl) rfl (by rfl) (fun w0 hO hX K hK => ?_)
      refine wp_app_item _ _ 49 rfl 23 is (.slice none 0 0) 1 24 Tryd.underlying49 hs0 hs1 hs2 hs3 rfl (by decide) rfl rfl hO rfl one1k (by unfold maxLen; omega) (by omega) ?_
      clear hO
      intro v' w3 hO
      apply hK _ _ _ (fun _ => True)
      · exact hO
      · exact trivial
      · exact XStab.true
      · first | exact fun _ _ h => h.2 | exact fun h => absurd h (by decide)
      clear hO
      clear hK K
      try simp only [Act.put, List.setIfInBounds_toArray, List.set_cons_zero, List.set_cons_succ]
      refine Sim.sP (i := 13) (d := some 4) (h := ?_)
      refine Sim.done (by kernel_rfl) (fun w1 hO hX => ?_) _
      (try simp only [World.size_alloc1, World.size_drew, Nat.reduceAdd] at hO); (try simp only [upd, updI, List.map_cons, List.map_nil, eq_self, if_true, if_false, reduceIte, Nat.add_eq_left, Nat.left_eq_add, Nat.reduceEqDiff, List.set_cons_zero, List.set_cons_succ] at hO)
      have hF := hO; (try simp only [Own, Item.Holds, apartI, CellsAt, Nat.reduceAdd, Nat.zero_add, List.mem_cons, List.not_mem_nil, or_false, forall_eq_or_imp, forall_eq, ne_eq, false_imp_iff, implies_true, and_true] at hF)
      go_wp2_with fail
      go_roundw
      case rel => exact ⟨m + 1, ch ++ [c], by omega, by omega, by go_num, HN.out, by rw [List.length_append, HVS.out]; exact hO⟩
      case measure => simp [intOf]; omega

set_option maxHeartbeats 2000000 in
theorem soI_nil (va : Value) (x : Pt) (w : World) (hs : SlAt w va 0 3 (pcC [])) (hT : TabH w) (hV : TabV w) :
    Calls Tryd.prog 81 #[va] w (StkOut (pkL x []) w) := by
  have hO := Own.start w
  have hF := True.intro
  obtain ⟨A, c, rfl, _⟩ := hs.open
  have HV1 := hid (show ∀ W, Below w.heap.size w W → Calls Tryd.prog 103 #[.int .i64 1, .slice A 0 c] W (RowOut 29 3 0 (pcC []) W) from fun W hW => vcI_is (v := 1) (ts := []) (r := 0) (A := []) (by omega) (by omega) rfl (by omega) (fun t h => by cases h) rfl rfl hs hT hV W hW)
  clear hs hT hV
  go_enter Tryd.func81, Tryd.ntmps81
  go_wp2_with ((go_at_call 103; apply own_at hO; (repeat (first | (with_reducible exact hO) | (with_reducible apply Own.alloc) | (with_reducible apply Own.drew) | ((with_reducible apply Own.set_at); (focus (show _ ≤ _; omega))))); have hG := hF; clear hF; clear hO; intro hO; refine own_call_row hO (fun hB => HV1.out _ hB) ?_; clear hO; intro v w1 hO; (try simp only [World.size_alloc1, World.size_drew, Nat.reduceAdd] at hO); (try simp only [upd, updI, List.map_cons, List.map_nil, eq_self, if_true, if_false, reduceIte, Nat.add_eq_left, Nat.left_eq_add, Nat.reduceEqDiff, List.set_cons_zero, List.set_cons_succ, hG] at hO); clear hG; have hF := hO; (try simp only [Own, Item.Holds, apartI, CellsAt, Nat.reduceAdd, Nat.zero_add, List.mem_cons, List.not_mem_nil, or_false, forall_eq_or_imp, forall_eq, ne_eq, false_imp_iff, implies_true, and_true] at hF)); obtain ⟨A1, c1, hv1⟩ := (SlAt.of_row hO.1.1).form; subst hv1)
  go_loopw [3, 14] (fun u t wr => u = .slice none 0 0 ∧ t = .int .i64 0 ∧ Own w.heap.size (Below w.heap.size w) wr []) (fun _ _ _ => 0)
  case atStart => exact ⟨rfl, rfl, Own.drop hO⟩
  case round =>
    clear hO hF
    obtain ⟨rfl, rfl, hO⟩ := hrel
    go_wp2_with fail
    go_ret
    exact StkOut.mk (es := []) rfl rfl (L := []) (Own.nilRow 23 1 hO)
theorem soI_ft {f : Int} {x : Pt} {g : Int} {T : List Pt} {r : Nat} {S : List (List Pt)} {w : World} (hTT : ftL f x g = T) (hr : T.length = r) (hS : ppL f x g = S) (hT : TabH w) (hV : TabV w) (va : Value) (W : World) (hW : Below w.heap.size w W) (hs : SlAt W va r 3 (pcC T)) :
    Calls Tryd.prog 81 #[va] W (StkOut S W) := by
  subst hTT hr hS
  unfold ppL
  by_cases h : ftL f x g = []
  · rw [h] at hs ⊢
    exact soI_nil va x W hs (hT.below hW) (hV.below hW)
  · exact soI_in va x _ W hs (ft_n h).1 (ft_len _ _ _) ft_all (hT.below hW) (hV.below hW)
/-- The first lists are laid, the others nil. -/
def mixA (As : List (Value × List (Value × List Pt))) (n : Nat) : List Value := As.map (·.1) ++ List.replicate (n - As.length) (.slice none 0 0)
theorem mixA_put {As : List (Value × List (Value × List Pt))} {n k : Nat} (p : Value × List (Value × List Pt)) (he : As.length = k) (hk : k < n) : (mixA As n).set k p.1 = mixA (As ++ [p]) n := by
  unfold mixA
  rw [show n - As.length = (n - (k + 1)) + 1 by omega, List.replicate_succ, List.set_append, if_neg (by simp [he]), List.length_map, he, Nat.sub_self, List.set_cons_zero]
  rw [show n - (As ++ [p]).length = n - (k + 1) by rw [List.length_append, he]; rfl]
  simp
theorem mixA_full {As : List (Value × List (Value × List Pt))} {n : Nat} (h : As.length = n) : mixA As n = As.map (·.1) := by simp [mixA, h]
theorem own_sv {n : Nat} {B : World → Prop} {w : World} {t b s : Item} {U T : List Item} (h : Own n B w (U ++ (t :: b :: s :: T))) : Own n B w (s :: (U ++ T)) := by
  have h2 : Own n B w (s :: t :: b :: (U ++ T)) := h.perm (perm_cnt fun a => by
    simp only [List.count_append, List.count_cons]
    omega)
  exact Own.sub (.cons_cons _ (.cons _ (.cons _ (.refl _)))) h2
theorem own_put {n : Nat} {B : World → Prop} {w : World} {s : Item} {As : List (Value × List (Value × List Pt))} {v : Value} {es : List (Value × List Pt)} {R : List Item} (h : Own n B w (s :: ((.row 23 1 v es.length (vsO es) :: rwP es) ++ (itA As ++ R)))) : Own n B w (s :: (itA (As ++ [(v, es)]) ++ R)) := by
  refine h.perm ?_
  rw [itA_snoc]
  refine perm_cnt fun a => ?_
  simp only [List.count_append, List.count_cons]
  omega
theorem pp_len (f : Int) (x : Pt) (g : Int) : (ppL f x g).length ≤ 512000 := by
  unfold ppL
  rw [pk_is]
  have h1 := flat_len (pk1_len (x := x) (T := ftL f x g) (ft_len _ _ _)) (vtL 1 (ftL f x g))
  have h2 := vtL_len (v := 1) (ft_len f x g)
  omega
theorem pp_four {f : Int} {x : Pt} {g : Int} {l : List Pt} (h : l ∈ ppL f x g) : l.length = 4 := by
  unfold ppL pkL at h
  obtain ⟨_, _, h⟩ := List.mem_flatMap.1 h
  obtain ⟨_, _, h⟩ := List.mem_flatMap.1 h
  obtain ⟨_, _, h⟩ := List.mem_flatMap.1 h
  split at h
  · obtain rfl := List.mem_singleton.1 h; rfl
  · cases h

set_option maxRecDepth 20000 in
set_option maxHeartbeats 8000000 in
theorem rzI_in (f : Int) (vb vg : Value) (bs : List Pt) (gs : List Int) (w : World) (c1 : 1 ≤ bs.length) (c8 : bs.length ≤ 8) (hgl : gs.length = bs.length) (hb : SlAt w vb bs.length 3 (pcC bs)) (hg : SlAt w vg gs.length 1 (intC gs)) (hT : TabH w) (hV : TabV w) (hA : TabA w) :
    Calls Tryd.prog 41 #[.int .i64 f, vb, vg] w (StkOutB (rzL f bs gs) (rzB f bs gs) w) := by
  have hO := Own.start w
  have hF := True.intro
  have HZ := hid (rz_prog (f := f) c1 c8 hgl)
  obtain ⟨ia, ha0, ha1, ha2, ha3⟩ := info_parts infoPP
  obtain ⟨Ab, cb, rfl, nb, hAb⟩ := hb.open
  obtain ⟨Ag, cg, rfl, ng, hAg⟩ := hg.open
  obtain ⟨n, hn⟩ : ∃ n, bs.length = n := ⟨_, rfl⟩
  rw [hn] at c1 c8 hgl hAb nb hb
  rw [hgl] at hAg ng hg
  obtain ⟨bb, ob, rfl, _⟩ := hAb (by omega)
  obtain ⟨bg, og, rfl, _⟩ := hAg (by omega)
  have HB := hid hb
  have HG := hid hg
  have HN := hid (And.intro hn hgl)
  have HT := hid (And.intro hT (And.intro hV hA))
  obtain ⟨SS, hSS⟩ : ∃ S, ppS f bs gs = S := ⟨_, rfl⟩
  rw [hSS] at HZ
  have HSL := hid (show SS.length = n by rw [← hSS]; unfold ppS; rw [List.length_zipWith, hn, hgl, Nat.min_self])
  have HSK := hid (show ∀ (k : Nat) (x : Pt) (g : Int), bs[k]? = some x → gs[k]? = some g → SS[k]? = some (ppL f x g) from fun k x g hx hg => by rw [← hSS]; unfold ppS; rw [List.getElem?_zipWith, hx, hg])
  have HS4 := hid (show ∀ (k : Nat) (S : List (List Pt)), SS[k]? = some S → S.length ≤ 1528823808 ∧ ∀ l ∈ S, l.length = 4 from fun k S h => by
    rw [← hSS] at h
    unfold ppS at h
    rw [List.getElem?_zipWith] at h
    split at h
    · simp at h
      subst h
      exact ⟨by have := pp_len f (by assumption) (by assumption); first | omega | exact Nat.le_trans (pp_len _ _ _) (by omega), fun l hl => pp_four hl⟩
    · cases h)
  rw [hn, hgl]
  have n1 : ((n : Int) == 0) = false := by simp; omega
  have n2 : ¬ 8 < (n : Int) := by omega
  have n3 : (n : Int) ≤ 8 := by omega
  have n4 : ((n : Int) == (n : Int)) = true := by simp
  have n5 : (0 : Int) ≤ (n : Int) := by omega
  clear hAb hAg hb hg hn hgl hSS hT hV hA
  go_enter Tryd.func41, Tryd.ntmps41
  go_wp2_with (at_make; go_loud (refine wpList_make_item rfl _ _ 104 rfl 49 ia (.slice none 0 0) 1 24 Tryd.underlying104 ha0 ha1 ha2 ha3 _ _ _ _ n rfl rfl rfl rfl (by omega) (by unfold maxLen; omega) (by (repeat (first | (with_reducible exact hO) | (with_reducible apply Own.alloc) | (with_reducible apply Own.drew) | ((with_reducible apply Own.set_at); (focus (show _ ≤ _; omega)))))) ?_); clear hO hF; intro qs w4 hO; rw [madeSt] at hO; have hF := True.intro)
  go_loopw [31] (fun t wr => ∃ (k : Nat) (As : List (Value × List (Value × List Pt))), k ≤ n ∧ t = .int .i64 k ∧ Hid (As.length = k ∧ ∀ (i : Nat) (p : Value × List (Value × List Pt)), As[i]? = some p → SS[i]? = some (lsO p.2)) ∧ Own w.heap.size (Below w.heap.size w) wr (.row 49 1 (.slice (some ⟨qs, 0, none⟩) n n) n (mixA As n) :: (itA As ++ []))) (fun t _ => n - (intOf t).toNat)
  case atStart => exact ⟨0, [], by omega, rfl, ⟨rfl, fun i p h => by simp at h⟩, hO⟩
  case round =>
    clear hO hF
    obtain ⟨k, As, hk, rfl, hAs, hO⟩ := hrel
    have hF := True.intro
    by_cases he : k = n
    · subst he
      rw [mixA_full hAs.out.1] at hO
      have hsz := (hO.lt _ List.mem_cons_self qs rfl).2
      have HPR := hid (fun W hW => prI_own qs k k SS As [] c1 c8 hAs.out.1 HSL.out hAs.out.2 HS4.out (fun W (h : Below w.heap.size w W) => HT.out.1.below h) (n := w.heap.size) (w := W) hW)
      clear hAs
      go_wp2_with ((go_at_call 83; apply own_at hO; (repeat (first | (with_reducible exact hO) | (with_reducible apply Own.alloc) | (with_reducible apply Own.drew) | ((with_reducible apply Own.set_at); (focus (show _ ≤ _; omega))))); have hG := hF; clear hF; clear hO; intro hO; (try simp only [World.size_alloc1, World.size_drew, Nat.reduceAdd] at hO); (try simp only [upd, updI, List.map_cons, List.map_nil, eq_self, if_true, if_false, reduceIte, Nat.add_eq_left, Nat.left_eq_add, Nat.reduceEqDiff, List.set_cons_zero, List.set_cons_succ, hG] at hO); clear hG; skip; refine own_callE hO (fun hW => HPR.out _ hW) ?_; clear hO; rintro v L' w1 ⟨As', rfl, hPR⟩ hO; (try simp only [World.size_alloc1, World.size_drew, Nat.reduceAdd] at hO); (try simp only [upd, updI, List.map_cons, List.map_nil, eq_self, if_true, if_false, reduceIte, Nat.add_eq_left, Nat.left_eq_add, Nat.reduceEqDiff, List.set_cons_zero, List.set_cons_succ] at hO); have hF := hO; (try simp only [Own, Item.Holds, apartI, CellsAt, Nat.reduceAdd, Nat.zero_add, List.mem_cons, List.not_mem_nil, or_false, forall_eq_or_imp, forall_eq, ne_eq, false_imp_iff, implies_true, and_true] at hF)); clear HPR)
      obtain ⟨hl', hP'⟩ := hPR
      have hsz := (hO.lt _ List.mem_cons_self qs rfl).2
      have HFA := hid (show ∀ (i : Nat) (p : Value × List (Value × List Pt)), As'[i]? = some p → w1.cell? ⟨qs, i, none⟩ = some p.1 ∧ SlAt w1 p.1 p.2.length 1 (vsO p.2) ∧ (∀ c ∈ p.2, c.2.length = 4 ∧ SlAt w1 c.1 4 3 (pcC c.2)) ∧ p.2.length ≤ 1528823808 from fun i p hp => by
        obtain ⟨T, g1, _, g2⟩ := hP' i p hp
        have g3 := g2 (by omega)
        obtain ⟨g4, g5⟩ := HS4.out i T g1
        have g6 := List.length_filter_le (gdB (SS.drop (i + 1))) T
        rw [← g3, List.length_map] at g6
        have h4 : ∀ c ∈ p.2, c.2.length = 4 := fun c hc => g5 _ (by
          have : c.2 ∈ lsO p.2 := List.mem_map_of_mem hc
          rw [g3] at this
          exact (List.mem_filter.1 this).1)
        refine ⟨hO.mem_cell List.mem_cons_self (by rw [List.getElem?_map, hp]; rfl), SlAt.of_row (hO.holds _ (List.mem_cons_of_mem _ (List.mem_append_left _ (itA_row hp)))), fun c hc => ⟨h4 c hc, ?_⟩, by omega⟩
        have := SlAt.of_row (hO.holds _ (List.mem_cons_of_mem _ (List.mem_append_left _ (itA_mem hp hc))))
        rwa [h4 c hc] at this)
      have hS0 : ∃ T r, SS = T :: r := by
        cases hs : SS with
        | nil => have := HSL.out; rw [hs] at this; simp at this; omega
        | cons T r => exact ⟨T, r, rfl⟩
      obtain ⟨T0, r0, hS0⟩ := hS0
      cases hro : rzF none SS with
      | none =>
        have HE := hid (show rzL f bs gs = [] ∧ rzB f bs gs = false by unfold rzL rzB; rw [HZ.out, hro]; exact ⟨rfl, rfl⟩)
        obtain ⟨⟨v0, es0⟩, hp0⟩ : ∃ p, As'[0]? = some p := ⟨_, List.getElem?_eq_getElem (by omega)⟩
        have he0 : es0.length = 0 := by
          obtain ⟨T, g1, _, g2⟩ := hP' 0 _ hp0
          have g3 := g2 (by omega)
          rw [hS0] at g1 g3 hro
          simp at g1
          subst g1
          have g4 : lsO es0 = [] := by
            rw [g3]
            refine List.filter_eq_nil_iff.2 fun s hs => ?_
            have := rz_none hro hs
            simp [this]
          have := congrArg List.length g4
          simpa using this
        obtain ⟨g1, g2, _, _⟩ := HFA.out 0 _ hp0
        dsimp only at g1 g2
        rw [he0] at g2
        obtain ⟨A0, c0, hv0⟩ := g2.form
        subst hv0
        have HFW := hid (fwI_no qs k k c0 A0 w1 c1 g1)
        clear hp0 he0 g1 g2 hro hS0 hP' hl'
        go_wp2_with (go_at_call 84; apply own_at hO; (repeat (first | (with_reducible exact hO) | (with_reducible apply Own.alloc) | (with_reducible apply Own.drew) | ((with_reducible apply Own.set_at); (focus (show _ ≤ _; omega))))); have hG := hF; clear hF; clear hO; intro hO; refine own_call hO (fun hB => HFW.out) ?_; clear hO; intro wz hO; (try simp only [World.size_alloc1, World.size_drew, Nat.reduceAdd] at hO); (try simp only [upd, updI, List.map_cons, List.map_nil, eq_self, if_true, if_false, reduceIte, Nat.add_eq_left, Nat.left_eq_add, Nat.reduceEqDiff, List.set_cons_zero, List.set_cons_succ, hG] at hO); clear hG; have hF := hO; (try simp only [Own, Item.Holds, apartI, CellsAt, Nat.reduceAdd, Nat.zero_add, List.mem_cons, List.not_mem_nil, or_false, forall_eq_or_imp, forall_eq, ne_eq, false_imp_iff, implies_true, and_true] at hF))
        go_ret2
        rw [HE.out.1, HE.out.2]
        exact ⟨_, [], rfl, rfl, Own.sub (.cons_cons _ (List.nil_sublist _)) (Own.nilRow 23 1 hO)⟩
      | some out =>
        have HE := hid (show rzL f bs gs = out ∧ rzB f bs gs = true by unfold rzL rzB; rw [HZ.out, hro]; exact ⟨rfl, rfl⟩)
        have hol : out.length = k := by rw [(rz_at hro).1, HSL.out]
        have HFW := hid (fwI_yes qs k k As' out w1 c1 c8 hl' hsz HFA.out hol (fun j s hj => by
          obtain ⟨T, h1, h2⟩ := (rz_at hro).2 j s hj
          obtain ⟨p, hp⟩ : ∃ p, As'[j]? = some p := ⟨_, List.getElem?_eq_getElem (by have := (List.getElem?_eq_some_iff.1 hj).1; omega)⟩
          obtain ⟨T', g1, _, g2⟩ := hP' j p hp
          rw [h1] at g1
          cases g1
          exact ⟨p, hp, by rw [g2 (by omega)]; exact h2⟩) (HT.out.1.below hO.base))
        have HOL := hid hol
        clear hro hS0 hP' hl' hol
        go_wp2_with (go_at_call 84; refine HFW.out.mono ?_; rintro e w7 ⟨v7, ch, rfl, hch, hr7, hB7⟩)
        go_ret2
        rw [HE.out.1, HE.out.2]
        refine ⟨_, ch, rfl, hch.full HOL.out, ?_⟩
        have h7 := hO.addRow hB7 hr7
        have h8 := Own.sub (.cons_cons _ (.cons _ ((way_sub hch.2.1).trans (List.sublist_append_left _ _)))) h7
        rw [hch.1]
        exact h8
    · have hkl : k < n := by omega
      have hkl2 : (k : Int) < n := by omega
      have hk0 : (0 : Int) ≤ (k : Int) := by omega
      obtain ⟨x, hx⟩ : ∃ x, bs[k]? = some x := ⟨_, List.getElem?_eq_getElem (by have := HN.out.1; omega)⟩
      obtain ⟨g, hg⟩ : ∃ g, gs[k]? = some g := ⟨_, List.getElem?_eq_getElem (by have := HN.out.2; omega)⟩
      have HX := hid (And.intro hx hg)
      obtain ⟨S, hS⟩ : ∃ S, ppL f x g = S := ⟨_, rfl⟩
      have HSX := hid ((HSK.out k x g hx hg).trans (by rw [hS]))
      obtain ⟨T, hTT⟩ : ∃ T, ftL f x g = T := ⟨_, rfl⟩
      obtain ⟨r, hr⟩ : ∃ r, T.length = r := ⟨_, rfl⟩
      have HFT := hid (fun W (hW : Below w.heap.size w W) => show Calls Tryd.prog 82 #[.int .i64 f, .agg #[.int .i64 x.s, .int .i64 x.a, .int .i64 x.o], .int .i64 g] W (RowOut 29 3 r (pcC T) W) by
        have := ftI_any f x g W (HT.out.2.2.below hW)
        rwa [hTT, hr] at this)
      have HSO := hid (fun va W (hW : Below w.heap.size w W) (hs : SlAt W va r 3 (pcC T)) => soI_ft hTT hr hS HT.out.1 HT.out.2.1 va W hW hs)
      have HL := hid (show (mixA As n).length = n by unfold mixA; rw [List.length_append, List.length_map, List.length_replicate, hAs.out.1]; omega)
      obtain ⟨old, hold⟩ : ∃ u, (mixA As n)[k]? = some u := ⟨_, List.getElem?_eq_getElem (by rw [HL.out]; omega)⟩
      have HOLD := hid hold
      have ⟨d0, d1, d2⟩ := ptAt (HB.out.below hO.base) hx
      clear he hx hg hS hTT hr hold
      go_wp2_with fail
      clear d0 d1 d2
      apply own_code hO
      (repeat (first | (with_reducible exact hO) | (with_reducible apply Own.alloc) | (with_reducible apply Own.drew) | ((with_reducible apply Own.set_at); (focus (show _ ≤ _; omega)))))
      have hG := hF; clear hF; clear hO; intro hO
      (try simp only [World.size_alloc1, World.size_drew, Nat.reduceAdd] at hO); (try simp only [upd, updI, List.map_cons, List.map_nil, eq_self, if_true, if_false, reduceIte, Nat.add_eq_left, Nat.left_eq_add, Nat.reduceEqDiff, List.set_cons_zero, List.set_cons_succ, hG] at hO); clear hG
      refine region_own (X := fun _ => True) [11] (by kernel_rfl) (hO) (trivial) (by first | exact XStab.true | exact XStab.rd | exact XStab.rdIf) ?_
      clear hO
      refine Sim.sP (i := 0) (d := some 36) (h := ?_)
      refine Sim.sP (i := 1) (d := some 37) (h := ?_)
      refine Sim.sP (i := 2) (d := some 38) (h := ?_)
      refine Sim.sO (i := 3) (d := some 39) (v := ?_) (hy := ?_) (h := ?_)
      rotate_left
      · first | refine Or.inl ⟨by rfl, fun w hO => ?_⟩ | (refine Or.inr ⟨by rfl, ?_⟩; with_reducible rfl)
        first | done | (have hF := hO; (try simp only [Own, Item.Holds, apartI, CellsAt, Nat.reduceAdd, Nat.zero_add, List.mem_cons, List.not_mem_nil, or_false, forall_eq_or_imp, forall_eq, ne_eq, false_imp_iff, implies_true, and_true] at hF); ((have g0 := inAt (HG.out.below hO.base) HX.out.2)); refine Out.same ?_; go_simp; all_goals with_reducible rfl)
      refine Sim.sP (i := 4) (d := some 40) (h := ?_)
      refine Sim.sP (i := 5) (d := some 41) (h := ?_)
      refine Sim.sP (i := 6) (d := some 42) (h := ?_)
      refine Sim.sO (i := 7) (d := some 43) (v := ?_) (hy := ?_) (h := ?_)
      rotate_left
      · first | refine Or.inl ⟨by rfl, fun w hO => ?_⟩ | (refine Or.inr ⟨by rfl, ?_⟩; with_reducible rfl)
        first | done | (have hF := hO; (try simp only [Own, Item.Holds, apartI, CellsAt, Nat.reduceAdd, Nat.zero_add, List.mem_cons, List.not_mem_nil, or_false, forall_eq_or_imp, forall_eq, ne_eq, false_imp_iff, implies_true, and_true] at hF); ((have g0 := inAt (HG.out.below hO.base) HX.out.2)); refine Out.same ?_; go_simp; all_goals with_reducible rfl)
      refine Sim.one' (i := 8) (oi := { dst := some 44, op := Op.call { callee := Callee.value (Operand.func 82), args := #[Operand.tmp 38, Operand.tmp 39, Operand.tmp 43], argTypes := #[3, 29, 3] }, type := 23, pos := "l13_figured_bass.go:33", after := #[{ on := 2, ground := Ground.data }, { on := 3, ground := Ground.data }, { on := 7, ground := Ground.data }], guard := none }) (by kernel_rfl) rfl (by rfl) (fun w0 hO hX K hK => ?_)
      have hF := hO; (try simp only [Own, Item.Holds, apartI, CellsAt, Nat.reduceAdd, Nat.zero_add, List.mem_cons, List.not_mem_nil, or_false, forall_eq_or_imp, forall_eq, ne_eq, false_imp_iff, implies_true, and_true] at hF)
      go_simp
      refine (HFT.out _ hO.base).mono ?_
      rintro e wa ⟨ra, rfl, hra, hBa⟩
      apply hK _ _ _ (fun _ => True)
      · exact hO.addRow hBa hra
      · exact trivial
      · exact XStab.true
      · exact fun _ _ h => h.2
      clear hra hBa
      clear hK K hF hO
      try simp only [Act.put, List.setIfInBounds_toArray, List.set_cons_zero, List.set_cons_succ]
      refine Sim.one' (i := 9) (oi := { dst := some 45, op := Op.call { callee := Callee.value (Operand.func 81), args := #[Operand.tmp 44], argTypes := #[23] }, type := 49, pos := "l13_figured_bass.go:33", after := #[{ on := 8, ground := Ground.data }, { on := 8, ground := Ground.chain }], guard := none }) (by kernel_rfl) rfl (by rfl) (fun w0 hO hX K hK => ?_)
      have hF := hO; (try simp only [Own, Item.Holds, apartI, CellsAt, Nat.reduceAdd, Nat.zero_add, List.mem_cons, List.not_mem_nil, or_false, forall_eq_or_imp, forall_eq, ne_eq, false_imp_iff, implies_true, and_true] at hF)
      go_simp
      refine (HSO.out _ _ hO.base (SlAt.of_row hO.1.1)).mono ?_
      rintro e wa ⟨va, es, rfl, hE, ho⟩
      obtain ⟨A7, c7, hv7⟩ := (SlAt.of_row ho.1.1).form
      subst hv7
      apply hK _ _ _ (fun _ => True)
      · exact hO.joinP ho
      · exact trivial
      · exact XStab.true
      · exact fun _ _ h => own_skipL h
      clear ho
      clear hK K hF hO
      try simp only [Act.put, List.setIfInBounds_toArray, List.set_cons_zero, List.set_cons_succ]
      refine Sim.sP (i := 10) (d := some 46) (h := ?_)
      refine Sim.one' (i := 11) (oi := { dst := none, op := Op.store 49 (Operand.tmp 46) (Operand.tmp 45), type := 0, pos := "l13_figured_bass.go:33", after := #[{ on := 10, ground := Ground.data }, { on := 9, ground := Ground.data }, { on := 9, ground := Ground.chain }, { on := 0, ground := Ground.phase }, { on := 1, ground := Ground.phase }, { on := 2, ground := Ground.phase }, { on := 3, ground := Ground.phase }, { on := 4, ground := Ground.phase }, { on := 5, ground := Ground.phase }, { on := 6, ground := Ground.phase }, { on := 7, ground := Ground.phase }, { on := 8, ground := Ground.phase }, { on := 9, ground := Ground.phase }], guard := none }) (by kernel_rfl) rfl (by rfl) (fun w0 hO hX K hK => ?_)
      (have hF := hO; (try simp only [Own, Item.Holds, apartI, CellsAt, Nat.reduceAdd, Nat.zero_add, List.mem_cons, List.not_mem_nil, or_false, forall_eq_or_imp, forall_eq, ne_eq, false_imp_iff, implies_true, and_true] at hF); have f3 := hO.mem_cell (i := k) (List.mem_append_right _ (List.mem_cons_of_mem _ (List.mem_cons_of_mem _ List.mem_cons_self))) HOLD.out; have f4 := hO.mem_free (List.mem_append_right _ (List.mem_cons_of_mem _ (List.mem_cons_of_mem _ List.mem_cons_self))) k)
      go_simp
      apply hK _ _ _ (fun _ => True)
      · exact (own_sv hO).row_set k _
      · exact trivial
      · exact XStab.true
      · exact fun h => absurd h (by decide)
      clear hO hF
      clear hK K
      try simp only [Act.put, List.setIfInBounds_toArray, List.set_cons_zero, List.set_cons_succ]
      refine Sim.done (by kernel_rfl) (fun w1 hO hX => ?_) _
      (try simp only [World.size_alloc1, World.size_drew, Nat.reduceAdd] at hO); (try simp only [upd, updI, List.map_cons, List.map_nil, eq_self, if_true, if_false, reduceIte, Nat.add_eq_left, Nat.left_eq_add, Nat.reduceEqDiff, List.set_cons_zero, List.set_cons_succ] at hO)
      have hF := hO; (try simp only [Own, Item.Holds, apartI, CellsAt, Nat.reduceAdd, Nat.zero_add, List.mem_cons, List.not_mem_nil, or_false, forall_eq_or_imp, forall_eq, ne_eq, false_imp_iff, implies_true, and_true] at hF)
      have HNX := hid (show (As ++ [(Value.slice A7 es.length c7, es)]).length = k + 1 ∧ ∀ (i : Nat) (p : Value × List (Value × List Pt)), (As ++ [(Value.slice A7 es.length c7, es)])[i]? = some p → SS[i]? = some (lsO p.2) from by
        refine ⟨by rw [List.length_append, hAs.out.1]; rfl, fun i p hp => ?_⟩
        rcases Nat.lt_or_ge i k with hi | hi
        · rw [List.getElem?_append_left (by have := hAs.out.1; omega)] at hp; exact hAs.out.2 i p hp
        · have : i = k := by have := (List.getElem?_eq_some_iff.1 hp).1; rw [List.length_append, hAs.out.1] at this; simp at this; omega
          subst this
          rw [List.getElem?_append_right (by have := hAs.out.1; omega), hAs.out.1, Nat.sub_self] at hp
          simp at hp
          subst hp
          rw [HSX.out, ← hE])
      rw [mixA_put (.slice A7 es.length c7, es) hAs.out.1 hkl] at hO
      replace hO := own_put hO
      go_wp2_with fail
      go_roundw
      case rel => exact ⟨k + 1, _, by omega, by go_num, HNX.out, hO⟩
      case measure => simp [intOf]; omega

set_option maxHeartbeats 4000000 in
theorem rzI_out (f : Int) (vb vg : Value) (bs : List Pt) (gs : List Int) (w : World) (hb : SlAt w vb bs.length 3 (pcC bs)) (hg : SlAt w vg gs.length 1 (intC gs)) (hc : ¬ (1 ≤ bs.length ∧ bs.length ≤ 8 ∧ gs.length = bs.length)) :
    Calls Tryd.prog 41 #[.int .i64 f, vb, vg] w (StkOutB [] false w) := by
  have hO := Own.start w
  have hF := True.intro
  obtain ⟨Ab, cb, rfl, nb, _⟩ := hb.open
  obtain ⟨Ag, cg, rfl, ng, _⟩ := hg.open
  clear hb hg
  obtain ⟨n, hn⟩ : ∃ n, bs.length = n := ⟨_, rfl⟩
  obtain ⟨m, hm⟩ : ∃ n, gs.length = n := ⟨_, rfl⟩
  rw [hn, hm] at hc
  rw [hn] at nb ⊢
  rw [hm] at ng ⊢
  clear hn hm
  by_cases h0 : n = 0
  · subst h0
    clear hc
    go_enter Tryd.func41, Tryd.ntmps41
    go_wp2_with fail
    go_ret2
    exact stkB_nil (Own.nilRow 23 1 hO)
  · have n1 : ((n : Int) == 0) = false := by simp; omega
    have n0 : ¬ (n : Int) = 0 := by omega
    by_cases h8 : n ≤ 8
    · have n2 : ¬ 8 < (n : Int) := by omega
      have n3 : (n : Int) ≤ 8 := by omega
      have n4 : ((n : Int) == (m : Int)) = false := by simp; omega
      have n5 : ((n : Int) != (m : Int)) = true := by simp; omega
      have n6 : ¬ (n : Int) = (m : Int) := by omega
      clear hc h0
      go_enter Tryd.func41, Tryd.ntmps41
      go_wp2_with fail
      go_ret2
      exact stkB_nil (Own.nilRow 23 1 hO)
    · have n2 : 8 < (n : Int) := by omega
      clear hc h0
      go_enter Tryd.func41, Tryd.ntmps41
      go_wp2_with fail
      go_ret2
      exact stkB_nil (Own.nilRow 23 1 hO)
theorem rzI_any (f : Int) (vb vg : Value) (bs : List Pt) (gs : List Int) (w : World) (hb : SlAt w vb bs.length 3 (pcC bs)) (hg : SlAt w vg gs.length 1 (intC gs)) (hT : TabH w) (hV : TabV w) (hA : TabA w) :
    Calls Tryd.prog 41 #[.int .i64 f, vb, vg] w (StkOutB (rzL f bs gs) (rzB f bs gs) w) := by
  by_cases hc : 1 ≤ bs.length ∧ bs.length ≤ 8 ∧ gs.length = bs.length
  · exact rzI_in f vb vg bs gs w hc.1 hc.2.1 hc.2.2 hb hg hT hV hA
  · have := rzI_out f vb vg bs gs w hb hg hc
    unfold rzL rzB
    rw [rz_out (fun h => hc ⟨h.1, h.2.1, h.2.2.1⟩)]
    exact this
theorem rzI_C (w : World) (hT : TabH w) (hV : TabV w) (hA : TabA w) : CRz 41 w := fun f vb vg bs gs W hW _ hb hg _ _ _ _ => rzI_any f vb vg bs gs W hb hg (hT.below hW) (hV.below hW) (hA.below hW)
end Go.Proofs.YtfdglkiehkilnaaDoor
