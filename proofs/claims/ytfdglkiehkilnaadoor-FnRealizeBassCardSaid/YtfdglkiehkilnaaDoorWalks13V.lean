/- Chapter 13 in the program: what a voice can take; the chords over the tones of a figure. -/
import Derived.Test.YtfdglkiehkilnaaDoorWalks13H
import Derived.Test.YtfdglkiehkilnaaDoorRegionD
namespace Go.Proofs.YtfdglkiehkilnaaDoor
set_option linter.unusedSimpArgs false
set_option linter.unusedVariables false
set_option maxRecDepth 8000
open Go.RowKit Go.Joins

theorem vtO_len (a : Int) (t : Pt) : (vtO a t).length ≤ 1 := by unfold vtO; split <;> simp
theorem vtF_len (a : Int) : ∀ ts : List Pt, (ts.flatMap (vtO a)).length ≤ ts.length
  | [] => by simp
  | t :: ts => by
    rw [List.flatMap_cons, List.length_append, List.length_cons]
    have := vtF_len a ts
    have := vtO_len a t
    omega
theorem vtK_len (a : Int) (ts : List Pt) : ∀ n, (vtK a ts n).length ≤ n * ts.length
  | 0 => by simp [vtK]
  | n + 1 => by
    rw [vtK_up, List.length_append, Nat.add_mul]
    have := vtK_len a ts n
    have := vtF_len (a + (n : Int)) ts
    omega
theorem vtJ_up {a : Int} {ts : List Pt} {j : Nat} {t : Pt} (h : ts[j]? = some t) : (ts.take (j + 1)).flatMap (vtO a) = (ts.take j).flatMap (vtO a) ++ vtO a t := by
  rw [List.take_add_one, h, List.flatMap_append]; simp
theorem vt_lo {v : Nat} (h1 : 1 ≤ v) (h3 : v ≤ 3) : 36 ≤ loZ v ∧ loZ v ≤ 48 ∧ hiZ v = loZ v + 19 := by
  rcases (show v = 1 ∨ v = 2 ∨ v = 3 by omega) with rfl | rfl | rfl <;> decide
theorem tdiv12 {d c : Int} (h : d = 12 * c) : d.tdiv 12 = c := by rw [h]; exact Int.mul_tdiv_cancel_left _ (by decide)
theorem kyI_at {x : Pt} {z : Int} (hz : kyP x = z) (W : World) (ht : TabH W) :
    Calls Tryd.prog 22 #[.agg #[.int .i64 x.s, .int .i64 x.a, .int .i64 x.o]] W fun e w' => e = .returned (.int .i64 z) ∧ Below W.heap.size W w' := by
  subst hz; exact keyI_any _ _ _ W ht
theorem pcC_upP (L : List Pt) (s a o : Int) : pcC L ++ [.int .i64 s, .int .i64 a, .int .i64 o] = pcC (L ++ [⟨s, a, o⟩]) := by rw [pcC_append]; rfl

set_option maxRecDepth 20000 in
set_option maxHeartbeats 8000000 in
theorem vcI_any (v : Nat) (va : Value) (ts : List Pt) (w : World) (hv1 : 1 ≤ v) (hv3 : v ≤ 3) (hs : SlAt w va ts.length 3 (pcC ts)) (h4 : ts.length ≤ 4) (hp : ∀ t ∈ ts, pvP t = true) (hT : TabH w) (hV : TabV w) :
    Calls Tryd.prog 103 #[.int .i64 v, va] w (RowOut 29 3 (vtL v ts).length (pcC (vtL v ts)) w) := by
  have hO := Own.start w
  have hF := True.intro
  obtain ⟨i0, hi, hz0, hz1, hz2⟩ := info_parts infoPi
  obtain ⟨A, c, rfl, n9, hA⟩ := hs.open
  obtain ⟨r, hr⟩ : ∃ r, ts.length = r := ⟨_, rfl⟩
  obtain ⟨lo, hlo⟩ : ∃ z, loZ v = z := ⟨_, rfl⟩
  obtain ⟨hh, hhi⟩ : ∃ z, hiZ v = z := ⟨_, rfl⟩
  have hb := vt_lo hv1 hv3
  rw [hlo, hhi] at hb
  obtain ⟨l0, l1, l2⟩ := hb
  have L2 := hid l2
  clear l2
  have HTB := hid (show ∀ W, Below w.heap.size w W → W.cell? ⟨2, v * 2, none⟩ = some (.int .i64 lo) ∧ W.cell? ⟨2, v * 2 + 1, none⟩ = some (.int .i64 hh) from fun W hW => by
    rw [← hlo, ← hhi]; exact (hV.below hW).cell (by omega))
  have HTH := hid hT
  have HR := hid hr
  have HP := hid hp
  have HL := hid (fun k => vtK_len lo ts k)
  have HE := hid (show vtL v ts = vtK lo ts 20 by unfold vtL; rw [hlo])
  have v4 : (v : Int) < 4 := by omega
  have v0 : (0 : Int) ≤ (v : Int) := by omega
  rw [hr] at hs hA h4 n9 HL ⊢
  have HS := hid hs
  rw [HE.out]
  clear hlo hhi hr hV hT hp hs
  have ⟨g0, g1⟩ := HTB.out w (Below.refl _ _)
  go_enter Tryd.func103, Tryd.ntmps103
  go_wp2_with fail
  clear g0 g1
  go_loopw [5, 6] (fun u t wr => ∃ (k : Nat) (q : Int), k ≤ 20 ∧ Hid (lo + (k : Int) = q) ∧ t = .int .i64 q ∧ Own w.heap.size (Below w.heap.size w) wr [.row 29 3 u (vtK lo ts k).length (pcC (vtK lo ts k))]) (fun _ t _ => (lo + 20 - intOf t).toNat)
  case atStart => exact ⟨0, lo, by omega, by show lo + ((0 : Nat) : Int) = lo; omega, rfl, Own.nilRow 29 3 hO⟩
  case round =>
    clear hO hF
    obtain ⟨k, q, hk, hq, rfl, hO⟩ := hrel
    have ⟨g0, g1⟩ := HTB.out _ hO.base
    have hqo := hq.out
    have hF := hO; (try simp only [Own, Item.Holds, apartI, CellsAt, Nat.reduceAdd, Nat.zero_add, List.mem_cons, List.not_mem_nil, or_false, forall_eq_or_imp, forall_eq, ne_eq, false_imp_iff, implies_true, and_true] at hF)
    by_cases he : k = 20
    · subst he
      have hc : ¬ q ≤ hh := by have := L2.out; omega
      clear hqo
      go_wp2_with fail
      go_ret
      exact RowOut.mk hO
    · have hc : q ≤ hh := by have := L2.out; omega
      have hcb : decide (q ≤ hh) = true := decide_eq_true hc
      have q0 : 36 ≤ q := by omega
      have q1 : q ≤ 67 := by omega
      have hk2 : k < 20 := by omega
      clear hqo
      go_wp2_with fail
      clear g0 g1
      go_loopw [5, 23] (fun u t ws => ∃ (j : Nat), j ≤ r ∧ t = .int .i64 j ∧ Own w.heap.size (Below w.heap.size w) ws [.row 29 3 u (vtK lo ts k ++ (ts.take j).flatMap (vtO q)).length (pcC (vtK lo ts k ++ (ts.take j).flatMap (vtO q)))]) (fun _ t _ => r - (intOf t).toNat)
      case atStart => exact ⟨0, by omega, rfl, by simpa using hO⟩
      case round =>
        clear hO hF
        obtain ⟨j, hj, rfl, hO⟩ := hrel
        have hF := hO; (try simp only [Own, Item.Holds, apartI, CellsAt, Nat.reduceAdd, Nat.zero_add, List.mem_cons, List.not_mem_nil, or_false, forall_eq_or_imp, forall_eq, ne_eq, false_imp_iff, implies_true, and_true] at hF)
        by_cases hje : j = r
        · subst hje
          have HU := hid (show vtK lo ts k ++ (ts.take j).flatMap (vtO q) = vtK lo ts (k + 1) by
            rw [vtK_up, hq.out, List.take_of_length_le (by rw [HR.out]; omega)])
          rw [HU.out] at hO
          have wq : IntKind.i64.wrap (q + 1) = q + 1 := IntWalk.i64_in _ (by omega)
          go_wp2_with fail
          go_roundw
          case rel => exact ⟨k + 1, q + 1, by omega, by show lo + ((k + 1 : Nat) : Int) = q + 1; have := hq.out; omega, by go_num, hO⟩
          case measure => have := hq.out; simp [intOf]; omega
        · have hjl : j < r := by omega
          have hjl2 : (j : Int) < r := by omega
          have hj0 : (0 : Int) ≤ (j : Int) := by omega
          obtain ⟨b, off, rfl, _⟩ := hA (by omega)
          obtain ⟨y, hy⟩ : ∃ y, ts[j]? = some y := ⟨_, List.getElem?_eq_getElem (by have := HR.out; omega)⟩
          obtain ⟨d0, d1, d2⟩ := ptAt (HS.out.below hO.base) hy
          have hpy := HP.out y (List.mem_of_getElem? hy)
          have hoy := (pvP_iff.1 hpy).2.2
          obtain ⟨z, hz⟩ : ∃ z, kyP y = z := ⟨_, rfl⟩
          have hzb := key_bd12 (show pvB y.s y.a y.o = true from hpy)
          rw [show keyZ y.s y.a y.o = z from hz] at hzb
          obtain ⟨z0, z1⟩ := hzb
          obtain ⟨d, hd⟩ : ∃ d, (q - z + 120) % 12 = d := ⟨_, rfl⟩
          have HK := hid (fun W (hW : Below w.heap.size w W) => kyI_at hz W (HTH.out.below hW))
          have HHU := hid (fun W => huI_is (p := z) (q := q) (by omega) (by omega) (by omega) (by omega) hd W)
          have HLN := hid (show (vtK lo ts k ++ (ts.take j).flatMap (vtO q)).length ≤ 100 by
            rw [List.length_append]
            have h1 := HL.out k
            have h2 := vtF_len q (ts.take j)
            rw [List.length_take] at h2
            have : k * r ≤ 20 * 4 := Nat.mul_le_mul hk h4
            omega)
          obtain ⟨y1, y2, y3⟩ := y
          dsimp only at d0 d1 d2 hoy HK
          by_cases hd0 : d = 0
          · subst hd0
            obtain ⟨e, hem⟩ : ∃ e, q - z = 12 * e := ⟨(q - z) / 12, by omega⟩
            have HU := hid (show vtK lo ts k ++ (ts.take (j + 1)).flatMap (vtO q) = (vtK lo ts k ++ (ts.take j).flatMap (vtO q)) ++ [⟨y1, y2, y3 + e⟩] by
              rw [vtJ_up hy, List.append_assoc]
              unfold vtO
              rw [hz, if_pos (show (q - z) % 12 = 0 by omega), show (q - z) / 12 = e by omega])
            have wd : IntKind.i64.wrap (q - z) = q - z := IntWalk.i64_in _ (by omega)
            have td : (q - z).tdiv 12 = e := tdiv12 hem
            have we : IntKind.i64.wrap e = e := IntWalk.i64_in _ (by omega)
            have wo : IntKind.i64.wrap (y3 + e) = y3 + e := IntWalk.i64_in _ (by omega)
            obtain ⟨N, hN⟩ : ∃ N, vtK lo ts k ++ (ts.take j).flatMap (vtO q) = N := ⟨_, rfl⟩
            rw [hN] at hO HU HLN
            obtain ⟨m, hm⟩ : ∃ m, N.length = m := ⟨_, rfl⟩
            have HM := hid hm
            have hm9 : m ≤ 100 := by rw [← hm]; exact HLN.out
            rw [hm] at hO
            clear hje hz hd hem hy hN hm hpy
            go_wp2_with (first | (go_at_call 22; apply own_at hO; (repeat (first | (with_reducible exact hO) | (with_reducible apply Own.alloc) | (with_reducible apply Own.drew) | ((with_reducible apply Own.set_at); (focus (show _ ≤ _; omega))))); have hG := hF; clear hF; clear hO; intro hO; refine own_call hO (fun hB => HK.out _ hB) ?_; clear hO; intro w1 hO; (try simp only [World.size_alloc1, World.size_drew, Nat.reduceAdd] at hO); (try simp only [upd, updI, List.map_cons, List.map_nil, eq_self, if_true, if_false, reduceIte, Nat.add_eq_left, Nat.left_eq_add, Nat.reduceEqDiff, List.set_cons_zero, List.set_cons_succ, hG] at hO); clear hG; have hF := hO; (try simp only [Own, Item.Holds, apartI, CellsAt, Nat.reduceAdd, Nat.zero_add, List.mem_cons, List.not_mem_nil, or_false, forall_eq_or_imp, forall_eq, ne_eq, false_imp_iff, implies_true, and_true] at hF)) | (go_at_call 101; apply own_at hO; (repeat (first | (with_reducible exact hO) | (with_reducible apply Own.alloc) | (with_reducible apply Own.drew) | ((with_reducible apply Own.set_at); (focus (show _ ≤ _; omega))))); have hG := hF; clear hF; clear hO; intro hO; refine own_call hO (fun hB => HHU.out _) ?_; clear hO; intro w1 hO; (try simp only [World.size_alloc1, World.size_drew, Nat.reduceAdd] at hO); (try simp only [upd, updI, List.map_cons, List.map_nil, eq_self, if_true, if_false, reduceIte, Nat.add_eq_left, Nat.left_eq_add, Nat.reduceEqDiff, List.set_cons_zero, List.set_cons_succ, hG] at hO); clear hG; have hF := hO; (try simp only [Own, Item.Holds, apartI, CellsAt, Nat.reduceAdd, Nat.zero_add, List.mem_cons, List.not_mem_nil, or_false, forall_eq_or_imp, forall_eq, ne_eq, false_imp_iff, implies_true, and_true] at hF)))
            apply own_code hO
            (repeat (first | (with_reducible exact hO) | (with_reducible apply Own.alloc) | (with_reducible apply Own.drew) | ((with_reducible apply Own.set_at); (focus (show _ ≤ _; omega)))))
            have hG := hF; clear hF; clear hO; intro hO
            (try simp only [World.size_alloc1, World.size_drew, Nat.reduceAdd] at hO); (try simp only [upd, updI, List.map_cons, List.map_nil, eq_self, if_true, if_false, reduceIte, Nat.add_eq_left, Nat.left_eq_add, Nat.reduceEqDiff, List.set_cons_zero, List.set_cons_succ, hG] at hO); clear hG
            refine region_own (X := fun _ => True) [9] (by kernel_rfl) (hO) (trivial) (by first | exact XStab.true | exact XStab.rd | exact XStab.rdIf) ?_
            clear hO
            refine Sim.sP (i := 0) (d := some 32) (h := ?_)
            refine Sim.sO (i := 1) (d := some 33) (v := ?_) (hy := ?_) (h := ?_)
            rotate_left
            · first | refine Or.inl ⟨by rfl, fun w hO => ?_⟩ | (refine Or.inr ⟨by rfl, ?_⟩; with_reducible rfl)
              first | done | (have hF := hO; (try simp only [Own, Item.Holds, apartI, CellsAt, Nat.reduceAdd, Nat.zero_add, List.mem_cons, List.not_mem_nil, or_false, forall_eq_or_imp, forall_eq, ne_eq, false_imp_iff, implies_true, and_true] at hF); refine Out.same ?_; go_simp; all_goals with_reducible rfl)
            refine Sim.sP (i := 2) (d := some 34) (h := ?_)
            refine Sim.sO (i := 3) (d := some 35) (v := ?_) (hy := ?_) (h := ?_)
            rotate_left
            · first | refine Or.inl ⟨by rfl, fun w hO => ?_⟩ | (refine Or.inr ⟨by rfl, ?_⟩; with_reducible rfl)
              first | done | (have hF := hO; (try simp only [Own, Item.Holds, apartI, CellsAt, Nat.reduceAdd, Nat.zero_add, List.mem_cons, List.not_mem_nil, or_false, forall_eq_or_imp, forall_eq, ne_eq, false_imp_iff, implies_true, and_true] at hF); refine Out.same ?_; go_simp; all_goals with_reducible rfl)
            refine Sim.sO (i := 4) (d := some 36) (v := ?_) (hy := ?_) (h := ?_)
            rotate_left
            · first | refine Or.inl ⟨by rfl, fun w hO => ?_⟩ | (refine Or.inr ⟨by rfl, ?_⟩; with_reducible rfl)
              first | done | (refine Out.call (f := 22) (args := ?_) ?_ ?_; rotate_left; (focus (go_simp; all_goals with_reducible rfl)); exact HK.out _ hO.base)
            refine Sim.sP (i := 5) (d := some 37) (h := ?_)
            refine Sim.sP (i := 6) (d := some 38) (h := ?_)
            refine Sim.sP (i := 7) (d := some 39) (h := ?_)
            refine Sim.sP (i := 8) (d := some 40) (h := ?_)
            refine Sim.one' (i := 9) (oi := { dst := none, op := Op.store 3 (Operand.tmp 40) (Operand.tmp 39), type := 0, pos := "l13_figured_bass.go:96", after := #[{ on := 8, ground := Ground.data }, { on := 7, ground := Ground.data }, { on := 4, ground := Ground.chain }, { on := 0, ground := Ground.phase }, { on := 1, ground := Ground.phase }, { on := 2, ground := Ground.phase }, { on := 3, ground := Ground.phase }, { on := 4, ground := Ground.phase }, { on := 5, ground := Ground.phase }, { on := 6, ground := Ground.phase }, { on := 7, ground := Ground.phase }], guard := none }) (by kernel_rfl) rfl (by rfl) (fun w0 hO hX K hK => ?_)
            have hF := hO; (try simp only [Own, Item.Holds, apartI, CellsAt, Nat.reduceAdd, Nat.zero_add, List.mem_cons, List.not_mem_nil, or_false, forall_eq_or_imp, forall_eq, ne_eq, false_imp_iff, implies_true, and_true] at hF)
            go_simp
            apply hK _ _ _ (fun _ => True)
            (repeat (first | (with_reducible exact hO) | (with_reducible apply Own.alloc) | (with_reducible apply Own.drew) | ((with_reducible apply Own.set_at); (focus (show _ ≤ _; omega)))))
            · first | exact trivial | exact hX | exact hX.below (below1 _) | exact RdIf.gone | exact hX.keep ((Below.refl _ _).setCell (by first | omega | (dsimp only; omega)) _)
            · exact (by first | exact XStab.true | exact XStab.rd | exact XStab.rdIf)
            · first | exact fun _ _ h => h.2 | exact fun _ _ h => h | exact fun h => absurd h (by decide)
            try simp only [upd, updI, List.map_cons, List.map_nil, eq_self, if_true, if_false, reduceIte, Nat.add_eq_left, Nat.left_eq_add, Nat.reduceEqDiff, List.set_cons_zero, List.set_cons_succ, hF]
            clear hK K hF hO
            try simp only [Act.put, List.setIfInBounds_toArray, List.set_cons_zero, List.set_cons_succ]
            refine Sim.done (by kernel_rfl) (fun w1 hO hX => ?_) _
            (try simp only [World.size_alloc1, World.size_drew, Nat.reduceAdd] at hO); (try simp only [upd, updI, List.map_cons, List.map_nil, eq_self, if_true, if_false, reduceIte, Nat.add_eq_left, Nat.left_eq_add, Nat.reduceEqDiff, List.set_cons_zero, List.set_cons_succ] at hO)
            have hF := hO; (try simp only [Own, Item.Holds, apartI, CellsAt, Nat.reduceAdd, Nat.zero_add, List.mem_cons, List.not_mem_nil, or_false, forall_eq_or_imp, forall_eq, ne_eq, false_imp_iff, implies_true, and_true] at hF)
            go_wp2_with (at_builtin; apply own_list hO; (repeat (first | (with_reducible exact hO) | (with_reducible apply Own.alloc) | (with_reducible apply Own.drew) | ((with_reducible apply Own.set_at); (focus (show _ ≤ _; omega))))); have hG := hF; clear hF; clear hO; intro hO; (try simp only [World.size_alloc1, World.size_drew, Nat.reduceAdd] at hO); (try simp only [upd, updI, List.map_cons, List.map_nil, eq_self, if_true, if_false, reduceIte, Nat.add_eq_left, Nat.left_eq_add, Nat.reduceEqDiff, List.set_cons_zero, List.set_cons_succ, hG] at hO); clear hG; (try simp only [World.size_setCell] at hO); have hF := hO; (try simp only [Own, Item.Holds, apartI, CellsAt, Nat.reduceAdd, Nat.zero_add, List.mem_cons, List.not_mem_nil, or_false, forall_eq_or_imp, forall_eq, ne_eq, false_imp_iff, implies_true, and_true] at hF); replace hO := Own.sub (.cons_cons _ (.cons _ (List.Sublist.refl _))) hO; refine wpList_append_item rfl _ _ 23 rfl 29 i0 (.agg #[.int .i64 0, .int .i64 0, .int .i64 0]) 3 24 Tryd.underlying23 hi hz0 hz1 hz2 rfl (by decide) rfl rfl hO rfl one3t (by unfold maxLen; omega) (by omega) ?_; clear hO hF; intro v' w2 hO _; have hF := True.intro)
            go_roundw
            case rel => exact ⟨j + 1, by omega, by go_num, by rw [HU.out, List.length_append, HM.out, ← pcC_upP]; exact hO⟩
            case measure => simp [intOf]; omega
          · have hd2 : (d == 0) = false := by simp [hd0]
            have HU := hid (show vtK lo ts k ++ (ts.take (j + 1)).flatMap (vtO q) = vtK lo ts k ++ (ts.take j).flatMap (vtO q) by
              rw [vtJ_up hy]
              unfold vtO
              rw [hz, if_neg (show ¬ (q - z) % 12 = 0 by omega), List.append_nil])
            clear hje hz hd hd0 hy hpy
            go_wp2_with (first | (go_at_call 22; apply own_at hO; (repeat (first | (with_reducible exact hO) | (with_reducible apply Own.alloc) | (with_reducible apply Own.drew) | ((with_reducible apply Own.set_at); (focus (show _ ≤ _; omega))))); have hG := hF; clear hF; clear hO; intro hO; refine own_call hO (fun hB => HK.out _ hB) ?_; clear hO; intro w1 hO; (try simp only [World.size_alloc1, World.size_drew, Nat.reduceAdd] at hO); (try simp only [upd, updI, List.map_cons, List.map_nil, eq_self, if_true, if_false, reduceIte, Nat.add_eq_left, Nat.left_eq_add, Nat.reduceEqDiff, List.set_cons_zero, List.set_cons_succ, hG] at hO); clear hG; have hF := hO; (try simp only [Own, Item.Holds, apartI, CellsAt, Nat.reduceAdd, Nat.zero_add, List.mem_cons, List.not_mem_nil, or_false, forall_eq_or_imp, forall_eq, ne_eq, false_imp_iff, implies_true, and_true] at hF)) | (go_at_call 101; apply own_at hO; (repeat (first | (with_reducible exact hO) | (with_reducible apply Own.alloc) | (with_reducible apply Own.drew) | ((with_reducible apply Own.set_at); (focus (show _ ≤ _; omega))))); have hG := hF; clear hF; clear hO; intro hO; refine own_call hO (fun hB => HHU.out _) ?_; clear hO; intro w1 hO; (try simp only [World.size_alloc1, World.size_drew, Nat.reduceAdd] at hO); (try simp only [upd, updI, List.map_cons, List.map_nil, eq_self, if_true, if_false, reduceIte, Nat.add_eq_left, Nat.left_eq_add, Nat.reduceEqDiff, List.set_cons_zero, List.set_cons_succ, hG] at hO); clear hG; have hF := hO; (try simp only [Own, Item.Holds, apartI, CellsAt, Nat.reduceAdd, Nat.zero_add, List.mem_cons, List.not_mem_nil, or_false, forall_eq_or_imp, forall_eq, ne_eq, false_imp_iff, implies_true, and_true] at hF)))
            go_roundw
            case rel => exact ⟨j + 1, by omega, by go_num, by rw [HU.out]; exact Own.drop hO⟩
            case measure => simp [intOf]; omega
end Go.Proofs.YtfdglkiehkilnaaDoor
