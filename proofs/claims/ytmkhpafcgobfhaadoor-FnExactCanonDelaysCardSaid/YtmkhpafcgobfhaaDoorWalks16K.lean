/- Chapter 16 in the program: the iterator over the meetings of two voices. -/
import Derived.Test.YtmkhpafcgobfhaaDoorWalks16R
import Derived.Test.YtmkhpafcgobfhaaDoorRangeOwn
import Derived.Test.YtmkhpafcgobfhaaDoorRegionInvI
import Derived.Test.YtmkhpafcgobfhaaDoorRegionD
namespace Go.Proofs.YtmkhpafcgobfhaaDoor
set_option linter.unusedSimpArgs false
set_option linter.unusedVariables false
set_option maxRecDepth 8000
open Go.RowKit
attribute [local go_sem] Oper.semAt_some

/-- Several orders lead to one way on. -/
theorem one_way16 {R : Nat → Nat → World → Prop} {G : Prop} (O : Nat → Nat → World → Prop) (h1 : (∀ a b W, O a b W → R a b W) → G) (h2 : ∀ a b W, O a b W → R a b W) : G := h1 h2

/-- Stores into two new blocks leave an open tail as it was. -/
theorem flat16 {n p q b1 i1 b2 i2 b3 i3 b4 i4 : Nat} {B : World → Prop} {w : World} {vs us : List Value} {X Y : Item} {T0 : List Item} {u1 u2 u3 u4 : Value}
    (h : Own n B w (.blk p vs :: .blk q us :: X :: Y :: List.map (updI b1 i1 u1) (List.map (updI b2 i2 u2) (List.map (updI b3 i3 u3) (List.map (updI b4 i4 u4) T0))))) (hb : ∀ b ∈ [b1, b2, b3, b4], b = p ∨ b = q) : Own n B w (.blk p vs :: .blk q us :: X :: Y :: T0) := by
  have key : ∀ b ∈ [b1, b2, b3, b4], ∀ x ∈ T0, x.at? ≠ some b := fun b hm x hx e => by
    have hx4 : updI b1 i1 u1 (updI b2 i2 u2 (updI b3 i3 u3 (updI b4 i4 u4 x))) ∈ List.map (updI b1 i1 u1) (List.map (updI b2 i2 u2) (List.map (updI b3 i3 u3) (List.map (updI b4 i4 u4) T0))) :=
      List.mem_map_of_mem (List.mem_map_of_mem (List.mem_map_of_mem (List.mem_map_of_mem hx)))
    have e4 : (updI b1 i1 u1 (updI b2 i2 u2 (updI b3 i3 u3 (updI b4 i4 u4 x)))).at? = some b := by rw [updI_at, updI_at, updI_at, updI_at, e]
    rcases hb b hm with rfl | rfl
    · exact (h.1.2 _ (List.mem_cons_of_mem _ (List.mem_cons_of_mem _ (List.mem_cons_of_mem _ hx4)))).to b e4 rfl
    · exact (h.2.1.2 _ (List.mem_cons_of_mem _ (List.mem_cons_of_mem _ hx4))).to b e4 rfl
  rw [upd_none (key b4 (by simp)) i4 u4, upd_none (key b3 (by simp)) i3 u3, upd_none (key b2 (by simp)) i2 u2, upd_none (key b1 (by simp)) i1 u1] at h
  exact h

/-- meetings hands back its iterator, which has caught two voices. -/
theorem mgI_any {n : Nat} {B : World → Prop} {W : World} {L : List Item} {K : Ending → World → Prop} (A A' : Option Addr) (k c k' c' : Nat) (hO : Own n B W L)
    (h : ∀ q1 q2 w1, Own n B w1 (.blk q2 [.slice A' k' c'] :: .blk q1 [.slice A k c] :: L) → K (.returned (.func (.func 80) #[] #[.pointer (some ⟨q1, 0, none⟩), .pointer (some ⟨q2, 0, none⟩)])) w1) :
    Calls Tryd.prog 55 #[.slice A k c, .slice A' k' c'] W K := by
  have hmf : ∀ (fn : Fn) (first cap : Array Value) (w : World), (Instr.makeFunc fn first cap).run Tryd.prog w = .ok (.func fn first cap) w := fun _ _ _ _ => rfl
  have hO2 := (hO.alloc (t := 28) (vs := [.slice A k c])).alloc (t := 28) (vs := [.slice A' k' c'])
  simp only [World.size_alloc1] at hO2
  go_enter Tryd.func55, Tryd.ntmps55
  go_wp2_with fail
  exact hO2

abbrev meV (x : Mee) : Value := .agg #[.int .i64 x.t, .bool x.x.r, .int .i64 x.x.s, .int .i64 x.x.a, .int .i64 x.x.o, .int .i64 x.x.t, .bool x.x.y, .bool x.y.r, .int .i64 x.y.s, .int .i64 x.y.a, .int .i64 x.y.o, .int .i64 x.y.t, .bool x.y.y]

/-- From one meeting to the next one, a voice at a time. -/
theorem fr_up {v : List Nt} {n i c : Nat} {A : Option Addr} {t s : Int} {B : World → Prop} {W0 : World} (hn : v.length = n) (hv : voB v = true) (ha : AtT v t i) (h3 : 0 ≤ s ∧ s ≤ 100000) (hB0 : B W0)
    (HS : ∀ W, B W → SlAt W (.slice A (n - i) c) (n - i) 6 (vcC (v.drop i))) : ∃ (A' : Option Addr) (c' : Nat),
    (∀ W, B W → Calls Tryd.prog 84 #[.agg #[.slice A (n - i) c, .int .i64 (sumT (v.take i))], .int .i64 s] W fun e w' => e = .returned (.agg #[.slice A' (n - upT v i s) c', .int .i64 (sumT (v.take (upT v i s)))]) ∧ Below W.heap.size W w') ∧
    (∀ W, B W → SlAt W (.slice A' (n - upT v i s) c') (n - upT v i s) 6 (vcC (v.drop (upT v i s)))) := by
  have hl : (v.drop i).length = n - i := by rw [List.length_drop, hn]
  have hz := enZ_is v i
  have hbd : -9223372036854775808 ≤ enT v i ∧ enT v i ≤ 9223372036854775807 := by
    by_cases hi : i < v.length
    · have := en_bd hv hi
      have := sum_all16 hv
      omega
    · rw [en_over (by omega)]; omega
  by_cases hc : enT v i = s
  · have hi : i < n := by
      refine Nat.lt_of_not_le fun hi => ?_
      rw [en_over (by omega)] at hc
      omega
    obtain ⟨x, hx⟩ : ∃ x, v[i]? = some x := ⟨_, List.getElem?_eq_getElem (by omega)⟩
    have hs : sumT (v.take (i + 1)) = s := by rw [(sum_step (voB_iff.1 hv).1 hx).1, ← hc, en_at hx]
    obtain ⟨A2, c2, e, _, hA⟩ := (HS W0 hB0).open
    cases e
    obtain ⟨q, o, rfl, _, _, _⟩ := hA (by omega)
    obtain ⟨A', c', ht⟩ := tl_ex q o c
    refine ⟨A', c', fun W hW => ?_, fun W hW => ?_⟩
    · have := frI_yes q o (n - i) c c' A' (sumT (v.take i)) s (v.drop i) W (HS W hW) hl (by omega) (by rw [hz, hc]) (by omega) ht
      rw [show upT v i s = i + 1 by unfold upT; rw [if_pos hc], hs, show n - (i + 1) = n - i - 1 by omega]
      exact this
    · have := tl_at ht (by omega) (HS W hW)
      have e : (v.drop i).drop 1 = v.drop (i + 1) := by
        rw [List.drop_drop]
      rw [e] at this
      rw [show upT v i s = i + 1 by unfold upT; rw [if_pos hc], show n - (i + 1) = n - i - 1 by omega]
      exact this
  · refine ⟨A, c, fun W hW => ?_, fun W hW => ?_⟩
    · rw [show upT v i s = i by unfold upT; rw [if_neg hc]]
      exact frI_no A (n - i) c _ _ s (v.drop i) W (HS W hW) hl hz hbd hc
    · rw [show upT v i s = i by unfold upT; rw [if_neg hc]]
      exact HS W hW

/-- A call of yield. -/
theorem wp_yieldI {P : Program} {o : Oper} {a : Act} {W : World} {Q : Exit → Act → World → Prop} {R : Ending → World → Prop} {K : Act → World → Prop} {d l : Nat}
    (f x : Operand) (T : TypeId) (ho : o.op = .call { callee := .value f, args := #[x], argTypes := #[T] }) (hf : a.eval f = .func (.yield l) #[] #[]) (v : Value) (hx : a.eval x = v)
    (hd : 1 ≤ d) (hY : YieldAt Fence.wide (d - 1) P l #[v] W R) (h : ∀ e w', R e w' → ∃ u, e = .returned u ∧ K (a.put o.dst u) w') : o.wpIn Fence.wide d P a W K Q := by
  obtain ⟨fn, tmps, assign, body, hy, hR⟩ := hY
  unfold Oper.wpIn
  refine ⟨fun f _ => trivial, ?_⟩
  rw [Oper.semAt_plain _ _ _ (by rw [ho]; intro c hc'; cases hc')]
  have hr : (execOp a.eval o).run P W = .ok (.round l fn tmps assign body) W := by
    simp only [execOp, ho, resolve, hf, Sem.run_bind, Sem.run_pure, Result.andThen_ok, List.map_toArray, List.map_cons, List.map_nil, hx, invoke, callFunc]
    exact hy
  rw [hr, Oper.uponIn_round]
  refine ⟨fun _ => hd, hR.mono fun e w' he => ?_⟩
  obtain ⟨u, rfl, h2⟩ := h e w' he
  exact h2

/-- What an operation of the region that calls yield waits for. -/
def prM (i : Nat) : List Nat := if i = 3 then [2] else if i = 5 then [4, 3] else if i = 6 then [1, 3, 5] else if i = 7 then [0, 6, 5] else if i = 8 then [7] else []
def PreM (l : Nat → Bool) : Prop := ∀ j, l j = true → ∀ p ∈ prM j, l p = true
theorem PreM.up {l : Nat → Bool} {i : Nat} (h : PreM l) (hp : ∀ p ∈ prM i, l p = true) : PreM (updL l i) := fun j hj p hm => by
  unfold updL at hj ⊢
  by_cases hpi : p = i
  · rw [if_pos hpi]
  · rw [if_neg hpi]
    by_cases hji : j = i
    · subst hji; exact hp p hm
    · rw [if_neg hji] at hj
      exact h j hj p hm
/-- What holds in that region, whatever has come up. -/
structure MI (n lp : Nat) (B : World → Prop) (M : List Item) (T : List Mee → List Item → Prop) (T1 : List Item) (Jx : List Mee → World → Prop) (pre : List Mee) (τ : Nat) (f1 f2 : Value) (x y : Nt) (l : Nat → Bool) (u : Nat → Value) (w : World) : Prop where
  c0 : l 0 = true → u 0 = .func (.yield lp) #[] #[]
  c1 : l 1 = true → u 1 = .int .i64 τ
  c2 : l 2 = true → u 2 = f1
  c3 : l 3 = true → u 3 = .agg #[.bool x.r, .int .i64 x.s, .int .i64 x.a, .int .i64 x.o, .int .i64 x.t, .bool x.y]
  c4 : l 4 = true → u 4 = f2
  c5 : l 5 = true → u 5 = .agg #[.bool y.r, .int .i64 y.s, .int .i64 y.a, .int .i64 y.o, .int .i64 y.t, .bool y.y]
  c6 : l 6 = true → u 6 = meV ⟨τ, x, y⟩
  c7 : l 7 = true → (u 7 = .bool true ∧ ∃ T2, T (pre ++ [⟨τ, x, y⟩]) T2 ∧ Own n B w (M ++ T2)) ∨ (u 7 = .bool false ∧ Jx (pre ++ [⟨τ, x, y⟩]) w)
  c8 : l 8 = true → ∃ z, u 7 = .bool z ∧ u 8 = .bool (!z)
  pre : PreM l
  own : l 7 = false → Own n B w (M ++ T1)
theorem MI.l8 {n lp : Nat} {B : World → Prop} {M : List Item} {T : List Mee → List Item → Prop} {T1 : List Item} {Jx : List Mee → World → Prop} {pre : List Mee} {τ : Nat} {f1 f2 : Value} {x y : Nt} {l : Nat → Bool} {u : Nat → Value} {w : World} (h : MI n lp B M T T1 Jx pre τ f1 f2 x y l u w) (h8 : l 8 = true) : l 7 = true := h.pre 8 h8 7 (by decide)
theorem MI.not7 {n lp : Nat} {B : World → Prop} {M : List Item} {T : List Mee → List Item → Prop} {T1 : List Item} {Jx : List Mee → World → Prop} {pre : List Mee} {τ : Nat} {f1 f2 : Value} {x y : Nt} {l : Nat → Bool} {u : Nat → Value} {w : World} (h : MI n lp B M T T1 Jx pre τ f1 f2 x y l u w) {i : Nat} (hi : i < 7) (hl : l i = false) : l 7 = false := by
  cases h7 : l 7
  · rfl
  · have h0 := h.pre 7 h7 0 (by decide)
    have h6 := h.pre 7 h7 6 (by decide)
    have h5 := h.pre 7 h7 5 (by decide)
    have h1 := h.pre 6 h6 1 (by decide)
    have h3 := h.pre 6 h6 3 (by decide)
    have h2 := h.pre 3 h3 2 (by decide)
    have h4 := h.pre 5 h5 4 (by decide)
    rcases (show i = 0 ∨ i = 1 ∨ i = 2 ∨ i = 3 ∨ i = 4 ∨ i = 5 ∨ i = 6 by omega) with rfl | rfl | rfl | rfl | rfl | rfl | rfl
    all_goals first | exact absurd (hl.symm.trans h0) (by decide) | exact absurd (hl.symm.trans h1) (by decide) | exact absurd (hl.symm.trans h2) (by decide) | exact absurd (hl.symm.trans h3) (by decide) | exact absurd (hl.symm.trans h4) (by decide) | exact absurd (hl.symm.trans h5) (by decide) | exact absurd (hl.symm.trans h6) (by decide)

set_option maxRecDepth 20000 in
set_option maxHeartbeats 16000000 in
/-- the iterator hands over the meetings, one behind the other. -/
theorem meI_seq (va vb : Value) (a b : List Nt) (k m n d q1 q2 : Nat) (hd : 1 ≤ d) (hk : a.length = k) (hm : b.length = m) (h1 : voB a = true) (h2 : voB b = true) :
    SeqO Fence.wide d Tryd.prog 80 #[.pointer (some ⟨q1, 0, none⟩), .pointer (some ⟨q2, 0, none⟩)] (fun x : Mee => #[meV x]) n [.blk q2 [vb], .blk q1 [va]] (fun w => SlAt w va k 6 (vcC a) ∧ SlAt w vb m 6 (vcC b))
      (fun xs => xs = meL a b) (fun pre => pre <+: meL a b) (meL a b).length := by
  intro lp B T Jx W T0 hPre hT0 hO hY
  have HP := hid hPre
  have HY := hid hY
  have HN := hid (And.intro hk hm)
  have HVO := hid (And.intro h1 h2)
  have hk60 : k ≤ 60 := by have := (voB_iff.1 h1).2; omega
  have hm60 : m ≤ 60 := by have := (voB_iff.1 h2).2; omega
  have hU := True.intro
  have hF := True.intro
  obtain ⟨A, c, rfl, nb, _⟩ := (hPre W hO.base).1.open
  obtain ⟨A', c', rfl, mb, _⟩ := (hPre W hO.base).2.open
  simp only [List.cons_append, List.nil_append] at hO
  have hF := hO; (try simp only [Own, Item.Holds, apart_bb, apart_br, apart_rb, CellsAt, Nat.reduceAdd, Nat.zero_add, List.mem_cons, List.not_mem_nil, or_false, forall_eq_or_imp, forall_eq, ne_eq, false_imp_iff, implies_true, and_true] at hF)
  clear hPre hY hk hm h1 h2
  refine callsIn_of_wp Tryd.func80 rfl trivial ?_ rfl
  simp only [Tryd.ntmps80, List.size_toArray, List.length_cons, List.length_nil, Nat.reduceAdd, Nat.reduceSub, Array.replicate_succ, Array.replicate_zero, List.push_toArray, List.append_toArray, List.nil_append, List.cons_append]
  gi_wp2_with fail
  refine wpIn_wide.2 ?_
  clear hF
  revert hO
  apply one_way16 (fun p5 p6 W => Own n B W (.blk p5 [.slice A k c, .int .i64 0] :: .blk p6 [.slice A' m c', .int .i64 0] :: .blk q2 [.slice A' m c'] :: .blk q1 [.slice A k c] :: T0))
  · intro key hO
    have hF := True.intro
    have hU := True.intro
    apply own_code hO
    (repeat (first | (with_reducible exact hO) | (with_reducible apply Own.alloc) | (with_reducible apply Own.drew) | ((with_reducible apply Own.set_at); (focus (show _ ≤ _; omega)))))
    have hG := hF; clear hF; clear hO; intro hO
    (try simp only [World.size_alloc1, World.size_drew, Nat.reduceAdd] at hO); (try simp only [upd, updI, List.map_cons, List.map_nil, eq_self, if_true, if_false, reduceIte, Nat.add_eq_left, Nat.left_eq_add, Nat.reduceEqDiff, List.set_cons_zero, List.set_cons_succ, hG] at hO); clear hG
    refine region_own (X := fun _ => True) [6, 7] (by kernel_rfl) (hO) (trivial) (by first | exact XStab.true | exact XStab.rd | exact XStab.rdIf) ?_
    clear hO
    refine Sim.sO (i := 0) (d := some 7) (v := ?_) (hy := ?_) (h := ?_)
    rotate_left
    · first | refine Or.inl ⟨by rfl, fun w hO => ?_⟩ | (refine Or.inr ⟨by rfl, ?_⟩; with_reducible rfl)
      first | done | (have hF := hO; (try simp only [Own, Item.Holds, apartI, CellsAt, Nat.reduceAdd, Nat.zero_add, List.mem_cons, List.not_mem_nil, or_false, forall_eq_or_imp, forall_eq, ne_eq, false_imp_iff, implies_true, and_true] at hF); refine Out.same ?_; go_simp; all_goals with_reducible rfl)
    refine Sim.sP (i := 1) (d := some 8) (h := ?_)
    refine Sim.many (rs := [2, 4, 5]) (by kernel_rfl) (by decide) ?_
    refine AllS.cons (oi := { dst := some 9, op := Op.load 28 (Operand.tmp 2), type := 28, pos := "l16_canons.go:96", after := #[{ on := 6, ground := Ground.gcOnly Departure.lateStores }], guard := none }) rfl (by rfl) (fun w0 hO hX K hK => ?_) ?_
    rotate_left
    refine AllS.cons (oi := { dst := some 5, op := Op.alloc 101, type := 0, pos := "l16_canons.go:96", after := #[], guard := none }) rfl (by rfl) (fun w0 hO hX K hK => ?_) ?_
    rotate_left
    refine AllS.cons (oi := { dst := some 6, op := Op.alloc 101, type := 0, pos := "l16_canons.go:96", after := #[], guard := none }) rfl (by rfl) (fun w0 hO hX K hK => ?_) ?_
    rotate_left
    exact AllS.nil
    rotate_right 3
    have hF := hO; (try simp only [Own, Item.Holds, apartI, CellsAt, Nat.reduceAdd, Nat.zero_add, List.mem_cons, List.not_mem_nil, or_false, forall_eq_or_imp, forall_eq, ne_eq, false_imp_iff, implies_true, and_true] at hF)
    go_simp
    apply hK _ _ _ (fun _ => True)
    (repeat (first | (with_reducible exact hO) | (with_reducible apply Own.alloc) | (with_reducible apply Own.drew) | ((with_reducible apply Own.set_at); (focus (show _ ≤ _; omega)))))
    · first | exact trivial | exact hX | exact hX.below (below1 _) | exact RdIf.gone | exact hX.keep ((Below.refl _ _).setCell (by first | omega | (dsimp only; omega)) _)
    · exact (by first | exact XStab.true | exact XStab.rd | exact XStab.rdIf)
    · first | exact fun _ _ h => h.2 | exact fun _ _ h => h | exact fun h => absurd h (by decide)
    try simp only [upd, updI, List.map_cons, List.map_nil, eq_self, if_true, if_false, reduceIte, Nat.add_eq_left, Nat.left_eq_add, Nat.reduceEqDiff, List.set_cons_zero, List.set_cons_succ, hF]
    clear hK K hF hO
    try simp only [Act.put, List.setIfInBounds_toArray, List.set_cons_zero, List.set_cons_succ]
    refine Sim.sP (i := 3) (d := some 10) (h := ?_)
    refine Sim.many (rs := [4, 5]) (by kernel_rfl) (by decide) ?_
    refine AllS.cons (oi := { dst := some 5, op := Op.alloc 101, type := 0, pos := "l16_canons.go:96", after := #[], guard := none }) rfl (by rfl) (fun w0 hO hX K hK => ?_) ?_
    rotate_left
    refine AllS.cons (oi := { dst := some 6, op := Op.alloc 101, type := 0, pos := "l16_canons.go:96", after := #[], guard := none }) rfl (by rfl) (fun w0 hO hX K hK => ?_) ?_
    rotate_left
    exact AllS.nil
    rotate_right 2
    go_simp
    apply hK _ _ _ (fun _ => True)
    · (repeat (first | (with_reducible exact hO) | (with_reducible apply Own.alloc) | (with_reducible apply Own.drew) | ((with_reducible apply Own.set_at); (focus (show _ ≤ _; omega)))))
    · exact trivial
    · exact XStab.true
    · exact fun _ _ h => h.2
    generalize w0.heap.size = p5
    clear hO
    clear hK K
    try simp only [Act.put, List.setIfInBounds_toArray, List.set_cons_zero, List.set_cons_succ]
    refine Sim.one' (i := 5) (oi := { dst := some 6, op := Op.alloc 101, type := 0, pos := "l16_canons.go:96", after := #[], guard := none }) (by kernel_rfl) rfl (by rfl) (fun w0 hO hX K hK => ?_)
    go_simp
    apply hK _ _ _ (fun _ => True)
    · (repeat (first | (with_reducible exact hO) | (with_reducible apply Own.alloc) | (with_reducible apply Own.drew) | ((with_reducible apply Own.set_at); (focus (show _ ≤ _; omega)))))
    · exact trivial
    · exact XStab.true
    · exact fun _ _ h => h.2
    generalize w0.heap.size = p6
    clear hO
    clear hK K
    try simp only [Act.put, List.setIfInBounds_toArray, List.set_cons_zero, List.set_cons_succ]
    refine Sim.one' (i := 6) (oi := { dst := none, op := Op.store 101 (Operand.tmp 5) (Operand.tmp 8), type := 0, pos := "l16_canons.go:96", after := #[{ on := 4, ground := Ground.data }, { on := 1, ground := Ground.data }, { on := 0, ground := Ground.phase }, { on := 1, ground := Ground.phase }, { on := 2, ground := Ground.textOnly Departure.lateStores }, { on := 3, ground := Ground.textOnly Departure.lateStores }, { on := 4, ground := Ground.phase }, { on := 5, ground := Ground.phase }], guard := none }) (by kernel_rfl) rfl (by rfl) (fun w0 hO hX K hK => ?_)
    have hF := hO; (try simp only [Own, Item.Holds, apartI, CellsAt, Nat.reduceAdd, Nat.zero_add, List.mem_cons, List.not_mem_nil, or_false, forall_eq_or_imp, forall_eq, ne_eq, false_imp_iff, implies_true, and_true] at hF)
    go_simp
    apply hK _ _ _ (fun _ => True)
    (repeat (first | (with_reducible exact hO) | (with_reducible apply Own.alloc) | (with_reducible apply Own.drew) | ((with_reducible apply Own.set_at); (focus (show _ ≤ _; omega)))))
    · first | exact trivial | exact hX | exact hX.below (below1 _) | exact RdIf.gone | exact hX.keep ((Below.refl _ _).setCell (by first | omega | (dsimp only; omega)) _)
    · exact (by first | exact XStab.true | exact XStab.rd | exact XStab.rdIf)
    · first | exact fun _ _ h => h.2 | exact fun _ _ h => h | exact fun h => absurd h (by decide)
    try simp only [upd, updI, List.map_cons, List.map_nil, eq_self, if_true, if_false, reduceIte, Nat.add_eq_left, Nat.left_eq_add, Nat.reduceEqDiff, List.set_cons_zero, List.set_cons_succ, hF]
    clear hK K hF hO
    try simp only [Act.put, List.setIfInBounds_toArray, List.set_cons_zero, List.set_cons_succ]
    refine Sim.one' (i := 7) (oi := { dst := none, op := Op.store 101 (Operand.tmp 6) (Operand.tmp 10), type := 0, pos := "l16_canons.go:96", after := #[{ on := 5, ground := Ground.data }, { on := 3, ground := Ground.data }, { on := 6, ground := Ground.chain }, { on := 0, ground := Ground.phase }, { on := 1, ground := Ground.phase }, { on := 2, ground := Ground.phase }, { on := 3, ground := Ground.phase }, { on := 4, ground := Ground.phase }, { on := 5, ground := Ground.phase }, { on := 6, ground := Ground.phase }], guard := none }) (by kernel_rfl) rfl (by rfl) (fun w0 hO hX K hK => ?_)
    have hF := hO; (try simp only [Own, Item.Holds, apartI, CellsAt, Nat.reduceAdd, Nat.zero_add, List.mem_cons, List.not_mem_nil, or_false, forall_eq_or_imp, forall_eq, ne_eq, false_imp_iff, implies_true, and_true] at hF)
    go_simp
    apply hK _ _ _ (fun _ => True)
    (repeat (first | (with_reducible exact hO) | (with_reducible apply Own.alloc) | (with_reducible apply Own.drew) | ((with_reducible apply Own.set_at); (focus (show _ ≤ _; omega)))))
    · first | exact trivial | exact hX | exact hX.below (below1 _) | exact RdIf.gone | exact hX.keep ((Below.refl _ _).setCell (by first | omega | (dsimp only; omega)) _)
    · exact (by first | exact XStab.true | exact XStab.rd | exact XStab.rdIf)
    · first | exact fun _ _ h => h.2 | exact fun _ _ h => h | exact fun h => absurd h (by decide)
    try simp only [upd, updI, List.map_cons, List.map_nil, eq_self, if_true, if_false, reduceIte, Nat.add_eq_left, Nat.left_eq_add, Nat.reduceEqDiff, List.set_cons_zero, List.set_cons_succ, hF]
    clear hK K hF hO
    try simp only [Act.put, List.setIfInBounds_toArray, List.set_cons_zero, List.set_cons_succ]
    refine Sim.done (by kernel_rfl) (fun w1 hO hX => ?_) _
    (try simp only [World.size_alloc1, World.size_drew, Nat.reduceAdd] at hO); (try simp only [upd, updI, List.map_cons, List.map_nil, eq_self, if_true, if_false, reduceIte, Nat.add_eq_left, Nat.left_eq_add, Nat.reduceEqDiff, List.set_cons_zero, List.set_cons_succ] at hO)
    have hF := hO; (try simp only [Own, Item.Holds, apartI, CellsAt, Nat.reduceAdd, Nat.zero_add, List.mem_cons, List.not_mem_nil, or_false, forall_eq_or_imp, forall_eq, ne_eq, false_imp_iff, implies_true, and_true] at hF)
    rotate_left 1
    go_simp
    apply hK _ _ _ (fun _ => True)
    · (repeat (first | (with_reducible exact hO) | (with_reducible apply Own.alloc) | (with_reducible apply Own.drew) | ((with_reducible apply Own.set_at); (focus (show _ ≤ _; omega)))))
    · exact trivial
    · exact XStab.true
    · exact fun _ _ h => h.2
    generalize w0.heap.size = p6
    clear hO
    clear hK K
    try simp only [Act.put, List.setIfInBounds_toArray, List.set_cons_zero, List.set_cons_succ]
    refine Sim.one' (i := 4) (oi := { dst := some 5, op := Op.alloc 101, type := 0, pos := "l16_canons.go:96", after := #[], guard := none }) (by kernel_rfl) rfl (by rfl) (fun w0 hO hX K hK => ?_)
    go_simp
    apply hK _ _ _ (fun _ => True)
    · (repeat (first | (with_reducible exact hO) | (with_reducible apply Own.alloc) | (with_reducible apply Own.drew) | ((with_reducible apply Own.set_at); (focus (show _ ≤ _; omega)))))
    · exact trivial
    · exact XStab.true
    · exact fun _ _ h => h.2
    generalize w0.heap.size = p5
    clear hO
    clear hK K
    try simp only [Act.put, List.setIfInBounds_toArray, List.set_cons_zero, List.set_cons_succ]
    refine Sim.one' (i := 6) (oi := { dst := none, op := Op.store 101 (Operand.tmp 5) (Operand.tmp 8), type := 0, pos := "l16_canons.go:96", after := #[{ on := 4, ground := Ground.data }, { on := 1, ground := Ground.data }, { on := 0, ground := Ground.phase }, { on := 1, ground := Ground.phase }, { on := 2, ground := Ground.textOnly Departure.lateStores }, { on := 3, ground := Ground.textOnly Departure.lateStores }, { on := 4, ground := Ground.phase }, { on := 5, ground := Ground.phase }], guard := none }) (by kernel_rfl) rfl (by rfl) (fun w0 hO hX K hK => ?_)
    have hF := hO; (try simp only [Own, Item.Holds, apartI, CellsAt, Nat.reduceAdd, Nat.zero_add, List.mem_cons, List.not_mem_nil, or_false, forall_eq_or_imp, forall_eq, ne_eq, false_imp_iff, implies_true, and_true] at hF)
    go_simp
    apply hK _ _ _ (fun _ => True)
    (repeat (first | (with_reducible exact hO) | (with_reducible apply Own.alloc) | (with_reducible apply Own.drew) | ((with_reducible apply Own.set_at); (focus (show _ ≤ _; omega)))))
    · first | exact trivial | exact hX | exact hX.below (below1 _) | exact RdIf.gone | exact hX.keep ((Below.refl _ _).setCell (by first | omega | (dsimp only; omega)) _)
    · exact (by first | exact XStab.true | exact XStab.rd | exact XStab.rdIf)
    · first | exact fun _ _ h => h.2 | exact fun _ _ h => h | exact fun h => absurd h (by decide)
    try simp only [upd, updI, List.map_cons, List.map_nil, eq_self, if_true, if_false, reduceIte, Nat.add_eq_left, Nat.left_eq_add, Nat.reduceEqDiff, List.set_cons_zero, List.set_cons_succ, hF]
    clear hK K hF hO
    try simp only [Act.put, List.setIfInBounds_toArray, List.set_cons_zero, List.set_cons_succ]
    refine Sim.one' (i := 7) (oi := { dst := none, op := Op.store 101 (Operand.tmp 6) (Operand.tmp 10), type := 0, pos := "l16_canons.go:96", after := #[{ on := 5, ground := Ground.data }, { on := 3, ground := Ground.data }, { on := 6, ground := Ground.chain }, { on := 0, ground := Ground.phase }, { on := 1, ground := Ground.phase }, { on := 2, ground := Ground.phase }, { on := 3, ground := Ground.phase }, { on := 4, ground := Ground.phase }, { on := 5, ground := Ground.phase }, { on := 6, ground := Ground.phase }], guard := none }) (by kernel_rfl) rfl (by rfl) (fun w0 hO hX K hK => ?_)
    have hF := hO; (try simp only [Own, Item.Holds, apartI, CellsAt, Nat.reduceAdd, Nat.zero_add, List.mem_cons, List.not_mem_nil, or_false, forall_eq_or_imp, forall_eq, ne_eq, false_imp_iff, implies_true, and_true] at hF)
    go_simp
    apply hK _ _ _ (fun _ => True)
    (repeat (first | (with_reducible exact hO) | (with_reducible apply Own.alloc) | (with_reducible apply Own.drew) | ((with_reducible apply Own.set_at); (focus (show _ ≤ _; omega)))))
    · first | exact trivial | exact hX | exact hX.below (below1 _) | exact RdIf.gone | exact hX.keep ((Below.refl _ _).setCell (by first | omega | (dsimp only; omega)) _)
    · exact (by first | exact XStab.true | exact XStab.rd | exact XStab.rdIf)
    · first | exact fun _ _ h => h.2 | exact fun _ _ h => h | exact fun h => absurd h (by decide)
    try simp only [upd, updI, List.map_cons, List.map_nil, eq_self, if_true, if_false, reduceIte, Nat.add_eq_left, Nat.left_eq_add, Nat.reduceEqDiff, List.set_cons_zero, List.set_cons_succ, hF]
    clear hK K hF hO
    try simp only [Act.put, List.setIfInBounds_toArray, List.set_cons_zero, List.set_cons_succ]
    refine Sim.done (by kernel_rfl) (fun w1 hO hX => ?_) _
    (try simp only [World.size_alloc1, World.size_drew, Nat.reduceAdd] at hO); (try simp only [upd, updI, List.map_cons, List.map_nil, eq_self, if_true, if_false, reduceIte, Nat.add_eq_left, Nat.left_eq_add, Nat.reduceEqDiff, List.set_cons_zero, List.set_cons_succ] at hO)
    have hF := hO; (try simp only [Own, Item.Holds, apartI, CellsAt, Nat.reduceAdd, Nat.zero_add, List.mem_cons, List.not_mem_nil, or_false, forall_eq_or_imp, forall_eq, ne_eq, false_imp_iff, implies_true, and_true] at hF)
    rotate_left 1
    go_simp
    apply hK _ _ _ (fun _ => True)
    · (repeat (first | (with_reducible exact hO) | (with_reducible apply Own.alloc) | (with_reducible apply Own.drew) | ((with_reducible apply Own.set_at); (focus (show _ ≤ _; omega)))))
    · exact trivial
    · exact XStab.true
    · exact fun _ _ h => h.2
    generalize w0.heap.size = p5
    clear hO
    clear hK K
    try simp only [Act.put, List.setIfInBounds_toArray, List.set_cons_zero, List.set_cons_succ]
    refine Sim.many (rs := [2, 5]) (by kernel_rfl) (by decide) ?_
    refine AllS.cons (oi := { dst := some 9, op := Op.load 28 (Operand.tmp 2), type := 28, pos := "l16_canons.go:96", after := #[{ on := 6, ground := Ground.gcOnly Departure.lateStores }], guard := none }) rfl (by rfl) (fun w0 hO hX K hK => ?_) ?_
    rotate_left
    refine AllS.cons (oi := { dst := some 6, op := Op.alloc 101, type := 0, pos := "l16_canons.go:96", after := #[], guard := none }) rfl (by rfl) (fun w0 hO hX K hK => ?_) ?_
    rotate_left
    exact AllS.nil
    rotate_right 2
    have hF := hO; (try simp only [Own, Item.Holds, apartI, CellsAt, Nat.reduceAdd, Nat.zero_add, List.mem_cons, List.not_mem_nil, or_false, forall_eq_or_imp, forall_eq, ne_eq, false_imp_iff, implies_true, and_true] at hF)
    go_simp
    apply hK _ _ _ (fun _ => True)
    (repeat (first | (with_reducible exact hO) | (with_reducible apply Own.alloc) | (with_reducible apply Own.drew) | ((with_reducible apply Own.set_at); (focus (show _ ≤ _; omega)))))
    · first | exact trivial | exact hX | exact hX.below (below1 _) | exact RdIf.gone | exact hX.keep ((Below.refl _ _).setCell (by first | omega | (dsimp only; omega)) _)
    · exact (by first | exact XStab.true | exact XStab.rd | exact XStab.rdIf)
    · first | exact fun _ _ h => h.2 | exact fun _ _ h => h | exact fun h => absurd h (by decide)
    try simp only [upd, updI, List.map_cons, List.map_nil, eq_self, if_true, if_false, reduceIte, Nat.add_eq_left, Nat.left_eq_add, Nat.reduceEqDiff, List.set_cons_zero, List.set_cons_succ, hF]
    clear hK K hF hO
    try simp only [Act.put, List.setIfInBounds_toArray, List.set_cons_zero, List.set_cons_succ]
    refine Sim.sP (i := 3) (d := some 10) (h := ?_)
    refine Sim.one' (i := 5) (oi := { dst := some 6, op := Op.alloc 101, type := 0, pos := "l16_canons.go:96", after := #[], guard := none }) (by kernel_rfl) rfl (by rfl) (fun w0 hO hX K hK => ?_)
    go_simp
    apply hK _ _ _ (fun _ => True)
    · (repeat (first | (with_reducible exact hO) | (with_reducible apply Own.alloc) | (with_reducible apply Own.drew) | ((with_reducible apply Own.set_at); (focus (show _ ≤ _; omega)))))
    · exact trivial
    · exact XStab.true
    · exact fun _ _ h => h.2
    generalize w0.heap.size = p6
    clear hO
    clear hK K
    try simp only [Act.put, List.setIfInBounds_toArray, List.set_cons_zero, List.set_cons_succ]
    refine Sim.one' (i := 6) (oi := { dst := none, op := Op.store 101 (Operand.tmp 5) (Operand.tmp 8), type := 0, pos := "l16_canons.go:96", after := #[{ on := 4, ground := Ground.data }, { on := 1, ground := Ground.data }, { on := 0, ground := Ground.phase }, { on := 1, ground := Ground.phase }, { on := 2, ground := Ground.textOnly Departure.lateStores }, { on := 3, ground := Ground.textOnly Departure.lateStores }, { on := 4, ground := Ground.phase }, { on := 5, ground := Ground.phase }], guard := none }) (by kernel_rfl) rfl (by rfl) (fun w0 hO hX K hK => ?_)
    have hF := hO; (try simp only [Own, Item.Holds, apartI, CellsAt, Nat.reduceAdd, Nat.zero_add, List.mem_cons, List.not_mem_nil, or_false, forall_eq_or_imp, forall_eq, ne_eq, false_imp_iff, implies_true, and_true] at hF)
    go_simp
    apply hK _ _ _ (fun _ => True)
    (repeat (first | (with_reducible exact hO) | (with_reducible apply Own.alloc) | (with_reducible apply Own.drew) | ((with_reducible apply Own.set_at); (focus (show _ ≤ _; omega)))))
    · first | exact trivial | exact hX | exact hX.below (below1 _) | exact RdIf.gone | exact hX.keep ((Below.refl _ _).setCell (by first | omega | (dsimp only; omega)) _)
    · exact (by first | exact XStab.true | exact XStab.rd | exact XStab.rdIf)
    · first | exact fun _ _ h => h.2 | exact fun _ _ h => h | exact fun h => absurd h (by decide)
    try simp only [upd, updI, List.map_cons, List.map_nil, eq_self, if_true, if_false, reduceIte, Nat.add_eq_left, Nat.left_eq_add, Nat.reduceEqDiff, List.set_cons_zero, List.set_cons_succ, hF]
    clear hK K hF hO
    try simp only [Act.put, List.setIfInBounds_toArray, List.set_cons_zero, List.set_cons_succ]
    refine Sim.one' (i := 7) (oi := { dst := none, op := Op.store 101 (Operand.tmp 6) (Operand.tmp 10), type := 0, pos := "l16_canons.go:96", after := #[{ on := 5, ground := Ground.data }, { on := 3, ground := Ground.data }, { on := 6, ground := Ground.chain }, { on := 0, ground := Ground.phase }, { on := 1, ground := Ground.phase }, { on := 2, ground := Ground.phase }, { on := 3, ground := Ground.phase }, { on := 4, ground := Ground.phase }, { on := 5, ground := Ground.phase }, { on := 6, ground := Ground.phase }], guard := none }) (by kernel_rfl) rfl (by rfl) (fun w0 hO hX K hK => ?_)
    have hF := hO; (try simp only [Own, Item.Holds, apartI, CellsAt, Nat.reduceAdd, Nat.zero_add, List.mem_cons, List.not_mem_nil, or_false, forall_eq_or_imp, forall_eq, ne_eq, false_imp_iff, implies_true, and_true] at hF)
    go_simp
    apply hK _ _ _ (fun _ => True)
    (repeat (first | (with_reducible exact hO) | (with_reducible apply Own.alloc) | (with_reducible apply Own.drew) | ((with_reducible apply Own.set_at); (focus (show _ ≤ _; omega)))))
    · first | exact trivial | exact hX | exact hX.below (below1 _) | exact RdIf.gone | exact hX.keep ((Below.refl _ _).setCell (by first | omega | (dsimp only; omega)) _)
    · exact (by first | exact XStab.true | exact XStab.rd | exact XStab.rdIf)
    · first | exact fun _ _ h => h.2 | exact fun _ _ h => h | exact fun h => absurd h (by decide)
    try simp only [upd, updI, List.map_cons, List.map_nil, eq_self, if_true, if_false, reduceIte, Nat.add_eq_left, Nat.left_eq_add, Nat.reduceEqDiff, List.set_cons_zero, List.set_cons_succ, hF]
    clear hK K hF hO
    try simp only [Act.put, List.setIfInBounds_toArray, List.set_cons_zero, List.set_cons_succ]
    refine Sim.done (by kernel_rfl) (fun w1 hO hX => ?_) _
    (try simp only [World.size_alloc1, World.size_drew, Nat.reduceAdd] at hO); (try simp only [upd, updI, List.map_cons, List.map_nil, eq_self, if_true, if_false, reduceIte, Nat.add_eq_left, Nat.left_eq_add, Nat.reduceEqDiff, List.set_cons_zero, List.set_cons_succ] at hO)
    have hF := hO; (try simp only [Own, Item.Holds, apartI, CellsAt, Nat.reduceAdd, Nat.zero_add, List.mem_cons, List.not_mem_nil, or_false, forall_eq_or_imp, forall_eq, ne_eq, false_imp_iff, implies_true, and_true] at hF)
    rotate_left 1
    go_simp
    apply hK _ _ _ (fun _ => True)
    · (repeat (first | (with_reducible exact hO) | (with_reducible apply Own.alloc) | (with_reducible apply Own.drew) | ((with_reducible apply Own.set_at); (focus (show _ ≤ _; omega)))))
    · exact trivial
    · exact XStab.true
    · exact fun _ _ h => h.2
    generalize w0.heap.size = p6
    clear hO
    clear hK K
    try simp only [Act.put, List.setIfInBounds_toArray, List.set_cons_zero, List.set_cons_succ]
    refine Sim.many (rs := [2, 6]) (by kernel_rfl) (by decide) ?_
    refine AllS.cons (oi := { dst := some 9, op := Op.load 28 (Operand.tmp 2), type := 28, pos := "l16_canons.go:96", after := #[{ on := 6, ground := Ground.gcOnly Departure.lateStores }], guard := none }) rfl (by rfl) (fun w0 hO hX K hK => ?_) ?_
    rotate_left
    refine AllS.cons (oi := { dst := none, op := Op.store 101 (Operand.tmp 5) (Operand.tmp 8), type := 0, pos := "l16_canons.go:96", after := #[{ on := 4, ground := Ground.data }, { on := 1, ground := Ground.data }, { on := 0, ground := Ground.phase }, { on := 1, ground := Ground.phase }, { on := 2, ground := Ground.textOnly Departure.lateStores }, { on := 3, ground := Ground.textOnly Departure.lateStores }, { on := 4, ground := Ground.phase }, { on := 5, ground := Ground.phase }], guard := none }) rfl (by rfl) (fun w0 hO hX K hK => ?_) ?_
    rotate_left
    exact AllS.nil
    rotate_right 2
    have hF := hO; (try simp only [Own, Item.Holds, apartI, CellsAt, Nat.reduceAdd, Nat.zero_add, List.mem_cons, List.not_mem_nil, or_false, forall_eq_or_imp, forall_eq, ne_eq, false_imp_iff, implies_true, and_true] at hF)
    go_simp
    apply hK _ _ _ (fun _ => True)
    (repeat (first | (with_reducible exact hO) | (with_reducible apply Own.alloc) | (with_reducible apply Own.drew) | ((with_reducible apply Own.set_at); (focus (show _ ≤ _; omega)))))
    · first | exact trivial | exact hX | exact hX.below (below1 _) | exact RdIf.gone | exact hX.keep ((Below.refl _ _).setCell (by first | omega | (dsimp only; omega)) _)
    · exact (by first | exact XStab.true | exact XStab.rd | exact XStab.rdIf)
    · first | exact fun _ _ h => h.2 | exact fun _ _ h => h | exact fun h => absurd h (by decide)
    try simp only [upd, updI, List.map_cons, List.map_nil, eq_self, if_true, if_false, reduceIte, Nat.add_eq_left, Nat.left_eq_add, Nat.reduceEqDiff, List.set_cons_zero, List.set_cons_succ, hF]
    clear hK K hF hO
    try simp only [Act.put, List.setIfInBounds_toArray, List.set_cons_zero, List.set_cons_succ]
    refine Sim.sP (i := 3) (d := some 10) (h := ?_)
    refine Sim.one' (i := 6) (oi := { dst := none, op := Op.store 101 (Operand.tmp 5) (Operand.tmp 8), type := 0, pos := "l16_canons.go:96", after := #[{ on := 4, ground := Ground.data }, { on := 1, ground := Ground.data }, { on := 0, ground := Ground.phase }, { on := 1, ground := Ground.phase }, { on := 2, ground := Ground.textOnly Departure.lateStores }, { on := 3, ground := Ground.textOnly Departure.lateStores }, { on := 4, ground := Ground.phase }, { on := 5, ground := Ground.phase }], guard := none }) (by kernel_rfl) rfl (by rfl) (fun w0 hO hX K hK => ?_)
    have hF := hO; (try simp only [Own, Item.Holds, apartI, CellsAt, Nat.reduceAdd, Nat.zero_add, List.mem_cons, List.not_mem_nil, or_false, forall_eq_or_imp, forall_eq, ne_eq, false_imp_iff, implies_true, and_true] at hF)
    go_simp
    apply hK _ _ _ (fun _ => True)
    (repeat (first | (with_reducible exact hO) | (with_reducible apply Own.alloc) | (with_reducible apply Own.drew) | ((with_reducible apply Own.set_at); (focus (show _ ≤ _; omega)))))
    · first | exact trivial | exact hX | exact hX.below (below1 _) | exact RdIf.gone | exact hX.keep ((Below.refl _ _).setCell (by first | omega | (dsimp only; omega)) _)
    · exact (by first | exact XStab.true | exact XStab.rd | exact XStab.rdIf)
    · first | exact fun _ _ h => h.2 | exact fun _ _ h => h | exact fun h => absurd h (by decide)
    try simp only [upd, updI, List.map_cons, List.map_nil, eq_self, if_true, if_false, reduceIte, Nat.add_eq_left, Nat.left_eq_add, Nat.reduceEqDiff, List.set_cons_zero, List.set_cons_succ, hF]
    clear hK K hF hO
    try simp only [Act.put, List.setIfInBounds_toArray, List.set_cons_zero, List.set_cons_succ]
    refine Sim.one' (i := 7) (oi := { dst := none, op := Op.store 101 (Operand.tmp 6) (Operand.tmp 10), type := 0, pos := "l16_canons.go:96", after := #[{ on := 5, ground := Ground.data }, { on := 3, ground := Ground.data }, { on := 6, ground := Ground.chain }, { on := 0, ground := Ground.phase }, { on := 1, ground := Ground.phase }, { on := 2, ground := Ground.phase }, { on := 3, ground := Ground.phase }, { on := 4, ground := Ground.phase }, { on := 5, ground := Ground.phase }, { on := 6, ground := Ground.phase }], guard := none }) (by kernel_rfl) rfl (by rfl) (fun w0 hO hX K hK => ?_)
    have hF := hO; (try simp only [Own, Item.Holds, apartI, CellsAt, Nat.reduceAdd, Nat.zero_add, List.mem_cons, List.not_mem_nil, or_false, forall_eq_or_imp, forall_eq, ne_eq, false_imp_iff, implies_true, and_true] at hF)
    go_simp
    apply hK _ _ _ (fun _ => True)
    (repeat (first | (with_reducible exact hO) | (with_reducible apply Own.alloc) | (with_reducible apply Own.drew) | ((with_reducible apply Own.set_at); (focus (show _ ≤ _; omega)))))
    · first | exact trivial | exact hX | exact hX.below (below1 _) | exact RdIf.gone | exact hX.keep ((Below.refl _ _).setCell (by first | omega | (dsimp only; omega)) _)
    · exact (by first | exact XStab.true | exact XStab.rd | exact XStab.rdIf)
    · first | exact fun _ _ h => h.2 | exact fun _ _ h => h | exact fun h => absurd h (by decide)
    try simp only [upd, updI, List.map_cons, List.map_nil, eq_self, if_true, if_false, reduceIte, Nat.add_eq_left, Nat.left_eq_add, Nat.reduceEqDiff, List.set_cons_zero, List.set_cons_succ, hF]
    clear hK K hF hO
    try simp only [Act.put, List.setIfInBounds_toArray, List.set_cons_zero, List.set_cons_succ]
    refine Sim.done (by kernel_rfl) (fun w1 hO hX => ?_) _
    (try simp only [World.size_alloc1, World.size_drew, Nat.reduceAdd] at hO); (try simp only [upd, updI, List.map_cons, List.map_nil, eq_self, if_true, if_false, reduceIte, Nat.add_eq_left, Nat.left_eq_add, Nat.reduceEqDiff, List.set_cons_zero, List.set_cons_succ] at hO)
    have hF := hO; (try simp only [Own, Item.Holds, apartI, CellsAt, Nat.reduceAdd, Nat.zero_add, List.mem_cons, List.not_mem_nil, or_false, forall_eq_or_imp, forall_eq, ne_eq, false_imp_iff, implies_true, and_true] at hF)
    rotate_left 1
    have hF := hO; (try simp only [Own, Item.Holds, apartI, CellsAt, Nat.reduceAdd, Nat.zero_add, List.mem_cons, List.not_mem_nil, or_false, forall_eq_or_imp, forall_eq, ne_eq, false_imp_iff, implies_true, and_true] at hF)
    go_simp
    apply hK _ _ _ (fun _ => True)
    (repeat (first | (with_reducible exact hO) | (with_reducible apply Own.alloc) | (with_reducible apply Own.drew) | ((with_reducible apply Own.set_at); (focus (show _ ≤ _; omega)))))
    · first | exact trivial | exact hX | exact hX.below (below1 _) | exact RdIf.gone | exact hX.keep ((Below.refl _ _).setCell (by first | omega | (dsimp only; omega)) _)
    · exact (by first | exact XStab.true | exact XStab.rd | exact XStab.rdIf)
    · first | exact fun _ _ h => h.2 | exact fun _ _ h => h | exact fun h => absurd h (by decide)
    try simp only [upd, updI, List.map_cons, List.map_nil, eq_self, if_true, if_false, reduceIte, Nat.add_eq_left, Nat.left_eq_add, Nat.reduceEqDiff, List.set_cons_zero, List.set_cons_succ, hF]
    clear hK K hF hO
    try simp only [Act.put, List.setIfInBounds_toArray, List.set_cons_zero, List.set_cons_succ]
    refine Sim.sO (i := 2) (d := some 9) (v := ?_) (hy := ?_) (h := ?_)
    rotate_left
    · first | refine Or.inl ⟨by rfl, fun w hO => ?_⟩ | (refine Or.inr ⟨by rfl, ?_⟩; with_reducible rfl)
      first | done | (have hF := hO; (try simp only [Own, Item.Holds, apartI, CellsAt, Nat.reduceAdd, Nat.zero_add, List.mem_cons, List.not_mem_nil, or_false, forall_eq_or_imp, forall_eq, ne_eq, false_imp_iff, implies_true, and_true] at hF); refine Out.same ?_; go_simp; all_goals with_reducible rfl)
    refine Sim.sP (i := 3) (d := some 10) (h := ?_)
    refine Sim.one' (i := 7) (oi := { dst := none, op := Op.store 101 (Operand.tmp 6) (Operand.tmp 10), type := 0, pos := "l16_canons.go:96", after := #[{ on := 5, ground := Ground.data }, { on := 3, ground := Ground.data }, { on := 6, ground := Ground.chain }, { on := 0, ground := Ground.phase }, { on := 1, ground := Ground.phase }, { on := 2, ground := Ground.phase }, { on := 3, ground := Ground.phase }, { on := 4, ground := Ground.phase }, { on := 5, ground := Ground.phase }, { on := 6, ground := Ground.phase }], guard := none }) (by kernel_rfl) rfl (by rfl) (fun w0 hO hX K hK => ?_)
    have hF := hO; (try simp only [Own, Item.Holds, apartI, CellsAt, Nat.reduceAdd, Nat.zero_add, List.mem_cons, List.not_mem_nil, or_false, forall_eq_or_imp, forall_eq, ne_eq, false_imp_iff, implies_true, and_true] at hF)
    go_simp
    apply hK _ _ _ (fun _ => True)
    (repeat (first | (with_reducible exact hO) | (with_reducible apply Own.alloc) | (with_reducible apply Own.drew) | ((with_reducible apply Own.set_at); (focus (show _ ≤ _; omega)))))
    · first | exact trivial | exact hX | exact hX.below (below1 _) | exact RdIf.gone | exact hX.keep ((Below.refl _ _).setCell (by first | omega | (dsimp only; omega)) _)
    · exact (by first | exact XStab.true | exact XStab.rd | exact XStab.rdIf)
    · first | exact fun _ _ h => h.2 | exact fun _ _ h => h | exact fun h => absurd h (by decide)
    try simp only [upd, updI, List.map_cons, List.map_nil, eq_self, if_true, if_false, reduceIte, Nat.add_eq_left, Nat.left_eq_add, Nat.reduceEqDiff, List.set_cons_zero, List.set_cons_succ, hF]
    clear hK K hF hO
    try simp only [Act.put, List.setIfInBounds_toArray, List.set_cons_zero, List.set_cons_succ]
    refine Sim.done (by kernel_rfl) (fun w1 hO hX => ?_) _
    (try simp only [World.size_alloc1, World.size_drew, Nat.reduceAdd] at hO); (try simp only [upd, updI, List.map_cons, List.map_nil, eq_self, if_true, if_false, reduceIte, Nat.add_eq_left, Nat.left_eq_add, Nat.reduceEqDiff, List.set_cons_zero, List.set_cons_succ] at hO)
    have hF := hO; (try simp only [Own, Item.Holds, apartI, CellsAt, Nat.reduceAdd, Nat.zero_add, List.mem_cons, List.not_mem_nil, or_false, forall_eq_or_imp, forall_eq, ne_eq, false_imp_iff, implies_true, and_true] at hF)
    rotate_left 1
    go_simp
    apply hK _ _ _ (fun _ => True)
    · (repeat (first | (with_reducible exact hO) | (with_reducible apply Own.alloc) | (with_reducible apply Own.drew) | ((with_reducible apply Own.set_at); (focus (show _ ≤ _; omega)))))
    · exact trivial
    · exact XStab.true
    · exact fun _ _ h => h.2
    generalize w0.heap.size = p6
    clear hO
    clear hK K
    try simp only [Act.put, List.setIfInBounds_toArray, List.set_cons_zero, List.set_cons_succ]
    refine Sim.many (rs := [2, 4]) (by kernel_rfl) (by decide) ?_
    refine AllS.cons (oi := { dst := some 9, op := Op.load 28 (Operand.tmp 2), type := 28, pos := "l16_canons.go:96", after := #[{ on := 6, ground := Ground.gcOnly Departure.lateStores }], guard := none }) rfl (by rfl) (fun w0 hO hX K hK => ?_) ?_
    rotate_left
    refine AllS.cons (oi := { dst := some 5, op := Op.alloc 101, type := 0, pos := "l16_canons.go:96", after := #[], guard := none }) rfl (by rfl) (fun w0 hO hX K hK => ?_) ?_
    rotate_left
    exact AllS.nil
    rotate_right 2
    have hF := hO; (try simp only [Own, Item.Holds, apartI, CellsAt, Nat.reduceAdd, Nat.zero_add, List.mem_cons, List.not_mem_nil, or_false, forall_eq_or_imp, forall_eq, ne_eq, false_imp_iff, implies_true, and_true] at hF)
    go_simp
    apply hK _ _ _ (fun _ => True)
    (repeat (first | (with_reducible exact hO) | (with_reducible apply Own.alloc) | (with_reducible apply Own.drew) | ((with_reducible apply Own.set_at); (focus (show _ ≤ _; omega)))))
    · first | exact trivial | exact hX | exact hX.below (below1 _) | exact RdIf.gone | exact hX.keep ((Below.refl _ _).setCell (by first | omega | (dsimp only; omega)) _)
    · exact (by first | exact XStab.true | exact XStab.rd | exact XStab.rdIf)
    · first | exact fun _ _ h => h.2 | exact fun _ _ h => h | exact fun h => absurd h (by decide)
    try simp only [upd, updI, List.map_cons, List.map_nil, eq_self, if_true, if_false, reduceIte, Nat.add_eq_left, Nat.left_eq_add, Nat.reduceEqDiff, List.set_cons_zero, List.set_cons_succ, hF]
    clear hK K hF hO
    try simp only [Act.put, List.setIfInBounds_toArray, List.set_cons_zero, List.set_cons_succ]
    refine Sim.sP (i := 3) (d := some 10) (h := ?_)
    refine Sim.one' (i := 4) (oi := { dst := some 5, op := Op.alloc 101, type := 0, pos := "l16_canons.go:96", after := #[], guard := none }) (by kernel_rfl) rfl (by rfl) (fun w0 hO hX K hK => ?_)
    go_simp
    apply hK _ _ _ (fun _ => True)
    · (repeat (first | (with_reducible exact hO) | (with_reducible apply Own.alloc) | (with_reducible apply Own.drew) | ((with_reducible apply Own.set_at); (focus (show _ ≤ _; omega)))))
    · exact trivial
    · exact XStab.true
    · exact fun _ _ h => h.2
    generalize w0.heap.size = p5
    clear hO
    clear hK K
    try simp only [Act.put, List.setIfInBounds_toArray, List.set_cons_zero, List.set_cons_succ]
    refine Sim.one' (i := 6) (oi := { dst := none, op := Op.store 101 (Operand.tmp 5) (Operand.tmp 8), type := 0, pos := "l16_canons.go:96", after := #[{ on := 4, ground := Ground.data }, { on := 1, ground := Ground.data }, { on := 0, ground := Ground.phase }, { on := 1, ground := Ground.phase }, { on := 2, ground := Ground.textOnly Departure.lateStores }, { on := 3, ground := Ground.textOnly Departure.lateStores }, { on := 4, ground := Ground.phase }, { on := 5, ground := Ground.phase }], guard := none }) (by kernel_rfl) rfl (by rfl) (fun w0 hO hX K hK => ?_)
    have hF := hO; (try simp only [Own, Item.Holds, apartI, CellsAt, Nat.reduceAdd, Nat.zero_add, List.mem_cons, List.not_mem_nil, or_false, forall_eq_or_imp, forall_eq, ne_eq, false_imp_iff, implies_true, and_true] at hF)
    go_simp
    apply hK _ _ _ (fun _ => True)
    (repeat (first | (with_reducible exact hO) | (with_reducible apply Own.alloc) | (with_reducible apply Own.drew) | ((with_reducible apply Own.set_at); (focus (show _ ≤ _; omega)))))
    · first | exact trivial | exact hX | exact hX.below (below1 _) | exact RdIf.gone | exact hX.keep ((Below.refl _ _).setCell (by first | omega | (dsimp only; omega)) _)
    · exact (by first | exact XStab.true | exact XStab.rd | exact XStab.rdIf)
    · first | exact fun _ _ h => h.2 | exact fun _ _ h => h | exact fun h => absurd h (by decide)
    try simp only [upd, updI, List.map_cons, List.map_nil, eq_self, if_true, if_false, reduceIte, Nat.add_eq_left, Nat.left_eq_add, Nat.reduceEqDiff, List.set_cons_zero, List.set_cons_succ, hF]
    clear hK K hF hO
    try simp only [Act.put, List.setIfInBounds_toArray, List.set_cons_zero, List.set_cons_succ]
    refine Sim.one' (i := 7) (oi := { dst := none, op := Op.store 101 (Operand.tmp 6) (Operand.tmp 10), type := 0, pos := "l16_canons.go:96", after := #[{ on := 5, ground := Ground.data }, { on := 3, ground := Ground.data }, { on := 6, ground := Ground.chain }, { on := 0, ground := Ground.phase }, { on := 1, ground := Ground.phase }, { on := 2, ground := Ground.phase }, { on := 3, ground := Ground.phase }, { on := 4, ground := Ground.phase }, { on := 5, ground := Ground.phase }, { on := 6, ground := Ground.phase }], guard := none }) (by kernel_rfl) rfl (by rfl) (fun w0 hO hX K hK => ?_)
    have hF := hO; (try simp only [Own, Item.Holds, apartI, CellsAt, Nat.reduceAdd, Nat.zero_add, List.mem_cons, List.not_mem_nil, or_false, forall_eq_or_imp, forall_eq, ne_eq, false_imp_iff, implies_true, and_true] at hF)
    go_simp
    apply hK _ _ _ (fun _ => True)
    (repeat (first | (with_reducible exact hO) | (with_reducible apply Own.alloc) | (with_reducible apply Own.drew) | ((with_reducible apply Own.set_at); (focus (show _ ≤ _; omega)))))
    · first | exact trivial | exact hX | exact hX.below (below1 _) | exact RdIf.gone | exact hX.keep ((Below.refl _ _).setCell (by first | omega | (dsimp only; omega)) _)
    · exact (by first | exact XStab.true | exact XStab.rd | exact XStab.rdIf)
    · first | exact fun _ _ h => h.2 | exact fun _ _ h => h | exact fun h => absurd h (by decide)
    try simp only [upd, updI, List.map_cons, List.map_nil, eq_self, if_true, if_false, reduceIte, Nat.add_eq_left, Nat.left_eq_add, Nat.reduceEqDiff, List.set_cons_zero, List.set_cons_succ, hF]
    clear hK K hF hO
    try simp only [Act.put, List.setIfInBounds_toArray, List.set_cons_zero, List.set_cons_succ]
    refine Sim.done (by kernel_rfl) (fun w1 hO hX => ?_) _
    (try simp only [World.size_alloc1, World.size_drew, Nat.reduceAdd] at hO); (try simp only [upd, updI, List.map_cons, List.map_nil, eq_self, if_true, if_false, reduceIte, Nat.add_eq_left, Nat.left_eq_add, Nat.reduceEqDiff, List.set_cons_zero, List.set_cons_succ] at hO)
    have hF := hO; (try simp only [Own, Item.Holds, apartI, CellsAt, Nat.reduceAdd, Nat.zero_add, List.mem_cons, List.not_mem_nil, or_false, forall_eq_or_imp, forall_eq, ne_eq, false_imp_iff, implies_true, and_true] at hF)
    rotate_left 1
    go_simp
    apply hK _ _ _ (fun _ => True)
    · (repeat (first | (with_reducible exact hO) | (with_reducible apply Own.alloc) | (with_reducible apply Own.drew) | ((with_reducible apply Own.set_at); (focus (show _ ≤ _; omega)))))
    · exact trivial
    · exact XStab.true
    · exact fun _ _ h => h.2
    generalize w0.heap.size = p5
    clear hO
    clear hK K
    try simp only [Act.put, List.setIfInBounds_toArray, List.set_cons_zero, List.set_cons_succ]
    refine Sim.many (rs := [2, 6]) (by kernel_rfl) (by decide) ?_
    refine AllS.cons (oi := { dst := some 9, op := Op.load 28 (Operand.tmp 2), type := 28, pos := "l16_canons.go:96", after := #[{ on := 6, ground := Ground.gcOnly Departure.lateStores }], guard := none }) rfl (by rfl) (fun w0 hO hX K hK => ?_) ?_
    rotate_left
    refine AllS.cons (oi := { dst := none, op := Op.store 101 (Operand.tmp 5) (Operand.tmp 8), type := 0, pos := "l16_canons.go:96", after := #[{ on := 4, ground := Ground.data }, { on := 1, ground := Ground.data }, { on := 0, ground := Ground.phase }, { on := 1, ground := Ground.phase }, { on := 2, ground := Ground.textOnly Departure.lateStores }, { on := 3, ground := Ground.textOnly Departure.lateStores }, { on := 4, ground := Ground.phase }, { on := 5, ground := Ground.phase }], guard := none }) rfl (by rfl) (fun w0 hO hX K hK => ?_) ?_
    rotate_left
    exact AllS.nil
    rotate_right 2
    have hF := hO; (try simp only [Own, Item.Holds, apartI, CellsAt, Nat.reduceAdd, Nat.zero_add, List.mem_cons, List.not_mem_nil, or_false, forall_eq_or_imp, forall_eq, ne_eq, false_imp_iff, implies_true, and_true] at hF)
    go_simp
    apply hK _ _ _ (fun _ => True)
    (repeat (first | (with_reducible exact hO) | (with_reducible apply Own.alloc) | (with_reducible apply Own.drew) | ((with_reducible apply Own.set_at); (focus (show _ ≤ _; omega)))))
    · first | exact trivial | exact hX | exact hX.below (below1 _) | exact RdIf.gone | exact hX.keep ((Below.refl _ _).setCell (by first | omega | (dsimp only; omega)) _)
    · exact (by first | exact XStab.true | exact XStab.rd | exact XStab.rdIf)
    · first | exact fun _ _ h => h.2 | exact fun _ _ h => h | exact fun h => absurd h (by decide)
    try simp only [upd, updI, List.map_cons, List.map_nil, eq_self, if_true, if_false, reduceIte, Nat.add_eq_left, Nat.left_eq_add, Nat.reduceEqDiff, List.set_cons_zero, List.set_cons_succ, hF]
    clear hK K hF hO
    try simp only [Act.put, List.setIfInBounds_toArray, List.set_cons_zero, List.set_cons_succ]
    refine Sim.sP (i := 3) (d := some 10) (h := ?_)
    refine Sim.one' (i := 6) (oi := { dst := none, op := Op.store 101 (Operand.tmp 5) (Operand.tmp 8), type := 0, pos := "l16_canons.go:96", after := #[{ on := 4, ground := Ground.data }, { on := 1, ground := Ground.data }, { on := 0, ground := Ground.phase }, { on := 1, ground := Ground.phase }, { on := 2, ground := Ground.textOnly Departure.lateStores }, { on := 3, ground := Ground.textOnly Departure.lateStores }, { on := 4, ground := Ground.phase }, { on := 5, ground := Ground.phase }], guard := none }) (by kernel_rfl) rfl (by rfl) (fun w0 hO hX K hK => ?_)
    have hF := hO; (try simp only [Own, Item.Holds, apartI, CellsAt, Nat.reduceAdd, Nat.zero_add, List.mem_cons, List.not_mem_nil, or_false, forall_eq_or_imp, forall_eq, ne_eq, false_imp_iff, implies_true, and_true] at hF)
    go_simp
    apply hK _ _ _ (fun _ => True)
    (repeat (first | (with_reducible exact hO) | (with_reducible apply Own.alloc) | (with_reducible apply Own.drew) | ((with_reducible apply Own.set_at); (focus (show _ ≤ _; omega)))))
    · first | exact trivial | exact hX | exact hX.below (below1 _) | exact RdIf.gone | exact hX.keep ((Below.refl _ _).setCell (by first | omega | (dsimp only; omega)) _)
    · exact (by first | exact XStab.true | exact XStab.rd | exact XStab.rdIf)
    · first | exact fun _ _ h => h.2 | exact fun _ _ h => h | exact fun h => absurd h (by decide)
    try simp only [upd, updI, List.map_cons, List.map_nil, eq_self, if_true, if_false, reduceIte, Nat.add_eq_left, Nat.left_eq_add, Nat.reduceEqDiff, List.set_cons_zero, List.set_cons_succ, hF]
    clear hK K hF hO
    try simp only [Act.put, List.setIfInBounds_toArray, List.set_cons_zero, List.set_cons_succ]
    refine Sim.one' (i := 7) (oi := { dst := none, op := Op.store 101 (Operand.tmp 6) (Operand.tmp 10), type := 0, pos := "l16_canons.go:96", after := #[{ on := 5, ground := Ground.data }, { on := 3, ground := Ground.data }, { on := 6, ground := Ground.chain }, { on := 0, ground := Ground.phase }, { on := 1, ground := Ground.phase }, { on := 2, ground := Ground.phase }, { on := 3, ground := Ground.phase }, { on := 4, ground := Ground.phase }, { on := 5, ground := Ground.phase }, { on := 6, ground := Ground.phase }], guard := none }) (by kernel_rfl) rfl (by rfl) (fun w0 hO hX K hK => ?_)
    have hF := hO; (try simp only [Own, Item.Holds, apartI, CellsAt, Nat.reduceAdd, Nat.zero_add, List.mem_cons, List.not_mem_nil, or_false, forall_eq_or_imp, forall_eq, ne_eq, false_imp_iff, implies_true, and_true] at hF)
    go_simp
    apply hK _ _ _ (fun _ => True)
    (repeat (first | (with_reducible exact hO) | (with_reducible apply Own.alloc) | (with_reducible apply Own.drew) | ((with_reducible apply Own.set_at); (focus (show _ ≤ _; omega)))))
    · first | exact trivial | exact hX | exact hX.below (below1 _) | exact RdIf.gone | exact hX.keep ((Below.refl _ _).setCell (by first | omega | (dsimp only; omega)) _)
    · exact (by first | exact XStab.true | exact XStab.rd | exact XStab.rdIf)
    · first | exact fun _ _ h => h.2 | exact fun _ _ h => h | exact fun h => absurd h (by decide)
    try simp only [upd, updI, List.map_cons, List.map_nil, eq_self, if_true, if_false, reduceIte, Nat.add_eq_left, Nat.left_eq_add, Nat.reduceEqDiff, List.set_cons_zero, List.set_cons_succ, hF]
    clear hK K hF hO
    try simp only [Act.put, List.setIfInBounds_toArray, List.set_cons_zero, List.set_cons_succ]
    refine Sim.done (by kernel_rfl) (fun w1 hO hX => ?_) _
    (try simp only [World.size_alloc1, World.size_drew, Nat.reduceAdd] at hO); (try simp only [upd, updI, List.map_cons, List.map_nil, eq_self, if_true, if_false, reduceIte, Nat.add_eq_left, Nat.left_eq_add, Nat.reduceEqDiff, List.set_cons_zero, List.set_cons_succ] at hO)
    have hF := hO; (try simp only [Own, Item.Holds, apartI, CellsAt, Nat.reduceAdd, Nat.zero_add, List.mem_cons, List.not_mem_nil, or_false, forall_eq_or_imp, forall_eq, ne_eq, false_imp_iff, implies_true, and_true] at hF)
    rotate_left 1
    have hF := hO; (try simp only [Own, Item.Holds, apartI, CellsAt, Nat.reduceAdd, Nat.zero_add, List.mem_cons, List.not_mem_nil, or_false, forall_eq_or_imp, forall_eq, ne_eq, false_imp_iff, implies_true, and_true] at hF)
    go_simp
    apply hK _ _ _ (fun _ => True)
    (repeat (first | (with_reducible exact hO) | (with_reducible apply Own.alloc) | (with_reducible apply Own.drew) | ((with_reducible apply Own.set_at); (focus (show _ ≤ _; omega)))))
    · first | exact trivial | exact hX | exact hX.below (below1 _) | exact RdIf.gone | exact hX.keep ((Below.refl _ _).setCell (by first | omega | (dsimp only; omega)) _)
    · exact (by first | exact XStab.true | exact XStab.rd | exact XStab.rdIf)
    · first | exact fun _ _ h => h.2 | exact fun _ _ h => h | exact fun h => absurd h (by decide)
    try simp only [upd, updI, List.map_cons, List.map_nil, eq_self, if_true, if_false, reduceIte, Nat.add_eq_left, Nat.left_eq_add, Nat.reduceEqDiff, List.set_cons_zero, List.set_cons_succ, hF]
    clear hK K hF hO
    try simp only [Act.put, List.setIfInBounds_toArray, List.set_cons_zero, List.set_cons_succ]
    refine Sim.sO (i := 2) (d := some 9) (v := ?_) (hy := ?_) (h := ?_)
    rotate_left
    · first | refine Or.inl ⟨by rfl, fun w hO => ?_⟩ | (refine Or.inr ⟨by rfl, ?_⟩; with_reducible rfl)
      first | done | (have hF := hO; (try simp only [Own, Item.Holds, apartI, CellsAt, Nat.reduceAdd, Nat.zero_add, List.mem_cons, List.not_mem_nil, or_false, forall_eq_or_imp, forall_eq, ne_eq, false_imp_iff, implies_true, and_true] at hF); refine Out.same ?_; go_simp; all_goals with_reducible rfl)
    refine Sim.sP (i := 3) (d := some 10) (h := ?_)
    refine Sim.one' (i := 7) (oi := { dst := none, op := Op.store 101 (Operand.tmp 6) (Operand.tmp 10), type := 0, pos := "l16_canons.go:96", after := #[{ on := 5, ground := Ground.data }, { on := 3, ground := Ground.data }, { on := 6, ground := Ground.chain }, { on := 0, ground := Ground.phase }, { on := 1, ground := Ground.phase }, { on := 2, ground := Ground.phase }, { on := 3, ground := Ground.phase }, { on := 4, ground := Ground.phase }, { on := 5, ground := Ground.phase }, { on := 6, ground := Ground.phase }], guard := none }) (by kernel_rfl) rfl (by rfl) (fun w0 hO hX K hK => ?_)
    have hF := hO; (try simp only [Own, Item.Holds, apartI, CellsAt, Nat.reduceAdd, Nat.zero_add, List.mem_cons, List.not_mem_nil, or_false, forall_eq_or_imp, forall_eq, ne_eq, false_imp_iff, implies_true, and_true] at hF)
    go_simp
    apply hK _ _ _ (fun _ => True)
    (repeat (first | (with_reducible exact hO) | (with_reducible apply Own.alloc) | (with_reducible apply Own.drew) | ((with_reducible apply Own.set_at); (focus (show _ ≤ _; omega)))))
    · first | exact trivial | exact hX | exact hX.below (below1 _) | exact RdIf.gone | exact hX.keep ((Below.refl _ _).setCell (by first | omega | (dsimp only; omega)) _)
    · exact (by first | exact XStab.true | exact XStab.rd | exact XStab.rdIf)
    · first | exact fun _ _ h => h.2 | exact fun _ _ h => h | exact fun h => absurd h (by decide)
    try simp only [upd, updI, List.map_cons, List.map_nil, eq_self, if_true, if_false, reduceIte, Nat.add_eq_left, Nat.left_eq_add, Nat.reduceEqDiff, List.set_cons_zero, List.set_cons_succ, hF]
    clear hK K hF hO
    try simp only [Act.put, List.setIfInBounds_toArray, List.set_cons_zero, List.set_cons_succ]
    refine Sim.done (by kernel_rfl) (fun w1 hO hX => ?_) _
    (try simp only [World.size_alloc1, World.size_drew, Nat.reduceAdd] at hO); (try simp only [upd, updI, List.map_cons, List.map_nil, eq_self, if_true, if_false, reduceIte, Nat.add_eq_left, Nat.left_eq_add, Nat.reduceEqDiff, List.set_cons_zero, List.set_cons_succ] at hO)
    have hF := hO; (try simp only [Own, Item.Holds, apartI, CellsAt, Nat.reduceAdd, Nat.zero_add, List.mem_cons, List.not_mem_nil, or_false, forall_eq_or_imp, forall_eq, ne_eq, false_imp_iff, implies_true, and_true] at hF)
    rotate_left 1
    all_goals first | exact key _ _ _ (flat16 hO (by simp)) | exact key _ _ _ ((flat16 hO (by simp)).perm (.swap _ _ _))
  · intro p5 p6 W1 hO
    have hF := True.intro
    have hU := True.intro
    gi_wp2_with fail
    gi_loopw [4] (fun t wr => ∃ (τ i j : Nat) (A1 A2 : Option Addr) (c1 c2 : Nat) (T1 : List Item), t = .int .i64 τ ∧ Hid (AtT a τ i ∧ AtT b τ j ∧ (onB a (τ : Int) || onB b (τ : Int)) = true) ∧ (i ≤ k ∧ j ≤ m ∧ τ ≤ moZ a b ∧ τ ≤ 46080) ∧
      Hid (∀ W, B W → SlAt W (.slice A1 (k - i) c1) (k - i) 6 (vcC (a.drop i)) ∧ SlAt W (.slice A2 (m - j) c2) (m - j) 6 (vcC (b.drop j))) ∧ T (meN a b τ) T1 ∧
      Own n B wr (.blk p5 [.slice A1 (k - i) c1, .int .i64 (sumT (a.take i))] :: .blk p6 [.slice A2 (m - j) c2, .int .i64 (sumT (b.take j))] :: .blk q2 [.slice A' m c'] :: .blk q1 [.slice A k c] :: T1)) (fun t _ => 50000 - (intOf t).toNat)
    case atStart => exact ⟨0, 0, 0, A, A', c, c', T0, rfl, ⟨at_zero (voB_iff.1 HVO.out.1).1, at_zero (voB_iff.1 HVO.out.2).1, by rw [show ((0 : Nat) : Int) = 0 from rfl, onB_zero]; rfl⟩, by omega, HP.out, hT0, hO⟩
    case round =>
      clear hO hT0 T0
      obtain ⟨τ, i, j, A1, A2, c1, c2, T1, rfl, HA, ⟨hi, hj, hτ, hτ2⟩, HS, hT1, hO⟩ := hrel
      have hF := True.intro
      have hU := True.intro
      obtain ⟨s1, hs1⟩ : ∃ s, sumT (a.take i) = s := ⟨_, rfl⟩
      obtain ⟨s2, hs2⟩ : ∃ s, sumT (b.take j) = s := ⟨_, rfl⟩
      obtain ⟨k1, hk1⟩ : ∃ x, k - i = x := ⟨_, rfl⟩
      obtain ⟨k2, hk2⟩ : ∃ x, m - j = x := ⟨_, rfl⟩
      obtain ⟨b1, hb1⟩ : ∃ x, (k1 == 0) = x := ⟨_, rfl⟩
      obtain ⟨b2, hb2⟩ : ∃ x, (k2 == 0) = x := ⟨_, rfl⟩
      have HV1 := hid (fun W => ovI_any A1 k1 c1 s1 b1 hb1 W)
      have HV2 := hid (fun W => ovI_any A2 k2 c2 s2 b2 hb2 W)
      rw [hs1, hs2, hk1, hk2] at hO
      rw [hk1, hk2] at HS
      have HK := hid (And.intro hk1 hk2)
      have HSS := hid (And.intro hs1 hs2)
      have HB := hid (And.intro hb1 hb2)
      have HT1 := hid hT1
      clear hs1 hs2 hk1 hk2 hb1 hb2 hT1
      by_cases hall : b1 = true ∧ b2 = true
      · obtain ⟨rfl, rfl⟩ := hall
        have hMM : moZ a b ≤ τ := at_over_iff HVO.out.1 HVO.out.2 HA.out.1 HA.out.2.1 (by have g1 := HN.out.1; have g2 := HK.out.1; have g3 := HB.out.1; simp at g3; omega) (by have g1 := HN.out.2; have g2 := HK.out.2; have g3 := HB.out.2; simp at g3; omega)
        have HE := hid (show moZ a b = τ by omega)
        clear hMM hF
        have hF := True.intro
        have hF := hO; (try simp only [Own, Item.Holds, apart_bb, apart_br, apart_rb, CellsAt, Nat.reduceAdd, Nat.zero_add, List.mem_cons, List.not_mem_nil, or_false, forall_eq_or_imp, forall_eq, ne_eq, false_imp_iff, implies_true, and_true] at hF)
        gi_wp2_with fail
        (refine ⟨trivial, ?_⟩; gi_at_call 81; apply own_atI hO; (repeat (first | (with_reducible exact hO) | (with_reducible apply Own.alloc) | (with_reducible apply Own.drew) | ((with_reducible apply Own.set_at); (focus (show _ ≤ _; omega))))); have hG := hF; clear hF; clear hO; intro hO; refine own_callI hO (fun hB => HV1.out _) ?_; clear hO; intro w1 hO; (try simp only [World.size_alloc1, World.size_drew, Nat.reduceAdd] at hO); (try simp only [upd, updI, List.map_cons, List.map_nil, eq_self, if_true, if_false, reduceIte, Nat.add_eq_left, Nat.left_eq_add, Nat.reduceEqDiff, List.set_cons_zero, List.set_cons_succ, hU, hG] at hO); clear hG; have hF := hO; (try simp only [Own, Item.Holds, apart_bb, apart_br, apart_rb, CellsAt, Nat.reduceAdd, Nat.zero_add, List.mem_cons, List.not_mem_nil, or_false, forall_eq_or_imp, forall_eq, ne_eq, false_imp_iff, implies_true, and_true] at hF))
        gi_wp2_with fail
        (refine ⟨trivial, ?_⟩; gi_at_call 81; apply own_atI hO; (repeat (first | (with_reducible exact hO) | (with_reducible apply Own.alloc) | (with_reducible apply Own.drew) | ((with_reducible apply Own.set_at); (focus (show _ ≤ _; omega))))); have hG := hF; clear hF; clear hO; intro hO; refine own_callI hO (fun hB => HV2.out _) ?_; clear hO; intro w1 hO; (try simp only [World.size_alloc1, World.size_drew, Nat.reduceAdd] at hO); (try simp only [upd, updI, List.map_cons, List.map_nil, eq_self, if_true, if_false, reduceIte, Nat.add_eq_left, Nat.left_eq_add, Nat.reduceEqDiff, List.set_cons_zero, List.set_cons_succ, hU, hG] at hO); clear hG; have hF := hO; (try simp only [Own, Item.Holds, apart_bb, apart_br, apart_rb, CellsAt, Nat.reduceAdd, Nat.zero_add, List.mem_cons, List.not_mem_nil, or_false, forall_eq_or_imp, forall_eq, ne_eq, false_imp_iff, implies_true, and_true] at hF))
        gi_wp2_with fail
        go_end0
        exact ⟨⟨_, rfl⟩, .inl ⟨meN a b τ, T1, by unfold meL; rw [HE.out], HT1.out, hO.2.2.2.2⟩⟩
      · have hmore : i < a.length ∨ j < b.length := by
          have g1 := HN.out; have g2 := HK.out; have g3 := HB.out
          refine Classical.byContradiction fun hc => hall ⟨?_, ?_⟩
          · rw [← g3.1]; simp; omega
          · rw [← g3.2]; simp; omega
        obtain ⟨s, hmin, hts, hsM, hs46, hon, hme, ua, ub, hup, la, lb⟩ := me_step HVO.out.1 HVO.out.2 HA.out.1 HA.out.2.1 HA.out.2.2 hmore
        have hB0 := hO.base
        obtain ⟨A3, c3, HF1, HS1⟩ := fr_up (s := (s : Int)) (B := B) HN.out.1 HVO.out.1 HA.out.1 (by omega) hB0 (fun W hW => by have := (HS.out W hW).1; rw [← HK.out.1] at this; exact this)
        obtain ⟨A4, c4, HF2, HS2⟩ := fr_up (s := (s : Int)) (B := B) HN.out.2 HVO.out.2 HA.out.2.1 (by omega) hB0 (fun W hW => by have := (HS.out W hW).2; rw [← HK.out.2] at this; exact this)
        rw [HK.out.1, HSS.out.1] at HF1
        rw [HK.out.2, HSS.out.2] at HF2
        obtain ⟨i', hi'⟩ : ∃ x, upT a i s = x := ⟨_, rfl⟩
        obtain ⟨j', hj'⟩ : ∃ x, upT b j s = x := ⟨_, rfl⟩
        rw [hi'] at HF1 HS1 ua hup la
        rw [hj'] at HF2 HS2 ub hup lb
        obtain ⟨E1, hE1⟩ : ∃ x, enT a i = x := ⟨_, rfl⟩
        obtain ⟨E2, hE2⟩ : ∃ x, enT b j = x := ⟨_, rfl⟩
        rw [hE1, hE2] at hmin
        have b1d : -9223372036854775808 ≤ E1 ∧ E1 ≤ 9223372036854775807 := by
          rw [← hE1]
          by_cases h : i < a.length
          · have := en_bd HVO.out.1 h; have := sum_all16 HVO.out.1; omega
          · rw [en_over (by omega)]; omega
        have b2d : -9223372036854775808 ≤ E2 ∧ E2 ≤ 9223372036854775807 := by
          rw [← hE2]
          by_cases h : j < b.length
          · have := en_bd HVO.out.2 h; have := sum_all16 HVO.out.2; omega
          · rw [en_over (by omega)]; omega
        have hm2 : (if E2 < E1 then E2 else E1) = (s : Int) := by split <;> omega
        have hl1 : (a.drop i).length = k1 := by rw [List.length_drop, HN.out.1, HK.out.1]
        have hl2 : (b.drop j).length = k2 := by rw [List.length_drop, HN.out.2, HK.out.2]
        have HE1 := hid (fun W (hW : B W) => enI_any A1 k1 c1 s1 E1 (a.drop i) W (HS.out W hW).1 hl1 (by rw [← HSS.out.1, enZ_is, hE1]) b1d)
        have HE2 := hid (fun W (hW : B W) => enI_any A2 k2 c2 s2 E2 (b.drop j) W (HS.out W hW).2 hl2 (by rw [← HSS.out.2, enZ_is, hE2]) b2d)
        obtain ⟨x, hx⟩ : ∃ x, hdN (a.drop i) = x := ⟨_, rfl⟩
        obtain ⟨y, hy⟩ : ∃ x, hdN (b.drop j) = x := ⟨_, rfl⟩
        have hx2 : ntT a (τ : Int) = x := by
          rw [← hx]
          by_cases h : i < a.length
          · obtain ⟨z, hz⟩ : ∃ z, a[i]? = some z := ⟨_, List.getElem?_eq_getElem h⟩
            rw [hdN_at hz, at_note HVO.out.1 HA.out.1 hz]
          · have e : i = a.length := by have := HN.out.1; omega
            have g := HA.out.1
            rw [e] at g
            rw [hdN_end (by omega), at_over g]
        have hy2 : ntT b (τ : Int) = y := by
          rw [← hy]
          by_cases h : j < b.length
          · obtain ⟨z, hz⟩ : ∃ z, b[j]? = some z := ⟨_, List.getElem?_eq_getElem h⟩
            rw [hdN_at hz, at_note HVO.out.2 HA.out.2.1 hz]
          · have e : j = b.length := by have := HN.out.2; omega
            have g := HA.out.2.1
            rw [e] at g
            rw [hdN_end (by omega), at_over g]
        have hmk : mkM a b (τ : Int) = ⟨τ, x, y⟩ := by unfold mkM; rw [hx2, hy2]
        rw [hmk] at hme
        have hpre : meN a b s <+: meL a b := me_pre hsM
        have hlen : (meN a b τ).length < (meL a b).length := by
          have := hpre.length_le
          rw [hme, List.length_append] at this
          simp at this
          omega
        have HX := hid (fun W (hW : B W) => ntI_any A1 k1 c1 s1 (a.drop i) x W (HS.out W hW).1 hl1 hx)
        have HYN := hid (fun W (hW : B W) => ntI_any A2 k2 c2 s2 (b.drop j) y W (HS.out W hW).2 hl2 hy)
        have HYL := hid (fun W (hW : Own n B W ([.blk p5 [.slice A1 k1 c1, .int .i64 s1], .blk p6 [.slice A2 k2 c2, .int .i64 s2], .blk q2 [.slice A' m c'], .blk q1 [.slice A k c]] ++ T1)) => HY.out [.blk p5 [.slice A1 k1 c1, .int .i64 s1], .blk p6 [.slice A2 k2 c2, .int .i64 s2], .blk q2 [.slice A' m c'], .blk q1 [.slice A k c]] (meN a b τ) ⟨τ, x, y⟩ T1 W HT1.out hW hlen)
        have HME := hid (And.intro hme hpre)
        have HUP := hid (And.intro ua (And.intro ub hon))
        have HF1' := hid HF1
        have HF2' := hid HF2
        have HSN := hid (fun W (hW : B W) => And.intro (HS1 W hW) (HS2 W hW))
        have HLB := hid (show i' ≤ k ∧ j' ≤ m by have := HN.out; omega)
        have hcc : b1 = false ∨ (b1 = true ∧ b2 = false) := by cases b1 <;> cases b2 <;> simp at hall ⊢
        clear hall hmore hmin hup la lb ua ub hon hme hpre HF1 HF2 HS1 HS2 hi' hj' hE1 hE2 b1d b2d hl1 hl2 hx hy hx2 hy2 hmk hlen hB0 hF
        have hF := True.intro
        have hF := hO; (try simp only [Own, Item.Holds, apart_bb, apart_br, apart_rb, CellsAt, Nat.reduceAdd, Nat.zero_add, List.mem_cons, List.not_mem_nil, or_false, forall_eq_or_imp, forall_eq, ne_eq, false_imp_iff, implies_true, and_true] at hF)
        rcases hcc with rfl | ⟨rfl, rfl⟩
        gi_wp2_with fail
        (refine ⟨trivial, ?_⟩; gi_at_call 81; apply own_atI hO; (repeat (first | (with_reducible exact hO) | (with_reducible apply Own.alloc) | (with_reducible apply Own.drew) | ((with_reducible apply Own.set_at); (focus (show _ ≤ _; omega))))); have hG := hF; clear hF; clear hO; intro hO; refine own_callI hO (fun hB => HV1.out _) ?_; clear hO; intro w1 hO; (try simp only [World.size_alloc1, World.size_drew, Nat.reduceAdd] at hO); (try simp only [upd, updI, List.map_cons, List.map_nil, eq_self, if_true, if_false, reduceIte, Nat.add_eq_left, Nat.left_eq_add, Nat.reduceEqDiff, List.set_cons_zero, List.set_cons_succ, hU, hG] at hO); clear hG; have hF := hO; (try simp only [Own, Item.Holds, apart_bb, apart_br, apart_rb, CellsAt, Nat.reduceAdd, Nat.zero_add, List.mem_cons, List.not_mem_nil, or_false, forall_eq_or_imp, forall_eq, ne_eq, false_imp_iff, implies_true, and_true] at hF))
        gi_wp2_with fail
        refine ⟨trivial, ?_⟩
        gi_wp2_with fail
        rotate_left
        gi_wp2_with fail
        (refine ⟨trivial, ?_⟩; gi_at_call 81; apply own_atI hO; (repeat (first | (with_reducible exact hO) | (with_reducible apply Own.alloc) | (with_reducible apply Own.drew) | ((with_reducible apply Own.set_at); (focus (show _ ≤ _; omega))))); have hG := hF; clear hF; clear hO; intro hO; refine own_callI hO (fun hB => HV1.out _) ?_; clear hO; intro w1 hO; (try simp only [World.size_alloc1, World.size_drew, Nat.reduceAdd] at hO); (try simp only [upd, updI, List.map_cons, List.map_nil, eq_self, if_true, if_false, reduceIte, Nat.add_eq_left, Nat.left_eq_add, Nat.reduceEqDiff, List.set_cons_zero, List.set_cons_succ, hU, hG] at hO); clear hG; have hF := hO; (try simp only [Own, Item.Holds, apart_bb, apart_br, apart_rb, CellsAt, Nat.reduceAdd, Nat.zero_add, List.mem_cons, List.not_mem_nil, or_false, forall_eq_or_imp, forall_eq, ne_eq, false_imp_iff, implies_true, and_true] at hF))
        gi_wp2_with fail
        (refine ⟨trivial, ?_⟩; gi_at_call 81; apply own_atI hO; (repeat (first | (with_reducible exact hO) | (with_reducible apply Own.alloc) | (with_reducible apply Own.drew) | ((with_reducible apply Own.set_at); (focus (show _ ≤ _; omega))))); have hG := hF; clear hF; clear hO; intro hO; refine own_callI hO (fun hB => HV2.out _) ?_; clear hO; intro w1 hO; (try simp only [World.size_alloc1, World.size_drew, Nat.reduceAdd] at hO); (try simp only [upd, updI, List.map_cons, List.map_nil, eq_self, if_true, if_false, reduceIte, Nat.add_eq_left, Nat.left_eq_add, Nat.reduceEqDiff, List.set_cons_zero, List.set_cons_succ, hU, hG] at hO); clear hG; have hF := hO; (try simp only [Own, Item.Holds, apart_bb, apart_br, apart_rb, CellsAt, Nat.reduceAdd, Nat.zero_add, List.mem_cons, List.not_mem_nil, or_false, forall_eq_or_imp, forall_eq, ne_eq, false_imp_iff, implies_true, and_true] at hF))
        gi_wp2_with fail
        all_goals
          clear HV1 HV2
          (apply own_codeI hO; (repeat (first | (with_reducible exact hO) | (with_reducible apply Own.alloc) | (with_reducible apply Own.drew) | ((with_reducible apply Own.set_at); (focus (show _ ≤ _; omega))))); have hG := hF; clear hF; clear hO; intro hO; (try simp only [World.size_alloc1, World.size_drew, Nat.reduceAdd] at hO); (try simp only [upd, updI, List.map_cons, List.map_nil, eq_self, if_true, if_false, reduceIte, Nat.add_eq_left, Nat.left_eq_add, Nat.reduceEqDiff, List.set_cons_zero, List.set_cons_succ, hU, hG] at hO); clear hG; have hF := hO; (try simp only [Own, Item.Holds, apart_bb, apart_br, apart_rb, CellsAt, Nat.reduceAdd, Nat.zero_add, List.mem_cons, List.not_mem_nil, or_false, forall_eq_or_imp, forall_eq, ne_eq, false_imp_iff, implies_true, and_true] at hF))
          clear hF
          refine region_invI [some 19, some 20, some 21, some 22, some 23, some 24, some 25, some 26, some 27] (fun i => [u19, u20, u21, u22, u23, u24, u25, u26, u27].getD i undef) (MI n lp B [.blk p5 [.slice A1 k1 c1, .int .i64 s1], .blk p6 [.slice A2 k2 c2, .int .i64 s2], .blk q2 [.slice A' m c'], .blk q1 [.slice A k c]] T T1 Jx (meN a b τ) τ (.agg #[.slice A1 k1 c1, .int .i64 s1]) (.agg #[.slice A2 k2 c2, .int .i64 s2]) x y) [(0, []), (1, []), (2, []), (3, [2]), (4, []), (5, [4, 3]), (6, [1, 3, 5]), (7, [0, 6, 5]), (8, [7])] (by kernel_rfl) (by kernel_rfl) (by decide) ?_ ?_ ?_ ?_
          · simp only [putsU, Act.put, List.setIfInBounds_toArray, List.set_cons_zero, List.set_cons_succ, List.getD_cons_zero, List.getD_cons_succ]
          · exact ⟨by simp, by simp, by simp, by simp, by simp, by simp, by simp, by simp, by simp, fun j h9 => by simp at h9, fun _ => hO.drew⟩
          · clear hO hU
            refine AllRI.cons ?_ ?_
            · intro l u w1 hl hp h K hK
              have h7 : l 7 = false := h.not7 (i := 0) (by omega) hl
              have hO := h.own h7
              refine wpOpIn_plain rfl (by rfl) (wpIn_of_wp ?_)
              simp only [putsU, Act.put, List.setIfInBounds_toArray, List.set_cons_zero, List.set_cons_succ]
              go_simp
              have hO2 := h.own h7
              have hh := hK (.func (.yield lp) #[] #[]) w1 ⟨fun _ => by simp [updU], by simpa [updL, updU] using h.c1, by simpa [updL, updU] using h.c2, by simpa [updL, updU] using h.c3, by simpa [updL, updU] using h.c4, by simpa [updL, updU] using h.c5, by simpa [updL, updU] using h.c6, fun h9 => absurd (show l 7 = true by simpa [updL] using h9) (by rw [h7]; decide), fun h9 => absurd (h.l8 (by simpa [updL] using h9)) (by rw [h7]; decide), h.pre.up hp, fun _ => hO2⟩
              simp only [putsU, updU, Act.put, List.setIfInBounds_toArray, List.set_cons_zero, List.set_cons_succ, Nat.reduceEqDiff, reduceIte, reduceCtorEq, if_true, if_false, Nat.zero_ne_one, Nat.one_ne_zero] at hh
              exact hh
            refine AllRI.cons ?_ ?_
            · intro l u w1 hl hp h K hK
              have h7 : l 7 = false := h.not7 (i := 1) (by omega) hl
              have hO := h.own h7
              refine wpOpIn_plain rfl (by rfl) (wpIn_of_wp ?_)
              simp only [putsU, Act.put, List.setIfInBounds_toArray, List.set_cons_zero, List.set_cons_succ]
              go_simp
              have hO2 := h.own h7
              have hh := hK (.int .i64 τ) w1 ⟨by simpa [updL, updU] using h.c0, fun _ => by simp [updU], by simpa [updL, updU] using h.c2, by simpa [updL, updU] using h.c3, by simpa [updL, updU] using h.c4, by simpa [updL, updU] using h.c5, by simpa [updL, updU] using h.c6, fun h9 => absurd (show l 7 = true by simpa [updL] using h9) (by rw [h7]; decide), fun h9 => absurd (h.l8 (by simpa [updL] using h9)) (by rw [h7]; decide), h.pre.up hp, fun _ => hO2⟩
              simp only [putsU, updU, Act.put, List.setIfInBounds_toArray, List.set_cons_zero, List.set_cons_succ, Nat.reduceEqDiff, reduceIte, reduceCtorEq, if_true, if_false, Nat.zero_ne_one, Nat.one_ne_zero] at hh
              exact hh
            refine AllRI.cons ?_ ?_
            · intro l u w1 hl hp h K hK
              have h7 : l 7 = false := h.not7 (i := 2) (by omega) hl
              have hO := h.own h7
              have hF := True.intro
              simp only [List.cons_append, List.nil_append] at hO
              have hF := hO; (try simp only [Own, Item.Holds, apartI, CellsAt, Nat.reduceAdd, Nat.zero_add, List.mem_cons, List.not_mem_nil, or_false, forall_eq_or_imp, forall_eq, ne_eq, false_imp_iff, implies_true, and_true] at hF)
              refine wpOpIn_plain rfl (by rfl) (wpIn_of_wp ?_)
              simp only [putsU, Act.put, List.setIfInBounds_toArray, List.set_cons_zero, List.set_cons_succ]
              go_simp
              have hO2 := h.own h7
              have hh := hK (.agg #[.slice A1 k1 c1, .int .i64 s1]) w1 ⟨by simpa [updL, updU] using h.c0, by simpa [updL, updU] using h.c1, fun _ => by simp [updU], by simpa [updL, updU] using h.c3, by simpa [updL, updU] using h.c4, by simpa [updL, updU] using h.c5, by simpa [updL, updU] using h.c6, fun h9 => absurd (show l 7 = true by simpa [updL] using h9) (by rw [h7]; decide), fun h9 => absurd (h.l8 (by simpa [updL] using h9)) (by rw [h7]; decide), h.pre.up hp, fun _ => hO2⟩
              simp only [putsU, updU, Act.put, List.setIfInBounds_toArray, List.set_cons_zero, List.set_cons_succ, Nat.reduceEqDiff, reduceIte, reduceCtorEq, if_true, if_false, Nat.zero_ne_one, Nat.one_ne_zero] at hh
              exact hh
            refine AllRI.cons ?_ ?_
            · intro l u w1 hl hp h K hK
              have h7 : l 7 = false := h.not7 (i := 3) (by omega) hl
              have hO := h.own h7
              have e2 := h.c2 (hp 2 (by simp))
              refine wpOpIn_plain rfl (by rfl) (wpIn_of_wp ?_)
              simp only [putsU, Act.put, List.setIfInBounds_toArray, List.set_cons_zero, List.set_cons_succ, e2]
              go_simp
              refine (HX.out _ hO.base).mono ?_
              rintro e w2 ⟨rfl, hb⟩
              have hO2 := hO.below hb
              have hh := hK (.agg #[.bool x.r, .int .i64 x.s, .int .i64 x.a, .int .i64 x.o, .int .i64 x.t, .bool x.y]) w2 ⟨by simpa [updL, updU] using h.c0, by simpa [updL, updU] using h.c1, by simpa [updL, updU] using h.c2, fun _ => by simp [updU], by simpa [updL, updU] using h.c4, by simpa [updL, updU] using h.c5, by simpa [updL, updU] using h.c6, fun h9 => absurd (show l 7 = true by simpa [updL] using h9) (by rw [h7]; decide), fun h9 => absurd (h.l8 (by simpa [updL] using h9)) (by rw [h7]; decide), h.pre.up hp, fun _ => hO2⟩
              simp only [putsU, updU, Act.put, List.setIfInBounds_toArray, List.set_cons_zero, List.set_cons_succ, Nat.reduceEqDiff, reduceIte, reduceCtorEq, if_true, if_false, Nat.zero_ne_one, Nat.one_ne_zero, e2] at hh
              exact hh
            refine AllRI.cons ?_ ?_
            · intro l u w1 hl hp h K hK
              have h7 : l 7 = false := h.not7 (i := 4) (by omega) hl
              have hO := h.own h7
              have hF := True.intro
              simp only [List.cons_append, List.nil_append] at hO
              have hF := hO; (try simp only [Own, Item.Holds, apartI, CellsAt, Nat.reduceAdd, Nat.zero_add, List.mem_cons, List.not_mem_nil, or_false, forall_eq_or_imp, forall_eq, ne_eq, false_imp_iff, implies_true, and_true] at hF)
              refine wpOpIn_plain rfl (by rfl) (wpIn_of_wp ?_)
              simp only [putsU, Act.put, List.setIfInBounds_toArray, List.set_cons_zero, List.set_cons_succ]
              go_simp
              have hO2 := h.own h7
              have hh := hK (.agg #[.slice A2 k2 c2, .int .i64 s2]) w1 ⟨by simpa [updL, updU] using h.c0, by simpa [updL, updU] using h.c1, by simpa [updL, updU] using h.c2, by simpa [updL, updU] using h.c3, fun _ => by simp [updU], by simpa [updL, updU] using h.c5, by simpa [updL, updU] using h.c6, fun h9 => absurd (show l 7 = true by simpa [updL] using h9) (by rw [h7]; decide), fun h9 => absurd (h.l8 (by simpa [updL] using h9)) (by rw [h7]; decide), h.pre.up hp, fun _ => hO2⟩
              simp only [putsU, updU, Act.put, List.setIfInBounds_toArray, List.set_cons_zero, List.set_cons_succ, Nat.reduceEqDiff, reduceIte, reduceCtorEq, if_true, if_false, Nat.zero_ne_one, Nat.one_ne_zero] at hh
              exact hh
            refine AllRI.cons ?_ ?_
            · intro l u w1 hl hp h K hK
              have h7 : l 7 = false := h.not7 (i := 5) (by omega) hl
              have hO := h.own h7
              have e4 := h.c4 (hp 4 (by simp))
              refine wpOpIn_plain rfl (by rfl) (wpIn_of_wp ?_)
              simp only [putsU, Act.put, List.setIfInBounds_toArray, List.set_cons_zero, List.set_cons_succ, e4]
              go_simp
              refine (HYN.out _ hO.base).mono ?_
              rintro e w2 ⟨rfl, hb⟩
              have hO2 := hO.below hb
              have hh := hK (.agg #[.bool y.r, .int .i64 y.s, .int .i64 y.a, .int .i64 y.o, .int .i64 y.t, .bool y.y]) w2 ⟨by simpa [updL, updU] using h.c0, by simpa [updL, updU] using h.c1, by simpa [updL, updU] using h.c2, by simpa [updL, updU] using h.c3, by simpa [updL, updU] using h.c4, fun _ => by simp [updU], by simpa [updL, updU] using h.c6, fun h9 => absurd (show l 7 = true by simpa [updL] using h9) (by rw [h7]; decide), fun h9 => absurd (h.l8 (by simpa [updL] using h9)) (by rw [h7]; decide), h.pre.up hp, fun _ => hO2⟩
              simp only [putsU, updU, Act.put, List.setIfInBounds_toArray, List.set_cons_zero, List.set_cons_succ, Nat.reduceEqDiff, reduceIte, reduceCtorEq, if_true, if_false, Nat.zero_ne_one, Nat.one_ne_zero, e4] at hh
              exact hh
            refine AllRI.cons ?_ ?_
            · intro l u w1 hl hp h K hK
              have h7 : l 7 = false := h.not7 (i := 6) (by omega) hl
              have hO := h.own h7
              have e1 := h.c1 (hp 1 (by simp))
              have e3 := h.c3 (hp 3 (by simp))
              have e5 := h.c5 (hp 5 (by simp))
              refine wpOpIn_plain rfl (by rfl) (wpIn_of_wp ?_)
              simp only [putsU, Act.put, List.setIfInBounds_toArray, List.set_cons_zero, List.set_cons_succ, e1, e3, e5]
              go_simp
              have hO2 := h.own h7
              have hh := hK (meV ⟨τ, x, y⟩) w1 ⟨by simpa [updL, updU] using h.c0, by simpa [updL, updU] using h.c1, by simpa [updL, updU] using h.c2, by simpa [updL, updU] using h.c3, by simpa [updL, updU] using h.c4, by simpa [updL, updU] using h.c5, fun _ => by simp [updU], fun h9 => absurd (show l 7 = true by simpa [updL] using h9) (by rw [h7]; decide), fun h9 => absurd (h.l8 (by simpa [updL] using h9)) (by rw [h7]; decide), h.pre.up hp, fun _ => hO2⟩
              simp only [putsU, updU, Act.put, List.setIfInBounds_toArray, List.set_cons_zero, List.set_cons_succ, Nat.reduceEqDiff, reduceIte, reduceCtorEq, if_true, if_false, Nat.zero_ne_one, Nat.one_ne_zero, e1, e3, e5] at hh
              exact hh
            refine AllRI.cons ?_ ?_
            · intro l u w1 hl hp h K hK
              have hO := h.own hl
              have e0 := h.c0 (hp 0 (by simp))
              have e6 := h.c6 (hp 6 (by simp))
              refine wpOpIn_plain rfl (by rfl) ?_
              simp only [putsU, Act.put, List.setIfInBounds_toArray, List.set_cons_zero, List.set_cons_succ, e0, e6]
              refine wp_yieldI _ _ 78 rfl rfl _ rfl hd (HYL.out w1 hO) ?_
              rintro e w2 hres
              rcases hres with ⟨rfl, T2, hT2, hO2⟩ | ⟨rfl, hx⟩
              · refine ⟨_, rfl, ?_⟩
                have hh := hK (.bool true) w2 ⟨by simpa [updL, updU] using h.c0, by simpa [updL, updU] using h.c1, by simpa [updL, updU] using h.c2, by simpa [updL, updU] using h.c3, by simpa [updL, updU] using h.c4, by simpa [updL, updU] using h.c5, by simpa [updL, updU] using h.c6, fun _ => Or.inl ⟨by simp [updU], T2, hT2, hO2⟩, fun h9 => absurd (h.l8 (by simpa [updL] using h9)) (by rw [hl]; decide), h.pre.up hp, fun h9 => absurd h9 (by simp [updL])⟩
                simp only [putsU, updU, Act.put, List.setIfInBounds_toArray, List.set_cons_zero, List.set_cons_succ, Nat.reduceEqDiff, reduceIte, reduceCtorEq, if_true, if_false, Nat.zero_ne_one, Nat.one_ne_zero, e0, e6] at hh
                exact hh
              · refine ⟨_, rfl, ?_⟩
                have hh := hK (.bool false) w2 ⟨by simpa [updL, updU] using h.c0, by simpa [updL, updU] using h.c1, by simpa [updL, updU] using h.c2, by simpa [updL, updU] using h.c3, by simpa [updL, updU] using h.c4, by simpa [updL, updU] using h.c5, by simpa [updL, updU] using h.c6, fun _ => Or.inr ⟨by simp [updU], hx⟩, fun h9 => absurd (h.l8 (by simpa [updL] using h9)) (by rw [hl]; decide), h.pre.up hp, fun h9 => absurd h9 (by simp [updL])⟩
                simp only [putsU, updU, Act.put, List.setIfInBounds_toArray, List.set_cons_zero, List.set_cons_succ, Nat.reduceEqDiff, reduceIte, reduceCtorEq, if_true, if_false, Nat.zero_ne_one, Nat.one_ne_zero, e0, e6] at hh
                exact hh
            refine AllRI.cons ?_ ?_
            · intro l u w1 hl hp h K hK
              have h7 := hp 7 (by simp)
              have c7 := h.c7 h7
              obtain ⟨z, ez⟩ : ∃ z, u 7 = .bool z := by
                rcases c7 with ⟨e, _⟩ | ⟨e, _⟩
                · exact ⟨_, e⟩
                · exact ⟨_, e⟩
              refine wpOpIn_plain rfl (by rfl) (wpIn_of_wp ?_)
              simp only [putsU, Act.put, List.setIfInBounds_toArray, List.set_cons_zero, List.set_cons_succ, ez]
              go_simp
              have hh := hK (.bool (!z)) w1 ⟨by simpa [updL, updU] using h.c0, by simpa [updL, updU] using h.c1, by simpa [updL, updU] using h.c2, by simpa [updL, updU] using h.c3, by simpa [updL, updU] using h.c4, by simpa [updL, updU] using h.c5, by simpa [updL, updU] using h.c6, by simpa [updL, updU] using h.c7, fun _ => ⟨z, by simpa [updU] using ez, by simp [updU]⟩, h.pre.up hp, fun h9 => absurd (show l 7 = false by simpa [updL] using h9) (by rw [h7]; decide)⟩
              simp only [putsU, updU, Act.put, List.setIfInBounds_toArray, List.set_cons_zero, List.set_cons_succ, Nat.reduceEqDiff, reduceIte, reduceCtorEq, if_true, if_false, Nat.zero_ne_one, Nat.one_ne_zero, ez] at hh
              exact hh
            exact AllRI.nil
          · intro l9 u9 w9 hall h9
            obtain ⟨z, ez, e8⟩ := h9.c8 (hall 8 (by decide))
            have c7 := h9.c7 (hall 7 (by decide))
            simp only [putsU, Act.put, List.setIfInBounds_toArray, List.set_cons_zero, List.set_cons_succ, Nat.reduceAdd, e8]
            clear h9 hall hU e8
            have hU := True.intro
            rcases c7 with ⟨e, T2, hT2, hO⟩ | ⟨e, hx⟩
            · obtain rfl : z = true := by rw [ez] at e; cases e; rfl
              clear e ez
              have HT2 := hid (show T (meN a b s) T2 by rw [HME.out.1]; exact hT2)
              simp only [List.cons_append, List.nil_append] at hO
              clear hT2
              have hF := True.intro
              have hF := hO; (try simp only [Own, Item.Holds, apart_bb, apart_br, apart_rb, CellsAt, Nat.reduceAdd, Nat.zero_add, List.mem_cons, List.not_mem_nil, or_false, forall_eq_or_imp, forall_eq, ne_eq, false_imp_iff, implies_true, and_true] at hF)
              gi_wp2_with fail
              refine wpIn_wide.2 ?_
              apply own_code hO
              (repeat (first | (with_reducible exact hO) | (with_reducible apply Own.alloc) | (with_reducible apply Own.drew) | ((with_reducible apply Own.set_at); (focus (show _ ≤ _; omega)))))
              have hG := hF; clear hF; clear hO; intro hO
              (try simp only [World.size_alloc1, World.size_drew, Nat.reduceAdd] at hO); (try simp only [upd, updI, List.map_cons, List.map_nil, eq_self, if_true, if_false, reduceIte, Nat.add_eq_left, Nat.left_eq_add, Nat.reduceEqDiff, List.set_cons_zero, List.set_cons_succ, hG] at hO); clear hG
              refine region_own (X := fun _ => True) [] (by kernel_rfl) (hO) (trivial) (by first | exact XStab.true | exact XStab.rd | exact XStab.rdIf) ?_
              clear hO
              refine Sim.sO (i := 0) (d := some 28) (v := ?_) (hy := ?_) (h := ?_)
              rotate_left
              · first | refine Or.inl ⟨by rfl, fun w hO => ?_⟩ | (refine Or.inr ⟨by rfl, ?_⟩; with_reducible rfl)
                first | done | (have hF := hO; (try simp only [Own, Item.Holds, apartI, CellsAt, Nat.reduceAdd, Nat.zero_add, List.mem_cons, List.not_mem_nil, or_false, forall_eq_or_imp, forall_eq, ne_eq, false_imp_iff, implies_true, and_true] at hF); refine Out.same ?_; go_simp; all_goals with_reducible rfl)
              refine Sim.sO (i := 1) (d := some 29) (v := ?_) (hy := ?_) (h := ?_)
              rotate_left
              · first | refine Or.inl ⟨by rfl, fun w hO => ?_⟩ | (refine Or.inr ⟨by rfl, ?_⟩; with_reducible rfl)
                first | done | (refine Out.call (f := 83) (args := ?_) ?_ ?_; rotate_left; (focus (go_simp; all_goals with_reducible rfl)); exact HE1.out _ hO.base)
              refine Sim.sO (i := 2) (d := some 30) (v := ?_) (hy := ?_) (h := ?_)
              rotate_left
              · first | refine Or.inl ⟨by rfl, fun w hO => ?_⟩ | (refine Or.inr ⟨by rfl, ?_⟩; with_reducible rfl)
                first | done | (have hF := hO; (try simp only [Own, Item.Holds, apartI, CellsAt, Nat.reduceAdd, Nat.zero_add, List.mem_cons, List.not_mem_nil, or_false, forall_eq_or_imp, forall_eq, ne_eq, false_imp_iff, implies_true, and_true] at hF); refine Out.same ?_; go_simp; all_goals with_reducible rfl)
              refine Sim.sO (i := 3) (d := some 31) (v := ?_) (hy := ?_) (h := ?_)
              rotate_left
              · first | refine Or.inl ⟨by rfl, fun w hO => ?_⟩ | (refine Or.inr ⟨by rfl, ?_⟩; with_reducible rfl)
                first | done | (refine Out.call (f := 83) (args := ?_) ?_ ?_; rotate_left; (focus (go_simp; all_goals with_reducible rfl)); exact HE2.out _ hO.base)
              refine Sim.sO (i := 4) (d := some 32) (v := ?_) (hy := ?_) (h := ?_)
              rotate_left
              · first | refine Or.inl ⟨by rfl, fun w hO => ?_⟩ | (refine Or.inr ⟨by rfl, ?_⟩; with_reducible rfl)
                first | done | (have hF := hO; (try simp only [Own, Item.Holds, apartI, CellsAt, Nat.reduceAdd, Nat.zero_add, List.mem_cons, List.not_mem_nil, or_false, forall_eq_or_imp, forall_eq, ne_eq, false_imp_iff, implies_true, and_true] at hF); refine Out.same ?_; go_simp; all_goals with_reducible rfl)
              refine Sim.sP (i := 5) (d := some 4) (h := ?_)
              refine Sim.done (by kernel_rfl) (fun w1 hO hX => ?_) _
              (try simp only [World.size_alloc1, World.size_drew, Nat.reduceAdd] at hO); (try simp only [upd, updI, List.map_cons, List.map_nil, eq_self, if_true, if_false, reduceIte, Nat.add_eq_left, Nat.left_eq_add, Nat.reduceEqDiff, List.set_cons_zero, List.set_cons_succ] at hO)
              have hF := hO; (try simp only [Own, Item.Holds, apartI, CellsAt, Nat.reduceAdd, Nat.zero_add, List.mem_cons, List.not_mem_nil, or_false, forall_eq_or_imp, forall_eq, ne_eq, false_imp_iff, implies_true, and_true] at hF)
              gi_wp2_with fail
              refine wpIn_wide.2 ?_
              apply own_code hO
              (repeat (first | (with_reducible exact hO) | (with_reducible apply Own.alloc) | (with_reducible apply Own.drew) | ((with_reducible apply Own.set_at); (focus (show _ ≤ _; omega)))))
              have hG := hF; clear hF; clear hO; intro hO
              (try simp only [World.size_alloc1, World.size_drew, Nat.reduceAdd] at hO); (try simp only [upd, updI, List.map_cons, List.map_nil, eq_self, if_true, if_false, reduceIte, Nat.add_eq_left, Nat.left_eq_add, Nat.reduceEqDiff, List.set_cons_zero, List.set_cons_succ, hG] at hO); clear hG
              refine region_own (X := fun _ => True) [6, 7] (by kernel_rfl) (hO) (trivial) (by first | exact XStab.true | exact XStab.rd | exact XStab.rdIf) ?_
              clear hO
              refine Sim.sO (i := 0) (d := some 33) (v := ?_) (hy := ?_) (h := ?_)
              rotate_left
              · first | refine Or.inl ⟨by rfl, fun w hO => ?_⟩ | (refine Or.inr ⟨by rfl, ?_⟩; with_reducible rfl)
                first | done | (have hF := hO; (try simp only [Own, Item.Holds, apartI, CellsAt, Nat.reduceAdd, Nat.zero_add, List.mem_cons, List.not_mem_nil, or_false, forall_eq_or_imp, forall_eq, ne_eq, false_imp_iff, implies_true, and_true] at hF); refine Out.same ?_; go_simp; all_goals with_reducible rfl)
              refine Sim.sP (i := 1) (d := some 34) (h := ?_)
              refine Sim.sO (i := 2) (d := some 35) (v := ?_) (hy := ?_) (h := ?_)
              rotate_left
              · first | refine Or.inl ⟨by rfl, fun w hO => ?_⟩ | (refine Or.inr ⟨by rfl, ?_⟩; with_reducible rfl)
                first | done | (refine Out.call (f := 84) (args := ?_) ?_ ?_; rotate_left; (focus (go_simp; all_goals with_reducible rfl)); exact HF1'.out _ hO.base)
              refine Sim.sD (i := 3) (d := some 36) (v := ?_) (D := [3, 5, 6, 7]) (hy := ?_) (h := ?_)
              rotate_left
              · first | refine Or.inl ⟨by rfl, fun w hO => ?_⟩ | (refine Or.inr ⟨by rfl, ?_⟩; with_reducible rfl)
                first | done | (have hF := hO; (try simp only [Own, Item.Holds, apartI, CellsAt, Nat.reduceAdd, Nat.zero_add, List.mem_cons, List.not_mem_nil, or_false, forall_eq_or_imp, forall_eq, ne_eq, false_imp_iff, implies_true, and_true] at hF); refine Out.same ?_; go_simp; all_goals with_reducible rfl)
              refine Sim.sP (i := 4) (d := some 37) (h := ?_)
              refine Sim.sO (i := 5) (d := some 38) (v := ?_) (hy := ?_) (h := ?_)
              rotate_left
              · first | refine Or.inl ⟨by rfl, fun w hO => ?_⟩ | (refine Or.inr ⟨by rfl, ?_⟩; with_reducible rfl)
                first | done | (refine Out.call (f := 84) (args := ?_) ?_ ?_; rotate_left; (focus (go_simp; all_goals with_reducible rfl)); exact HF2'.out _ hO.base)
              refine Sim.one' (i := 6) (oi := { dst := none, op := Op.store 101 (Operand.tmp 5) (Operand.tmp 35), type := 0, pos := "l16_canons.go:102", after := #[{ on := 2, ground := Ground.data }, { on := 5, ground := Ground.chain }, { on := 0, ground := Ground.phase }, { on := 1, ground := Ground.phase }, { on := 2, ground := Ground.phase }, { on := 3, ground := Ground.textOnly Departure.lateStores }, { on := 4, ground := Ground.textOnly Departure.lateStores }, { on := 5, ground := Ground.textOnly Departure.lateStoresUnsure }], guard := none }) (by kernel_rfl) rfl (by rfl) (fun w0 hO hX K hK => ?_)
              have hF := hO; (try simp only [Own, Item.Holds, apartI, CellsAt, Nat.reduceAdd, Nat.zero_add, List.mem_cons, List.not_mem_nil, or_false, forall_eq_or_imp, forall_eq, ne_eq, false_imp_iff, implies_true, and_true] at hF)
              go_simp
              apply hK _ _ _ (fun _ => True)
              (repeat (first | (with_reducible exact hO) | (with_reducible apply Own.alloc) | (with_reducible apply Own.drew) | ((with_reducible apply Own.set_at); (focus (show _ ≤ _; omega)))))
              · first | exact trivial | exact hX | exact hX.below (below1 _) | exact RdIf.gone | exact hX.keep ((Below.refl _ _).setCell (by first | omega | (dsimp only; omega)) _)
              · exact (by first | exact XStab.true | exact XStab.rd | exact XStab.rdIf)
              · first | exact fun _ _ h => h.2 | exact fun _ _ h => h | exact fun h => absurd h (by decide)
              try simp only [upd, updI, List.map_cons, List.map_nil, eq_self, if_true, if_false, reduceIte, Nat.add_eq_left, Nat.left_eq_add, Nat.reduceEqDiff, List.set_cons_zero, List.set_cons_succ, hF]
              clear hK K hF hO
              try simp only [Act.put, List.setIfInBounds_toArray, List.set_cons_zero, List.set_cons_succ]
              refine Sim.one' (i := 7) (oi := { dst := none, op := Op.store 101 (Operand.tmp 6) (Operand.tmp 38), type := 0, pos := "l16_canons.go:102", after := #[{ on := 5, ground := Ground.data }, { on := 6, ground := Ground.chain }, { on := 0, ground := Ground.phase }, { on := 1, ground := Ground.phase }, { on := 2, ground := Ground.phase }, { on := 3, ground := Ground.phase }, { on := 4, ground := Ground.phase }, { on := 5, ground := Ground.phase }, { on := 6, ground := Ground.phase }], guard := none }) (by kernel_rfl) rfl (by rfl) (fun w0 hO hX K hK => ?_)
              have hF := hO; (try simp only [Own, Item.Holds, apartI, CellsAt, Nat.reduceAdd, Nat.zero_add, List.mem_cons, List.not_mem_nil, or_false, forall_eq_or_imp, forall_eq, ne_eq, false_imp_iff, implies_true, and_true] at hF)
              go_simp
              apply hK _ _ _ (fun _ => True)
              (repeat (first | (with_reducible exact hO) | (with_reducible apply Own.alloc) | (with_reducible apply Own.drew) | ((with_reducible apply Own.set_at); (focus (show _ ≤ _; omega)))))
              · first | exact trivial | exact hX | exact hX.below (below1 _) | exact RdIf.gone | exact hX.keep ((Below.refl _ _).setCell (by first | omega | (dsimp only; omega)) _)
              · exact (by first | exact XStab.true | exact XStab.rd | exact XStab.rdIf)
              · first | exact fun _ _ h => h.2 | exact fun _ _ h => h | exact fun h => absurd h (by decide)
              try simp only [upd, updI, List.map_cons, List.map_nil, eq_self, if_true, if_false, reduceIte, Nat.add_eq_left, Nat.left_eq_add, Nat.reduceEqDiff, List.set_cons_zero, List.set_cons_succ, hF]
              clear hK K hF hO
              try simp only [Act.put, List.setIfInBounds_toArray, List.set_cons_zero, List.set_cons_succ]
              refine Sim.done (by kernel_rfl) (fun w1 hO hX => ?_) _
              (try simp only [World.size_alloc1, World.size_drew, Nat.reduceAdd] at hO); (try simp only [upd, updI, List.map_cons, List.map_nil, eq_self, if_true, if_false, reduceIte, Nat.add_eq_left, Nat.left_eq_add, Nat.reduceEqDiff, List.set_cons_zero, List.set_cons_succ] at hO)
              have hF := hO; (try simp only [Own, Item.Holds, apartI, CellsAt, Nat.reduceAdd, Nat.zero_add, List.mem_cons, List.not_mem_nil, or_false, forall_eq_or_imp, forall_eq, ne_eq, false_imp_iff, implies_true, and_true] at hF)
              gi_wp2_with fail
              go_roundw
              case rel => exact ⟨s, i', j', A3, A4, c3, c4, T2, by go_num, HUP.out, by have := HLB.out; omega, HSN.out, HT2.out, flat16 hO (by simp)⟩
              case measure => simp [intOf]; omega
            · obtain rfl : z = false := by rw [ez] at e; cases e; rfl
              clear e ez
              have HJ := hid hx
              clear hx
              have hF := True.intro
              gi_wp2
              refine bodyPost_ret (results_none rfl _ _ _) rfl ?_
              exact ⟨⟨_, rfl⟩, .inr ⟨_, by rw [← HME.out.1]; exact HME.out.2, HJ.out⟩⟩
end Go.Proofs.YtmkhpafcgobfhaaDoor
