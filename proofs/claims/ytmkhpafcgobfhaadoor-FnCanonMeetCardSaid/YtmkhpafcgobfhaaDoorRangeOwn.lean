/- A range over a function of one's own, where the iterator and the loop's body both make memory and write it: what each owns is kept apart from what the other owns. No program in it. -/
import Derived.Test.YtmkhpafcgobfhaaDoorOwn
import Derived.RangeFuncNested
import Derived.RangeFuncLeaves
import Derived.OwnWalkIn
import Derived.TacticsInMore
import Derived.LoopNIn
import Derived.LoopIn
import Derived.WalkKit
import Derived.Shelf.Abstract
namespace Go.Proofs.YtmkhpafcgobfhaaDoor
set_option linter.unusedSimpArgs false
set_option linter.unusedVariables false
set_option maxRecDepth 8000
open Go.RowKit

/-- The base turned for another that holds, too. -/
theorem Own.turn {n : Nat} {B B' : World → Prop} {w : World} (hs : Stab n B') (hB : B' w) : ∀ {L : List Item}, Own n B w L → Own n B' w L
  | [], _ => ⟨hs, hB⟩
  | _ :: _, h => ⟨h.1, h.2.turn hs hB⟩
/-- A block that is none of those listed is turned. -/
theorem Own.turned {n l : Nat} {B B' : World → Prop} {w w' : World} (hg : w.grownBy w' (some l)) (hs : Stab n B') (hB : B' w') : ∀ {L : List Item}, (∀ x ∈ L, x.at? ≠ some l) → Own n B w L → Own n B' w' L
  | [], _, _ => ⟨hs, hB⟩
  | it :: L, hL, ⟨⟨h1, h2⟩, h3⟩ => ⟨⟨h1.grown hg fun g hx e => hL it (by simp) (by rw [hx, e]), h2⟩, h3.turned hg hs hB (fun x hx => hL x (List.mem_cons_of_mem _ hx))⟩
/-- A block that is no cells is marked as one's own by an item without cells. -/
theorem Own.mark {n l : Nat} {B : World → Prop} {w : World} {L : List Item} (h : Own n B w L) (hn : n ≤ l) (hl : l < w.heap.size) (ha : ∀ x ∈ L, x.at? ≠ some l) : Own n B w (.blk l [] :: L) :=
  ⟨⟨⟨trivial, hn, hl⟩, fun x hx => .of fun g hg e => ha x hx (by cases e; exact hg)⟩, h⟩
theorem Own.putMark {n l : Nat} {B B' : World → Prop} {w : World} {L : List Item} (h : Own n B w (.blk l [] :: L)) (o : Obj) (hs : Stab n B') (hB : B' (w.putObj l o)) : Own n B' (w.putObj l o) (.blk l [] :: L) := by
  have ha : ∀ x ∈ L, x.at? ≠ some l := fun x hx e => (h.1.2 x hx).to l e rfl
  exact Own.mark (h.2.turned (grownBy_putObj' w l o) hs hB ha) h.1.1.2.1 (by simpa using h.1.1.2.2) ha

/-- A fact that stays when blocks from n on turn, whatever they hold. -/
def Firm (n : Nat) (B : World → Prop) : Prop := (∀ w, B w → n ≤ w.heap.size) ∧ ∀ w w' r, B w → w.grownBy w' r → (∀ g, r = some g → n ≤ g) → B w'
theorem Firm.stab {n : Nat} {B : World → Prop} (h : Firm n B) : Stab n B := ⟨h.1, fun w w' r hB hg hr => h.2 w w' r hB hg fun g e => (hr g e).1⟩
theorem Firm.plain (w0 : World) : Firm w0.heap.size (Below w0.heap.size w0) := ⟨fun _ h => h.size, fun _ _ _ h hg hr => h.grown hg h.size hr⟩
/-- Beside it, that a block which is no cells holds an object. -/
def Keep (B : World → Prop) (l : Nat) (o : Obj) (w : World) : Prop := B w ∧ w.heap[l]? = some o
theorem Stab.keep {n l : Nat} {B : World → Prop} {o : Obj} (h : Stab n B) (ho : ∀ c t f, o ≠ .cells c t f) : Stab n (Keep B l o) :=
  ⟨fun w hB => h.low w hB.1, fun w w' r hB hg hr => ⟨h.grown w w' r hB.1 hg hr, by
    by_cases e : r = some l
    · exact ((hr l e).2 fun c t f hc => ho c t f (Option.some.inj (hB.2.symm.trans hc))).trans hB.2
    · exact (hg.block l (Array.getElem?_eq_some_iff.1 hB.2).1 (fun e' => e e'.symm)).trans hB.2⟩⟩

variable {F : Fence} {d : Nat} {P : Program}

/-- WHAT A FUNCTION VALUE THAT IS RANGED OVER OWES. M0: what it owns when it begins; Pre: what it leans on of the world. -/
def SeqO {α : Type} (F : Fence) (d : Nat) (P : Program) (g : Nat) (lb : Array Value) (encs : α → Array Value) (n : Nat) (M0 : List Item) (Pre : World → Prop) (S Sp : List α → Prop) (N : Nat) : Prop :=
  ∀ (l : Nat) (B : World → Prop) (T : List α → List Item → Prop) (Jx : List α → World → Prop) (W : World) (T0 : List Item),
    (∀ w, B w → Pre w) → T [] T0 → Own n B W (M0 ++ T0) →
    (∀ (M : List Item) pre x T1 W1, T pre T1 → Own n B W1 (M ++ T1) → pre.length < N → YieldAt F (d - 1) P l (encs x) W1 fun e W' =>
      (e = .returned (.bool true) ∧ ∃ T2, T (pre ++ [x]) T2 ∧ Own n B W' (M ++ T2)) ∨ (e = .returned (.bool false) ∧ Jx (pre ++ [x]) W')) →
    CallsIn F d P g (#[.func (.yield l) #[] #[]] ++ lb) W fun e W' => (∃ v, e = .returned v) ∧ ((∃ xs T1, S xs ∧ T xs T1 ∧ Own n B W' T1) ∨ (∃ pre, Sp pre ∧ Jx pre W'))

/-- How the body of a round may be left. -/
def ownEnd {α : Type} (n : Nat) (B : World → Prop) (M : List Item) (T : List α → List Item → Prop) (Tx : Code → List α → List Item → Prop) (xs : List α) : Exit → Act → World → Prop
  | .normal, _, w => ∃ U, T xs U ∧ Own n B w (U ++ M)
  | .ret, _, w => ∃ U, Tx .ret xs U ∧ Own n B w (U ++ M)
  | .exit id, _, w => ∃ U, Tx (.exit id) xs U ∧ Own n B w (U ++ M)
  | .goto t, _, w => ∃ U, Tx (.goto t) xs U ∧ Own n B w (U ++ M)
  | _, _, _ => False

theorem sub_left {L M : List Item} : L.Sublist (L ++ M) := List.sublist_append_left L M

/-- **'for x := range f { body }'**: T: what the body's side owns when so many have come; Tx: where a round has left by a jump. -/
theorem own_rangeFunc {α : Type} {g : Operand} {ps : Array Tmp} {assign body : Code} {Q : Exit → Act → World → Prop} {a : Act} {w : World}
    (hro : F.round = none) (h1 : 1 ≤ d) {gf : Nat} {lb : Array Value} (hg : a.eval g = .func (.func gf) #[] lb) (hFg : F.fn gf) (eg : ∀ args w, (callFunc gf args).run P w = .ok (.enter gf args) w)
    {encs : α → Array Value} {n : Nat} {M0 T0 : List Item} {Pre B : World → Prop} {S Sp : List α → Prop} {N : Nat} (hseq : SeqO F (d - 1) P gf lb encs n M0 Pre S Sp N) (hps : ∀ x, (encs x).size = ps.size)
    (hBf : Firm n B) (hBP : ∀ w, B w → Pre w) (T : List α → List Item → Prop) (Tx : Code → List α → List Item → Prop) (hT0 : T [] T0) (hO : Own n B w (M0 ++ T0)) (Ax : List α → α → Act → List Item → Prop)
    (hassign : ∀ (l : Nat) (M : List Item) (pre : List α) (x : α) (U : List Item) (B1 : World → Prop) (W : World), (∀ w, B1 w → B w) → T pre U → Own n B1 W (U ++ M) → pre.length < N →
      assign.wpIn (F.inRound l) (d - 1 - 1) P (Exit.then (fun a' W' => ∃ U', Ax pre x a' U' ∧ Own n B1 W' (U' ++ M)) (fun _ _ _ => False)) { tmps := (ps.zip (encs x)).foldl (fun t (p, v) => t.setIfInBounds p v) a.tmps, defers := [] } W)
    (hbody : ∀ (l : Nat) (M : List Item) (pre : List α) (x : α) (a' : Act) (U : List Item) (B1 : World → Prop) (W : World), (∀ w, B1 w → B w) → Ax pre x a' U → Own n B1 W (U ++ M) → pre.length < N →
      body.wpIn (F.inRound l) (d - 1 - 1) P (ownEnd n B1 M T Tx (pre ++ [x])) a' W)
    (hdone : ∀ (D : Nat) (xs : List α) (U : List Item) (W : World), S xs → T xs U → Own n (Keep B D (.deferred (some []))) W (U ++ [.blk D []]) → Q .normal { a with defers := { target := .collected D, args := #[] } :: a.defers } W)
    (hstop : ∀ (D : Nat) (c : Code) (pre : List α) (U : List Item) (W : World), Sp pre → Tx c pre U → Own n (Keep B D (.deferred (some []))) W (U ++ [.blk D []]) → c.wpIn F d P Q { a with defers := { target := .collected D, args := #[] } :: a.defers } W) :
    (Code.rangeFunc g ps assign body).wpIn F d P Q a w := by
  refine wpIn_rangeFunc fun fn hfn => ?_
  rw [hro]
  obtain ⟨rec, hrec⟩ : ∃ rec : LoopState → Option Code → Loop, rec = fun st pe => { state := st, pending := pe, fn, tmps := a.tmps, params := ps, assign, body, defers := w.heap.size } := ⟨_, rfl⟩
  obtain ⟨D, hD⟩ : ∃ D, w.heap.size = D := ⟨_, rfl⟩
  have hlow : n ≤ D := by rw [← hD]; exact hO.low
  -- the base while the loop's record is in a state
  obtain ⟨BD, hBD⟩ : ∃ BD : LoopState → Option Code → World → Prop, BD = fun st pe => Keep (Keep B D (.deferred (some []))) (D + 1) (.loop (rec st pe)) := ⟨_, rfl⟩
  have hSD : Stab n (Keep B D (.deferred (some []))) := hBf.stab.keep (fun c t f e => by cases e)
  have hSt : ∀ st pe, Stab n (BD st pe) := fun st pe => by rw [hBD]; exact hSD.keep (fun c t f e => by cases e)
  have hBB : ∀ st pe w, BD st pe w → B w := fun st pe w h => by rw [hBD] at h; exact h.1.1
  have hBL : ∀ st pe w, BD st pe w → w.heap[D + 1]? = some (.loop (rec st pe)) := fun st pe w h => by rw [hBD] at h; exact h.2
  -- the record put into another state
  have put : ∀ {st st' : LoopState} {pe pe' : Option Code} {W : World}, BD st pe W → BD st' pe' (W.putObj (D + 1) (.loop (rec st' pe'))) := fun {st st' pe pe' W} h => by
    rw [hBD] at h ⊢
    refine ⟨⟨hBf.2 _ _ _ h.1.1 (grownBy_putObj' W (D + 1) _) (fun g e => by cases e; omega), (World.putObj_heap_other (by omega)).trans h.1.2⟩, World.putObj_heap_same (Array.getElem?_eq_some_iff.1 h.2).1⟩
  have putO : ∀ {st st' : LoopState} {pe pe' : Option Code} {W : World} {L : List Item}, Own n (BD st pe) W (.blk (D + 1) [] :: L) → Own n (BD st' pe') (W.putObj (D + 1) (.loop (rec st' pe'))) (.blk (D + 1) [] :: L) :=
    fun {st st' pe pe' W L} h => h.putMark _ (hSt _ _) (put h.base)
  obtain ⟨W1, hW1⟩ : ∃ W1, (w.alloc (.deferred (some []))).alloc (.loop (rec .ready none)) = W1 := ⟨_, rfl⟩
  have hsz : W1.heap.size = D + 2 := by rw [← hW1]; simp; omega
  have hb : Below w.heap.size w W1 := by rw [← hW1]; exact ((Below.refl _ w).alloc (Nat.le_refl _) _).alloc (by simp) _
  have hK : W1.heap[D]? = some (.deferred (some [])) := by
    rw [← hW1, ← hD]; exact (Below.heap_alloc _ _ _ (by simp)).trans (World.alloc_heap_new w _)
  have hL : W1.heap[D + 1]? = some (.loop (rec .ready none)) := by
    rw [← hW1, ← hD]; have := World.alloc_heap_new (w.alloc (.deferred (some []))) (.loop (rec .ready none)); rwa [World.size_alloc] at this
  have hB1 : BD .ready none W1 := by rw [hBD]; exact ⟨⟨hBf.stab.below _ _ hO.base hb, hK⟩, hL⟩
  have hO1 : Own n (BD .ready none) W1 (.blk (D + 1) [] :: .blk D [] :: (M0 ++ T0)) := by
    have ha : ∀ x ∈ M0 ++ T0, ∀ g, x.at? = some g → g < D := fun x hx g e => by rw [← hD]; exact (hO.lt x hx g e).2
    have h2 := ((hO.below hb).turn (hSt _ _) hB1).mark (l := D) hlow (by omega) (fun x hx e => by have := ha x hx D e; omega)
    exact h2.mark (l := D + 1) (by omega) (by omega) (fun x hx e => by
      rcases List.mem_cons.1 hx with rfl | hx
      · cases e
      · have := ha x hx (D + 1) e; omega)
  refine ⟨D + 1, [{ target := .collected D, args := #[] }], W1, { target := .fn (.func gf) lb, args := #[.func (.yield (D + 1)) #[] #[]] }, W1, gf, #[.func (.yield (D + 1)) #[] #[]] ++ lb, W1, ?_, ?_, ?_, ?_, fun _ => h1, ?_⟩
  · rw [← hW1, hrec, ← hD]; exact run_enterLoop_outer _ _ _ _ _
  · simp only [resolve, hg]
    simp [go_sem]
  · intro f' hf'
    simp [Target.leads] at hf'
    subst hf'
    exact hFg
  · simp [invoke, go_sem, eg]
  refine (hseq (D + 1) (BD .ready none) (fun pre L => ∃ U, L = .blk (D + 1) [] :: .blk D [] :: U ∧ T pre U) (fun pre W => ∃ c U, Tx c pre U ∧ Own n (BD .done (some c)) W (.blk (D + 1) [] :: .blk D [] :: U))
    W1 (.blk (D + 1) [] :: .blk D [] :: T0) (fun w h => hBP w (hBB _ _ _ h)) ⟨T0, rfl, hT0⟩ (hO1.perm ?_) ?_).mono ?_
  · have hp : (([Item.blk (D + 1) [], Item.blk D []] : List Item) ++ (M0 ++ T0)).Perm (M0 ++ ([Item.blk (D + 1) [], Item.blk D []] ++ T0)) := by
      rw [← List.append_assoc, ← List.append_assoc]
      exact List.Perm.append_right T0 List.perm_append_comm
    exact hp
  · -- one round
    rintro M pre x _ W ⟨U, rfl, hU⟩ hO hlen
    have hl := hBL _ _ _ hO.base
    have hy := run_yield (P := P) (args := encs x) hl (by rw [hrec]; exact hps x)
    rw [hrec] at hy
    have hO2 : Own n (BD .ready none) W (.blk (D + 1) [] :: (.blk D [] :: (U ++ M))) := hO.perm (List.perm_append_comm (l₁ := M))
    have fore : ∀ {st : LoopState} {pe : Option Code} {V : List Item} {W3 : World}, Own n (BD st pe) W3 (.blk (D + 1) [] :: .blk D [] :: (V ++ M)) → Own n (BD st pe) W3 (V ++ (.blk (D + 1) [] :: .blk D [] :: M)) := fun {st pe V W3} h =>
      h.perm (by
        have := (List.perm_append_comm (l₁ := [Item.blk (D + 1) [], Item.blk D []]) (l₂ := V)).append_right M
        rw [List.append_assoc, List.append_assoc] at this
        exact this)
    have back : ∀ {st : LoopState} {pe : Option Code} {V : List Item} {W3 : World}, Own n (BD st pe) W3 (V ++ (.blk (D + 1) [] :: .blk D [] :: M)) → Own n (BD st pe) W3 (.blk (D + 1) [] :: .blk D [] :: (V ++ M)) := fun {st pe V W3} h =>
      h.perm (by
        have := (List.perm_append_comm (l₁ := V) (l₂ := [Item.blk (D + 1) [], Item.blk D []])).append_right M
        rw [List.append_assoc, List.append_assoc] at this
        exact this)
    refine ⟨fn, _, assign, body, hy, roundIn_of_wpIn hfn (wpIn_mono (hassign (D + 1) _ pre x U (BD .ready none) W (hBB _ _) hU (fore hO2) hlen) ?_)⟩
    rintro e0 a' Wa hq
    rcases e0 with _ | _ | _ | _ | _ | _
    rotate_left
    all_goals try exact hq.elim
    obtain ⟨V0, hA, hOa⟩ := hq
    have hOa2 := back hOa
    refine ⟨_, run_beginRound (hBL _ _ _ hOa2.base) (by rw [hrec]), ?_⟩
    have hbz : ({ rec .ready none with state := .busy } : Loop) = rec .busy none := by rw [hrec]
    rw [hbz]
    refine wpIn_mono (hbody (D + 1) _ pre x a' V0 (BD .busy none) _ (hBB _ _) hA (fore (putO (st' := .busy) (pe' := none) hOa2)) hlen) ?_
    have fin : ∀ (jump : Option Code) {V : List Item} {W3 : World}, Own n (BD .busy none) W3 (.blk (D + 1) [] :: .blk D [] :: (V ++ M)) →
        (Instr.endRound (D + 1) jump).run P W3 = .ok (.bool jump.isNone) (W3.putObj (D + 1) (.loop (rec (if jump.isNone then .ready else .done) jump))) ∧
        Own n (BD (if jump.isNone then .ready else .done) jump) (W3.putObj (D + 1) (.loop (rec (if jump.isNone then .ready else .done) jump))) (.blk (D + 1) [] :: .blk D [] :: (V ++ M)) := fun jump V W3 h => by
      have hr := run_endRound (P := P) jump (hBL _ _ _ h.base)
      refine ⟨?_, putO h⟩
      rw [hr, hrec]
    rintro e a3 W3 hp
    have leave : ∀ (c : Code) (V : List Item), Tx c (pre ++ [x]) V → Own n (BD .busy none) W3 (V ++ (.blk (D + 1) [] :: .blk D [] :: M)) →
        ∃ v w', (Instr.endRound (D + 1) (some c)).run P W3 = .ok v w' ∧ ((Ending.returned v = .returned (.bool true) ∧ ∃ T2, (∃ U, T2 = .blk (D + 1) [] :: .blk D [] :: U ∧ T (pre ++ [x]) U) ∧ Own n (BD .ready none) w' (M ++ T2)) ∨
          (Ending.returned v = .returned (.bool false) ∧ ∃ c U, Tx c (pre ++ [x]) U ∧ Own n (BD .done (some c)) w' (.blk (D + 1) [] :: .blk D [] :: U))) := fun c V hV h => by
      obtain ⟨hr, h4⟩ := fin (some c) (back h)
      exact ⟨_, _, hr, .inr ⟨rfl, c, V, hV, h4.sub ((sub_left.cons_cons _).cons_cons _)⟩⟩
    cases e with
    | normal =>
      obtain ⟨V, hV, h⟩ := hp
      obtain ⟨hr, h4⟩ := fin none (back h)
      exact ⟨_, _, hr, .inl ⟨rfl, _, ⟨V, rfl, hV⟩, h4.perm (List.perm_append_comm (l₁ := Item.blk (D + 1) [] :: Item.blk D [] :: V))⟩⟩
    | ret =>
      obtain ⟨V, hV, h⟩ := hp
      exact leave _ V hV h
    | exit id =>
      obtain ⟨V, hV, h⟩ := hp
      exact leave _ V hV h
    | goto t =>
      obtain ⟨V, hV, h⟩ := hp
      exact leave _ V hV h
    | panic ch => exact hp.elim
    | outgrown => exact hp.elim
  · -- behind the iterator
    have shut : ∀ {st : LoopState} {pe : Option Code} {W : World} {U : List Item} (st' : LoopState), Own n (BD st pe) W (.blk (D + 1) [] :: .blk D [] :: U) → Own n (Keep B D (.deferred (some []))) (W.putObj (D + 1) (.loop (rec st' pe))) (U ++ [.blk D []]) := fun {st pe W U} st' h => by
      have h2 := (putO (st' := st') (pe' := pe) h).drop
      have hb2 : Keep B D (.deferred (some [])) (W.putObj (D + 1) (.loop (rec st' pe))) := by have := h2.base; rw [hBD] at this; exact this.1
      exact (h2.turn hSD hb2).perm (List.perm_append_comm (l₁ := [Item.blk D []]))
    rintro e W2 ⟨⟨v, rfl⟩, (⟨xs, _, hS, ⟨U, rfl, hU⟩, h⟩ | ⟨pre, hSp, c, U, hU, h⟩)⟩
    · have hr := run_endLoop (P := P) (hBL _ _ _ h.base) (by rw [hrec]; simp)
      refine ⟨none, _, hr.trans ?_, hdone D xs U _ hS hU (shut .exhausted h)⟩
      rw [hrec]
    · have hr := run_endLoop (P := P) (hBL _ _ _ h.base) (by rw [hrec]; simp)
      refine ⟨some c, _, hr.trans ?_, hstop D c pre U _ hSp hU (shut .exhausted h)⟩
      rw [hrec]

/- What a call owns, within a fence (a range over a function stands in the function): a call, make, append, a call of yield, the return. No program in it. -/
open Go.RowKit

section
variable {F : Fence} {d : Nat} {P : Program} {n : Nat} {B : World → Prop} {W W0 : World} {L L0 : List Item}

theorem own_atI {f : FuncId} {args : Array Value} {K : Ending → World → Prop} (_ : Own n B W0 L0) (hO : Own n B W L) (k : Own n B W L → CallsIn F d P f args W K) : CallsIn F d P f args W K := k hO
theorem own_codeI {c : Code} {Q : Exit → Act → World → Prop} {a : Act} (_ : Own n B W0 L0) (hO : Own n B W L) (k : Own n B W L → c.wpIn F d P Q a W) : c.wpIn F d P Q a W := k hO
theorem own_listI {ops : Array Oper} {rest : List Oper} {Q : Exit → Act → World → Prop} {a : Act} (_ : Own n B W0 L0) (hO : Own n B W L) (k : Own n B W L → wpListIn F d P ops Q rest a W) : wpListIn F d P ops Q rest a W := k hO
/-- A call by its plain contract, where the fence is wide. -/
theorem own_callI {f : FuncId} {args : Array Value} {v : Value} {K : Ending → World → Prop}
    (hO : Own n B W L) (h : B W → Calls P f args W fun e w' => e = .returned v ∧ Below W.heap.size W w') (k : ∀ w1, Own n B w1 L → K (.returned v) w1) : CallsIn Fence.wide d P f args W K := callsIn_wide.2 (own_call hO h k)

/-- Where the walk is to stand still. -/
def Pause (p : Prop) : Prop := p

/-- A call of yield. -/
theorem wpListIn_yield {ops : Array Oper} {rest : List Oper} {o : Oper} {a : Act} {Q : Exit → Act → World → Prop} {R : Ending → World → Prop} {l : Nat}
    (hg : o.guard = none) (f x : Operand) (T : TypeId) (ho : o.op = .call { callee := .value f, args := #[x], argTypes := #[T] }) (hf : a.eval f = .func (.yield l) #[] #[]) (v : Value) (hx : a.eval x = v)
    (hF : ∀ f, F.fn f) (hd : 1 ≤ d) (hY : YieldAt F (d - 1) P l #[v] W R) (h : Pause (∀ e w', R e w' → ∃ u, e = .returned u ∧ wpListIn F d P ops Q rest (a.put o.dst u) w')) : wpListIn F d P ops Q (o :: rest) a W := by
  refine wpListIn_plain hg fun K hK => ?_
  obtain ⟨fn, tmps, assign, body, hy, hR⟩ := hY
  unfold Oper.wpIn
  refine ⟨fun f _ => hF f, ?_⟩
  rw [Oper.semAt_plain F _ _ (by rw [ho]; intro c hc'; cases hc')]
  have hr : (execOp a.eval o).run P W = .ok (.round l fn tmps assign body) W := by
    simp only [execOp, ho, resolve, hf, Sem.run_bind, Sem.run_pure, Result.andThen_ok, List.map_toArray, List.map_cons, List.map_nil, hx, invoke, callFunc]
    exact hy
  rw [hr, Oper.uponIn_round]
  refine ⟨fun _ => hd, hR.mono fun e w' he => ?_⟩
  obtain ⟨u, rfl, h2⟩ := h e w' he
  exact hK _ _ h2

/-- 'make([]T, 0, n)' in a fence. -/
theorem wpListIn_make_cap {ops : Array Oper} {rest : List Oper} {o : Oper} {a : Act} {Q : Exit → Act → World → Prop}
    (hg : o.guard = none) (l c : Operand) (t : TypeId) (hop : o.op = Op.makeSlice t l c) (e : TypeId) (i : TypeInfo) (z : Value) (size bytes : Nat) (h1 : P.underlying t = some (.slice e)) (h2 : P.info? e = some i) (h3 : i.zero = some z) (h4 : i.size = size) (h5 : i.bytes = bytes)
    (kl kc : IntKind) (y : Int) (k : Nat) (hl : a.eval l = .int kl 0) (hc : a.eval c = .int kc y) (hy : y = (k : Int)) (b2 : bytes * k ≤ 281474976710656) (b3 : k ≤ maxLen) (hO : Own n B W L)
    (hK : ∀ q w', Own n B w' (.row e size (.slice (some ⟨q, 0, none⟩) 0 k) 0 [] :: L) → wpListIn F d P ops Q rest (a.put o.dst (.slice (some ⟨q, 0, none⟩) 0 k)) w') : wpListIn F d P ops Q (o :: rest) a W := by
  subst h5
  refine wpListIn_make_own W hg l c t hop W.heap.size e i z size h1 h2 h3 h4 kl kc y k hl hc hy b2 b3 (Nat.le_refl _) fun w' hr hgr => hK _ w' ?_
  exact hO.addRow ⟨hgr.os, hgr.tape, hgr.output, hgr.size, fun j hj => hgr.block j hj (by simp)⟩ hr

/-- 'out = append(out, x)' in a fence. -/
theorem wpListIn_append_item {ops : Array Oper} {rest : List Oper} {o : Oper} {a : Act} {Q : Exit → Act → World → Prop} {v : Value} {k q c : Nat} {xs news : List Value}
    (hgd : o.guard = none) (s x : Operand) (t : TypeId) (ho : o.op = .call { callee := .builtin .append, args := #[s, x], argTypes := #[t, t] })
    (e : TypeId) (i : TypeInfo) (z : Value) (size bytes : Nat) (ht : P.underlying t = some (.slice e)) (hi : P.info? e = some i) (hz : i.zero = some z)
    (hsize : i.size = size) (hby : i.bytes = bytes) (hzs : z.cells.size = size) (hsz : 0 < size)
    (hs : a.eval s = v) (hx : a.eval x = .slice (some ⟨q, 0, none⟩) 1 c) (hO : Own n B W (.blk q news :: .row e size v k xs :: L)) (hl : news.length = size) (h1 : ∀ u ∈ news, u.oneCell' = true)
    (h63 : k + 1 ≤ maxLen) (hbytes : (k + 1) * bytes ≤ 140737488355328)
    (h : ∀ v' w', Own n B w' (.row e size v' (k + 1) (xs ++ news) :: L) → (v' = .slice none 0 0 → False) → wpListIn F d P ops Q rest (a.put o.dst v') w') : wpListIn F d P ops Q (o :: rest) a W := by
  refine wpListIn_plain hgd fun K hK => ?_
  have hown : W.ownsRow n e size v k xs := hO.2.1.1
  have hnews : ∀ j u, news[j]? = some u → W.cell? ((⟨q, 0, none⟩ : Addr).add j) = some u := fun j u hj => by
    rw [add_flat]
    have := (hO.cells (b := q) (vs := news) (by simp)).get hj
    simpa using this
  obtain ⟨v', w', hr, h2, h3, h4⟩ := run_append_own (P := P) W n t o.type e i z size bytes ht hi hz hsize hby hzs hsz v k xs hown ⟨q, 0, none⟩ 1 c news (by simpa using hl) hnews h1 h63 hbytes hO.low
  have h5 := append_block ht hi hz hsize hby hown (by omega) (by simpa using hl) hnews h1 h63 hbytes hr
  unfold Oper.wpIn
  refine ⟨?_, ?_⟩
  · simp [Oper.about, ho, resolve, Target.leads, Sem.run_pure]
  · rw [Oper.semAt_plain F _ _ (by rw [ho]; intro c hc'; cases hc')]
    simp only [execOp, ho, resolve, invoke, builtin, Sem.run_bind, Sem.run_pure, Result.andThen_ok, List.map_toArray, List.map_cons, List.map_nil, hs, hx, hr]
    exact hK _ _ (h v' w' (hO.2.regrown h3 h2 h5) (fun e => by have := h4.1 e; omega))

/-- A slice that has just been appended to is written out. -/
theorem Own.row_form {e : TypeId} {size k : Nat} {v : Value} {xs : List Value} (h : Own n B W (.row e size v k xs :: L)) : ∃ A cap, v = .slice A k cap := by
  rcases (h.1.1 : W.ownsRow n e size v k xs).2 with ⟨rfl, rfl⟩ | ⟨g, cap, cur, rfl, _⟩
  · exact ⟨none, 0, rfl⟩
  · exact ⟨_, cap, rfl⟩

/-- The return of a function that has ranged over a function. -/
theorem own_leaveM {fn : Func} {R : Ending → World → Prop} {a : Act} {D : Nat} {v : Value} (hB : Firm n B) (hd : a.defers = [{ target := .collected D, args := #[] }]) (hO : Own n (Keep B D (.deferred (some []))) W (.blk D [] :: L))
    (hr : ∀ w', Own n B w' (.blk D [] :: L) → (results fn a.tmps).run P w' = .ok v w') (hR : ∀ w', Own n B w' (.blk D [] :: L) → R (.returned v) w') : bodyPostM F d P fn R .ret a W := by
  have hk := hO.base.2
  have hB2 : B (W.putObj D (.deferred none)) := hB.2 _ _ _ hO.base.1 (grownBy_putObj' W D _) (fun g e => by cases e; exact hO.1.1.2.1)
  have h2 := hO.putMark (.deferred none) hB.stab hB2
  show LeavesInM F d P fn a.tmps R a.defers .returning W
  rw [hd]
  refine ⟨by simp, .inl ⟨D, _, rfl, run_takeDeferred hk, ?_⟩⟩
  exact ⟨v, hr _ h2, hR _ h2⟩
end

theorem apart_bb {b c : Nat} {vs us : List Value} : apartI (.blk b vs) (.blk c us) = (b ≠ c ∧ c ≠ b) := rfl
theorem apart_br {b k size : Nat} {vs xs : List Value} {e : TypeId} {v : Value} : apartI (.blk b vs) (.row e size v k xs) = (v.ownBlock ≠ some b) := rfl
theorem apart_rb {b k size : Nat} {vs xs : List Value} {e : TypeId} {v : Value} : apartI (.row e size v k xs) (.blk b vs) = (v.ownBlock ≠ some b) := rfl
/-- A number read off the world. -/
def cellI (w : World) (q i : Nat) : Nat := match w.cell? ⟨q, i, none⟩ with
  | some v => (intOf v).toNat
  | none => 0
theorem cellI_of {w : World} {q i : Nat} {k : IntKind} {x : Int} (h : w.cell? ⟨q, i, none⟩ = some (.int k x)) : cellI w q i = x.toNat := by
  unfold cellI
  rw [h]
  rfl
theorem Own.fresh {n : Nat} {B : World → Prop} {w : World} {L : List Item} (h : Own n B w L) : ∀ x ∈ L, x.at? ≠ some w.heap.size := fun x hx e => by have := (h.lt x hx _ e).2; omega
theorem Own.set_head {n q i : Nat} {B : World → Prop} {w : World} {L : List Item} {vs : List Value} {u : Value} (h : Own n B w (.blk q vs :: L)) : Own n B (w.setCell ⟨q, i, none⟩ u) (.blk q (vs.set i u) :: L) := by
  have h1 := Own.set_at (i := i) (u := u) h.1.1.2.1 h
  have h2 : upd (.blk q vs :: L) q i u = .blk q (vs.set i u) :: L := by
    unfold upd
    rw [List.map_cons, upd_none (fun x hx e => (h.1.2 x hx).to q e rfl)]
    simp only [updI, if_true]
  rwa [h2] at h1
theorem Own.set_mem {n q i : Nat} {B : World → Prop} {w : World} (L1 : List Item) {L2 : List Item} {vs : List Value} {u : Value} (h : Own n B w (L1 ++ .blk q vs :: L2)) : Own n B (w.setCell ⟨q, i, none⟩ u) (L1 ++ .blk q (vs.set i u) :: L2) :=
  (Own.set_head (h.perm List.perm_middle)).perm List.perm_middle.symm
end Go.Proofs.YtmkhpafcgobfhaaDoor
