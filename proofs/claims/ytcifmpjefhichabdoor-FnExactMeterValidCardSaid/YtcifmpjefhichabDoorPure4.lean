/- Plain facts for chapter 4: values of notes, their ticks, the fewest values that make a number of ticks. -/
import Derived.Test.YtcifmpjefhichabDoorPure1
namespace Go.Proofs.YtcifmpjefhichabDoor
set_option linter.unusedSimpArgs false
set_option linter.unusedVariables false
def baseB (b : Int) : Bool := b == 1 || b == 2 || b == 4 || b == 8 || b == 16
/-- the value is valid. -/
def vvB (b d t : Int) : Bool := baseB b && inB d 0 2 && (t == 1 || t == 3)
theorem baseB_iff {b : Int} : baseB b = true ↔ b = 1 ∨ b = 2 ∨ b = 4 ∨ b = 8 ∨ b = 16 := by simp [baseB, or_assoc]
theorem vvB_iff {b d t : Int} : vvB b d t = true ↔ (b = 1 ∨ b = 2 ∨ b = 4 ∨ b = 8 ∨ b = 16) ∧ (0 ≤ d ∧ d ≤ 2) ∧ (t = 1 ∨ t = 3) := by simp [vvB, baseB_iff, inB_iff, and_assoc]
/-- the ticks of a value. -/
def dotZ (n d : Int) : Int := if d = 1 then n * 3 / 2 else if d = 2 then n * 7 / 4 else n
def tickZ (b d t : Int) : Int := if t = 3 then dotZ (192 / b) d * 2 / 3 else dotZ (192 / b) d
/-- what TicksOf answers. -/
def ttZ (b d t : Int) : Int := if vvB b d t then tickZ b d t else -1
/-- all values in their order, and their ticks. -/
def vaL : List (Int × Int × Int) := [(1, 0, 1), (2, 0, 1), (4, 0, 1), (8, 0, 1), (16, 0, 1), (1, 1, 1), (2, 1, 1), (4, 1, 1), (8, 1, 1), (16, 1, 1), (1, 2, 1), (2, 2, 1), (4, 2, 1), (8, 2, 1), (16, 2, 1), (1, 0, 3), (2, 0, 3), (4, 0, 3), (8, 0, 3), (16, 0, 3), (1, 1, 3), (2, 1, 3), (4, 1, 3), (8, 1, 3), (16, 1, 3), (1, 2, 3), (2, 2, 3), (4, 2, 3), (8, 2, 3), (16, 2, 3)]
def tkL : List Int := [192, 96, 48, 24, 12, 288, 144, 72, 36, 18, 336, 168, 84, 42, 21, 128, 64, 32, 16, 8, 192, 96, 48, 24, 12, 224, 112, 56, 28, 14]
theorem tkL_of : tkL = vaL.map fun v => tickZ v.1 v.2.1 v.2.2 := by decide +kernel
theorem vaL_ok : ∀ v ∈ vaL, vvB v.1 v.2.1 v.2.2 = true := by decide +kernel
/-- The least numbers of values that make a number of ticks, and one more, in digits of sixteen; 0: none make it. -/
def fewT : Nat := 25538065250179457276677720984758174977483056940559187646991492104388829528840662580617460240677896834954905022038410359657868054138785421610603072012004777627444926537117226808641193811652831612931872752912956286995324148113629062584430663228942312531310758809384324766258090526166665365165088207675927112358387985130873431023489678261776616780196194293627848559717129794134414205493409138020696645755962095869990808245414251318680376064990624108563105764124819357777291028647509560661258941374336541686048824393707979000565891549018965535028081033143217734675145121226281837672871704038394665287583040892335973101503414721768702496431569368421919478296146521890639913775236244117916841662959322605066916842123743543640588033683875939928709236029617321947061204547785845315773892750951452132218094456163019998653388988670580193964982768600683049435933265227405850241603218199302704191169511524125757450668624066868658437095425
/-- the least number of values, or -1. -/
def few (n : Nat) : Int := (((fewT >>> (4 * n)) % 16 : Nat) : Int) - 1
theorem few_bd (n : Nat) : -1 ≤ few n ∧ few n ≤ 14 := by unfold few; omega
/-- one value more is tried. -/
def fewS (n : Nat) (x m : Int) : Int := if m ≤ n ∧ 0 ≤ few ((n : Int) - m).toNat ∧ (x < 0 ∨ few ((n : Int) - m).toNat + 1 < x) then few ((n : Int) - m).toNat + 1 else x
/-- the first k values have been tried. -/
def fewK (n k : Nat) : Int := (tkL.take k).foldl (fewS n) (-1)
theorem foldl_up {α β : Type} (f : β → α → β) (z : β) (l : List α) (k : Nat) (a : α) (h : l[k]? = some a) : (l.take (k + 1)).foldl f z = f ((l.take k).foldl f z) a := by
  rw [List.take_add_one, h]; simp [List.foldl_append]
theorem fewK_up (n k : Nat) (m : Int) (h : tkL[k]? = some m) : fewK n (k + 1) = fewS n (fewK n k) m := foldl_up _ _ _ _ _ h
theorem few_all : ((List.range 768).all fun n => fewK (n + 1) 30 == few (n + 1)) = true := by decide +kernel
theorem few_is {n : Nat} (h0 : 1 ≤ n) (h1 : n ≤ 768) : fewK n 30 = few n := by
  have := List.all_eq_true.1 few_all (n - 1) (by simp; omega)
  rw [show n - 1 + 1 = n by omega] at this
  simpa using this
theorem few_zero : few 0 = 0 := by decide +kernel
theorem fewS_bd {n : Nat} {x m : Int} (h : -1 ≤ x ∧ x ≤ 15) : -1 ≤ fewS n x m ∧ fewS n x m ≤ 15 := by
  unfold fewS
  have := few_bd ((n : Int) - m).toNat
  split <;> omega
theorem fewK_bd (n : Nat) : ∀ k : Nat, -1 ≤ fewK n k ∧ fewK n k ≤ 15 := by
  suffices h : ∀ (l : List Int) (x : Int), (-1 ≤ x ∧ x ≤ 15) → -1 ≤ l.foldl (fewS n) x ∧ l.foldl (fewS n) x ≤ 15 from fun k => h _ _ (by omega)
  intro l
  induction l with
  | nil => exact fun x h => h
  | cons m l ih => exact fun x h => ih _ (fewS_bd h)
/-- the greatest value that may come next: one value more is tried. -/
def nextS (n : Nat) (x m : Int) : Int := if m ≤ n ∧ few ((n : Int) - m).toNat = few n - 1 ∧ x < m then m else x
def nextK (n k : Nat) : Int := (tkL.take k).foldl (nextS n) 0
def next (n : Nat) : Int := nextK n 30
theorem nextK_up (n k : Nat) (m : Int) (h : tkL[k]? = some m) : nextK n (k + 1) = nextS n (nextK n k) m := foldl_up _ _ _ _ _ h
/-- what is left, and how many values: the list of a number of ticks. -/
theorem next_all : ((List.range 768).all fun n => !decide (0 < few (n + 1)) || (decide (8 ≤ next (n + 1)) && decide (next (n + 1) ≤ n + 1) && (few (n + 1 - (next (n + 1)).toNat) == few (n + 1) - 1) && tkL.contains (next (n + 1)))) = true := by decide +kernel
theorem next_is {n : Nat} (h0 : 1 ≤ n) (h1 : n ≤ 768) (hf : 0 < few n) : 8 ≤ next n ∧ next n ≤ n ∧ few (n - (next n).toNat) = few n - 1 ∧ next n ∈ tkL := by
  have := List.all_eq_true.1 next_all (n - 1) (by simp; omega)
  simp only [show n - 1 + 1 = n by omega, show ((n - 1 : Nat) : Int) + 1 = n by omega] at this
  simp only [hf, decide_true, Bool.not_true, Bool.false_or, Bool.and_eq_true, decide_eq_true_eq, beq_iff_eq, List.contains_iff_mem] at this
  exact ⟨this.1.1.1, this.1.1.2, this.1.2, this.2⟩
/-- the ticks that make n together, j at most. -/
def tiedJ : Nat → Nat → List Int
  | 0, _ => []
  | j + 1, n => if 0 < n ∧ 0 < few n then next n :: tiedJ j (n - (next n).toNat) else []
def tied (n : Nat) : List Int := tiedJ 16 n
end Go.Proofs.YtcifmpjefhichabDoor
