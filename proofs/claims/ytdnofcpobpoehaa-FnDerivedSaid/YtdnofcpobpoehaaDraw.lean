/- The lists that a law draws. -/
import Derived.Test.YtdnofcpobpoehaaCur
import Derived.Test.YtdnofcpobpoehaaInvAll
namespace Go.Proofs.Ytdnofcpobpoehaa
open Go.RowKit

theorem grown_own {w a b : World} {g : Nat} {r : Option Nat} (h : w.grownBy a (some g)) (k : a.grownBy b r) (hr : ∀ q, r = some q → w.heap.size ≤ q) : w.grownBy b (some g) :=
  ⟨k.os.trans h.os, k.tape.trans h.tape, k.output.trans h.output, Nat.le_trans h.size k.size,
    fun i hi hne => (k.block i (Nat.lt_of_lt_of_le hi h.size) (fun e => by have := hr i e.symm; omega)).trans (h.block i hi hne)⟩

/-- What is owned from 'base' on stays so while the cursor's block, below it, is written. -/
theorem own_cur {w w' : World} {base g k n cap : Nat} {e : TypeId} {size : Nat} {ad : Option Addr} {xs : List Value} (h : w.ownsRow base e size (.slice ad k cap) n xs) (hg : w.grownBy w' (some g)) (hb : g < base) : w'.ownsRow base e size (.slice ad k cap) n xs :=
  own_ne h hg (fun a ha => by
    have := (h.lt a.block (by subst ha; rfl)).1
    simp; omega)

/-- Rows above the cursor's block are written: the cursor stays. -/
theorem Cur.above {w w' : World} {g k B : Nat} {r : Option Nat} (h : Cur w g k) (hg : w.grownBy w' r) (hB : g < B) (hr : ∀ q, r = some q → B ≤ q) : Cur w' g k := by
  have hne : some g ≠ r := by rintro rfl; have := hr g rfl; omega
  have hl := h.lt
  obtain ⟨ad, n, cap, pos, seed, c0, c1, c2, f1, f2, hs, hp, hb, hlt⟩ := h
  have hblk := hg.block g hl hne
  refine ⟨ad, n, cap, pos, seed, hg.cell (a := ⟨g, 0, none⟩) c0 hne, hg.cell (a := ⟨g, 1, none⟩) c1 hne, hg.cell (a := ⟨g, 2, none⟩) c2 hne, ?_, ?_, hs, hp, ?_, hlt⟩
  · rw [World.frozen?_of_block (w := w) (a := ⟨g, 1, none⟩) hblk]; exact f1
  · rw [World.frozen?_of_block (w := w) (a := ⟨g, 2, none⟩) hblk]; exact f2
  · rcases hb with rfl | ⟨b, off, rfl, hbl, hc⟩
    · exact .inl rfl
    · by_cases h0 : n = 0
      · exact .inl h0
      · refine .inr ⟨b, off, rfl, Nat.lt_of_lt_of_le hbl hg.size, fun i hi => ?_⟩
        obtain ⟨z, hz, hcz⟩ := hc i hi
        have hbg : b < g := hlt _ rfl h0
        exact ⟨z, hz, hg.cell (a := ⟨b, off + i, none⟩) hcz (by rintro rfl; have := hr b rfl; omega)⟩

def ResPost (w : World) (g k most : Nat) (e : Ending) (w' : World) : Prop :=
  ∃ (ad : Option Addr) (n cap : Nat) (zs : List Int), e = .returned (.slice ad n cap) ∧ w'.ownsRow w.heap.size 3 1 (.slice ad n cap) n (zs.map (Value.int .i64)) ∧ n ≤ most + 1 ∧ Cur w' g k ∧ w.grownBy w' (some g)


/-- A cursor over an argument's bytes, in a block of its own. -/
theorem cur_new (w : World) (ad : Option Addr) (n cap : Nat) (hb : IsB w ad n) (t : TypeId) : Cur (w.alloc (.cells #[.slice ad n cap, .int .i64 0, .int .u64 0] t)) w.heap.size 0 := by
  refine ⟨ad, n, cap, 0, 0, ?_, ?_, ?_, ?_, ?_, ⟨by decide, by decide⟩, Nat.le_refl _, hb.below ((Below.refl _ _).alloc (Nat.le_refl _) _), fun a ha h0 => ?_⟩
  · rw [World.cell?_alloc_at _ _ _ _ rfl]; rfl
  · rw [World.cell?_alloc_at _ _ _ _ rfl]; rfl
  · rw [World.cell?_alloc_at _ _ _ _ rfl]; rfl
  · exact World.frozen?_alloc_at _ _ _ _ rfl
  · exact World.frozen?_alloc_at _ _ _ _ rfl
  · rcases hb with h | ⟨b, off, rfl, hbl, _⟩
    · exact absurd h h0
    · cases ha; exact hbl

theorem below_cur {w a b : World} (h : Below w.heap.size w a) (hg : a.grownBy b (some w.heap.size)) : Below w.heap.size w b :=
  h.grown hg h.size (fun k hk => by cases hk; exact Nat.le_refl _)

def DrawTwo (w : World) (e : Ending) (w' : World) : Prop :=
  ∃ x y : Int, e = .returned (.tuple #[.int .i64 x, .int .i64 y]) ∧ (-1 ≤ x ∧ x ≤ 60000) ∧ (-5 ≤ y ∧ y ≤ 2000000001) ∧ Below w.heap.size w w'

theorem own_base {w : World} {base base' : Nat} {e : TypeId} {size : Nat} {v : Value} {n : Nat} {xs : List Value} (h : w.ownsRow base e size v n xs) (hb : base' ≤ base) : w.ownsRow base' e size v n xs := by
  refine ⟨h.1, ?_⟩
  rcases h.2 with h1 | ⟨g, cap, cur, h1, h2, h3⟩
  · exact .inl h1
  · exact .inr ⟨g, cap, cur, h1, Nat.le_trans hb h2, h3⟩

/-- A drawn list, in rows of the call's own, and a number. -/
def DrawList (w : World) (e : Ending) (w' : World) : Prop :=
  ∃ (ad : Option Addr) (n cap : Nat) (zs : List Int) (m : Int), e = .returned (.tuple #[.slice ad n cap, .int .i64 m]) ∧ w'.ownsRow w.heap.size 3 1 (.slice ad n cap) n (zs.map (Value.int .i64)) ∧ n ≤ 201 ∧ (-5 ≤ m ∧ m ≤ 2000000001) ∧ Below w.heap.size w w'

end Go.Proofs.Ytdnofcpobpoehaa

