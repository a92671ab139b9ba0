/- The choices that a law derives from bytes: what the cursor's methods return is within bounds. -/
import Derived.Test.YtdnofcpobpoehaaCopy
import Derived.RegionTactic
import Derived.BigRegion
import Derived.ChangeAlike
namespace Go.Proofs.Ytdnofcpobpoehaa
open Go.RowKit

/-- n bytes begin at 'ad'. -/
def IsB (w : World) (ad : Option Addr) (n : Nat) : Prop :=
  n = 0 ∨ ∃ b off, ad = some ⟨b, off, none⟩ ∧ b < w.heap.size ∧ ∀ i, i < n → ∃ z : Int, (0 ≤ z ∧ z ≤ 255) ∧ w.cell? ⟨b, off + i, none⟩ = some (.int .u8 z)

/-- The cursor lies in block g; it has been asked at most k times. -/
def Cur (w : World) (g k : Nat) : Prop :=
  ∃ (ad : Option Addr) (n cap pos : Nat) (seed : Int), w.cell? ⟨g, 0, none⟩ = some (.slice ad n cap) ∧ w.cell? ⟨g, 1, none⟩ = some (.int .i64 pos) ∧ w.cell? ⟨g, 2, none⟩ = some (.int .u64 seed) ∧
    w.frozen? ⟨g, 1, none⟩ = false ∧ w.frozen? ⟨g, 2, none⟩ = false ∧ (0 ≤ seed ∧ seed ≤ 18446744073709551615) ∧ pos ≤ k ∧ IsB w ad n ∧ (∀ a, ad = some a → n ≠ 0 → a.block < g)

def NextPost (w : World) (g k : Nat) (e : Ending) (w' : World) : Prop :=
  ∃ x : Int, e = .returned (.int .i64 x) ∧ (0 ≤ x ∧ x ≤ 255) ∧ Cur w' g k ∧ w.grownBy w' (some g)

theorem grown_setCell (w : World) (a : Addr) (v : Value) : w.grownBy (w.setCell a v) (some a.block) :=
  ⟨rfl, rfl, rfl, by simp, fun k _ hk => heap_setCell_other w a k v (fun e => hk (by rw [e]))⟩
theorem grown_drewN (w : World) (n : Nat) (r : Option Nat) : w.grownBy (w.drewN n) r := ⟨rfl, rfl, rfl, Nat.le_refl _, fun _ _ _ => rfl⟩

theorem IsB.grown {w w' : World} {g : Nat} {ad : Option Addr} {n : Nat} (h : IsB w ad n) (hg : w.grownBy w' (some g)) (hne : ∀ a, ad = some a → n ≠ 0 → a.block ≠ g) : IsB w' ad n := by
  rcases h with rfl | ⟨b, off, rfl, hl, hc⟩
  · exact .inl rfl
  · by_cases h0 : n = 0
    · exact .inl h0
    · refine .inr ⟨b, off, rfl, Nat.lt_of_lt_of_le hl hg.size, fun i hi => ?_⟩
      obtain ⟨z, hz, hcz⟩ := hc i hi
      exact ⟨z, hz, hg.cell (a := ⟨b, off + i, none⟩) hcz (by have := hne _ rfl h0; simpa using this)⟩

/-- What a step leaves. -/
theorem cur_step {w : World} {g k n cap pos : Nat} {ad : Option Addr} {seed seed' : Int} (c0 : w.cell? ⟨g, 0, none⟩ = some (.slice ad n cap)) (c1 : w.cell? ⟨g, 1, none⟩ = some (.int .i64 pos)) (c2 : w.cell? ⟨g, 2, none⟩ = some (.int .u64 seed))
    (f1 : w.frozen? ⟨g, 1, none⟩ = false) (f2 : w.frozen? ⟨g, 2, none⟩ = false) (hs : 0 ≤ seed' ∧ seed' ≤ 18446744073709551615) (hp : pos ≤ k) (hb : IsB w ad n) (hne : ∀ a, ad = some a → n ≠ 0 → a.block < g) (a b : Nat) :
    Cur ((((w.drewN a).setCell ⟨g, 1, none⟩ (.int .i64 ((pos : Int) + 1))).setCell ⟨g, 2, none⟩ (.int .u64 seed')).drewN b) g (k + 1) ∧
    w.grownBy ((((w.drewN a).setCell ⟨g, 1, none⟩ (.int .i64 ((pos : Int) + 1))).setCell ⟨g, 2, none⟩ (.int .u64 seed')).drewN b) (some g) := by
  have hg : w.grownBy ((((w.drewN a).setCell ⟨g, 1, none⟩ (.int .i64 ((pos : Int) + 1))).setCell ⟨g, 2, none⟩ (.int .u64 seed')).drewN b) (some g) :=
    grown_trans (grown_trans (grown_trans (grown_drewN w a _) (grown_setCell _ ⟨g, 1, none⟩ _)) (grown_setCell _ ⟨g, 2, none⟩ _)) (grown_drewN _ b _)
  have h20 : (⟨g, 2, none⟩ : Addr) ≠ ⟨g, 0, none⟩ := by simp
  have h10 : (⟨g, 1, none⟩ : Addr) ≠ ⟨g, 0, none⟩ := by simp
  have h21 : (⟨g, 2, none⟩ : Addr) ≠ ⟨g, 1, none⟩ := by simp
  have h12 : (⟨g, 1, none⟩ : Addr) ≠ ⟨g, 2, none⟩ := by simp
  refine ⟨⟨ad, n, cap, pos + 1, seed', ?_, ?_, ?_, ?_, ?_, hs, by omega, hb.grown hg (fun a h h0 => Nat.ne_of_lt (hne a h h0)), hne⟩, hg⟩
  · rw [World.cell?_drewN, World.cell?_setCell_other _ _ _ _ h20, World.cell?_setCell_other _ _ _ _ h10, World.cell?_drewN]; exact c0
  · rw [World.cell?_drewN, World.cell?_setCell_other _ _ _ _ h21, World.cell?_setCell_same _ _ _ (u := .int .i64 pos) (by rw [World.cell?_drewN]; exact c1)]; simp
  · rw [World.cell?_drewN]
    exact World.cell?_setCell_same _ _ _ (u := .int .u64 seed) (by rw [World.cell?_setCell_other _ _ _ _ h12, World.cell?_drewN]; exact c2)
  · rw [World.frozen?_drewN, World.frozen?_setCell, World.frozen?_setCell, World.frozen?_drewN]; exact f1
  · rw [World.frozen?_drewN, World.frozen?_setCell, World.frozen?_setCell, World.frozen?_drewN]; exact f2

theorem u64_range' (x : Int) : 0 ≤ IntKind.u64.wrap x ∧ IntKind.u64.wrap x ≤ 18446744073709551615 := by
  rw [IntKind.wrap_u64]; omega

theorem and_255 (x : Int) : 0 ≤ wrap64 (bits BinOp.and IntKind.u64 (IntKind.u64.wrap x / 1099511627776) 255) ∧ wrap64 (bits BinOp.and IntKind.u64 (IntKind.u64.wrap x / 1099511627776) 255) ≤ 255 := by
  have hr := u64_range' x
  generalize IntKind.u64.wrap x = s at *
  have h0 : 0 ≤ s / 1099511627776 := Int.ediv_nonneg hr.1 (by decide)
  have h1 : s / 1099511627776 ≤ 18446744073709551615 := by omega
  generalize s / 1099511627776 = e at *
  have h := bits_and_u64_nat e.toNat 255 (by omega) (by omega)
  rw [Int.toNat_of_nonneg h0] at h
  have h2 : bits BinOp.and IntKind.u64 e 255 = ((e.toNat &&& 255 : Nat) : Int) := h
  rw [h2]
  have h3 : e.toNat &&& 255 ≤ 255 := Nat.and_le_right
  have h4 : wrap64 ((e.toNat &&& 255 : Nat) : Int) = ((e.toNat &&& 255 : Nat) : Int) := by unfold wrap64; omega
  rw [h4]; omega

set_option maxHeartbeats 1600000 in
theorem next_any (g k : Nat) (hk : k ≤ 1000000000000) (w : World) (hc : Cur w g k) :
    Calls Try.prog 165 #[.pointer (some ⟨g, 0, none⟩)] w (NextPost w g (k + 1)) := by
  obtain ⟨ad, n, cap, pos, seed, c0, c1, c2, f1, f2, ⟨s0, s1⟩, hp, hb, hne⟩ := hc
  have HB := Lib.hid hb
  have HNE := Lib.hid hne
  clear hb hne
  by_cases hlt : pos < n
  · obtain ⟨b, off, rfl, hbs, hbc⟩ : ∃ b off, ad = some ⟨b, off, none⟩ ∧ b < w.heap.size ∧ ∃ z : Int, (0 ≤ z ∧ z ≤ 255) ∧ w.cell? ⟨b, off + pos, none⟩ = some (.int .u8 z) := by
      rcases HB.out with h | ⟨b, off, h1, h2, h3⟩
      · omega
      · exact ⟨b, off, h1, h2, h3 pos hlt⟩
    obtain ⟨z, ⟨z0, z1⟩, hz⟩ := hbc
    have hlti : (pos : Int) < (n : Int) := by omega
    go_enter Try.func165, Try.ntmps165
    go_wp2
    go_quiet (fail)
    go_wp2
    go_quiet (fail)
    go_wp2
    go_quiet (fail)
    go_wp2
    go_ret
    obtain ⟨r1, r2⟩ := cur_step c0 c1 c2 f1 f2 (u64_range' _) hp HB.out HNE.out _ _
    exact ⟨z, rfl, ⟨z0, z1⟩, r1, r2⟩
  · have hlti : (n : Int) ≤ (pos : Int) := by omega
    go_enter Try.func165, Try.ntmps165
    go_wp2
    go_quiet (fail)
    go_wp2
    go_quiet (fail)
    go_wp2
    go_ret
    obtain ⟨r1, r2⟩ := cur_step c0 c1 c2 f1 f2 (u64_range' _) hp HB.out HNE.out _ _
    exact ⟨_, rfl, and_255 _, r1, r2⟩


theorem Cur.mono {w : World} {g k k' : Nat} (h : Cur w g k) (hk : k ≤ k') : Cur w g k' := by
  obtain ⟨ad, n, cap, pos, seed, c0, c1, c2, f1, f2, hs, hp, hb, hne⟩ := h
  exact ⟨ad, n, cap, pos, seed, c0, c1, c2, f1, f2, hs, by omega, hb, hne⟩
theorem Cur.lt {w : World} {g k : Nat} (h : Cur w g k) : g < w.heap.size := by
  obtain ⟨ad, n, cap, pos, seed, c0, _⟩ := h
  exact World.block_lt_of_cell? w _ c0
theorem IsB.below {w w' : World} {ad : Option Addr} {n : Nat} (h : IsB w ad n) (hb : Below w.heap.size w w') : IsB w' ad n := by
  rcases h with rfl | ⟨b, off, rfl, hl, hc⟩
  · exact .inl rfl
  · refine .inr ⟨b, off, rfl, Nat.lt_of_lt_of_le hl hb.size, fun i hi => ?_⟩
    obtain ⟨z, hz, hcz⟩ := hc i hi
    exact ⟨z, hz, by rw [hb.cell (p := ⟨b, off + i, none⟩) hl]; exact hcz⟩
theorem Cur.below {w w' : World} {g k : Nat} (h : Cur w g k) (hb : Below w.heap.size w w') : Cur w' g k := by
  have hg := h.lt
  obtain ⟨ad, n, cap, pos, seed, c0, c1, c2, f1, f2, hs, hp, hbb, hne⟩ := h
  refine ⟨ad, n, cap, pos, seed, ?_, ?_, ?_, ?_, ?_, hs, hp, hbb.below hb, hne⟩
  · rw [hb.cell (p := ⟨g, 0, none⟩) hg]; exact c0
  · rw [hb.cell (p := ⟨g, 1, none⟩) hg]; exact c1
  · rw [hb.cell (p := ⟨g, 2, none⟩) hg]; exact c2
  · rw [hb.frozen (p := ⟨g, 1, none⟩) hg]; exact f1
  · rw [hb.frozen (p := ⟨g, 2, none⟩) hg]; exact f2
theorem grown_below {w w' : World} (h : Below w.heap.size w w') (r : Option Nat) : w.grownBy w' r := ⟨h.os, h.tape, h.output, h.size, fun k hk _ => h.block k hk⟩

def PickPost (w : World) (g k : Nat) (n : Int) (e : Ending) (w' : World) : Prop :=
  ∃ x : Int, e = .returned (.int .i64 x) ∧ (0 ≤ x ∧ (x < n ∨ (n ≤ 1 ∧ x = 0))) ∧ Cur w' g k ∧ w.grownBy w' (some g)

set_option maxHeartbeats 800000 in
theorem pick_any (g k : Nat) (n : Int) (hk : k ≤ 100000000000) (hn : n ≤ 1000000000000) (w : World) (hc : Cur w g k) :
    Calls Try.prog 136 #[.pointer (some ⟨g, 0, none⟩), .int .i64 n] w (PickPost w g (k + 2) n) := by
  have HC := Lib.hid hc
  clear hc
  by_cases h1 : n ≤ 1
  · go_enter Try.func136, Try.ntmps136
    go_wp2
    go_ret
    exact ⟨0, rfl, ⟨Int.le_refl _, .inr ⟨h1, rfl⟩⟩, HC.out.mono (by omega), World.grownBy.refl _ _⟩
  · by_cases h2 : 200 < n
    · go_enter Try.func136, Try.ntmps136
      go_wp2_with fail
      refine (next_any g k (by omega) _ HC.out).mono ?_
      rintro e w1 ⟨x, rfl, ⟨x0, x1⟩, hc1, hg1⟩
      have HC1 := Lib.hid hc1
      have HG1 := Lib.hid hg1
      clear hc1 hg1
      go_wp2_with fail
      refine (next_any g (k + 1) (by omega) _ HC1.out).mono ?_
      rintro e w2 ⟨y, rfl, ⟨y0, y1⟩, hc2, hg2⟩
      have HC2 := Lib.hid hc2
      have HG2 := Lib.hid (grown_trans HG1.out hg2)
      clear hc2 hg2
      have hm0 : 0 ≤ (x * 256 + y) % n := Int.emod_nonneg _ (by omega)
      have hm1 : (x * 256 + y) % n < n := Int.emod_lt_of_pos _ (by omega)
      have HM := Lib.hid (And.intro hm0 hm1)
      clear hm0 hm1
      go_wp2
      go_ret
      exact ⟨_, rfl, ⟨HM.out.1, .inl HM.out.2⟩, HC2.out, HG2.out⟩
    · go_enter Try.func136, Try.ntmps136
      go_wp2_with fail
      refine (next_any g k (by omega) _ HC.out).mono ?_
      rintro e w1 ⟨x, rfl, ⟨x0, x1⟩, hc1, hg1⟩
      have HC1 := Lib.hid hc1
      have HG1 := Lib.hid hg1
      clear hc1 hg1
      have hm0 : 0 ≤ x % n := Int.emod_nonneg _ (by omega)
      have hm1 : x % n < n := Int.emod_lt_of_pos _ (by omega)
      have HM := Lib.hid (And.intro hm0 hm1)
      clear hm0 hm1
      go_wp2
      go_ret
      exact ⟨_, rfl, ⟨HM.out.1, .inl HM.out.2⟩, HC1.out.mono (by omega), HG1.out⟩

def OnePost (w : World) (g k : Nat) (e : Ending) (w' : World) : Prop :=
  ∃ b : Bool, e = .returned (.bool b) ∧ Cur w' g k ∧ w.grownBy w' (some g)

theorem one_any (g k : Nat) (n : Int) (hk : k ≤ 100000000000) (hn : n ≤ 1000000000000) (w : World) (hc : Cur w g k) :
    Calls Try.prog 138 #[.pointer (some ⟨g, 0, none⟩), .int .i64 n] w (OnePost w g (k + 2)) := by
  have HC := Lib.hid hc
  clear hc
  go_enter Try.func138, Try.ntmps138
  go_wp2_with fail
  refine (pick_any g k n hk hn _ HC.out).mono ?_
  rintro e w1 ⟨x, rfl, _, hc1, hg1⟩
  have HC1 := Lib.hid hc1
  have HG1 := Lib.hid hg1
  clear hc1 hg1
  go_wp2
  go_ret
  exact ⟨_, rfl, HC1.out, HG1.out⟩

def AmongPost (w : World) (g k : Nat) (zs : List Int) (e : Ending) (w' : World) : Prop :=
  ∃ x : Int, e = .returned (.int .i64 x) ∧ x ∈ zs ∧ Cur w' g k ∧ w.grownBy w' (some g)

set_option maxHeartbeats 800000 in
theorem among_any (g k : Nat) (ad : Option Addr) (n cap : Nat) (zs : List Int) (hk : k ≤ 100000000000) (hn : zs.length = n) (h0 : 0 < n) (hl : n ≤ 1000000) (hne : ∀ a, ad = some a → a.block ≠ g) (w : World) (hz : IsInts w ad zs) (hc : Cur w g k) :
    Calls Try.prog 94 #[.pointer (some ⟨g, 0, none⟩), .slice ad n cap] w (AmongPost w g (k + 2) zs) := by
  have HC := Lib.hid hc
  have HN := Lib.hid hn
  have HNE := Lib.hid hne
  clear hc hn hne
  go_enter Try.func94, Try.ntmps94
  go_wp2_with fail
  refine (pick_any g k n hk (by omega) _ HC.out).mono ?_
  rintro e w1 ⟨x, rfl, hx, hc1, hg1⟩
  have hx0 : 0 ≤ x := hx.1
  have hxn : x < (n : Int) := by omega
  obtain ⟨i, rfl⟩ := Int.eq_ofNat_of_zero_le hx0
  obtain ⟨b, off, z, rfl, hb, hcell, hd⟩ := (hz.grown hg1 (fun a ha => by have := HNE.out a ha; simpa using this)).at (k := i) (by have := HN.out; omega)
  have HD := Lib.hid (mem_drop hd)
  have HC1 := Lib.hid hc1
  have HG1 := Lib.hid hg1
  clear hc1 hg1 hd hx
  go_wp2
  go_ret
  exact ⟨z, rfl, HD.out, HC1.out, HG1.out⟩

theorem ints_lit (w : World) (zs : List Int) (t : TypeId) : IsInts (w.alloc (.cells (zs.map (Value.int .i64)).toArray t)) (some ⟨w.heap.size, 0, none⟩) zs := by
  refine .inr ⟨w.heap.size, 0, rfl, by simp, fun i hi => ?_⟩
  rw [World.cell?_alloc_at _ _ _ _ rfl]
  simp [hi]

def ModPost (w : World) (g k : Nat) (e : Ending) (w' : World) : Prop :=
  ∃ m a : Int, e = .returned (.tuple #[.int .i64 m, .int .i64 a]) ∧ (-5 ≤ m ∧ m ≤ 2000000001) ∧ (-1 ≤ a ∧ a ≤ 60000) ∧ Cur w' g k ∧ w.grownBy w' (some g)

end Go.Proofs.Ytdnofcpobpoehaa

