/- Slices of integers: what a reader is told of them; the contracts of the functions that only read one. -/
import Derived.Test.YtdnofcpobpoehaaC2
import Derived.OwnWalk
import Derived.Laws.OwnMore
import Derived.BigQuiet
import Derived.Deep.QuietTactic
namespace Go.Proofs.Ytdnofcpobpoehaa
open Go.RowKit

/-- The slice whose array begins at 'ad' reads as the integers 'zs'. -/
def IsInts (w : World) (ad : Option Addr) (zs : List Int) : Prop :=
  zs = [] ∨ ∃ b off, ad = some ⟨b, off, none⟩ ∧ b < w.heap.size ∧ ∀ i, i < zs.length → w.cell? ⟨b, off + i, none⟩ = some (.int .i64 (zs.getD i 0))

theorem IsInts.at {w : World} {ad : Option Addr} {zs : List Int} (h : IsInts w ad zs) {k : Nat} (hk : k < zs.length) :
    ∃ b off z, ad = some ⟨b, off, none⟩ ∧ b < w.heap.size ∧ w.cell? ⟨b, off + k, none⟩ = some (.int .i64 z) ∧ zs.drop k = z :: zs.drop (k + 1) := by
  rcases h with rfl | ⟨b, off, rfl, hb, hc⟩
  · simp at hk
  · refine ⟨b, off, zs.getD k 0, rfl, hb, hc k hk, ?_⟩
    rw [List.drop_eq_getElem_cons hk]; simp [hk]

theorem IsInts.below {w w' : World} {ad : Option Addr} {zs : List Int} (h : IsInts w ad zs) {B : Nat} (hb : Below B w w') (hB : w.heap.size ≤ B) : IsInts w' ad zs := by
  rcases h with rfl | ⟨b, off, rfl, hl, hc⟩
  · exact .inl rfl
  · refine .inr ⟨b, off, rfl, by have := hb.size; omega, fun i hi => ?_⟩
    rw [hb.cell (p := ⟨b, off + i, none⟩) (by show b < B; omega)]
    exact hc i hi

theorem ints_of_own {w : World} {base g n : Nat} {cap : Nat} {zs : List Int} {e : TypeId} (h : w.ownsRow base e 1 (.slice (some ⟨g, 0, none⟩) n cap) n (zs.map (Value.int .i64))) :
    IsInts w (some ⟨g, 0, none⟩) zs ∧ zs.length = n ∧ base ≤ g ∧ g < w.heap.size := by
  have hl := h.lt g rfl
  have hn : zs.length = n := by have := h.1; simpa using this
  refine ⟨.inr ⟨g, 0, rfl, hl.2, fun i hi => ?_⟩, hn, hl.1, hl.2⟩
  rw [h.cellAt (0 + i) (by omega)]
  simp [hi]

/-- Every element is a residue. -/
def allRes (zs : List Int) (m : Int) : Bool := zs.all fun z => resB z m
def allIn (zs : List Int) (lo hi : Int) : Bool := zs.all fun z => inB z lo hi

/-- What a loop over 'zs' from the k-th element on still has to say. -/
theorem all_step {p : Int → Bool} {zs rest : List Int} {z : Int} {k : Nat} (h : zs.drop k = z :: rest) (hb : zs.all p = (zs.drop k).all p) :
    (p z = true → zs.all p = rest.all p) ∧ (p z = false → zs.all p = false) := by
  rw [hb, h]; simp only [List.all_cons]
  exact ⟨fun h => by rw [h]; simp, fun h => by rw [h]; simp⟩

set_option maxHeartbeats 800000 in
theorem l1All_any (ad : Option Addr) (n cap : Nat) (zs : List Int) (lo hi : Int) (hn : zs.length = n) (hl : n ≤ 1152921504606846976) (w : World) (hz : IsInts w ad zs) :
    Calls Try.prog 117 #[.slice ad n cap, .int .i64 lo, .int .i64 hi] w fun e w' => e = .returned (.bool (allIn zs lo hi)) ∧ w = w' := by
  unfold allIn
  go_enter Try.func117, Try.ntmps117
  go_wp2
  go_loop [8, 11] (fun _ K => ∃ k : Nat, k ≤ n ∧ K = .int .i64 k ∧ (zs.all fun z => inB z lo hi) = ((zs.drop k).all fun z => inB z lo hi)) (fun _ K => n - (intOf K).toNat)
  case atStart => exact ⟨0, Nat.zero_le _, rfl, rfl⟩
  case round =>
    obtain ⟨k, hk, rfl, he⟩ := hrel
    by_cases hkn : k < n
    · obtain ⟨b, off, z, rfl, hb, hc, hd⟩ := hz.at (k := k) (by omega)
      have HS := Lib.hid (all_step hd he)
      clear he hd
      cases hi' : inB z lo hi
      · have HI := Lib.hid hi'
        clear hi'
        go_wp2_with (go_at_call 97; refine (l1In_any _ _ _ _).mono ?_; rintro e w' ⟨rfl, rfl⟩; rw [HI.out])
        go_ret
        exact ⟨by rw [HS.out.2 HI.out]; rfl, rfl⟩
      · have HI := Lib.hid hi'
        clear hi'
        go_wp2_with (go_at_call 97; refine (l1In_any _ _ _ _).mono ?_; rintro e w' ⟨rfl, rfl⟩; rw [HI.out])
        go_round
        case rel => exact ⟨k + 1, by omega, by go_num, HS.out.1 HI.out⟩
        case measure => simp only [intOf]; omega
    · have HE := Lib.hid he
      clear he
      go_wp2
      go_ret
      refine ⟨?_, rfl⟩
      rw [HE.out, List.drop_of_length_le (by omega)]; rfl


/-- A modulus and a list of residues that is not too long. -/
def listB (zs : List Int) (m : Int) : Bool := modB m && decide (zs.length ≤ 200) && allRes zs m

theorem allIn_res {zs : List Int} {m : Int} (h : modB m = true) : allIn zs 0 (m - 1) = allRes zs m := by
  unfold allIn allRes
  congr 1; funext z
  rw [Bool.eq_iff_iff, inB_true, resB_true]
  have := modB_true.1 h
  omega

/-- The sum modulo m, from 'acc' on. -/
def sumFrom (m acc : Int) (zs : List Int) : Int := zs.foldl (fun s x => (s + x) % m) acc
theorem sumFrom_step {m acc t : Int} {zs rest : List Int} {z : Int} {k : Nat} (h : zs.drop k = z :: rest) (hb : t = sumFrom m acc (zs.drop k)) : t = sumFrom m ((acc + z) % m) rest := by
  rw [hb, h]; rfl

theorem res_of_list {zs : List Int} {m : Int} (h : listB zs m = true) : 2 ≤ m ∧ m ≤ 2000000000 ∧ zs.length ≤ 200 ∧ ∀ z ∈ zs, 0 ≤ z ∧ z < m := by
  simp only [listB, Bool.and_eq_true, decide_eq_true_eq, allRes, List.all_eq_true] at h
  obtain ⟨⟨h1, h2⟩, h3⟩ := h
  have := modB_true.1 h1
  exact ⟨this.1, this.2, h2, fun z hz => by have := resB_true.1 (h3 z hz); omega⟩
theorem mem_drop {zs rest : List Int} {z : Int} {k : Nat} (h : zs.drop k = z :: rest) : z ∈ zs :=
  List.mem_of_mem_drop (i := k) (by rw [h]; simp)

end Go.Proofs.Ytdnofcpobpoehaa

