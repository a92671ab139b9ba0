/- Plain facts that the laws of groups ask: inverses cancel, elements from residues, lengths. -/
import Derived.Test.YtafoenoilcgjdaaG7
namespace Go.Proofs.Ytafoenoilcgjdaa
open Go.RowKit

theorem inv_facts {P Q G x : Int} (h : isElV P Q G x = true) :
    isElV P Q G (invOfV P Q G x) = true ∧ mulB P Q G [x, invOfV P Q G x] = true ∧ mulV P Q G [x, invOfV P Q G x] = 1 ∧ expB P Q G x (Q - 1) = true ∧ expV P Q G x (Q - 1) = invOfV P Q G x := by
  obtain ⟨hg, hx⟩ := isElV_true.1 h
  obtain ⟨p, q, g, rfl, rfl, rfl, hp, hq, hd, _, _, _, _, _, _⟩ := good_nat hg
  have hp1 : 1 < p := hp.1
  have hq1 : 1 < q := hq.1
  obtain ⟨n, rfl, n1, n2, n3⟩ := el_nat hp1 hx
  have e0 : invOfV p q g n = Num.pow n (q - 1 : Int) p := by simp [invOfV, h]
  have e1 : invOfV p q g n = ((n ^ (q - 1) % p : Nat) : Int) := by
    rw [e0, show ((q : Int) - 1) = ((q - 1 : Nat) : Int) by omega, Num.pow_eq hp1]
  have h1 : (n ^ (q - 1) % p) ^ q % p = 1 := Num.pow_el hp1 n3
  have h2 : 1 ≤ n ^ (q - 1) % p := by
    have := Num.el_pos (x := n ^ (q - 1) % p) hp1 (by omega) h1
    rwa [Nat.mod_mod] at this
  have h3 : n ^ (q - 1) % p < p := Nat.mod_lt _ (by omega)
  have hy : elB p q (invOfV p q g n) = true := by rw [e1]; exact el_mk hp1 h2 h3 h1
  have hm : mulB p q g [(n : Int), invOfV p q g n] = true := by
    unfold mulB elsB
    rw [hg, allEl_two, hx, hy]; rfl
  have hxe : exB q ((q : Int) - 1) = true := exB_true.2 (by omega)
  have he : expB p q g n ((q : Int) - 1) = true := by
    unfold expB
    rw [hg, hx, hxe]; rfl
  refine ⟨isElV_true.2 ⟨hg, hy⟩, hm, ?_, he, ?_⟩
  · have h4 : n * (n ^ (q - 1) % p) % p = 1 := by
      rw [Nat.mul_mod_mod, Nat.mul_comm, ← Nat.pow_succ, show (q - 1).succ = q by omega]; exact n3
    have h5 : mulV p q g [(n : Int), invOfV p q g n] = (((1 * n % p) * (n ^ (q - 1) % p) % p : Nat) : Int) := by
      unfold mulV
      rw [hm, if_pos rfl, e1]
      show (1 * (n : Int) % (p : Int)) * ((n ^ (q - 1) % p : Nat) : Int) % (p : Int) = _
      rw [Int.natCast_emod (1 * n % p * (n ^ (q - 1) % p)) p, Int.natCast_mul (1 * n % p), Int.natCast_emod (1 * n) p, Int.natCast_mul 1 n]; rfl
    rw [h5, Nat.one_mul, Nat.mod_eq_of_lt n2, h4]; rfl
  · unfold expV
    rw [he, if_pos rfl, e0]

theorem from_facts {P Q G r : Int} (h : fromB P Q G r = true) : isElV P Q G (fromV P Q G r) = true ∧ goodB P Q G = true := by
  have h0 := h
  unfold fromB at h
  rw [Bool.and_eq_true, inB_true] at h
  obtain ⟨hg, r1, r2⟩ := h
  obtain ⟨p, q, g, rfl, rfl, rfl, hp, hq, hd, _, _, _, _, _, _⟩ := good_nat hg
  have hp1 : 1 < p := hp.1
  have hq1 : 1 < q := hq.1
  obtain ⟨n, rfl⟩ := Int.eq_ofNat_of_zero_le (show 0 ≤ r by omega)
  have e0 : fromV p q g n = ((n ^ ((p - 1) / q) % p : Nat) : Int) := by
    unfold fromV
    rw [h0, if_pos rfl, show ((p : Int) - 1) / (q : Int) = (((p - 1) / q : Nat) : Int) by rw [show (p : Int) - 1 = ((p - 1 : Nat) : Int) by omega]; exact (Int.natCast_ediv _ _).symm, Num.pow_eq hp1]
  have h1 := Num.proj_el hp hd (show 1 ≤ n by omega) (show n < p by omega)
  have h2 : 1 ≤ n ^ ((p - 1) / q) % p := by
    have := Num.el_pos (x := n ^ ((p - 1) / q) % p) hp1 (by omega) h1
    rwa [Nat.mod_mod] at this
  refine ⟨isElV_true.2 ⟨hg, ?_⟩, hg⟩
  rw [e0]
  exact el_mk hp1 h2 (Nat.mod_lt _ (by omega)) h1

end Go.Proofs.Ytafoenoilcgjdaa

