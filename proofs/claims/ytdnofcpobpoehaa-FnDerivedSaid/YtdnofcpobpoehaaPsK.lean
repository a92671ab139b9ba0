/- The kernel makes the search: no composite number up to 2000000000 passes the strong test for 2, 3, 5 and 7. -/
import Derived.Test.YtdnofcpobpoehaaPsT
import Derived.KernelRfl
namespace Go.Proofs.Ytdnofcpobpoehaa.Num
theorem look0 : topGo gt 500 1 s0 = true := by kernel_rfl
theorem drop0 : s0.drop 1 = s1 := by kernel_rfl
theorem look1 : topGo gt 500 1 s1 = true := by kernel_rfl
theorem drop1 : s1.drop 1 = s2 := by kernel_rfl
theorem look2 : topGo gt 500 1 s2 = true := by kernel_rfl
theorem drop2 : s2.drop 1 = s3 := by kernel_rfl
theorem look3 : topGo gt 500 1 s3 = true := by kernel_rfl
theorem drop3 : s3.drop 1 = s4 := by kernel_rfl
theorem look4 : topGo gt 500 1 s4 = true := by kernel_rfl
theorem drop4 : s4.drop 1 = s5 := by kernel_rfl
theorem look5 : topGo gt 500 1 s5 = true := by kernel_rfl
theorem drop5 : s5.drop 1 = s6 := by kernel_rfl
theorem look6 : topGo gt 500 1 s6 = true := by kernel_rfl
theorem drop6 : s6.drop 1 = s7 := by kernel_rfl
theorem look7 : topGo gt 500 1 s7 = true := by kernel_rfl
theorem drop7 : s7.drop 1 = s8 := by kernel_rfl
theorem look8 : topGo gt 500 2 s8 = true := by kernel_rfl
theorem drop8 : s8.drop 2 = s9 := by kernel_rfl
theorem look9 : topGo gt 500 4 s9 = true := by kernel_rfl
theorem drop9 : s9.drop 4 = s10 := by kernel_rfl
theorem look10 : topGo gt 500 7 s10 = true := by kernel_rfl
theorem drop10 : s10.drop 7 = s11 := by kernel_rfl
theorem look11 : topGo gt 500 17 s11 = true := by kernel_rfl
theorem drop11 : s11.drop 17 = s12 := by kernel_rfl
theorem look12 : topGo gt 500 38 s12 = true := by kernel_rfl
theorem drop12 : s12.drop 38 = s13 := by kernel_rfl
theorem look13 : topGo gt 500 132 s13 = true := by kernel_rfl
theorem drop13 : s13.drop 132 = s14 := by kernel_rfl
theorem look14 : topGo gt 500 224 s14 = true := by kernel_rfl
theorem drop14 : s14.drop 224 = s15 := by kernel_rfl
theorem look15 : topGo gt 500 250 s15 = true := by kernel_rfl
theorem drop15 : s15.drop 250 = s16 := by kernel_rfl
theorem look16 : topGo gt 500 250 s16 = true := by kernel_rfl
theorem drop16 : s16.drop 250 = s17 := by kernel_rfl
theorem look17 : topGo gt 500 250 s17 = true := by kernel_rfl
theorem drop17 : s17.drop 250 = s18 := by kernel_rfl
theorem look18 : topGo gt 500 250 s18 = true := by kernel_rfl
theorem drop18 : s18.drop 250 = s19 := by kernel_rfl
theorem look19 : topGo gt 500 250 s19 = true := by kernel_rfl
theorem drop19 : s19.drop 250 = s20 := by kernel_rfl
theorem look20 : topGo gt 500 250 s20 = true := by kernel_rfl
theorem drop20 : s20.drop 250 = s21 := by kernel_rfl
theorem look21 : topGo gt 500 250 s21 = true := by kernel_rfl
theorem drop21 : s21.drop 250 = s22 := by kernel_rfl
theorem look22 : topGo gt 500 250 s22 = true := by kernel_rfl
theorem drop22 : s22.drop 250 = s23 := by kernel_rfl
theorem look23 : topGo gt 500 250 s23 = true := by kernel_rfl
theorem drop23 : s23.drop 250 = s24 := by kernel_rfl
theorem look24 : topGo gt 500 250 s24 = true := by kernel_rfl
theorem drop24 : s24.drop 250 = s25 := by kernel_rfl
theorem look25 : topGo gt 500 250 s25 = true := by kernel_rfl
theorem drop25 : s25.drop 250 = s26 := by kernel_rfl
theorem look26 : topGo gt 500 250 s26 = true := by kernel_rfl
theorem drop26 : s26.drop 250 = s27 := by kernel_rfl
theorem look27 : topGo gt 500 250 s27 = true := by kernel_rfl
theorem drop27 : s27.drop 250 = s28 := by kernel_rfl
theorem look28 : topGo gt 500 250 s28 = true := by kernel_rfl
theorem drop28 : s28.drop 250 = s29 := by kernel_rfl
theorem look29 : topGo gt 500 250 s29 = true := by kernel_rfl
theorem drop29 : s29.drop 250 = s30 := by kernel_rfl
theorem look30 : topGo gt 500 250 s30 = true := by kernel_rfl
theorem drop30 : s30.drop 250 = s31 := by kernel_rfl
theorem look31 : topGo gt 500 212 s31 = true := by kernel_rfl
theorem drop31 : s31.drop 212 = s32 := by kernel_rfl
theorem table : compGo (fact 211) 44711 11 s0 = true := by kernel_rfl
theorem all32 : AllTop gt 500 s32 := trivial
theorem all31 : AllTop gt 500 s31 := topGo_sound gt 500 212 s31 look31 (by rw [drop31]; exact all32)
theorem all30 : AllTop gt 500 s30 := topGo_sound gt 500 250 s30 look30 (by rw [drop30]; exact all31)
theorem all29 : AllTop gt 500 s29 := topGo_sound gt 500 250 s29 look29 (by rw [drop29]; exact all30)
theorem all28 : AllTop gt 500 s28 := topGo_sound gt 500 250 s28 look28 (by rw [drop28]; exact all29)
theorem all27 : AllTop gt 500 s27 := topGo_sound gt 500 250 s27 look27 (by rw [drop27]; exact all28)
theorem all26 : AllTop gt 500 s26 := topGo_sound gt 500 250 s26 look26 (by rw [drop26]; exact all27)
theorem all25 : AllTop gt 500 s25 := topGo_sound gt 500 250 s25 look25 (by rw [drop25]; exact all26)
theorem all24 : AllTop gt 500 s24 := topGo_sound gt 500 250 s24 look24 (by rw [drop24]; exact all25)
theorem all23 : AllTop gt 500 s23 := topGo_sound gt 500 250 s23 look23 (by rw [drop23]; exact all24)
theorem all22 : AllTop gt 500 s22 := topGo_sound gt 500 250 s22 look22 (by rw [drop22]; exact all23)
theorem all21 : AllTop gt 500 s21 := topGo_sound gt 500 250 s21 look21 (by rw [drop21]; exact all22)
theorem all20 : AllTop gt 500 s20 := topGo_sound gt 500 250 s20 look20 (by rw [drop20]; exact all21)
theorem all19 : AllTop gt 500 s19 := topGo_sound gt 500 250 s19 look19 (by rw [drop19]; exact all20)
theorem all18 : AllTop gt 500 s18 := topGo_sound gt 500 250 s18 look18 (by rw [drop18]; exact all19)
theorem all17 : AllTop gt 500 s17 := topGo_sound gt 500 250 s17 look17 (by rw [drop17]; exact all18)
theorem all16 : AllTop gt 500 s16 := topGo_sound gt 500 250 s16 look16 (by rw [drop16]; exact all17)
theorem all15 : AllTop gt 500 s15 := topGo_sound gt 500 250 s15 look15 (by rw [drop15]; exact all16)
theorem all14 : AllTop gt 500 s14 := topGo_sound gt 500 224 s14 look14 (by rw [drop14]; exact all15)
theorem all13 : AllTop gt 500 s13 := topGo_sound gt 500 132 s13 look13 (by rw [drop13]; exact all14)
theorem all12 : AllTop gt 500 s12 := topGo_sound gt 500 38 s12 look12 (by rw [drop12]; exact all13)
theorem all11 : AllTop gt 500 s11 := topGo_sound gt 500 17 s11 look11 (by rw [drop11]; exact all12)
theorem all10 : AllTop gt 500 s10 := topGo_sound gt 500 7 s10 look10 (by rw [drop10]; exact all11)
theorem all9 : AllTop gt 500 s9 := topGo_sound gt 500 4 s9 look9 (by rw [drop9]; exact all10)
theorem all8 : AllTop gt 500 s8 := topGo_sound gt 500 2 s8 look8 (by rw [drop8]; exact all9)
theorem all7 : AllTop gt 500 s7 := topGo_sound gt 500 1 s7 look7 (by rw [drop7]; exact all8)
theorem all6 : AllTop gt 500 s6 := topGo_sound gt 500 1 s6 look6 (by rw [drop6]; exact all7)
theorem all5 : AllTop gt 500 s5 := topGo_sound gt 500 1 s5 look5 (by rw [drop5]; exact all6)
theorem all4 : AllTop gt 500 s4 := topGo_sound gt 500 1 s4 look4 (by rw [drop4]; exact all5)
theorem all3 : AllTop gt 500 s3 := topGo_sound gt 500 1 s3 look3 (by rw [drop3]; exact all4)
theorem all2 : AllTop gt 500 s2 := topGo_sound gt 500 1 s2 look2 (by rw [drop2]; exact all3)
theorem all1 : AllTop gt 500 s1 := topGo_sound gt 500 1 s1 look1 (by rw [drop1]; exact all2)
theorem all0 : AllTop gt 500 s0 := topGo_sound gt 500 1 s0 look0 (by rw [drop0]; exact all1)

/-- ████ What passes and has no factor below 11 is a prime. -/
theorem strong_prime {n : Nat} (hQ : Q n) (h : ∀ q, 2 ≤ q → q ∣ n → 11 ≤ q) : Pr n :=
  prime_of_passes all0 (compGo_sound 44711 11 s0 (by decide) (by decide) table) hQ h
end Go.Proofs.Ytdnofcpobpoehaa.Num

