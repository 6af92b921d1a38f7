/-
  The primes of layer 7, certified.
-/
import Derived.Test.YtpcmpeeflnlkpaaGreatDoorQSignEtc
namespace Go.Proofs.YtpcmpeeflnlkpaaGreatDoor

theorem pr_7 : Pr 7 :=
  (pratt 7 3 3 [2, 3] (by decide +kernel) (allq pr_2 (allq pr_3 allq0)) (by decide +kernel) (by decide +kernel) (by decide +kernel) (by decide +kernel)).1
theorem pr_29 : Pr 29 :=
  (pratt 29 2 5 [2, 2, 7] (by decide +kernel) (allq pr_2 (allq pr_2 (allq pr_7 allq0))) (by decide +kernel) (by decide +kernel) (by decide +kernel) (by decide +kernel)).1
theorem pr_13 : Pr 13 :=
  (pratt 13 2 4 [2, 2, 3] (by decide +kernel) (allq pr_2 (allq pr_2 (allq pr_3 allq0))) (by decide +kernel) (by decide +kernel) (by decide +kernel) (by decide +kernel)).1
theorem pr_5 : Pr 5 :=
  (pratt 5 2 3 [2, 2] (by decide +kernel) (allq pr_2 (allq pr_2 allq0)) (by decide +kernel) (by decide +kernel) (by decide +kernel) (by decide +kernel)).1
theorem pr_11 : Pr 11 :=
  (pratt 11 2 4 [2, 5] (by decide +kernel) (allq pr_2 (allq pr_5 allq0)) (by decide +kernel) (by decide +kernel) (by decide +kernel) (by decide +kernel)).1
theorem pr_23 : Pr 23 :=
  (pratt 23 5 5 [2, 11] (by decide +kernel) (allq pr_2 (allq pr_11 allq0)) (by decide +kernel) (by decide +kernel) (by decide +kernel) (by decide +kernel)).1
theorem pr_47 : Pr 47 :=
  (pratt 47 5 6 [2, 23] (by decide +kernel) (allq pr_2 (allq pr_23 allq0)) (by decide +kernel) (by decide +kernel) (by decide +kernel) (by decide +kernel)).1
theorem pr_1223 : Pr 1223 :=
  (pratt 1223 5 11 [2, 13, 47] (by decide +kernel) (allq pr_2 (allq pr_13 (allq pr_47 allq0))) (by decide +kernel) (by decide +kernel) (by decide +kernel) (by decide +kernel)).1
theorem pr_222587 : Pr 222587 :=
  (pratt 222587 2 18 [2, 7, 13, 1223] (by decide +kernel) (allq pr_2 (allq pr_7 (allq pr_13 (allq pr_1223 allq0)))) (by decide +kernel) (by decide +kernel) (by decide +kernel) (by decide +kernel)).1
theorem pr_73 : Pr 73 :=
  (pratt 73 5 7 [2, 2, 2, 3, 3] (by decide +kernel) (allq pr_2 (allq pr_2 (allq pr_2 (allq pr_3 (allq pr_3 allq0))))) (by decide +kernel) (by decide +kernel) (by decide +kernel) (by decide +kernel)).1
theorem pr_193 : Pr 193 :=
  (pratt 193 5 8 [2, 2, 2, 2, 2, 2, 3] (by decide +kernel) (allq pr_2 (allq pr_2 (allq pr_2 (allq pr_2 (allq pr_2 (allq pr_2 (allq pr_3 allq0))))))) (by decide +kernel) (by decide +kernel) (by decide +kernel) (by decide +kernel)).1
theorem pr_1521613 : Pr 1521613 :=
  (pratt 1521613 2 21 [2, 2, 3, 3, 3, 73, 193] (by decide +kernel) (allq pr_2 (allq pr_2 (allq pr_3 (allq pr_3 (allq pr_3 (allq pr_73 (allq pr_193 allq0))))))) (by decide +kernel) (by decide +kernel) (by decide +kernel) (by decide +kernel)).1
theorem pr_43 : Pr 43 :=
  (pratt 43 3 6 [2, 3, 7] (by decide +kernel) (allq pr_2 (allq pr_3 (allq pr_7 allq0))) (by decide +kernel) (by decide +kernel) (by decide +kernel) (by decide +kernel)).1
theorem pr_173 : Pr 173 :=
  (pratt 173 2 8 [2, 2, 43] (by decide +kernel) (allq pr_2 (allq pr_2 (allq pr_43 allq0))) (by decide +kernel) (by decide +kernel) (by decide +kernel) (by decide +kernel)).1
theorem pr_371951 : Pr 371951 :=
  (pratt 371951 13 19 [2, 5, 5, 43, 173] (by decide +kernel) (allq pr_2 (allq pr_5 (allq pr_5 (allq pr_43 (allq pr_173 allq0))))) (by decide +kernel) (by decide +kernel) (by decide +kernel) (by decide +kernel)).1
theorem pr_4463413 : Pr 4463413 :=
  (pratt 4463413 2 23 [2, 2, 3, 371951] (by decide +kernel) (allq pr_2 (allq pr_2 (allq pr_3 (allq pr_371951 allq0)))) (by decide +kernel) (by decide +kernel) (by decide +kernel) (by decide +kernel)).1
theorem pr_3761 : Pr 3761 :=
  (pratt 3761 3 12 [2, 2, 2, 2, 5, 47] (by decide +kernel) (allq pr_2 (allq pr_2 (allq pr_2 (allq pr_2 (allq pr_5 (allq pr_47 allq0)))))) (by decide +kernel) (by decide +kernel) (by decide +kernel) (by decide +kernel)).1
theorem pr_1297 : Pr 1297 :=
  (pratt 1297 10 11 [2, 2, 2, 2, 3, 3, 3, 3] (by decide +kernel) (allq pr_2 (allq pr_2 (allq pr_2 (allq pr_2 (allq pr_3 (allq pr_3 (allq pr_3 (allq pr_3 allq0)))))))) (by decide +kernel) (by decide +kernel) (by decide +kernel) (by decide +kernel)).1
theorem pr_526583 : Pr 526583 :=
  (pratt 526583 5 20 [2, 7, 29, 1297] (by decide +kernel) (allq pr_2 (allq pr_7 (allq pr_29 (allq pr_1297 allq0)))) (by decide +kernel) (by decide +kernel) (by decide +kernel) (by decide +kernel)).1
theorem pr_1219974856409 : Pr 1219974856409 :=
  (pratt 1219974856409 6 41 [2, 2, 2, 7, 11, 3761, 526583] (by decide +kernel) (allq pr_2 (allq pr_2 (allq pr_2 (allq pr_7 (allq pr_11 (allq pr_3761 (allq pr_526583 allq0))))))) (by decide +kernel) (by decide +kernel) (by decide +kernel) (by decide +kernel)).1
theorem pr_41 : Pr 41 :=
  (pratt 41 6 6 [2, 2, 2, 5] (by decide +kernel) (allq pr_2 (allq pr_2 (allq pr_2 (allq pr_5 allq0)))) (by decide +kernel) (by decide +kernel) (by decide +kernel) (by decide +kernel)).1
theorem pr_293 : Pr 293 :=
  (pratt 293 2 9 [2, 2, 73] (by decide +kernel) (allq pr_2 (allq pr_2 (allq pr_73 allq0))) (by decide +kernel) (by decide +kernel) (by decide +kernel) (by decide +kernel)).1
theorem pr_587 : Pr 587 :=
  (pratt 587 2 10 [2, 293] (by decide +kernel) (allq pr_2 (allq pr_293 allq0)) (by decide +kernel) (by decide +kernel) (by decide +kernel) (by decide +kernel)).1
theorem pr_83 : Pr 83 :=
  (pratt 83 2 7 [2, 41] (by decide +kernel) (allq pr_2 (allq pr_41 allq0)) (by decide +kernel) (by decide +kernel) (by decide +kernel) (by decide +kernel)).1
theorem pr_31 : Pr 31 :=
  (pratt 31 3 5 [2, 3, 5] (by decide +kernel) (allq pr_2 (allq pr_3 (allq pr_5 allq0))) (by decide +kernel) (by decide +kernel) (by decide +kernel) (by decide +kernel)).1
theorem pr_59 : Pr 59 :=
  (pratt 59 2 6 [2, 29] (by decide +kernel) (allq pr_2 (allq pr_29 allq0)) (by decide +kernel) (by decide +kernel) (by decide +kernel) (by decide +kernel)).1
theorem pr_3659 : Pr 3659 :=
  (pratt 3659 2 12 [2, 31, 59] (by decide +kernel) (allq pr_2 (allq pr_31 (allq pr_59 allq0))) (by decide +kernel) (by decide +kernel) (by decide +kernel) (by decide +kernel)).1
theorem pr_702529 : Pr 702529 :=
  (pratt 702529 23 20 [2, 2, 2, 2, 2, 2, 3, 3659] (by decide +kernel) (allq pr_2 (allq pr_2 (allq pr_2 (allq pr_2 (allq pr_2 (allq pr_2 (allq pr_3 (allq pr_3659 allq0)))))))) (by decide +kernel) (by decide +kernel) (by decide +kernel) (by decide +kernel)).1
theorem pr_10262543633 : Pr 10262543633 :=
  (pratt 10262543633 3 34 [2, 2, 2, 2, 11, 83, 702529] (by decide +kernel) (allq pr_2 (allq pr_2 (allq pr_2 (allq pr_2 (allq pr_11 (allq pr_83 (allq pr_702529 allq0))))))) (by decide +kernel) (by decide +kernel) (by decide +kernel) (by decide +kernel)).1
theorem pr_246301047193 : Pr 246301047193 :=
  (pratt 246301047193 5 38 [2, 2, 2, 3, 10262543633] (by decide +kernel) (allq pr_2 (allq pr_2 (allq pr_2 (allq pr_3 (allq pr_10262543633 allq0))))) (by decide +kernel) (by decide +kernel) (by decide +kernel) (by decide +kernel)).1
theorem pr_68964293214041 : Pr 68964293214041 :=
  (pratt 68964293214041 12 46 [2, 2, 2, 5, 7, 246301047193] (by decide +kernel) (allq pr_2 (allq pr_2 (allq pr_2 (allq pr_5 (allq pr_7 (allq pr_246301047193 allq0)))))) (by decide +kernel) (by decide +kernel) (by decide +kernel) (by decide +kernel)).1
theorem pr_23236691026952546459 : Pr 23236691026952546459 :=
  (pratt 23236691026952546459 2 65 [2, 7, 41, 587, 68964293214041] (by decide +kernel) (allq pr_2 (allq pr_7 (allq pr_41 (allq pr_587 (allq pr_68964293214041 allq0))))) (by decide +kernel) (by decide +kernel) (by decide +kernel) (by decide +kernel)).1
theorem pr_37 : Pr 37 :=
  (pratt 37 2 6 [2, 2, 3, 3] (by decide +kernel) (allq pr_2 (allq pr_2 (allq pr_3 (allq pr_3 allq0)))) (by decide +kernel) (by decide +kernel) (by decide +kernel) (by decide +kernel)).1
theorem pr_2221 : Pr 2221 :=
  (pratt 2221 2 12 [2, 2, 3, 5, 37] (by decide +kernel) (allq pr_2 (allq pr_2 (allq pr_3 (allq pr_5 (allq pr_37 allq0))))) (by decide +kernel) (by decide +kernel) (by decide +kernel) (by decide +kernel)).1
theorem pr_241 : Pr 241 :=
  (pratt 241 7 8 [2, 2, 2, 2, 3, 5] (by decide +kernel) (allq pr_2 (allq pr_2 (allq pr_2 (allq pr_2 (allq pr_3 (allq pr_5 allq0)))))) (by decide +kernel) (by decide +kernel) (by decide +kernel) (by decide +kernel)).1
theorem pr_36151 : Pr 36151 :=
  (pratt 36151 3 16 [2, 3, 5, 5, 241] (by decide +kernel) (allq pr_2 (allq pr_3 (allq pr_5 (allq pr_5 (allq pr_241 allq0))))) (by decide +kernel) (by decide +kernel) (by decide +kernel) (by decide +kernel)).1
theorem pr_87881 : Pr 87881 :=
  (pratt 87881 3 17 [2, 2, 2, 5, 13, 13, 13] (by decide +kernel) (allq pr_2 (allq pr_2 (allq pr_2 (allq pr_5 (allq pr_13 (allq pr_13 (allq pr_13 allq0))))))) (by decide +kernel) (by decide +kernel) (by decide +kernel) (by decide +kernel)).1
theorem pr_17 : Pr 17 :=
  (pratt 17 3 5 [2, 2, 2, 2] (by decide +kernel) (allq pr_2 (allq pr_2 (allq pr_2 (allq pr_2 allq0)))) (by decide +kernel) (by decide +kernel) (by decide +kernel) (by decide +kernel)).1
theorem pr_973591 : Pr 973591 :=
  (pratt 973591 13 20 [2, 3, 5, 17, 23, 83] (by decide +kernel) (allq pr_2 (allq pr_3 (allq pr_5 (allq pr_17 (allq pr_23 (allq pr_83 allq0)))))) (by decide +kernel) (by decide +kernel) (by decide +kernel) (by decide +kernel)).1
theorem pr_14220365526706201077871 : Pr 14220365526706201077871 :=
  (pratt 14220365526706201077871 6 74 [2, 3, 3, 5, 23, 2221, 36151, 87881, 973591] (by decide +kernel) (allq pr_2 (allq pr_3 (allq pr_3 (allq pr_5 (allq pr_23 (allq pr_2221 (allq pr_36151 (allq pr_87881 (allq pr_973591 allq0))))))))) (by decide +kernel) (by decide +kernel) (by decide +kernel) (by decide +kernel)).1
theorem pr_440208639276132997491800604758226661590679912188273141493 : Pr 440208639276132997491800604758226661590679912188273141493 :=
  (pratt 440208639276132997491800604758226661590679912188273141493 2 189 [2, 2, 3, 7, 13, 1219974856409, 23236691026952546459, 14220365526706201077871] (by decide +kernel) (allq pr_2 (allq pr_2 (allq pr_3 (allq pr_7 (allq pr_13 (allq pr_1219974856409 (allq pr_23236691026952546459 (allq pr_14220365526706201077871 allq0)))))))) (by decide +kernel) (by decide +kernel) (by decide +kernel) (by decide +kernel)).1
theorem both_115792089237316195423570985008687907853269984665640564039457584007913129639747 : Pr 115792089237316195423570985008687907853269984665640564039457584007913129639747 ∧ ∀ x, x % 115792089237316195423570985008687907853269984665640564039457584007913129639747 ≠ 0 → x ^ (115792089237316195423570985008687907853269984665640564039457584007913129639747 - 1) % 115792089237316195423570985008687907853269984665640564039457584007913129639747 = 1 :=
  pratt 115792089237316195423570985008687907853269984665640564039457584007913129639747 2 256 [2, 3, 29, 222587, 1521613, 4463413, 440208639276132997491800604758226661590679912188273141493] (by decide +kernel) (allq pr_2 (allq pr_3 (allq pr_29 (allq pr_222587 (allq pr_1521613 (allq pr_4463413 (allq pr_440208639276132997491800604758226661590679912188273141493 allq0))))))) (by decide +kernel) (by decide +kernel) (by decide +kernel) (by decide +kernel)
theorem pr_239 : Pr 239 :=
  (pratt 239 7 8 [2, 7, 17] (by decide +kernel) (allq pr_2 (allq pr_7 (allq pr_17 allq0))) (by decide +kernel) (by decide +kernel) (by decide +kernel) (by decide +kernel)).1
theorem pr_479 : Pr 479 :=
  (pratt 479 13 9 [2, 239] (by decide +kernel) (allq pr_2 (allq pr_239 allq0)) (by decide +kernel) (by decide +kernel) (by decide +kernel) (by decide +kernel)).1
theorem pr_32573 : Pr 32573 :=
  (pratt 32573 2 15 [2, 2, 17, 479] (by decide +kernel) (allq pr_2 (allq pr_2 (allq pr_17 (allq pr_479 allq0)))) (by decide +kernel) (by decide +kernel) (by decide +kernel) (by decide +kernel)).1
theorem pr_65147 : Pr 65147 :=
  (pratt 65147 2 16 [2, 32573] (by decide +kernel) (allq pr_2 (allq pr_32573 allq0)) (by decide +kernel) (by decide +kernel) (by decide +kernel) (by decide +kernel)).1
theorem pr_353 : Pr 353 :=
  (pratt 353 3 9 [2, 2, 2, 2, 2, 11] (by decide +kernel) (allq pr_2 (allq pr_2 (allq pr_2 (allq pr_2 (allq pr_2 (allq pr_11 allq0)))))) (by decide +kernel) (by decide +kernel) (by decide +kernel) (by decide +kernel)).1
theorem pr_487 : Pr 487 :=
  (pratt 487 3 9 [2, 3, 3, 3, 3, 3] (by decide +kernel) (allq pr_2 (allq pr_3 (allq pr_3 (allq pr_3 (allq pr_3 (allq pr_3 allq0)))))) (by decide +kernel) (by decide +kernel) (by decide +kernel) (by decide +kernel)).1
theorem pr_57467 : Pr 57467 :=
  (pratt 57467 2 16 [2, 59, 487] (by decide +kernel) (allq pr_2 (allq pr_59 (allq pr_487 allq0))) (by decide +kernel) (by decide +kernel) (by decide +kernel) (by decide +kernel)).1
theorem pr_131 : Pr 131 :=
  (pratt 131 2 8 [2, 5, 13] (by decide +kernel) (allq pr_2 (allq pr_5 (allq pr_13 allq0))) (by decide +kernel) (by decide +kernel) (by decide +kernel) (by decide +kernel)).1
theorem pr_132049 : Pr 132049 :=
  (pratt 132049 26 18 [2, 2, 2, 2, 3, 3, 7, 131] (by decide +kernel) (allq pr_2 (allq pr_2 (allq pr_2 (allq pr_2 (allq pr_3 (allq pr_3 (allq pr_7 (allq pr_131 allq0)))))))) (by decide +kernel) (by decide +kernel) (by decide +kernel) (by decide +kernel)).1
theorem pr_3727 : Pr 3727 :=
  (pratt 3727 3 12 [2, 3, 3, 3, 3, 23] (by decide +kernel) (allq pr_2 (allq pr_3 (allq pr_3 (allq pr_3 (allq pr_3 (allq pr_23 allq0)))))) (by decide +kernel) (by decide +kernel) (by decide +kernel) (by decide +kernel)).1
theorem pr_1923133 : Pr 1923133 :=
  (pratt 1923133 2 21 [2, 2, 3, 43, 3727] (by decide +kernel) (allq pr_2 (allq pr_2 (allq pr_3 (allq pr_43 (allq pr_3727 allq0))))) (by decide +kernel) (by decide +kernel) (by decide +kernel) (by decide +kernel)).1
theorem pr_53 : Pr 53 :=
  (pratt 53 2 6 [2, 2, 13] (by decide +kernel) (allq pr_2 (allq pr_2 (allq pr_13 allq0))) (by decide +kernel) (by decide +kernel) (by decide +kernel) (by decide +kernel)).1
theorem pr_107 : Pr 107 :=
  (pratt 107 2 7 [2, 53] (by decide +kernel) (allq pr_2 (allq pr_53 allq0)) (by decide +kernel) (by decide +kernel) (by decide +kernel) (by decide +kernel)).1
theorem pr_223 : Pr 223 :=
  (pratt 223 3 8 [2, 3, 37] (by decide +kernel) (allq pr_2 (allq pr_3 (allq pr_37 allq0))) (by decide +kernel) (by decide +kernel) (by decide +kernel) (by decide +kernel)).1
theorem pr_4153 : Pr 4153 :=
  (pratt 4153 5 13 [2, 2, 2, 3, 173] (by decide +kernel) (allq pr_2 (allq pr_2 (allq pr_2 (allq pr_3 (allq pr_173 allq0))))) (by decide +kernel) (by decide +kernel) (by decide +kernel) (by decide +kernel)).1
theorem pr_1723 : Pr 1723 :=
  (pratt 1723 3 11 [2, 3, 7, 41] (by decide +kernel) (allq pr_2 (allq pr_3 (allq pr_7 (allq pr_41 allq0)))) (by decide +kernel) (by decide +kernel) (by decide +kernel) (by decide +kernel)).1
theorem pr_430751 : Pr 430751 :=
  (pratt 430751 17 19 [2, 5, 5, 5, 1723] (by decide +kernel) (allq pr_2 (allq pr_5 (allq pr_5 (allq pr_5 (allq pr_1723 allq0))))) (by decide +kernel) (by decide +kernel) (by decide +kernel) (by decide +kernel)).1
theorem pr_31757755568855353 : Pr 31757755568855353 :=
  (pratt 31757755568855353 10 55 [2, 2, 2, 3, 31, 107, 223, 4153, 430751] (by decide +kernel) (allq pr_2 (allq pr_2 (allq pr_2 (allq pr_3 (allq pr_31 (allq pr_107 (allq pr_223 (allq pr_4153 (allq pr_430751 allq0))))))))) (by decide +kernel) (by decide +kernel) (by decide +kernel) (by decide +kernel)).1
theorem pr_19 : Pr 19 :=
  (pratt 19 2 5 [2, 3, 3] (by decide +kernel) (allq pr_2 (allq pr_3 (allq pr_3 allq0))) (by decide +kernel) (by decide +kernel) (by decide +kernel) (by decide +kernel)).1
theorem pr_9463 : Pr 9463 :=
  (pratt 9463 3 14 [2, 3, 19, 83] (by decide +kernel) (allq pr_2 (allq pr_3 (allq pr_19 (allq pr_83 allq0)))) (by decide +kernel) (by decide +kernel) (by decide +kernel) (by decide +kernel)).1
theorem pr_37853 : Pr 37853 :=
  (pratt 37853 2 16 [2, 2, 9463] (by decide +kernel) (allq pr_2 (allq pr_2 (allq pr_9463 allq0))) (by decide +kernel) (by decide +kernel) (by decide +kernel) (by decide +kernel)).1
theorem pr_75707 : Pr 75707 :=
  (pratt 75707 2 17 [2, 37853] (by decide +kernel) (allq pr_2 (allq pr_37853 allq0)) (by decide +kernel) (by decide +kernel) (by decide +kernel) (by decide +kernel)).1
theorem pr_2437 : Pr 2437 :=
  (pratt 2437 2 12 [2, 2, 3, 7, 29] (by decide +kernel) (allq pr_2 (allq pr_2 (allq pr_3 (allq pr_7 (allq pr_29 allq0))))) (by decide +kernel) (by decide +kernel) (by decide +kernel) (by decide +kernel)).1
theorem pr_97 : Pr 97 :=
  (pratt 97 5 7 [2, 2, 2, 2, 2, 3] (by decide +kernel) (allq pr_2 (allq pr_2 (allq pr_2 (allq pr_2 (allq pr_2 (allq pr_3 allq0)))))) (by decide +kernel) (by decide +kernel) (by decide +kernel) (by decide +kernel)).1
theorem pr_419 : Pr 419 :=
  (pratt 419 2 9 [2, 11, 19] (by decide +kernel) (allq pr_2 (allq pr_11 (allq pr_19 allq0))) (by decide +kernel) (by decide +kernel) (by decide +kernel) (by decide +kernel)).1
theorem pr_569003 : Pr 569003 :=
  (pratt 569003 2 20 [2, 7, 97, 419] (by decide +kernel) (allq pr_2 (allq pr_7 (allq pr_97 (allq pr_419 allq0)))) (by decide +kernel) (by decide +kernel) (by decide +kernel) (by decide +kernel)).1
theorem pr_2773320623 : Pr 2773320623 :=
  (pratt 2773320623 5 32 [2, 2437, 569003] (by decide +kernel) (allq pr_2 (allq pr_2437 (allq pr_569003 allq0))) (by decide +kernel) (by decide +kernel) (by decide +kernel) (by decide +kernel)).1
theorem pr_72106336199 : Pr 72106336199 :=
  (pratt 72106336199 7 37 [2, 13, 2773320623] (by decide +kernel) (allq pr_2 (allq pr_13 (allq pr_2773320623 allq0))) (by decide +kernel) (by decide +kernel) (by decide +kernel) (by decide +kernel)).1
theorem pr_127 : Pr 127 :=
  (pratt 127 3 7 [2, 3, 3, 7] (by decide +kernel) (allq pr_2 (allq pr_3 (allq pr_3 (allq pr_7 allq0)))) (by decide +kernel) (by decide +kernel) (by decide +kernel) (by decide +kernel)).1
theorem pr_103 : Pr 103 :=
  (pratt 103 5 7 [2, 3, 17] (by decide +kernel) (allq pr_2 (allq pr_3 (allq pr_17 allq0))) (by decide +kernel) (by decide +kernel) (by decide +kernel) (by decide +kernel)).1
theorem pr_991 : Pr 991 :=
  (pratt 991 6 10 [2, 3, 3, 5, 11] (by decide +kernel) (allq pr_2 (allq pr_3 (allq pr_3 (allq pr_5 (allq pr_11 allq0))))) (by decide +kernel) (by decide +kernel) (by decide +kernel) (by decide +kernel)).1
theorem pr_8574133 : Pr 8574133 :=
  (pratt 8574133 2 24 [2, 2, 3, 7, 103, 991] (by decide +kernel) (allq pr_2 (allq pr_2 (allq pr_3 (allq pr_7 (allq pr_103 (allq pr_991 allq0)))))) (by decide +kernel) (by decide +kernel) (by decide +kernel) (by decide +kernel)).1
theorem pr_1919519569386763 : Pr 1919519569386763 :=
  (pratt 1919519569386763 2 51 [2, 3, 7, 19, 47, 47, 127, 8574133] (by decide +kernel) (allq pr_2 (allq pr_3 (allq pr_7 (allq pr_19 (allq pr_47 (allq pr_47 (allq pr_127 (allq pr_8574133 allq0)))))))) (by decide +kernel) (by decide +kernel) (by decide +kernel) (by decide +kernel)).1
theorem pr_75445702479781427272750846543864801 : Pr 75445702479781427272750846543864801 :=
  (pratt 75445702479781427272750846543864801 7 116 [2, 2, 2, 2, 2, 3, 3, 5, 5, 75707, 72106336199, 1919519569386763] (by decide +kernel) (allq pr_2 (allq pr_2 (allq pr_2 (allq pr_2 (allq pr_2 (allq pr_3 (allq pr_3 (allq pr_5 (allq pr_5 (allq pr_75707 (allq pr_72106336199 (allq pr_1919519569386763 allq0)))))))))))) (by decide +kernel) (by decide +kernel) (by decide +kernel) (by decide +kernel)).1
theorem pr_74058212732561358302231226437062788676166966415465897661863160754340907 : Pr 74058212732561358302231226437062788676166966415465897661863160754340907 :=
  (pratt 74058212732561358302231226437062788676166966415465897661863160754340907 2 236 [2, 3, 353, 57467, 132049, 1923133, 31757755568855353, 75445702479781427272750846543864801] (by decide +kernel) (allq pr_2 (allq pr_3 (allq pr_353 (allq pr_57467 (allq pr_132049 (allq pr_1923133 (allq pr_31757755568855353 (allq pr_75445702479781427272750846543864801 allq0)))))))) (by decide +kernel) (by decide +kernel) (by decide +kernel) (by decide +kernel)).1
theorem both_57896044618658097711785492504343953926634992332820282019728792003956564819949 : Pr 57896044618658097711785492504343953926634992332820282019728792003956564819949 ∧ ∀ x, x % 57896044618658097711785492504343953926634992332820282019728792003956564819949 ≠ 0 → x ^ (57896044618658097711785492504343953926634992332820282019728792003956564819949 - 1) % 57896044618658097711785492504343953926634992332820282019728792003956564819949 = 1 :=
  pratt 57896044618658097711785492504343953926634992332820282019728792003956564819949 2 255 [2, 2, 3, 65147, 74058212732561358302231226437062788676166966415465897661863160754340907] (by decide +kernel) (allq pr_2 (allq pr_2 (allq pr_3 (allq pr_65147 (allq pr_74058212732561358302231226437062788676166966415465897661863160754340907 allq0))))) (by decide +kernel) (by decide +kernel) (by decide +kernel) (by decide +kernel)
theorem pr_15391 : Pr 15391 :=
  (pratt 15391 12 14 [2, 3, 3, 3, 3, 5, 19] (by decide +kernel) (allq pr_2 (allq pr_3 (allq pr_3 (allq pr_3 (allq pr_3 (allq pr_5 (allq pr_19 allq0))))))) (by decide +kernel) (by decide +kernel) (by decide +kernel) (by decide +kernel)).1
theorem pr_379 : Pr 379 :=
  (pratt 379 2 9 [2, 3, 3, 3, 7] (by decide +kernel) (allq pr_2 (allq pr_3 (allq pr_3 (allq pr_3 (allq pr_7 allq0))))) (by decide +kernel) (by decide +kernel) (by decide +kernel) (by decide +kernel)).1
theorem pr_1311341 : Pr 1311341 :=
  (pratt 1311341 2 21 [2, 2, 5, 173, 379] (by decide +kernel) (allq pr_2 (allq pr_2 (allq pr_5 (allq pr_173 (allq pr_379 allq0))))) (by decide +kernel) (by decide +kernel) (by decide +kernel) (by decide +kernel)).1
theorem pr_283 : Pr 283 :=
  (pratt 283 3 9 [2, 3, 47] (by decide +kernel) (allq pr_2 (allq pr_3 (allq pr_47 allq0))) (by decide +kernel) (by decide +kernel) (by decide +kernel) (by decide +kernel)).1
theorem pr_135841 : Pr 135841 :=
  (pratt 135841 7 18 [2, 2, 2, 2, 2, 3, 5, 283] (by decide +kernel) (allq pr_2 (allq pr_2 (allq pr_2 (allq pr_2 (allq pr_2 (allq pr_3 (allq pr_5 (allq pr_283 allq0)))))))) (by decide +kernel) (by decide +kernel) (by decide +kernel) (by decide +kernel)).1
theorem pr_547 : Pr 547 :=
  (pratt 547 2 10 [2, 3, 7, 13] (by decide +kernel) (allq pr_2 (allq pr_3 (allq pr_7 (allq pr_13 allq0)))) (by decide +kernel) (by decide +kernel) (by decide +kernel) (by decide +kernel)).1
theorem pr_61 : Pr 61 :=
  (pratt 61 2 6 [2, 2, 3, 5] (by decide +kernel) (allq pr_2 (allq pr_2 (allq pr_3 (allq pr_5 allq0)))) (by decide +kernel) (by decide +kernel) (by decide +kernel) (by decide +kernel)).1
theorem pr_367 : Pr 367 :=
  (pratt 367 6 9 [2, 3, 61] (by decide +kernel) (allq pr_2 (allq pr_3 (allq pr_61 allq0))) (by decide +kernel) (by decide +kernel) (by decide +kernel) (by decide +kernel)).1
theorem pr_4001 : Pr 4001 :=
  (pratt 4001 3 12 [2, 2, 2, 2, 2, 5, 5, 5] (by decide +kernel) (allq pr_2 (allq pr_2 (allq pr_2 (allq pr_2 (allq pr_2 (allq pr_5 (allq pr_5 (allq pr_5 allq0)))))))) (by decide +kernel) (by decide +kernel) (by decide +kernel) (by decide +kernel)).1
theorem pr_158583637 : Pr 158583637 :=
  (pratt 158583637 2 28 [2, 2, 3, 3, 3, 367, 4001] (by decide +kernel) (allq pr_2 (allq pr_2 (allq pr_3 (allq pr_3 (allq pr_3 (allq pr_367 (allq pr_4001 allq0))))))) (by decide +kernel) (by decide +kernel) (by decide +kernel) (by decide +kernel)).1
theorem pr_346980997757 : Pr 346980997757 :=
  (pratt 346980997757 2 39 [2, 2, 547, 158583637] (by decide +kernel) (allq pr_2 (allq pr_2 (allq pr_547 (allq pr_158583637 allq0)))) (by decide +kernel) (by decide +kernel) (by decide +kernel) (by decide +kernel)).1
theorem pr_139 : Pr 139 :=
  (pratt 139 2 8 [2, 3, 23] (by decide +kernel) (allq pr_2 (allq pr_3 (allq pr_23 allq0))) (by decide +kernel) (by decide +kernel) (by decide +kernel) (by decide +kernel)).1
theorem pr_89 : Pr 89 :=
  (pratt 89 3 7 [2, 2, 2, 11] (by decide +kernel) (allq pr_2 (allq pr_2 (allq pr_2 (allq pr_11 allq0)))) (by decide +kernel) (by decide +kernel) (by decide +kernel) (by decide +kernel)).1
theorem pr_179 : Pr 179 :=
  (pratt 179 2 8 [2, 89] (by decide +kernel) (allq pr_2 (allq pr_89 allq0)) (by decide +kernel) (by decide +kernel) (by decide +kernel) (by decide +kernel)).1
theorem pr_447859 : Pr 447859 :=
  (pratt 447859 2 19 [2, 3, 3, 139, 179] (by decide +kernel) (allq pr_2 (allq pr_3 (allq pr_3 (allq pr_139 (allq pr_179 allq0))))) (by decide +kernel) (by decide +kernel) (by decide +kernel) (by decide +kernel)).1
theorem pr_747028813 : Pr 747028813 :=
  (pratt 747028813 2 30 [2, 2, 3, 139, 447859] (by decide +kernel) (allq pr_2 (allq pr_2 (allq pr_3 (allq pr_139 (allq pr_447859 allq0))))) (by decide +kernel) (by decide +kernel) (by decide +kernel) (by decide +kernel)).1
theorem pr_68272457277697 : Pr 68272457277697 :=
  (pratt 68272457277697 5 46 [2, 2, 2, 2, 2, 2, 2, 2, 3, 7, 17, 747028813] (by decide +kernel) (allq pr_2 (allq pr_2 (allq pr_2 (allq pr_2 (allq pr_2 (allq pr_2 (allq pr_2 (allq pr_2 (allq pr_3 (allq pr_7 (allq pr_17 (allq pr_747028813 allq0)))))))))))) (by decide +kernel) (by decide +kernel) (by decide +kernel) (by decide +kernel)).1
theorem pr_257 : Pr 257 :=
  (pratt 257 3 9 [2, 2, 2, 2, 2, 2, 2, 2] (by decide +kernel) (allq pr_2 (allq pr_2 (allq pr_2 (allq pr_2 (allq pr_2 (allq pr_2 (allq pr_2 (allq pr_2 allq0)))))))) (by decide +kernel) (by decide +kernel) (by decide +kernel) (by decide +kernel)).1
theorem pr_20047 : Pr 20047 :=
  (pratt 20047 3 15 [2, 3, 13, 257] (by decide +kernel) (allq pr_2 (allq pr_3 (allq pr_13 (allq pr_257 allq0)))) (by decide +kernel) (by decide +kernel) (by decide +kernel) (by decide +kernel)).1
theorem pr_431 : Pr 431 :=
  (pratt 431 7 9 [2, 5, 43] (by decide +kernel) (allq pr_2 (allq pr_5 (allq pr_43 allq0))) (by decide +kernel) (by decide +kernel) (by decide +kernel) (by decide +kernel)).1
theorem pr_863 : Pr 863 :=
  (pratt 863 5 10 [2, 431] (by decide +kernel) (allq pr_2 (allq pr_431 allq0)) (by decide +kernel) (by decide +kernel) (by decide +kernel) (by decide +kernel)).1
theorem pr_263 : Pr 263 :=
  (pratt 263 5 9 [2, 131] (by decide +kernel) (allq pr_2 (allq pr_131 allq0)) (by decide +kernel) (by decide +kernel) (by decide +kernel) (by decide +kernel)).1
theorem pr_1458599 : Pr 1458599 :=
  (pratt 1458599 7 21 [2, 47, 59, 263] (by decide +kernel) (allq pr_2 (allq pr_47 (allq pr_59 (allq pr_263 allq0)))) (by decide +kernel) (by decide +kernel) (by decide +kernel) (by decide +kernel)).1
theorem pr_13632489247711 : Pr 13632489247711 :=
  (pratt 13632489247711 3 44 [2, 3, 5, 19, 19, 863, 1458599] (by decide +kernel) (allq pr_2 (allq pr_3 (allq pr_5 (allq pr_19 (allq pr_19 (allq pr_863 (allq pr_1458599 allq0))))))) (by decide +kernel) (by decide +kernel) (by decide +kernel) (by decide +kernel)).1
theorem pr_31899288685224363607 : Pr 31899288685224363607 :=
  (pratt 31899288685224363607 3 65 [2, 3, 3, 7, 7, 7, 379, 13632489247711] (by decide +kernel) (allq pr_2 (allq pr_3 (allq pr_3 (allq pr_7 (allq pr_7 (allq pr_7 (allq pr_379 (allq pr_13632489247711 allq0)))))))) (by decide +kernel) (by decide +kernel) (by decide +kernel) (by decide +kernel)).1
theorem pr_60126941426599669447189234697 : Pr 60126941426599669447189234697 :=
  (pratt 60126941426599669447189234697 3 96 [2, 2, 2, 7, 23, 73, 20047, 31899288685224363607] (by decide +kernel) (allq pr_2 (allq pr_2 (allq pr_2 (allq pr_7 (allq pr_23 (allq pr_73 (allq pr_20047 (allq pr_31899288685224363607 allq0)))))))) (by decide +kernel) (by decide +kernel) (by decide +kernel) (by decide +kernel)).1
theorem pr_58046022126052663018522713286279169250844263723568937103399901 : Pr 58046022126052663018522713286279169250844263723568937103399901 :=
  (pratt 58046022126052663018522713286279169250844263723568937103399901 6 206 [2, 2, 3, 5, 5, 135841, 346980997757, 68272457277697, 60126941426599669447189234697] (by decide +kernel) (allq pr_2 (allq pr_2 (allq pr_3 (allq pr_5 (allq pr_5 (allq pr_135841 (allq pr_346980997757 (allq pr_68272457277697 (allq pr_60126941426599669447189234697 allq0))))))))) (by decide +kernel) (by decide +kernel) (by decide +kernel) (by decide +kernel)).1
theorem both_115792089237316195423570985008687907853269984665640564039457584007913129639579 : Pr 115792089237316195423570985008687907853269984665640564039457584007913129639579 ∧ ∀ x, x % 115792089237316195423570985008687907853269984665640564039457584007913129639579 ≠ 0 → x ^ (115792089237316195423570985008687907853269984665640564039457584007913129639579 - 1) % 115792089237316195423570985008687907853269984665640564039457584007913129639579 = 1 :=
  pratt 115792089237316195423570985008687907853269984665640564039457584007913129639579 2 256 [2, 3, 3, 17, 17, 19, 15391, 1311341, 58046022126052663018522713286279169250844263723568937103399901] (by decide +kernel) (allq pr_2 (allq pr_3 (allq pr_3 (allq pr_17 (allq pr_17 (allq pr_19 (allq pr_15391 (allq pr_1311341 (allq pr_58046022126052663018522713286279169250844263723568937103399901 allq0))))))))) (by decide +kernel) (by decide +kernel) (by decide +kernel) (by decide +kernel)
theorem pr_251 : Pr 251 :=
  (pratt 251 6 8 [2, 5, 5, 5] (by decide +kernel) (allq pr_2 (allq pr_5 (allq pr_5 (allq pr_5 allq0)))) (by decide +kernel) (by decide +kernel) (by decide +kernel) (by decide +kernel)).1
theorem pr_601 : Pr 601 :=
  (pratt 601 7 10 [2, 2, 2, 3, 5, 5] (by decide +kernel) (allq pr_2 (allq pr_2 (allq pr_2 (allq pr_3 (allq pr_5 (allq pr_5 allq0)))))) (by decide +kernel) (by decide +kernel) (by decide +kernel) (by decide +kernel)).1
theorem pr_1801 : Pr 1801 :=
  (pratt 1801 11 11 [2, 2, 2, 3, 3, 5, 5] (by decide +kernel) (allq pr_2 (allq pr_2 (allq pr_2 (allq pr_3 (allq pr_3 (allq pr_5 (allq pr_5 allq0))))))) (by decide +kernel) (by decide +kernel) (by decide +kernel) (by decide +kernel)).1
theorem pr_4051 : Pr 4051 :=
  (pratt 4051 10 12 [2, 3, 3, 3, 3, 5, 5] (by decide +kernel) (allq pr_2 (allq pr_3 (allq pr_3 (allq pr_3 (allq pr_3 (allq pr_5 (allq pr_5 allq0))))))) (by decide +kernel) (by decide +kernel) (by decide +kernel) (by decide +kernel)).1
theorem pr_197 : Pr 197 :=
  (pratt 197 2 8 [2, 2, 7, 7] (by decide +kernel) (allq pr_2 (allq pr_2 (allq pr_7 (allq pr_7 allq0)))) (by decide +kernel) (by decide +kernel) (by decide +kernel) (by decide +kernel)).1
theorem pr_3547 : Pr 3547 :=
  (pratt 3547 2 12 [2, 3, 3, 197] (by decide +kernel) (allq pr_2 (allq pr_3 (allq pr_3 (allq pr_197 allq0)))) (by decide +kernel) (by decide +kernel) (by decide +kernel) (by decide +kernel)).1
theorem pr_229668251 : Pr 229668251 :=
  (pratt 229668251 7 28 [2, 5, 5, 5, 7, 37, 3547] (by decide +kernel) (allq pr_2 (allq pr_5 (allq pr_5 (allq pr_5 (allq pr_7 (allq pr_37 (allq pr_3547 allq0))))))) (by decide +kernel) (by decide +kernel) (by decide +kernel) (by decide +kernel)).1
theorem pr_67 : Pr 67 :=
  (pratt 67 2 7 [2, 3, 11] (by decide +kernel) (allq pr_2 (allq pr_3 (allq pr_11 allq0))) (by decide +kernel) (by decide +kernel) (by decide +kernel) (by decide +kernel)).1
theorem pr_269 : Pr 269 :=
  (pratt 269 2 9 [2, 2, 67] (by decide +kernel) (allq pr_2 (allq pr_2 (allq pr_67 allq0))) (by decide +kernel) (by decide +kernel) (by decide +kernel) (by decide +kernel)).1
theorem pr_10223 : Pr 10223 :=
  (pratt 10223 5 14 [2, 19, 269] (by decide +kernel) (allq pr_2 (allq pr_19 (allq pr_269 allq0))) (by decide +kernel) (by decide +kernel) (by decide +kernel) (by decide +kernel)).1
theorem pr_269089806001 : Pr 269089806001 :=
  (pratt 269089806001 37 38 [2, 2, 2, 2, 3, 5, 5, 5, 41, 107, 10223] (by decide +kernel) (allq pr_2 (allq pr_2 (allq pr_2 (allq pr_2 (allq pr_3 (allq pr_5 (allq pr_5 (allq pr_5 (allq pr_41 (allq pr_107 (allq pr_10223 allq0))))))))))) (by decide +kernel) (by decide +kernel) (by decide +kernel) (by decide +kernel)).1
theorem pr_184711 : Pr 184711 :=
  (pratt 184711 3 18 [2, 3, 5, 47, 131] (by decide +kernel) (allq pr_2 (allq pr_3 (allq pr_5 (allq pr_47 (allq pr_131 allq0))))) (by decide +kernel) (by decide +kernel) (by decide +kernel) (by decide +kernel)).1
theorem pr_842887 : Pr 842887 :=
  (pratt 842887 3 20 [2, 3, 3, 3, 3, 11, 11, 43] (by decide +kernel) (allq pr_2 (allq pr_3 (allq pr_3 (allq pr_3 (allq pr_3 (allq pr_11 (allq pr_11 (allq pr_43 allq0)))))))) (by decide +kernel) (by decide +kernel) (by decide +kernel) (by decide +kernel)).1
theorem pr_4710883168879506001 : Pr 4710883168879506001 :=
  (pratt 4710883168879506001 19 63 [2, 2, 2, 2, 3, 3, 5, 5, 5, 41, 41, 184711, 842887] (by decide +kernel) (allq pr_2 (allq pr_2 (allq pr_2 (allq pr_2 (allq pr_3 (allq pr_3 (allq pr_5 (allq pr_5 (allq pr_5 (allq pr_41 (allq pr_41 (allq pr_184711 (allq pr_842887 allq0))))))))))))) (by decide +kernel) (by decide +kernel) (by decide +kernel) (by decide +kernel)).1
theorem pr_149 : Pr 149 :=
  (pratt 149 2 8 [2, 2, 37] (by decide +kernel) (allq pr_2 (allq pr_2 (allq pr_37 allq0))) (by decide +kernel) (by decide +kernel) (by decide +kernel) (by decide +kernel)).1
theorem pr_457 : Pr 457 :=
  (pratt 457 13 9 [2, 2, 2, 3, 19] (by decide +kernel) (allq pr_2 (allq pr_2 (allq pr_2 (allq pr_3 (allq pr_19 allq0))))) (by decide +kernel) (by decide +kernel) (by decide +kernel) (by decide +kernel)).1
theorem pr_419527 : Pr 419527 :=
  (pratt 419527 5 19 [2, 3, 3, 3, 17, 457] (by decide +kernel) (allq pr_2 (allq pr_3 (allq pr_3 (allq pr_3 (allq pr_17 (allq pr_457 allq0)))))) (by decide +kernel) (by decide +kernel) (by decide +kernel) (by decide +kernel)).1
theorem pr_1864388056649 : Pr 1864388056649 :=
  (pratt 1864388056649 3 41 [2, 2, 2, 13, 13, 19, 173, 419527] (by decide +kernel) (allq pr_2 (allq pr_2 (allq pr_2 (allq pr_13 (allq pr_13 (allq pr_19 (allq pr_173 (allq pr_419527 allq0)))))))) (by decide +kernel) (by decide +kernel) (by decide +kernel) (by decide +kernel)).1
theorem pr_41113485425223749 : Pr 41113485425223749 :=
  (pratt 41113485425223749 2 56 [2, 2, 37, 149, 1864388056649] (by decide +kernel) (allq pr_2 (allq pr_2 (allq pr_37 (allq pr_149 (allq pr_1864388056649 allq0))))) (by decide +kernel) (by decide +kernel) (by decide +kernel) (by decide +kernel)).1
theorem pr_5519485418336288303251 : Pr 5519485418336288303251 :=
  (pratt 5519485418336288303251 3 73 [2, 3, 5, 5, 5, 179, 41113485425223749] (by decide +kernel) (allq pr_2 (allq pr_3 (allq pr_5 (allq pr_5 (allq pr_5 (allq pr_179 (allq pr_41113485425223749 allq0))))))) (by decide +kernel) (by decide +kernel) (by decide +kernel) (by decide +kernel)).1
theorem both_57896044618658097711785492504343953926634992332820282019728792003956564819937 : Pr 57896044618658097711785492504343953926634992332820282019728792003956564819937 ∧ ∀ x, x % 57896044618658097711785492504343953926634992332820282019728792003956564819937 ≠ 0 → x ^ (57896044618658097711785492504343953926634992332820282019728792003956564819937 - 1) % 57896044618658097711785492504343953926634992332820282019728792003956564819937 = 1 :=
  pratt 57896044618658097711785492504343953926634992332820282019728792003956564819937 7 255 [2, 2, 2, 2, 2, 3, 11, 31, 251, 601, 1801, 4051, 229668251, 269089806001, 4710883168879506001, 5519485418336288303251] (by decide +kernel) (allq pr_2 (allq pr_2 (allq pr_2 (allq pr_2 (allq pr_2 (allq pr_3 (allq pr_11 (allq pr_31 (allq pr_251 (allq pr_601 (allq pr_1801 (allq pr_4051 (allq pr_229668251 (allq pr_269089806001 (allq pr_4710883168879506001 (allq pr_5519485418336288303251 allq0)))))))))))))))) (by decide +kernel) (by decide +kernel) (by decide +kernel) (by decide +kernel)
theorem pr_137 : Pr 137 :=
  (pratt 137 3 8 [2, 2, 2, 17] (by decide +kernel) (allq pr_2 (allq pr_2 (allq pr_2 (allq pr_17 allq0)))) (by decide +kernel) (by decide +kernel) (by decide +kernel) (by decide +kernel)).1
theorem pr_691 : Pr 691 :=
  (pratt 691 3 10 [2, 3, 5, 23] (by decide +kernel) (allq pr_2 (allq pr_3 (allq pr_5 (allq pr_23 allq0)))) (by decide +kernel) (by decide +kernel) (by decide +kernel) (by decide +kernel)).1
theorem pr_52517 : Pr 52517 :=
  (pratt 52517 2 16 [2, 2, 19, 691] (by decide +kernel) (allq pr_2 (allq pr_2 (allq pr_19 (allq pr_691 allq0)))) (by decide +kernel) (by decide +kernel) (by decide +kernel) (by decide +kernel)).1
theorem pr_172675897 : Pr 172675897 :=
  (pratt 172675897 5 28 [2, 2, 2, 3, 137, 52517] (by decide +kernel) (allq pr_2 (allq pr_2 (allq pr_2 (allq pr_3 (allq pr_137 (allq pr_52517 allq0)))))) (by decide +kernel) (by decide +kernel) (by decide +kernel) (by decide +kernel)).1
theorem pr_34039 : Pr 34039 :=
  (pratt 34039 3 16 [2, 3, 3, 31, 61] (by decide +kernel) (allq pr_2 (allq pr_3 (allq pr_3 (allq pr_31 (allq pr_61 allq0))))) (by decide +kernel) (by decide +kernel) (by decide +kernel) (by decide +kernel)).1
theorem pr_3880447 : Pr 3880447 :=
  (pratt 3880447 5 22 [2, 3, 19, 34039] (by decide +kernel) (allq pr_2 (allq pr_3 (allq pr_19 (allq pr_34039 allq0)))) (by decide +kernel) (by decide +kernel) (by decide +kernel) (by decide +kernel)).1
theorem pr_38804471 : Pr 38804471 :=
  (pratt 38804471 19 26 [2, 5, 3880447] (by decide +kernel) (allq pr_2 (allq pr_5 (allq pr_3880447 allq0))) (by decide +kernel) (by decide +kernel) (by decide +kernel) (by decide +kernel)).1
theorem pr_278693710723 : Pr 278693710723 :=
  (pratt 278693710723 2 39 [2, 3, 3, 3, 7, 19, 38804471] (by decide +kernel) (allq pr_2 (allq pr_3 (allq pr_3 (allq pr_3 (allq pr_7 (allq pr_19 (allq pr_38804471 allq0))))))) (by decide +kernel) (by decide +kernel) (by decide +kernel) (by decide +kernel)).1
theorem pr_504901 : Pr 504901 :=
  (pratt 504901 2 19 [2, 2, 3, 3, 3, 5, 5, 11, 17] (by decide +kernel) (allq pr_2 (allq pr_2 (allq pr_3 (allq pr_3 (allq pr_3 (allq pr_5 (allq pr_5 (allq pr_11 (allq pr_17 allq0))))))))) (by decide +kernel) (by decide +kernel) (by decide +kernel) (by decide +kernel)).1
theorem pr_271 : Pr 271 :=
  (pratt 271 6 9 [2, 3, 3, 3, 5] (by decide +kernel) (allq pr_2 (allq pr_3 (allq pr_3 (allq pr_3 (allq pr_5 allq0))))) (by decide +kernel) (by decide +kernel) (by decide +kernel) (by decide +kernel)).1
theorem pr_1627 : Pr 1627 :=
  (pratt 1627 3 11 [2, 3, 271] (by decide +kernel) (allq pr_2 (allq pr_3 (allq pr_271 allq0))) (by decide +kernel) (by decide +kernel) (by decide +kernel) (by decide +kernel)).1
theorem pr_195241 : Pr 195241 :=
  (pratt 195241 11 18 [2, 2, 2, 3, 5, 1627] (by decide +kernel) (allq pr_2 (allq pr_2 (allq pr_2 (allq pr_3 (allq pr_5 (allq pr_1627 allq0)))))) (by decide +kernel) (by decide +kernel) (by decide +kernel) (by decide +kernel)).1
theorem pr_1171447 : Pr 1171447 :=
  (pratt 1171447 5 21 [2, 3, 195241] (by decide +kernel) (allq pr_2 (allq pr_3 (allq pr_195241 allq0))) (by decide +kernel) (by decide +kernel) (by decide +kernel) (by decide +kernel)).1
theorem pr_337134914195791 : Pr 337134914195791 :=
  (pratt 337134914195791 3 49 [2, 3, 5, 19, 504901, 1171447] (by decide +kernel) (allq pr_2 (allq pr_3 (allq pr_5 (allq pr_19 (allq pr_504901 (allq pr_1171447 allq0)))))) (by decide +kernel) (by decide +kernel) (by decide +kernel) (by decide +kernel)).1
theorem pr_1303 : Pr 1303 :=
  (pratt 1303 6 11 [2, 3, 7, 31] (by decide +kernel) (allq pr_2 (allq pr_3 (allq pr_7 (allq pr_31 allq0)))) (by decide +kernel) (by decide +kernel) (by decide +kernel) (by decide +kernel)).1
theorem pr_1160867 : Pr 1160867 :=
  (pratt 1160867 5 21 [2, 7, 283, 293] (by decide +kernel) (allq pr_2 (allq pr_7 (allq pr_283 (allq pr_293 allq0)))) (by decide +kernel) (by decide +kernel) (by decide +kernel) (by decide +kernel)).1
theorem pr_3025219403 : Pr 3025219403 :=
  (pratt 3025219403 2 32 [2, 1303, 1160867] (by decide +kernel) (allq pr_2 (allq pr_1303 (allq pr_1160867 allq0))) (by decide +kernel) (by decide +kernel) (by decide +kernel) (by decide +kernel)).1
theorem pr_14821 : Pr 14821 :=
  (pratt 14821 2 14 [2, 2, 3, 5, 13, 19] (by decide +kernel) (allq pr_2 (allq pr_2 (allq pr_3 (allq pr_5 (allq pr_13 (allq pr_19 allq0)))))) (by decide +kernel) (by decide +kernel) (by decide +kernel) (by decide +kernel)).1
theorem pr_101 : Pr 101 :=
  (pratt 101 2 7 [2, 2, 5, 5] (by decide +kernel) (allq pr_2 (allq pr_2 (allq pr_5 (allq pr_5 allq0)))) (by decide +kernel) (by decide +kernel) (by decide +kernel) (by decide +kernel)).1
theorem pr_6263 : Pr 6263 :=
  (pratt 6263 5 13 [2, 31, 101] (by decide +kernel) (allq pr_2 (allq pr_31 (allq pr_101 allq0))) (by decide +kernel) (by decide +kernel) (by decide +kernel) (by decide +kernel)).1
theorem pr_87683 : Pr 87683 :=
  (pratt 87683 2 17 [2, 7, 6263] (by decide +kernel) (allq pr_2 (allq pr_7 (allq pr_6263 allq0))) (by decide +kernel) (by decide +kernel) (by decide +kernel) (by decide +kernel)).1
theorem pr_1227563 : Pr 1227563 :=
  (pratt 1227563 2 21 [2, 7, 87683] (by decide +kernel) (allq pr_2 (allq pr_7 (allq pr_87683 allq0))) (by decide +kernel) (by decide +kernel) (by decide +kernel) (by decide +kernel)).1
theorem pr_36387422447 : Pr 36387422447 :=
  (pratt 36387422447 5 36 [2, 14821, 1227563] (by decide +kernel) (allq pr_2 (allq pr_14821 (allq pr_1227563 allq0))) (by decide +kernel) (by decide +kernel) (by decide +kernel) (by decide +kernel)).1
theorem pr_124781 : Pr 124781 :=
  (pratt 124781 3 17 [2, 2, 5, 17, 367] (by decide +kernel) (allq pr_2 (allq pr_2 (allq pr_5 (allq pr_17 (allq pr_367 allq0))))) (by decide +kernel) (by decide +kernel) (by decide +kernel) (by decide +kernel)).1
theorem pr_249563 : Pr 249563 :=
  (pratt 249563 2 18 [2, 124781] (by decide +kernel) (allq pr_2 (allq pr_124781 allq0)) (by decide +kernel) (by decide +kernel) (by decide +kernel) (by decide +kernel)).1
theorem pr_499127 : Pr 499127 :=
  (pratt 499127 5 19 [2, 249563] (by decide +kernel) (allq pr_2 (allq pr_249563 allq0)) (by decide +kernel) (by decide +kernel) (by decide +kernel) (by decide +kernel)).1
theorem pr_44921431 : Pr 44921431 :=
  (pratt 44921431 6 26 [2, 3, 3, 5, 499127] (by decide +kernel) (allq pr_2 (allq pr_3 (allq pr_3 (allq pr_5 (allq pr_499127 allq0))))) (by decide +kernel) (by decide +kernel) (by decide +kernel) (by decide +kernel)).1
theorem pr_1796857241 : Pr 1796857241 :=
  (pratt 1796857241 3 31 [2, 2, 2, 5, 44921431] (by decide +kernel) (allq pr_2 (allq pr_2 (allq pr_2 (allq pr_5 (allq pr_44921431 allq0))))) (by decide +kernel) (by decide +kernel) (by decide +kernel) (by decide +kernel)).1
theorem pr_89842862051 : Pr 89842862051 :=
  (pratt 89842862051 2 37 [2, 5, 5, 1796857241] (by decide +kernel) (allq pr_2 (allq pr_5 (allq pr_5 (allq pr_1796857241 allq0)))) (by decide +kernel) (by decide +kernel) (by decide +kernel) (by decide +kernel)).1
theorem pr_51229664085644375768993619505829381 : Pr 51229664085644375768993619505829381 :=
  (pratt 51229664085644375768993619505829381 2 116 [2, 2, 5, 7, 37, 3025219403, 36387422447, 89842862051] (by decide +kernel) (allq pr_2 (allq pr_2 (allq pr_5 (allq pr_7 (allq pr_37 (allq pr_3025219403 (allq pr_36387422447 (allq pr_89842862051 allq0)))))))) (by decide +kernel) (by decide +kernel) (by decide +kernel) (by decide +kernel)).1
theorem pr_355736065245211045848144347184909087106820229387528614560545572988980429 : Pr 355736065245211045848144347184909087106820229387528614560545572988980429 :=
  (pratt 355736065245211045848144347184909087106820229387528614560545572988980429 2 238 [2, 2, 107, 172675897, 278693710723, 337134914195791, 51229664085644375768993619505829381] (by decide +kernel) (allq pr_2 (allq pr_2 (allq pr_107 (allq pr_172675897 (allq pr_278693710723 (allq pr_337134914195791 (allq pr_51229664085644375768993619505829381 allq0))))))) (by decide +kernel) (by decide +kernel) (by decide +kernel) (by decide +kernel)).1
theorem both_115792089237316195423570985008687907853269984665640564039457584007913129639501 : Pr 115792089237316195423570985008687907853269984665640564039457584007913129639501 ∧ ∀ x, x % 115792089237316195423570985008687907853269984665640564039457584007913129639501 ≠ 0 → x ^ (115792089237316195423570985008687907853269984665640564039457584007913129639501 - 1) % 115792089237316195423570985008687907853269984665640564039457584007913129639501 = 1 :=
  pratt 115792089237316195423570985008687907853269984665640564039457584007913129639501 2 256 [2, 2, 3, 5, 5, 5, 7, 31, 355736065245211045848144347184909087106820229387528614560545572988980429] (by decide +kernel) (allq pr_2 (allq pr_2 (allq pr_3 (allq pr_5 (allq pr_5 (allq pr_5 (allq pr_7 (allq pr_31 (allq pr_355736065245211045848144347184909087106820229387528614560545572988980429 allq0))))))))) (by decide +kernel) (by decide +kernel) (by decide +kernel) (by decide +kernel)
theorem pr_796177 : Pr 796177 :=
  (pratt 796177 10 20 [2, 2, 2, 2, 3, 3, 3, 19, 97] (by decide +kernel) (allq pr_2 (allq pr_2 (allq pr_2 (allq pr_2 (allq pr_3 (allq pr_3 (allq pr_3 (allq pr_19 (allq pr_97 allq0))))))))) (by decide +kernel) (by decide +kernel) (by decide +kernel) (by decide +kernel)).1
theorem pr_4777063 : Pr 4777063 :=
  (pratt 4777063 5 23 [2, 3, 796177] (by decide +kernel) (allq pr_2 (allq pr_3 (allq pr_796177 allq0))) (by decide +kernel) (by decide +kernel) (by decide +kernel) (by decide +kernel)).1
theorem pr_105095387 : Pr 105095387 :=
  (pratt 105095387 2 27 [2, 11, 4777063] (by decide +kernel) (allq pr_2 (allq pr_11 (allq pr_4777063 allq0))) (by decide +kernel) (by decide +kernel) (by decide +kernel) (by decide +kernel)).1
theorem pr_71 : Pr 71 :=
  (pratt 71 7 7 [2, 5, 7] (by decide +kernel) (allq pr_2 (allq pr_5 (allq pr_7 allq0))) (by decide +kernel) (by decide +kernel) (by decide +kernel) (by decide +kernel)).1
theorem pr_3163 : Pr 3163 :=
  (pratt 3163 3 12 [2, 3, 17, 31] (by decide +kernel) (allq pr_2 (allq pr_3 (allq pr_17 (allq pr_31 allq0)))) (by decide +kernel) (by decide +kernel) (by decide +kernel) (by decide +kernel)).1
theorem pr_12653 : Pr 12653 :=
  (pratt 12653 2 14 [2, 2, 3163] (by decide +kernel) (allq pr_2 (allq pr_2 (allq pr_3163 allq0))) (by decide +kernel) (by decide +kernel) (by decide +kernel) (by decide +kernel)).1
theorem pr_1013 : Pr 1013 :=
  (pratt 1013 3 10 [2, 2, 11, 23] (by decide +kernel) (allq pr_2 (allq pr_2 (allq pr_11 (allq pr_23 allq0)))) (by decide +kernel) (by decide +kernel) (by decide +kernel) (by decide +kernel)).1
theorem pr_6079 : Pr 6079 :=
  (pratt 6079 17 13 [2, 3, 1013] (by decide +kernel) (allq pr_2 (allq pr_3 (allq pr_1013 allq0))) (by decide +kernel) (by decide +kernel) (by decide +kernel) (by decide +kernel)).1
theorem pr_24317 : Pr 24317 :=
  (pratt 24317 2 15 [2, 2, 6079] (by decide +kernel) (allq pr_2 (allq pr_2 (allq pr_6079 allq0))) (by decide +kernel) (by decide +kernel) (by decide +kernel) (by decide +kernel)).1
theorem pr_1481 : Pr 1481 :=
  (pratt 1481 3 11 [2, 2, 2, 5, 37] (by decide +kernel) (allq pr_2 (allq pr_2 (allq pr_2 (allq pr_5 (allq pr_37 allq0))))) (by decide +kernel) (by decide +kernel) (by decide +kernel) (by decide +kernel)).1
theorem pr_71089 : Pr 71089 :=
  (pratt 71089 11 17 [2, 2, 2, 2, 3, 1481] (by decide +kernel) (allq pr_2 (allq pr_2 (allq pr_2 (allq pr_2 (allq pr_3 (allq pr_1481 allq0)))))) (by decide +kernel) (by decide +kernel) (by decide +kernel) (by decide +kernel)).1
theorem pr_284357 : Pr 284357 :=
  (pratt 284357 2 19 [2, 2, 71089] (by decide +kernel) (allq pr_2 (allq pr_2 (allq pr_71089 allq0))) (by decide +kernel) (by decide +kernel) (by decide +kernel) (by decide +kernel)).1
theorem pr_119610639205363 : Pr 119610639205363 :=
  (pratt 119610639205363 2 47 [2, 3, 3, 31, 31, 24317, 284357] (by decide +kernel) (allq pr_2 (allq pr_3 (allq pr_3 (allq pr_31 (allq pr_31 (allq pr_24317 (allq pr_284357 allq0))))))) (by decide +kernel) (by decide +kernel) (by decide +kernel) (by decide +kernel)).1
theorem pr_45130584520747958722981 : Pr 45130584520747958722981 :=
  (pratt 45130584520747958722981 6 76 [2, 2, 3, 5, 7, 71, 12653, 119610639205363] (by decide +kernel) (allq pr_2 (allq pr_2 (allq pr_3 (allq pr_5 (allq pr_7 (allq pr_71 (allq pr_12653 (allq pr_119610639205363 allq0)))))))) (by decide +kernel) (by decide +kernel) (by decide +kernel) (by decide +kernel)).1
theorem pr_277 : Pr 277 :=
  (pratt 277 5 9 [2, 2, 3, 23] (by decide +kernel) (allq pr_2 (allq pr_2 (allq pr_3 (allq pr_23 allq0)))) (by decide +kernel) (by decide +kernel) (by decide +kernel) (by decide +kernel)).1
theorem pr_421 : Pr 421 :=
  (pratt 421 2 9 [2, 2, 3, 5, 7] (by decide +kernel) (allq pr_2 (allq pr_2 (allq pr_3 (allq pr_5 (allq pr_7 allq0))))) (by decide +kernel) (by decide +kernel) (by decide +kernel) (by decide +kernel)).1
theorem pr_56713 : Pr 56713 :=
  (pratt 56713 5 16 [2, 2, 2, 3, 17, 139] (by decide +kernel) (allq pr_2 (allq pr_2 (allq pr_2 (allq pr_3 (allq pr_17 (allq pr_139 allq0)))))) (by decide +kernel) (by decide +kernel) (by decide +kernel) (by decide +kernel)).1
theorem pr_522744931663 : Pr 522744931663 :=
  (pratt 522744931663 3 39 [2, 3, 41, 89, 421, 56713] (by decide +kernel) (allq pr_2 (allq pr_3 (allq pr_41 (allq pr_89 (allq pr_421 (allq pr_56713 allq0)))))) (by decide +kernel) (by decide +kernel) (by decide +kernel) (by decide +kernel)).1
theorem pr_163 : Pr 163 :=
  (pratt 163 2 8 [2, 3, 3, 3, 3] (by decide +kernel) (allq pr_2 (allq pr_3 (allq pr_3 (allq pr_3 (allq pr_3 allq0))))) (by decide +kernel) (by decide +kernel) (by decide +kernel) (by decide +kernel)).1
theorem pr_653 : Pr 653 :=
  (pratt 653 2 10 [2, 2, 163] (by decide +kernel) (allq pr_2 (allq pr_2 (allq pr_163 allq0))) (by decide +kernel) (by decide +kernel) (by decide +kernel) (by decide +kernel)).1
theorem pr_564643 : Pr 564643 :=
  (pratt 564643 5 20 [2, 3, 3, 13, 19, 127] (by decide +kernel) (allq pr_2 (allq pr_3 (allq pr_3 (allq pr_13 (allq pr_19 (allq pr_127 allq0)))))) (by decide +kernel) (by decide +kernel) (by decide +kernel) (by decide +kernel)).1
theorem pr_569 : Pr 569 :=
  (pratt 569 3 10 [2, 2, 2, 71] (by decide +kernel) (allq pr_2 (allq pr_2 (allq pr_2 (allq pr_71 allq0)))) (by decide +kernel) (by decide +kernel) (by decide +kernel) (by decide +kernel)).1
theorem pr_439 : Pr 439 :=
  (pratt 439 15 9 [2, 3, 73] (by decide +kernel) (allq pr_2 (allq pr_3 (allq pr_73 allq0))) (by decide +kernel) (by decide +kernel) (by decide +kernel) (by decide +kernel)).1
theorem pr_28097 : Pr 28097 :=
  (pratt 28097 3 15 [2, 2, 2, 2, 2, 2, 439] (by decide +kernel) (allq pr_2 (allq pr_2 (allq pr_2 (allq pr_2 (allq pr_2 (allq pr_2 (allq pr_439 allq0))))))) (by decide +kernel) (by decide +kernel) (by decide +kernel) (by decide +kernel)).1
theorem pr_10327726679 : Pr 10327726679 :=
  (pratt 10327726679 7 34 [2, 17, 19, 569, 28097] (by decide +kernel) (allq pr_2 (allq pr_17 (allq pr_19 (allq pr_569 (allq pr_28097 allq0))))) (by decide +kernel) (by decide +kernel) (by decide +kernel) (by decide +kernel)).1
theorem pr_83775021211475436503 : Pr 83775021211475436503 :=
  (pratt 83775021211475436503 5 67 [2, 11, 653, 564643, 10327726679] (by decide +kernel) (allq pr_2 (allq pr_11 (allq pr_653 (allq pr_564643 (allq pr_10327726679 allq0))))) (by decide +kernel) (by decide +kernel) (by decide +kernel) (by decide +kernel)).1
theorem pr_350343741906072820209310645555913 : Pr 350343741906072820209310645555913 :=
  (pratt 350343741906072820209310645555913 3 109 [2, 2, 2, 522744931663, 83775021211475436503] (by decide +kernel) (allq pr_2 (allq pr_2 (allq pr_2 (allq pr_522744931663 (allq pr_83775021211475436503 allq0))))) (by decide +kernel) (by decide +kernel) (by decide +kernel) (by decide +kernel)).1
theorem pr_582271299047893027187874292913927407 : Pr 582271299047893027187874292913927407 :=
  (pratt 582271299047893027187874292913927407 3 119 [2, 3, 277, 350343741906072820209310645555913] (by decide +kernel) (allq pr_2 (allq pr_3 (allq pr_277 (allq pr_350343741906072820209310645555913 allq0)))) (by decide +kernel) (by decide +kernel) (by decide +kernel) (by decide +kernel)).1
theorem pr_853 : Pr 853 :=
  (pratt 853 2 10 [2, 2, 3, 71] (by decide +kernel) (allq pr_2 (allq pr_2 (allq pr_3 (allq pr_71 allq0)))) (by decide +kernel) (by decide +kernel) (by decide +kernel) (by decide +kernel)).1
theorem pr_3413 : Pr 3413 :=
  (pratt 3413 2 12 [2, 2, 853] (by decide +kernel) (allq pr_2 (allq pr_2 (allq pr_853 allq0))) (by decide +kernel) (by decide +kernel) (by decide +kernel) (by decide +kernel)).1
theorem pr_6827 : Pr 6827 :=
  (pratt 6827 2 13 [2, 3413] (by decide +kernel) (allq pr_2 (allq pr_3413 allq0)) (by decide +kernel) (by decide +kernel) (by decide +kernel) (by decide +kernel)).1
theorem pr_19571 : Pr 19571 :=
  (pratt 19571 2 15 [2, 5, 19, 103] (by decide +kernel) (allq pr_2 (allq pr_5 (allq pr_19 (allq pr_103 allq0)))) (by decide +kernel) (by decide +kernel) (by decide +kernel) (by decide +kernel)).1
theorem pr_2141 : Pr 2141 :=
  (pratt 2141 2 12 [2, 2, 5, 107] (by decide +kernel) (allq pr_2 (allq pr_2 (allq pr_5 (allq pr_107 allq0)))) (by decide +kernel) (by decide +kernel) (by decide +kernel) (by decide +kernel)).1
theorem pr_64231 : Pr 64231 :=
  (pratt 64231 12 16 [2, 3, 5, 2141] (by decide +kernel) (allq pr_2 (allq pr_3 (allq pr_5 (allq pr_2141 allq0)))) (by decide +kernel) (by decide +kernel) (by decide +kernel) (by decide +kernel)).1
theorem pr_109 : Pr 109 :=
  (pratt 109 6 7 [2, 2, 3, 3, 3] (by decide +kernel) (allq pr_2 (allq pr_2 (allq pr_3 (allq pr_3 (allq pr_3 allq0))))) (by decide +kernel) (by decide +kernel) (by decide +kernel) (by decide +kernel)).1
theorem pr_52757 : Pr 52757 :=
  (pratt 52757 2 16 [2, 2, 11, 11, 109] (by decide +kernel) (allq pr_2 (allq pr_2 (allq pr_11 (allq pr_11 (allq pr_109 allq0))))) (by decide +kernel) (by decide +kernel) (by decide +kernel) (by decide +kernel)).1
theorem pr_1055141 : Pr 1055141 :=
  (pratt 1055141 2 21 [2, 2, 5, 52757] (by decide +kernel) (allq pr_2 (allq pr_2 (allq pr_5 (allq pr_52757 allq0)))) (by decide +kernel) (by decide +kernel) (by decide +kernel) (by decide +kernel)).1
theorem pr_18992539 : Pr 18992539 :=
  (pratt 18992539 2 25 [2, 3, 3, 1055141] (by decide +kernel) (allq pr_2 (allq pr_3 (allq pr_3 (allq pr_1055141 allq0)))) (by decide +kernel) (by decide +kernel) (by decide +kernel) (by decide +kernel)).1
theorem pr_51461 : Pr 51461 :=
  (pratt 51461 2 16 [2, 2, 5, 31, 83] (by decide +kernel) (allq pr_2 (allq pr_2 (allq pr_5 (allq pr_31 (allq pr_83 allq0))))) (by decide +kernel) (by decide +kernel) (by decide +kernel) (by decide +kernel)).1
theorem pr_377723741 : Pr 377723741 :=
  (pratt 377723741 3 29 [2, 2, 5, 367, 51461] (by decide +kernel) (allq pr_2 (allq pr_2 (allq pr_5 (allq pr_367 (allq pr_51461 allq0))))) (by decide +kernel) (by decide +kernel) (by decide +kernel) (by decide +kernel)).1
theorem pr_2029 : Pr 2029 :=
  (pratt 2029 2 11 [2, 2, 3, 13, 13] (by decide +kernel) (allq pr_2 (allq pr_2 (allq pr_3 (allq pr_13 (allq pr_13 allq0))))) (by decide +kernel) (by decide +kernel) (by decide +kernel) (by decide +kernel)).1
theorem pr_547831 : Pr 547831 :=
  (pratt 547831 3 20 [2, 3, 3, 3, 5, 2029] (by decide +kernel) (allq pr_2 (allq pr_3 (allq pr_3 (allq pr_3 (allq pr_5 (allq pr_2029 allq0)))))) (by decide +kernel) (by decide +kernel) (by decide +kernel) (by decide +kernel)).1
theorem pr_660684187 : Pr 660684187 :=
  (pratt 660684187 2 30 [2, 3, 3, 67, 547831] (by decide +kernel) (allq pr_2 (allq pr_3 (allq pr_3 (allq pr_67 (allq pr_547831 allq0))))) (by decide +kernel) (by decide +kernel) (by decide +kernel) (by decide +kernel)).1
theorem pr_2440563294432588452310063876982204011061 : Pr 2440563294432588452310063876982204011061 :=
  (pratt 2440563294432588452310063876982204011061 2 131 [2, 2, 3, 5, 6827, 19571, 64231, 18992539, 377723741, 660684187] (by decide +kernel) (allq pr_2 (allq pr_2 (allq pr_3 (allq pr_5 (allq pr_6827 (allq pr_19571 (allq pr_64231 (allq pr_18992539 (allq pr_377723741 (allq pr_660684187 allq0)))))))))) (by decide +kernel) (by decide +kernel) (by decide +kernel) (by decide +kernel)).1
theorem pr_503 : Pr 503 :=
  (pratt 503 5 9 [2, 251] (by decide +kernel) (allq pr_2 (allq pr_251 allq0)) (by decide +kernel) (by decide +kernel) (by decide +kernel) (by decide +kernel)).1
theorem pr_5081 : Pr 5081 :=
  (pratt 5081 3 13 [2, 2, 2, 5, 127] (by decide +kernel) (allq pr_2 (allq pr_2 (allq pr_2 (allq pr_5 (allq pr_127 allq0))))) (by decide +kernel) (by decide +kernel) (by decide +kernel) (by decide +kernel)).1
theorem pr_10163 : Pr 10163 :=
  (pratt 10163 2 14 [2, 5081] (by decide +kernel) (allq pr_2 (allq pr_5081 allq0)) (by decide +kernel) (by decide +kernel) (by decide +kernel) (by decide +kernel)).1
theorem pr_14879 : Pr 14879 :=
  (pratt 14879 7 14 [2, 43, 173] (by decide +kernel) (allq pr_2 (allq pr_43 (allq pr_173 allq0))) (by decide +kernel) (by decide +kernel) (by decide +kernel) (by decide +kernel)).1
theorem pr_29759 : Pr 29759 :=
  (pratt 29759 7 15 [2, 14879] (by decide +kernel) (allq pr_2 (allq pr_14879 allq0)) (by decide +kernel) (by decide +kernel) (by decide +kernel) (by decide +kernel)).1
theorem pr_535663 : Pr 535663 :=
  (pratt 535663 3 20 [2, 3, 3, 29759] (by decide +kernel) (allq pr_2 (allq pr_3 (allq pr_3 (allq pr_29759 allq0)))) (by decide +kernel) (by decide +kernel) (by decide +kernel) (by decide +kernel)).1
theorem pr_21426521 : Pr 21426521 :=
  (pratt 21426521 6 25 [2, 2, 2, 5, 535663] (by decide +kernel) (allq pr_2 (allq pr_2 (allq pr_2 (allq pr_5 (allq pr_535663 allq0))))) (by decide +kernel) (by decide +kernel) (by decide +kernel) (by decide +kernel)).1
theorem pr_42853043 : Pr 42853043 :=
  (pratt 42853043 2 26 [2, 21426521] (by decide +kernel) (allq pr_2 (allq pr_21426521 allq0)) (by decide +kernel) (by decide +kernel) (by decide +kernel) (by decide +kernel)).1
theorem pr_181 : Pr 181 :=
  (pratt 181 2 8 [2, 2, 3, 3, 5] (by decide +kernel) (allq pr_2 (allq pr_2 (allq pr_3 (allq pr_3 (allq pr_5 allq0))))) (by decide +kernel) (by decide +kernel) (by decide +kernel) (by decide +kernel)).1
theorem pr_1087 : Pr 1087 :=
  (pratt 1087 3 11 [2, 3, 181] (by decide +kernel) (allq pr_2 (allq pr_3 (allq pr_181 allq0))) (by decide +kernel) (by decide +kernel) (by decide +kernel) (by decide +kernel)).1
theorem pr_8737 : Pr 8737 :=
  (pratt 8737 5 14 [2, 2, 2, 2, 2, 3, 7, 13] (by decide +kernel) (allq pr_2 (allq pr_2 (allq pr_2 (allq pr_2 (allq pr_2 (allq pr_3 (allq pr_7 (allq pr_13 allq0)))))))) (by decide +kernel) (by decide +kernel) (by decide +kernel) (by decide +kernel)).1
theorem pr_518580685877 : Pr 518580685877 :=
  (pratt 518580685877 2 39 [2, 2, 11, 17, 73, 1087, 8737] (by decide +kernel) (allq pr_2 (allq pr_2 (allq pr_11 (allq pr_17 (allq pr_73 (allq pr_1087 (allq pr_8737 allq0))))))) (by decide +kernel) (by decide +kernel) (by decide +kernel) (by decide +kernel)).1
theorem pr_281 : Pr 281 :=
  (pratt 281 3 9 [2, 2, 2, 5, 7] (by decide +kernel) (allq pr_2 (allq pr_2 (allq pr_2 (allq pr_5 (allq pr_7 allq0))))) (by decide +kernel) (by decide +kernel) (by decide +kernel) (by decide +kernel)).1
theorem pr_168601 : Pr 168601 :=
  (pratt 168601 14 18 [2, 2, 2, 3, 5, 5, 281] (by decide +kernel) (allq pr_2 (allq pr_2 (allq pr_2 (allq pr_3 (allq pr_5 (allq pr_5 (allq pr_281 allq0))))))) (by decide +kernel) (by decide +kernel) (by decide +kernel) (by decide +kernel)).1
theorem pr_149521 : Pr 149521 :=
  (pratt 149521 17 18 [2, 2, 2, 2, 3, 5, 7, 89] (by decide +kernel) (allq pr_2 (allq pr_2 (allq pr_2 (allq pr_2 (allq pr_3 (allq pr_5 (allq pr_7 (allq pr_89 allq0)))))))) (by decide +kernel) (by decide +kernel) (by decide +kernel) (by decide +kernel)).1
theorem pr_3289463 : Pr 3289463 :=
  (pratt 3289463 5 22 [2, 11, 149521] (by decide +kernel) (allq pr_2 (allq pr_11 (allq pr_149521 allq0))) (by decide +kernel) (by decide +kernel) (by decide +kernel) (by decide +kernel)).1
theorem pr_6578927 : Pr 6578927 :=
  (pratt 6578927 5 23 [2, 3289463] (by decide +kernel) (allq pr_2 (allq pr_3289463 allq0)) (by decide +kernel) (by decide +kernel) (by decide +kernel) (by decide +kernel)).1
theorem pr_86518666347907 : Pr 86518666347907 :=
  (pratt 86518666347907 5 47 [2, 3, 13, 168601, 6578927] (by decide +kernel) (allq pr_2 (allq pr_3 (allq pr_13 (allq pr_168601 (allq pr_6578927 allq0))))) (by decide +kernel) (by decide +kernel) (by decide +kernel) (by decide +kernel)).1
theorem pr_2987936166061269764733822017919288608395313 : Pr 2987936166061269764733822017919288608395313 :=
  (pratt 2987936166061269764733822017919288608395313 3 142 [2, 2, 2, 2, 19, 503, 10163, 42853043, 518580685877, 86518666347907] (by decide +kernel) (allq pr_2 (allq pr_2 (allq pr_2 (allq pr_2 (allq pr_19 (allq pr_503 (allq pr_10163 (allq pr_42853043 (allq pr_518580685877 (allq pr_86518666347907 allq0)))))))))) (by decide +kernel) (by decide +kernel) (by decide +kernel) (by decide +kernel)).1
theorem both_13407807929942597099574024998205846127479365820592393377723561443721764030073546976801874298166903427690031858186486050853753882811946569946433649006083527 : Pr 13407807929942597099574024998205846127479365820592393377723561443721764030073546976801874298166903427690031858186486050853753882811946569946433649006083527 ∧ ∀ x, x % 13407807929942597099574024998205846127479365820592393377723561443721764030073546976801874298166903427690031858186486050853753882811946569946433649006083527 ≠ 0 → x ^ (13407807929942597099574024998205846127479365820592393377723561443721764030073546976801874298166903427690031858186486050853753882811946569946433649006083527 - 1) % 13407807929942597099574024998205846127479365820592393377723561443721764030073546976801874298166903427690031858186486050853753882811946569946433649006083527 = 1 :=
  pratt 13407807929942597099574024998205846127479365820592393377723561443721764030073546976801874298166903427690031858186486050853753882811946569946433649006083527 7 512 [2, 23, 41, 353, 105095387, 45130584520747958722981, 582271299047893027187874292913927407, 2440563294432588452310063876982204011061, 2987936166061269764733822017919288608395313] (by decide +kernel) (allq pr_2 (allq pr_23 (allq pr_41 (allq pr_353 (allq pr_105095387 (allq pr_45130584520747958722981 (allq pr_582271299047893027187874292913927407 (allq pr_2440563294432588452310063876982204011061 (allq pr_2987936166061269764733822017919288608395313 allq0))))))))) (by decide +kernel) (by decide +kernel) (by decide +kernel) (by decide +kernel)
theorem pr_1063 : Pr 1063 :=
  (pratt 1063 3 11 [2, 3, 3, 59] (by decide +kernel) (allq pr_2 (allq pr_3 (allq pr_3 (allq pr_59 allq0)))) (by decide +kernel) (by decide +kernel) (by decide +kernel) (by decide +kernel)).1
theorem pr_8263 : Pr 8263 :=
  (pratt 8263 3 14 [2, 3, 3, 3, 3, 3, 17] (by decide +kernel) (allq pr_2 (allq pr_3 (allq pr_3 (allq pr_3 (allq pr_3 (allq pr_3 (allq pr_17 allq0))))))) (by decide +kernel) (by decide +kernel) (by decide +kernel) (by decide +kernel)).1
theorem pr_99436943 : Pr 99436943 :=
  (pratt 99436943 7 27 [2, 11, 547, 8263] (by decide +kernel) (allq pr_2 (allq pr_11 (allq pr_547 (allq pr_8263 allq0)))) (by decide +kernel) (by decide +kernel) (by decide +kernel) (by decide +kernel)).1
theorem pr_2467 : Pr 2467 :=
  (pratt 2467 2 12 [2, 3, 3, 137] (by decide +kernel) (allq pr_2 (allq pr_3 (allq pr_3 (allq pr_137 allq0)))) (by decide +kernel) (by decide +kernel) (by decide +kernel) (by decide +kernel)).1
theorem pr_2531 : Pr 2531 :=
  (pratt 2531 2 12 [2, 5, 11, 23] (by decide +kernel) (allq pr_2 (allq pr_5 (allq pr_11 (allq pr_23 allq0)))) (by decide +kernel) (by decide +kernel) (by decide +kernel) (by decide +kernel)).1
theorem pr_27213313 : Pr 27213313 :=
  (pratt 27213313 5 25 [2, 2, 2, 2, 2, 2, 2, 2, 2, 3, 7, 2531] (by decide +kernel) (allq pr_2 (allq pr_2 (allq pr_2 (allq pr_2 (allq pr_2 (allq pr_2 (allq pr_2 (allq pr_2 (allq pr_2 (allq pr_3 (allq pr_7 (allq pr_2531 allq0)))))))))))) (by decide +kernel) (by decide +kernel) (by decide +kernel) (by decide +kernel)).1
theorem pr_72371792138339 : Pr 72371792138339 :=
  (pratt 72371792138339 6 47 [2, 7, 7, 11, 2467, 27213313] (by decide +kernel) (allq pr_2 (allq pr_7 (allq pr_7 (allq pr_11 (allq pr_2467 (allq pr_27213313 allq0)))))) (by decide +kernel) (by decide +kernel) (by decide +kernel) (by decide +kernel)).1
theorem pr_349 : Pr 349 :=
  (pratt 349 2 9 [2, 2, 3, 29] (by decide +kernel) (allq pr_2 (allq pr_2 (allq pr_3 (allq pr_29 allq0)))) (by decide +kernel) (by decide +kernel) (by decide +kernel) (by decide +kernel)).1
theorem pr_17683 : Pr 17683 :=
  (pratt 17683 5 15 [2, 3, 7, 421] (by decide +kernel) (allq pr_2 (allq pr_3 (allq pr_7 (allq pr_421 allq0)))) (by decide +kernel) (by decide +kernel) (by decide +kernel) (by decide +kernel)).1
theorem pr_23311 : Pr 23311 :=
  (pratt 23311 3 15 [2, 3, 3, 5, 7, 37] (by decide +kernel) (allq pr_2 (allq pr_3 (allq pr_3 (allq pr_5 (allq pr_7 (allq pr_37 allq0)))))) (by decide +kernel) (by decide +kernel) (by decide +kernel) (by decide +kernel)).1
theorem pr_60757 : Pr 60757 :=
  (pratt 60757 2 16 [2, 2, 3, 61, 83] (by decide +kernel) (allq pr_2 (allq pr_2 (allq pr_3 (allq pr_61 (allq pr_83 allq0))))) (by decide +kernel) (by decide +kernel) (by decide +kernel) (by decide +kernel)).1
theorem pr_972113 : Pr 972113 :=
  (pratt 972113 3 20 [2, 2, 2, 2, 60757] (by decide +kernel) (allq pr_2 (allq pr_2 (allq pr_2 (allq pr_2 (allq pr_60757 allq0))))) (by decide +kernel) (by decide +kernel) (by decide +kernel) (by decide +kernel)).1
theorem pr_235251347 : Pr 235251347 :=
  (pratt 235251347 2 28 [2, 11, 11, 972113] (by decide +kernel) (allq pr_2 (allq pr_11 (allq pr_11 (allq pr_972113 allq0)))) (by decide +kernel) (by decide +kernel) (by decide +kernel) (by decide +kernel)).1
theorem pr_1613 : Pr 1613 :=
  (pratt 1613 3 11 [2, 2, 13, 31] (by decide +kernel) (allq pr_2 (allq pr_2 (allq pr_13 (allq pr_31 allq0)))) (by decide +kernel) (by decide +kernel) (by decide +kernel) (by decide +kernel)).1
theorem pr_188353237 : Pr 188353237 :=
  (pratt 188353237 11 28 [2, 2, 3, 37, 263, 1613] (by decide +kernel) (allq pr_2 (allq pr_2 (allq pr_3 (allq pr_37 (allq pr_263 (allq pr_1613 allq0)))))) (by decide +kernel) (by decide +kernel) (by decide +kernel) (by decide +kernel)).1
theorem pr_1130119423 : Pr 1130119423 :=
  (pratt 1130119423 3 31 [2, 3, 188353237] (by decide +kernel) (allq pr_2 (allq pr_3 (allq pr_188353237 allq0))) (by decide +kernel) (by decide +kernel) (by decide +kernel) (by decide +kernel)).1
theorem pr_593 : Pr 593 :=
  (pratt 593 3 10 [2, 2, 2, 2, 37] (by decide +kernel) (allq pr_2 (allq pr_2 (allq pr_2 (allq pr_2 (allq pr_37 allq0))))) (by decide +kernel) (by decide +kernel) (by decide +kernel) (by decide +kernel)).1
theorem pr_3559 : Pr 3559 :=
  (pratt 3559 3 12 [2, 3, 593] (by decide +kernel) (allq pr_2 (allq pr_3 (allq pr_593 allq0))) (by decide +kernel) (by decide +kernel) (by decide +kernel) (by decide +kernel)).1
theorem pr_14720401 : Pr 14720401 :=
  (pratt 14720401 13 24 [2, 2, 2, 2, 3, 3, 3, 5, 5, 29, 47] (by decide +kernel) (allq pr_2 (allq pr_2 (allq pr_2 (allq pr_2 (allq pr_3 (allq pr_3 (allq pr_3 (allq pr_5 (allq pr_5 (allq pr_29 (allq pr_47 allq0))))))))))) (by decide +kernel) (by decide +kernel) (by decide +kernel) (by decide +kernel)).1
theorem pr_2796876191 : Pr 2796876191 :=
  (pratt 2796876191 7 32 [2, 5, 19, 14720401] (by decide +kernel) (allq pr_2 (allq pr_5 (allq pr_19 (allq pr_14720401 allq0)))) (by decide +kernel) (by decide +kernel) (by decide +kernel) (by decide +kernel)).1
theorem pr_235404890147362182521 : Pr 235404890147362182521 :=
  (pratt 235404890147362182521 6 68 [2, 2, 2, 5, 7, 13, 73, 89, 3559, 2796876191] (by decide +kernel) (allq pr_2 (allq pr_2 (allq pr_2 (allq pr_5 (allq pr_7 (allq pr_13 (allq pr_73 (allq pr_89 (allq pr_3559 (allq pr_2796876191 allq0)))))))))) (by decide +kernel) (by decide +kernel) (by decide +kernel) (by decide +kernel)).1
theorem pr_3853 : Pr 3853 :=
  (pratt 3853 2 12 [2, 2, 3, 3, 107] (by decide +kernel) (allq pr_2 (allq pr_2 (allq pr_3 (allq pr_3 (allq pr_107 allq0))))) (by decide +kernel) (by decide +kernel) (by decide +kernel) (by decide +kernel)).1
theorem pr_15413 : Pr 15413 :=
  (pratt 15413 2 14 [2, 2, 3853] (by decide +kernel) (allq pr_2 (allq pr_2 (allq pr_3853 allq0))) (by decide +kernel) (by decide +kernel) (by decide +kernel) (by decide +kernel)).1
theorem pr_8877889 : Pr 8877889 :=
  (pratt 8877889 14 24 [2, 2, 2, 2, 2, 2, 3, 3, 15413] (by decide +kernel) (allq pr_2 (allq pr_2 (allq pr_2 (allq pr_2 (allq pr_2 (allq pr_2 (allq pr_3 (allq pr_3 (allq pr_15413 allq0))))))))) (by decide +kernel) (by decide +kernel) (by decide +kernel) (by decide +kernel)).1
theorem pr_35511557 : Pr 35511557 :=
  (pratt 35511557 2 26 [2, 2, 8877889] (by decide +kernel) (allq pr_2 (allq pr_2 (allq pr_8877889 allq0))) (by decide +kernel) (by decide +kernel) (by decide +kernel) (by decide +kernel)).1
theorem pr_229 : Pr 229 :=
  (pratt 229 6 8 [2, 2, 3, 19] (by decide +kernel) (allq pr_2 (allq pr_2 (allq pr_3 (allq pr_19 allq0)))) (by decide +kernel) (by decide +kernel) (by decide +kernel) (by decide +kernel)).1
theorem pr_977 : Pr 977 :=
  (pratt 977 3 10 [2, 2, 2, 2, 61] (by decide +kernel) (allq pr_2 (allq pr_2 (allq pr_2 (allq pr_2 (allq pr_61 allq0))))) (by decide +kernel) (by decide +kernel) (by decide +kernel) (by decide +kernel)).1
theorem pr_29311 : Pr 29311 :=
  (pratt 29311 3 15 [2, 3, 5, 977] (by decide +kernel) (allq pr_2 (allq pr_3 (allq pr_5 (allq pr_977 allq0)))) (by decide +kernel) (by decide +kernel) (by decide +kernel) (by decide +kernel)).1
theorem pr_879331 : Pr 879331 :=
  (pratt 879331 2 20 [2, 3, 5, 29311] (by decide +kernel) (allq pr_2 (allq pr_3 (allq pr_5 (allq pr_29311 allq0)))) (by decide +kernel) (by decide +kernel) (by decide +kernel) (by decide +kernel)).1
theorem pr_727 : Pr 727 :=
  (pratt 727 5 10 [2, 3, 11, 11] (by decide +kernel) (allq pr_2 (allq pr_3 (allq pr_11 (allq pr_11 allq0)))) (by decide +kernel) (by decide +kernel) (by decide +kernel) (by decide +kernel)).1
theorem pr_2909 : Pr 2909 :=
  (pratt 2909 2 12 [2, 2, 727] (by decide +kernel) (allq pr_2 (allq pr_2 (allq pr_727 allq0))) (by decide +kernel) (by decide +kernel) (by decide +kernel) (by decide +kernel)).1
theorem pr_1553407 : Pr 1553407 :=
  (pratt 1553407 3 21 [2, 3, 89, 2909] (by decide +kernel) (allq pr_2 (allq pr_3 (allq pr_89 (allq pr_2909 allq0)))) (by decide +kernel) (by decide +kernel) (by decide +kernel) (by decide +kernel)).1
theorem pr_1435773091665945871 : Pr 1435773091665945871 :=
  (pratt 1435773091665945871 12 61 [2, 3, 3, 3, 5, 17, 229, 879331, 1553407] (by decide +kernel) (allq pr_2 (allq pr_3 (allq pr_3 (allq pr_3 (allq pr_5 (allq pr_17 (allq pr_229 (allq pr_879331 (allq pr_1553407 allq0))))))))) (by decide +kernel) (by decide +kernel) (by decide +kernel) (by decide +kernel)).1
theorem pr_211 : Pr 211 :=
  (pratt 211 2 8 [2, 3, 5, 7] (by decide +kernel) (allq pr_2 (allq pr_3 (allq pr_5 (allq pr_7 allq0)))) (by decide +kernel) (by decide +kernel) (by decide +kernel) (by decide +kernel)).1
theorem pr_397 : Pr 397 :=
  (pratt 397 5 9 [2, 2, 3, 3, 11] (by decide +kernel) (allq pr_2 (allq pr_2 (allq pr_3 (allq pr_3 (allq pr_11 allq0))))) (by decide +kernel) (by decide +kernel) (by decide +kernel) (by decide +kernel)).1
theorem pr_55516481 : Pr 55516481 :=
  (pratt 55516481 6 26 [2, 2, 2, 2, 2, 2, 5, 19, 23, 397] (by decide +kernel) (allq pr_2 (allq pr_2 (allq pr_2 (allq pr_2 (allq pr_2 (allq pr_2 (allq pr_5 (allq pr_19 (allq pr_23 (allq pr_397 allq0)))))))))) (by decide +kernel) (by decide +kernel) (by decide +kernel) (by decide +kernel)).1
theorem pr_111032963 : Pr 111032963 :=
  (pratt 111032963 2 27 [2, 55516481] (by decide +kernel) (allq pr_2 (allq pr_55516481 allq0)) (by decide +kernel) (by decide +kernel) (by decide +kernel) (by decide +kernel)).1
theorem pr_151 : Pr 151 :=
  (pratt 151 6 8 [2, 3, 5, 5] (by decide +kernel) (allq pr_2 (allq pr_3 (allq pr_5 (allq pr_5 allq0)))) (by decide +kernel) (by decide +kernel) (by decide +kernel) (by decide +kernel)).1
theorem pr_241601 : Pr 241601 :=
  (pratt 241601 3 18 [2, 2, 2, 2, 2, 2, 5, 5, 151] (by decide +kernel) (allq pr_2 (allq pr_2 (allq pr_2 (allq pr_2 (allq pr_2 (allq pr_2 (allq pr_5 (allq pr_5 (allq pr_151 allq0))))))))) (by decide +kernel) (by decide +kernel) (by decide +kernel) (by decide +kernel)).1
theorem pr_4348819 : Pr 4348819 :=
  (pratt 4348819 2 23 [2, 3, 3, 241601] (by decide +kernel) (allq pr_2 (allq pr_3 (allq pr_3 (allq pr_241601 allq0)))) (by decide +kernel) (by decide +kernel) (by decide +kernel) (by decide +kernel)).1
theorem pr_365300797 : Pr 365300797 :=
  (pratt 365300797 2 29 [2, 2, 3, 7, 4348819] (by decide +kernel) (allq pr_2 (allq pr_2 (allq pr_3 (allq pr_7 (allq pr_4348819 allq0))))) (by decide +kernel) (by decide +kernel) (by decide +kernel) (by decide +kernel)).1
theorem pr_677 : Pr 677 :=
  (pratt 677 2 10 [2, 2, 13, 13] (by decide +kernel) (allq pr_2 (allq pr_2 (allq pr_13 (allq pr_13 allq0)))) (by decide +kernel) (by decide +kernel) (by decide +kernel) (by decide +kernel)).1
theorem pr_308713 : Pr 308713 :=
  (pratt 308713 7 19 [2, 2, 2, 3, 19, 677] (by decide +kernel) (allq pr_2 (allq pr_2 (allq pr_2 (allq pr_3 (allq pr_19 (allq pr_677 allq0)))))) (by decide +kernel) (by decide +kernel) (by decide +kernel) (by decide +kernel)).1
theorem pr_1234853 : Pr 1234853 :=
  (pratt 1234853 2 21 [2, 2, 308713] (by decide +kernel) (allq pr_2 (allq pr_2 (allq pr_308713 allq0))) (by decide +kernel) (by decide +kernel) (by decide +kernel) (by decide +kernel)).1
theorem pr_5791 : Pr 5791 :=
  (pratt 5791 6 13 [2, 3, 5, 193] (by decide +kernel) (allq pr_2 (allq pr_3 (allq pr_5 (allq pr_193 allq0)))) (by decide +kernel) (by decide +kernel) (by decide +kernel) (by decide +kernel)).1
theorem pr_479216833 : Pr 479216833 :=
  (pratt 479216833 5 29 [2, 2, 2, 2, 2, 2, 3, 431, 5791] (by decide +kernel) (allq pr_2 (allq pr_2 (allq pr_2 (allq pr_2 (allq pr_2 (allq pr_2 (allq pr_3 (allq pr_431 (allq pr_5791 allq0))))))))) (by decide +kernel) (by decide +kernel) (by decide +kernel) (by decide +kernel)).1
theorem pr_330659614771 : Pr 330659614771 :=
  (pratt 330659614771 2 39 [2, 3, 5, 23, 479216833] (by decide +kernel) (allq pr_2 (allq pr_3 (allq pr_5 (allq pr_23 (allq pr_479216833 allq0))))) (by decide +kernel) (by decide +kernel) (by decide +kernel) (by decide +kernel)).1
theorem pr_2810390965640035542416767 : Pr 2810390965640035542416767 :=
  (pratt 2810390965640035542416767 5 82 [2, 3, 71, 107, 151, 1234853, 330659614771] (by decide +kernel) (allq pr_2 (allq pr_3 (allq pr_71 (allq pr_107 (allq pr_151 (allq pr_1234853 (allq pr_330659614771 allq0))))))) (by decide +kernel) (by decide +kernel) (by decide +kernel) (by decide +kernel)).1
theorem pr_146621177686829237856559365192161554600556965873 : Pr 146621177686829237856559365192161554600556965873 :=
  (pratt 146621177686829237856559365192161554600556965873 5 157 [2, 2, 2, 2, 3, 127, 211, 111032963, 365300797, 2810390965640035542416767] (by decide +kernel) (allq pr_2 (allq pr_2 (allq pr_2 (allq pr_2 (allq pr_3 (allq pr_127 (allq pr_211 (allq pr_111032963 (allq pr_365300797 (allq pr_2810390965640035542416767 allq0)))))))))) (by decide +kernel) (by decide +kernel) (by decide +kernel) (by decide +kernel)).1
theorem pr_1046598874349470040812238544166825597307092300404591085307326405812564486341 : Pr 1046598874349470040812238544166825597307092300404591085307326405812564486341 :=
  (pratt 1046598874349470040812238544166825597307092300404591085307326405812564486341 2 250 [2, 2, 5, 7, 35511557, 1435773091665945871, 146621177686829237856559365192161554600556965873] (by decide +kernel) (allq pr_2 (allq pr_2 (allq pr_5 (allq pr_7 (allq pr_35511557 (allq pr_1435773091665945871 (allq pr_146621177686829237856559365192161554600556965873 allq0))))))) (by decide +kernel) (by decide +kernel) (by decide +kernel) (by decide +kernel)).1
theorem pr_471155737497642486266649722911997034941785580633861408520357030668404527002692877857903580176417856629449583072727858932500851 : Pr 471155737497642486266649722911997034941785580633861408520357030668404527002692877857903580176417856629449583072727858932500851 :=
  (pratt 471155737497642486266649722911997034941785580633861408520357030668404527002692877857903580176417856629449583072727858932500851 2 418 [2, 5, 5, 349, 17683, 23311, 235251347, 1130119423, 235404890147362182521, 1046598874349470040812238544166825597307092300404591085307326405812564486341] (by decide +kernel) (allq pr_2 (allq pr_5 (allq pr_5 (allq pr_349 (allq pr_17683 (allq pr_23311 (allq pr_235251347 (allq pr_1130119423 (allq pr_235404890147362182521 (allq pr_1046598874349470040812238544166825597307092300404591085307326405812564486341 allq0)))))))))) (by decide +kernel) (by decide +kernel) (by decide +kernel) (by decide +kernel)).1
theorem both_6703903964971298549787012499102923063739682910296196688861780721860882015036773488400937149083451713845015929093243025426876941405973284973216824503041861 : Pr 6703903964971298549787012499102923063739682910296196688861780721860882015036773488400937149083451713845015929093243025426876941405973284973216824503041861 ∧ ∀ x, x % 6703903964971298549787012499102923063739682910296196688861780721860882015036773488400937149083451713845015929093243025426876941405973284973216824503041861 ≠ 0 → x ^ (6703903964971298549787012499102923063739682910296196688861780721860882015036773488400937149083451713845015929093243025426876941405973284973216824503041861 - 1) % 6703903964971298549787012499102923063739682910296196688861780721860882015036773488400937149083451713845015929093243025426876941405973284973216824503041861 = 1 :=
  pratt 6703903964971298549787012499102923063739682910296196688861780721860882015036773488400937149083451713845015929093243025426876941405973284973216824503041861 2 511 [2, 2, 3, 5, 31, 1063, 99436943, 72371792138339, 471155737497642486266649722911997034941785580633861408520357030668404527002692877857903580176417856629449583072727858932500851] (by decide +kernel) (allq pr_2 (allq pr_2 (allq pr_3 (allq pr_5 (allq pr_31 (allq pr_1063 (allq pr_99436943 (allq pr_72371792138339 (allq pr_471155737497642486266649722911997034941785580633861408520357030668404527002692877857903580176417856629449583072727858932500851 allq0))))))))) (by decide +kernel) (by decide +kernel) (by decide +kernel) (by decide +kernel)
end Go.Proofs.YtpcmpeeflnlkpaaGreatDoor
