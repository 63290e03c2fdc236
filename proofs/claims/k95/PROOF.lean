import PyProof.Rows.All
import Wide.All
import OpenK.AllK
import Wide.FinOn
import HandS.ForMost
import HandS.ExcInit
import HandS.IsInst
import HandS.ExcValue
import KE.KExcIs
import HandS.ExcField
import HandS.Head0
import HandS.Head1
import HandS.Head2
import HandS.HeadEnd
import HandS.HeadHook1
import HandS.HeadHook2
import HandS.Defaults
import HandS.Flow
import HandS.Style
import HandS.SetFor
import HandS.Wide
import PySem.Challenge.RW_namedcuts_k95_errors_by_hand
set_option Elab.async false
set_option linter.all false
set_option maxRecDepth 100000
/-! Ev0 -/
set_option maxHeartbeats 2000000
/-! What is looked at behind the top: the checks' words. -/
namespace Ev
open PySem PySem.Spec PyProof.Rows L2
def gexB (K : PySem.W.Frag) (C : Addr) (bmB : List Value) (newId : String) : Bool := PySem.W.excInitIn K C bmB newId && (PySem.W.hasDictIn K C && (PySem.W.excOver K C bmB && (decide (PySem.W.findIn K (.ref C) "__setattr__" = some (some (.builtin "object.__setattr__"))) &&
  (decide (PySem.W.subIn K (.ref C) (.type "BaseException") = some true) && (decide (PySem.W.typeIn K (.ref C) = some (.type "type")) && PySem.W.keepIn K (.ref C))))))
def excB (K : PySem.W.Frag) (C : Addr) : Bool := (PySem.W.clsIn K C).isSome && (decide (PySem.W.findIn K (.ref C) "__getattribute__" = some (some (.builtin "BaseException.__getattribute__"))) && (decide (PySem.W.findIn K (.ref C) "__getattr__" = some none) && (decide (PySem.W.subIn K (.ref C) (.type "BaseException") = some true) &&
  (decide (PySem.W.findIn K (.ref C) "__class__" = some (some (.builtin "object.__class__"))) && (decide (PySem.W.specialIn K (.builtin "object.__class__") "__get__" = some (some (.builtin "getset_descriptor.__get__"))) && (decide (PySem.W.takesIn K (.builtin "object.__class__") = some true) &&
  (decide (PySem.W.mroIn K C (.type "object") = some true) && PySem.W.hasDictIn K C)))))))
def frX (n : Nat) (g : Addr → Option Obj) : PySem.W.Frag := He.frG g (sysModules :: He.asD g n)
abbrev AlX : Type := Bool × He.AlD
def obsX (n : Nat) (fa : List He.Fa) (fn : List He.DefD) (chk : PySem.W.Frag → Bool) (g : Addr → Option Obj) : AlX := (chk (frX n g) && (List.lookup sysModules (frX n g)).isSome, He.obsD fa fn (frX n g))
def keyBase : List Value := [.type "KeyError", .type "LookupError", .type "Exception", .type "BaseException", .type "object"]
end Ev
/-! K95r -/
set_option maxHeartbeats 0
/-! k95: the text by places, the checks, the top's run. -/
namespace K95
open PySem PySem.Spec PyProof.Rows L2 Ev
def top (i : Nat) : Stmt := PySem.Challenge.pw_namedcuts_k95_errors_by_hand.main.body.getD i (.Pass ⟨0, 0, 0, 0⟩)
def nms : List Str := (["", "CutError", "BadFrame", "BadLayout", "BadOrder", "BadText", "BadBook", "BadScript", "BadManner", "BadPath", "BadWeaving", "BadRolling", "BadJournal", "BadPaper", "Stopped", "BadName", "BadNames", "BadWorld", "BadCut", "BadCuts"] : List Str) ++ (["BadTerm", "BadNumber", "BadPart", "BadTree", "BadAsk", "BadRule", "BadCondition", "BadDeed", "BadStanding", "BadEvent", "BadThing", "BadSort", "BadClaim", "Unbound", "Bound", "Overlaps", "Outside", "NoPart", "Late", "Parts"] : List Str) ++ (["Leans", "BadQuestion", "TooMany", "Missing"] : List Str)
def nmOf (c : Nat) : Str := nms.getD c ""
def ca (K : PySem.W.Frag) (c : Nat) : Addr := He.ga K (nmOf c)
def flds : List Str := ["part", "number", "one", "other", "line", "place", "word", "given", "most"]
def ofBase : List Value := [.type "OverflowError", .type "ArithmeticError", .type "Exception", .type "BaseException", .type "object"]
def rng (a b : Nat) : List Nat := (List.range (b - a)).map (· + a)
/-- what each class answers where it is asked for the class k: 1 CutError, 2 to 41 those under it, 42 TooMany, 43 Missing -/
def tab (k c : Nat) : Bool := Nat.beq c k || (Nat.beq k 1 && Nat.ble c 41)
def initB (K : PySem.W.Frag) (c : Nat) : Bool := decide (PySem.W.findIn K (.ref (ca K c)) "__init__" = some (some (.ref (He.ma K (ca K c) "__init__")))) && decide (PySem.W.typeIn K (.ref (He.ma K (ca K c) "__init__")) = some (.type "function"))
def chk1 (K : PySem.W.Frag) : Bool := (rng 2 41).all (fun c => gexB K (ca K c) He.veBase "ValueError.__new__" && initB K c) && (gexB K (ca K 42) ofBase "OverflowError.__new__" && (initB K 42 && (gexB K (ca K 43) keyBase "LookupError.__new__" && initB K 43)))
def chk2 (K : PySem.W.Frag) : Bool := (rng 1 44).all fun c => excB K (ca K c)
def chk3 (K : PySem.W.Frag) : Bool := (rng 2 44).all fun c => flds.all fun f => decide (PySem.W.findIn K (.ref (ca K c)) f = some none)
def chk4 (K : PySem.W.Frag) : Bool := (rng 1 44).all fun c => (rng 1 44).all fun k => decide (PySem.W.kitOne K (.ref (ca K c)) (.ref (ca K k)) = some (tab k c))
def chk5 (K : PySem.W.Frag) : Bool := (rng 1 44).all fun c => decide (PySem.W.kitOne K (.ref (ca K c)) (.type "ValueError") = some (Nat.ble c 41)) && (decide (PySem.W.kitOne K (.ref (ca K c)) (.type "OverflowError") = some (Nat.beq c 42)) && (decide (PySem.W.kitOne K (.ref (ca K c)) (.type "KeyError") = some (Nat.beq c 43)) &&
  decide (PySem.W.kitAny K (.ref (ca K c)) [.ref (ca K 42), .ref (ca K 43)] = some (Nat.ble 42 c))))
def chk6 (K : PySem.W.Frag) : Bool := [1, 41].all fun c => PySem.W.excIn K (ca K c) He.veBase "ValueError.__new__" && PySem.W.keepIn K (.ref (ca K c))
def chk (K : PySem.W.Frag) : Bool := chk1 K && (chk2 K && (chk3 K && (chk4 K && (chk5 K && chk6 K))))
abbrev s2 : Stmt := inClass (top 2) 0
abbrev s3 : Stmt := inClass (top 3) 0
abbrev s4 : Stmt := inClass (top 4) 0
abbrev s5 : Stmt := inClass (top 5) 0
abbrev s6 : Stmt := inClass (top 6) 0
abbrev s7 : Stmt := inClass (top 7) 0
abbrev s8 : Stmt := inClass (top 8) 0
abbrev s9 : Stmt := inClass (top 9) 0
abbrev s10 : Stmt := inClass (top 10) 0
abbrev s11 : Stmt := inClass (top 11) 0
abbrev s12 : Stmt := inClass (top 12) 0
abbrev s13 : Stmt := inClass (top 13) 0
abbrev s14 : Stmt := inClass (top 14) 0
abbrev s15 : Stmt := inClass (top 15) 0
abbrev s16 : Stmt := inClass (top 16) 0
abbrev s17 : Stmt := inClass (top 17) 0
abbrev s18 : Stmt := inClass (top 18) 0
abbrev s19 : Stmt := inClass (top 19) 0
abbrev s20 : Stmt := inClass (top 20) 0
abbrev s21 : Stmt := inClass (top 21) 0
abbrev s22 : Stmt := inClass (top 22) 0
abbrev s23 : Stmt := inClass (top 23) 0
abbrev s24 : Stmt := inClass (top 24) 0
abbrev s25 : Stmt := inClass (top 25) 0
abbrev s26 : Stmt := inClass (top 26) 0
abbrev s27 : Stmt := inClass (top 27) 0
abbrev s28 : Stmt := inClass (top 28) 0
abbrev s29 : Stmt := inClass (top 29) 0
abbrev s30 : Stmt := inClass (top 30) 0
abbrev s31 : Stmt := inClass (top 31) 0
abbrev s32 : Stmt := inClass (top 32) 0
abbrev s33 : Stmt := inClass (top 33) 0
abbrev s34 : Stmt := inClass (top 34) 0
abbrev s35 : Stmt := inClass (top 35) 0
abbrev s36 : Stmt := inClass (top 36) 0
abbrev s37 : Stmt := inClass (top 37) 0
abbrev s38 : Stmt := inClass (top 38) 0
abbrev s39 : Stmt := inClass (top 39) 0
abbrev s40 : Stmt := inClass (top 40) 0
abbrev s42 : Stmt := inClass (top 42) 0
abbrev s43 : Stmt := inClass (top 43) 0
abbrev s45 : Stmt := top 45
abbrev s46 : Stmt := top 46
abbrev s47 : Stmt := top 47
abbrev s48 : Stmt := top 48
abbrev s49 : Stmt := top 49
abbrev s50 : Stmt := top 50
abbrev s51 : Stmt := top 51
abbrev s52 : Stmt := top 52
def fn : List He.DefD := ([⟨("BadFrame", some "__init__"), "__init__", "BadFrame.__init__", defArgs s2, defBody s2, defScope s2, [], []⟩, ⟨("BadLayout", some "__init__"), "__init__", "BadLayout.__init__", defArgs s3, defBody s3, defScope s3, [], []⟩, ⟨("BadOrder", some "__init__"), "__init__", "BadOrder.__init__", defArgs s4, defBody s4, defScope s4, [], []⟩, ⟨("BadText", some "__init__"), "__init__", "BadText.__init__", defArgs s5, defBody s5, defScope s5, [], []⟩, ⟨("BadBook", some "__init__"), "__init__", "BadBook.__init__", defArgs s6, defBody s6, defScope s6, [], []⟩, ⟨("BadScript", some "__init__"), "__init__", "BadScript.__init__", defArgs s7, defBody s7, defScope s7, [], []⟩, ⟨("BadManner", some "__init__"), "__init__", "BadManner.__init__", defArgs s8, defBody s8, defScope s8, [], []⟩, ⟨("BadPath", some "__init__"), "__init__", "BadPath.__init__", defArgs s9, defBody s9, defScope s9, [], []⟩, ⟨("BadWeaving", some "__init__"), "__init__", "BadWeaving.__init__", defArgs s10, defBody s10, defScope s10, [], []⟩, ⟨("BadRolling", some "__init__"), "__init__", "BadRolling.__init__", defArgs s11, defBody s11, defScope s11, [], []⟩, ⟨("BadJournal", some "__init__"), "__init__", "BadJournal.__init__", defArgs s12, defBody s12, defScope s12, [], []⟩, ⟨("BadPaper", some "__init__"), "__init__", "BadPaper.__init__", defArgs s13, defBody s13, defScope s13, [], []⟩, ⟨("Stopped", some "__init__"), "__init__", "Stopped.__init__", defArgs s14, defBody s14, defScope s14, [], []⟩, ⟨("BadName", some "__init__"), "__init__", "BadName.__init__", defArgs s15, defBody s15, defScope s15, [], []⟩, ⟨("BadNames", some "__init__"), "__init__", "BadNames.__init__", defArgs s16, defBody s16, defScope s16, [], []⟩, ⟨("BadWorld", some "__init__"), "__init__", "BadWorld.__init__", defArgs s17, defBody s17, defScope s17, [], []⟩, ⟨("BadCut", some "__init__"), "__init__", "BadCut.__init__", defArgs s18, defBody s18, defScope s18, [], []⟩, ⟨("BadCuts", some "__init__"), "__init__", "BadCuts.__init__", defArgs s19, defBody s19, defScope s19, [], []⟩, ⟨("BadTerm", some "__init__"), "__init__", "BadTerm.__init__", defArgs s20, defBody s20, defScope s20, [], []⟩, ⟨("BadNumber", some "__init__"), "__init__", "BadNumber.__init__", defArgs s21, defBody s21, defScope s21, [], []⟩] : List He.DefD) ++ ([⟨("BadPart", some "__init__"), "__init__", "BadPart.__init__", defArgs s22, defBody s22, defScope s22, [], []⟩, ⟨("BadTree", some "__init__"), "__init__", "BadTree.__init__", defArgs s23, defBody s23, defScope s23, [], []⟩, ⟨("BadAsk", some "__init__"), "__init__", "BadAsk.__init__", defArgs s24, defBody s24, defScope s24, [], []⟩, ⟨("BadRule", some "__init__"), "__init__", "BadRule.__init__", defArgs s25, defBody s25, defScope s25, [], []⟩, ⟨("BadCondition", some "__init__"), "__init__", "BadCondition.__init__", defArgs s26, defBody s26, defScope s26, [], []⟩, ⟨("BadDeed", some "__init__"), "__init__", "BadDeed.__init__", defArgs s27, defBody s27, defScope s27, [], []⟩, ⟨("BadStanding", some "__init__"), "__init__", "BadStanding.__init__", defArgs s28, defBody s28, defScope s28, [], []⟩, ⟨("BadEvent", some "__init__"), "__init__", "BadEvent.__init__", defArgs s29, defBody s29, defScope s29, [], []⟩, ⟨("BadThing", some "__init__"), "__init__", "BadThing.__init__", defArgs s30, defBody s30, defScope s30, [], []⟩, ⟨("BadSort", some "__init__"), "__init__", "BadSort.__init__", defArgs s31, defBody s31, defScope s31, [], []⟩, ⟨("BadClaim", some "__init__"), "__init__", "BadClaim.__init__", defArgs s32, defBody s32, defScope s32, [], []⟩, ⟨("Unbound", some "__init__"), "__init__", "Unbound.__init__", defArgs s33, defBody s33, defScope s33, [], []⟩, ⟨("Bound", some "__init__"), "__init__", "Bound.__init__", defArgs s34, defBody s34, defScope s34, [], []⟩, ⟨("Overlaps", some "__init__"), "__init__", "Overlaps.__init__", defArgs s35, defBody s35, defScope s35, [], []⟩, ⟨("Outside", some "__init__"), "__init__", "Outside.__init__", defArgs s36, defBody s36, defScope s36, [], []⟩, ⟨("NoPart", some "__init__"), "__init__", "NoPart.__init__", defArgs s37, defBody s37, defScope s37, [], []⟩, ⟨("Late", some "__init__"), "__init__", "Late.__init__", defArgs s38, defBody s38, defScope s38, [], []⟩, ⟨("Parts", some "__init__"), "__init__", "Parts.__init__", defArgs s39, defBody s39, defScope s39, [], []⟩, ⟨("Leans", some "__init__"), "__init__", "Leans.__init__", defArgs s40, defBody s40, defScope s40, [], []⟩, ⟨("TooMany", some "__init__"), "__init__", "TooMany.__init__", defArgs s42, defBody s42, defScope s42, [], []⟩] : List He.DefD) ++ ([⟨("Missing", some "__init__"), "__init__", "Missing.__init__", defArgs s43, defBody s43, defScope s43, [], []⟩, ⟨("_law_mixed", none), "_law_mixed", "_law_mixed", defArgs s45, defBody s45, defScope s45, [], []⟩, ⟨("_law_begin", none), "_law_begin", "_law_begin", defArgs s46, defBody s46, defScope s46, [], []⟩, ⟨("_law_draw", none), "_law_draw", "_law_draw", defArgs s47, defBody s47, defScope s47, [], []⟩, ⟨("_law_of", none), "_law_of", "_law_of", defArgs s48, defBody s48, defScope s48, [], []⟩, ⟨("_law_kinds", none), "_law_kinds", "_law_kinds", defArgs s49, defBody s49, defScope s49, [], []⟩, ⟨("_law_made", none), "_law_made", "_law_made", defArgs s50, defBody s50, defScope s50, [], []⟩, ⟨("_law_others_right", none), "_law_others_right", "_law_others_right", defArgs s51, defBody s51, defScope s51, [], []⟩, ⟨("law", none), "law", "law", defArgs s52, defBody s52, defScope s52, [], []⟩] : List He.DefD)
def gloN : List Str := (["CutError", "BadFrame", "BadLayout", "BadOrder", "BadText", "BadBook", "BadScript", "BadManner", "BadPath", "BadWeaving", "BadRolling", "BadJournal", "BadPaper", "Stopped", "BadName", "BadNames", "BadWorld", "BadCut", "BadCuts", "BadTerm"] : List Str) ++ (["BadNumber", "BadPart", "BadTree", "BadAsk", "BadRule", "BadCondition", "BadDeed", "BadStanding", "BadEvent", "BadThing", "BadSort", "BadClaim", "Unbound", "Bound", "Overlaps", "Outside", "NoPart", "Late", "Parts", "Leans"] : List Str) ++ (["BadQuestion", "TooMany", "Missing", "_law_mixed", "_law_begin", "_law_draw", "_law_of", "_law_kinds", "_law_made", "_law_others_right", "law"] : List Str)
def freeN : List Str := (["isinstance", "repr", "enumerate", "int", "len", "list", "range", "min", "ValueError", "OverflowError", "KeyError"] : List Str)
def fa : List He.Fa := gloN.map He.Fa.glo ++ freeN.map He.Fa.free
abbrev R : PySem.W.OpenRow := PySem.W.OpenLaw.row PySem.Challenge.rw_namedcuts_k95_errors_by_hand
def loose : List Str := (["CutError", "BadFrame", "BadLayout", "BadOrder", "BadText", "BadBook", "BadScript", "BadManner", "BadPath", "BadWeaving", "BadRolling", "BadJournal", "BadPaper", "Stopped", "BadName", "BadNames", "BadWorld", "BadCut", "BadCuts", "BadTerm"] : List Str) ++ (["BadNumber", "BadPart", "BadTree", "BadAsk", "BadRule", "BadCondition", "BadDeed", "BadStanding", "BadEvent", "BadThing", "BadSort", "BadClaim", "Unbound", "Bound", "Overlaps", "Outside", "NoPart", "Late", "Parts", "Leans"] : List Str) ++ (["BadQuestion", "TooMany", "Missing", "_law_mixed", "_law_begin", "_law_draw", "_law_of", "_law_kinds", "_law_made", "_law_others_right"] : List Str)
noncomputable abbrev fin (w : World) (os : OsState) : Option PySem.W.SharedT := HandSHeadRun.endF (HandSHeadRun.stepQ (HandSHeadRun.denQ HandSHeadRun.tabQ) R.prog w) 12000 R.prog w os
abbrev vw : Program := PySem.W.view R.prog [52]
def kF (s : PySem.W.SharedT) : PySem.W.Frag := frX 5 (HandSHeadRun.getT s)
theorem runA (w : World) (os : OsState) : (fin w os).map (fun s => (HandSHeadRun.looksF R.prog (PySem.W.boot_heap w.params) s.abs, HandSHeadRun.seenQ vw loose (importedModules R.prog.main.body) (fun s => PySem.W.xlAt vw [] s && PySem.W.recOk R.toRowW.records s) s.abs)) = some (true, PySem.W.openGood vw loose) := by
  kernel_rfl
theorem runB (w : World) (os : OsState) : (fin w os).map (fun s => obsX 5 fa fn (fun _ => true) (HandSHeadRun.getT s)) = some (true, He.valD fn) := by
  kernel_rfl
theorem runC (w : World) (os : OsState) : (fin w os).map (fun s => chk (frX 5 (HandSHeadRun.getT s))) = some true := by
  kernel_rfl
end K95
/-! Ev1 -/
set_option maxHeartbeats 2000000
/-! An evaluator on plain data, told beside the hand layer's readings: data, heaps, what stands for what. -/
namespace Ev
open PySem PySem.Spec PyProof.Rows L2

def mkS (x : List Nat) : Str := ⟨x.toArray⟩
theorem mkS_inj {x y : List Nat} (h : mkS x = mkS y) : x = y := by
  have e : x.toArray = y.toArray := congrArg Str.cps h
  have e2 := congrArg Array.toList e
  simpa using e2

/-- what repr writes of -/
inductive PD where
  | non | bl (b : Bool) | int (i : Int) | str (x : List Nat) | lst (xs : List PD) | tup (xs : List PD) | opq (k : Nat)
inductive D where
  | non | bl (b : Bool) | int (i : Int) | str (x : List Nat) | tup (xs : List D) | ref (n : Nat) | opq (k : Nat) | rep (p : PD)
inductive HD where
  | lst (xs : List D)
  | exc (c : Nat) (fs : List (List Nat × D))
  | ex0 (c : Nat)

mutual
def PD.py (δ : Nat → PyData) : PD → PyData
  | .non => .none
  | .bl b => .bool b
  | .int i => .int i
  | .str x => .str (mkS x)
  | .lst xs => .list (PD.pys δ xs)
  | .tup xs => .tuple (PD.pys δ xs)
  | .opq k => δ k
def PD.pys (δ : Nat → PyData) : List PD → List PyData
  | [] => []
  | x :: r => PD.py δ x :: PD.pys δ r
end

/-- what stays fixed: the written part, the classes' places, what stood before, things that are not looked into -/
structure En where
  K : PySem.W.Frag
  ca : Nat → Addr
  HB : Hp
  ω : Nat → V
  δ : Nat → PyData

mutual
inductive RV (E : En) (ι : Nat → Addr) (N : Nat) (H : Hp) : D → V → Prop
  | non : RV E ι N H .non .non
  | bl (b : Bool) : RV E ι N H (.bl b) (.bl b)
  | int (i : Int) : RV E ι N H (.int i) (.int i)
  | str (x : List Nat) : RV E ι N H (.str x) (.str (mkS x))
  | tup {a : Addr} {xs : List D} {vs : List V} : SqT E.K H a vs → RVs E ι N H xs vs → RV E ι N H (.tup xs) (.ref a)
  | ref {n : Nat} : n < N → RV E ι N H (.ref n) (.ref (ι n))
  | opq (k : Nat) : RV E ι N H (.opq k) (E.ω k)
  | rep (p : PD) : RV E ι N H (.rep p) (.str (PyData.shown (p.py E.δ)))
inductive RVs (E : En) (ι : Nat → Addr) (N : Nat) (H : Hp) : List D → List V → Prop
  | nil : RVs E ι N H [] []
  | cons {d : D} {ds : List D} {v : V} {vs : List V} : RV E ι N H d v → RVs E ι N H ds vs → RVs E ι N H (d :: ds) (v :: vs)
end
def RFs (E : En) (ι : Nat → Addr) (N : Nat) (H : Hp) : List (List Nat × D) → List (Str × V) → Prop := Paired fun p q => q.1 = mkS p.1 ∧ RV E ι N H p.2 q.2

/-- from one state to a later one -/
structure Ext (E : En) (ι : Nat → Addr) (N : Nat) (H : Hp) (ι' : Nat → Addr) (N' : Nat) (H' : Hp) : Prop where
  le : N ≤ N'
  ag : ∀ n, n < N → ι' n = ι n
  tp : ∀ a vs, SqT E.K H a vs → SqT E.K H' a vs
section
variable {E : En} {ι ι' ι2 : Nat → Addr} {N N' N2 : Nat} {H H' H2 : Hp}
theorem Ext.refl : Ext E ι N H ι N H := ⟨Nat.le_refl _, fun _ _ => rfl, fun _ _ h => h⟩
theorem Ext.trans (a : Ext E ι N H ι' N' H') (b : Ext E ι' N' H' ι2 N2 H2) : Ext E ι N H ι2 N2 H2 :=
  ⟨Nat.le_trans a.le b.le, fun n hn => (b.ag n (Nat.lt_of_lt_of_le hn a.le)).trans (a.ag n hn), fun x vs h => b.tp x vs (a.tp x vs h)⟩
mutual
theorem RV.ext (x : Ext E ι N H ι' N' H') : ∀ {d : D} {v : V}, RV E ι N H d v → RV E ι' N' H' d v
  | _, _, .non => .non
  | _, _, .bl b => .bl b
  | _, _, .int i => .int i
  | _, _, .str z => .str z
  | _, _, .tup h r => .tup (x.tp _ _ h) (RVs.ext x r)
  | _, _, .ref h => by
    have e := x.ag _ h
    rw [← e]
    exact .ref (Nat.lt_of_lt_of_le h x.le)
  | _, _, .opq k => .opq k
  | _, _, .rep p => .rep p
theorem RVs.ext (x : Ext E ι N H ι' N' H') : ∀ {d : List D} {v : List V}, RVs E ι N H d v → RVs E ι' N' H' d v
  | _, _, .nil => .nil
  | _, _, .cons h r => .cons (RV.ext x h) (RVs.ext x r)
end
theorem RFs.ext (x : Ext E ι N H ι' N' H') {fs : List (List Nat × D)} {gs : List (Str × V)} (h : RFs E ι N H fs gs) : RFs E ι' N' H' fs gs :=
  Paired.mapP h fun _ _ q => ⟨q.1, q.2.ext x⟩
theorem RVs.length : ∀ {ds : List D} {vs : List V}, RVs E ι N H ds vs → ds.length = vs.length
  | _, _, .nil => rfl
  | _, _, .cons _ r => congrArg (· + 1) (RVs.length r)
theorem RVs.get : ∀ {ds : List D} {vs : List V} {i : Nat} {d : D}, RVs E ι N H ds vs → ds[i]? = some d → ∃ v, vs[i]? = some v ∧ RV E ι N H d v
  | _, _, _, _, .nil, e => by simp at e
  | _, _, 0, _, .cons h _, e => by simp at e; subst e; exact ⟨_, rfl, h⟩
  | _, _, i + 1, d, .cons _ r, e => by
    obtain ⟨v, h1, h2⟩ := RVs.get (i := i) (d := d) r (by simpa using e)
    exact ⟨v, by simpa using h1, h2⟩
theorem RVs.get' : ∀ {ds : List D} {vs : List V} {i : Nat} {v : V}, RVs E ι N H ds vs → vs[i]? = some v → ∃ d, ds[i]? = some d ∧ RV E ι N H d v
  | _, _, _, _, .nil, e => by simp at e
  | _, _, 0, _, .cons h _, e => by simp at e; subst e; exact ⟨_, rfl, h⟩
  | _, _, i + 1, d, .cons _ r, e => by
    obtain ⟨v, h1, h2⟩ := RVs.get' (i := i) (v := d) r (by simpa using e)
    exact ⟨v, by simpa using h1, h2⟩
theorem RVs.app : ∀ {ds es : List D} {vs ws : List V}, RVs E ι N H ds vs → RVs E ι N H es ws → RVs E ι N H (ds ++ es) (vs ++ ws)
  | _, _, _, _, .nil, s => s
  | _, _, _, _, .cons h r, s => .cons h (RVs.app r s)
end

/-! ### the heap as a tree -/
inductive Tr where
  | e | nd (v : Option HD) (l r : Tr)
def Tr.get : Tr → Nat → Option HD
  | .e, _ => none
  | .nd v l r, n => bif Nat.beq n 0 then v else bif Nat.beq (n % 2) 1 then l.get (n / 2) else r.get (n / 2 - 1)
def Tr.put : Nat → Tr → Nat → HD → Tr
  | 0, t, _, _ => t
  | f + 1, t, n, o => match t with
    | .e => bif Nat.beq n 0 then .nd (some o) .e .e else bif Nat.beq (n % 2) 1 then .nd none (Tr.put f .e (n / 2) o) .e else .nd none .e (Tr.put f .e (n / 2 - 1) o)
    | .nd v l r => bif Nat.beq n 0 then .nd (some o) l r else bif Nat.beq (n % 2) 1 then .nd v (Tr.put f l (n / 2) o) r else .nd v l (Tr.put f r (n / 2 - 1) o)
theorem Tr.get_e (n : Nat) : Tr.e.get n = none := by unfold Tr.get; rfl
theorem beqN {a b : Nat} : Nat.beq a b = decide (a = b) := by
  by_cases h : a = b
  · subst h; simp
  · rw [decide_eq_false h]
    cases e : Nat.beq a b with
    | false => rfl
    | true => exact absurd (Nat.eq_of_beq_eq_true e) h
theorem Tr.get_put : ∀ (f : Nat) (t : Tr) (n m : Nat) (o : HD), n + 1 < 2 ^ f → (Tr.put f t n o).get m = if m = n then some o else t.get m := by
  intro f
  induction f with
  | zero => intro t n m o h; simp at h
  | succ f ih =>
    intro t n m o h
    have hp : 2 ^ (f + 1) = 2 * 2 ^ f := by rw [Nat.pow_succ]; omega
    have aux : ∀ (v : Option HD) (l r : Tr), (bif Nat.beq n 0 then Tr.nd (some o) l r else bif Nat.beq (n % 2) 1 then Tr.nd v (Tr.put f l (n / 2) o) r else Tr.nd v l (Tr.put f r (n / 2 - 1) o)).get m = if m = n then some o else (Tr.nd v l r).get m := by
      intro v l r
      simp only [beqN]
      by_cases h0 : n = 0
      · subst h0
        simp only [decide_true, cond_true, Tr.get, beqN]
        by_cases hm : m = 0
        · subst hm; simp
        · simp [hm]
      · simp only [h0, decide_false, cond_false]
        by_cases h1 : n % 2 = 1
        · simp only [h1, decide_true, cond_true, Tr.get, beqN]
          by_cases hm : m = 0
          · subst hm; simp; omega
          · simp only [hm, decide_false, cond_false]
            by_cases hm1 : m % 2 = 1
            · simp only [hm1, decide_true, cond_true]
              rw [ih l (n / 2) (m / 2) o (by omega)]
              by_cases e : m = n
              · subst e; simp
              · rw [if_neg (by omega), if_neg e]
            · simp only [hm1, decide_false, cond_false]
              rw [if_neg (by omega)]
        · simp only [h1, decide_false, cond_false, Tr.get, beqN]
          by_cases hm : m = 0
          · subst hm; simp; omega
          · simp only [hm, decide_false, cond_false]
            by_cases hm1 : m % 2 = 1
            · simp only [hm1, decide_true, cond_true]
              rw [if_neg (by omega)]
            · simp only [hm1, decide_false, cond_false]
              rw [ih r (n / 2 - 1) (m / 2 - 1) o (by omega)]
              by_cases e : m = n
              · subst e; simp
              · rw [if_neg (by omega), if_neg e]
    cases t with
    | e =>
      have q := aux none .e .e
      have e1 : (Tr.nd none .e .e).get m = Tr.e.get m := by
        rw [Tr.get_e]
        simp only [Tr.get]
        cases Nat.beq m 0 <;> cases Nat.beq (m % 2) 1 <;> rfl
      rw [← e1, ← q]
      simp only [Tr.put]
    | nd v l r =>
      have q := aux v l r
      rw [← q]
      simp only [Tr.put]

structure Hv where
  n : Nat
  t : Tr
def Hv.get (h : Hv) (k : Nat) : Option HD := h.t.get k
def Hv.new (h : Hv) (o : HD) : Hv := ⟨h.n + 1, h.t.put 24 h.n o⟩
def Hv.ok (h : Hv) : Bool := Nat.blt h.n 8000000
theorem Hv.get_new {h : Hv} {o : HD} (hn : h.ok = true) (k : Nat) : (h.new o).get k = if k = h.n then some o else h.get k :=
  Tr.get_put 24 h.t h.n k o (by
    have : h.n + 1 ≤ 8000000 := Nat.le_of_ble_eq_true hn
    omega)

/-! ### what stands for what -/
def OAt (E : En) (ι : Nat → Addr) (N : Nat) (H : Hp) (a : Addr) : HD → Prop
  | .lst xs => ∃ vs, H a = some (.lst vs) ∧ RVs E ι N H xs vs
  | .exc c fs => ∃ (dx : Addr) (gs : List (Str × V)), H a = some (exo a (E.ca c) (some dx)) ∧ H dx = some (exd dx gs) ∧ RFs E ι N H fs gs
  | .ex0 c => H a = some (ExO (.ref (E.ca c)) a)
structure Rel (E : En) (F : Hp) (ι : Nat → Addr) (N : Nat) (H : Hp) (h : Hv) : Prop where
  sz : h.n = N
  ob : ∀ n o, n < N → h.get n = some o → OAt E ι N H (ι n) o
  inj : ∀ m n, m < N → n < N → ι m = ι n → m = n
  out : ∀ a o, F a = some o → H a = some o
  off : ∀ n, n < N → F (ι n) = none
  th : ∀ n, n < N → ∃ u, H (ι n) = some u
  hb : ∀ a o, E.HB a = some o → F a = some o
abbrev Lo := List (Option D)
structure Sim (E : En) (F : Hp) (ι : Nat → Addr) (N : Nat) (H : Hp) (h : Hv) (L : Lo) (σ : L2.St) : Prop where
  rel : Rel E F ι N H h
  len : L.length ≤ σ.length
  lc : ∀ (i : Nat) (d : D), L[i]? = some (some d) → ∃ v, σ[i]? = some (some v) ∧ RV E ι N H d v
section
variable {E : En} {F : Hp} {ι ι' : Nat → Addr} {N N' : Nat} {H H' : Hp} {h h' : Hv} {L : Lo} {σ : L2.St}
theorem Sim.to (s : Sim E F ι N H h L σ) (x : Ext E ι N H ι' N' H') (r : Rel E F ι' N' H' h') : Sim E F ι' N' H' h' L σ :=
  ⟨r, s.len, fun i d e => let ⟨v, a, b⟩ := s.lc i d e; ⟨v, a, b.ext x⟩⟩
theorem OAt.ext {a : Addr} {o : HD} (x : Ext E ι N H ι' N' H') (k : ∀ b u, H b = some u → H' b = some u) (q : OAt E ι N H a o) : OAt E ι' N' H' a o := by
  cases o with
  | lst xs => obtain ⟨vs, e, r⟩ := q; exact ⟨vs, k _ _ e, r.ext x⟩
  | exc c fs => obtain ⟨dx, gs, e1, e2, r⟩ := q; exact ⟨dx, gs, k _ _ e1, k _ _ e2, r.ext x⟩
  | ex0 c => exact k _ _ q
theorem SqT.keep {K : PySem.W.Frag} {a : Addr} {vs : List V} (k : ∀ b u, H b = some u → H' b = some u) (q : SqT K H a vs) : SqT K H' a vs := by
  rcases q with (q | ⟨o, q⟩) | q
  · exact .inl (.inl (k _ _ q))
  · exact .inl (.inr ⟨o, k _ _ q⟩)
  · exact .inr q
theorem Ext.kept (k : ∀ b u, H b = some u → H' b = some u) : Ext E ι N H ι N H' := ⟨Nat.le_refl _, fun _ _ => rfl, fun a vs q => SqT.keep k q⟩
theorem Rel.kept (r : Rel E F ι N H h) (k : ∀ b u, H b = some u → H' b = some u) : Rel E F ι N H' h :=
  ⟨r.sz, fun n o hn e => (r.ob n o hn e).ext (Ext.kept k) k, r.inj, fun a o e => k a o (r.out a o e), r.off, fun n hn => let ⟨u, q⟩ := r.th n hn; ⟨u, k _ _ q⟩, r.hb⟩
theorem keep_upd {p : Addr} {o : HO} (hp : H p = none) : ∀ b u, H b = some u → upd H p o b = some u := fun b u e => by
  rw [upd_ne (ne_of_none e hp)]; exact e
/-- a new object: p takes the next place -/
def setI (ι : Nat → Addr) (N : Nat) (p : Addr) : Nat → Addr := fun n => if n = N then p else ι n
theorem setI_new {p : Addr} : setI ι N p N = p := if_pos rfl
theorem setI_old {p : Addr} {n : Nat} (hn : n < N) : setI ι N p n = ι n := if_neg (Nat.ne_of_lt hn)
theorem Ext.new {p : Addr} (k : ∀ b u, H b = some u → H' b = some u) : Ext E ι N H (setI ι N p) (N + 1) H' :=
  ⟨Nat.le_succ _, fun n hn => setI_old hn, fun a vs q => SqT.keep k q⟩
theorem OAt.there {a : Addr} {o : HD} (q : OAt E ι N H a o) : ∃ u, H a = some u := by
  cases o with
  | lst xs => obtain ⟨vs, e, _⟩ := q; exact ⟨_, e⟩
  | exc c fs => obtain ⟨dx, gs, e1, _⟩ := q; exact ⟨_, e1⟩
  | ex0 c => exact ⟨_, q⟩
theorem Rel.new {p : Addr} {o : HD} (r : Rel E F ι N H h) (hp : H p = none) (hok : h.ok = true) (k : ∀ b u, H b = some u → H' b = some u) (hob : OAt E (setI ι N p) (N + 1) H' p o) : Rel E F (setI ι N p) (N + 1) H' (h.new o) := by
  have x : Ext E ι N H (setI ι N p) (N + 1) H' := Ext.new k
  have np : ∀ n, n < N → ι n ≠ p := fun n hn e => by
    obtain ⟨u, q⟩ := r.th n hn
    rw [e, hp] at q
    cases q
  refine ⟨by show h.n + 1 = N + 1; rw [r.sz], fun n o' hn e => ?_, fun m n hm hn e => ?_, fun a u e => k a u (r.out a u e), fun n hn => ?_, fun n hn => ?_, r.hb⟩
  · rw [Hv.get_new hok, r.sz] at e
    by_cases hN : n = N
    · subst hN
      rw [if_pos rfl] at e
      cases e
      rw [setI_new]
      exact hob
    · rw [if_neg hN] at e
      have hl : n < N := by omega
      rw [setI_old hl]
      exact (r.ob n o' hl e).ext x k
  · by_cases hM : m = N
    · by_cases hN : n = N
      · omega
      · have hl : n < N := by omega
        rw [hM, setI_new, setI_old hl] at e
        exact absurd e.symm (np n hl)
    · have hlm : m < N := by omega
      by_cases hN : n = N
      · rw [hN, setI_new, setI_old hlm] at e
        exact absurd e (np m hlm)
      · have hl : n < N := by omega
        rw [setI_old hl, setI_old hlm] at e
        exact r.inj m n hlm hl e
  · by_cases hN : n = N
    · subst hN
      rw [setI_new]
      cases q : F p with
      | none => rfl
      | some u =>
        have z := r.out p u q
        rw [hp] at z
        cases z
    · rw [setI_old (by omega)]
      exact r.off n (by omega)
  · by_cases hN : n = N
    · subst hN
      rw [setI_new]
      exact hob.there
    · rw [setI_old (by omega)]
      obtain ⟨u, q⟩ := r.th n (by omega)
      exact ⟨u, k _ _ q⟩
end
end Ev
/-! Ev2 -/
set_option maxHeartbeats 2000000
/-! The evaluator's judgements beside the readings; the rules that need no class. -/
namespace Ev
open PySem PySem.Spec PyProof.Rows L2

abbrev Me := Lo → Hv → Option (D × Hv)
abbrev Ma := Lo → Hv → Option (List D × Hv)
abbrev Mt := Lo → Hv → Option (Bool × Hv)
inductive SR where
  | nx (L : Lo) (h : Hv) | rt (d : D) (h : Hv) | bk (L : Lo) (h : Hv) | ct (L : Lo) (h : Hv)
abbrev Ms := Lo → Hv → Option SR

def T (E : En) (m : Me) : TE := fun σ H Q => ∃ F ι N h L, Sim E F ι N H h L σ ∧ ∃ d h', m L h = some (d, h') ∧
  ∀ ι' N' H' v, Ext E ι N H ι' N' H' → Rel E F ι' N' H' h' → RV E ι' N' H' d v → Q v H'
def Tt (E : En) (m : Mt) : TT := fun σ H Q => ∃ F ι N h L, Sim E F ι N H h L σ ∧ ∃ d h', m L h = some (d, h') ∧
  ∀ ι' N' H', Ext E ι N H ι' N' H' → Rel E F ι' N' H' h' → Q d H'
def Ts (E : En) (m : Ma) : TA := fun σ H Q => ∃ F ι N h L, Sim E F ι N H h L σ ∧ ∃ ds h', m L h = some (ds, h') ∧
  ∀ ι' N' H' vs, Ext E ι N H ι' N' H' → Rel E F ι' N' H' h' → RVs E ι' N' H' ds vs → Q vs H'
def Out (E : En) (F : Hp) (ι : Nat → Addr) (N : Nat) (H : Hp) (Dn : Ends) : SR → Prop
  | .nx L h => ∀ ι' N' H' σ', Ext E ι N H ι' N' H' → Sim E F ι' N' H' h L σ' → Dn.nx σ' H'
  | .rt d h => ∀ ι' N' H' v, Ext E ι N H ι' N' H' → Rel E F ι' N' H' h → RV E ι' N' H' d v → Dn.rt v H'
  | .bk L h => ∀ ι' N' H' σ', Ext E ι N H ι' N' H' → Sim E F ι' N' H' h L σ' → Dn.bk σ' H'
  | .ct L h => ∀ ι' N' H' σ', Ext E ι N H ι' N' H' → Sim E F ι' N' H' h L σ' → Dn.ct σ' H'
def TSs (E : En) (m : Ms) : TS := fun Dn σ H => ∃ F ι N h L, Sim E F ι N H h L σ ∧ ∃ r, m L h = some r ∧ Out E F ι N H Dn r

section
variable {X : Cx} {E : En} {F : Hp} {ι : Nat → Addr} {N : Nat} {H : Hp} {h h' h1 h2 : Hv} {L : Lo} {σ : L2.St} {e a b : Expr} {pos : Pos}
theorem imE {t t' : TE} (p : PE X e t) (i : ∀ σ H Q, t' σ H Q → t σ H Q) : PE X e t' := ⟨fun pins s σ H Q I hw => p.run pins s σ H Q I (i _ _ _ hw)⟩
theorem imT {t t' : TT} (p : PT X e t) (i : ∀ σ H Q, t' σ H Q → t σ H Q) : PT X e t' := ⟨fun pins s σ H Q I hw => p.run pins s σ H Q I (i _ _ _ hw)⟩
theorem imW {t t' : TT} (p : PW X e t) (i : ∀ σ H Q, t' σ H Q → t σ H Q) : PW X e t' := ⟨fun wh pins s σ H Q I hw => p.run wh pins s σ H Q I (i _ _ _ hw)⟩
theorem imA {es : List Expr} {t t' : TA} (p : PA X es t) (i : ∀ σ H Q, t' σ H Q → t σ H Q) : PA X es t' := ⟨fun po pins s σ H Q I hw => p.run po pins s σ H Q I (i _ _ _ hw)⟩
theorem imS {st : Stmt} {t t' : TS} (p : PS X st t) (i : ∀ Dn σ H, t' Dn σ H → t Dn σ H) : PS X st t' := ⟨fun pins s σ H Dn I hw => p.run pins s σ H Dn I (i _ _ _ hw)⟩
theorem imSs {st : List Stmt} {t t' : TS} (p : PSs X st t) (i : ∀ Dn σ H, t' Dn σ H → t Dn σ H) : PSs X st t' := ⟨fun pins s σ H Dn I hw => p.run pins s σ H Dn I (i _ _ _ hw)⟩

/-! ### names, constants -/
def mVar (i : Nat) : Me := fun L h => match L[i]? with
  | some (some d) => some (d, h)
  | _ => none
theorem c_var (i : Nat) {x : Str} (p : PE X (.Name x pos) (tVar i)) : PE X (.Name x pos) (T E (mVar i)) := imE p fun σ H Q q => by
  obtain ⟨F, ι, N, h, L, s, d, h', e, k⟩ := q
  unfold mVar at e
  split at e
  · rename_i d' hd
    cases e
    obtain ⟨v, hv, r⟩ := s.lc i _ hd
    exact ⟨v, hv, k _ _ _ _ Ext.refl s.rel r⟩
  · cases e
def mC (d : D) : Me := fun _ h => some (d, h)
theorem c_con {v : V} {d : D} (p : PE X e (tC v)) (r : ∀ ι N H, RV E ι N H d v) : PE X e (T E (mC d)) := imE p fun σ H Q q => by
  obtain ⟨F, ι, N, h, L, s, d', h', ee, k⟩ := q
  cases ee
  exact k _ _ _ _ Ext.refl s.rel (r _ _ _)
theorem c_int {i : Int} {j} : PE X (.Constant (.int i) j pos) (T E (mC (.int i))) := c_con pe_int fun _ _ _ => .int i
theorem c_bl {i : Bool} {j} : PE X (.Constant (.bool i) j pos) (T E (mC (.bl i))) := c_con pe_bl fun _ _ _ => .bl i
theorem c_non {j} : PE X (.Constant .none j pos) (T E (mC .non)) := c_con pe_non fun _ _ _ => .non
theorem c_str (l : List Nat) {x : Str} {j} (hx : x = mkS l) : PE X (.Constant (.str x) j pos) (T E (mC (.str l))) := by
  subst hx
  exact c_con pe_str fun _ _ _ => .str l

/-! ### argument lists -/
def aNil : Ma := fun _ h => some ([], h)
def aCons (m : Me) (r : Ma) : Ma := fun L h => (m L h).bind fun p => (r L p.2).bind fun q => some (p.1 :: q.1, q.2)
theorem c_nil : PA X [] (Ts E aNil) := imA pa_nil fun σ H Q q => by
  obtain ⟨F, ι, N, h, L, s, d', h', ee, k⟩ := q
  cases ee
  exact k _ _ _ _ Ext.refl s.rel .nil
theorem c_cons {es : List Expr} {m : Me} {r : Ma} (p : PE X e (T E m)) (q : PA X es (Ts E r)) (hs : starEach (e :: es) X.env = (false, eval e X.env) :: starEach es X.env := by rfl) : PA X (e :: es) (Ts E (aCons m r)) := imA (pa_cons p q hs) fun σ H Q q => by
  obtain ⟨F, ι, N, h, L, s, d, h', ee, k⟩ := q
  obtain ⟨⟨d1, g1⟩, e1, ee⟩ := Option.bind_eq_some_iff.mp ee
  obtain ⟨⟨d2, g2⟩, e2, ee⟩ := Option.bind_eq_some_iff.mp ee
  cases ee
  refine ⟨F, ι, N, h, L, s, d1, g1, e1, fun ι1 N1 H1 v1 x1 r1 w1 => ?_⟩
  refine ⟨F, ι1, N1, g1, L, s.to x1 r1, d2, g2, e2, fun ι2 N2 H2 vs x2 r2 w2 => ?_⟩
  exact k _ _ _ _ (x1.trans x2) r2 (.cons (w1.ext x2) w2)
theorem sz1000 {n : Nat} (hn : n ≤ 100000) : n ≤ sizeLine := by rw [sizeLine_eq]; omega
def mLst (a : Ma) : Me := fun L h => (a L h).bind fun p => bif Nat.ble p.1.length 100000 && p.2.ok then some (.ref p.2.n, p.2.new (.lst p.1)) else none
theorem Rel.lst {ι : Nat → Addr} {N : Nat} {H : Hp} {h : Hv} {p : Addr} {ds : List D} {vs : List V} (r : Rel E F ι N H h) (hp : H p = none) (hok : h.ok = true) (w : RVs E ι N H ds vs) :
    Ext E ι N H (setI ι N p) (N + 1) (upd H p (.lst vs)) ∧ Rel E F (setI ι N p) (N + 1) (upd H p (.lst vs)) (h.new (.lst ds)) ∧ RV E (setI ι N p) (N + 1) (upd H p (.lst vs)) (.ref h.n) (.ref p) := by
  have k := keep_upd (o := .lst vs) hp
  have x : Ext E ι N H (setI ι N p) (N + 1) (upd H p (.lst vs)) := Ext.new k
  refine ⟨x, r.new hp hok k ⟨vs, upd_same, w.ext x⟩, ?_⟩
  have e : setI ι N p h.n = p := by rw [r.sz]; exact setI_new
  have q : RV E (setI ι N p) (N + 1) (upd H p (.lst vs)) (.ref h.n) (.ref (setI ι N p h.n)) := .ref (by rw [r.sz]; exact Nat.lt_succ_self N)
  rw [e] at q
  exact q
theorem c_lst {es : List Expr} {a : Ma} (p : PA X es (Ts E a)) : PE X (.List es pos) (T E (mLst a)) := imE (pe_lst p) fun σ H Q q => by
  obtain ⟨F, ι, N, h, L, s, d, h', ee, k⟩ := q
  obtain ⟨⟨ds, g1⟩, e1, ee⟩ := Option.bind_eq_some_iff.mp ee
  dsimp only at ee
  cases hc : (Nat.ble ds.length 100000 && g1.ok) with
  | false => rw [hc] at ee; cases ee
  | true =>
    rw [hc] at ee
    cases ee
    obtain ⟨c1, c2⟩ := Bool.and_eq_true_iff.mp hc
    refine ⟨F, ι, N, h, L, s, ds, g1, e1, fun ι1 N1 H1 vs x1 r1 w1 => ⟨?_, fun p hp => ?_⟩⟩
    · rw [← w1.length]; exact sz1000 (Nat.le_of_ble_eq_true c1)
    · obtain ⟨x2, r2, w2⟩ := r1.lst hp c2 w1
      exact k _ _ _ _ (x1.trans x2) r2 w2
def mTup (a : Ma) : Me := fun L h => (a L h).bind fun p => bif Nat.ble p.1.length 100000 then some (.tup p.1, p.2) else none
theorem Rel.tup {ι : Nat → Addr} {N : Nat} {H : Hp} {h : Hv} {p : Addr} {ds : List D} {vs : List V} (r : Rel E F ι N H h) (hp : H p = none) (w : RVs E ι N H ds vs) :
    Ext E ι N H ι N (upd H p (.tup vs)) ∧ Rel E F ι N (upd H p (.tup vs)) h ∧ RV E ι N (upd H p (.tup vs)) (.tup ds) (.ref p) := by
  have k := keep_upd (o := .tup vs) hp
  have x : Ext E ι N H ι N (upd H p (.tup vs)) := Ext.kept k
  exact ⟨x, r.kept k, .tup (SqT.of upd_same) (w.ext x)⟩
theorem c_tup {es : List Expr} {a : Ma} {x1} (p : PA X es (Ts E a)) : PE X (.Tuple es x1 pos) (T E (mTup a)) := imE (pe_tup p) fun σ H Q q => by
  obtain ⟨F, ι, N, h, L, s, d, h', ee, k⟩ := q
  obtain ⟨⟨ds, g1⟩, e1, ee⟩ := Option.bind_eq_some_iff.mp ee
  dsimp only at ee
  cases hc : (Nat.ble ds.length 100000) with
  | false => rw [hc] at ee; cases ee
  | true =>
    rw [hc] at ee
    cases ee
    refine ⟨F, ι, N, h, L, s, ds, h', e1, fun ι1 N1 H1 vs x1 r1 w1 => ⟨?_, fun p hp => ?_⟩⟩
    · rw [← w1.length]; exact sz1000 (Nat.le_of_ble_eq_true hc)
    · obtain ⟨x2, r2, w2⟩ := r1.tup hp w1
      exact k _ _ _ _ (x1.trans x2) r2 w2

/-! ### operations by values -/
def BinS (E : En) (r : R2) (f : D → D → Hv → Option (D × Hv)) : Prop := ∀ F ι N H h x y d1 d2 d h' Q, Rel E F ι N H h → RV E ι N H d1 x → RV E ι N H d2 y → f d1 d2 h = some (d, h') →
  (∀ ι' N' H' v, Ext E ι N H ι' N' H' → Rel E F ι' N' H' h' → RV E ι' N' H' d v → Q v H') → r x y H Q
def mBin (f : D → D → Hv → Option (D × Hv)) (ma mb : Me) : Me := fun L h => (ma L h).bind fun p => (mb L p.2).bind fun q => f p.1 q.1 q.2
theorem op2 {r : R2} {f : D → D → Hv → Option (D × Hv)} {ma mb : Me} (hf : BinS E r f) {σ : L2.St} {H : Hp} {Q : VK} (q : T E (mBin f ma mb) σ H Q) : tOp r (T E ma) (T E mb) σ H Q := by
  obtain ⟨F, ι, N, h, L, s, d, h', ee, k⟩ := q
  obtain ⟨⟨d1, g1⟩, e1, ee⟩ := Option.bind_eq_some_iff.mp ee
  obtain ⟨⟨d2, g2⟩, e2, ee⟩ := Option.bind_eq_some_iff.mp ee
  refine ⟨F, ι, N, h, L, s, d1, g1, e1, fun ι1 N1 H1 v1 x1 r1 w1 => ?_⟩
  refine ⟨F, ι1, N1, g1, L, s.to x1 r1, d2, g2, e2, fun ι2 N2 H2 v2 x2 r2 w2 => ?_⟩
  exact hf F ι2 N2 H2 g2 v1 v2 d1 d2 d h' Q r2 (w1.ext x2) w2 ee fun ι3 N3 H3 v x3 r3 w3 => k _ _ _ _ (x1.trans (x2.trans x3)) r3 w3
theorem c_bin {op : Operator} {r : R2} {f : D → D → Hv → Option (D × Hv)} {ma mb : Me} (ho : OpR X (binaryOp op) r) (hf : BinS E r f) (pa : PE X a (T E ma)) (pb : PE X b (T E mb)) : PE X (.BinOp a op b pos) (T E (mBin f ma mb)) :=
  imE (pe_op ho pa pb) fun _ _ _ q => op2 hf q
theorem c_cmp {op : CmpOp} {r : R2} {f : D → D → Hv → Option (D × Hv)} {ma mb : Me} (ho : OpR X (compareOp op) r) (hf : BinS E r f) (pa : PE X a (T E ma)) (pb : PE X b (T E mb)) (hm : behindInMarks op b = false) : PE X (.Compare a [op] [b] pos) (T E (mBin f ma mb)) :=
  imE (pe_cmpR ho pa pb hm) fun _ _ _ q => op2 hf q
theorem c_ix {r : R2} {f : D → D → Hv → Option (D × Hv)} {ma mb : Me} (hr : IxR X r) (hf : BinS E r f) (pa : PE X a (T E ma)) (pb : PE X b (T E mb)) (hs : PlainIx b) : PE X (.Subscript a b pos) (T E (mBin f ma mb)) :=
  imE (pe_ix hr pa pb hs) fun _ _ _ q => op2 hf q
theorem RV.int_of {ι : Nat → Addr} {N : Nat} {H : Hp} {i : Int} {v : V} (r : RV E ι N H (.int i) v) : v = .int i := by cases r; rfl
theorem RV.bl_of {ι : Nat → Addr} {N : Nat} {H : Hp} {i : Bool} {v : V} (r : RV E ι N H (.bl i) v) : v = .bl i := by cases r; rfl
theorem RV.ref_of {ι : Nat → Addr} {N : Nat} {H : Hp} {n : Nat} {v : V} (r : RV E ι N H (.ref n) v) : v = .ref (ι n) ∧ n < N := by cases r; exact ⟨rfl, by assumption⟩
theorem RV.str_of {ι : Nat → Addr} {N : Nat} {H : Hp} {x : List Nat} {v : V} (r : RV E ι N H (.str x) v) : v = .str (mkS x) := by cases r; rfl

/-- +: ints, lists -/
def fAdd (d1 d2 : D) (h : Hv) : Option (D × Hv) := match d1, d2 with
  | .int i, .int j => some (.int (i + j), h)
  | .ref m, .ref n => (match h.get m, h.get n with
    | some (.lst xs), some (.lst ys) => bif Nat.ble (xs.length + ys.length) 100000 && h.ok then some (.ref h.n, h.new (.lst (xs ++ ys))) else none
    | _, _ => none)
  | _, _ => none
def rAddX : R2 := fun x y H Q => rI0 (fun i j => .int (i + j)) x y H Q ∨ rCat x y H Q
theorem op_addX : OpR X (binaryOp .Add) rAddX := OpR.or op_add op_cat
theorem add_s : BinS E rAddX fAdd := by
  intro F ι N H h x y d1 d2 d h' Q R w1 w2 e k
  unfold fAdd at e
  split at e
  · cases e
    cases w1.int_of
    cases w2.int_of
    exact .inl ⟨_, _, rfl, rfl, k _ _ _ _ Ext.refl R (.int _)⟩
  · rename_i m n
    split at e
    · rename_i xs ys hx hy
      cases hc : (Nat.ble (xs.length + ys.length) 100000 && h.ok) with
      | false => rw [hc] at e; cases e
      | true =>
        rw [hc] at e
        cases e
        obtain ⟨c1, c2⟩ := Bool.and_eq_true_iff.mp hc
        obtain ⟨rfl, hm⟩ := w1.ref_of
        obtain ⟨rfl, hn⟩ := w2.ref_of
        obtain ⟨vs, hv, wv⟩ := R.ob m _ hm hx
        obtain ⟨us, hu, wu⟩ := R.ob n _ hn hy
        refine .inr ⟨_, _, vs, us, rfl, rfl, hv, hu, ?_, fun p hp => ?_⟩
        · rw [← wv.length, ← wu.length]; exact sz1000 (Nat.le_of_ble_eq_true c1)
        · obtain ⟨x2, r2, w⟩ := R.lst hp c2 (wv.app wu)
          exact k _ _ _ _ x2 r2 w
    · cases e
  · cases e
/-- o[i] of a list -/
def fIx (d1 d2 : D) (h : Hv) : Option (D × Hv) := match d1, d2 with
  | .ref m, .int (.ofNat i) => (match h.get m with
    | some (.lst xs) => (match xs[i]? with
      | some d => some (d, h)
      | none => none)
    | _ => none)
  | _, _ => none
theorem ix_s {K : PySem.W.Frag} (hK : E.K = K) : BinS E (rIxL K) fIx := by
  subst hK
  intro F ι N H h x y d1 d2 d h' Q R w1 w2 e k
  unfold fIx at e
  split at e
  · rename_i m i
    split at e
    · rename_i xs hx
      split at e
      · rename_i d' hd
        cases e
        obtain ⟨rfl, hm⟩ := w1.ref_of
        cases w2.int_of
        obtain ⟨vs, hv, wv⟩ := R.ob m _ hm hx
        obtain ⟨v, hv2, wd⟩ := wv.get hd
        exact ⟨_, vs, _, v, rfl, rfl, SqL.of hv, atI_nat hv2, k _ _ _ _ Ext.refl R wd⟩
      · cases e
    · cases e
  · cases e
end
end Ev
/-! Ev3 -/
set_option maxHeartbeats 2000000
/-! Tests, statements, targets, loops. -/
namespace Ev
open PySem PySem.Spec PyProof.Rows L2

section
variable {X : Cx} {E : En} {F : Hp} {ι ι' : Nat → Addr} {N N' : Nat} {H H' : Hp} {h h' h1 h2 : Hv} {L : Lo} {σ : L2.St} {e a b : Expr} {pos : Pos}
/-! ### tests -/
def mTst (m : Me) : Mt := fun L h => (m L h).bind fun p => match p.1 with
  | .bl k => some (k, p.2)
  | _ => none
theorem tst {m : Me} {σ : L2.St} {H : Hp} {Q : Bool → Hp → Prop} (q : Tt E (mTst m) σ H Q) : tB (T E m) σ H Q := by
  obtain ⟨F, ι, N, h, L, s, d, h', ee, k⟩ := q
  obtain ⟨⟨d1, g1⟩, e1, ee⟩ := Option.bind_eq_some_iff.mp ee
  dsimp only at ee
  split at ee
  · cases ee
    refine ⟨F, ι, N, h, L, s, _, _, e1, fun ι1 N1 H1 v1 x1 r1 w1 => ?_⟩
    exact ⟨_, w1.bl_of, k _ _ _ x1 r1⟩
  · cases ee
theorem c_tv {m : Me} (p : PE X e (T E m)) (he : ∀ whole, isTrue e X.env whole = (do let v ← whole; standAt e.pos; holding [v] (truthy v)) := by intro _; rfl) : PT X e (Tt E (mTst m)) := imT (pt_val p he) fun _ _ _ q => tst q
theorem c_tcmp {op : CmpOp} {r : R2} {f : D → D → Hv → Option (D × Hv)} {ma mb : Me} (ho : OpR X (compareOp op) r) (hf : BinS E r f) (pa : PE X a (T E ma)) (pb : PE X b (T E mb)) (hm : behindInMarks op b = false) : PT X (.Compare a [op] [b] pos) (Tt E (mTst (mBin f ma mb))) :=
  imT (pt_cmpR ho pa pb hm) fun σ H Q q => by
    obtain ⟨F, ι, N, h, L, s, d, h', ee, k⟩ := q
    obtain ⟨⟨d1, g1⟩, e1, ee⟩ := Option.bind_eq_some_iff.mp ee
    dsimp only at ee
    split at ee
    · cases ee
      exact op2 hf ⟨F, ι, N, h, L, s, _, _, e1, fun ι1 N1 H1 v1 x1 r1 w1 => ⟨_, w1.bl_of, k _ _ _ x1 r1⟩⟩
    · cases ee
def tNotM (t : Mt) : Mt := fun L h => (t L h).bind fun p => some (!p.1, p.2)
theorem c_not {t : Mt} (p : PT X a (Tt E t)) : PT X (.UnaryOp .Not a pos) (Tt E (tNotM t)) := imT (pt_not p) fun σ H Q q => by
  obtain ⟨F, ι, N, h, L, s, d, h', ee, k⟩ := q
  obtain ⟨⟨d1, g1⟩, e1, ee⟩ := Option.bind_eq_some_iff.mp ee
  cases ee
  exact ⟨F, ι, N, h, L, s, _, _, e1, fun ι1 N1 H1 x1 r1 => k _ _ _ x1 r1⟩
def tOrM (t u : Mt) : Mt := fun L h => (t L h).bind fun p => match p.1 with
  | true => some (true, p.2)
  | false => u L p.2
def tAndM (t u : Mt) : Mt := fun L h => (t L h).bind fun p => match p.1 with
  | true => u L p.2
  | false => some (false, p.2)
variable {rest : List Expr} {t u : Mt}
theorem c_or1 (p : PT X a (Tt E t)) : PW X (.BoolOp .Or [a] pos) (Tt E t) := pw_or1 p
theorem c_and1 (p : PT X a (Tt E t)) : PW X (.BoolOp .And [a] pos) (Tt E t) := pw_and1 p
theorem c_or (p : PT X a (Tt E t)) (q : PW X (.BoolOp .Or (b :: rest) pos) (Tt E u)) : PW X (.BoolOp .Or (a :: b :: rest) pos) (Tt E (tOrM t u)) := imW (pw_or p q) fun σ H Q q => by
  obtain ⟨F, ι, N, h, L, s, d, h', ee, k⟩ := q
  obtain ⟨⟨d1, g1⟩, e1, ee⟩ := Option.bind_eq_some_iff.mp ee
  refine ⟨F, ι, N, h, L, s, _, _, e1, fun ι1 N1 H1 x1 r1 => ?_⟩
  cases d1 with
  | true =>
    cases ee
    exact k _ _ _ x1 r1
  | false => exact ⟨F, ι1, N1, g1, L, s.to x1 r1, d, h', ee, fun ι2 N2 H2 x2 r2 => k _ _ _ (x1.trans x2) r2⟩
theorem c_and (p : PT X a (Tt E t)) (q : PW X (.BoolOp .And (b :: rest) pos) (Tt E u)) : PW X (.BoolOp .And (a :: b :: rest) pos) (Tt E (tAndM t u)) := imW (pw_and p q) fun σ H Q q => by
  obtain ⟨F, ι, N, h, L, s, d, h', ee, k⟩ := q
  obtain ⟨⟨d1, g1⟩, e1, ee⟩ := Option.bind_eq_some_iff.mp ee
  refine ⟨F, ι, N, h, L, s, _, _, e1, fun ι1 N1 H1 x1 r1 => ?_⟩
  cases d1 with
  | false =>
    cases ee
    exact k _ _ _ x1 r1
  | true => exact ⟨F, ι1, N1, g1, L, s.to x1 r1, d, h', ee, fun ι2 N2 H2 x2 r2 => k _ _ _ (x1.trans x2) r2⟩

/-! ### statements -/
variable {st : Stmt} {sts : List Stmt} {m : Me} {ms mr : Ms}
theorem Out.ext {Dn : Ends} {r : SR} (x : Ext E ι N H ι' N' H') (o : Out E F ι N H Dn r) : Out E F ι' N' H' Dn r := by
  cases r with
  | nx L h => exact fun ι2 N2 H2 σ2 x2 s2 => o _ _ _ _ (x.trans x2) s2
  | rt d h => exact fun ι2 N2 H2 v x2 r2 w2 => o _ _ _ _ (x.trans x2) r2 w2
  | bk L h => exact fun ι2 N2 H2 σ2 x2 s2 => o _ _ _ _ (x.trans x2) s2
  | ct L h => exact fun ι2 N2 H2 σ2 x2 s2 => o _ _ _ _ (x.trans x2) s2
def sNil : Ms := fun L h => some (.nx L h)
def sSeq (s r : Ms) : Ms := fun L h => (s L h).bind fun o => match o with
  | .nx L h => r L h
  | o => some o
theorem c_snil : PSs X [] (TSs E sNil) := imSs pss_nil fun Dn σ H q => by
  obtain ⟨F, ι, N, h, L, s, r, ee, o⟩ := q
  cases ee
  exact o _ _ _ _ Ext.refl s
theorem c_seq (p : PS X st (TSs E ms)) (q : PSs X sts (TSs E mr)) : PSs X (st :: sts) (TSs E (sSeq ms mr)) := imSs (pss_cons p q) fun Dn σ H q => by
  obtain ⟨F, ι, N, h, L, s, r, ee, o⟩ := q
  obtain ⟨o1, e1, ee⟩ := Option.bind_eq_some_iff.mp ee
  refine ⟨F, ι, N, h, L, s, o1, e1, ?_⟩
  cases o1 with
  | nx L1 g1 => exact fun ι1 N1 H1 σ1 x1 s1 => ⟨F, ι1, N1, g1, L1, s1, r, ee, o.ext x1⟩
  | rt d g1 => cases ee; exact o
  | bk L1 g1 => cases ee; exact o
  | ct L1 g1 => cases ee; exact o
theorem c_one (p : PS X st (TSs E ms)) : PSs X [st] (TSs E ms) := pss_one p
def sIf (t : Mt) (a b : Ms) : Ms := fun L h => (t L h).bind fun p => match p.1 with
  | true => a L p.2
  | false => b L p.2
theorem c_if {c : Expr} {as bs : List Stmt} (pc : PT X c (Tt E t)) (pa : PSs X as (TSs E ms)) (pb : PSs X bs (TSs E mr)) : PS X (.If c as bs pos) (TSs E (sIf t ms mr)) := imS (ps_if pc pa pb) fun Dn σ H q => by
  obtain ⟨F, ι, N, h, L, s, r, ee, o⟩ := q
  obtain ⟨⟨d1, g1⟩, e1, ee⟩ := Option.bind_eq_some_iff.mp ee
  refine ⟨F, ι, N, h, L, s, _, _, e1, fun ι1 N1 H1 x1 r1 => ?_⟩
  cases d1 with
  | true => exact ⟨F, ι1, N1, g1, L, s.to x1 r1, r, ee, o.ext x1⟩
  | false => exact ⟨F, ι1, N1, g1, L, s.to x1 r1, r, ee, o.ext x1⟩
def sRet (m : Me) : Ms := fun L h => (m L h).bind fun p => some (.rt p.1 p.2)
theorem c_ret (p : PE X e (T E m)) : PS X (.Return (some e) pos) (TSs E (sRet m)) := imS (ps_ret p) fun Dn σ H q => by
  obtain ⟨F, ι, N, h, L, s, r, ee, o⟩ := q
  obtain ⟨⟨d1, g1⟩, e1, ee⟩ := Option.bind_eq_some_iff.mp ee
  cases ee
  exact ⟨F, ι, N, h, L, s, _, _, e1, o⟩
def sExp (m : Me) : Ms := fun L h => (m L h).bind fun p => some (.nx L p.2)
theorem c_exp (p : PE X e (T E m)) (hs : swapsWith e none pos.line X.env = pure false := by rfl) : PS X (.Expr e pos) (TSs E (sExp m)) := imS (ps_expr p hs) fun Dn σ H q => by
  obtain ⟨F, ι, N, h, L, s, r, ee, o⟩ := q
  obtain ⟨⟨d1, g1⟩, e1, ee⟩ := Option.bind_eq_some_iff.mp ee
  cases ee
  exact ⟨F, ι, N, h, L, s, _, _, e1, fun ι1 N1 H1 v x1 r1 w1 => o _ _ _ _ x1 (s.to x1 r1)⟩

/-! ### targets -/
abbrev Mg := D → Lo → Hv → Option (Lo × Hv)
abbrev Mgs := List D → Lo → Hv → Option (Lo × Hv)
def Tg (E : En) (g : Mg) : TG := fun v σ H Q => ∃ F ι N h L d, Sim E F ι N H h L σ ∧ RV E ι N H d v ∧ ∃ L' h', g d L h = some (L', h') ∧
  ∀ ι' N' H' σ', Ext E ι N H ι' N' H' → Sim E F ι' N' H' h' L' σ' → Q σ' H'
def Tgs (E : En) (g : Mgs) : TGs := fun vs σ H Q => ∃ F ι N h L ds, Sim E F ι N H h L σ ∧ RVs E ι N H ds vs ∧ ∃ L' h', g ds L h = some (L', h') ∧
  ∀ ι' N' H' σ', Ext E ι N H ι' N' H' → Sim E F ι' N' H' h' L' σ' → Q σ' H'
theorem imG {tg : Expr} {t t' : TG} (p : PG X tg t) (i : ∀ v σ H Q, t' v σ H Q → t v σ H Q) : PG X tg t' := ⟨fun pins s σ H v u Q I r hw => p.run pins s σ H v u Q I r (i _ _ _ _ hw)⟩
theorem imGs {tg : List Expr} {t t' : TGs} (p : PGs X tg t) (i : ∀ v σ H Q, t' v σ H Q → t v σ H Q) : PGs X tg t' := ⟨fun pins s σ H v u Q I r hw => p.run pins s σ H v u Q I r (i _ _ _ _ hw)⟩
theorem Sim.set {i : Nat} {d : D} {v : V} (s : Sim E F ι N H h L σ) (w : RV E ι N H d v) : Sim E F ι N H h (L.set i (some d)) (σ.set i (some v)) := by
  refine ⟨s.rel, by simpa using s.len, fun j d' e => ?_⟩
  by_cases hj : i = j
  · subst hj
    rw [List.getElem?_set] at e
    simp only [if_true] at e
    split at e
    · rename_i hi
      cases e
      have hs := Nat.lt_of_lt_of_le hi s.len
      exact ⟨v, by rw [List.getElem?_set]; simp [hs], w⟩
    · cases e
  · rw [List.getElem?_set_ne hj] at e
    rw [List.getElem?_set_ne hj]
    exact s.lc j d' e
def gN (i : Nat) : Mg := fun d L h => some (L.set i (some d), h)
theorem c_gname (i : Nat) {x : Str} (p : PG X (.Name x pos) (gName i)) : PG X (.Name x pos) (Tg E (gN i)) := imG p fun v σ H Q q => by
  obtain ⟨F, ι, N, h, L, d, s, w, L', h', ee, k⟩ := q
  cases ee
  exact k _ _ _ _ Ext.refl (s.set w)
def gsNil : Mgs := fun ds L h => match ds with
  | [] => some (L, h)
  | _ => none
def gsCons (g : Mg) (r : Mgs) : Mgs := fun ds L h => match ds with
  | d :: ds => (g d L h).bind fun p => r ds p.1 p.2
  | [] => none
theorem c_gnil : PGs X [] (Tgs E gsNil) := imGs pgs_nil fun v σ H Q q => by
  obtain ⟨F, ι, N, h, L, ds, s, w, L', h', ee, k⟩ := q
  cases w with
  | nil =>
    cases ee
    exact ⟨rfl, k _ _ _ _ Ext.refl s⟩
  | cons _ _ => cases ee
theorem c_gcons {es : List Expr} {g : Mg} {r : Mgs} (p : PG X e (Tg E g)) (q : PGs X es (Tgs E r)) (hs : (assignEach (e :: es) X.env).map (·.2) = assign e X.env :: (assignEach es X.env).map (·.2) := by rfl) : PGs X (e :: es) (Tgs E (gsCons g r)) := imGs (pgs_cons p q hs) fun v σ H Q q => by
  obtain ⟨F, ι, N, h, L, ds, s, w, L', h', ee, k⟩ := q
  cases w with
  | nil => cases ee
  | cons w1 w2 =>
    obtain ⟨⟨L1, g1⟩, e1, ee⟩ := Option.bind_eq_some_iff.mp ee
    refine ⟨_, _, rfl, F, ι, N, h, L, _, s, w1, L1, g1, e1, fun ι1 N1 H1 σ1 x1 s1 => ?_⟩
    exact ⟨F, ι1, N1, g1, L1, _, s1, w2.ext x1, L', h', ee, fun ι2 N2 H2 σ2 x2 s2 => k _ _ _ _ (x1.trans x2) s2⟩
def gTu (n : Nat) (r : Mgs) : Mg := fun d L h => match d with
  | .tup ds => bif Nat.beq ds.length n then r ds L h else none
  | _ => none
theorem c_gtup {es : List Expr} {k : Nat} {n : Nat} {r : Mgs} (hK : E.K = X.K) (hc : X.calm = true) (p : PGs X es (Tgs E r)) (hn : (assignEach es X.env).length = n := by rfl) (hst : (assignEach es X.env).findIdx? (·.1) = none := by rfl) :
    PG X (.Tuple es k pos) (Tg E (gTu n r)) := imG (pg_tup hc p hn hst) fun v σ H Q q => by
  obtain ⟨F, ι, N, h, L, d, s, w, L', h', ee, kk⟩ := q
  unfold gTu at ee
  split at ee
  · rename_i ds
    cases hb : Nat.beq ds.length n with
    | false => rw [hb] at ee; cases ee
    | true =>
      rw [hb] at ee
      cases w with
      | tup hs ws =>
        rw [hK] at hs
        refine ⟨_, _, rfl, hs, ?_, F, ι, N, h, L, ds, s, ws, L', h', ee, kk⟩
        rw [← ws.length]
        exact Nat.eq_of_beq_eq_true hb
  · cases ee
def sAsg (m : Me) (g : Mg) : Ms := fun L h => (m L h).bind fun p => (g p.1 L p.2).bind fun q => some (.nx q.1 q.2)
theorem asg_ok {m : Me} {g : Mg} {Dn : Ends} (q : TSs E (sAsg m g) Dn σ H) : tAsg (T E m) (Tg E g) Dn σ H := by
  obtain ⟨F, ι, N, h, L, s, r, ee, o⟩ := q
  obtain ⟨⟨d1, g1⟩, e1, ee⟩ := Option.bind_eq_some_iff.mp ee
  obtain ⟨⟨L2, g2⟩, e2, ee⟩ := Option.bind_eq_some_iff.mp ee
  cases ee
  refine ⟨F, ι, N, h, L, s, d1, g1, e1, fun ι1 N1 H1 v x1 r1 w1 => ?_⟩
  exact ⟨F, ι1, N1, g1, L, d1, s.to x1 r1, w1, L2, g2, e2, fun ι2 N2 H2 σ2 x2 s2 => o _ _ _ _ (x1.trans x2) s2⟩
theorem c_asg {tg : Expr} {g : Mg} (p : PE X e (T E m)) (q : PG X tg (Tg E g)) (hs : swapsWithSole [tg] e pos.line X.env = pure false := by rfl) (hw : swappedStores [tg] e X.env = pure none := by rfl)
    (h1 : (assignEach [tg] X.env).map (·.2) = [assign tg X.env] := by rfl) : PS X (.Assign [tg] e pos) (TSs E (sAsg m g)) := imS (ps_asg p q hs hw h1) fun Dn σ H q => asg_ok q
/-- name = e -/
theorem c_set (i : Nat) {x : Str} {pos' : Pos} (p : PS X (.Assign [.Name x pos'] e pos) (tAsg (T E m) (gName i))) : PS X (.Assign [.Name x pos'] e pos) (TSs E (sAsg m (gN i))) := imS p fun Dn σ H q => by
  obtain ⟨F, ι, N, h, L, s, r, ee, o⟩ := q
  obtain ⟨⟨d1, g1⟩, e1, ee⟩ := Option.bind_eq_some_iff.mp ee
  cases ee
  refine ⟨F, ι, N, h, L, s, d1, g1, e1, fun ι1 N1 H1 v x1 r1 w1 => ?_⟩
  exact o _ _ _ _ x1 ((s.to x1 r1).set w1)
/-- a, b = x, y: names -/
def sPar2 (i j : Nat) (a : Ma) : Ms := fun L h => (a L h).bind fun p => match p.1 with
  | [d1, d2] => some (.nx ((L.set i (some d1)).set j (some d2)) p.2)
  | _ => none
theorem c_par2 (i j : Nat) {ma : Ma} (p : PS X st (tPar i j (Ts E ma))) : PS X st (TSs E (sPar2 i j ma)) := imS p fun Dn σ H q => by
  obtain ⟨F, ι, N, h, L, s, r, ee, o⟩ := q
  obtain ⟨⟨ds, g1⟩, e1, ee⟩ := Option.bind_eq_some_iff.mp ee
  dsimp only at ee
  split at ee
  · cases ee
    refine ⟨F, ι, N, h, L, s, _, _, e1, fun ι1 N1 H1 vs x1 r1 w1 => ?_⟩
    cases w1 with
    | cons w1 w2 =>
      cases w2 with
      | cons w2 w3 =>
        cases w3
        exact ⟨_, _, rfl, o _ _ _ _ x1 (((s.to x1 r1).set w1).set w2)⟩
  · cases ee

/-! ### for i, x in enumerate(list) -/
def loopE (g : Mg) (body : Ms) (n : Nat) : Nat → Nat → Lo → Hv → Option SR
  | 0, _, _, _ => none
  | f + 1, i, L, h => match h.get n with
    | some (.lst ys) => (match ys[i]? with
      | none => some (.nx L h)
      | some x => (g (.tup [.int i, x]) L h).bind fun p => match body p.1 p.2 with
        | some (.nx L' h') => loopE g body n f (i + 1) L' h'
        | some (.ct L' h') => loopE g body n f (i + 1) L' h'
        | some (.bk L' h') => some (.nx L' h')
        | some (.rt d h') => some (.rt d h')
        | none => none)
    | _ => none
def sForE (fuel : Nat) (a : Ma) (g : Mg) (body : Ms) : Ms := fun L h => (a L h).bind fun p => match p.1 with
  | [.ref n] => loopE g body n fuel 0 L p.2
  | _ => none
theorem c_forE (fuel : Nat) {tg iter : Expr} {body : List Stmt} {a : Ma} {g : Mg} (hK : E.K = X.K) (p : PS X (.For tg iter body [] pos) (tFor (iEnum X.K (Ts E a)) (Tg E g) (TSs E mr))) : PS X (.For tg iter body [] pos) (TSs E (sForE fuel a g mr)) := imS p fun Dn σ H q => by
  obtain ⟨F, ι, N, h, L, s, r, ee, o⟩ := q
  obtain ⟨⟨ds, g1⟩, e1, ee⟩ := Option.bind_eq_some_iff.mp ee
  dsimp only at ee
  have hn0 : ∃ n, ds = [.ref n] ∧ loopE g mr n fuel 0 L g1 = some r := by
    split at ee
    · exact ⟨_, rfl, ee⟩
    · cases ee
  clear ee
  obtain ⟨n, rfl, ee⟩ := hn0
  · skip
    refine ⟨F, ι, N, h, L, s, _, _, e1, fun ι1 N1 H1 vs x1 r1 w1 => ?_⟩
    cases w1 with
    | cons w1 w2 =>
      cases w2
      obtain ⟨rfl, hn⟩ := w1.ref_of
      have hf : ∃ f, fuel = f + 1 := by
        cases fuel with
        | zero => cases ee
        | succ f => exact ⟨f, rfl⟩
      have hl : ∃ ys, g1.get n = some (.lst ys) := by
        obtain ⟨f, rfl⟩ := hf
        unfold loopE at ee
        split at ee
        · rename_i ys hy; exact ⟨ys, hy⟩
        · cases ee
      obtain ⟨ys, hy⟩ := hl
      obtain ⟨us, hu, wu⟩ := r1.ob n _ hn hy
      refine ⟨_, us, rfl, SqL.of hu, fun i m σ2 H2 => ∃ ι2 N2 h2 L2, Ext E ι1 N1 H1 ι2 N2 H2 ∧ Sim E F ι2 N2 H2 h2 L2 σ2 ∧ ∃ r2, loopE g mr n m i L2 h2 = some r2 ∧ Out E F ι2 N2 H2 Dn r2, ⟨fuel, ι1, N1, g1, L, Ext.refl, s.to x1 r1, r, ee, o.ext x1⟩, ?_⟩
      rintro i m σ2 H2 ⟨ι2, N2, h2, L2, x2, s2, r2, e2, o2⟩
      cases m with
      | zero => cases e2
      | succ m =>
        have hn2 : n < N2 := Nat.lt_of_lt_of_le hn x2.le
        have ea : ι2 n = ι1 n := x2.ag n hn
        unfold loopE at e2
        split at e2
        · rename_i zs hz
          obtain ⟨vs, hv, wv⟩ := s2.rel.ob n _ hn2 hz
          rw [ea] at hv
          split at e2
          · rename_i hi
            cases e2
            refine .inl ⟨⟨vs, SqL.of hv, ?_⟩, o2 _ _ _ _ Ext.refl s2⟩
            rw [← wv.length]
            exact List.getElem?_eq_none_iff.mp hi
          · rename_i x hi
            obtain ⟨v, hvi, wx⟩ := wv.get hi
            refine .inr ⟨⟨vs, v, SqL.of hv, hvi⟩, fun σ' H' => ∃ ι2 N2 h2 L2, Ext E ι1 N1 H1 ι2 N2 H' ∧ Sim E F ι2 N2 H' h2 L2 σ' ∧ ∃ r2, loopE g mr n m (i + 1) L2 h2 = some r2 ∧ Out E F ι2 N2 H' Dn r2, fun σ' H' z => ⟨m, Nat.lt_succ_self m, z⟩, ?_⟩
            rintro y H3 ⟨Tp, x', rfl, hT, rfl, hx'⟩
            have exx : x' = v := by
              have q := hx' vs (SqL.of hv)
              rw [hvi] at q
              exact (Option.some.inj q).symm
            subst exx
            obtain ⟨⟨L3, g3⟩, e3, e2⟩ := Option.bind_eq_some_iff.mp e2
            obtain ⟨x3, r3, w3⟩ := s2.rel.tup hT (.cons (.int (i : Int)) (.cons wx .nil))
            refine ⟨F, ι2, N2, h2, L2, _, s2.to x3 r3, w3, L3, g3, e3, fun ι4 N4 H4 σ4 x4 s4 => ?_⟩
            dsimp only at e2
            split at e2
            · rename_i L5 h5 e5
              exact ⟨F, ι4, N4, g3, L3, s4, _, e5, fun ι5 N5 H5 σ5 x5 s5 => ⟨ι5, N5, h5, L5, x2.trans (x3.trans (x4.trans x5)), s5, r2, e2, o2.ext (x3.trans (x4.trans x5))⟩⟩
            · rename_i L5 h5 e5
              exact ⟨F, ι4, N4, g3, L3, s4, _, e5, fun ι5 N5 H5 σ5 x5 s5 => ⟨ι5, N5, h5, L5, x2.trans (x3.trans (x4.trans x5)), s5, r2, e2, o2.ext (x3.trans (x4.trans x5))⟩⟩
            · rename_i L5 h5 e5
              cases e2
              exact ⟨F, ι4, N4, g3, L3, s4, _, e5, fun ι5 N5 H5 σ5 x5 s5 => o2 _ _ _ _ (x3.trans (x4.trans x5)) s5⟩
            · rename_i d5 h5 e5
              cases e2
              exact ⟨F, ι4, N4, g3, L3, s4, _, e5, fun ι5 N5 H5 v5 x5 r5 w5 => o2 _ _ _ _ (x3.trans (x4.trans x5)) r5 w5⟩
            · cases e2
        · cases e2
end
end Ev
/-! Ev4 -/
set_option maxHeartbeats 2000000
/-! Defs where it is known that no repr runs around them. -/
namespace Ev
open PySem PySem.Spec PyProof.Rows L2

structure FnG (P : Program) (w : World) (K : PySem.W.Frag) (mg : Str → Option Value) (base : Heap) (k : Nat) (f : Addr) (fd : FuncData) (ps : List Str) (sp : Sp) : Prop where
  len : ∀ vs H Q E, sp vs H Q E → vs.length = ps.length
  go : ∀ (A : Around) (outer : List Env) (s : Shared) (H : Hp) (args : Args) (us : List Value) (vs : List V) (Q : VK) (E : XK), A.guards = some [] → Room k A →
    Env0 P w K mg base A outer s H → BindsTo s fd args (ps.zip us) → Vals vs us → sp vs H Q E →
    codeAny (model P w) A (.call (.ref f) args) (CR CX0 outer P w H s Q E) s
theorem FnG.of {P : Program} {w : World} {K : PySem.W.Frag} {mg : Str → Option Value} {base : Heap} {k : Nat} {f : Addr} {fd : FuncData} {ps : List Str} {sp : Sp} (F : FnOk P w K mg base CX0 k f fd ps sp) : FnG P w K mg base k f fd ps sp :=
  ⟨F.len, fun A outer s H args us vs Q E _ hr he hb hv hs => F.run A outer s H args us vs Q E hr he hb hv hs⟩
theorem FnG.up {P : Program} {w : World} {K : PySem.W.Frag} {mg : Str → Option Value} {base : Heap} {j k : Nat} {f : Addr} {fd : FuncData} {ps : List Str} {sp : Sp} (F : FnG P w K mg base j f fd ps sp) (h : j ≤ k) : FnG P w K mg base k f fd ps sp :=
  ⟨F.len, fun A outer s H args us vs Q E hg hr he hb hv hs => F.go A outer s H args us vs Q E hg (hr.mono h) he hb hv hs⟩

section
variable {X : Cx} {k : Nat} {f C : Addr} {fd : FuncData} {ps : List Str} {sp : Sp} {x : Str} {p pos : Pos} {e : Expr} {es : List Expr} {t : TA}
theorem goG {pins : List (Addr × Obj)} {σ : L2.St} {H : Hp} {s : Shared} {Q : VK} {us : List Value} {vs : List V} (F : FnG X.prog X.w X.K X.mg X.base k f fd ps sp) (hg : X.A.guards = some []) (hr : Room k X.A) (hb : Binds X.K fd ps [])
    (I : Inv X pins σ H s) (r : Vals vs us) (h : sp vs H Q E0) : wpAny (model X.prog X.w) X.A (call (.ref f) us) (EP X pins σ Q) X.xe s := by
  have hl : us.length = ps.length := by rw [← r.length]; exact F.len _ _ _ _ h
  have hb' : BindsTo s fd ⟨us, []⟩ (ps.zip us) := by
    have q := hb s us I.kIn (by rw [List.append_nil]; exact hl)
    rw [List.append_nil] at q
    exact q
  refine wpAny_call (codeAny_mono (F.go X.A X.stack s H ⟨us, []⟩ us vs Q E0 hg hr I.env0 hb' r h) fun o s' z => ?_)
  match o, z with
  | .error _, z => exact z.elim
  | .ok (.ret u), z => exact I.after z
theorem pe_callG (F : FnG X.prog X.w X.K X.mg X.base k f fd ps sp) (hgd : X.A.guards = some []) (hr : Room k X.A) (hg : Gl X x) (hm : X.mg x = some (.ref f)) (hk : PySem.W.keepIn X.K (.ref f) = true) (hb : Binds X.K fd ps []) (ha : PA X (e :: es) t)
    (hdb : (x == ("__debug__" : Str)) = false := by decide) (he : starEach (e :: es) X.env = (false, eval e X.env) :: starEach es X.env := by rfl) (hpl : (backTo pos (starEach es X.env)).any (·.1) = false := by rfl) :
    PE X (.Call (.Name x p) (e :: es) [] pos) (tCall sp [] E0 t) := ⟨fun pins s σ H Q I h => by
  refine wpAny_Call_Name_kw (ld_glob I hg hm ?_ hdb)
  refine PySem.W.callWith_K (h₀ := X.base) I.ok.mod.kin hk ?_ he hpl
  refine thn (ha.run pos pins s σ H _ I h) ?_
  rintro us s1 ⟨vs, H1, I1, r, q⟩
  refine ⟨I1.kIn, ?_⟩
  rw [List.append_nil] at q
  exact goG F hgd hr hb I1 r q⟩
end

theorem deeper_guards {A : Around} {env : Env} : (A.deeper env).guards = A.guards := by
  first | rfl | simp [Around.deeper]

theorem fnG_of {P : Program} {w : World} {K : PySem.W.Frag} {mg : Str → Option Value} {base : Heap} {k : Nat} {f : Addr} {name qual : Str} {params : Arguments} {body : List Stmt} {scope : Scope} {dV kV doc pm cdv ct oc : Value} {an od : Option Addr}
    {osl : Array (Option Value)} {N ps : List Str} {sp : Sp} (lk : K.lookup f = some ⟨oc, od, .func (PySem.W.fnOf name qual params body scope dV kV doc pm an cdv ct), osl⟩) (hcd : PySem.W.codeIn K cdv qual = true) (S : FnScope N ps scope)
    (len : ∀ vs H Q E, sp vs H Q E → vs.length = ps.length)
    (hbody : ∀ (A : Around) (outer : List Env) (s : Shared) (H : Hp) (vs : List V) (Q : VK) (E : XK), A.guards = some [] → Room k (A.deeper (envOfC qual scope s.heap.objs.size f cdv)) → sp vs H Q E →
      ∃ t, PSs (cxOf CX0 P w K mg base N qual scope f cdv A outer s H E) body t ∧ t { nx := fun _ H' => Q .non H', rt := Q } (start N vs) H) :
    FnG P w K mg base (k + 1) f (PySem.W.fnOf name qual params body scope dV kV doc pm an cdv ct) ps sp where
  len := len
  go := fun A outer s H args us vs Q E hg hr e0 hb r hsp => by
    have keep : ∀ b o, base.get? b = some o → s.heap.get? b = some o := fun b o e => (e0.bs b o e).1
    have inK : K.In s.heap := e0.mod.kin.keeps keep
    have kinds : ∀ y ∈ ps.zip us, scope.names.lookup y.1 = some .local ∨ (scope.names.lookup y.1 = some .cell ∧ ((cellsFrom (s.heap.objs.size + 1) scope.names []).lookup y.1).isSome = true) := by
      rintro ⟨n, v⟩ hy
      exact (S.par n (List.of_mem_zip hy).1).imp id fun q => ⟨q, PySem.W.cellsFrom_some _ _ _ (.inl q)⟩
    refine codeAny_call_function hr.depth (inK _ _ lk) rfl S.co S.gen rfl (PySem.W.codeRec_of inK hcd) (hb _ _ _ _ (wpAny_newFunctionEnv_cells S.kind kinds ?_))
    rintro env rfl s1 x
    refine ⟨(e0.mod.nolimit.keeps keep).keeps x.toInCall.keep, codeAny_func ?_⟩
    obtain ⟨t, ht, hq⟩ := hbody A outer s H vs Q E hg (hr.deeper _) hsp
    have I := inv_start (CX := CX0) (qual := qual) (f := f) (cd := cdv) (E := E) S hr.hd e0 (len _ _ _ _ hsp) r x
    refine wpAny_mono (ht.run [] s1 (start N vs) H _ I hq) ?_ fun _ _ z => z
    intro fl s' hs
    match fl, hs with
    | .ret u, ⟨v, σ', H', J, rv, q⟩ => exact ⟨v, H', J.os, J.bare, J.base, J.hok, rv, q⟩
    | .next, ⟨σ', H', J, q⟩ => exact ⟨.non, H', J.os, J.bare, J.base, J.hok, rfl, q⟩
    | .brk, ⟨_, _, _, q⟩ => exact q.elim
    | .cont, ⟨_, _, _, q⟩ => exact q.elim
/-- a def that stands as it is written -/
theorem funG {P : Program} {w : World} {K : PySem.W.Frag} {mg : Str → Option Value} {base : Heap} {x qual : Str} {st : Stmt} {f : Addr} {fd : FuncData} {N ps : List Str} {k : Nat} {sp : Sp} (F : Fun K x qual st f fd) (S : FnScope N ps (defScope st)) (len : ∀ vs H Q E, sp vs H Q E → vs.length = ps.length)
    (hbody : ∀ (cdv : Value) (A : Around) (outer : List Env) (s : Shared) (H : Hp) (vs : List V) (Q : VK) (E : XK), A.guards = some [] → Room k (A.deeper (envOfC qual (defScope st) s.heap.objs.size f cdv)) → sp vs H Q E →
      ∃ t, PSs (cxOf CX0 P w K mg base N qual (defScope st) f cdv A outer s H E).nox (defBody st) t ∧ t { nx := fun _ H' => Q .non H', rt := Q } (start N vs) H) : FnG P w K mg base (k + 1) f fd ps sp := by
  obtain ⟨oc, od, kV, doc, pm, an, cdv, ct, osl, rfl, lk, hcd⟩ := F.ex
  exact fnG_of lk hcd S len fun A outer s H vs Q E hg hr hsp => let ⟨t, h, q⟩ := hbody cdv A outer s H vs Q E hg hr hsp; ⟨t, h.nox, q⟩
end Ev
/-! Ev5 -/
set_option maxHeartbeats 2000000
/-! Errors as values: made, their fields, isinstance. -/
namespace Ev
open PySem PySem.Spec PyProof.Rows L2

def beqL : List Nat → List Nat → Bool
  | [], [] => true
  | a :: r, b :: s => Nat.beq a b && beqL r s
  | _, _ => false
theorem beqL_iff : ∀ {a b : List Nat}, beqL a b = true ↔ a = b
  | [], [] => by simp [beqL]
  | [], _ :: _ => by simp [beqL]
  | _ :: _, [] => by simp [beqL]
  | a :: r, b :: s => by
    have ih := @beqL_iff r s
    simp only [beqL, Bool.and_eq_true, List.cons.injEq, ih]
    constructor
    · rintro ⟨h1, h2⟩; exact ⟨Nat.eq_of_beq_eq_true h1, h2⟩
    · rintro ⟨h1, h2⟩; subst h1; exact ⟨Nat.beq_refl a, h2⟩
def lkF (f : List Nat) : List (List Nat × D) → Option D
  | [] => none
  | p :: r => bif beqL p.1 f then some p.2 else lkF f r

section
variable {X : Cx} {E : En} {F : Hp} {ι ι' : Nat → Addr} {N N' : Nat} {H H' : Hp} {h h' h1 h2 : Hv} {L : Lo} {σ : L2.St} {e a b : Expr} {es : List Expr} {pos : Pos}
theorem lkF_ok {f : List Nat} {d : D} : ∀ {fs : List (List Nat × D)} {gs : List (Str × V)}, RFs E ι N H fs gs → lkF f fs = some d → ∃ v, gs.lookup (mkS f) = some v ∧ RV E ι N H d v
  | [], _, r, q => by cases q
  | p :: fs, _, r, q => by
    cases r with
    | @cons _ g _ gs' r1 r2 =>
      obtain ⟨en, w⟩ := r1
      unfold lkF at q
      cases hb : beqL p.1 f with
      | true =>
        rw [hb] at q
        have e0 := beqL_iff.mp hb
        cases q
        refine ⟨g.2, ?_, w⟩
        obtain ⟨g1, g2⟩ := g
        dsimp only at en
        rw [List.lookup_cons]
        have e1 : (mkS f == g1) = true := by rw [en, e0]; exact beq_self_eq_true _
        rw [e1]
      | false =>
        rw [hb] at q
        obtain ⟨v, h1, h2⟩ := lkF_ok r2 q
        refine ⟨v, ?_, h2⟩
        obtain ⟨g1, g2⟩ := g
        dsimp only at en
        rw [List.lookup_cons]
        have e1 : (mkS f == g1) = false := by
          rw [en]
          refine beq_eq_false_iff_ne.mpr fun z => ?_
          have z2 := mkS_inj z
          rw [← z2, beqL_iff.mpr rfl] at hb
          cases hb
        rw [e1]
        exact h1

/-! ### a field of an error -/
def tXo (K : PySem.W.Frag) (f : Str) (te : TE) : TE := fun σ H Q => te σ H fun x H1 => ∃ (a C dx : Addr) (gs : List (Str × V)) (v : V), x = .ref a ∧ XfC K C ∧ PySem.W.findIn K (.ref C) f = some none ∧ H1 a = some (exo a C (some dx)) ∧ H1 dx = some (exd dx gs) ∧ gs.lookup f = some v ∧ Q v H1
theorem pe_xo {te : TE} {f : Str} (p : PE X e te) (hb : attributeBase e f X.env (eval e X.env) = eval e X.env := by rfl) : PE X (.Attribute e f pos) (tXo X.K f te) := ⟨fun pins s σ H Q I hw => by
  refine attr_of hb (thn (p.run pins s σ H _ I hw) ?_)
  rintro u s1 ⟨x, H1, I1, rx, a, C, dx, gs, v, rfl, xf, hno, ea, ed, hl, q⟩
  cases rx
  obtain ⟨t1, ho⟩ := exo_at I1.hok ea
  obtain ⟨mA, hns, hrel⟩ := exd_at I1.hok ed
  obtain ⟨od, hod, hlk⟩ := lookIn_ns hns
  obtain ⟨w, hw2, rw2⟩ := RelO.some_of (v := v) (o := mA f) (by rw [← hl]; exact hrel f)
  exact HandSPX.exc_get I1.kIn ⟨ho, rfl, rfl, hod⟩ xf.ga xf.gg xf.exC (PySem.W.findObj_own xf.hdC hno rfl (by rw [hlk, hw2])) (handed_of rw2) ⟨v, H1, I1.tok _, rw2, q⟩⟩
def mFld (okc : Nat → Bool) (f : List Nat) (m : Me) : Me := fun L h => (m L h).bind fun p => match p.1 with
  | .ref n => (match p.2.get n with
    | some (.exc c fs) => bif okc c then (match lkF f fs with
      | some d => some (d, p.2)
      | none => none) else none
    | _ => none)
  | _ => none
theorem c_fld (okc : Nat → Bool) (f : List Nat) {g : Str} {m : Me} (hK : E.K = X.K) (hg : g = mkS f) (hT : ∀ c, okc c = true → XfC X.K (E.ca c) ∧ PySem.W.findIn X.K (.ref (E.ca c)) (mkS f) = some none) (p : PE X e (T E m)) (hb : attributeBase e g X.env (eval e X.env) = eval e X.env := by rfl) :
    PE X (.Attribute e g pos) (T E (mFld okc f m)) := by
  subst hg
  refine imE (pe_xo p hb) fun σ H Q q => ?_
  obtain ⟨F, ι, N, h, L, s, d, h', ee, k⟩ := q
  obtain ⟨⟨d1, g1⟩, e1, ee⟩ := Option.bind_eq_some_iff.mp ee
  dsimp only at ee
  split at ee
  · rename_i n
    split at ee
    · rename_i c fs hc
      cases hlt : okc c with
      | false => rw [hlt] at ee; cases ee
      | true =>
        rw [hlt, cond_true] at ee
        split at ee
        · rename_i d' hd
          cases ee
          refine ⟨F, ι, N, h, L, s, _, _, e1, fun ι1 N1 H1 v1 x1 r1 w1 => ?_⟩
          obtain ⟨rfl, hn⟩ := w1.ref_of
          obtain ⟨dx, gs, e3, e4, rf⟩ := r1.ob n _ hn hc
          obtain ⟨v, hv, wv⟩ := lkF_ok rf hd
          obtain ⟨t1, t2⟩ := hT c hlt
          exact ⟨_, _, dx, gs, v, rfl, t1, t2, e3, e4, hv, k _ _ _ _ x1 r1 wv⟩
        · cases ee
    · cases ee
  · cases ee

/-! ### isinstance of an error -/
structure ExC (K : PySem.W.Frag) (C : Addr) : Prop where
  hcl : (PySem.W.clsIn K C).isSome = true
  hga : PySem.W.findIn K (.ref C) "__getattribute__" = some (some (.builtin "BaseException.__getattribute__"))
  hgt : PySem.W.findIn K (.ref C) "__getattr__" = some none
  hsb : PySem.W.subIn K (.ref C) (.type "BaseException") = some true
  ha : PySem.W.findIn K (.ref C) "__class__" = some (some (.builtin "object.__class__"))
  hn : PySem.W.specialIn K (.builtin "object.__class__") "__get__" = some (some (.builtin "getset_descriptor.__get__"))
  ht : PySem.W.takesIn K (.builtin "object.__class__") = some true
  hm : PySem.W.mroIn K C (.type "object") = some true
/-- an error at a, of the class at C -/
def ErrAt (H : Hp) (a C : Addr) : Prop := (∃ dx gs, H a = some (exo a C (some dx)) ∧ H dx = some (exd dx gs)) ∨ H a = some (ExO (.ref C) a)
theorem ErrAt.inst {pins : List (Addr × Obj)} {s : Shared} {a C : Addr} (I : Inv X pins σ H s) (q : ErrAt H a C) : ∃ ox od, PySem.W.InstAt s.heap a ox C od := by
  rcases q with ⟨dx, gs, e1, e2⟩ | e1
  · obtain ⟨t1, ho⟩ := exo_at I.hok e1
    obtain ⟨mA, ⟨od, es, ep, hod, _⟩, _⟩ := exd_at I.hok e2
    exact ⟨_, some od, ho, rfl, rfl, hod⟩
  · obtain ⟨⟨oe, vs, ho, hz, hd, _⟩, _⟩ := I.hok a _ e1
    obtain ⟨oc, odd, oda, osl⟩ := oe
    obtain ⟨z1, z2⟩ := hz
    dsimp only at z1 z2 hd
    subst z1 z2 hd
    exact ⟨_, none, ho, rfl, rfl, trivial⟩
def rIsX (K : PySem.W.Frag) : List V → Hp → VK → Prop := fun xs H Q => ∃ (a C : Addr) (c : V) (cv : Value) (k : Bool), xs = [.ref a, c] ∧ ExC K C ∧ ErrAt H a C ∧ ClsV c cv ∧ PySem.W.kitOne K (.ref C) cv = some k ∧ Q (.bl k) H
theorem call_isX : CallR X (.builtin "isinstance") (rIsX X.K) := by
  rintro pins s σ H xs us Q I r ⟨a, C, c, cv, k, rfl, x, er, cl, ek, q⟩
  obtain ⟨u1, u2, rfl, r1, r2⟩ := vals2 r
  cases r1
  obtain rfl := cl.eq r2
  obtain ⟨ox, od, J⟩ := er.inst I
  exact PySem.W.kia_one (PySem.W.kitx_exc x.hcl x.hga x.hgt x.hsb x.ha x.hn x.ht x.hm) I.kIn J ek (fun z => nomatch z) fun tk => ⟨.bl k, H, I.tok tk, rfl, q⟩
def rIsXT (K : PySem.W.Frag) : List V → Hp → VK → Prop := fun xs H Q => ∃ (a C tp : Addr) (cs : List V) (us : List Value) (k : Bool), xs = [.ref a, .ref tp] ∧ ExC K C ∧ ErrAt H a C ∧ H tp = some (.tup cs) ∧ Paired ClsV cs us ∧ PySem.W.kitAny K (.ref C) us = some k ∧ Q (.bl k) H
theorem call_isXT : CallR X (.builtin "isinstance") (rIsXT X.K) := by
  rintro pins s σ H xs us Q I r ⟨a, C, tp, cs, ws, k, rfl, x, er, hT, cl, ek, q⟩
  obtain ⟨u1, u2, rfl, r1, r2⟩ := vals2 r
  cases r1
  cases r2
  obtain ⟨ox, od, J⟩ := er.inst I
  obtain ⟨_, its, rv, o, h1, h2, n, h3⟩ := (show ObjOk X.prog X.w H s.heap tp (.tup cs) from I.hok tp _ hT)
  obtain rfl := ClsV.all cl rv
  obtain ⟨oc, odd, dt, sl⟩ := o
  dsimp only at h2 h3
  subst h2 h3
  exact PySem.W.kia_tup (PySem.W.kitx_exc x.hcl x.hga x.hgt x.hsb x.ha x.hn x.ht x.hm) I.kIn J h1 ek (fun z => nomatch z) fun tk => ⟨.bl k, H, I.tok tk, rfl, q⟩
def clsOf (h : Hv) : D → Option Nat
  | .ref n => (match h.get n with
    | some (.exc c _) => some c
    | some (.ex0 c) => some c
    | _ => none)
  | _ => none
theorem clsOf_ok {d : D} {v : V} {c : Nat} (R : Rel E F ι N H h) (w : RV E ι N H d v) (q : clsOf h d = some c) : ∃ a, v = .ref a ∧ ErrAt H a (E.ca c) := by
  unfold clsOf at q
  split at q
  · rename_i n
    obtain ⟨rfl, hn⟩ := w.ref_of
    split at q
    · rename_i c' fs hc
      cases q
      obtain ⟨dx, gs, e3, e4, _⟩ := R.ob n _ hn hc
      exact ⟨_, rfl, .inl ⟨dx, gs, e3, e4⟩⟩
    · rename_i c' hc
      cases q
      exact ⟨_, rfl, .inr (R.ob n _ hn hc)⟩
    · cases q
  · cases q
/-- tab: what each class answers -/
def mIsX (okc : Nat → Bool) (tab : Nat → Bool) (m : Me) : Me := fun L h => (m L h).bind fun p => match clsOf p.2 p.1 with
  | some c => bif okc c then some (.bl (tab c), p.2) else none
  | none => none
theorem mIsX_inv {okc : Nat → Bool} {tab : Nat → Bool} {m : Me} {d : D} (q : mIsX okc tab m L h = some (d, h')) : ∃ d1 c, m L h = some (d1, h') ∧ clsOf h' d1 = some c ∧ okc c = true ∧ d = .bl (tab c) := by
  obtain ⟨⟨d1, g1⟩, e1, ee⟩ := Option.bind_eq_some_iff.mp q
  dsimp only at ee
  split at ee
  · rename_i c hc
    cases hlt : okc c with
    | false => rw [hlt] at ee; cases ee
    | true =>
      rw [hlt] at ee
      cases ee
      exact ⟨d1, c, e1, hc, hlt, rfl⟩
  · cases ee
theorem c_isX (okc : Nat → Bool) (tab : Nat → Bool) {c : Expr} {cv : V} {cu : Value} {m : Me} {p0 : Pos} (hT : ∀ c, okc c = true → ExC X.K (E.ca c) ∧ PySem.W.kitOne X.K (.ref (E.ca c)) cu = some (tab c)) (hc : ClsV cv cu) (hg : Gl X "isinstance") (hm : X.mg "isinstance" = none)
    (p : PE X e (T E m)) (q : PE X c (tC cv)) (hs : starEach [e, c] X.env = (false, eval e X.env) :: starEach [c] X.env := by rfl) (hs2 : starEach [c] X.env = (false, eval c X.env) :: starEach [] X.env := by rfl)
    (hpl : (backTo pos (starEach [c] X.env)).any (·.1) = false := by rfl) : PE X (.Call (.Name "isinstance" p0) [e, c] [] pos) (T E (mIsX okc tab m)) :=
  imE (pe_callB call_isX hg hm (by decide +kernel) (pa_cons p (pa_cons q pa_nil hs2) hs) (by decide) (by decide) hs hpl) fun σ H Q q => by
    obtain ⟨F, ι, N, h, L, s, d, h', ee, k⟩ := q
    obtain ⟨d1, c, e1, hc2, hlt, rfl⟩ := mIsX_inv ee
    refine ⟨F, ι, N, h, L, s, d1, h', e1, fun ι1 N1 H1 v1 x1 r1 w1 => ?_⟩
    obtain ⟨a, rfl, er⟩ := clsOf_ok r1 w1 hc2
    obtain ⟨t1, t2⟩ := hT c hlt
    exact ⟨a, _, cv, cu, tab c, rfl, t1, er, hc, t2, k _ _ _ _ x1 r1 (.bl _)⟩
theorem c_isXT (okc : Nat → Bool) (tab : Nat → Bool) {cs : List Expr} {cvs : List V} {cus : List Value} {m : Me} {p0 p1 : Pos} {x1 : Nat} (hT : ∀ c, okc c = true → ExC X.K (E.ca c) ∧ PySem.W.kitAny X.K (.ref (E.ca c)) cus = some (tab c)) (hcs : Paired ClsV cvs cus) (hg : Gl X "isinstance") (hm : X.mg "isinstance" = none)
    (p : PE X e (T E m)) (q : PA X cs (fun _ H Q => Q cvs H)) (hl : cvs.length ≤ sizeLine) (hs : starEach [e, .Tuple cs x1 p1] X.env = (false, eval e X.env) :: starEach [.Tuple cs x1 p1] X.env := by rfl) (hs2 : starEach [.Tuple cs x1 p1] X.env = (false, eval (.Tuple cs x1 p1) X.env) :: starEach [] X.env := by rfl)
    (hpl : (backTo pos (starEach [.Tuple cs x1 p1] X.env)).any (·.1) = false := by rfl) : PE X (.Call (.Name "isinstance" p0) [e, .Tuple cs x1 p1] [] pos) (T E (mIsX okc tab m)) :=
  imE (pe_callB call_isXT hg hm (by decide +kernel) (pa_cons p (pa_cons (pe_tup q) pa_nil hs2) hs) (by decide) (by decide) hs hpl) fun σ H Q q => by
    obtain ⟨F, ι, N, h, L, s, d, h', ee, k⟩ := q
    obtain ⟨d1, c, e1, hc2, hlt, rfl⟩ := mIsX_inv ee
    refine ⟨F, ι, N, h, L, s, d1, h', e1, fun ι1 N1 H1 v1 x1 r1 w1 => ⟨hl, fun tp hp => ?_⟩⟩
    obtain ⟨t1, t2⟩ := hT c hlt
    have kk := keep_upd (o := .tup cvs) hp
    have x2 : Ext E ι1 N1 H1 ι1 N1 (upd H1 tp (.tup cvs)) := Ext.kept kk
    have r2 := r1.kept kk
    obtain ⟨a, rfl, er⟩ := clsOf_ok r2 (w1.ext x2) hc2
    exact ⟨a, _, tp, cvs, cus, tab c, rfl, t1, er, upd_same, hcs, t2, k _ _ _ _ (x1.trans x2) r2 (.bl _)⟩
end
end Ev
/-! Ev6 -/
set_option maxHeartbeats 2000000
/-! Errors made; repr; comparisons of texts; count, in. -/
namespace Ev
open PySem PySem.Spec PyProof.Rows L2

section
variable {X : Cx} {E : En} {F : Hp} {ι ι' : Nat → Addr} {N N' : Nat} {H H' : Hp} {h h' h1 h2 : Hv} {L : Lo} {σ : L2.St} {e a b : Expr} {es : List Expr} {pos : Pos}

/-! ### C(e, ..), an own error class whose __init__ stores its arguments -/
/-- the promise of such an __init__ -/
def spI (K : PySem.W.Frag) (C : Addr) (n : Nat) (mk : List V → List (Str × V)) : Sp := fun vs H Q _ => ∃ (a : Addr) (ws : List V), vs = .ref a :: ws ∧ ws.length = n ∧ H a = some (exo a C none) ∧
  ∀ H' dx, H dx = none → dx ≠ a → H' a = some (exo a C (some dx)) → H' dx = some (exd dx (mk ws)) → (∀ b o, b ≠ a → H b = some o → H' b = some o) → Q .non H'
def tMkV (C : Addr) (sp : Sp) (ta : TA) : TE := fun σ H Q => ta σ H fun vs H1 => vs.length ≤ 1000 ∧ ∀ a, H1 a = none → sp (.ref a :: vs) (upd H1 a (exo a C none)) (fun v H2 => v = .non ∧ Q (.ref a) H2) E0
theorem pe_mkv {x : Str} {p0 : Pos} {C fI : Addr} {k : Nat} {fd : FuncData} {ps : List Str} {sp : Sp} {ta : TA} (T : OexC X.K C) (iC : PySem.W.findIn X.K (.ref C) "__init__" = some (some (.ref fI))) (tI : PySem.W.typeIn X.K (.ref fI) = some (.type "function"))
    (F1 : FnOk X.prog X.w X.K X.mg X.base CX0 k fI fd ps sp) (hr : Room (k + 1) X.A) (hb : Binds X.K fd ps []) (hg : Gl X x) (hm : X.mg x = some (.ref C)) (ha : PA X (e :: es) ta)
    (hdb : (x == ("__debug__" : Str)) = false := by decide) (he : starEach (e :: es) X.env = (false, eval e X.env) :: starEach es X.env := by rfl) (hpl : (backTo pos (starEach es X.env)).any (·.1) = false := by rfl) :
    PE X (.Call (.Name x p0) (e :: es) [] pos) (tMkV C sp ta) := ⟨fun pins s σ H Q I hw => by
  obtain ⟨nm, qn, Nn, bs, bm, sn, sub, ab, col, dd, k0, k1, k2, k3, k5, hC, hbm⟩ := T.cls
  refine wpAny_Call_Name_kw (ld_glob I hg hm ?_ hdb)
  refine PySem.W.callWith_K (h₀ := X.base) I.ok.mod.kin T.kC ?_ he hpl
  refine thn (ha.run pos pins s σ H _ I hw) ?_
  rintro us s1 ⟨vs, H1, I1, r1, hz, q1⟩
  refine ⟨I1.kIn, ?_⟩
  obtain ⟨hp, g, dr, tk, os⟩ := s1
  have fr := I1.hok.fresh (Nat.le_succ hp.objs.size)
  have hq := q1 (hp.objs.size + 1) fr
  have kk : ∀ b o, hp.get? b = some o → ((hp.push (PySem.W.kdv_tup us)).push (PySem.HandSPX.excO C hp.objs.size)).get? b = some o := fun b o q => Heap.get?_push_of_some _ (Heap.get?_push_of_some _ q)
  have I2 := I1.laid (t' := tk) (a := hp.objs.size + 1) (o := exo (hp.objs.size + 1) C none) (h' := (hp.push (PySem.W.kdv_tup us)).push (PySem.HandSPX.excO C hp.objs.size)) kk (Nat.le_succ _) (exo_ok (by heap_get))
  have r2 : Vals (V.ref (hp.objs.size + 1) :: vs) (Value.ref (hp.objs.size + 1) :: us) := .cons rfl r1
  have hl : (Value.ref (hp.objs.size + 1) :: us).length = ps.length := r2.length.symm.trans (F1.len _ _ _ _ hq)
  have hus : us.length ≤ sizeLine := by
    rw [← r1.length, sizeLine_eq]; omega
  have bind : BindsTo ⟨(hp.push (PySem.W.kdv_tup us)).push (PySem.HandSPX.excO C hp.objs.size), g, dr, tk, os⟩ fd ⟨Value.ref (hp.objs.size + 1) :: us, []⟩ (ps.zip (Value.ref (hp.objs.size + 1) :: us)) := by
    have z := hb ⟨(hp.push (PySem.W.kdv_tup us)).push (PySem.HandSPX.excO C hp.objs.size), g, dr, tk, os⟩ (Value.ref (hp.objs.size + 1) :: us) I2.kIn (by rw [List.append_nil]; exact hl)
    rw [List.append_nil] at z
    exact z
  have body := F1.run _ X.stack _ _ ⟨Value.ref (hp.objs.size + 1) :: us, []⟩ _ _ _ E0 (hr.make C us []) (I2.env0.make C us []) bind r2 hq
  refine wpAny_call (PySem.HandSPX.call_own F.excBase_ValueError (fun Y => PySem.HandSPX.refsVE_contains Y bm hbm) (I1.kIn _ _ hC) (PySem.W.looks_findIn I1.kIn iC) (fun self => PySem.W.bind_fn I1.kIn self tI) hus (codeAny_mono body ?_))
  intro r s' z
  match r, z with
  | .error _, z => exact z.elim
  | .ok (.ret u), z =>
    obtain ⟨v, H2, I3, rv, rfl, q2⟩ := I2.after z
    exact ⟨rv, .ref _, H2, I3, rfl, q2⟩⟩
/-- what stands for C(..): the class's number, its fields' names, the last one first -/
def mMk (c : Nat) (fs : List (List Nat)) (a : Ma) : Me := fun L h => (a L h).bind fun p => bif Nat.beq p.1.length fs.length && p.2.ok then some (.ref p.2.n, p.2.new (.exc c (fs.zip p.1).reverse)) else none
theorem zipF : ∀ {fs : List (List Nat)} {ds : List D} {vs : List V}, RVs E ι N H ds vs → RFs E ι N H (fs.zip ds) ((fs.map mkS).zip vs)
  | [], _, _, _ => .nil
  | f :: fs, _, _, .nil => .nil
  | f :: fs, _, _, .cons w r => .cons ⟨rfl, w⟩ (zipF r)
theorem Paired.app {α β : Type} {P : α → β → Prop} : ∀ {a c : List α} {b d : List β}, Paired P a b → Paired P c d → Paired P (a ++ c) (b ++ d)
  | _, _, _, _, .nil, s => s
  | _, _, _, _, .cons h r, s => .cons h (Paired.app r s)
theorem Paired.rev {α β : Type} {P : α → β → Prop} : ∀ {a : List α} {b : List β}, Paired P a b → Paired P a.reverse b.reverse
  | _, _, .nil => .nil
  | _, _, .cons h r => by
    rw [List.reverse_cons, List.reverse_cons]
    exact Paired.app (Paired.rev r) (.cons h .nil)
theorem c_mk (c : Nat) (fs : List (List Nat)) {x : Str} {p0 : Pos} {a : Ma} (hl : fs.length ≤ 900) (hp : PA X (e :: es) (Ts E a)) (hpe : PE X (.Call (.Name x p0) (e :: es) [] pos) (tMkV (E.ca c) (spI X.K (E.ca c) fs.length fun ws => ((fs.map mkS).zip ws).reverse) (Ts E a))) :
    PE X (.Call (.Name x p0) (e :: es) [] pos) (T E (mMk c fs a)) := imE hpe fun σ H Q q => by
  obtain ⟨F, ι, N, h, L, s, d, h', ee, k⟩ := q
  obtain ⟨⟨ds, g1⟩, e1, ee⟩ := Option.bind_eq_some_iff.mp ee
  dsimp only at ee
  cases hc : (Nat.beq ds.length fs.length && g1.ok) with
  | false => rw [hc] at ee; cases ee
  | true =>
    rw [hc] at ee
    cases ee
    obtain ⟨c1, c2⟩ := Bool.and_eq_true_iff.mp hc
    have hdl : ds.length = fs.length := Nat.eq_of_beq_eq_true c1
    refine ⟨F, ι, N, h, L, s, ds, g1, e1, fun ι1 N1 H1 vs x1 r1 w1 => ⟨by rw [← w1.length, hdl]; omega, fun ad had => ?_⟩⟩
    refine ⟨ad, vs, rfl, by rw [← w1.length, hdl], upd_same, fun H2 dx hdx hne h2a h2d kp => ⟨rfl, ?_⟩⟩
    have kk : ∀ b o, H1 b = some o → H2 b = some o := fun b o q => by
      have hb := ne_of_none q had
      exact kp b o hb (by rw [upd_ne hb]; exact q)
    have x2 : Ext E ι1 N1 H1 (setI ι1 N1 ad) (N1 + 1) H2 := Ext.new kk
    have rr : RFs E (setI ι1 N1 ad) (N1 + 1) H2 (fs.zip ds).reverse ((fs.map mkS).zip vs).reverse := Paired.rev ((zipF (fs := fs) w1).ext x2)
    have r2 := r1.new had c2 kk (o := .exc c (fs.zip ds).reverse) ⟨dx, _, h2a, h2d, rr⟩
    have er : setI ι1 N1 ad g1.n = ad := by rw [r1.sz]; exact setI_new
    have w2 : RV E (setI ι1 N1 ad) (N1 + 1) H2 (.ref g1.n) (.ref (setI ι1 N1 ad g1.n)) := .ref (by rw [r1.sz]; exact Nat.lt_succ_self N1)
    rw [er] at w2
    exact k _ _ _ _ (x1.trans x2) r2 w2

/-- an own error class without own __init__, made with one thing -/
def mMk0 (c : Nat) (a : Me) : Me := fun L h => (a L h).bind fun p => bif p.2.ok then some (.ref p.2.n, p.2.new (.ex0 c)) else none
theorem c_mk0 (c : Nat) {x : Str} {p0 : Pos} {a : Me} (hpe : PE X (.Call (.Name x p0) [e] [] pos) (fun σ H Q => T E a σ H fun _ H1 => ∀ p, H1 p = none → Q (.ref p) (upd H1 p (ExO (.ref (E.ca c)) p)))) : PE X (.Call (.Name x p0) [e] [] pos) (T E (mMk0 c a)) := imE hpe fun σ H Q q => by
  obtain ⟨F, ι, N, h, L, s, d, h', ee, k⟩ := q
  obtain ⟨⟨ds, g1⟩, e1, ee⟩ := Option.bind_eq_some_iff.mp ee
  dsimp only at ee
  cases hc : g1.ok with
  | false => rw [hc] at ee; cases ee
  | true =>
    rw [hc] at ee
    cases ee
    refine ⟨F, ι, N, h, L, s, ds, g1, e1, fun ι1 N1 H1 vs x1 r1 w1 p hp => ?_⟩
    have kk := keep_upd (o := ExO (.ref (E.ca c)) p) hp
    have x2 : Ext E ι1 N1 H1 (setI ι1 N1 p) (N1 + 1) (upd H1 p (ExO (.ref (E.ca c)) p)) := Ext.new kk
    have r2 := r1.new hp hc kk (o := .ex0 c) (show OAt _ _ _ _ _ (.ex0 c) from upd_same)
    have er : setI ι1 N1 p g1.n = p := by rw [r1.sz]; exact setI_new
    have w2 : RV E (setI ι1 N1 p) (N1 + 1) (upd H1 p (ExO (.ref (E.ca c)) p)) (.ref g1.n) (.ref (setI ι1 N1 p g1.n)) := .ref (by rw [r1.sz]; exact Nat.lt_succ_self N1)
    rw [er] at w2
    exact k _ _ _ _ (x1.trans x2) r2 w2

/-! ### repr -/
def mapO {α β : Type} (f : α → Option β) : List α → Option (List β)
  | [] => some []
  | x :: r => (f x).bind fun y => (mapO f r).bind fun s => some (y :: s)
def toP : Nat → Hv → D → Option PD
  | 0, _, _ => none
  | f + 1, h, d => match d with
    | .non => some .non
    | .bl b => some (.bl b)
    | .int i => some (.int i)
    | .str x => some (.str x)
    | .opq k => bif Nat.blt k 100 then some (.opq k) else none
    | .tup xs => (mapO (toP f h) xs).bind fun s => some (.tup s)
    | .ref n => (match h.get n with
      | some (.lst xs) => (mapO (toP f h) xs).bind fun s => some (.lst s)
      | _ => none)
    | .rep _ => none
def RdO (s : Shared) (u : Value) (d : PyData) : Prop := ∃ as, Reads s.heap u d as ∧ ∀ x ∈ as, x ≠ sysModules
def RdOs (s : Shared) (us : List Value) (ds : List PyData) : Prop := ∃ as, ReadsAll s.heap us ds as ∧ ∀ x ∈ as, x ≠ sysModules
structure OpqOk (E : En) : Prop where
  rd : ∀ (k : Nat), k < 100 → ∀ (X : Cx) (pins : List (Addr × Obj)) (σ : L2.St) (H : Hp) (s : Shared) (u : Value), X.K = E.K → Inv X pins σ H s → (∀ a o, E.HB a = some o → H a = some o) → RelV (E.ω k) u → RdO s u (E.δ k)
  sm : ∃ o, E.K.lookup sysModules = some o
theorem no_sm {pins : List (Addr × Obj)} {s : Shared} {a : Addr} {o : HO} (hK : X.K = E.K) (O : OpqOk E) (I : Inv X pins σ H s) (q : H a = some o) : a ≠ sysModules := fun z => by
  obtain ⟨ob, ho⟩ := O.sm
  rw [← hK] at ho
  have y := (I.bs _ _ (I.ok.mod.kin _ _ ho)).2
  rw [← z, q] at y
  cases y
theorem toP_ok {pins : List (Addr × Obj)} {s : Shared} (hK : X.K = E.K) (O : OpqOk E) (I : Inv X pins σ H s) (R : Rel E F ι N H h) : ∀ (f : Nat) (d : D) (p : PD) (v : V) (u : Value), toP f h d = some p → RV E ι N H d v → RelV v u → RdO s u (p.py E.δ) := by
  intro f
  induction f with
  | zero => intro d p v u q; cases q
  | succ f ih =>
    have ihs : ∀ (ds : List D) (ps : List PD) (vs : List V) (us : List Value), mapO (toP f h) ds = some ps → RVs E ι N H ds vs → Vals vs us → RdOs s us (PD.pys E.δ ps) := by
      intro ds
      induction ds with
      | nil =>
        intro ps vs us q w r
        cases q
        cases w
        cases r
        exact ⟨_, .nil, fun x hx => by cases hx⟩
      | cons d ds ih2 =>
        intro ps vs us q w r
        obtain ⟨p, q1, q⟩ := Option.bind_eq_some_iff.mp q
        obtain ⟨ps', q2, q⟩ := Option.bind_eq_some_iff.mp q
        cases q
        cases w with
        | cons w1 w2 =>
          cases r with
          | cons r1 r2 =>
            obtain ⟨as, a1, a2⟩ := ih _ _ _ _ q1 w1 r1
            obtain ⟨bs, b1, b2⟩ := ih2 _ _ _ q2 w2 r2
            exact ⟨_, .cons a1 b1, fun x hx => (List.mem_append.mp hx).elim (a2 x) (b2 x)⟩
    intro d p v u q w r
    cases d with
    | non => cases q; cases w; cases r; exact ⟨_, .none, fun x hx => by cases hx⟩
    | bl b => cases q; cases w; cases r; exact ⟨_, .bool b, fun x hx => by cases hx⟩
    | int i => cases q; cases w; obtain ⟨t, rfl⟩ := r; exact ⟨_, .int i t, fun x hx => by cases hx⟩
    | str z => cases q; cases w; obtain ⟨t, rfl⟩ := r; exact ⟨_, .str _ t, fun x hx => by cases hx⟩
    | opq k =>
      change (bif Nat.blt k 100 then some (PD.opq k) else none) = some p at q
      cases hk : Nat.blt k 100 with
      | false => rw [hk] at q; cases q
      | true =>
        rw [hk] at q
        cases q
        cases w
        exact O.rd k (Nat.le_of_ble_eq_true hk) X pins σ H s u hK I (fun a o y => R.out a o (R.hb a o y)) r
    | rep p => cases q
    | tup xs =>
      obtain ⟨ps, q1, q⟩ := Option.bind_eq_some_iff.mp q
      cases q
      cases w with
      | tup hs ws =>
        cases r
        rw [← hK] at hs
        obtain ⟨its, rv, ⟨o, ho, hc, n, hd⟩, _⟩ := I.tuple hs
        obtain ⟨as, a1, a2⟩ := ihs _ _ _ _ q1 ws rv
        exact ⟨_, .tuple ho hc hd (by simpa using a1), a2⟩
    | ref n =>
      obtain ⟨rfl, hn⟩ := w.ref_of
      cases r
      change (match h.get n with | some (.lst xs) => (mapO (toP f h) xs).bind fun s => some (.lst s) | _ => none) = some p at q
      split at q
      · rename_i xs hx
        obtain ⟨ps, q1, q⟩ := Option.bind_eq_some_iff.mp q
        cases q
        obtain ⟨vs, hv, wv⟩ := R.ob n _ hn hx
        obtain ⟨its, rv, ⟨o, m, ho, hc, _, hd⟩, _⟩ := I.list (SqL.of (K := X.K) hv)
        obtain ⟨as, a1, a2⟩ := ihs _ _ _ _ q1 wv rv
        refine ⟨_, .list ho hc hd (by simpa using a1), fun x hx => ?_⟩
        rcases List.mem_cons.mp hx with z | z
        · rw [z]; exact no_sm hK O I hv
        · exact a2 x z
      · cases q
structure Shows (d : PyData) : Prop where
  sh : d.showable = true
  dp : d.depth ≤ 40
  sz : d.shown.length ≤ sizeLine
def isRT : D → Bool
  | .ref _ => true
  | .tup _ => true
  | _ => false
def mRep (ok : PD → Bool) (m : Me) : Me := fun L h => (m L h).bind fun p => (toP 12 p.2 p.1).bind fun q => bif isRT p.1 && ok q then some (.rep q, p.2) else none
def tRep (E : En) (te : TE) : TE := fun σ H Q => te σ H fun x H1 => ∃ (a : Addr) (d : PyData), x = .ref a ∧ (∀ (X : Cx) (pins : List (Addr × Obj)) (s : Shared), X.K = E.K → Inv X pins σ H1 s → RdO s (.ref a) d) ∧ Shows d ∧ Q (.str d.shown) H1
theorem pe_rep {te : TE} {p0 : Pos} (hK : X.K = E.K) (hgd : X.A.guards = some []) (hun : X.A.units + 41 < cLine) (hg : Gl X "repr") (hm : X.mg "repr" = none) (p : PE X e te)
    (hs : starEach [e] X.env = (false, eval e X.env) :: starEach [] X.env := by rfl) : PE X (.Call (.Name "repr" p0) [e] [] pos) (tRep E te) := ⟨fun pins s σ H Q I hw => by
  refine wpAny_Call_Name_kw (ld_blt I hg hm (by decide +kernel : bootBuiltins "repr" = some (.builtin "repr")) ?_ (by decide) (by decide))
  refine PyProof.Rows.callWith_builtin1 (thn ((pa_cons p pa_nil hs).run pos pins s σ H (fun vs H1 => ∃ x, vs = [x] ∧ ∃ (a : Addr) (d : PyData), x = .ref a ∧ (∀ (X : Cx) (pins : List (Addr × Obj)) (s : Shared), X.K = E.K → Inv X pins σ H1 s → RdO s (.ref a) d) ∧ Shows d ∧ Q (.str d.shown) H1) I ?_) ?_) hs (by rfl)
  · refine (?_ : te σ H _)
    have mono : te σ H (fun x H1 => ∃ (a : Addr) (d : PyData), x = .ref a ∧ (∀ (X : Cx) (pins : List (Addr × Obj)) (s : Shared), X.K = E.K → Inv X pins σ H1 s → RdO s (.ref a) d) ∧ Shows d ∧ Q (.str d.shown) H1) := hw
    have e2 : (fun x H1 => tNil σ H1 fun xs H2 => ∃ y, x :: xs = [y] ∧ ∃ (a : Addr) (d : PyData), y = .ref a ∧ (∀ (X : Cx) (pins : List (Addr × Obj)) (s : Shared), X.K = E.K → Inv X pins σ H2 s → RdO s (.ref a) d) ∧ Shows d ∧ Q (.str d.shown) H2)
        = fun x H1 => ∃ (a : Addr) (d : PyData), x = .ref a ∧ (∀ (X : Cx) (pins : List (Addr × Obj)) (s : Shared), X.K = E.K → Inv X pins σ H1 s → RdO s (.ref a) d) ∧ Shows d ∧ Q (.str d.shown) H1 := by
      funext x H1
      refine propext ⟨?_, fun z => ⟨x, rfl, z⟩⟩
      rintro ⟨y, hy, z⟩
      cases hy
      exact z
    rw [e2]
    exact mono
  · rintro us s1 ⟨vs, H1, I1, r1, x, rfl, a, d, rfl, rd, sh, q⟩
    cases r1 with
    | cons r1 r2 =>
      cases r2
      cases r1
      obtain ⟨as, hr, hn⟩ := rd X pins s1 hK I1
      refine repr_of_reads' hr sh.sh (fun _ hz => hn _ hz rfl) hgd (by have := sh.dp; omega) (fun _ _ z => z) (fun h2 u tk kp => ?_) sh.sz
      exact ⟨.str d.shown, H1, I1.kept (t' := tk) kp, ⟨u, rfl⟩, q⟩⟩
theorem c_rep {ok : PD → Bool} {m : Me} {p0 : Pos} (hK : X.K = E.K) (O : OpqOk E) (hok : ∀ p, ok p = true → Shows (p.py E.δ)) (hgd : X.A.guards = some []) (hun : X.A.units + 41 < cLine) (hg : Gl X "repr") (hm : X.mg "repr" = none) (p : PE X e (T E m))
    (hs : starEach [e] X.env = (false, eval e X.env) :: starEach [] X.env := by rfl) : PE X (.Call (.Name "repr" p0) [e] [] pos) (T E (mRep ok m)) := imE (pe_rep hK hgd hun hg hm p hs) fun σ H Q q => by
  obtain ⟨F, ι, N, h, L, s, d, h', ee, k⟩ := q
  obtain ⟨⟨d1, g1⟩, e1, ee⟩ := Option.bind_eq_some_iff.mp ee
  obtain ⟨q1, e2, ee⟩ := Option.bind_eq_some_iff.mp ee
  dsimp only at e2 ee
  cases hb : (isRT d1 && ok q1) with
  | false => rw [hb] at ee; cases ee
  | true =>
    rw [hb] at ee
    cases ee
    obtain ⟨hi, hc⟩ := Bool.and_eq_true_iff.mp hb
    refine ⟨F, ι, N, h, L, s, d1, h', e1, fun ι1 N1 H1 v1 x1 r1 w1 => ?_⟩
    cases d1 with
    | ref n =>
      obtain ⟨rfl, hn⟩ := w1.ref_of
      exact ⟨_, _, rfl, fun X2 pins2 s2 hK2 I2 => toP_ok hK2 O I2 r1 12 _ _ _ _ e2 w1 rfl, hok _ hc, k _ _ _ _ x1 r1 (.rep q1)⟩
    | tup xs =>
      cases w1 with
      | tup hs ws => exact ⟨_, _, rfl, fun X2 pins2 s2 hK2 I2 => toP_ok hK2 O I2 r1 12 _ _ _ _ e2 (.tup hs ws) rfl, hok _ hc, k _ _ _ _ x1 r1 (.rep q1)⟩
    | _ => cases hi
end
end Ev
/-! Ev7 -/
set_option maxHeartbeats 2000000
/-! Comparisons, count, in; list comprehensions; calls of defs. -/
namespace Ev
open PySem PySem.Spec PyProof.Rows L2

mutual
def beqP : PD → PD → Bool
  | .non, .non => true
  | .bl a, .bl b => a == b
  | .int a, .int b => a == b
  | .str a, .str b => beqL a b
  | .lst a, .lst b => beqPs a b
  | .tup a, .tup b => beqPs a b
  | .opq a, .opq b => Nat.beq a b
  | _, _ => false
def beqPs : List PD → List PD → Bool
  | [], [] => true
  | a :: r, b :: s => beqP a b && beqPs r s
  | _, _ => false
end
mutual
theorem beqP_ok : ∀ {a b : PD}, beqP a b = true → a = b
  | .non, b, h => by cases b <;> simp [beqP] at h ⊢
  | .bl a, b, h => by cases b <;> simp [beqP] at h ⊢ <;> exact h
  | .int a, b, h => by cases b <;> simp [beqP] at h ⊢ <;> exact h
  | .str a, b, h => by cases b <;> simp [beqP] at h ⊢ <;> exact beqL_iff.mp h
  | .lst a, b, h => by cases b <;> simp [beqP] at h ⊢ <;> exact beqPs_ok h
  | .tup a, b, h => by cases b <;> simp [beqP] at h ⊢ <;> exact beqPs_ok h
  | .opq a, b, h => by cases b <;> simp [beqP] at h ⊢ <;> exact h
theorem beqPs_ok : ∀ {a b : List PD}, beqPs a b = true → a = b
  | [], [], _ => rfl
  | [], _ :: _, h => by simp [beqPs] at h
  | _ :: _, [], h => by simp [beqPs] at h
  | a :: r, b :: s, h => by
    simp only [beqPs, Bool.and_eq_true] at h
    rw [beqP_ok h.1, beqPs_ok h.2]
end

section
variable {X : Cx} {E : En} {F : Hp} {ι ι' : Nat → Addr} {N N' : Nat} {H H' : Hp} {h h' h1 h2 : Hv} {L : Lo} {σ : L2.St} {e a b : Expr} {es : List Expr} {pos : Pos}
/-- != -/
def fNe (d1 d2 : D) (h : Hv) : Option (D × Hv) := match d1, d2 with
  | .int i, .int j => some (.bl (!(decide (i = j))), h)
  | .rep p, .rep q => bif beqP p q then some (.bl false, h) else none
  | _, _ => none
theorem ne_s : BinS E rNe fNe := by
  intro F ι N H h x y d1 d2 d h' Q R w1 w2 e k
  unfold fNe at e
  split at e
  · rename_i i j
    cases e
    cases w1.int_of
    cases w2.int_of
    refine ⟨rfl, ?_⟩
    have q := k _ _ _ _ Ext.refl R (.bl (!(decide (i = j))))
    have e2 : (!decide (V.int i = V.int j)) = (!decide (i = j)) := by
      by_cases hij : i = j
      · subst hij; simp
      · simp [hij]
    rw [e2]
    exact q
  · rename_i p q
    cases hb : beqP p q with
    | false => rw [hb] at e; cases e
    | true =>
      rw [hb] at e
      cases e
      have epq := beqP_ok hb
      subst epq
      cases w1
      cases w2
      refine ⟨rfl, ?_⟩
      rw [decide_eq_true rfl]
      exact k _ _ _ _ Ext.refl R (.bl false)
  · cases e
def fv : D → Option V
  | .non => some .non
  | .bl b => some (.bl b)
  | .int i => some (.int i)
  | .str x => some (.str (mkS x))
  | _ => none
theorem fv_ok {d : D} {v v' : V} (q : fv d = some v') (w : RV E ι N H d v) : v = v' ∧ flatV v = true := by
  cases d <;> cases q <;> cases w <;> exact ⟨rfl, rfl⟩
theorem fvs_ok : ∀ {ds : List D} {vs ws : List V}, mapO fv ds = some ws → RVs E ι N H ds vs → vs = ws ∧ vs.all flatV = true
  | [], _, _, q, w => by cases q; cases w; exact ⟨rfl, rfl⟩
  | d :: ds, _, _, q, w => by
    obtain ⟨v, q1, q⟩ := Option.bind_eq_some_iff.mp q
    obtain ⟨vs, q2, q⟩ := Option.bind_eq_some_iff.mp q
    cases q
    cases w with
    | cons w1 w2 =>
      obtain ⟨rfl, f1⟩ := fv_ok q1 w1
      obtain ⟨rfl, f2⟩ := fvs_ok q2 w2
      exact ⟨rfl, by rw [List.all_cons, f1, f2]; rfl⟩
/-- x in list, x not in list -/
def fIn (neg : Bool) (d1 d2 : D) (h : Hv) : Option (D × Hv) := (fv d1).bind fun x => match d2 with
  | .ref n => (match h.get n with
    | some (.lst ys) => (mapO fv ys).bind fun vs => some (.bl (if neg then !inV x vs else inV x vs), h)
    | _ => none)
  | _ => none
theorem in_s {neg : Bool} {K : PySem.W.Frag} (hK : E.K = K) : BinS E (rIn K neg) (fIn neg) := by
  subst hK
  intro F ι N H h x y d1 d2 d h' Q R w1 w2 e k
  obtain ⟨x', q1, eb⟩ := Option.bind_eq_some_iff.mp e
  clear e
  try dsimp only at eb
  cases d2 <;> try (cases eb; done)
  · rename_i n
    dsimp only at eb
    split at eb
    · rename_i ys hy
      obtain ⟨vs, q2, ec⟩ := Option.bind_eq_some_iff.mp eb
      cases ec
      obtain ⟨rfl, hn⟩ := w2.ref_of
      obtain ⟨us, hu, wu⟩ := R.ob n _ hn hy
      obtain ⟨rfl, f1⟩ := fv_ok q1 w1
      obtain ⟨rfl, f2⟩ := fvs_ok q2 wu
      exact ⟨_, us, rfl, .inl (SqL.of hu), f1, f2, k _ _ _ _ Ext.refl R (.bl _)⟩
    · cases eb

/-! ### list.count -/
def rCnt (K : PySem.W.Frag) : V → List V → Hp → VK → Prop := fun x xs H Q => ∃ (p : Addr) (ys : List V) (y : V), x = .ref p ∧ xs = [y] ∧ SqL K H p ys ∧ flatV y = true ∧ ys.all flatV = true ∧ Q (.int ((ys.countP fun z => eqV z y : Nat) : Int)) H
theorem countP_U {x : V} : ∀ {xs : List V} {us : List Value}, Vals xs us → xs.all flatV = true → us.countP (eqU x) = xs.countP fun y => eqV y x
  | _, _, .nil, _ => rfl
  | y :: xs, _, .cons r t, f => by
    rw [List.all_cons, Bool.and_eq_true] at f
    rw [List.countP_cons, List.countP_cons, countP_U t f.2, eqU_of r f.1]
theorem mt_cnt : MtR X "list.count" (rCnt X.K) := by
  rintro pins s σ H x xs v us Q I rx rxs ⟨p, ys, y, rfl, rfl, hs, fy, fs, q⟩
  cases rx
  obtain ⟨u, rfl, ru⟩ := rxs.one
  obtain ⟨its, rv, ⟨⟨cl, dd, da, sl⟩, n, ho, hc, hdn, hd⟩, hlen⟩ := I.list hs
  dsimp only at hc hd
  subst hc hd
  refine call_meets PySem.F.slot_list_count ⟨_, ho, rfl⟩ PySem.F.entry_list_count (PySem.F.args_list_count_2 _ _) (SeqAt.list_countAt p its.toArray n dd sl u (eqU y)) ?_
  refine ⟨ho, fun w hw => mem_eqAt ru fy rv fs w (by simpa using hw), ?_⟩
  have ec : its.toArray.toList.countP (eqU y) = ys.countP fun z => eqV z y := countP_U rv fs
  rw [ec]
  exact ⟨.int _, H, I.tok _, ⟨_, rfl⟩, q⟩
def isLst (h : Hv) : D → Option Nat
  | .ref n => (match h.get n with
    | some (.lst _) => some n
    | _ => none)
  | _ => none
theorem isLst_ok {d : D} {v : V} {n : Nat} (R : Rel E F ι N H h) (w : RV E ι N H d v) (q : isLst h d = some n) : d = .ref n ∧ v = .ref (ι n) ∧ n < N ∧ ∃ vs, H (ι n) = some (.lst vs) := by
  unfold isLst at q
  cases d <;> try (cases q; done)
  rename_i m
  dsimp only at q
  obtain ⟨rfl, hn⟩ := w.ref_of
  split at q
  · rename_i ys hy
    cases q
    obtain ⟨us, hu, _⟩ := R.ob _ _ hn hy
    exact ⟨rfl, rfl, hn, us, hu⟩
  · cases q
def cntOf (h : Hv) (n : Nat) : List D → Option (D × Hv)
  | [d] => (match h.get n with
    | some (.lst ys) => (fv d).bind fun y => (mapO fv ys).bind fun vs => some (.int ((vs.countP fun z => eqV z y : Nat) : Int), h)
    | _ => none)
  | _ => none
def mCnt (m : Me) (a : Ma) : Me := fun L h => (m L h).bind fun p => (isLst p.2 p.1).bind fun n => (a L p.2).bind fun q => cntOf q.2 n q.1
theorem c_cnt {m : Me} {a : Ma} {call : Expr} (hK : X.K = E.K) (p : PE X call (tBM X.K "list" (rCnt X.K) (T E m) (Ts E a))) : PE X call (T E (mCnt m a)) := imE p fun σ H Q q => by
  obtain ⟨F, ι, N, h, L, s, d, h', ee, k⟩ := q
  obtain ⟨⟨d1, g1⟩, e1, ee⟩ := Option.bind_eq_some_iff.mp ee
  obtain ⟨n, e0, eb⟩ := Option.bind_eq_some_iff.mp ee
  obtain ⟨⟨ds, g2⟩, e2, ec⟩ := Option.bind_eq_some_iff.mp eb
  dsimp only at e0 e2 ec
  clear ee eb
  refine ⟨F, ι, N, h, L, s, _, _, e1, fun ι1 N1 H1 v1 x1 r1 w1 => ?_⟩
  obtain ⟨rfl, rfl, hn, us, hu⟩ := isLst_ok r1 w1 e0
  refine ⟨.inl ⟨rfl, us, SqL.of hu⟩, F, ι1, N1, g1, L, s.to x1 r1, _, _, e2, fun ι2 N2 H2 ws x2 r2 w2 => ?_⟩
  unfold cntOf at ec
  split at ec
  · rename_i d0
    split at ec
    · rename_i ys hy
      obtain ⟨y, q1, ec⟩ := Option.bind_eq_some_iff.mp ec
      obtain ⟨vs, q2, ec⟩ := Option.bind_eq_some_iff.mp ec
      cases ec
      cases w2 with
      | cons w2 w3 =>
        cases w3
        obtain ⟨us, hu, wu⟩ := r2.ob n _ (Nat.lt_of_lt_of_le hn x2.le) hy
        obtain ⟨rfl, f1⟩ := fv_ok q1 w2
        obtain ⟨rfl, f2⟩ := fvs_ok q2 wu
        rw [x2.ag n hn] at hu
        exact ⟨_, us, _, rfl, rfl, SqL.of hu, f1, f2, k _ _ _ _ (x1.trans x2) r2 (.int _)⟩
    · cases ec
  · cases ec

/-! ### calls -/
abbrev Mf := List D → Hv → Option (D × Hv)
def spF (K : PySem.W.Frag) (ca : Nat → Addr) (OK : En → Prop) (n : Nat) (f : Mf) : Sp := fun vs H Q _ => vs.length = n ∧ ∃ E F ι N h ds, E.K = K ∧ E.ca = ca ∧ OK E ∧ Rel E F ι N H h ∧ RVs E ι N H ds vs ∧ ∃ d h', f ds h = some (d, h') ∧
  ∀ ι' N' H' v, Ext E ι N H ι' N' H' → Rel E F ι' N' H' h' → RV E ι' N' H' d v → Q v H'
def mCall (n : Nat) (f : Mf) (a : Ma) : Me := fun L h => (a L h).bind fun p => bif Nat.beq p.1.length n then f p.1 p.2 else none
theorem c_call {OK : En → Prop} {n : Nat} {f : Mf} {a : Ma} {call : Expr} (hK : X.K = E.K) (hO : OK E) (p : PE X call (tCall (spF X.K E.ca OK n f) [] E0 (Ts E a))) : PE X call (T E (mCall n f a)) := imE p fun σ H Q q => by
  obtain ⟨F, ι, N, h, L, s, d, h', ee, k⟩ := q
  obtain ⟨⟨ds, g1⟩, e1, ee⟩ := Option.bind_eq_some_iff.mp ee
  dsimp only at ee
  cases hc : (Nat.beq ds.length n) with
  | false => rw [hc] at ee; cases ee
  | true =>
    rw [hc] at ee
    refine ⟨F, ι, N, h, L, s, ds, g1, e1, fun ι1 N1 H1 vs x1 r1 w1 => ?_⟩
    refine ⟨?_, E, F, ι1, N1, g1, ds, hK.symm, rfl, hO, r1, ?_, d, h', ee, fun ι2 N2 H2 v x2 r2 w2 => k _ _ _ _ (x1.trans x2) r2 w2⟩
    · rw [List.append_nil, ← w1.length]
      exact Nat.eq_of_beq_eq_true hc
    · rw [List.append_nil]
      exact w1
def fBody (n : Nat) (s : Ms) : Mf := fun ds h => match s (ds.map some ++ List.replicate (n - ds.length) none) h with
  | some (.rt d h') => some (d, h')
  | some (.nx _ h') => some (.non, h')
  | _ => none
theorem start_sim {names : List Str} {ds : List D} {vs : List V} (R : Rel E F ι N H h) (w : RVs E ι N H ds vs) : Sim E F ι N H h (ds.map some ++ List.replicate (names.length - ds.length) none) (L2.start names vs) := by
  have hl := w.length
  refine ⟨R, by unfold L2.start; simp [hl], fun i d q => ?_⟩
  unfold L2.start
  by_cases hi : i < ds.length
  · rw [List.getElem?_append_left (by simpa using hi), List.getElem?_map] at q
    rw [List.getElem?_append_left (by simp; omega), List.getElem?_map]
    cases hd : ds[i]? with
    | none => rw [hd] at q; cases q
    | some d' =>
      rw [hd] at q
      cases q
      obtain ⟨v, hv, wv⟩ := w.get hd
      exact ⟨v, by rw [hv]; rfl, wv⟩
  · rw [List.getElem?_append_right (by simpa using Nat.le_of_not_lt hi)] at q
    rw [List.getElem?_replicate] at q
    split at q <;> cases q
theorem mkFn {P : Program} {w : World} {K : PySem.W.Frag} {mg : Str → Option Value} {base : Heap} {x qual : Str} {st : Stmt} {f : Addr} {fd : FuncData} {names ps : List Str} {k : Nat} {ca : Nat → Addr} {OK : En → Prop} {s : Ms} (Fn : Fun K x qual st f fd) (S : FnScope names ps (defScope st))
    (hs : ∀ (E : En) (cdv : Value) (A : Around) (outer : List Env) (s0 : Shared) (H : Hp) (Ex : XK), E.K = K → E.ca = ca → OK E → (A.deeper (envOfC qual (defScope st) s0.heap.objs.size f cdv)).guards = some [] → Room k (A.deeper (envOfC qual (defScope st) s0.heap.objs.size f cdv)) →
      PSs (cxOf CX0 P w K mg base names qual (defScope st) f cdv A outer s0 H Ex).nox (defBody st) (TSs E s)) : FnG P w K mg base (k + 1) f fd ps (spF K ca OK ps.length (fBody names.length s)) := by
  refine funG Fn S (fun vs H Q E h => h.1) ?_
  rintro cdv A outer s0 H vs Q Ex hg hr ⟨hl, E, F, ι, N, h, ds, eK, eca, hO, R, ws, d, h', ee, k⟩
  refine ⟨_, hs E cdv A outer s0 H Ex eK eca hO (by rw [deeper_guards]; exact hg) hr, F, ι, N, h, _, start_sim R ws, ?_⟩
  unfold fBody at ee
  split at ee
  · rename_i d2 h2 e2
    cases ee
    exact ⟨_, e2, k⟩
  · rename_i L2 h2 e2
    cases ee
    exact ⟨_, e2, fun ι' N' H' σ' x1 s1 => k _ _ _ _ x1 s1.rel .non⟩
  · cases ee
end
end Ev
/-! Ev8 -/
set_option maxHeartbeats 2000000
/-! List comprehensions over lists. -/
namespace Ev
open PySem PySem.Spec PyProof.Rows L2

section
variable {X : Cx} {E : En} {F : Hp} {ι ι' : Nat → Addr} {N N' : Nat} {H H' : Hp} {h h' h1 h2 : Hv} {L : Lo} {σ : L2.St} {e a b : Expr} {es : List Expr} {pos : Pos}

/-- something more is kept in mind -/
theorem Rel.framed {p : Addr} {o : HO} (r : Rel E F ι N H h) (hp : H p = none) : Rel E (upd F p o) ι N (upd H p o) h := by
  have kk := keep_upd (o := o) hp
  have hF : F p = none := by
    cases q : F p with
    | none => rfl
    | some u =>
      have z := r.out p u q
      rw [hp] at z
      cases z
  have ne : ∀ n, n < N → ι n ≠ p := fun n hn z => by
    obtain ⟨u, q⟩ := r.th n hn
    rw [z, hp] at q
    cases q
  refine ⟨r.sz, fun n o' hn q => (r.ob n o' hn q).ext (Ext.kept kk) kk, r.inj, fun a u q => ?_, fun n hn => ?_, fun n hn => ?_, fun a u q => ?_⟩
  · by_cases ha : a = p
    · subst ha; rw [upd_same] at q ⊢; exact q
    · rw [upd_ne ha] at q ⊢; exact r.out a u q
  · rw [upd_ne (ne n hn)]; exact r.off n hn
  · obtain ⟨u, q⟩ := r.th n hn
    exact ⟨u, kk _ _ q⟩
  · exact keep_upd hF _ _ (r.hb a u q)
theorem Ext.relist {p : Addr} {xs ys : List V} (hp : H p = some (.lst xs)) : Ext E ι N H ι N (upd H p (.lst ys)) := by
  refine ⟨Nat.le_refl _, fun _ _ => rfl, fun a vs q => ?_⟩
  have ne : ∀ u, H a = some u → (∀ zs, u ≠ .lst zs) → a ≠ p := fun u q1 q2 z => by
    rw [z, hp] at q1
    exact q2 xs (Option.some.inj q1).symm
  rcases q with (q | ⟨o, q⟩) | q
  · exact .inl (.inl (by rw [upd_ne (ne _ q fun zs z => by cases z)]; exact q))
  · exact .inl (.inr ⟨o, by rw [upd_ne (ne _ q fun zs z => by cases z)]; exact q⟩)
  · exact .inr q
/-- .. and changed -/
theorem Rel.reframed {p : Addr} {xs ys : List V} (r : Rel E (upd F p (.lst xs)) ι N H h) (hp : H p = some (.lst xs)) (hF : F p = none) (hB : ∀ a o, E.HB a = some o → F a = some o) : Rel E (upd F p (.lst ys)) ι N (upd H p (.lst ys)) h := by
  have x : Ext E ι N H ι N (upd H p (.lst ys)) := Ext.relist hp
  have ne : ∀ n, n < N → ι n ≠ p := fun n hn z => by
    have q := r.off n hn
    rw [z, upd_same] at q
    cases q
  refine ⟨r.sz, fun n o' hn q => ?_, r.inj, fun a u q => ?_, fun n hn => ?_, fun n hn => ?_, fun a u q => ?_⟩
  · have z := r.ob n o' hn q
    cases o' with
    | lst zs => obtain ⟨vs, e1, w⟩ := z; exact ⟨vs, by rw [upd_ne (ne n hn)]; exact e1, w.ext x⟩
    | exc c fs =>
      obtain ⟨dx, gs, e1, e2, rf⟩ := z
      refine ⟨dx, gs, by rw [upd_ne (ne n hn)]; exact e1, ?_, rf.ext x⟩
      rw [upd_ne (fun y => ?_)]
      · exact e2
      · rw [y, hp] at e2
        have y2 : HO.lst xs = HO.ext _ := Option.some.inj e2
        cases y2
    | ex0 c =>
      show upd H p (.lst ys) (ι n) = some (ExO (.ref (E.ca c)) (ι n))
      rw [upd_ne (ne n hn)]
      exact z
  · by_cases ha : a = p
    · subst ha; rw [upd_same] at q ⊢; exact q
    · rw [upd_ne ha] at q ⊢
      exact r.out a u (by rw [upd_ne ha]; exact q)
  · have q := r.off n hn
    rw [upd_ne (ne n hn)] at q ⊢
    exact q
  · obtain ⟨u, q⟩ := r.th n hn
    exact ⟨u, by rw [upd_ne (ne n hn)]; exact q⟩
  · exact keep_upd hF _ _ (hB a u q)
theorem Rel.adopt {p : Addr} {ds : List D} {vs : List V} (r : Rel E (upd F p (.lst vs)) ι N H h) (hF : F p = none) (hB : ∀ a o, E.HB a = some o → F a = some o) (hok : h.ok = true) (w : RVs E ι N H ds vs) :
    Ext E ι N H (setI ι N p) (N + 1) H ∧ Rel E F (setI ι N p) (N + 1) H (h.new (.lst ds)) ∧ RV E (setI ι N p) (N + 1) H (.ref h.n) (.ref p) := by
  have hp : H p = some (.lst vs) := r.out p _ upd_same
  have ne : ∀ n, n < N → ι n ≠ p := fun n hn z => by
    have q := r.off n hn
    rw [z, upd_same] at q
    cases q
  have x : Ext E ι N H (setI ι N p) (N + 1) H := ⟨Nat.le_succ _, fun n hn => setI_old hn, fun _ _ q => q⟩
  have er : setI ι N p h.n = p := by rw [r.sz]; exact setI_new
  refine ⟨x, ⟨by show h.n + 1 = N + 1; rw [r.sz], fun n o hn q => ?_, fun m n hm hn q => ?_, fun a u q => r.out a u (keep_upd hF _ _ q), fun n hn => ?_, fun n hn => ?_, hB⟩, ?_⟩
  · rw [Hv.get_new hok, r.sz] at q
    by_cases hN : n = N
    · subst hN
      rw [if_pos rfl] at q
      cases q
      rw [setI_new]
      exact ⟨vs, hp, w.ext x⟩
    · rw [if_neg hN] at q
      have hl : n < N := by omega
      rw [setI_old hl]
      exact (r.ob n o hl q).ext x fun _ _ z => z
  · by_cases hM : m = N <;> by_cases hN : n = N
    · omega
    · have hl : n < N := by omega
      rw [hM, setI_new, setI_old hl] at q
      exact absurd q.symm (ne n hl)
    · have hl : m < N := by omega
      rw [hN, setI_new, setI_old hl] at q
      exact absurd q (ne m hl)
    · have hl : n < N := by omega
      have hm' : m < N := by omega
      rw [setI_old hl, setI_old hm'] at q
      exact r.inj m n hm' hl q
  · by_cases hN : n = N
    · subst hN
      rw [setI_new]
      exact hF
    · have hl : n < N := by omega
      rw [setI_old hl]
      have q := r.off n hl
      rw [upd_ne (ne n hl)] at q
      exact q
  · by_cases hN : n = N
    · subst hN
      rw [setI_new]
      exact ⟨_, hp⟩
    · rw [setI_old (by omega)]
      exact r.th n (by omega)
  · have w2 : RV E (setI ι N p) (N + 1) H (.ref h.n) (.ref (setI ι N p h.n)) := .ref (by rw [r.sz]; exact Nat.lt_succ_self N)
    rw [er] at w2
    exact w2
theorem Sim.wipe1 {i : Nat} (s : Sim E F ι N H h L σ) : Sim E F ι N H h (L.set i none) (σ.set i none) := by
  refine ⟨s.rel, by simpa using s.len, fun j d q => ?_⟩
  by_cases hj : i = j
  · subst hj
    rw [List.getElem?_set] at q
    simp only [if_true] at q
    split at q <;> cases q
  · rw [List.getElem?_set_ne hj] at q ⊢
    exact s.lc j d q

/-! ### [elt for x in list] -/
def lcLoop (me : Me) (i n : Nat) : Nat → Nat → Lo → Hv → Option (List D × Hv)
  | 0, _, _, _ => none
  | f + 1, j, L, h => match h.get n with
    | some (.lst ys) => (match ys[j]? with
      | none => some ([], h)
      | some x => (me (L.set i (some x)) h).bind fun p => (lcLoop me i n f (j + 1) L p.2).bind fun q => some (p.1 :: q.1, q.2))
    | _ => none
def mLc (i : Nat) (ml me : Me) : Me := fun L h => (ml L h).bind fun p => (isLst p.2 p.1).bind fun n => (lcLoop me i n 5000 0 (L.set i none) p.2).bind fun q => bif q.2.ok then some (.ref q.2.n, q.2.new (.lst q.1)) else none
theorem c_lc (i : Nat) {ml me : Me} (hK : X.K = E.K) (p : PE X e (tLc (iList X.K (T E ml)) (gName i) tYes (T E me) [i])) : PE X e (T E (mLc i ml me)) := imE p fun σ H Q q => by
  obtain ⟨F, ι, N, h, L, s, d, h', ee, k⟩ := q
  obtain ⟨⟨d1, g1⟩, e1, ea⟩ := Option.bind_eq_some_iff.mp ee
  obtain ⟨n, e0, eb⟩ := Option.bind_eq_some_iff.mp ea
  obtain ⟨⟨ds, g2⟩, e2, ec⟩ := Option.bind_eq_some_iff.mp eb
  dsimp only at e0 e2 ec
  clear ee ea eb
  cases hok : g2.ok with
  | false => rw [hok] at ec; cases ec
  | true =>
    rw [hok] at ec
    have ec2 := ec
    clear ec
    obtain ⟨rfl, rfl⟩ : D.ref g2.n = d ∧ g2.new (.lst ds) = h' := by
      have z := Option.some.inj ec2
      exact ⟨congrArg Prod.fst z, congrArg Prod.snd z⟩
    clear ec2
    refine ⟨F, ι, N, h, L, s, _, _, e1, fun ι1 N1 H1 v1 x1 r1 w1 => ?_⟩
    obtain ⟨rfl, rfl, hn, us, hu⟩ := isLst_ok r1 w1 e0
    refine ⟨_, rfl, ⟨us, SqL.of hu⟩, fun p hp => ?_⟩
    have hF : F p = none := by
      cases q : F p with
      | none => rfl
      | some u =>
        have z := r1.out p u q
        rw [hp] at z
        cases z
    have hB := s.rel.hb
    have np1 : ι1 n ≠ p := fun z => by rw [z, hp] at hu; cases hu
    refine ⟨fun j m H2 => ∃ (ι2 : Nat → Addr) (N2 : Nat) (g : Hv) (acc : List V) (da rs : List D), Ext E ι1 N1 H1 ι2 N2 H2 ∧ Rel E (upd F p (.lst acc)) ι2 N2 H2 g ∧ RVs E ι2 N2 H2 da acc ∧ lcLoop me i n m j (L.set i none) g = some (rs, g2) ∧ da ++ rs = ds ∧ acc.length + m ≤ 5000, ⟨5000, ι1, N1, g1, [], [], ds, ?_, r1.framed hp, .nil, e2, rfl, by simp⟩, ?_⟩
    · exact Ext.kept (keep_upd hp)
    · rintro j m H2 ⟨ι2, N2, g, acc, da, rs, x2, r2, wa, el, ed, hl⟩
      have hpa : H2 p = some (.lst acc) := r2.out p _ upd_same
      have hn2 : n < N2 := Nat.lt_of_lt_of_le hn x2.le
      have eι : ι2 n = ι1 n := x2.ag n hn
      cases m with
      | zero => cases el
      | succ m =>
        unfold lcLoop at el
        split at el
        · rename_i ys hy
          obtain ⟨vs, hv, wv⟩ := r2.ob n _ hn2 hy
          rw [eι] at hv
          split at el
          · rename_i hj
            cases el
            rw [List.append_nil] at ed
            subst ed
            obtain ⟨x3, r3, w3⟩ := r2.adopt hF hB hok wa
            refine .inl ⟨⟨vs, SqL.of hv, ?_⟩, k _ _ _ _ (x1.trans (x2.trans x3)) r3 w3⟩
            rw [← wv.length]
            exact List.getElem?_eq_none_iff.mp hj
          · rename_i x hj
            obtain ⟨⟨y, g3⟩, e3, el⟩ := Option.bind_eq_some_iff.mp el
            obtain ⟨⟨rs', g4⟩, e4, el⟩ := Option.bind_eq_some_iff.mp el
            cases el
            obtain ⟨v, hvj, wx⟩ := wv.get hj
            refine .inr ⟨⟨vs, v, SqL.of hv, hvj⟩, fun H' => ∃ (ι2 : Nat → Addr) (N2 : Nat) (g : Hv) (acc : List V) (da rs : List D), Ext E ι1 N1 H1 ι2 N2 H' ∧ Rel E (upd F p (.lst acc)) ι2 N2 H' g ∧ RVs E ι2 N2 H' da acc ∧ lcLoop me i n m (j + 1) (L.set i none) g = some (rs, g4) ∧ da ++ rs = ds ∧ acc.length + m ≤ 5000, fun H' z => ⟨m, Nat.lt_succ_self m, z⟩, ?_⟩
            rintro x' H3 ⟨rfl, hx'⟩
            have exv : x' = v := by
              have z := hx' vs (SqL.of hv)
              rw [hvj] at z
              exact (Option.some.inj z).symm
            subst exv
            have s0 : Sim E F ι N H h (L.set i none) (σ.set i none) := s.wipe1
            have s2 : Sim E (upd F p (.lst acc)) ι2 N2 H3 g (L.set i none) (σ.set i none) := ⟨r2, s0.len, fun jj dd q => let ⟨vv, a1, a2⟩ := s0.lc jj dd q; ⟨vv, a1, a2.ext (x1.trans x2)⟩⟩
            refine ⟨?_, ?_⟩
            · show (((σ.set i none).set i (some x')).set i none) = σ.set i none
              rw [List.set_set, List.set_set]
            · simp only [tYes, if_true]
              refine ⟨_, ι2, N2, g, _, s2.set wx, _, _, e3, fun ι3 N3 H4 v4 x4 r4 w4 => ?_⟩
              have hp4 : H4 p = some (.lst acc) := r4.out p _ upd_same
              refine ⟨acc, hp4, by rw [sizeLine_eq]; omega, ?_⟩
              have x5 : Ext E ι3 N3 H4 ι3 N3 (upd H4 p (.lst (acc ++ [v4]))) := Ext.relist hp4
              refine ⟨ι3, N3, g3, acc ++ [v4], da ++ [y], rs', x2.trans (x4.trans x5), r4.reframed hp4 hF hB, (wa.ext (x4.trans x5)).app (.cons (w4.ext x5) .nil), e4, by rw [List.append_assoc]; exact ed, by rw [List.length_append, List.length_singleton]; omega⟩
        · cases el
end
end Ev
/-! Ev9 -/
set_option maxHeartbeats 2000000
/-! What the written part says of error classes, as one check; the hook. -/
namespace Ev
open PySem PySem.Spec PyProof.Rows L2

/-- base: the tail of the class's order, behind its own classes -/
structure GexC (K : PySem.W.Frag) (C : Addr) (bmB : List Value) (newId : String) : Prop where
  cls : ∃ nm q N bs bm sn sub ab col dd k0 k1 k2 k3 k5, K.lookup C = some (excClassObj nm q C N bs bm true sn sub ab col dd k0 k1 k2 k3 k5 newId) ∧ PySem.W.excTail bmB bm = true
  sa : PySem.W.findIn K (.ref C) "__setattr__" = some (some (.builtin "object.__setattr__"))
  exC : PySem.W.subIn K (.ref C) (.type "BaseException") = some true
  tyC : PySem.W.typeIn K (.ref C) = some (.type "type")
  kC : PySem.W.keepIn K (.ref C) = true
  ov : PySem.W.excOver K C bmB = true
  hd : PySem.W.hasDictIn K C = true
theorem gexB_ok {K : PySem.W.Frag} {C : Addr} {bmB : List Value} {newId : String} (h : gexB K C bmB newId = true) : GexC K C bmB newId := by
  obtain ⟨h1, h⟩ := Bool.and_eq_true_iff.mp h
  obtain ⟨h2, h⟩ := Bool.and_eq_true_iff.mp h
  obtain ⟨h3, h⟩ := Bool.and_eq_true_iff.mp h
  obtain ⟨h4, h⟩ := Bool.and_eq_true_iff.mp h
  obtain ⟨h5, h⟩ := Bool.and_eq_true_iff.mp h
  obtain ⟨h6, h7⟩ := Bool.and_eq_true_iff.mp h
  refine ⟨?_, of_decide_eq_true h4, of_decide_eq_true h5, of_decide_eq_true h6, h7, h3, h2⟩
  obtain ⟨cd, hcd, hhd⟩ := PySem.W.any_some h2
  unfold PySem.W.excInitIn at h1
  split at h1
  · rename_i dd cd' sl ho
    split at h1
    · rename_i C' bm k0 k1 k2 k3 n k5 hm hs
      simp only [Bool.and_eq_true, beq_iff_eq, Bool.not_eq_true'] at h1
      obtain ⟨⟨⟨rfl, rfl⟩, hdel⟩, ht⟩ := h1
      have ec : cd = cd' := by
        unfold PySem.W.clsIn at hcd
        rw [ho] at hcd
        exact (Option.some.inj hcd).symm
      subst ec
      obtain ⟨nm, bs, mro, ns, qn, hd, sn, sub, ab, col, del⟩ := cd
      dsimp only at hm hdel hhd
      subst hm hdel hhd
      have hsl : sl = #[k0, k1, k2, k3, some (.builtin n), k5] := by
        obtain ⟨l⟩ := sl
        dsimp only at hs
        rw [hs]
      subst hsl
      exact ⟨nm, qn, ns, bs, bm, sn, sub, ab, col, dd, k0, k1, k2, k3, k5, ho, ht⟩
    · cases h1
  · cases h1
theorem excB_ok {K : PySem.W.Frag} {C : Addr} (h : excB K C = true) : ExC K C ∧ XfC K C := by
  obtain ⟨h1, h⟩ := Bool.and_eq_true_iff.mp h
  obtain ⟨h2, h⟩ := Bool.and_eq_true_iff.mp h
  obtain ⟨h3, h⟩ := Bool.and_eq_true_iff.mp h
  obtain ⟨h4, h⟩ := Bool.and_eq_true_iff.mp h
  obtain ⟨h5, h⟩ := Bool.and_eq_true_iff.mp h
  obtain ⟨h6, h⟩ := Bool.and_eq_true_iff.mp h
  obtain ⟨h7, h⟩ := Bool.and_eq_true_iff.mp h
  obtain ⟨h8, h9⟩ := Bool.and_eq_true_iff.mp h
  exact ⟨⟨h1, of_decide_eq_true h2, of_decide_eq_true h3, of_decide_eq_true h4, of_decide_eq_true h5, of_decide_eq_true h6, of_decide_eq_true h7, of_decide_eq_true h8⟩, ⟨of_decide_eq_true h2, of_decide_eq_true h3, of_decide_eq_true h4, h9⟩⟩

/-! ### the hook: sysModules is looked at too -/
def SaysX (fa : List He.Fa) (fn : List He.DefD) (chk : PySem.W.Frag → Bool) (K : PySem.W.Frag) : Prop := chk K = true ∧ (∃ o, K.lookup sysModules = some o) ∧ He.SaysD fa fn K
def hookX (n : Nat) (fa : List He.Fa) (fn : List He.DefD) (chk : PySem.W.Frag → Bool) : PySem.W.Hook where
  α := AlX
  obs := fun s => obsX n fa fn chk s.heap.get?
  val := fun _ => (true, He.valD fn)
  says := fun _ h => ∃ K : PySem.W.Frag, K.In h ∧ SaysX fa fn chk K
  of := fun _ s e => by
    have e1 : (chk (frX n s.heap.get?) && (List.lookup sysModules (frX n s.heap.get?)).isSome) = true := congrArg Prod.fst e
    have e2 : He.obsD fa fn (frX n s.heap.get?) = He.valD fn := congrArg Prod.snd e
    obtain ⟨a, b⟩ := Bool.and_eq_true_iff.mp e1
    exact ⟨_, He.frG_in, a, Option.isSome_iff_exists.mp b, e2⟩
  keeps := fun _ _ _ ⟨K, hK, c⟩ k => ⟨K, PySem.W.Frag.In.keeps hK k, c⟩
theorem obsX_eq {n : Nat} {fa : List He.Fa} {fn : List He.DefD} {chk : PySem.W.Frag → Bool} {g : Addr → Option Obj} {s : Shared} (h : ∀ a, g a = s.heap.get? a) : obsX n fa fn chk g = (hookX n fa fn chk).obs s := by
  have e : g = s.heap.get? := funext h
  rw [e] <;> rfl
end Ev
/-! Ev10 -/
set_option maxHeartbeats 2000000
/-! Errors over another base than ValueError: made. Three targets. -/
namespace Ev
open PySem PySem.Spec PyProof.Rows L2
section
variable {X : Cx} {E : En} {F : Hp} {ι ι' : Nat → Addr} {N N' : Nat} {H H' : Hp} {h h' h1 h2 : Hv} {L : Lo} {σ : L2.St} {e a b : Expr} {es : List Expr} {pos : Pos} {st : Stmt}
def sPar3 (i j l : Nat) (a : Ma) : Ms := fun L h => (a L h).bind fun p => match p.1 with
  | [d1, d2, d3] => some (.nx (((L.set i (some d1)).set j (some d2)).set l (some d3)) p.2)
  | _ => none
theorem c_par3 (i j l : Nat) {ma : Ma} (p : PS X st (tPar3 i j l (Ts E ma))) : PS X st (TSs E (sPar3 i j l ma)) := imS p fun Dn σ H q => by
  obtain ⟨F, ι, N, h, L, s, r, ee, o⟩ := q
  obtain ⟨⟨ds, g1⟩, e1, ee⟩ := Option.bind_eq_some_iff.mp ee
  dsimp only at ee
  split at ee
  · cases ee
    refine ⟨F, ι, N, h, L, s, _, _, e1, fun ι1 N1 H1 vs x1 r1 w1 => ?_⟩
    cases w1 with
    | cons w1 w2 =>
      cases w2 with
      | cons w2 w3 =>
        cases w3 with
        | cons w3 w4 =>
          cases w4
          exact ⟨_, _, _, rfl, o _ _ _ _ x1 ((((s.to x1 r1).set w1).set w2).set w3)⟩
  · cases ee

/-! ### self.f = e in the __init__ of such a class: the first store -/
open Builtin Builtin.ObjectAttr PySem.Calls in
theorem osa_first {prog : Program} {w : World} {A : Around} {R : Result → Shared → Prop} {hp : Heap} {g : Array GenState} {d : Drawn} {t : Nat} {os : OsState} {K : PySem.W.Frag} {name : Str} {tk : Tok} {v : Value} {x C : Addr} {fv : Array Value} {B : String} {bmB : List Value}
    (SF : StoreFacts B bmB "object.__setattr__" "object") (Xk : K.In hp) (hx : hp.get? x = some { cls := .ref C, data := .fields fv }) (ov : PySem.W.excOver K C bmB = true) (hd : PySem.W.hasDictIn K C = true) (ha : PySem.W.findIn K (.ref C) name = some none)
    (hq : ∀ h' tk' dx, (∀ b o, b ≠ x → hp.get? b = some o → h'.get? b = some o) → hp.objs.size ≤ dx → dx ≠ x → h'.get? x = some { cls := .ref C, dict := some dx, data := .fields fv } →
      h'.Ns1 dx (fun y => if y = name then some v else none) → R (.ok (.ret .none)) ⟨h', g, d, tk', os⟩) :
    codeAny (model prog w) A (.call (.builtin "object.__setattr__") ⟨[.ref x, .str name tk, v], []⟩) R ⟨hp, g, d, t, os⟩ := by
  refine PySem.W.osa_openX (od := none) SF Xk ⟨hx, rfl, rfl, trivial⟩ ov (by unfold PySem.W.takerIn; rw [ha]; rfl) fun b => ?_
  obtain ⟨cd, hcd, hh⟩ := PySem.W.any_some hd
  have look : PySem.W.Looks (model prog w) hp (classData C) cd := PySem.W.looks_clsIn Xk hcd
  have xne : hp.objs.size ≠ x := Nat.ne_of_gt (Heap.lt_size hx)
  cases cd with
  | mk nm bs mro ns qn hdd sn sb ab col del =>
    have e1 : hdd = true := hh
    subst e1
    show wpAny _ _ (storeInOwnDict (.ref x) (.ref C) (.str name tk) name v b) _ _ _
    unfold storeInOwnDict ownDictForStores
    repeat (first
      | with_reducible refine HandSPX.store_in_new ?_ ?_
      | with_reducible refine wpAny_loadPart_at hx ?_
      | with_reducible refine look.at ?_
      | wp_step)
    · exact ⟨_, #[], _, (Heap.get?_update_ne _ _ _ _ xne).trans (Heap.get?_push_at rfl rfl), rfl, fun e he => absurd he (by simp), fun _ => rfl⟩
    · intro h2 tk2 ns2 sb2
      have old : ∀ {b : Addr} {o : Obj}, hp.get? b = some o → b ≠ x → h2.get? b = some o := fun {b o} q nb =>
        (sb2.2 b (Nat.ne_of_lt (Heap.lt_size q))).trans ((Heap.get?_update_ne _ _ _ _ nb).trans (Heap.get?_push_of_some _ q))
      have hx2 : (hp.push { cls := .type "dict", data := .dict #[] }).get? x = some { cls := .ref C, data := .fields fv } := Heap.get?_push_of_some _ hx
      exact hq h2 tk2 hp.objs.size (fun b o nb q => old q nb) (Nat.le_refl _) xne ((sb2.2 x (Ne.symm xne)).trans (Heap.get?_update_self _ hx2 rfl)) ns2
variable {pins : List (Addr × Obj)} {C ad dx : Addr} {f : Str} {y : V} {u : Value}
theorem inv_first {hp hq : Heap} {g : Array GenState} {d : Drawn} {t t2 : Nat} {os : OsState} {t1 : Addr} (I : Inv X pins σ H ⟨hp, g, d, t, os⟩) (ea : H ad = some (exo ad C none))
    (k : ∀ b o, b ≠ ad → hp.get? b = some o → hq.get? b = some o) (dn : hp.objs.size ≤ dx) (hx : hq.get? ad = some ({ cls := .ref C, dict := some dx, data := .fields #[.ref t1, .none, .none, .none, .bool false, .none] } : Obj))
    (ns : hq.Ns1 dx (fun z => if z = f then some u else none)) (ry : RelV y u) : Inv X pins σ (upd (upd H dx (exd dx [(f, y)])) ad (exo ad C (some dx))) ⟨hq, g, d, t2, os⟩ := by
  have fresh : H dx = none := I.hok.fresh dn
  have nead : ∀ b, H b = none → b ≠ ad := fun b n z => by rw [z, ea] at n; cases n
  have nedx : ∀ b o, hp.get? b = some o → b ≠ dx := fun b o q => Nat.ne_of_lt (Nat.lt_of_lt_of_le (Heap.lt_size q) dn)
  have un : Un X.fs [] H (upd (upd H dx (exd dx [(f, y)])) ad (exo ad C (some dx))) hp hq := by
    refine ⟨fun b o q n _ _ => k b o (nead b n) q, fun b o q n _ _ => ⟨o.slots, k b o (nead b n) q⟩, fun b o q n _ => ?_, fun b o q _ => ?_, fun b xs q => ?_, fun b o v q => ?_, fun b ps q => ?_⟩
    · rw [upd_ne (nead b n), upd_ne (nedx b o q)]; exact n
    · by_cases hb : b = ad
      · subst hb; exact ⟨_, hx⟩
      · exact ⟨o, k b o hb q⟩
    · rw [upd_ne (at_ne ea q exo_tup), upd_ne (ne_of_none q fresh)]; exact q
    · rw [upd_ne (at_ne ea q exo_frz), upd_ne (ne_of_none q fresh)]; exact q
    · exact ⟨#[], by rw [upd_ne (at_ne ea q exo_tbl), upd_ne (ne_of_none q fresh), q]; simp⟩
  refine I.un (t' := t2) un fun b o q => ?_
  by_cases hb : b = ad
  · subst hb
    rw [upd_same] at q
    cases q
    exact exo_ok hx
  · rw [upd_ne hb] at q
    by_cases hd : b = dx
    · subst hd
      rw [upd_same] at q
      cases q
      exact exd_ok ns (relO_put (fs := []) ry fun _ => True.intro)
    · rw [upd_ne hd] at q
      refine (I.hok b o q).stay (fun c v hc z => ?_) (fun c hc => ?_) fun c xs hc => ?_
      · refine k c v ?_ z
        rcases hc with rfl | hc
        · exact hb
        · exact at_ne ea hc exo_own
      · rw [upd_ne (at_ne ea hc exo_own), upd_ne (ne_of_none hc fresh)]; exact hc
      · rw [upd_ne (at_ne ea hc exo_tup), upd_ne (ne_of_none hc fresh)]; exact hc
def tOstG (K : PySem.W.Frag) (bmB : List Value) (nid : String) (f : Str) (to te : TE) : TS := fun D σ H => te σ H fun y H1 => to σ H1 fun x H2 => ∃ (a C : Addr), x = .ref a ∧ GexC K C bmB nid ∧ PySem.W.findIn K (.ref C) f = some none ∧
  H2 a = some (exo a C none) ∧ ∀ dx, H2 dx = none → dx ≠ a → D.nx σ (upd (upd H2 dx (exd dx [(f, y)])) a (exo a C (some dx)))
theorem ps_ostG {B nid : String} {bmB : List Value} {o : Expr} {to te : TE} {p' pos : Pos} (SF : StoreFacts B bmB "object.__setattr__" "object") (ho : PE X o to) (he : PE X e te) (hs : swapsWith e (some (.Attribute o f p')) pos.line X.env = pure false := by rfl) :
    PS X (.Assign [.Attribute o f p'] e pos) (tOstG X.K bmB nid f to te) := ⟨fun pins s σ H Dn I hw => by
  refine plainObj_wpAny_Assign_Attribute (thn (he.run pins s σ H _ I hw) ?_) hs
  rintro v s1 ⟨y, H1, I1, r1, q1⟩
  refine thn (ho.run pins s1 σ H1 _ I1 q1) ?_
  rintro u s2 ⟨x, H2, I2, r2, a, C, rfl, T, hno, ea, q⟩
  cases r2
  obtain ⟨t1, hobj⟩ := exo_at I2.hok ea
  obtain ⟨hp, g, d, t, os⟩ := s2
  refine PySem.W.set_plain I2.kIn (ox := { cls := .ref C, dict := none, data := .fields #[.ref t1, .none, .none, .none, .bool false, .none] }) (od := none) ⟨hobj, rfl, rfl, trivial⟩ T.sa ?_
  refine osa_first SF I2.kIn hobj T.ov T.hd hno fun hq tk dx k dn dne hx ns => ?_
  exact ⟨σ, _, inv_first I2 ea k dn hx ns r1, q dx (I2.hok.fresh dn) dne⟩⟩

/-! ### a class's call, whatever built-in it stands over -/
theorem pe_mkG {x : Str} {p0 : Pos} {fI : Addr} {k : Nat} {fd : FuncData} {ps : List Str} {sp : Sp} {ta : TA} {B nid iid : String} {bmB : List Value} (EF : ExcBaseFacts B nid iid bmB) (T : GexC X.K C bmB nid) (iC : PySem.W.findIn X.K (.ref C) "__init__" = some (some (.ref fI))) (tI : PySem.W.typeIn X.K (.ref fI) = some (.type "function"))
    (F1 : FnOk X.prog X.w X.K X.mg X.base CX0 k fI fd ps sp) (hr : Room (k + 1) X.A) (hb : Binds X.K fd ps []) (hg : Gl X x) (hm : X.mg x = some (.ref C)) (ha : PA X (e :: es) ta)
    (hdb : (x == ("__debug__" : Str)) = false := by decide) (he : starEach (e :: es) X.env = (false, eval e X.env) :: starEach es X.env := by rfl) (hpl : (backTo pos (starEach es X.env)).any (·.1) = false := by rfl) :
    PE X (.Call (.Name x p0) (e :: es) [] pos) (tMkV C sp ta) := ⟨fun pins s σ H Q I hw => by
  obtain ⟨nm, qn, Nn, bs, bm, sn, sub, ab, col, dd, k0, k1, k2, k3, k5, hC, hbm⟩ := T.cls
  refine wpAny_Call_Name_kw (ld_glob I hg hm ?_ hdb)
  refine PySem.W.callWith_K (h₀ := X.base) I.ok.mod.kin T.kC ?_ he hpl
  refine thn (ha.run pos pins s σ H _ I hw) ?_
  rintro us s1 ⟨vs, H1, I1, r1, hz, q1⟩
  refine ⟨I1.kIn, ?_⟩
  obtain ⟨hp, g, dr, tk, os⟩ := s1
  have hq := q1 (hp.objs.size + 1) (I1.hok.fresh (Nat.le_succ hp.objs.size))
  have kk : ∀ b o, hp.get? b = some o → ((hp.push (PySem.W.kdv_tup us)).push (PySem.HandSPX.excO C hp.objs.size)).get? b = some o := fun b o q => Heap.get?_push_of_some _ (Heap.get?_push_of_some _ q)
  have I2 := I1.laid (t' := tk) (a := hp.objs.size + 1) (o := exo (hp.objs.size + 1) C none) (h' := (hp.push (PySem.W.kdv_tup us)).push (PySem.HandSPX.excO C hp.objs.size)) kk (Nat.le_succ _) (exo_ok (by heap_get))
  have r2 : Vals (V.ref (hp.objs.size + 1) :: vs) (Value.ref (hp.objs.size + 1) :: us) := .cons rfl r1
  have hl : (Value.ref (hp.objs.size + 1) :: us).length = ps.length := r2.length.symm.trans (F1.len _ _ _ _ hq)
  have hus : us.length ≤ sizeLine := by
    rw [← r1.length, sizeLine_eq]; omega
  have bind : BindsTo ⟨(hp.push (PySem.W.kdv_tup us)).push (PySem.HandSPX.excO C hp.objs.size), g, dr, tk, os⟩ fd ⟨Value.ref (hp.objs.size + 1) :: us, []⟩ (ps.zip (Value.ref (hp.objs.size + 1) :: us)) := by
    have z := hb ⟨(hp.push (PySem.W.kdv_tup us)).push (PySem.HandSPX.excO C hp.objs.size), g, dr, tk, os⟩ (Value.ref (hp.objs.size + 1) :: us) I2.kIn (by rw [List.append_nil]; exact hl)
    rw [List.append_nil] at z
    exact z
  have body := F1.run _ X.stack _ _ ⟨Value.ref (hp.objs.size + 1) :: us, []⟩ _ _ _ E0 (hr.make C us []) (I2.env0.make C us []) bind r2 hq
  refine wpAny_call (PySem.HandSPX.call_own EF (fun Y => PySem.W.excTail_contains Y bm hbm) (I1.kIn _ _ hC) (PySem.W.looks_findIn I1.kIn iC) (fun self => PySem.W.bind_fn I1.kIn self tI) hus (codeAny_mono body ?_))
  intro r s' z
  match r, z with
  | .error _, z => exact z.elim
  | .ok (.ret u), z =>
    obtain ⟨v, H2, I3, rv, rfl, q2⟩ := I2.after z
    exact ⟨rv, .ref _, H2, I3, rfl, q2⟩⟩
theorem refs_of : ∀ l : List Value, PySem.W.excTail He.veBase l = true → PySem.HandSPX.refsVE l = true := by
  intro l
  induction l with
  | nil => intro h; cases h
  | cons v r ih =>
    intro h
    rcases PySem.W.excTail_cases _ h with ⟨c, r', e, q⟩ | e
    · cases e
      exact ih q
    · rw [e]; decide +kernel
theorem GexC.oex (T : GexC X.K C He.veBase "ValueError.__new__") : OexC X.K C := by
  obtain ⟨nm, qn, Nn, bs, bm, sn, sub, ab, col, dd, k0, k1, k2, k3, k5, hC, hbm⟩ := T.cls
  exact ⟨⟨nm, qn, Nn, bs, bm, sn, sub, ab, col, dd, k0, k1, k2, k3, k5, hC, refs_of bm hbm⟩, T.sa, T.exC, T.tyC, T.kC⟩

/-! ### the promises of the __init__s -/
theorem init1 {K : PySem.W.Frag} {Cd : Addr} (T : OexC K Cd) {g : List Nat} (hno : PySem.W.findIn K (.ref Cd) (mkS g) = some none) {vs : List V} {H : Hp} {Q : VK} {Ex : XK} (hw : spI K Cd 1 (fun ws => (([g].map mkS).zip ws).reverse) vs H Q Ex) :
    tOst K (mkS g) (tVar 0) (tVar 1) { nx := fun _ H' => Q .non H', rt := Q } (vs.map some) H := by
  obtain ⟨a, ws, rfl, hl, ea, k⟩ := hw
  match ws, hl with
  | [w], _ =>
    refine ⟨_, rfl, _, rfl, a, Cd, rfl, T, hno, .inl ⟨ea, fun dx hd hne => ?_⟩⟩
    exact k _ dx hd hne upd_same (by rw [upd_ne hne, upd_same]; rfl) fun b o hb q => by rw [upd_ne hb, upd_ne (ne_of_none q hd)]; exact q
theorem init2 {K : PySem.W.Frag} {Cd : Addr} (T : OexC K Cd) {g1 g2 : List Nat} (hn1 : PySem.W.findIn K (.ref Cd) (mkS g1) = some none) (hn2 : PySem.W.findIn K (.ref Cd) (mkS g2) = some none) {vs : List V} {H : Hp} {Q : VK} {Ex : XK} (hw : spI K Cd 2 (fun ws => (([g1, g2].map mkS).zip ws).reverse) vs H Q Ex) :
    tSeq (tOst K (mkS g1) (tVar 0) (tVar 1)) (tOst K (mkS g2) (tVar 0) (tVar 2)) { nx := fun _ H' => Q .non H', rt := Q } (vs.map some) H := by
  obtain ⟨a, ws, rfl, hl, ea, k⟩ := hw
  match ws, hl with
  | [w, z], _ =>
    refine ⟨_, rfl, _, rfl, a, Cd, rfl, T, hn1, .inl ⟨ea, fun dx hd hne => ?_⟩⟩
    refine ⟨_, rfl, _, rfl, a, Cd, rfl, T, hn2, .inr ⟨dx, _, upd_same, by rw [upd_ne hne, upd_same], (by show 1 ≤ 900; omega), ?_⟩⟩
    refine k _ dx hd hne (by rw [upd_ne (Ne.symm hne), upd_same]) upd_same fun b o hb q => ?_
    have nb := ne_of_none q hd
    rw [upd_ne nb, upd_ne hb, upd_ne nb]; exact q
theorem init1G {K : PySem.W.Frag} {Cd : Addr} {bmB : List Value} {nid : String} (T : GexC K Cd bmB nid) {g : List Nat} (hno : PySem.W.findIn K (.ref Cd) (mkS g) = some none) {vs : List V} {H : Hp} {Q : VK} {Ex : XK} (hw : spI K Cd 1 (fun ws => (([g].map mkS).zip ws).reverse) vs H Q Ex) :
    tOstG K bmB nid (mkS g) (tVar 0) (tVar 1) { nx := fun _ H' => Q .non H', rt := Q } (vs.map some) H := by
  obtain ⟨a, ws, rfl, hl, ea, k⟩ := hw
  match ws, hl with
  | [w], _ =>
    refine ⟨_, rfl, _, rfl, a, Cd, rfl, T, hno, ea, fun dx hd hne => ?_⟩
    exact k _ dx hd hne upd_same (by rw [upd_ne hne, upd_same]; rfl) fun b o hb q => by rw [upd_ne hb, upd_ne (ne_of_none q hd)]; exact q
end
end Ev
/-! Ev11 -/
set_option maxHeartbeats 2000000
/-! Small joints. -/
namespace Ev
open PySem PySem.Spec PyProof.Rows L2
theorem fun_of {K : PySem.W.Frag} {x qual : Str} {st : Stmt} {f : Addr} {fd : FuncData} (F : FunD K x qual (defArgs st) (defBody st) (defScope st) [] [] f fd) : Fun K x qual st f fd := by
  obtain ⟨oc, od, dV, kV, doc, pm, an, cdv, ct, osl, e, lk, hc, hd, hk⟩ := F.ex
  have e0 : dV = .none := by
    rcases hd with ⟨_, e⟩ | ⟨ne, _⟩
    · exact e
    · exact absurd rfl ne
  subst e0
  exact ⟨⟨oc, od, kV, doc, pm, an, cdv, ct, osl, e, lk, hc⟩, F.kp⟩
end Ev
/-! Ev12 -/
set_option maxHeartbeats 4000000
/-! KeyError: its own classes are made by LookupError's __new__. -/
namespace Ev
open PySem PySem.Spec PyProof.Rows L2 PySem.Calls PySem.HandSPX
section
variable {prog : Program} {w : World} {A : Around} {E : Value → Shared → Prop} {R : Result → Shared → Prop} {h : Heap} {g : Array GenState} {d : Drawn} {t : Nat} {os : OsState}
variable {nm q : Str} {C N : Addr} {bs bm : List Value} {hdct : Bool} {sn : List Str} {sub : List Value} {ab : Bool} {col : Option Bool} {dd : Option Addr} {k0 k1 k2 k3 k5 : Option Value}
/-- what is asked of the order's tail -/
structure KeyTail (bm : List Value) : Prop where
  look : bm.contains (.type "LookupError") = true
  noA : bm.contains (.type "AttributeError") = false
  noN : bm.contains (.type "NameError") = false
abbrev kobj (nm q : Str) (C N : Addr) (bs bm : List Value) (hdct : Bool) (sn : List Str) (sub : List Value) (ab : Bool) (col : Option Bool) (dd : Option Addr) (k0 k1 k2 k3 k5 : Option Value) : Obj := excClassObj nm q C N bs bm hdct sn sub ab col dd k0 k1 k2 k3 k5 "LookupError.__new__"
theorem key_new_check {M : Model} (T : KeyTail bm) {rest : List Value} {Q : Unit → Shared → Prop} (hC : h.get? C = some (kobj nm q C N bs bm hdct sn sub ab col dd k0 k1 k2 k3 k5)) (hq : Q () ⟨h, g, d, t, os⟩) :
    wpAny M A (checkBuiltinCall "LookupError.__new__" ⟨.ref C :: rest, []⟩) Q E ⟨h, g, d, t, os⟩ := by
  have F := PySem.F.excBase_LookupError
  have has : (Value.ref C :: bm).contains (.type "LookupError") = true := by
    rw [List.contains_cons, T.look, Bool.or_true]
  have star := F.noStar
  simp only [checkBuiltinCall, F.newKind, F.newSplit, F.newRow]
  repeat (first
    | wp_step
    | refine wpAny_loadPart_at hC ?_
    | (refine wpAny_isSubtype_exc hC ?_; rw [has])
    | refine wpAny_staticBase_exc hC ?_
    | refine wpAny_madeBy_exc hC ?_
    | simp only [bne_self_eq_false, Bool.false_eq_true, if_false])
  exact hq
theorem key_new (T : KeyTail bm) {rest : List Value} (hC : h.get? C = some (kobj nm q C N bs bm hdct sn sub ab col dd k0 k1 k2 k3 k5))
    (hq : R (.ok (.ret (.ref (h.objs.size + 1)))) ⟨(h.push { cls := .type "tuple", data := .seq rest.toArray }).push { cls := .ref C, data := .fields #[.ref h.objs.size, .none, .none, .none, .bool false, .none] }, g, d, t, os⟩) (hrest : rest.length ≤ sizeLine) :
    codeAny (model prog w) A (.builtin "LookupError.__new__" ⟨.ref C :: rest, []⟩) R ⟨h, g, d, t, os⟩ := by
  have F := PySem.F.excBase_LookupError
  have ends := F.ends
  have yes : (Value.ref C :: bm).contains (.type "LookupError") = true := by
    rw [List.contains_cons, T.look, Bool.or_true]
  have no1 : (Value.ref C :: bm).contains (.type "AttributeError") = false := by
    rw [List.contains_cons, T.noA]; rfl
  have no2 : (Value.ref C :: bm).contains (.type "NameError") = false := by
    rw [List.contains_cons, T.noN]; rfl
  refine codeAny_builtinAt F.entry ?_
  unfold Builtin.«BaseException.__new__»
  refine PySem.wpAt_bind ?_
  show PySem.wpAt _ _ _ (stack >>= _) _ _ _
  refine PySem.wpAt_bind (PySem.wpAt_stack fun _ _ => PySem.wpAt_of_wpAny ?_)
  wp_walk
  refine PySem.wpAt_of_wpAny ?_
  rw [F.owner]
  repeat (first
    | with_reducible refine wpAny_madeHere_exc F.canon hC ?_
    | with_reducible refine wpAny_loadPart_at hC ?_
    | (with_reducible refine wpAny_isSubtype_exc hC ?_; first | rw [yes] | rw [no1] | rw [no2])
    | wp_step)
  show R _ _
  rw [Heap.size_push]
  exact hq
theorem key_type_call (T : KeyTail bm) {rest : List Value} {fI : Addr} {Q : Fin → Shared → Prop} (hC : h.get? C = some (kobj nm q C N bs bm hdct sn sub ab col dd k0 k1 k2 k3 k5))
    (hi : W.Looks (model prog w) h (typeLookup (.ref C) "__init__") (some (.ref fI))) (hb : ∀ self, W.Looks (model prog w) h (bindSpecial (.ref fI) self) (.ref fI, [self])) (hrest : rest.length ≤ sizeLine)
    (hq : codeAny (model prog w) A (.call (.ref fI) ⟨.ref (h.objs.size + 1) :: rest, []⟩) (fun r s' => match r with | .ok (.ret v) => v = .none ∧ Q (.done (.ret (.ref (h.objs.size + 1)))) s' | .ok _ => False | .error e => E e s') ⟨(h.push (W.kdv_tup rest)).push (excO C h.objs.size), g, d, t, os⟩) :
    wpAny (model prog w) A (Builtin.«type.__call__» ⟨.ref C :: rest, []⟩) Q E ⟨h, g, d, t, os⟩ := by
  have F := PySem.F.excBase_LookupError
  repeat (first
    | with_reducible refine wpAny_loadPart_at hC ?_
    | with_reducible refine wpAny_madeBy_exc hC ?_
    | wp_step)
  refine codeAny_call_builtin_code (Code.quiet_builtin _ F.quiet) (key_new_check T hC (key_new T hC ?_ hrest))
  show wpAny _ _ _ _ _ _
  have old : ∀ b o, h.get? b = some o → ((h.push (W.kdv_tup rest)).push (excO C h.objs.size)).get? b = some o := fun b o e => Heap.get?_push_of_some _ (Heap.get?_push_of_some _ e)
  have hC2 := old _ _ hC
  have made : ((h.push (W.kdv_tup rest)).push (excO C h.objs.size)).get? (h.objs.size + 1) = some (excO C h.objs.size) := by
    heap_get
  have own : (Value.ref C :: bm).contains (.ref C) = true := by
    simp
  unfold isInstance
  repeat (first
    | with_reducible refine wpAny_loadPart_at made ?_
    | (with_reducible refine wpAny_isSubtype_exc hC2 ?_; rw [own])
    | wp_step)
  show wpAny _ _ (typeLookup (.ref C) _) _ _ _
  refine (hi.keeps old).at (wpAny_holding (wpAny_bind (((hb (.ref (h.objs.size + 1))).keeps old).at ?_)))
  refine wpAny_bind (wpAny_call (codeAny_mono hq ?_))
  intro r s' z
  match r, z with
  | .error e, z => exact z
  | .ok (.ret v), ⟨e, z⟩ =>
    subst e
    first
      | exact wpAny_pure (wpAny_pure z)
      | (wp_walk; exact z)
theorem key_call (T : KeyTail bm) {rest : List Value} {fI : Addr} (hC : h.get? C = some (kobj nm q C N bs bm hdct sn sub ab col dd k0 k1 k2 k3 k5))
    (hi : W.Looks (model prog w) h (typeLookup (.ref C) "__init__") (some (.ref fI))) (hb : ∀ self, W.Looks (model prog w) h (bindSpecial (.ref fI) self) (.ref fI, [self])) (hrest : rest.length ≤ sizeLine)
    (hq : codeAny (model prog w) (A.under (.builtin "type.__call__" ⟨.ref C :: rest, []⟩)) (.call (.ref fI) ⟨.ref (h.objs.size + 1) :: rest, []⟩) (W.InitBack (h.objs.size + 1) R) ⟨(h.push (W.kdv_tup rest)).push (excO C h.objs.size), g, d, t, os⟩) :
    codeAny (model prog w) A (.call (.ref C) ⟨rest, []⟩) R ⟨h, g, d, t, os⟩ := by
  have f1 := tc_lookup
  have f2 := tc_bind (.ref C)
  have ty : (⟨h, g, d, t, os⟩ : Shared).TypeIs (.ref C) "type" := ⟨_, hC, rfl⟩
  refine codeAny_of_tree ?_
  show wpAny _ _ (callAny (.ref C) _) _ _ _
  repeat (any_goals (first
    | assumption
    | with_reducible refine wpAny_loadPart_at hC ?_
    | wp_step))
  refine ⟨rfl, codeAny_call_builtin_at (Code.quiet_builtin _ (by decide +kernel)) entry_typeCall (wpAny_check_type_call_sub hC (key_type_call T hC hi hb hrest (codeAny_mono hq ?_)))⟩
  intro r s' z
  rcases r with e | (v | _ | _ | _) <;> exact z
end
theorem keyTail {bm : List Value} (h : PySem.W.excTail keyBase bm = true) : KeyTail bm :=
  ⟨(PySem.W.excTail_contains _ _ h).trans (by decide +kernel), (PySem.W.excTail_contains _ _ h).trans (by decide +kernel), (PySem.W.excTail_contains _ _ h).trans (by decide +kernel)⟩
theorem store_Key : StoreFacts "KeyError" keyBase "object.__setattr__" "object" := {
  mro := by kernel_rfl, entry := PySem.F.store_LookupError.entry, kind := by decide +kernel, split := by decide +kernel, hasOwner := by decide +kernel
  slot := .of (owner := "object") (n := "__setattr__") (by rw [typeLookup_type, builtinLookup_eq_fast]; kernel_rfl) (by decide +kernel) (by decide +kernel) (by decide +kernel) (by first | exact .inl (by decide +kernel) | exact .inr (by decide +kernel)) (by rw [isSubtype_type]; kernel_rfl)
  args := fun a b c => by (unfold argsOk; kernel_rfl)
  passes := fun self => by (first | kernel_rfl) }
section
variable {X : Cx} {E : En} {F : Hp} {σ : L2.St} {e : Expr} {es : List Expr} {pos : Pos} {C : Addr}
/-! ### the same over KeyError -/
theorem pe_mkK {x : Str} {p0 : Pos} {fI : Addr} {k : Nat} {fd : FuncData} {ps : List Str} {sp : Sp} {ta : TA} (T : GexC X.K C keyBase "LookupError.__new__") (iC : PySem.W.findIn X.K (.ref C) "__init__" = some (some (.ref fI))) (tI : PySem.W.typeIn X.K (.ref fI) = some (.type "function"))
    (F1 : FnOk X.prog X.w X.K X.mg X.base CX0 k fI fd ps sp) (hr : Room (k + 1) X.A) (hb : Binds X.K fd ps []) (hg : Gl X x) (hm : X.mg x = some (.ref C)) (ha : PA X (e :: es) ta)
    (hdb : (x == ("__debug__" : Str)) = false := by decide) (he : starEach (e :: es) X.env = (false, eval e X.env) :: starEach es X.env := by rfl) (hpl : (backTo pos (starEach es X.env)).any (·.1) = false := by rfl) :
    PE X (.Call (.Name x p0) (e :: es) [] pos) (tMkV C sp ta) := ⟨fun pins s σ H Q I hw => by
  obtain ⟨nm, qn, Nn, bs, bm, sn, sub, ab, col, dd, k0, k1, k2, k3, k5, hC, hbm⟩ := T.cls
  refine wpAny_Call_Name_kw (ld_glob I hg hm ?_ hdb)
  refine PySem.W.callWith_K (h₀ := X.base) I.ok.mod.kin T.kC ?_ he hpl
  refine thn (ha.run pos pins s σ H _ I hw) ?_
  rintro us s1 ⟨vs, H1, I1, r1, hz, q1⟩
  refine ⟨I1.kIn, ?_⟩
  obtain ⟨hp, g, dr, tk, os⟩ := s1
  have hq := q1 (hp.objs.size + 1) (I1.hok.fresh (Nat.le_succ hp.objs.size))
  have kk : ∀ b o, hp.get? b = some o → ((hp.push (PySem.W.kdv_tup us)).push (PySem.HandSPX.excO C hp.objs.size)).get? b = some o := fun b o q => Heap.get?_push_of_some _ (Heap.get?_push_of_some _ q)
  have I2 := I1.laid (t' := tk) (a := hp.objs.size + 1) (o := exo (hp.objs.size + 1) C none) (h' := (hp.push (PySem.W.kdv_tup us)).push (PySem.HandSPX.excO C hp.objs.size)) kk (Nat.le_succ _) (exo_ok (by heap_get))
  have r2 : Vals (V.ref (hp.objs.size + 1) :: vs) (Value.ref (hp.objs.size + 1) :: us) := .cons rfl r1
  have hl : (Value.ref (hp.objs.size + 1) :: us).length = ps.length := r2.length.symm.trans (F1.len _ _ _ _ hq)
  have hus : us.length ≤ sizeLine := by
    rw [← r1.length, sizeLine_eq]; omega
  have bind : BindsTo ⟨(hp.push (PySem.W.kdv_tup us)).push (PySem.HandSPX.excO C hp.objs.size), g, dr, tk, os⟩ fd ⟨Value.ref (hp.objs.size + 1) :: us, []⟩ (ps.zip (Value.ref (hp.objs.size + 1) :: us)) := by
    have z := hb ⟨(hp.push (PySem.W.kdv_tup us)).push (PySem.HandSPX.excO C hp.objs.size), g, dr, tk, os⟩ (Value.ref (hp.objs.size + 1) :: us) I2.kIn (by rw [List.append_nil]; exact hl)
    rw [List.append_nil] at z
    exact z
  have body := F1.run _ X.stack _ _ ⟨Value.ref (hp.objs.size + 1) :: us, []⟩ _ _ _ E0 (hr.make C us []) (I2.env0.make C us []) bind r2 hq
  refine wpAny_call (key_call (keyTail hbm) (I1.kIn _ _ hC) (PySem.W.looks_findIn I1.kIn iC) (fun self => PySem.W.bind_fn I1.kIn self tI) hus (codeAny_mono body ?_))
  intro r s' z
  match r, z with
  | .error _, z => exact z.elim
  | .ok (.ret u), z =>
    obtain ⟨v, H2, I3, rv, rfl, q2⟩ := I2.after z
    exact ⟨rv, .ref _, H2, I3, rfl, q2⟩⟩
end
end Ev
/-! Ev13 -/
set_option maxHeartbeats 2000000
/-! The form of a def's theorem. -/
namespace Ev
open PySem PySem.Spec PyProof.Rows L2
abbrev mkE (K : PySem.W.Frag) (ca : Nat → Addr) (HB : Hp) (ω : Nat → V) (δ : Nat → PyData) : En := ⟨K, ca, HB, ω, δ⟩
theorem mkFn2 {P : Program} {w : World} {K : PySem.W.Frag} {mg : Str → Option Value} {base : Heap} {x qual : Str} {st : Stmt} {f : Addr} {fd : FuncData} {names ps : List Str} {k : Nat} {ca : Nat → Addr} {OK : En → Prop} {s : Ms} (Fn : Fun K x qual st f fd) (S : FnScope names ps (defScope st))
    (hs : ∀ (HB : Hp) (ω : Nat → V) (δ : Nat → PyData) (cdv : Value) (A : Around) (outer : List Env) (s0 : Shared) (H : Hp) (Ex : XK), OK (mkE K ca HB ω δ) → (A.deeper (envOfC qual (defScope st) s0.heap.objs.size f cdv)).guards = some [] → Room k (A.deeper (envOfC qual (defScope st) s0.heap.objs.size f cdv)) →
      PSs (cxOf CX0 P w K mg base names qual (defScope st) f cdv A outer s0 H Ex).nox (defBody st) (TSs (mkE K ca HB ω δ) s)) : FnG P w K mg base (k + 1) f fd ps (spF K ca OK ps.length (fBody names.length s)) := by
  refine mkFn Fn S ?_
  rintro ⟨K', ca', HB, ω, δ⟩ cdv A outer s0 H Ex eK eca hO hg hr
  dsimp only at eK eca
  subst eK eca
  exact hs HB ω δ cdv A outer s0 H Ex hO hg hr
theorem start_full {names : List Str} {vs : List V} (h : vs.length = names.length) : L2.start names vs = vs.map some := by
  unfold L2.start
  rw [h]
  simp
theorem spI_len {K : PySem.W.Frag} {C : Addr} {n : Nat} {mk : List V → List (Str × V)} {vs : List V} {H : Hp} {Q : VK} {Ex : XK} (h : spI K C n mk vs H Q Ex) : vs.length = n + 1 := by
  obtain ⟨a, ws, rfl, hl, _⟩ := h
  rw [List.length_cons, hl]
/-- a class whose __init__ stores what it is given -/
def MkOk (P : Program) (w : World) (K : PySem.W.Frag) (mg : Str → Option Value) (base : Heap) (C : Addr) (fs : List (List Nat)) : Prop := ∃ fd ps, FnOk P w K mg base CX0 1 (He.ma K C "__init__") fd ps (spI K C fs.length fun ws => ((fs.map mkS).zip ws).reverse) ∧ Binds K fd ps []
end Ev
/-! K95a -/
set_option maxHeartbeats 0
/-! k95: the top's run, put together. -/
namespace K95
open PySem PySem.Spec PyProof.Rows L2 Ev
abbrev hk : PySem.W.Hook := hookX 5 fa fn chk
def ob (s : PySem.W.SharedT) : AlX := obsX 5 fa fn chk (HandSHeadRun.getT s)
theorem ob_eq (s : PySem.W.SharedT) : ob s = hk.obs s.abs := obsX_eq (HandSHeadRun.getT_eq s)
theorem run (w : World) : HandSHeadRun.RunEq R (PySem.W.view R.prog [52]) hk ob 12000 loose w := by
  intro os
  have a := runA w os
  have b := runB w os
  have c := runC w os
  show (fin w os).map _ = _
  generalize fin w os = x at a b c ⊢
  cases x with
  | none => cases c
  | some s =>
    have a' := Option.some.inj a
    have b' := Option.some.inj b
    have c' := Option.some.inj c
    have a1 := congrArg Prod.fst a'
    have a2 := congrArg Prod.snd a'
    have b1 : (true && (List.lookup sysModules (frX 5 (HandSHeadRun.getT s))).isSome) = true := congrArg Prod.fst b'
    have b2 := congrArg Prod.snd b'
    refine congrArg some (Prod.ext a1 (Prod.ext a2 (Prod.ext ?_ b2)))
    exact Bool.and_eq_true_iff.mpr ⟨c', (Bool.and_eq_true_iff.mp b1).2⟩
end K95
/-! K95b -/
set_option maxHeartbeats 4000000
namespace K95
open PySem PySem.Spec PyProof.Rows L2 Ev
/-! what the checks give -/
def okI (c : Nat) : Bool := Nat.ble 1 c && Nat.ble c 43
def okF (c : Nat) : Bool := Nat.ble 2 c && Nat.ble c 43
def okP : PD → Bool
  | .lst [.opq _, .opq _] => true
  | _ => false
def Okk (E : En) : Prop := OpqOk E ∧ ∀ a b, Shows (.list [E.δ a, E.δ b])
structure Tx (K : PySem.W.Frag) (mg : Str → Option Value) : Prop where
  says : SaysX fa fn chk K
  gl : ∀ (i : Nat) (x : Str), gloN[i]? = some x → mg x = some (.ref (He.ga K x))
  fr : ∀ (i : Nat) (x : Str), freeN[i]? = some x → mg x = none
theorem mem_rng {a b c : Nat} (h1 : a ≤ c) (h2 : c < b) : c ∈ rng a b := List.mem_map.mpr ⟨c - a, List.mem_range.mpr (by omega), by omega⟩
theorem bnd {a b c : Nat} (h : (Nat.ble a c && Nat.ble c b) = true) : a ≤ c ∧ c ≤ b := by
  obtain ⟨h1, h2⟩ := Bool.and_eq_true_iff.mp h
  exact ⟨Nat.le_of_ble_eq_true h1, Nat.le_of_ble_eq_true h2⟩
section
variable {K : PySem.W.Frag} {mg : Str → Option Value}
theorem Tx.c1 (tx : Tx K mg) : chk1 K = true := (Bool.and_eq_true_iff.mp tx.says.1).1
theorem Tx.c2 (tx : Tx K mg) : chk2 K = true := (Bool.and_eq_true_iff.mp (Bool.and_eq_true_iff.mp tx.says.1).2).1
theorem Tx.c3 (tx : Tx K mg) : chk3 K = true := (Bool.and_eq_true_iff.mp (Bool.and_eq_true_iff.mp (Bool.and_eq_true_iff.mp tx.says.1).2).2).1
theorem Tx.c4 (tx : Tx K mg) : chk4 K = true := (Bool.and_eq_true_iff.mp (Bool.and_eq_true_iff.mp (Bool.and_eq_true_iff.mp (Bool.and_eq_true_iff.mp tx.says.1).2).2).2).1
theorem Tx.c5 (tx : Tx K mg) : chk5 K = true := (Bool.and_eq_true_iff.mp (Bool.and_eq_true_iff.mp (Bool.and_eq_true_iff.mp (Bool.and_eq_true_iff.mp (Bool.and_eq_true_iff.mp tx.says.1).2).2).2).2).1
theorem Tx.c6 (tx : Tx K mg) : chk6 K = true := (Bool.and_eq_true_iff.mp (Bool.and_eq_true_iff.mp (Bool.and_eq_true_iff.mp (Bool.and_eq_true_iff.mp (Bool.and_eq_true_iff.mp tx.says.1).2).2).2).2).2
theorem Tx.ex (tx : Tx K mg) {c : Nat} (h : okI c = true) : ExC K (ca K c) ∧ XfC K (ca K c) := by
  obtain ⟨h1, h2⟩ := bnd h
  exact excB_ok (List.all_eq_true.mp tx.c2 c (mem_rng h1 (by omega)))
theorem Tx.no (tx : Tx K mg) {c : Nat} (h : okF c = true) {i : Nat} {f : Str} (hf : flds[i]? = some f) : PySem.W.findIn K (.ref (ca K c)) f = some none := by
  obtain ⟨h1, h2⟩ := bnd h
  exact of_decide_eq_true (List.all_eq_true.mp (List.all_eq_true.mp tx.c3 c (mem_rng h1 (by omega))) f (List.mem_of_getElem? hf))
theorem Tx.kit (tx : Tx K mg) {c k : Nat} (h : okI c = true) (hk : okI k = true) : PySem.W.kitOne K (.ref (ca K c)) (.ref (ca K k)) = some (tab k c) := by
  obtain ⟨h1, h2⟩ := bnd h
  obtain ⟨h3, h4⟩ := bnd hk
  exact of_decide_eq_true (List.all_eq_true.mp (List.all_eq_true.mp tx.c4 c (mem_rng h1 (by omega))) k (mem_rng h3 (by omega)))
theorem Tx.kitB (tx : Tx K mg) {c : Nat} (h : okI c = true) : PySem.W.kitOne K (.ref (ca K c)) (.type "ValueError") = some (Nat.ble c 41) ∧ PySem.W.kitOne K (.ref (ca K c)) (.type "OverflowError") = some (Nat.beq c 42) ∧ PySem.W.kitOne K (.ref (ca K c)) (.type "KeyError") = some (Nat.beq c 43) ∧
    PySem.W.kitAny K (.ref (ca K c)) [.ref (ca K 42), .ref (ca K 43)] = some (Nat.ble 42 c) := by
  obtain ⟨h1, h2⟩ := bnd h
  have q := List.all_eq_true.mp tx.c5 c (mem_rng h1 (by omega))
  obtain ⟨q1, q⟩ := Bool.and_eq_true_iff.mp q
  obtain ⟨q2, q⟩ := Bool.and_eq_true_iff.mp q
  obtain ⟨q3, q4⟩ := Bool.and_eq_true_iff.mp q
  exact ⟨of_decide_eq_true q1, of_decide_eq_true q2, of_decide_eq_true q3, of_decide_eq_true q4⟩
theorem initB_ok {c : Nat} (h : initB K c = true) : PySem.W.findIn K (.ref (ca K c)) "__init__" = some (some (.ref (He.ma K (ca K c) "__init__"))) ∧ PySem.W.typeIn K (.ref (He.ma K (ca K c) "__init__")) = some (.type "function") := by
  obtain ⟨h1, h2⟩ := Bool.and_eq_true_iff.mp h
  exact ⟨of_decide_eq_true h1, of_decide_eq_true h2⟩
theorem Tx.ve (tx : Tx K mg) {c : Nat} (h : (Nat.ble 2 c && Nat.ble c 40) = true) : GexC K (ca K c) He.veBase "ValueError.__new__" ∧ initB K c = true := by
  obtain ⟨h1, h2⟩ := bnd h
  have q := List.all_eq_true.mp (Bool.and_eq_true_iff.mp tx.c1).1 c (mem_rng h1 (by omega))
  obtain ⟨q1, q2⟩ := Bool.and_eq_true_iff.mp q
  exact ⟨gexB_ok q1, q2⟩
theorem Tx.oe (tx : Tx K mg) : GexC K (ca K 42) ofBase "OverflowError.__new__" ∧ initB K 42 = true ∧ GexC K (ca K 43) keyBase "LookupError.__new__" ∧ initB K 43 = true := by
  obtain ⟨q1, q⟩ := Bool.and_eq_true_iff.mp (Bool.and_eq_true_iff.mp tx.c1).2
  obtain ⟨q2, q⟩ := Bool.and_eq_true_iff.mp q
  obtain ⟨q3, q4⟩ := Bool.and_eq_true_iff.mp q
  exact ⟨gexB_ok q1, q2, gexB_ok q3, q4⟩
end
/-! the rules at this text -/
section
variable {X : Cx} {HB : Hp} {ω : Nat → V} {δ : Nat → PyData} {e : Expr} {es : List Expr} {pos p0 p1 p2 : Pos} {x : Str} {m : Me} {a : Ma}
abbrev EE (X : Cx) (HB : Hp) (ω : Nat → V) (δ : Nat → PyData) : En := mkE X.K (ca X.K) HB ω δ
theorem isK (tx : Tx X.K X.mg) (k : Nat) (hk : okI k = true) (hx : x = nmOf k) (p : PE X e (T (EE X HB ω δ) m)) (hg : Gl X "isinstance" := by rfl) (hg2 : Gl X x := by rfl) (hi : gloN[k - 1]? = some x := by rfl) (hdb : (x == ("__debug__" : Str)) = false := by decide)
    (hs : starEach [e, .Name x p1] X.env = (false, eval e X.env) :: starEach [.Name x p1] X.env := by rfl) (hs2 : starEach [.Name x p1] X.env = (false, eval (.Name x p1) X.env) :: starEach [] X.env := by rfl)
    (hpl : (backTo pos (starEach [.Name x p1] X.env)).any (·.1) = false := by rfl) : PE X (.Call (.Name "isinstance" p0) [e, .Name x p1] [] pos) (T (EE X HB ω δ) (mIsX okI (tab k) m)) := by
  subst hx
  exact c_isX okI (tab k) (fun c h => ⟨(tx.ex h).1, tx.kit h hk⟩) (ClsV.own (ca X.K k)) hg (tx.fr 0 _ rfl) p (pe_glob hg2 (tx.gl (k - 1) _ hi) rfl hdb) hs hs2 hpl

theorem isB0 (tx : Tx X.K X.mg) (p : PE X e (T (EE X HB ω δ) m)) (hg : Gl X "isinstance" := by rfl) (hg2 : Gl X "ValueError" := by rfl)
    (hs : starEach [e, .Name "ValueError" p1] X.env = (false, eval e X.env) :: starEach [.Name "ValueError" p1] X.env := by rfl) (hs2 : starEach [.Name "ValueError" p1] X.env = (false, eval (.Name "ValueError" p1) X.env) :: starEach [] X.env := by rfl)
    (hpl : (backTo pos (starEach [.Name "ValueError" p1] X.env)).any (·.1) = false := by rfl) : PE X (.Call (.Name "isinstance" p0) [e, .Name "ValueError" p1] [] pos) (T (EE X HB ω δ) (mIsX okI (fun c => Nat.ble c 41) m)) :=
  c_isX okI _ (fun c h => ⟨(tx.ex h).1, (tx.kitB h).1⟩) (ClsV.ty "ValueError") hg (tx.fr 0 _ rfl) p (pe_bltn hg2 (tx.fr 8 _ rfl) (by decide +kernel : bootBuiltins "ValueError" = some (.type "ValueError")) rfl) hs hs2 hpl
theorem isB1 (tx : Tx X.K X.mg) (p : PE X e (T (EE X HB ω δ) m)) (hg : Gl X "isinstance" := by rfl) (hg2 : Gl X "OverflowError" := by rfl)
    (hs : starEach [e, .Name "OverflowError" p1] X.env = (false, eval e X.env) :: starEach [.Name "OverflowError" p1] X.env := by rfl) (hs2 : starEach [.Name "OverflowError" p1] X.env = (false, eval (.Name "OverflowError" p1) X.env) :: starEach [] X.env := by rfl)
    (hpl : (backTo pos (starEach [.Name "OverflowError" p1] X.env)).any (·.1) = false := by rfl) : PE X (.Call (.Name "isinstance" p0) [e, .Name "OverflowError" p1] [] pos) (T (EE X HB ω δ) (mIsX okI (fun c => Nat.beq c 42) m)) :=
  c_isX okI _ (fun c h => ⟨(tx.ex h).1, (tx.kitB h).2.1⟩) (ClsV.ty "OverflowError") hg (tx.fr 0 _ rfl) p (pe_bltn hg2 (tx.fr 9 _ rfl) (by decide +kernel : bootBuiltins "OverflowError" = some (.type "OverflowError")) rfl) hs hs2 hpl
theorem isB2 (tx : Tx X.K X.mg) (p : PE X e (T (EE X HB ω δ) m)) (hg : Gl X "isinstance" := by rfl) (hg2 : Gl X "KeyError" := by rfl)
    (hs : starEach [e, .Name "KeyError" p1] X.env = (false, eval e X.env) :: starEach [.Name "KeyError" p1] X.env := by rfl) (hs2 : starEach [.Name "KeyError" p1] X.env = (false, eval (.Name "KeyError" p1) X.env) :: starEach [] X.env := by rfl)
    (hpl : (backTo pos (starEach [.Name "KeyError" p1] X.env)).any (·.1) = false := by rfl) : PE X (.Call (.Name "isinstance" p0) [e, .Name "KeyError" p1] [] pos) (T (EE X HB ω δ) (mIsX okI (fun c => Nat.beq c 43) m)) :=
  c_isX okI _ (fun c h => ⟨(tx.ex h).1, (tx.kitB h).2.2.1⟩) (ClsV.ty "KeyError") hg (tx.fr 0 _ rfl) p (pe_bltn hg2 (tx.fr 10 _ rfl) (by decide +kernel : bootBuiltins "KeyError" = some (.type "KeyError")) rfl) hs hs2 hpl
theorem isKT (tx : Tx X.K X.mg) {x1 : Nat} (p : PE X e (T (EE X HB ω δ) m)) (hg : Gl X "isinstance" := by rfl) (hg2 : Gl X "TooMany" := by rfl) (hg3 : Gl X "Missing" := by rfl)
    (hsA : starEach [.Name "TooMany" p1, .Name "Missing" p2] X.env = (false, eval (.Name "TooMany" p1) X.env) :: starEach [.Name "Missing" p2] X.env := by rfl) (hsB : starEach [.Name "Missing" p2] X.env = (false, eval (.Name "Missing" p2) X.env) :: starEach [] X.env := by rfl) {pt : Pos}
    (hs : starEach [e, .Tuple [.Name "TooMany" p1, .Name "Missing" p2] x1 pt] X.env = (false, eval e X.env) :: starEach [.Tuple [.Name "TooMany" p1, .Name "Missing" p2] x1 pt] X.env := by rfl)
    (hs2 : starEach [.Tuple [.Name "TooMany" p1, .Name "Missing" p2] x1 pt] X.env = (false, eval (.Tuple [.Name "TooMany" p1, .Name "Missing" p2] x1 pt) X.env) :: starEach [] X.env := by rfl)
    (hpl : (backTo pos (starEach [.Tuple [.Name "TooMany" p1, .Name "Missing" p2] x1 pt] X.env)).any (·.1) = false := by rfl) : PE X (.Call (.Name "isinstance" p0) [e, .Tuple [.Name "TooMany" p1, .Name "Missing" p2] x1 pt] [] pos) (T (EE X HB ω δ) (mIsX okI (fun c => Nat.ble 42 c) m)) :=
  c_isXT okI _ (fun c h => ⟨(tx.ex h).1, (tx.kitB h).2.2.2⟩) (.cons (ClsV.own (ca X.K 42)) (.cons (ClsV.own (ca X.K 43)) .nil)) hg (tx.fr 0 _ rfl) p
    (imA (pa_cons (pe_glob (v := .ref (ca X.K 42)) hg2 (tx.gl 41 _ rfl) rfl) (pa_cons (pe_glob (v := .ref (ca X.K 43)) hg3 (tx.gl 42 _ rfl) rfl) pa_nil hsB) hsA) fun _ _ _ q => q) (by show 2 ≤ sizeLine; exact sz1000 (by decide)) hs hs2 hpl
theorem fldK (tx : Tx X.K X.mg) (i : Nat) (f : List Nat) {g : Str} (hi : flds[i]? = some g) (hg : g = mkS f) (p : PE X e (T (EE X HB ω δ) m)) (hb : attributeBase e g X.env (eval e X.env) = eval e X.env := by rfl) : PE X (.Attribute e g pos) (T (EE X HB ω δ) (mFld okF f m)) :=
  c_fld okF f rfl hg (fun c h => ⟨(tx.ex (by obtain ⟨h1, h2⟩ := bnd h; exact Bool.and_eq_true_iff.mpr ⟨Nat.ble_eq_true_of_le (by omega), Nat.ble_eq_true_of_le h2⟩)).2, by rw [← hg]; exact tx.no h hi⟩) p hb
theorem mkV (tx : Tx X.K X.mg) (i : Nat) (hi : (Nat.ble 2 i && Nat.ble i 40) = true) {fs : List (List Nat)} (M : MkOk X.prog X.w X.K X.mg X.base (ca X.K i) fs) (hr : Room 2 X.A) (hx : x = nmOf i) (p : PA X (e :: es) (Ts (EE X HB ω δ) a)) (hl : fs.length ≤ 900 := by decide) (hg : Gl X x := by rfl) (hi2 : gloN[i - 1]? = some x := by rfl)
    (hdb : (x == ("__debug__" : Str)) = false := by decide) (he : starEach (e :: es) X.env = (false, eval e X.env) :: starEach es X.env := by rfl) (hpl : (backTo pos (starEach es X.env)).any (·.1) = false := by rfl) : PE X (.Call (.Name x p0) (e :: es) [] pos) (T (EE X HB ω δ) (mMk i fs a)) := by
  subst hx
  obtain ⟨fd, ps, F, b⟩ := M
  obtain ⟨g, ib⟩ := tx.ve hi
  exact c_mk i fs hl p (pe_mkG PySem.F.excBase_ValueError g (initB_ok ib).1 (initB_ok ib).2 F hr b hg (tx.gl (i - 1) _ hi2) p hdb he hpl)
theorem mkOf (tx : Tx X.K X.mg) {fs : List (List Nat)} (M : MkOk X.prog X.w X.K X.mg X.base (ca X.K 42) fs) (hr : Room 2 X.A) (hx : x = nmOf 42) (p : PA X (e :: es) (Ts (EE X HB ω δ) a)) (hl : fs.length ≤ 900 := by decide) (hg : Gl X x := by rfl) (hi2 : gloN[41]? = some x := by rfl)
    (hdb : (x == ("__debug__" : Str)) = false := by decide) (he : starEach (e :: es) X.env = (false, eval e X.env) :: starEach es X.env := by rfl) (hpl : (backTo pos (starEach es X.env)).any (·.1) = false := by rfl) : PE X (.Call (.Name x p0) (e :: es) [] pos) (T (EE X HB ω δ) (mMk 42 fs a)) := by
  subst hx
  obtain ⟨fd, ps, F, b⟩ := M
  exact c_mk 42 fs hl p (pe_mkG PySem.F.excBase_OverflowError tx.oe.1 (initB_ok tx.oe.2.1).1 (initB_ok tx.oe.2.1).2 F hr b hg (tx.gl 41 _ hi2) p hdb he hpl)
theorem mkKe (tx : Tx X.K X.mg) {fs : List (List Nat)} (M : MkOk X.prog X.w X.K X.mg X.base (ca X.K 43) fs) (hr : Room 2 X.A) (hx : x = nmOf 43) (p : PA X (e :: es) (Ts (EE X HB ω δ) a)) (hl : fs.length ≤ 900 := by decide) (hg : Gl X x := by rfl) (hi2 : gloN[42]? = some x := by rfl)
    (hdb : (x == ("__debug__" : Str)) = false := by decide) (he : starEach (e :: es) X.env = (false, eval e X.env) :: starEach es X.env := by rfl) (hpl : (backTo pos (starEach es X.env)).any (·.1) = false := by rfl) : PE X (.Call (.Name x p0) (e :: es) [] pos) (T (EE X HB ω δ) (mMk 43 fs a)) := by
  subst hx
  obtain ⟨fd, ps, F, b⟩ := M
  exact c_mk 43 fs hl p (pe_mkK tx.oe.2.2.1 (initB_ok tx.oe.2.2.2).1 (initB_ok tx.oe.2.2.2).2 F hr b hg (tx.gl 42 _ hi2) p hdb he hpl)
theorem mkZ (tx : Tx X.K X.mg) (i : Nat) (hi : ([1, 41] : List Nat).contains i = true) (hx : x = nmOf i) (p : PE X e (T (EE X HB ω δ) m)) (hg : Gl X x := by rfl) (hi2 : gloN[i - 1]? = some x := by rfl) (hdb : (x == ("__debug__" : Str)) = false := by decide)
    (hs : starEach [e] X.env = (false, eval e X.env) :: starEach [] X.env := by rfl) : PE X (.Call (.Name x p0) [e] [] pos) (T (EE X HB ω δ) (mMk0 i m)) := by
  subst hx
  have q := List.all_eq_true.mp tx.c6 i (by simpa using hi)
  obtain ⟨q1, q2⟩ := Bool.and_eq_true_iff.mp q
  refine c_mk0 i (imE (pe_exc1 PySem.F.excBase_ValueError q1 (tx.gl (i - 1) _ hi2) q2 hg p hs hdb) fun σ H Q q => q)
theorem repK (tx : Tx X.K X.mg) (hO : Okk (EE X HB ω δ)) (hg : X.A.guards = some []) {k : Nat} (hr : Room k X.A) (p : PE X e (T (EE X HB ω δ) m)) (hgl : Gl X "repr" := by rfl)
    (hs : starEach [e] X.env = (false, eval e X.env) :: starEach [] X.env := by rfl) : PE X (.Call (.Name "repr" p0) [e] [] pos) (T (EE X HB ω δ) (mRep okP m)) :=
  c_rep rfl hO.1 (fun p hp => by
    unfold okP at hp
    split at hp
    · exact hO.2 _ _
    · cases hp) hg (by have := hr.units; omega) hgl (tx.fr 1 _ rfl) p hs
theorem callK (tx : Tx X.K X.mg) (i : Nat) {k n : Nat} {f : Mf} {fd : FuncData} {ps : List Str} (F : FnG X.prog X.w X.K X.mg X.base k (He.ga X.K x) fd ps (spF X.K (ca X.K) Okk n f) ∧ PySem.W.keepIn X.K (.ref (He.ga X.K x)) = true ∧ Binds X.K fd ps []) (hO : Okk (EE X HB ω δ)) (hgd : X.A.guards = some []) (hr : Room k X.A)
    (hi : gloN[i]? = some x) (p : PA X (e :: es) (Ts (EE X HB ω δ) a)) (hg : Gl X x := by rfl) (hdb : (x == ("__debug__" : Str)) = false := by decide) (he : starEach (e :: es) X.env = (false, eval e X.env) :: starEach es X.env := by rfl) (hpl : (backTo pos (starEach es X.env)).any (·.1) = false := by rfl) :
    PE X (.Call (.Name x p0) (e :: es) [] pos) (T (EE X HB ω δ) (mCall n f a)) :=
  c_call rfl hO (pe_callG F.1 hgd hr hg (tx.gl i _ hi) F.2.1 F.2.2 p hdb he hpl)
end
theorem type_lcount : typeOf (.builtin "list.count") = pure (.type "method_descriptor") := by first | exact PySem.F.type_list_count | kernel_rfl
/-! the __init__s -/
section
variable {P : Program} {w : World} {K : PySem.W.Frag} {mg : Str → Option Value} {base : Heap}
theorem noF (tx : Tx K mg) (c i : Nat) {l : List Nat} (h : okF c = true := by rfl) (hf : flds[i]? = some (mkS l) := by decide +kernel) : PySem.W.findIn K (.ref (ca K c)) (mkS l) = some none := tx.no h hf
theorem mo2 (tx : Tx K mg) : MkOk P w K mg base (ca K 2) [[112, 97, 114, 116], [110, 117, 109, 98, 101, 114]] := by
  obtain ⟨fd, FD⟩ := tx.says.2.2.def_ 0 rfl
  have Fn : Fun K "__init__" "BadFrame.__init__" s2 (He.ma K (ca K 2) "__init__") fd := fun_of FD
  have sc : FnScope ["self", "part", "number"] ["self", "part", "number"] (defScope s2) := ⟨rfl, rfl, rfl, by decide +kernel, rfl, by decide +kernel, by decide +kernel⟩
  refine ⟨fd, ["self", "part", "number"], Fn.ok sc (fun vs H Q E h => spI_len h) (fun cdv A outer s H vs Q E hr h => ⟨_, pss_cons (ps_ost (pv 0) (pv 1)) (pss_one (ps_ost (pv 0) (pv 2))), ?_⟩), Fn.binds (ps := ["self", "part", "number"]) fun _ _ _ _ _ _ us hl => match us, hl with | [_, _, _], _ => rfl⟩
  rw [start_full (names := ["self", "part", "number"]) (spI_len h)]
  exact init2 (tx.ve (c := 2) rfl).1.oex (noF tx 2 0) (noF tx 2 1) h
theorem mo3 (tx : Tx K mg) : MkOk P w K mg base (ca K 3) [[112, 97, 114, 116], [110, 117, 109, 98, 101, 114]] := by
  obtain ⟨fd, FD⟩ := tx.says.2.2.def_ 1 rfl
  have Fn : Fun K "__init__" "BadLayout.__init__" s3 (He.ma K (ca K 3) "__init__") fd := fun_of FD
  have sc : FnScope ["self", "part", "number"] ["self", "part", "number"] (defScope s3) := ⟨rfl, rfl, rfl, by decide +kernel, rfl, by decide +kernel, by decide +kernel⟩
  refine ⟨fd, ["self", "part", "number"], Fn.ok sc (fun vs H Q E h => spI_len h) (fun cdv A outer s H vs Q E hr h => ⟨_, pss_cons (ps_ost (pv 0) (pv 1)) (pss_one (ps_ost (pv 0) (pv 2))), ?_⟩), Fn.binds (ps := ["self", "part", "number"]) fun _ _ _ _ _ _ us hl => match us, hl with | [_, _, _], _ => rfl⟩
  rw [start_full (names := ["self", "part", "number"]) (spI_len h)]
  exact init2 (tx.ve (c := 3) rfl).1.oex (noF tx 3 0) (noF tx 3 1) h
theorem mo4 (tx : Tx K mg) : MkOk P w K mg base (ca K 4) [[111, 110, 101], [111, 116, 104, 101, 114]] := by
  obtain ⟨fd, FD⟩ := tx.says.2.2.def_ 2 rfl
  have Fn : Fun K "__init__" "BadOrder.__init__" s4 (He.ma K (ca K 4) "__init__") fd := fun_of FD
  have sc : FnScope ["self", "one", "other"] ["self", "one", "other"] (defScope s4) := ⟨rfl, rfl, rfl, by decide +kernel, rfl, by decide +kernel, by decide +kernel⟩
  refine ⟨fd, ["self", "one", "other"], Fn.ok sc (fun vs H Q E h => spI_len h) (fun cdv A outer s H vs Q E hr h => ⟨_, pss_cons (ps_ost (pv 0) (pv 1)) (pss_one (ps_ost (pv 0) (pv 2))), ?_⟩), Fn.binds (ps := ["self", "one", "other"]) fun _ _ _ _ _ _ us hl => match us, hl with | [_, _, _], _ => rfl⟩
  rw [start_full (names := ["self", "one", "other"]) (spI_len h)]
  exact init2 (tx.ve (c := 4) rfl).1.oex (noF tx 4 2) (noF tx 4 3) h
theorem mo5 (tx : Tx K mg) : MkOk P w K mg base (ca K 5) [[108, 105, 110, 101], [112, 108, 97, 99, 101]] := by
  obtain ⟨fd, FD⟩ := tx.says.2.2.def_ 3 rfl
  have Fn : Fun K "__init__" "BadText.__init__" s5 (He.ma K (ca K 5) "__init__") fd := fun_of FD
  have sc : FnScope ["self", "line", "place"] ["self", "line", "place"] (defScope s5) := ⟨rfl, rfl, rfl, by decide +kernel, rfl, by decide +kernel, by decide +kernel⟩
  refine ⟨fd, ["self", "line", "place"], Fn.ok sc (fun vs H Q E h => spI_len h) (fun cdv A outer s H vs Q E hr h => ⟨_, pss_cons (ps_ost (pv 0) (pv 1)) (pss_one (ps_ost (pv 0) (pv 2))), ?_⟩), Fn.binds (ps := ["self", "line", "place"]) fun _ _ _ _ _ _ us hl => match us, hl with | [_, _, _], _ => rfl⟩
  rw [start_full (names := ["self", "line", "place"]) (spI_len h)]
  exact init2 (tx.ve (c := 5) rfl).1.oex (noF tx 5 4) (noF tx 5 5) h
theorem mo6 (tx : Tx K mg) : MkOk P w K mg base (ca K 6) [[112, 108, 97, 99, 101]] := by
  obtain ⟨fd, FD⟩ := tx.says.2.2.def_ 4 rfl
  have Fn : Fun K "__init__" "BadBook.__init__" s6 (He.ma K (ca K 6) "__init__") fd := fun_of FD
  have sc : FnScope ["self", "place"] ["self", "place"] (defScope s6) := ⟨rfl, rfl, rfl, by decide +kernel, rfl, by decide +kernel, by decide +kernel⟩
  refine ⟨fd, ["self", "place"], Fn.ok sc (fun vs H Q E h => spI_len h) (fun cdv A outer s H vs Q E hr h => ⟨_, pss_one (ps_ost (pv 0) (pv 1)), ?_⟩), Fn.binds (ps := ["self", "place"]) fun _ _ _ _ _ _ us hl => match us, hl with | [_, _], _ => rfl⟩
  rw [start_full (names := ["self", "place"]) (spI_len h)]
  exact init1 (tx.ve (c := 6) rfl).1.oex (noF tx 6 5) h
theorem mo7 (tx : Tx K mg) : MkOk P w K mg base (ca K 7) [[112, 108, 97, 99, 101]] := by
  obtain ⟨fd, FD⟩ := tx.says.2.2.def_ 5 rfl
  have Fn : Fun K "__init__" "BadScript.__init__" s7 (He.ma K (ca K 7) "__init__") fd := fun_of FD
  have sc : FnScope ["self", "place"] ["self", "place"] (defScope s7) := ⟨rfl, rfl, rfl, by decide +kernel, rfl, by decide +kernel, by decide +kernel⟩
  refine ⟨fd, ["self", "place"], Fn.ok sc (fun vs H Q E h => spI_len h) (fun cdv A outer s H vs Q E hr h => ⟨_, pss_one (ps_ost (pv 0) (pv 1)), ?_⟩), Fn.binds (ps := ["self", "place"]) fun _ _ _ _ _ _ us hl => match us, hl with | [_, _], _ => rfl⟩
  rw [start_full (names := ["self", "place"]) (spI_len h)]
  exact init1 (tx.ve (c := 7) rfl).1.oex (noF tx 7 5) h
theorem mo8 (tx : Tx K mg) : MkOk P w K mg base (ca K 8) [[112, 108, 97, 99, 101]] := by
  obtain ⟨fd, FD⟩ := tx.says.2.2.def_ 6 rfl
  have Fn : Fun K "__init__" "BadManner.__init__" s8 (He.ma K (ca K 8) "__init__") fd := fun_of FD
  have sc : FnScope ["self", "place"] ["self", "place"] (defScope s8) := ⟨rfl, rfl, rfl, by decide +kernel, rfl, by decide +kernel, by decide +kernel⟩
  refine ⟨fd, ["self", "place"], Fn.ok sc (fun vs H Q E h => spI_len h) (fun cdv A outer s H vs Q E hr h => ⟨_, pss_one (ps_ost (pv 0) (pv 1)), ?_⟩), Fn.binds (ps := ["self", "place"]) fun _ _ _ _ _ _ us hl => match us, hl with | [_, _], _ => rfl⟩
  rw [start_full (names := ["self", "place"]) (spI_len h)]
  exact init1 (tx.ve (c := 8) rfl).1.oex (noF tx 8 5) h
theorem mo9 (tx : Tx K mg) : MkOk P w K mg base (ca K 9) [[112, 108, 97, 99, 101]] := by
  obtain ⟨fd, FD⟩ := tx.says.2.2.def_ 7 rfl
  have Fn : Fun K "__init__" "BadPath.__init__" s9 (He.ma K (ca K 9) "__init__") fd := fun_of FD
  have sc : FnScope ["self", "place"] ["self", "place"] (defScope s9) := ⟨rfl, rfl, rfl, by decide +kernel, rfl, by decide +kernel, by decide +kernel⟩
  refine ⟨fd, ["self", "place"], Fn.ok sc (fun vs H Q E h => spI_len h) (fun cdv A outer s H vs Q E hr h => ⟨_, pss_one (ps_ost (pv 0) (pv 1)), ?_⟩), Fn.binds (ps := ["self", "place"]) fun _ _ _ _ _ _ us hl => match us, hl with | [_, _], _ => rfl⟩
  rw [start_full (names := ["self", "place"]) (spI_len h)]
  exact init1 (tx.ve (c := 9) rfl).1.oex (noF tx 9 5) h
theorem mo10 (tx : Tx K mg) : MkOk P w K mg base (ca K 10) [[110, 117, 109, 98, 101, 114]] := by
  obtain ⟨fd, FD⟩ := tx.says.2.2.def_ 8 rfl
  have Fn : Fun K "__init__" "BadWeaving.__init__" s10 (He.ma K (ca K 10) "__init__") fd := fun_of FD
  have sc : FnScope ["self", "number"] ["self", "number"] (defScope s10) := ⟨rfl, rfl, rfl, by decide +kernel, rfl, by decide +kernel, by decide +kernel⟩
  refine ⟨fd, ["self", "number"], Fn.ok sc (fun vs H Q E h => spI_len h) (fun cdv A outer s H vs Q E hr h => ⟨_, pss_one (ps_ost (pv 0) (pv 1)), ?_⟩), Fn.binds (ps := ["self", "number"]) fun _ _ _ _ _ _ us hl => match us, hl with | [_, _], _ => rfl⟩
  rw [start_full (names := ["self", "number"]) (spI_len h)]
  exact init1 (tx.ve (c := 10) rfl).1.oex (noF tx 10 1) h
theorem mo11 (tx : Tx K mg) : MkOk P w K mg base (ca K 11) [[110, 117, 109, 98, 101, 114]] := by
  obtain ⟨fd, FD⟩ := tx.says.2.2.def_ 9 rfl
  have Fn : Fun K "__init__" "BadRolling.__init__" s11 (He.ma K (ca K 11) "__init__") fd := fun_of FD
  have sc : FnScope ["self", "number"] ["self", "number"] (defScope s11) := ⟨rfl, rfl, rfl, by decide +kernel, rfl, by decide +kernel, by decide +kernel⟩
  refine ⟨fd, ["self", "number"], Fn.ok sc (fun vs H Q E h => spI_len h) (fun cdv A outer s H vs Q E hr h => ⟨_, pss_one (ps_ost (pv 0) (pv 1)), ?_⟩), Fn.binds (ps := ["self", "number"]) fun _ _ _ _ _ _ us hl => match us, hl with | [_, _], _ => rfl⟩
  rw [start_full (names := ["self", "number"]) (spI_len h)]
  exact init1 (tx.ve (c := 11) rfl).1.oex (noF tx 11 1) h
theorem mo12 (tx : Tx K mg) : MkOk P w K mg base (ca K 12) [[110, 117, 109, 98, 101, 114]] := by
  obtain ⟨fd, FD⟩ := tx.says.2.2.def_ 10 rfl
  have Fn : Fun K "__init__" "BadJournal.__init__" s12 (He.ma K (ca K 12) "__init__") fd := fun_of FD
  have sc : FnScope ["self", "number"] ["self", "number"] (defScope s12) := ⟨rfl, rfl, rfl, by decide +kernel, rfl, by decide +kernel, by decide +kernel⟩
  refine ⟨fd, ["self", "number"], Fn.ok sc (fun vs H Q E h => spI_len h) (fun cdv A outer s H vs Q E hr h => ⟨_, pss_one (ps_ost (pv 0) (pv 1)), ?_⟩), Fn.binds (ps := ["self", "number"]) fun _ _ _ _ _ _ us hl => match us, hl with | [_, _], _ => rfl⟩
  rw [start_full (names := ["self", "number"]) (spI_len h)]
  exact init1 (tx.ve (c := 12) rfl).1.oex (noF tx 12 1) h
theorem mo13 (tx : Tx K mg) : MkOk P w K mg base (ca K 13) [[112, 97, 114, 116]] := by
  obtain ⟨fd, FD⟩ := tx.says.2.2.def_ 11 rfl
  have Fn : Fun K "__init__" "BadPaper.__init__" s13 (He.ma K (ca K 13) "__init__") fd := fun_of FD
  have sc : FnScope ["self", "part"] ["self", "part"] (defScope s13) := ⟨rfl, rfl, rfl, by decide +kernel, rfl, by decide +kernel, by decide +kernel⟩
  refine ⟨fd, ["self", "part"], Fn.ok sc (fun vs H Q E h => spI_len h) (fun cdv A outer s H vs Q E hr h => ⟨_, pss_one (ps_ost (pv 0) (pv 1)), ?_⟩), Fn.binds (ps := ["self", "part"]) fun _ _ _ _ _ _ us hl => match us, hl with | [_, _], _ => rfl⟩
  rw [start_full (names := ["self", "part"]) (spI_len h)]
  exact init1 (tx.ve (c := 13) rfl).1.oex (noF tx 13 0) h
theorem mo14 (tx : Tx K mg) : MkOk P w K mg base (ca K 14) [[119, 111, 114, 100]] := by
  obtain ⟨fd, FD⟩ := tx.says.2.2.def_ 12 rfl
  have Fn : Fun K "__init__" "Stopped.__init__" s14 (He.ma K (ca K 14) "__init__") fd := fun_of FD
  have sc : FnScope ["self", "word"] ["self", "word"] (defScope s14) := ⟨rfl, rfl, rfl, by decide +kernel, rfl, by decide +kernel, by decide +kernel⟩
  refine ⟨fd, ["self", "word"], Fn.ok sc (fun vs H Q E h => spI_len h) (fun cdv A outer s H vs Q E hr h => ⟨_, pss_one (ps_ost (pv 0) (pv 1)), ?_⟩), Fn.binds (ps := ["self", "word"]) fun _ _ _ _ _ _ us hl => match us, hl with | [_, _], _ => rfl⟩
  rw [start_full (names := ["self", "word"]) (spI_len h)]
  exact init1 (tx.ve (c := 14) rfl).1.oex (noF tx 14 6) h
theorem mo15 (tx : Tx K mg) : MkOk P w K mg base (ca K 15) [[103, 105, 118, 101, 110]] := by
  obtain ⟨fd, FD⟩ := tx.says.2.2.def_ 13 rfl
  have Fn : Fun K "__init__" "BadName.__init__" s15 (He.ma K (ca K 15) "__init__") fd := fun_of FD
  have sc : FnScope ["self", "given"] ["self", "given"] (defScope s15) := ⟨rfl, rfl, rfl, by decide +kernel, rfl, by decide +kernel, by decide +kernel⟩
  refine ⟨fd, ["self", "given"], Fn.ok sc (fun vs H Q E h => spI_len h) (fun cdv A outer s H vs Q E hr h => ⟨_, pss_one (ps_ost (pv 0) (pv 1)), ?_⟩), Fn.binds (ps := ["self", "given"]) fun _ _ _ _ _ _ us hl => match us, hl with | [_, _], _ => rfl⟩
  rw [start_full (names := ["self", "given"]) (spI_len h)]
  exact init1 (tx.ve (c := 15) rfl).1.oex (noF tx 15 7) h
theorem mo16 (tx : Tx K mg) : MkOk P w K mg base (ca K 16) [[103, 105, 118, 101, 110]] := by
  obtain ⟨fd, FD⟩ := tx.says.2.2.def_ 14 rfl
  have Fn : Fun K "__init__" "BadNames.__init__" s16 (He.ma K (ca K 16) "__init__") fd := fun_of FD
  have sc : FnScope ["self", "given"] ["self", "given"] (defScope s16) := ⟨rfl, rfl, rfl, by decide +kernel, rfl, by decide +kernel, by decide +kernel⟩
  refine ⟨fd, ["self", "given"], Fn.ok sc (fun vs H Q E h => spI_len h) (fun cdv A outer s H vs Q E hr h => ⟨_, pss_one (ps_ost (pv 0) (pv 1)), ?_⟩), Fn.binds (ps := ["self", "given"]) fun _ _ _ _ _ _ us hl => match us, hl with | [_, _], _ => rfl⟩
  rw [start_full (names := ["self", "given"]) (spI_len h)]
  exact init1 (tx.ve (c := 16) rfl).1.oex (noF tx 16 7) h
theorem mo17 (tx : Tx K mg) : MkOk P w K mg base (ca K 17) [[103, 105, 118, 101, 110]] := by
  obtain ⟨fd, FD⟩ := tx.says.2.2.def_ 15 rfl
  have Fn : Fun K "__init__" "BadWorld.__init__" s17 (He.ma K (ca K 17) "__init__") fd := fun_of FD
  have sc : FnScope ["self", "given"] ["self", "given"] (defScope s17) := ⟨rfl, rfl, rfl, by decide +kernel, rfl, by decide +kernel, by decide +kernel⟩
  refine ⟨fd, ["self", "given"], Fn.ok sc (fun vs H Q E h => spI_len h) (fun cdv A outer s H vs Q E hr h => ⟨_, pss_one (ps_ost (pv 0) (pv 1)), ?_⟩), Fn.binds (ps := ["self", "given"]) fun _ _ _ _ _ _ us hl => match us, hl with | [_, _], _ => rfl⟩
  rw [start_full (names := ["self", "given"]) (spI_len h)]
  exact init1 (tx.ve (c := 17) rfl).1.oex (noF tx 17 7) h
theorem mo18 (tx : Tx K mg) : MkOk P w K mg base (ca K 18) [[103, 105, 118, 101, 110]] := by
  obtain ⟨fd, FD⟩ := tx.says.2.2.def_ 16 rfl
  have Fn : Fun K "__init__" "BadCut.__init__" s18 (He.ma K (ca K 18) "__init__") fd := fun_of FD
  have sc : FnScope ["self", "given"] ["self", "given"] (defScope s18) := ⟨rfl, rfl, rfl, by decide +kernel, rfl, by decide +kernel, by decide +kernel⟩
  refine ⟨fd, ["self", "given"], Fn.ok sc (fun vs H Q E h => spI_len h) (fun cdv A outer s H vs Q E hr h => ⟨_, pss_one (ps_ost (pv 0) (pv 1)), ?_⟩), Fn.binds (ps := ["self", "given"]) fun _ _ _ _ _ _ us hl => match us, hl with | [_, _], _ => rfl⟩
  rw [start_full (names := ["self", "given"]) (spI_len h)]
  exact init1 (tx.ve (c := 18) rfl).1.oex (noF tx 18 7) h
theorem mo19 (tx : Tx K mg) : MkOk P w K mg base (ca K 19) [[103, 105, 118, 101, 110]] := by
  obtain ⟨fd, FD⟩ := tx.says.2.2.def_ 17 rfl
  have Fn : Fun K "__init__" "BadCuts.__init__" s19 (He.ma K (ca K 19) "__init__") fd := fun_of FD
  have sc : FnScope ["self", "given"] ["self", "given"] (defScope s19) := ⟨rfl, rfl, rfl, by decide +kernel, rfl, by decide +kernel, by decide +kernel⟩
  refine ⟨fd, ["self", "given"], Fn.ok sc (fun vs H Q E h => spI_len h) (fun cdv A outer s H vs Q E hr h => ⟨_, pss_one (ps_ost (pv 0) (pv 1)), ?_⟩), Fn.binds (ps := ["self", "given"]) fun _ _ _ _ _ _ us hl => match us, hl with | [_, _], _ => rfl⟩
  rw [start_full (names := ["self", "given"]) (spI_len h)]
  exact init1 (tx.ve (c := 19) rfl).1.oex (noF tx 19 7) h
theorem mo20 (tx : Tx K mg) : MkOk P w K mg base (ca K 20) [[103, 105, 118, 101, 110]] := by
  obtain ⟨fd, FD⟩ := tx.says.2.2.def_ 18 rfl
  have Fn : Fun K "__init__" "BadTerm.__init__" s20 (He.ma K (ca K 20) "__init__") fd := fun_of FD
  have sc : FnScope ["self", "given"] ["self", "given"] (defScope s20) := ⟨rfl, rfl, rfl, by decide +kernel, rfl, by decide +kernel, by decide +kernel⟩
  refine ⟨fd, ["self", "given"], Fn.ok sc (fun vs H Q E h => spI_len h) (fun cdv A outer s H vs Q E hr h => ⟨_, pss_one (ps_ost (pv 0) (pv 1)), ?_⟩), Fn.binds (ps := ["self", "given"]) fun _ _ _ _ _ _ us hl => match us, hl with | [_, _], _ => rfl⟩
  rw [start_full (names := ["self", "given"]) (spI_len h)]
  exact init1 (tx.ve (c := 20) rfl).1.oex (noF tx 20 7) h
theorem mo21 (tx : Tx K mg) : MkOk P w K mg base (ca K 21) [[103, 105, 118, 101, 110]] := by
  obtain ⟨fd, FD⟩ := tx.says.2.2.def_ 19 rfl
  have Fn : Fun K "__init__" "BadNumber.__init__" s21 (He.ma K (ca K 21) "__init__") fd := fun_of FD
  have sc : FnScope ["self", "given"] ["self", "given"] (defScope s21) := ⟨rfl, rfl, rfl, by decide +kernel, rfl, by decide +kernel, by decide +kernel⟩
  refine ⟨fd, ["self", "given"], Fn.ok sc (fun vs H Q E h => spI_len h) (fun cdv A outer s H vs Q E hr h => ⟨_, pss_one (ps_ost (pv 0) (pv 1)), ?_⟩), Fn.binds (ps := ["self", "given"]) fun _ _ _ _ _ _ us hl => match us, hl with | [_, _], _ => rfl⟩
  rw [start_full (names := ["self", "given"]) (spI_len h)]
  exact init1 (tx.ve (c := 21) rfl).1.oex (noF tx 21 7) h
theorem mo22 (tx : Tx K mg) : MkOk P w K mg base (ca K 22) [[103, 105, 118, 101, 110]] := by
  obtain ⟨fd, FD⟩ := tx.says.2.2.def_ 20 rfl
  have Fn : Fun K "__init__" "BadPart.__init__" s22 (He.ma K (ca K 22) "__init__") fd := fun_of FD
  have sc : FnScope ["self", "given"] ["self", "given"] (defScope s22) := ⟨rfl, rfl, rfl, by decide +kernel, rfl, by decide +kernel, by decide +kernel⟩
  refine ⟨fd, ["self", "given"], Fn.ok sc (fun vs H Q E h => spI_len h) (fun cdv A outer s H vs Q E hr h => ⟨_, pss_one (ps_ost (pv 0) (pv 1)), ?_⟩), Fn.binds (ps := ["self", "given"]) fun _ _ _ _ _ _ us hl => match us, hl with | [_, _], _ => rfl⟩
  rw [start_full (names := ["self", "given"]) (spI_len h)]
  exact init1 (tx.ve (c := 22) rfl).1.oex (noF tx 22 7) h
theorem mo23 (tx : Tx K mg) : MkOk P w K mg base (ca K 23) [[103, 105, 118, 101, 110]] := by
  obtain ⟨fd, FD⟩ := tx.says.2.2.def_ 21 rfl
  have Fn : Fun K "__init__" "BadTree.__init__" s23 (He.ma K (ca K 23) "__init__") fd := fun_of FD
  have sc : FnScope ["self", "given"] ["self", "given"] (defScope s23) := ⟨rfl, rfl, rfl, by decide +kernel, rfl, by decide +kernel, by decide +kernel⟩
  refine ⟨fd, ["self", "given"], Fn.ok sc (fun vs H Q E h => spI_len h) (fun cdv A outer s H vs Q E hr h => ⟨_, pss_one (ps_ost (pv 0) (pv 1)), ?_⟩), Fn.binds (ps := ["self", "given"]) fun _ _ _ _ _ _ us hl => match us, hl with | [_, _], _ => rfl⟩
  rw [start_full (names := ["self", "given"]) (spI_len h)]
  exact init1 (tx.ve (c := 23) rfl).1.oex (noF tx 23 7) h
theorem mo24 (tx : Tx K mg) : MkOk P w K mg base (ca K 24) [[103, 105, 118, 101, 110]] := by
  obtain ⟨fd, FD⟩ := tx.says.2.2.def_ 22 rfl
  have Fn : Fun K "__init__" "BadAsk.__init__" s24 (He.ma K (ca K 24) "__init__") fd := fun_of FD
  have sc : FnScope ["self", "given"] ["self", "given"] (defScope s24) := ⟨rfl, rfl, rfl, by decide +kernel, rfl, by decide +kernel, by decide +kernel⟩
  refine ⟨fd, ["self", "given"], Fn.ok sc (fun vs H Q E h => spI_len h) (fun cdv A outer s H vs Q E hr h => ⟨_, pss_one (ps_ost (pv 0) (pv 1)), ?_⟩), Fn.binds (ps := ["self", "given"]) fun _ _ _ _ _ _ us hl => match us, hl with | [_, _], _ => rfl⟩
  rw [start_full (names := ["self", "given"]) (spI_len h)]
  exact init1 (tx.ve (c := 24) rfl).1.oex (noF tx 24 7) h
theorem mo25 (tx : Tx K mg) : MkOk P w K mg base (ca K 25) [[103, 105, 118, 101, 110]] := by
  obtain ⟨fd, FD⟩ := tx.says.2.2.def_ 23 rfl
  have Fn : Fun K "__init__" "BadRule.__init__" s25 (He.ma K (ca K 25) "__init__") fd := fun_of FD
  have sc : FnScope ["self", "given"] ["self", "given"] (defScope s25) := ⟨rfl, rfl, rfl, by decide +kernel, rfl, by decide +kernel, by decide +kernel⟩
  refine ⟨fd, ["self", "given"], Fn.ok sc (fun vs H Q E h => spI_len h) (fun cdv A outer s H vs Q E hr h => ⟨_, pss_one (ps_ost (pv 0) (pv 1)), ?_⟩), Fn.binds (ps := ["self", "given"]) fun _ _ _ _ _ _ us hl => match us, hl with | [_, _], _ => rfl⟩
  rw [start_full (names := ["self", "given"]) (spI_len h)]
  exact init1 (tx.ve (c := 25) rfl).1.oex (noF tx 25 7) h
theorem mo26 (tx : Tx K mg) : MkOk P w K mg base (ca K 26) [[103, 105, 118, 101, 110]] := by
  obtain ⟨fd, FD⟩ := tx.says.2.2.def_ 24 rfl
  have Fn : Fun K "__init__" "BadCondition.__init__" s26 (He.ma K (ca K 26) "__init__") fd := fun_of FD
  have sc : FnScope ["self", "given"] ["self", "given"] (defScope s26) := ⟨rfl, rfl, rfl, by decide +kernel, rfl, by decide +kernel, by decide +kernel⟩
  refine ⟨fd, ["self", "given"], Fn.ok sc (fun vs H Q E h => spI_len h) (fun cdv A outer s H vs Q E hr h => ⟨_, pss_one (ps_ost (pv 0) (pv 1)), ?_⟩), Fn.binds (ps := ["self", "given"]) fun _ _ _ _ _ _ us hl => match us, hl with | [_, _], _ => rfl⟩
  rw [start_full (names := ["self", "given"]) (spI_len h)]
  exact init1 (tx.ve (c := 26) rfl).1.oex (noF tx 26 7) h
theorem mo27 (tx : Tx K mg) : MkOk P w K mg base (ca K 27) [[103, 105, 118, 101, 110]] := by
  obtain ⟨fd, FD⟩ := tx.says.2.2.def_ 25 rfl
  have Fn : Fun K "__init__" "BadDeed.__init__" s27 (He.ma K (ca K 27) "__init__") fd := fun_of FD
  have sc : FnScope ["self", "given"] ["self", "given"] (defScope s27) := ⟨rfl, rfl, rfl, by decide +kernel, rfl, by decide +kernel, by decide +kernel⟩
  refine ⟨fd, ["self", "given"], Fn.ok sc (fun vs H Q E h => spI_len h) (fun cdv A outer s H vs Q E hr h => ⟨_, pss_one (ps_ost (pv 0) (pv 1)), ?_⟩), Fn.binds (ps := ["self", "given"]) fun _ _ _ _ _ _ us hl => match us, hl with | [_, _], _ => rfl⟩
  rw [start_full (names := ["self", "given"]) (spI_len h)]
  exact init1 (tx.ve (c := 27) rfl).1.oex (noF tx 27 7) h
theorem mo28 (tx : Tx K mg) : MkOk P w K mg base (ca K 28) [[103, 105, 118, 101, 110]] := by
  obtain ⟨fd, FD⟩ := tx.says.2.2.def_ 26 rfl
  have Fn : Fun K "__init__" "BadStanding.__init__" s28 (He.ma K (ca K 28) "__init__") fd := fun_of FD
  have sc : FnScope ["self", "given"] ["self", "given"] (defScope s28) := ⟨rfl, rfl, rfl, by decide +kernel, rfl, by decide +kernel, by decide +kernel⟩
  refine ⟨fd, ["self", "given"], Fn.ok sc (fun vs H Q E h => spI_len h) (fun cdv A outer s H vs Q E hr h => ⟨_, pss_one (ps_ost (pv 0) (pv 1)), ?_⟩), Fn.binds (ps := ["self", "given"]) fun _ _ _ _ _ _ us hl => match us, hl with | [_, _], _ => rfl⟩
  rw [start_full (names := ["self", "given"]) (spI_len h)]
  exact init1 (tx.ve (c := 28) rfl).1.oex (noF tx 28 7) h
theorem mo29 (tx : Tx K mg) : MkOk P w K mg base (ca K 29) [[103, 105, 118, 101, 110]] := by
  obtain ⟨fd, FD⟩ := tx.says.2.2.def_ 27 rfl
  have Fn : Fun K "__init__" "BadEvent.__init__" s29 (He.ma K (ca K 29) "__init__") fd := fun_of FD
  have sc : FnScope ["self", "given"] ["self", "given"] (defScope s29) := ⟨rfl, rfl, rfl, by decide +kernel, rfl, by decide +kernel, by decide +kernel⟩
  refine ⟨fd, ["self", "given"], Fn.ok sc (fun vs H Q E h => spI_len h) (fun cdv A outer s H vs Q E hr h => ⟨_, pss_one (ps_ost (pv 0) (pv 1)), ?_⟩), Fn.binds (ps := ["self", "given"]) fun _ _ _ _ _ _ us hl => match us, hl with | [_, _], _ => rfl⟩
  rw [start_full (names := ["self", "given"]) (spI_len h)]
  exact init1 (tx.ve (c := 29) rfl).1.oex (noF tx 29 7) h
theorem mo30 (tx : Tx K mg) : MkOk P w K mg base (ca K 30) [[103, 105, 118, 101, 110]] := by
  obtain ⟨fd, FD⟩ := tx.says.2.2.def_ 28 rfl
  have Fn : Fun K "__init__" "BadThing.__init__" s30 (He.ma K (ca K 30) "__init__") fd := fun_of FD
  have sc : FnScope ["self", "given"] ["self", "given"] (defScope s30) := ⟨rfl, rfl, rfl, by decide +kernel, rfl, by decide +kernel, by decide +kernel⟩
  refine ⟨fd, ["self", "given"], Fn.ok sc (fun vs H Q E h => spI_len h) (fun cdv A outer s H vs Q E hr h => ⟨_, pss_one (ps_ost (pv 0) (pv 1)), ?_⟩), Fn.binds (ps := ["self", "given"]) fun _ _ _ _ _ _ us hl => match us, hl with | [_, _], _ => rfl⟩
  rw [start_full (names := ["self", "given"]) (spI_len h)]
  exact init1 (tx.ve (c := 30) rfl).1.oex (noF tx 30 7) h
theorem mo31 (tx : Tx K mg) : MkOk P w K mg base (ca K 31) [[103, 105, 118, 101, 110]] := by
  obtain ⟨fd, FD⟩ := tx.says.2.2.def_ 29 rfl
  have Fn : Fun K "__init__" "BadSort.__init__" s31 (He.ma K (ca K 31) "__init__") fd := fun_of FD
  have sc : FnScope ["self", "given"] ["self", "given"] (defScope s31) := ⟨rfl, rfl, rfl, by decide +kernel, rfl, by decide +kernel, by decide +kernel⟩
  refine ⟨fd, ["self", "given"], Fn.ok sc (fun vs H Q E h => spI_len h) (fun cdv A outer s H vs Q E hr h => ⟨_, pss_one (ps_ost (pv 0) (pv 1)), ?_⟩), Fn.binds (ps := ["self", "given"]) fun _ _ _ _ _ _ us hl => match us, hl with | [_, _], _ => rfl⟩
  rw [start_full (names := ["self", "given"]) (spI_len h)]
  exact init1 (tx.ve (c := 31) rfl).1.oex (noF tx 31 7) h
theorem mo32 (tx : Tx K mg) : MkOk P w K mg base (ca K 32) [[103, 105, 118, 101, 110]] := by
  obtain ⟨fd, FD⟩ := tx.says.2.2.def_ 30 rfl
  have Fn : Fun K "__init__" "BadClaim.__init__" s32 (He.ma K (ca K 32) "__init__") fd := fun_of FD
  have sc : FnScope ["self", "given"] ["self", "given"] (defScope s32) := ⟨rfl, rfl, rfl, by decide +kernel, rfl, by decide +kernel, by decide +kernel⟩
  refine ⟨fd, ["self", "given"], Fn.ok sc (fun vs H Q E h => spI_len h) (fun cdv A outer s H vs Q E hr h => ⟨_, pss_one (ps_ost (pv 0) (pv 1)), ?_⟩), Fn.binds (ps := ["self", "given"]) fun _ _ _ _ _ _ us hl => match us, hl with | [_, _], _ => rfl⟩
  rw [start_full (names := ["self", "given"]) (spI_len h)]
  exact init1 (tx.ve (c := 32) rfl).1.oex (noF tx 32 7) h
theorem mo33 (tx : Tx K mg) : MkOk P w K mg base (ca K 33) [[103, 105, 118, 101, 110]] := by
  obtain ⟨fd, FD⟩ := tx.says.2.2.def_ 31 rfl
  have Fn : Fun K "__init__" "Unbound.__init__" s33 (He.ma K (ca K 33) "__init__") fd := fun_of FD
  have sc : FnScope ["self", "given"] ["self", "given"] (defScope s33) := ⟨rfl, rfl, rfl, by decide +kernel, rfl, by decide +kernel, by decide +kernel⟩
  refine ⟨fd, ["self", "given"], Fn.ok sc (fun vs H Q E h => spI_len h) (fun cdv A outer s H vs Q E hr h => ⟨_, pss_one (ps_ost (pv 0) (pv 1)), ?_⟩), Fn.binds (ps := ["self", "given"]) fun _ _ _ _ _ _ us hl => match us, hl with | [_, _], _ => rfl⟩
  rw [start_full (names := ["self", "given"]) (spI_len h)]
  exact init1 (tx.ve (c := 33) rfl).1.oex (noF tx 33 7) h
theorem mo34 (tx : Tx K mg) : MkOk P w K mg base (ca K 34) [[103, 105, 118, 101, 110]] := by
  obtain ⟨fd, FD⟩ := tx.says.2.2.def_ 32 rfl
  have Fn : Fun K "__init__" "Bound.__init__" s34 (He.ma K (ca K 34) "__init__") fd := fun_of FD
  have sc : FnScope ["self", "given"] ["self", "given"] (defScope s34) := ⟨rfl, rfl, rfl, by decide +kernel, rfl, by decide +kernel, by decide +kernel⟩
  refine ⟨fd, ["self", "given"], Fn.ok sc (fun vs H Q E h => spI_len h) (fun cdv A outer s H vs Q E hr h => ⟨_, pss_one (ps_ost (pv 0) (pv 1)), ?_⟩), Fn.binds (ps := ["self", "given"]) fun _ _ _ _ _ _ us hl => match us, hl with | [_, _], _ => rfl⟩
  rw [start_full (names := ["self", "given"]) (spI_len h)]
  exact init1 (tx.ve (c := 34) rfl).1.oex (noF tx 34 7) h
theorem mo35 (tx : Tx K mg) : MkOk P w K mg base (ca K 35) [[103, 105, 118, 101, 110]] := by
  obtain ⟨fd, FD⟩ := tx.says.2.2.def_ 33 rfl
  have Fn : Fun K "__init__" "Overlaps.__init__" s35 (He.ma K (ca K 35) "__init__") fd := fun_of FD
  have sc : FnScope ["self", "given"] ["self", "given"] (defScope s35) := ⟨rfl, rfl, rfl, by decide +kernel, rfl, by decide +kernel, by decide +kernel⟩
  refine ⟨fd, ["self", "given"], Fn.ok sc (fun vs H Q E h => spI_len h) (fun cdv A outer s H vs Q E hr h => ⟨_, pss_one (ps_ost (pv 0) (pv 1)), ?_⟩), Fn.binds (ps := ["self", "given"]) fun _ _ _ _ _ _ us hl => match us, hl with | [_, _], _ => rfl⟩
  rw [start_full (names := ["self", "given"]) (spI_len h)]
  exact init1 (tx.ve (c := 35) rfl).1.oex (noF tx 35 7) h
theorem mo36 (tx : Tx K mg) : MkOk P w K mg base (ca K 36) [[103, 105, 118, 101, 110]] := by
  obtain ⟨fd, FD⟩ := tx.says.2.2.def_ 34 rfl
  have Fn : Fun K "__init__" "Outside.__init__" s36 (He.ma K (ca K 36) "__init__") fd := fun_of FD
  have sc : FnScope ["self", "given"] ["self", "given"] (defScope s36) := ⟨rfl, rfl, rfl, by decide +kernel, rfl, by decide +kernel, by decide +kernel⟩
  refine ⟨fd, ["self", "given"], Fn.ok sc (fun vs H Q E h => spI_len h) (fun cdv A outer s H vs Q E hr h => ⟨_, pss_one (ps_ost (pv 0) (pv 1)), ?_⟩), Fn.binds (ps := ["self", "given"]) fun _ _ _ _ _ _ us hl => match us, hl with | [_, _], _ => rfl⟩
  rw [start_full (names := ["self", "given"]) (spI_len h)]
  exact init1 (tx.ve (c := 36) rfl).1.oex (noF tx 36 7) h
theorem mo37 (tx : Tx K mg) : MkOk P w K mg base (ca K 37) [[103, 105, 118, 101, 110]] := by
  obtain ⟨fd, FD⟩ := tx.says.2.2.def_ 35 rfl
  have Fn : Fun K "__init__" "NoPart.__init__" s37 (He.ma K (ca K 37) "__init__") fd := fun_of FD
  have sc : FnScope ["self", "given"] ["self", "given"] (defScope s37) := ⟨rfl, rfl, rfl, by decide +kernel, rfl, by decide +kernel, by decide +kernel⟩
  refine ⟨fd, ["self", "given"], Fn.ok sc (fun vs H Q E h => spI_len h) (fun cdv A outer s H vs Q E hr h => ⟨_, pss_one (ps_ost (pv 0) (pv 1)), ?_⟩), Fn.binds (ps := ["self", "given"]) fun _ _ _ _ _ _ us hl => match us, hl with | [_, _], _ => rfl⟩
  rw [start_full (names := ["self", "given"]) (spI_len h)]
  exact init1 (tx.ve (c := 37) rfl).1.oex (noF tx 37 7) h
theorem mo38 (tx : Tx K mg) : MkOk P w K mg base (ca K 38) [[103, 105, 118, 101, 110]] := by
  obtain ⟨fd, FD⟩ := tx.says.2.2.def_ 36 rfl
  have Fn : Fun K "__init__" "Late.__init__" s38 (He.ma K (ca K 38) "__init__") fd := fun_of FD
  have sc : FnScope ["self", "given"] ["self", "given"] (defScope s38) := ⟨rfl, rfl, rfl, by decide +kernel, rfl, by decide +kernel, by decide +kernel⟩
  refine ⟨fd, ["self", "given"], Fn.ok sc (fun vs H Q E h => spI_len h) (fun cdv A outer s H vs Q E hr h => ⟨_, pss_one (ps_ost (pv 0) (pv 1)), ?_⟩), Fn.binds (ps := ["self", "given"]) fun _ _ _ _ _ _ us hl => match us, hl with | [_, _], _ => rfl⟩
  rw [start_full (names := ["self", "given"]) (spI_len h)]
  exact init1 (tx.ve (c := 38) rfl).1.oex (noF tx 38 7) h
theorem mo39 (tx : Tx K mg) : MkOk P w K mg base (ca K 39) [[103, 105, 118, 101, 110]] := by
  obtain ⟨fd, FD⟩ := tx.says.2.2.def_ 37 rfl
  have Fn : Fun K "__init__" "Parts.__init__" s39 (He.ma K (ca K 39) "__init__") fd := fun_of FD
  have sc : FnScope ["self", "given"] ["self", "given"] (defScope s39) := ⟨rfl, rfl, rfl, by decide +kernel, rfl, by decide +kernel, by decide +kernel⟩
  refine ⟨fd, ["self", "given"], Fn.ok sc (fun vs H Q E h => spI_len h) (fun cdv A outer s H vs Q E hr h => ⟨_, pss_one (ps_ost (pv 0) (pv 1)), ?_⟩), Fn.binds (ps := ["self", "given"]) fun _ _ _ _ _ _ us hl => match us, hl with | [_, _], _ => rfl⟩
  rw [start_full (names := ["self", "given"]) (spI_len h)]
  exact init1 (tx.ve (c := 39) rfl).1.oex (noF tx 39 7) h
theorem mo40 (tx : Tx K mg) : MkOk P w K mg base (ca K 40) [[103, 105, 118, 101, 110]] := by
  obtain ⟨fd, FD⟩ := tx.says.2.2.def_ 38 rfl
  have Fn : Fun K "__init__" "Leans.__init__" s40 (He.ma K (ca K 40) "__init__") fd := fun_of FD
  have sc : FnScope ["self", "given"] ["self", "given"] (defScope s40) := ⟨rfl, rfl, rfl, by decide +kernel, rfl, by decide +kernel, by decide +kernel⟩
  refine ⟨fd, ["self", "given"], Fn.ok sc (fun vs H Q E h => spI_len h) (fun cdv A outer s H vs Q E hr h => ⟨_, pss_one (ps_ost (pv 0) (pv 1)), ?_⟩), Fn.binds (ps := ["self", "given"]) fun _ _ _ _ _ _ us hl => match us, hl with | [_, _], _ => rfl⟩
  rw [start_full (names := ["self", "given"]) (spI_len h)]
  exact init1 (tx.ve (c := 40) rfl).1.oex (noF tx 40 7) h
theorem mo42 (tx : Tx K mg) : MkOk P w K mg base (ca K 42) [[109, 111, 115, 116]] := by
  obtain ⟨fd, FD⟩ := tx.says.2.2.def_ 39 rfl
  have Fn : Fun K "__init__" "TooMany.__init__" s42 (He.ma K (ca K 42) "__init__") fd := fun_of FD
  have sc : FnScope ["self", "most"] ["self", "most"] (defScope s42) := ⟨rfl, rfl, rfl, by decide +kernel, rfl, by decide +kernel, by decide +kernel⟩
  refine ⟨fd, ["self", "most"], Fn.ok sc (fun vs H Q E h => spI_len h) (fun cdv A outer s H vs Q E hr h => ⟨_, pss_one (ps_ostG (nid := "OverflowError.__new__") PySem.F.store_OverflowError (pv 0) (pv 1)), ?_⟩), Fn.binds (ps := ["self", "most"]) fun _ _ _ _ _ _ us hl => match us, hl with | [_, _], _ => rfl⟩
  rw [start_full (names := ["self", "most"]) (spI_len h)]
  exact init1G tx.oe.1 (noF tx 42 8) h
theorem mo43 (tx : Tx K mg) : MkOk P w K mg base (ca K 43) [[103, 105, 118, 101, 110]] := by
  obtain ⟨fd, FD⟩ := tx.says.2.2.def_ 40 rfl
  have Fn : Fun K "__init__" "Missing.__init__" s43 (He.ma K (ca K 43) "__init__") fd := fun_of FD
  have sc : FnScope ["self", "given"] ["self", "given"] (defScope s43) := ⟨rfl, rfl, rfl, by decide +kernel, rfl, by decide +kernel, by decide +kernel⟩
  refine ⟨fd, ["self", "given"], Fn.ok sc (fun vs H Q E h => spI_len h) (fun cdv A outer s H vs Q E hr h => ⟨_, pss_one (ps_ostG (nid := "LookupError.__new__") store_Key (pv 0) (pv 1)), ?_⟩), Fn.binds (ps := ["self", "given"]) fun _ _ _ _ _ _ us hl => match us, hl with | [_, _], _ => rfl⟩
  rw [start_full (names := ["self", "given"]) (spI_len h)]
  exact init1G tx.oe.2.2.1 (noF tx 43 7) h
def m49 : Ms := (sSeq (sAsg (mLst (aCons (mIsX okI (tab 2) (mVar 0)) (aCons (mIsX okI (tab 3) (mVar 0)) (aCons (mIsX okI (tab 4) (mVar 0)) aNil)))) (gN 1)) (sSeq (sAsg (mBin fAdd (mVar 1) (mLst (aCons (mIsX okI (tab 5) (mVar 0)) (aCons (mIsX okI (tab 6) (mVar 0)) (aCons (mIsX okI (tab 7) (mVar 0)) aNil))))) (gN 1)) (sSeq (sAsg (mBin fAdd (mVar 1) (mLst (aCons (mIsX okI (tab 8) (mVar 0)) (aCons (mIsX okI (tab 9) (mVar 0)) (aCons (mIsX okI (tab 10) (mVar 0)) aNil))))) (gN 1)) (sSeq (sAsg (mBin fAdd (mVar 1) (mLst (aCons (mIsX okI (tab 11) (mVar 0)) (aCons (mIsX okI (tab 12) (mVar 0)) (aCons (mIsX okI (tab 13) (mVar 0)) aNil))))) (gN 1)) (sSeq (sAsg (mBin fAdd (mVar 1) (mLst (aCons (mIsX okI (tab 14) (mVar 0)) (aCons (mIsX okI (tab 15) (mVar 0)) (aCons (mIsX okI (tab 16) (mVar 0)) aNil))))) (gN 1)) (sSeq (sAsg (mBin fAdd (mVar 1) (mLst (aCons (mIsX okI (tab 17) (mVar 0)) (aCons (mIsX okI (tab 18) (mVar 0)) (aCons (mIsX okI (tab 19) (mVar 0)) aNil))))) (gN 1)) (sSeq (sAsg (mBin fAdd (mVar 1) (mLst (aCons (mIsX okI (tab 20) (mVar 0)) (aCons (mIsX okI (tab 21) (mVar 0)) (aCons (mIsX okI (tab 22) (mVar 0)) aNil))))) (gN 1)) (sSeq (sAsg (mBin fAdd (mVar 1) (mLst (aCons (mIsX okI (tab 23) (mVar 0)) (aCons (mIsX okI (tab 24) (mVar 0)) (aCons (mIsX okI (tab 25) (mVar 0)) aNil))))) (gN 1)) (sSeq (sAsg (mBin fAdd (mVar 1) (mLst (aCons (mIsX okI (tab 26) (mVar 0)) (aCons (mIsX okI (tab 27) (mVar 0)) (aCons (mIsX okI (tab 28) (mVar 0)) aNil))))) (gN 1)) (sSeq (sAsg (mBin fAdd (mVar 1) (mLst (aCons (mIsX okI (tab 29) (mVar 0)) (aCons (mIsX okI (tab 30) (mVar 0)) (aCons (mIsX okI (tab 31) (mVar 0)) aNil))))) (gN 1)) (sSeq (sAsg (mBin fAdd (mVar 1) (mLst (aCons (mIsX okI (tab 32) (mVar 0)) (aCons (mIsX okI (tab 33) (mVar 0)) (aCons (mIsX okI (tab 34) (mVar 0)) aNil))))) (gN 1)) (sSeq (sAsg (mBin fAdd (mVar 1) (mLst (aCons (mIsX okI (tab 35) (mVar 0)) (aCons (mIsX okI (tab 36) (mVar 0)) (aCons (mIsX okI (tab 37) (mVar 0)) aNil))))) (gN 1)) (sSeq (sAsg (mBin fAdd (mVar 1) (mLst (aCons (mIsX okI (tab 38) (mVar 0)) (aCons (mIsX okI (tab 39) (mVar 0)) (aCons (mIsX okI (tab 40) (mVar 0)) aNil))))) (gN 1)) (sSeq (sAsg (mBin fAdd (mVar 1) (mLst (aCons (mIsX okI (tab 41) (mVar 0)) aNil))) (gN 1)) (sRet (mVar 1))))))))))))))))
def f49 : Mf := fBody 2 m49
theorem ok49 (tx : Tx K mg) : ∃ fd, FnG P w K mg base 1 (He.ga K "_law_kinds") fd ["e"] (spF K (ca K) Okk 1 f49) ∧ PySem.W.keepIn K (.ref (He.ga K "_law_kinds")) = true ∧ Binds K fd ["e"] [] := by
  obtain ⟨fd, FD⟩ := tx.says.2.2.def_ 45 rfl
  have Fn : Fun K "_law_kinds" "_law_kinds" s49 (He.ga K "_law_kinds") fd := fun_of FD
  have sc : FnScope ["e", "found"] ["e"] (defScope s49) := ⟨rfl, rfl, rfl, by decide +kernel, rfl, by decide +kernel, by decide +kernel⟩
  have nd := sc.nd
  refine ⟨fd, mkFn2 Fn sc (fun HB ω δ cdv A outer s0 H Ex hO hg hr => ?_), Fn.kp, Fn.binds (ps := ["e"]) fun _ _ _ _ _ _ us hl => match us, hl with | [_], _ => rfl⟩
  exact (c_seq (c_set 1 (ps_set (i := 1) nd rfl (Or.inl rfl) (c_lst (c_cons (isK tx 2 rfl rfl (c_var 0 (pv 0))) (c_cons (isK tx 3 rfl rfl (c_var 0 (pv 0))) (c_cons (isK tx 4 rfl rfl (c_var 0 (pv 0))) c_nil)))))) (c_seq (c_set 1 (ps_set (i := 1) nd rfl (Or.inl rfl) (c_bin op_addX add_s (c_var 1 (pv 1)) (c_lst (c_cons (isK tx 5 rfl rfl (c_var 0 (pv 0))) (c_cons (isK tx 6 rfl rfl (c_var 0 (pv 0))) (c_cons (isK tx 7 rfl rfl (c_var 0 (pv 0))) c_nil))))))) (c_seq (c_set 1 (ps_set (i := 1) nd rfl (Or.inl rfl) (c_bin op_addX add_s (c_var 1 (pv 1)) (c_lst (c_cons (isK tx 8 rfl rfl (c_var 0 (pv 0))) (c_cons (isK tx 9 rfl rfl (c_var 0 (pv 0))) (c_cons (isK tx 10 rfl rfl (c_var 0 (pv 0))) c_nil))))))) (c_seq (c_set 1 (ps_set (i := 1) nd rfl (Or.inl rfl) (c_bin op_addX add_s (c_var 1 (pv 1)) (c_lst (c_cons (isK tx 11 rfl rfl (c_var 0 (pv 0))) (c_cons (isK tx 12 rfl rfl (c_var 0 (pv 0))) (c_cons (isK tx 13 rfl rfl (c_var 0 (pv 0))) c_nil))))))) (c_seq (c_set 1 (ps_set (i := 1) nd rfl (Or.inl rfl) (c_bin op_addX add_s (c_var 1 (pv 1)) (c_lst (c_cons (isK tx 14 rfl rfl (c_var 0 (pv 0))) (c_cons (isK tx 15 rfl rfl (c_var 0 (pv 0))) (c_cons (isK tx 16 rfl rfl (c_var 0 (pv 0))) c_nil))))))) (c_seq (c_set 1 (ps_set (i := 1) nd rfl (Or.inl rfl) (c_bin op_addX add_s (c_var 1 (pv 1)) (c_lst (c_cons (isK tx 17 rfl rfl (c_var 0 (pv 0))) (c_cons (isK tx 18 rfl rfl (c_var 0 (pv 0))) (c_cons (isK tx 19 rfl rfl (c_var 0 (pv 0))) c_nil))))))) (c_seq (c_set 1 (ps_set (i := 1) nd rfl (Or.inl rfl) (c_bin op_addX add_s (c_var 1 (pv 1)) (c_lst (c_cons (isK tx 20 rfl rfl (c_var 0 (pv 0))) (c_cons (isK tx 21 rfl rfl (c_var 0 (pv 0))) (c_cons (isK tx 22 rfl rfl (c_var 0 (pv 0))) c_nil))))))) (c_seq (c_set 1 (ps_set (i := 1) nd rfl (Or.inl rfl) (c_bin op_addX add_s (c_var 1 (pv 1)) (c_lst (c_cons (isK tx 23 rfl rfl (c_var 0 (pv 0))) (c_cons (isK tx 24 rfl rfl (c_var 0 (pv 0))) (c_cons (isK tx 25 rfl rfl (c_var 0 (pv 0))) c_nil))))))) (c_seq (c_set 1 (ps_set (i := 1) nd rfl (Or.inl rfl) (c_bin op_addX add_s (c_var 1 (pv 1)) (c_lst (c_cons (isK tx 26 rfl rfl (c_var 0 (pv 0))) (c_cons (isK tx 27 rfl rfl (c_var 0 (pv 0))) (c_cons (isK tx 28 rfl rfl (c_var 0 (pv 0))) c_nil))))))) (c_seq (c_set 1 (ps_set (i := 1) nd rfl (Or.inl rfl) (c_bin op_addX add_s (c_var 1 (pv 1)) (c_lst (c_cons (isK tx 29 rfl rfl (c_var 0 (pv 0))) (c_cons (isK tx 30 rfl rfl (c_var 0 (pv 0))) (c_cons (isK tx 31 rfl rfl (c_var 0 (pv 0))) c_nil))))))) (c_seq (c_set 1 (ps_set (i := 1) nd rfl (Or.inl rfl) (c_bin op_addX add_s (c_var 1 (pv 1)) (c_lst (c_cons (isK tx 32 rfl rfl (c_var 0 (pv 0))) (c_cons (isK tx 33 rfl rfl (c_var 0 (pv 0))) (c_cons (isK tx 34 rfl rfl (c_var 0 (pv 0))) c_nil))))))) (c_seq (c_set 1 (ps_set (i := 1) nd rfl (Or.inl rfl) (c_bin op_addX add_s (c_var 1 (pv 1)) (c_lst (c_cons (isK tx 35 rfl rfl (c_var 0 (pv 0))) (c_cons (isK tx 36 rfl rfl (c_var 0 (pv 0))) (c_cons (isK tx 37 rfl rfl (c_var 0 (pv 0))) c_nil))))))) (c_seq (c_set 1 (ps_set (i := 1) nd rfl (Or.inl rfl) (c_bin op_addX add_s (c_var 1 (pv 1)) (c_lst (c_cons (isK tx 38 rfl rfl (c_var 0 (pv 0))) (c_cons (isK tx 39 rfl rfl (c_var 0 (pv 0))) (c_cons (isK tx 40 rfl rfl (c_var 0 (pv 0))) c_nil))))))) (c_seq (c_set 1 (ps_set (i := 1) nd rfl (Or.inl rfl) (c_bin op_addX add_s (c_var 1 (pv 1)) (c_lst (c_cons (isK tx 41 rfl rfl (c_var 0 (pv 0))) c_nil))))) (c_one (c_ret (c_var 1 (pv 1))))))))))))))))))
def m50 : Ms := (sSeq (sAsg (mLst (aCons (mMk 2 [[112, 97, 114, 116], [110, 117, 109, 98, 101, 114]] (aCons (mVar 0) (aCons (mVar 1) aNil))) (aCons (mMk 3 [[112, 97, 114, 116], [110, 117, 109, 98, 101, 114]] (aCons (mVar 0) (aCons (mVar 1) aNil))) (aCons (mMk 4 [[111, 110, 101], [111, 116, 104, 101, 114]] (aCons (mVar 0) (aCons (mVar 1) aNil))) (aCons (mMk 5 [[108, 105, 110, 101], [112, 108, 97, 99, 101]] (aCons (mVar 0) (aCons (mVar 1) aNil))) aNil))))) (gN 2)) (sSeq (sAsg (mLst (aCons (mTup (aCons (mBin fIx (mVar 2) (mC (.int 0))) (aCons (mFld okF [112, 97, 114, 116] (mBin fIx (mVar 2) (mC (.int 0)))) (aCons (mFld okF [110, 117, 109, 98, 101, 114] (mBin fIx (mVar 2) (mC (.int 0)))) aNil)))) (aCons (mTup (aCons (mBin fIx (mVar 2) (mC (.int 1))) (aCons (mFld okF [112, 97, 114, 116] (mBin fIx (mVar 2) (mC (.int 1)))) (aCons (mFld okF [110, 117, 109, 98, 101, 114] (mBin fIx (mVar 2) (mC (.int 1)))) aNil)))) aNil))) (gN 3)) (sSeq (sAsg (mBin fAdd (mVar 3) (mLst (aCons (mTup (aCons (mBin fIx (mVar 2) (mC (.int 2))) (aCons (mFld okF [111, 110, 101] (mBin fIx (mVar 2) (mC (.int 2)))) (aCons (mFld okF [111, 116, 104, 101, 114] (mBin fIx (mVar 2) (mC (.int 2)))) aNil)))) (aCons (mTup (aCons (mBin fIx (mVar 2) (mC (.int 3))) (aCons (mFld okF [108, 105, 110, 101] (mBin fIx (mVar 2) (mC (.int 3)))) (aCons (mFld okF [112, 108, 97, 99, 101] (mBin fIx (mVar 2) (mC (.int 3)))) aNil)))) aNil)))) (gN 3)) (sSeq (sAsg (mLst (aCons (mMk 6 [[112, 108, 97, 99, 101]] (aCons (mVar 0) aNil)) (aCons (mMk 7 [[112, 108, 97, 99, 101]] (aCons (mVar 0) aNil)) (aCons (mMk 8 [[112, 108, 97, 99, 101]] (aCons (mVar 0) aNil)) (aCons (mMk 9 [[112, 108, 97, 99, 101]] (aCons (mVar 0) aNil)) aNil))))) (gN 4)) (sSeq (sAsg (mLst (aCons (mMk 10 [[110, 117, 109, 98, 101, 114]] (aCons (mVar 0) aNil)) (aCons (mMk 11 [[110, 117, 109, 98, 101, 114]] (aCons (mVar 0) aNil)) (aCons (mMk 12 [[110, 117, 109, 98, 101, 114]] (aCons (mVar 0) aNil)) aNil)))) (gN 5)) (sSeq (sAsg (mLst (aCons (mMk 15 [[103, 105, 118, 101, 110]] (aCons (mVar 0) aNil)) (aCons (mMk 16 [[103, 105, 118, 101, 110]] (aCons (mVar 0) aNil)) (aCons (mMk 17 [[103, 105, 118, 101, 110]] (aCons (mVar 0) aNil)) (aCons (mMk 18 [[103, 105, 118, 101, 110]] (aCons (mVar 0) aNil)) (aCons (mMk 19 [[103, 105, 118, 101, 110]] (aCons (mVar 0) aNil)) (aCons (mMk 20 [[103, 105, 118, 101, 110]] (aCons (mVar 0) aNil)) aNil))))))) (gN 6)) (sSeq (sAsg (mBin fAdd (mVar 6) (mLst (aCons (mMk 21 [[103, 105, 118, 101, 110]] (aCons (mVar 0) aNil)) (aCons (mMk 22 [[103, 105, 118, 101, 110]] (aCons (mVar 0) aNil)) (aCons (mMk 23 [[103, 105, 118, 101, 110]] (aCons (mVar 0) aNil)) (aCons (mMk 24 [[103, 105, 118, 101, 110]] (aCons (mVar 0) aNil)) (aCons (mMk 25 [[103, 105, 118, 101, 110]] (aCons (mVar 0) aNil)) (aCons (mMk 26 [[103, 105, 118, 101, 110]] (aCons (mVar 0) aNil)) aNil)))))))) (gN 6)) (sSeq (sAsg (mBin fAdd (mVar 6) (mLst (aCons (mMk 27 [[103, 105, 118, 101, 110]] (aCons (mVar 0) aNil)) (aCons (mMk 28 [[103, 105, 118, 101, 110]] (aCons (mVar 0) aNil)) (aCons (mMk 29 [[103, 105, 118, 101, 110]] (aCons (mVar 0) aNil)) (aCons (mMk 30 [[103, 105, 118, 101, 110]] (aCons (mVar 0) aNil)) (aCons (mMk 31 [[103, 105, 118, 101, 110]] (aCons (mVar 0) aNil)) aNil))))))) (gN 6)) (sSeq (sAsg (mBin fAdd (mVar 6) (mLst (aCons (mMk 32 [[103, 105, 118, 101, 110]] (aCons (mVar 0) aNil)) (aCons (mMk 33 [[103, 105, 118, 101, 110]] (aCons (mVar 0) aNil)) (aCons (mMk 34 [[103, 105, 118, 101, 110]] (aCons (mVar 0) aNil)) (aCons (mMk 35 [[103, 105, 118, 101, 110]] (aCons (mVar 0) aNil)) (aCons (mMk 36 [[103, 105, 118, 101, 110]] (aCons (mVar 0) aNil)) (aCons (mMk 37 [[103, 105, 118, 101, 110]] (aCons (mVar 0) aNil)) aNil)))))))) (gN 6)) (sSeq (sAsg (mBin fAdd (mVar 6) (mLst (aCons (mMk 38 [[103, 105, 118, 101, 110]] (aCons (mVar 0) aNil)) (aCons (mMk 39 [[103, 105, 118, 101, 110]] (aCons (mVar 0) aNil)) (aCons (mMk 40 [[103, 105, 118, 101, 110]] (aCons (mVar 0) aNil)) aNil))))) (gN 6)) (sSeq (sAsg (mBin fAdd (mBin fAdd (mVar 3) (mLc 9 (mVar 4) (mTup (aCons (mVar 9) (aCons (mFld okF [112, 108, 97, 99, 101] (mVar 9)) (aCons (mVar 1) aNil)))))) (mLc 9 (mVar 5) (mTup (aCons (mVar 9) (aCons (mFld okF [110, 117, 109, 98, 101, 114] (mVar 9)) (aCons (mVar 1) aNil)))))) (gN 3)) (sSeq (sPar2 7 8 (aCons (mMk 13 [[112, 97, 114, 116]] (aCons (mVar 0) aNil)) (aCons (mMk 14 [[119, 111, 114, 100]] (aCons (mVar 0) aNil)) aNil))) (sSeq (sAsg (mBin fAdd (mVar 3) (mLst (aCons (mTup (aCons (mVar 7) (aCons (mFld okF [112, 97, 114, 116] (mVar 7)) (aCons (mVar 1) aNil)))) (aCons (mTup (aCons (mVar 8) (aCons (mFld okF [119, 111, 114, 100] (mVar 8)) (aCons (mVar 1) aNil)))) aNil)))) (gN 3)) (sRet (mBin fAdd (mBin fAdd (mVar 3) (mLc 9 (mVar 6) (mTup (aCons (mVar 9) (aCons (mFld okF [103, 105, 118, 101, 110] (mVar 9)) (aCons (mVar 1) aNil)))))) (mLst (aCons (mTup (aCons (mMk0 41 (mC (.str [97, 32, 116, 101, 120, 116]))) (aCons (mVar 0) (aCons (mVar 1) aNil)))) aNil)))))))))))))))))
def f50 : Mf := fBody 10 m50
theorem ok50 (tx : Tx K mg) : ∃ fd, FnG P w K mg base 3 (He.ga K "_law_made") fd ["one", "other"] (spF K (ca K) Okk 2 f50) ∧ PySem.W.keepIn K (.ref (He.ga K "_law_made")) = true ∧ Binds K fd ["one", "other"] [] := by
  obtain ⟨fd, FD⟩ := tx.says.2.2.def_ 46 rfl
  have Fn : Fun K "_law_made" "_law_made" s50 (He.ga K "_law_made") fd := fun_of FD
  have sc : FnScope ["one", "other", "pairs", "rows", "places", "numbers", "givens", "paper", "stop", "e"] ["one", "other"] (defScope s50) := ⟨rfl, rfl, rfl, by decide +kernel, rfl, by decide +kernel, by decide +kernel⟩
  have nd := sc.nd
  refine ⟨fd, mkFn2 Fn sc (fun HB ω δ cdv A outer s0 H Ex hO hg hr => ?_), Fn.kp, Fn.binds (ps := ["one", "other"]) fun _ _ _ _ _ _ us hl => match us, hl with | [_, _], _ => rfl⟩
  exact (c_seq (c_set 2 (ps_set (i := 2) nd rfl (Or.inl rfl) (c_lst (c_cons (mkV tx 2 rfl (mo2 tx) hr rfl (c_cons (c_var 0 (pv 0)) (c_cons (c_var 1 (pv 1)) c_nil))) (c_cons (mkV tx 3 rfl (mo3 tx) hr rfl (c_cons (c_var 0 (pv 0)) (c_cons (c_var 1 (pv 1)) c_nil))) (c_cons (mkV tx 4 rfl (mo4 tx) hr rfl (c_cons (c_var 0 (pv 0)) (c_cons (c_var 1 (pv 1)) c_nil))) (c_cons (mkV tx 5 rfl (mo5 tx) hr rfl (c_cons (c_var 0 (pv 0)) (c_cons (c_var 1 (pv 1)) c_nil))) c_nil))))))) (c_seq (c_set 3 (ps_set (i := 3) nd rfl (Or.inl rfl) (c_lst (c_cons (c_tup (c_cons (c_ix ix_list (ix_s rfl) (c_var 2 (pv 2)) c_int (fun _ _ => rfl)) (c_cons (fldK tx 0 [112, 97, 114, 116] rfl (by decide +kernel) (c_ix ix_list (ix_s rfl) (c_var 2 (pv 2)) c_int (fun _ _ => rfl))) (c_cons (fldK tx 1 [110, 117, 109, 98, 101, 114] rfl (by decide +kernel) (c_ix ix_list (ix_s rfl) (c_var 2 (pv 2)) c_int (fun _ _ => rfl))) c_nil)))) (c_cons (c_tup (c_cons (c_ix ix_list (ix_s rfl) (c_var 2 (pv 2)) c_int (fun _ _ => rfl)) (c_cons (fldK tx 0 [112, 97, 114, 116] rfl (by decide +kernel) (c_ix ix_list (ix_s rfl) (c_var 2 (pv 2)) c_int (fun _ _ => rfl))) (c_cons (fldK tx 1 [110, 117, 109, 98, 101, 114] rfl (by decide +kernel) (c_ix ix_list (ix_s rfl) (c_var 2 (pv 2)) c_int (fun _ _ => rfl))) c_nil)))) c_nil))))) (c_seq (c_set 3 (ps_set (i := 3) nd rfl (Or.inl rfl) (c_bin op_addX add_s (c_var 3 (pv 3)) (c_lst (c_cons (c_tup (c_cons (c_ix ix_list (ix_s rfl) (c_var 2 (pv 2)) c_int (fun _ _ => rfl)) (c_cons (fldK tx 2 [111, 110, 101] rfl (by decide +kernel) (c_ix ix_list (ix_s rfl) (c_var 2 (pv 2)) c_int (fun _ _ => rfl))) (c_cons (fldK tx 3 [111, 116, 104, 101, 114] rfl (by decide +kernel) (c_ix ix_list (ix_s rfl) (c_var 2 (pv 2)) c_int (fun _ _ => rfl))) c_nil)))) (c_cons (c_tup (c_cons (c_ix ix_list (ix_s rfl) (c_var 2 (pv 2)) c_int (fun _ _ => rfl)) (c_cons (fldK tx 4 [108, 105, 110, 101] rfl (by decide +kernel) (c_ix ix_list (ix_s rfl) (c_var 2 (pv 2)) c_int (fun _ _ => rfl))) (c_cons (fldK tx 5 [112, 108, 97, 99, 101] rfl (by decide +kernel) (c_ix ix_list (ix_s rfl) (c_var 2 (pv 2)) c_int (fun _ _ => rfl))) c_nil)))) c_nil)))))) (c_seq (c_set 4 (ps_set (i := 4) nd rfl (Or.inl rfl) (c_lst (c_cons (mkV tx 6 rfl (mo6 tx) hr rfl (c_cons (c_var 0 (pv 0)) c_nil)) (c_cons (mkV tx 7 rfl (mo7 tx) hr rfl (c_cons (c_var 0 (pv 0)) c_nil)) (c_cons (mkV tx 8 rfl (mo8 tx) hr rfl (c_cons (c_var 0 (pv 0)) c_nil)) (c_cons (mkV tx 9 rfl (mo9 tx) hr rfl (c_cons (c_var 0 (pv 0)) c_nil)) c_nil))))))) (c_seq (c_set 5 (ps_set (i := 5) nd rfl (Or.inl rfl) (c_lst (c_cons (mkV tx 10 rfl (mo10 tx) hr rfl (c_cons (c_var 0 (pv 0)) c_nil)) (c_cons (mkV tx 11 rfl (mo11 tx) hr rfl (c_cons (c_var 0 (pv 0)) c_nil)) (c_cons (mkV tx 12 rfl (mo12 tx) hr rfl (c_cons (c_var 0 (pv 0)) c_nil)) c_nil)))))) (c_seq (c_set 6 (ps_set (i := 6) nd rfl (Or.inl rfl) (c_lst (c_cons (mkV tx 15 rfl (mo15 tx) hr rfl (c_cons (c_var 0 (pv 0)) c_nil)) (c_cons (mkV tx 16 rfl (mo16 tx) hr rfl (c_cons (c_var 0 (pv 0)) c_nil)) (c_cons (mkV tx 17 rfl (mo17 tx) hr rfl (c_cons (c_var 0 (pv 0)) c_nil)) (c_cons (mkV tx 18 rfl (mo18 tx) hr rfl (c_cons (c_var 0 (pv 0)) c_nil)) (c_cons (mkV tx 19 rfl (mo19 tx) hr rfl (c_cons (c_var 0 (pv 0)) c_nil)) (c_cons (mkV tx 20 rfl (mo20 tx) hr rfl (c_cons (c_var 0 (pv 0)) c_nil)) c_nil))))))))) (c_seq (c_set 6 (ps_set (i := 6) nd rfl (Or.inl rfl) (c_bin op_addX add_s (c_var 6 (pv 6)) (c_lst (c_cons (mkV tx 21 rfl (mo21 tx) hr rfl (c_cons (c_var 0 (pv 0)) c_nil)) (c_cons (mkV tx 22 rfl (mo22 tx) hr rfl (c_cons (c_var 0 (pv 0)) c_nil)) (c_cons (mkV tx 23 rfl (mo23 tx) hr rfl (c_cons (c_var 0 (pv 0)) c_nil)) (c_cons (mkV tx 24 rfl (mo24 tx) hr rfl (c_cons (c_var 0 (pv 0)) c_nil)) (c_cons (mkV tx 25 rfl (mo25 tx) hr rfl (c_cons (c_var 0 (pv 0)) c_nil)) (c_cons (mkV tx 26 rfl (mo26 tx) hr rfl (c_cons (c_var 0 (pv 0)) c_nil)) c_nil)))))))))) (c_seq (c_set 6 (ps_set (i := 6) nd rfl (Or.inl rfl) (c_bin op_addX add_s (c_var 6 (pv 6)) (c_lst (c_cons (mkV tx 27 rfl (mo27 tx) hr rfl (c_cons (c_var 0 (pv 0)) c_nil)) (c_cons (mkV tx 28 rfl (mo28 tx) hr rfl (c_cons (c_var 0 (pv 0)) c_nil)) (c_cons (mkV tx 29 rfl (mo29 tx) hr rfl (c_cons (c_var 0 (pv 0)) c_nil)) (c_cons (mkV tx 30 rfl (mo30 tx) hr rfl (c_cons (c_var 0 (pv 0)) c_nil)) (c_cons (mkV tx 31 rfl (mo31 tx) hr rfl (c_cons (c_var 0 (pv 0)) c_nil)) c_nil))))))))) (c_seq (c_set 6 (ps_set (i := 6) nd rfl (Or.inl rfl) (c_bin op_addX add_s (c_var 6 (pv 6)) (c_lst (c_cons (mkV tx 32 rfl (mo32 tx) hr rfl (c_cons (c_var 0 (pv 0)) c_nil)) (c_cons (mkV tx 33 rfl (mo33 tx) hr rfl (c_cons (c_var 0 (pv 0)) c_nil)) (c_cons (mkV tx 34 rfl (mo34 tx) hr rfl (c_cons (c_var 0 (pv 0)) c_nil)) (c_cons (mkV tx 35 rfl (mo35 tx) hr rfl (c_cons (c_var 0 (pv 0)) c_nil)) (c_cons (mkV tx 36 rfl (mo36 tx) hr rfl (c_cons (c_var 0 (pv 0)) c_nil)) (c_cons (mkV tx 37 rfl (mo37 tx) hr rfl (c_cons (c_var 0 (pv 0)) c_nil)) c_nil)))))))))) (c_seq (c_set 6 (ps_set (i := 6) nd rfl (Or.inl rfl) (c_bin op_addX add_s (c_var 6 (pv 6)) (c_lst (c_cons (mkV tx 38 rfl (mo38 tx) hr rfl (c_cons (c_var 0 (pv 0)) c_nil)) (c_cons (mkV tx 39 rfl (mo39 tx) hr rfl (c_cons (c_var 0 (pv 0)) c_nil)) (c_cons (mkV tx 40 rfl (mo40 tx) hr rfl (c_cons (c_var 0 (pv 0)) c_nil)) c_nil))))))) (c_seq (c_set 3 (ps_set (i := 3) nd rfl (Or.inl rfl) (c_bin op_addX add_s (c_bin op_addX add_s (c_var 3 (pv 3)) (c_lc 9 rfl (pe_lc (own := [("e", 9)]) (g := gName 9) (tt := tYes) rfl nd (pi_list (c_var 4 (pv 4))) (blkOk_by (N := ["one", "other", "pairs", "rows", "places", "numbers", "givens", "paper", "stop", "e"]) (sc := defScope s50) (by decide +kernel)) (fun _ _ _ _ _ => pg_name (i := 9) nd rfl (Or.inl rfl)) (fun _ _ _ _ _ => pts_nil) (fun _ _ _ _ _ => (c_tup (c_cons (c_var 9 (pv 9)) (c_cons (fldK tx 5 [112, 108, 97, 99, 101] rfl (by decide +kernel) (c_var 9 (pv 9))) (c_cons (c_var 1 (pv 1)) c_nil)))))))) (c_lc 9 rfl (pe_lc (own := [("e", 9)]) (g := gName 9) (tt := tYes) rfl nd (pi_list (c_var 5 (pv 5))) (blkOk_by (N := ["one", "other", "pairs", "rows", "places", "numbers", "givens", "paper", "stop", "e"]) (sc := defScope s50) (by decide +kernel)) (fun _ _ _ _ _ => pg_name (i := 9) nd rfl (Or.inl rfl)) (fun _ _ _ _ _ => pts_nil) (fun _ _ _ _ _ => (c_tup (c_cons (c_var 9 (pv 9)) (c_cons (fldK tx 1 [110, 117, 109, 98, 101, 114] rfl (by decide +kernel) (c_var 9 (pv 9))) (c_cons (c_var 1 (pv 1)) c_nil)))))))))) (c_seq (c_par2 7 8 (ps_par rfl nd rfl rfl (by decide) rfl rfl (c_cons (mkV tx 13 rfl (mo13 tx) hr rfl (c_cons (c_var 0 (pv 0)) c_nil)) (c_cons (mkV tx 14 rfl (mo14 tx) hr rfl (c_cons (c_var 0 (pv 0)) c_nil)) c_nil)) (by rfl))) (c_seq (c_set 3 (ps_set (i := 3) nd rfl (Or.inl rfl) (c_bin op_addX add_s (c_var 3 (pv 3)) (c_lst (c_cons (c_tup (c_cons (c_var 7 (pv 7)) (c_cons (fldK tx 0 [112, 97, 114, 116] rfl (by decide +kernel) (c_var 7 (pv 7))) (c_cons (c_var 1 (pv 1)) c_nil)))) (c_cons (c_tup (c_cons (c_var 8 (pv 8)) (c_cons (fldK tx 6 [119, 111, 114, 100] rfl (by decide +kernel) (c_var 8 (pv 8))) (c_cons (c_var 1 (pv 1)) c_nil)))) c_nil)))))) (c_one (c_ret (c_bin op_addX add_s (c_bin op_addX add_s (c_var 3 (pv 3)) (c_lc 9 rfl (pe_lc (own := [("e", 9)]) (g := gName 9) (tt := tYes) rfl nd (pi_list (c_var 6 (pv 6))) (blkOk_by (N := ["one", "other", "pairs", "rows", "places", "numbers", "givens", "paper", "stop", "e"]) (sc := defScope s50) (by decide +kernel)) (fun _ _ _ _ _ => pg_name (i := 9) nd rfl (Or.inl rfl)) (fun _ _ _ _ _ => pts_nil) (fun _ _ _ _ _ => (c_tup (c_cons (c_var 9 (pv 9)) (c_cons (fldK tx 7 [103, 105, 118, 101, 110] rfl (by decide +kernel) (c_var 9 (pv 9))) (c_cons (c_var 1 (pv 1)) c_nil)))))))) (c_lst (c_cons (c_tup (c_cons (mkZ tx 41 rfl rfl (c_str [97, 32, 116, 101, 120, 116] (by decide +kernel))) (c_cons (c_var 0 (pv 0)) (c_cons (c_var 1 (pv 1)) c_nil)))) c_nil))))))))))))))))))
def m51 : Ms := (sSeq (sPar3 1 2 3 (aCons (mMk 42 [[109, 111, 115, 116]] (aCons (mVar 0) aNil)) (aCons (mMk 43 [[103, 105, 118, 101, 110]] (aCons (mVar 0) aNil)) (aCons (mMk0 1 (mC (.str [114, 101, 102, 117, 115, 101, 100]))) aNil)))) (sSeq (sIf (mTst (mBin fNe (mRep okP (mLst (aCons (mFld okF [109, 111, 115, 116] (mVar 1)) (aCons (mFld okF [103, 105, 118, 101, 110] (mVar 2)) aNil)))) (mRep okP (mLst (aCons (mVar 0) (aCons (mVar 0) aNil)))))) (sRet (mC (.bl false))) sNil) (sSeq (sIf (tOrM (tNotM (mTst (mIsX okI (fun c => Nat.beq c 42) (mVar 1)))) (tOrM (tNotM (mTst (mIsX okI (fun c => Nat.beq c 43) (mVar 2)))) (tNotM (mTst (mIsX okI (fun c => Nat.ble c 41) (mVar 3)))))) (sRet (mC (.bl false))) sNil) (sSeq (sIf (tOrM (mTst (mIsX okI (tab 1) (mVar 1))) (tOrM (mTst (mIsX okI (tab 1) (mVar 2))) (mTst (mIsX okI (fun c => Nat.ble 42 c) (mVar 3))))) (sRet (mC (.bl false))) sNil) (sRet (mBin (fIn true) (mC (.bl true)) (mBin fAdd (mBin fAdd (mCall 1 f49 (aCons (mVar 1) aNil)) (mCall 1 f49 (aCons (mVar 2) aNil))) (mCall 1 f49 (aCons (mVar 3) aNil)))))))))
def f51 : Mf := fBody 4 m51
theorem ok51 (tx : Tx K mg) : ∃ fd, FnG P w K mg base 3 (He.ga K "_law_others_right") fd ["one"] (spF K (ca K) Okk 1 f51) ∧ PySem.W.keepIn K (.ref (He.ga K "_law_others_right")) = true ∧ Binds K fd ["one"] [] := by
  obtain ⟨fd, FD⟩ := tx.says.2.2.def_ 47 rfl
  have Fn : Fun K "_law_others_right" "_law_others_right" s51 (He.ga K "_law_others_right") fd := fun_of FD
  obtain ⟨fd49, F49⟩ := ok49 (P := P) (w := w) (base := base) tx
  have sc : FnScope ["one", "many", "gone", "bare"] ["one"] (defScope s51) := ⟨rfl, rfl, rfl, by decide +kernel, rfl, by decide +kernel, by decide +kernel⟩
  have nd := sc.nd
  refine ⟨fd, mkFn2 Fn sc (fun HB ω δ cdv A outer s0 H Ex hO hg hr => ?_), Fn.kp, Fn.binds (ps := ["one"]) fun _ _ _ _ _ _ us hl => match us, hl with | [_], _ => rfl⟩
  exact (c_seq (c_par3 1 2 3 (ps_par3 rfl nd rfl rfl rfl (by decide) (by decide) (by decide) rfl rfl rfl (c_cons (mkOf tx (mo42 tx) hr rfl (c_cons (c_var 0 (pv 0)) c_nil)) (c_cons (mkKe tx (mo43 tx) hr rfl (c_cons (c_var 0 (pv 0)) c_nil)) (c_cons (mkZ tx 1 rfl rfl (c_str [114, 101, 102, 117, 115, 101, 100] (by decide +kernel))) c_nil))) (by rfl))) (c_seq (c_if (c_tcmp op_ne ne_s (repK tx hO hg hr (c_lst (c_cons (fldK tx 8 [109, 111, 115, 116] rfl (by decide +kernel) (c_var 1 (pv 1))) (c_cons (fldK tx 7 [103, 105, 118, 101, 110] rfl (by decide +kernel) (c_var 2 (pv 2))) c_nil)))) (repK tx hO hg hr (c_lst (c_cons (c_var 0 (pv 0)) (c_cons (c_var 0 (pv 0)) c_nil)))) (nomark _)) (c_one (c_ret c_bl)) c_snil) (c_seq (c_if (PW.pt (c_or (c_not (c_tv (isB1 tx (c_var 1 (pv 1))))) (c_or (c_not (c_tv (isB2 tx (c_var 2 (pv 2))))) (c_or1 (c_not (c_tv (isB0 tx (c_var 3 (pv 3))))))))) (c_one (c_ret c_bl)) c_snil) (c_seq (c_if (PW.pt (c_or (c_tv (isK tx 1 rfl rfl (c_var 1 (pv 1)))) (c_or (c_tv (isK tx 1 rfl rfl (c_var 2 (pv 2)))) (c_or1 (c_tv (isKT tx (c_var 3 (pv 3)))))))) (c_one (c_ret c_bl)) c_snil) (c_one (c_ret (c_cmp op_notIn_seq (in_s rfl) c_bl (c_bin op_addX add_s (c_bin op_addX add_s (callK tx 47 F49 hO hg (hr.mono (by decide)) rfl (c_cons (c_var 1 (pv 1)) c_nil)) (callK tx 47 F49 hO hg (hr.mono (by decide)) rfl (c_cons (c_var 2 (pv 2)) c_nil))) (callK tx 47 F49 hO hg (hr.mono (by decide)) rfl (c_cons (c_var 3 (pv 3)) c_nil))) (by rfl))))))))
end
end K95
/-! C1 -/
set_option maxHeartbeats 4000000
namespace K95
open PySem PySem.Spec PyProof.Rows L2 Ev
/-! the draws, by hand -/
section
variable {P : Program} {w : World} {K : PySem.W.Frag} {mg : Str → Option Value} {base : Heap}
def spMix : Sp := fun vs H Q _ => ∃ c k : Int, vs = [.int c, .int k] ∧ 0 ≤ k ∧ k ≤ 2000 ∧ ∀ z : Int, 0 ≤ z → Q (.int z) H
theorem mul_bd {a b : Int} {x y : Int} (h0 : 0 ≤ a) (h1 : a ≤ x) (h2 : 0 ≤ b) (h3 : b ≤ y) : 0 ≤ a * b ∧ a * b ≤ x * y :=
  ⟨Int.mul_nonneg h0 h2, Int.mul_le_mul h1 h3 h2 (Int.le_trans h0 h1)⟩
theorem boot_int : bootBuiltins "int" = some (.type "int") := by decide +kernel
theorem boot_list : bootBuiltins "list" = some (.type "list") := by decide +kernel
theorem okMix (gi : mg "int" = none) {f : Addr} {fd : FuncData} (Fn : Fun K "_law_mixed" "_law_mixed" s45 f fd) : FnG P w K mg base 1 f fd ["cell", "k"] spMix := by
  have sc : FnScope ["cell", "k"] ["cell", "k"] (defScope s45) := ⟨rfl, rfl, rfl, by decide +kernel, rfl, by decide +kernel, by decide +kernel⟩
  have nd := sc.nd
  refine funG Fn sc (fun vs H Q E h => ?_) (fun cdv A outer s H vs Q E hg hr h => ⟨_, PSs.nox (pss_cons (ps_set (i := 0) nd rfl (Or.inl rfl) (pe_op op_mod (pe_callTy call_int1 rfl gi boot_int (pa_cons (pv 0) pa_nil)) pe_int))
    (pss_one (ps_ret (pe_op op_mod (pe_op op_mul (pe_op op_mod (pe_op op_add (pe_op op_add (pe_op op_mul (pv 0) (pe_op op_add pe_int (pe_op op_mul (pe_op op_mul pe_int (pv 1)) (pv 1)))) (pe_op op_mul pe_int (pv 1))) pe_int) pe_int) pe_int) pe_int)))), ?_⟩)
  · obtain ⟨c, k, rfl, _⟩ := h; rfl
  · obtain ⟨c, k, rfl, h0, h1, q⟩ := h
    refine ⟨_, rfl, .inl ⟨c, rfl, _, _, rfl, rfl, (by show (0 : Int) < 2147483647; decide), ?_⟩⟩
    have b0 : 0 ≤ c % 2147483647 := Int.emod_nonneg c (by decide)
    have b1 : c % 2147483647 < 2147483647 := Int.emod_lt_of_pos c (by decide)
    have b2 : 0 ≤ 2 * k * k ∧ 2 * k * k ≤ 4000 * 2000 := mul_bd (by omega) (by omega) h0 h1
    have m0 : ∀ x : Int, 0 ≤ x % 2147483647 := fun x => Int.emod_nonneg x (by decide)
    have m1 : ∀ x : Int, x % 2147483647 < 2147483647 := fun x => Int.emod_lt_of_pos x (by decide)
    exact ⟨_, rfl, _, rfl, _, _, rfl, rfl, .inl ⟨by decide, by decide⟩, _, rfl, _, _, rfl, rfl, .inl ⟨by omega, by omega⟩, _, _, rfl, rfl, _, _, rfl, rfl, .inl ⟨by omega, by omega⟩, _, rfl, _, _, rfl, rfl, .inl ⟨by decide, by decide⟩,
      _, _, rfl, rfl, _, _, rfl, rfl, _, _, rfl, rfl, (by show (0 : Int) < 2147483647; decide), _, _, rfl, rfl, .inr ⟨by decide, by decide⟩, _, _, rfl, rfl, (by show (0 : Int) < 2147483629; decide), q _ (Int.emod_nonneg _ (by decide))⟩

/-! the state of the draws -/
structure SA (H : Hp) (d c l : Addr) (t : Int) (cs ls : List Int) : Prop where
  hd : H d = some (.dK [(Sum.inr "cells", .ref c), (Sum.inr "lefts", .ref l), (Sum.inr "at", .int t), (Sum.inr "room", .int 0)])
  hc : H c = some (.lst (cs.map V.int))
  hl : H l = some (.lst (ls.map V.int))
  ne : c ≠ l
  n : cs.length = ls.length
  pos : 0 < cs.length
  sz : cs.length ≤ 64
theorem SA.dc {H : Hp} {d c l : Addr} {t : Int} {cs ls : List Int} (s : SA H d c l t cs ls) : c ≠ d := ne_of s.hc s.hd (by intro z; cases z)
theorem SA.dl {H : Hp} {d c l : Addr} {t : Int} {cs ls : List Int} (s : SA H d c l t cs ls) : l ≠ d := ne_of s.hl s.hd (by intro z; cases z)
def sKv (c l : Addr) (t : Int) : List (Key × V) := [(Sum.inr "cells", .ref c), (Sum.inr "lefts", .ref l), (Sum.inr "at", .int t), (Sum.inr "room", .int 0)]
section
variable {H : Hp} {d c l : Addr} {t : Int} {cs ls : List Int}
def kS (x : Str) : Key := Sum.inr x
theorem k1 : ¬ kS "cells" = kS "at" := by decide +kernel
theorem k2 : ¬ kS "lefts" = kS "at" := by decide +kernel
theorem k3 : ¬ kS "room" = kS "at" := by decide +kernel
theorem k4 : ¬ kS "cells" = kS "lefts" := by decide +kernel
theorem SA.gC (s : SA H d c l t cs ls) : DGet H d (.str "cells") (some (.ref c)) := .inl ⟨_, kS "cells", .inl s.hd, rfl, ((valV_pos (p := (kS "cells", V.ref c)) (k := kS "cells") rfl).symm :)⟩
theorem SA.gL (s : SA H d c l t cs ls) : DGet H d (.str "lefts") (some (.ref l)) := .inl ⟨_, kS "lefts", .inl s.hd, rfl, (((valV_neg (p := (kS "cells", V.ref c)) (k := kS "lefts") k4).trans (valV_pos (p := (kS "lefts", V.ref l)) (k := kS "lefts") rfl)).symm :)⟩
theorem SA.gA (s : SA H d c l t cs ls) : DGet H d (.str "at") (some (.int t)) := .inl ⟨_, kS "at", .inl s.hd, rfl, (((valV_neg (p := (kS "cells", V.ref c)) (k := kS "at") k1).trans ((valV_neg (p := (kS "lefts", V.ref l)) (k := kS "at") k2).trans (valV_pos (p := (kS "at", V.int t)) (k := kS "at") rfl))).symm :)⟩
theorem SA.put (s : SA H d c l t cs ls) (u : Int) : ∃ H', DPut H d (.str "at") (.int u) H' ∧ SA H' d c l u cs ls ∧ (∀ b o, H b = some o → b ≠ d → H' b = some o) ∧ ∀ b, H b = none → H' b = none := by
  refine ⟨_, .inl ⟨_, Sum.inr "at", s.hd, rfl, by rw [sizeLine_eq]; show 4 < _; omega, rfl⟩, ⟨?_, by rw [upd_ne s.dc]; exact s.hc, by rw [upd_ne s.dl]; exact s.hl, s.ne, s.n, s.pos, s.sz⟩, fun b o e hb => by rw [upd_ne hb]; exact e, fun b e => by rw [upd_ne (fun z => by rw [z, s.hd] at e; cases e)]; exact e⟩
  rw [upd_same]
  have e1 : ¬ (Str.ofString "cells" = Str.ofString "at") := by decide +kernel
  have e2 : ¬ (Str.ofString "lefts" = Str.ofString "at") := by decide +kernel
  have e3 : ¬ (Str.ofString "room" = Str.ofString "at") := by decide +kernel
  simp [putK, e1, e2, e3]
end
theorem int_at {l : List Int} {i : Nat} (h : i < l.length) : (l.map V.int)[i]? = some (.int l[i]) := by
  rw [List.getElem?_map, List.getElem?_eq_getElem h]; rfl
theorem ixN_at {n i : Nat} (h : i < n) : ixN n (i : Int) = some i := by
  unfold ixN
  rw [if_pos (by omega), if_pos (by omega)]
  rfl
def spDraw : Sp := fun vs H Q _ => ∃ (d c l : Addr) (t m : Int) (cs ls : List Int), vs = [.ref d, .int m] ∧ SA H d c l t cs ls ∧ 0 ≤ t ∧ t ≤ 1000 ∧ 0 < m ∧ m < 1073741824 ∧
  ∀ (H' : Hp) (ls' : List Int) (r : Int), 0 ≤ r → r < m → SA H' d c l (t + 1) cs ls' → (∀ b o, H b = some o → b ≠ d → b ≠ l → H' b = some o) → (∀ b, H b = none → H' b = none) → Q (.int r) H'
theorem okDraw (gi : mg "int" = none) (gl : mg "len" = none) {fM : Addr} {fdM : FuncData} (gM : mg "_law_mixed" = some (.ref fM)) (kM : PySem.W.keepIn K (.ref fM) = true) (bM : Binds K fdM ["cell", "k"] []) (FM : FnG P w K mg base 1 fM fdM ["cell", "k"] spMix)
    {f : Addr} {fd : FuncData} (Fn : Fun K "_law_draw" "_law_draw" s47 f fd) : FnG P w K mg base 2 f fd ["state", "many"] spDraw := by
  have sc : FnScope ["state", "many", "at", "place", "left", "number"] ["state", "many"] (defScope s47) := ⟨rfl, rfl, rfl, by decide +kernel, rfl, by decide +kernel, by decide +kernel⟩
  have nd := sc.nd
  refine funG Fn sc (fun vs H Q E h => ?_) (fun cdv A outer s H vs Q E hg hr h => ⟨_, PSs.nox (pss_cons (ps_set (i := 2) nd rfl (Or.inl rfl) (pe_dget (hu_of hr) (pv 0) pe_str (fun _ _ => rfl)))
    (pss_cons (ps_dput (hu_of hr) (pv 0) pe_str (pe_op op_add (pv 2) pe_int) rfl)
    (pss_cons (ps_set (i := 3) nd rfl (Or.inl rfl) (pe_op op_mod (pe_callTy call_int1 rfl gi boot_int (pa_cons (pv 2) pa_nil)) (pe_callB call_len_seq rfl gl boot_len (pa_cons (pe_dget (hu_of hr) (pv 0) pe_str (fun _ _ => rfl)) pa_nil))))
    (pss_cons (ps_set (i := 4) nd rfl (Or.inl rfl) (pe_ix ix_list (pe_dget (hu_of hr) (pv 0) pe_str (fun _ _ => rfl)) (pv 3) (fun _ _ => rfl)))
    (pss_cons (ps_if (pt_cmpR op_gt (pv 4) pe_int (nomark _)) (pss_cons (ps_asg (pe_op op_fdiv (pv 4) (pv 1)) (pg_sub (pe_dget (hu_of hr) (pv 0) pe_str (fun _ _ => rfl)) (pv 3) set_list)) (pss_one (ps_ret (pe_op op_mod (pe_callTy call_int1 rfl gi boot_int (pa_cons (pv 4) pa_nil)) (pv 1))))) pss_nil)
    (pss_cons (ps_set (i := 5) nd rfl (Or.inl rfl) (pe_callG FM hg (hr.mono (by decide)) rfl gM kM bM (pa_cons (pe_callG FM hg (hr.mono (by decide)) rfl gM kM bM (pa_cons (pe_ix ix_list (pe_dget (hu_of hr) (pv 0) pe_str (fun _ _ => rfl)) (pv 3) (fun _ _ => rfl)) (pa_cons (pv 2) pa_nil))) (pa_cons (pe_op op_add pe_int (pv 2)) pa_nil))))
    (pss_one (ps_ret (pe_op op_mod (pe_op op_fdiv (pe_callTy call_int1 rfl gi boot_int (pa_cons (pe_op op_add (pe_op op_mul (pv 5) pe_int) (pe_callG FM hg (hr.mono (by decide)) rfl gM kM bM (pa_cons (pv 5) (pa_cons (pe_op op_add pe_int (pv 2)) pa_nil)))) pa_nil)) pe_int) (pv 1)))))))))), ?_⟩)
  · obtain ⟨d, c, l, t, m, cs, ls, rfl, _⟩ := h; rfl
  · obtain ⟨d, c, l, t, m, cs, ls, rfl, S, h0, h1, m0, m1, q⟩ := h
    refine ⟨_, rfl, d, _, rfl, S.gA, ?_⟩
    obtain ⟨H1, hp, S1, f1, n1⟩ := S.put (t + 1)
    refine ⟨_, rfl, _, _, rfl, rfl, _, rfl, d, H1, rfl, hp, ?_⟩
    have p0 : 0 ≤ t % (cs.length : Int) := Int.emod_nonneg t (by have := S.pos; omega)
    have p1 : t % (cs.length : Int) < cs.length := Int.emod_lt_of_pos t (by have := S.pos; omega)
    obtain ⟨i, hi⟩ := Int.eq_ofNat_of_zero_le p0
    have hic : i < cs.length := by omega
    have hil : i < ls.length := by have := S.n; omega
    have hz : ((cs.map V.int).length : Int) = cs.length := by rw [List.length_map]
    refine ⟨_, rfl, .inl ⟨_, rfl, _, rfl, d, _, rfl, S1.gC, c, _, rfl, .inl (SqL.of S1.hc), _, _, rfl, rfl, ?_, ?_⟩⟩
    · rw [hz]; have := S.pos; show (0 : Int) < cs.length; omega
    rw [hz]
    show gName 3 (V.int (t % (cs.length : Int))) _ H1 _
    rw [hi]
    refine ⟨_, rfl, d, _, rfl, S1.gL, _, rfl, l, _, _, _, rfl, rfl, SqL.of S1.hl, atI_nat (int_at hil), ?_⟩
    refine ⟨_, rfl, _, _, rfl, rfl, _, rfl, ?_⟩
    by_cases hpos : 0 < ls[i]
    · rw [decide_eq_true hpos]
      refine (if_pos rfl).mpr ?_
      refine ⟨_, rfl, _, rfl, _, _, rfl, rfl, ⟨m0, m1⟩, _, rfl, d, _, rfl, S1.gL, _, rfl, l, _, _, i, rfl, rfl, S1.hl, ixN_at (by rw [List.length_map]; exact hil), ?_⟩
      have e : (ls.map V.int).set i (V.int (ls[i] / m)) = (ls.set i (ls[i] / m)).map V.int := List.map_set.symm
      rw [e]
      have S2 : SA (upd H1 l (.lst ((ls.set i (ls[i] / m)).map V.int))) d c l (t + 1) cs (ls.set i (ls[i] / m)) :=
        ⟨by rw [upd_ne (Ne.symm S1.dl)]; exact S1.hd, by rw [upd_ne S1.ne]; exact S1.hc, upd_same, S1.ne, by rw [List.length_set]; exact S1.n, S1.pos, S1.sz⟩
      refine ⟨_, rfl, .inl ⟨_, rfl, _, rfl, _, _, rfl, rfl, m0, ?_⟩⟩
      exact q _ _ _ (Int.emod_nonneg _ (by omega)) (Int.emod_lt_of_pos _ m0) S2 (fun b o e h1 h2 => by rw [upd_ne h2]; exact f1 b o e h1) fun b e => by
        rw [upd_ne (fun z => by rw [z, S.hl] at e; cases e)]; exact n1 b e
    · rw [decide_eq_false hpos]
      refine (if_neg (by decide)).mpr ?_
      refine ⟨_, rfl, d, _, rfl, S1.gC, _, rfl, c, _, _, _, rfl, rfl, SqL.of S1.hc, atI_nat (int_at hic), _, rfl, _, _, rfl, h0, by omega, fun z1 z0 => ?_⟩
      refine ⟨_, rfl, _, _, rfl, rfl, _, _, rfl, by omega, by omega, fun z2 z3 => ?_⟩
      refine ⟨_, rfl, _, _, rfl, rfl, .inr ⟨by decide, by decide⟩, _, rfl, _, rfl, _, _, rfl, rfl, _, _, rfl, by omega, by omega, fun z4 z5 => ?_⟩
      refine ⟨_, _, rfl, rfl, .inl ⟨_, rfl, _, _, rfl, rfl, ⟨by decide, by decide⟩, _, rfl, _, _, rfl, rfl, m0, ?_⟩⟩
      exact q _ _ _ (Int.emod_nonneg _ (by omega)) (Int.emod_lt_of_pos _ m0) S1 (fun b o e h1 _ => f1 b o e h1) n1
end
end K95
/-! C2 -/
set_option maxHeartbeats 4000000
namespace K95
open PySem PySem.Spec PyProof.Rows L2 Ev
section
variable {P : Program} {w : World} {K : PySem.W.Frag} {mg : Str → Option Value} {base : Heap}
theorem shp : ∀ ns : List Int, PyData.canLayAll0 (ns.map PyData.int) = true
  | [] => by simp [PyData.canLayAll0]
  | n :: r => by simp [PyData.canLayAll0, PyData.canLay0, shp r]
theorem shd : ∀ ns : List Int, PyData.depthAll (ns.map PyData.int) ≤ 1
  | [] => by simp [PyData.depthAll]
  | n :: r => by
    have h := shd r
    simp only [List.map_cons, PyData.depthAll, PyData.depth]
    omega
theorem shaped_ints (ns : List Int) : SeqAt.shaped (.list (ns.map PyData.int)) = true := by
  have h := shd ns
  show ((PyData.list _).canLay0 && decide ((PyData.list _).depth ≤ 64)) = true
  rw [Bool.and_eq_true]
  refine ⟨by simp [PyData.canLay0, shp], decide_eq_true ?_⟩
  simp only [PyData.depth]
  omega
theorem dp_ints {H : Hp} : ∀ ns : List Int, DpAll K H (ns.map V.int) (ns.map PyData.int)
  | [] => .nil
  | n :: r => .cons (.int n) (dp_ints r)
def spBegin (K : PySem.W.Frag) : Sp := fun vs H Q _ => ∃ (a : Addr) (ns : List Int), vs = [.ref a] ∧ SqL K H a (ns.map V.int) ∧ ns.length ≤ 63 ∧
  ∀ (H' : Hp) (d c l : Addr) (cs ls : List Int), SA H' d c l 0 cs ls → (∀ b o, H b = some o → H' b = some o) → Q (.ref d) H'
theorem lt_of_line {n : Nat} (h : n < 1000) : n < sizeLine := by rw [sizeLine_eq]; omega
theorem hu64 {k : Nat} {A : Around} (hr : Room k A) : A.units + 64 < cLine := by have := hr.un; omega
theorem okBegin (gl : mg "list" = none) {f : Addr} {fd : FuncData} (Fn : Fun K "_law_begin" "_law_begin" s46 f fd) : FnG P w K mg base 1 f fd ["script"] (spBegin K) := by
  have sc : FnScope ["script", "cells", "cell"] ["script"] (defScope s46) := ⟨rfl, rfl, rfl, by decide +kernel, rfl, by decide +kernel, by decide +kernel⟩
  have nd := sc.nd
  refine funG Fn sc (fun vs H Q E h => ?_) (fun cdv A outer s H vs Q E hg hr h => ⟨_, PSs.nox (pss_cons (ps_set (i := 1) nd rfl (Or.inl rfl) (pe_ifExp (pt_cmpR (op_neD (hu64 hr)) (pv 0) (pe_lst pa_nil) (nomark _)) (pe_callTy call_list_of rfl gl boot_list (pa_cons (pv 0) pa_nil)) (pe_lst (pa_cons pe_int pa_nil))))
    (pss_one (ps_ret (pe_disp (pps_cons pe_str (pv 1) (pps_cons pe_str (pe_lc (own := [("cell", 2)]) (g := gName 2) (tt := tYes) rfl nd (pi_list (pv 1)) (blkOk_by (N := ["script", "cells", "cell"]) (sc := defScope s46) (by decide +kernel)) (fun _ _ _ _ _ => pg_name (i := 2) nd rfl (Or.inl rfl)) (fun _ _ _ _ _ => pts_nil)
      (fun _ _ _ _ _ => pe_ifExp (pt_cmpR op_ge (pv 2) (pe_op op_pow pe_int pe_int) (nomark _)) (pv 2) pe_int)) (pps_cons pe_str pe_int (pps_cons pe_str pe_int pps_nil)))) rfl rfl (by simp) (by decide))))), ?_⟩)
  · obtain ⟨a, ns, rfl, _⟩ := h; rfl
  · obtain ⟨a, ns, rfl, hS, hl, q⟩ := h
    have fin : ∀ (H1 : Hp) (c : Addr) (cs : List Int), H1 c = some (.lst (cs.map V.int)) → 0 < cs.length → cs.length ≤ 64 → (∀ b o, H b = some o → H1 b = some o) →
        tRet (tDisp [(tC (.str "cells"), tVar 1), (tC (.str "lefts"), tLc (iList K (tVar 1)) (gName 2) tYes (tIf (tTest (tOp (rI0 fun i j => .bl (decide (j ≤ i))) (tVar 2) (tOp (rI CPow fun i j => .int (i ^ j.toNat)) (tC (.int 10)) (tC (.int 18))))) (tVar 2) (tC (.int 0))) [2]),
          (tC (.str "at"), tC (.int 0)), (tC (.str "room"), tC (.int 0))]) { nx := fun _ H' => Q .non H', rt := Q } [some (.ref a), some (.ref c), none] H1 := by
      intro H1 c cs hc p0 p1 kp p hp
      have nc : c ≠ p := fun z => by rw [z, hp] at hc; cases hc
      refine ⟨_, rfl, _, rfl, c, rfl, ⟨_, SqL.of ((upd_ne nc).trans hc)⟩, fun D hD => ?_⟩
      have Hc : upd H1 p (.dK []) c = some (.lst (cs.map V.int)) := (upd_ne nc).trans hc
      refine lc_list (K := K) (a := c) (xs := cs.map V.int) (fun i H' => Same (upd H1 p (.dK [])) H' ∧ ∃ zs : List Int, H' D = some (.lst (zs.map V.int)) ∧ zs.length = i) ⟨keep_upd hD, [], upd_same, rfl⟩ (fun i H' hi h => SqL.of (h.1 _ _ Hc)) ?_ ?_
      · rintro i x H' hx ⟨s1, zs, hz, hi⟩
        have hlt : i < cs.length := by
          have := (List.getElem?_eq_some_iff.mp hx).1
          rwa [List.length_map] at this
        rw [int_at hlt] at hx
        cases hx
        have nD : D ≠ p := fun z => by rw [z, upd_same] at hD; cases hD
        have step : ∀ y : Int, ∃ acc, H' D = some (.lst acc) ∧ acc.length < sizeLine ∧ (Same (upd H1 p (.dK [])) (upd H' D (.lst (acc ++ [.int y]))) ∧ ∃ zs : List Int, upd H' D (.lst (acc ++ [.int y])) D = some (.lst (zs.map V.int)) ∧ zs.length = i + 1) := fun y => by
          refine ⟨_, hz, lt_of_line (by rw [List.length_map]; omega), fun b o e => ?_, zs ++ [y], by rw [upd_same, List.map_append]; rfl, by rw [List.length_append, hi]; rfl⟩
          rw [upd_ne (ne_of_none e hD)]
          exact s1 b o e
        refine ⟨rfl, _, rfl, _, _, rfl, rfl, ⟨by decide, by decide, by decide⟩, _, _, rfl, rfl, _, rfl, ?_⟩
        by_cases hg : (10 : Int) ^ (18 : Int).toNat ≤ cs[i]
        · refine (if_pos (decide_eq_true hg)).mpr ?_
          exact ⟨_, rfl, step _⟩
        · refine (if_neg (by rw [decide_eq_false hg]; decide)).mpr ?_
          exact step _
      · rintro H' ⟨s1, zs, hz, hi⟩
        rw [List.length_map] at hi
        have Hd : H' p = some (.dK []) := s1 _ _ upd_same
        have nD : D ≠ p := ne_of hz Hd (by intro z; cases z)
        refine ⟨Hd, [(kS "cells", .ref c), (kS "lefts", .ref D), (kS "at", .int 0), (kS "room", .int 0)], rfl, (by show 4 ≤ 15; decide), ?_⟩
        have Hc' := s1 _ _ Hc
        refine q _ p c D cs zs ⟨?_, by rw [upd_ne nc]; exact Hc', by rw [upd_ne nD]; exact hz, ne_of_none Hc hD, hi.symm, p0, p1⟩ fun b o e => ?_
        · rw [upd_same]
          have e1 : ¬ (Str.ofString "cells" = Str.ofString "at") := by decide +kernel
          have e2 : ¬ (Str.ofString "lefts" = Str.ofString "at") := by decide +kernel
          have e3 : ¬ (Str.ofString "cells" = Str.ofString "room") := by decide +kernel
          have e4 : ¬ (Str.ofString "lefts" = Str.ofString "room") := by decide +kernel
          have e5 : ¬ (Str.ofString "at" = Str.ofString "room") := by decide +kernel
          have e6 : ¬ (Str.ofString "cells" = Str.ofString "lefts") := by decide +kernel
          simp [mergeK, putK, kS, e1, e2, e3, e4, e5, e6]
        · have e1 := kp b o e
          have nb := ne_of_none e1 hp
          rw [upd_ne nb]
          exact s1 b o ((upd_ne nb).trans e1)
    refine ⟨_, rfl, Nat.zero_le _, fun e he => ⟨.list (ns.map PyData.int), .list [], .lst ?_ (dp_ints ns), .lst (SqL.of upd_same) .nil, shaped_ints ns, shaped_ints [], _, rfl, ?_⟩⟩
    · exact Same.seq (keep_upd he) hS
    · cases ns with
      | nil =>
        refine (if_neg (by simp [PyData.eqv, PyData.eqvAll])).mpr ?_
        refine ⟨sz1000 (by decide), fun c hc => ?_⟩
        exact fin _ c [0] upd_same (by decide) (by decide) fun b o q => keep_upd hc b o (keep_upd he b o q)
      | cons n r =>
        refine (if_pos ?_).mpr ?_
        · simp [PyData.eqv, PyData.eqvAll]
        · exact ⟨_, rfl, a, _, rfl, .inl (Same.seq (keep_upd he) hS), fun c hc => fin _ c (n :: r) upd_same (by simp) (by omega) fun b o q => keep_upd hc b o (keep_upd he b o q)⟩
end
end K95
/-! C3 -/
set_option maxHeartbeats 4000000
namespace K95
open PySem PySem.Spec PyProof.Rows L2 Ev
section
variable {P : Program} {w : World} {K : PySem.W.Frag} {mg : Str → Option Value} {base : Heap}
def spOf (K : PySem.W.Frag) : Sp := fun vs H Q _ => ∃ (d c l p : Addr) (t : Int) (cs ls : List Int) (xs : List V), vs = [.ref d, .ref p] ∧ SA H d c l t cs ls ∧ 0 ≤ t ∧ t ≤ 1000 ∧ H p = some (.lst xs) ∧ p ≠ l ∧ 0 < xs.length ∧ xs.length < 1000 ∧
  ∀ (H' : Hp) (ls' : List Int) (x : V), x ∈ xs → SA H' d c l (t + 1) cs ls' → (∀ b o, H b = some o → b ≠ d → b ≠ l → H' b = some o) → Q x H'
theorem okOf (gl : mg "len" = none) {fM : Addr} {fdM : FuncData} (gM : mg "_law_draw" = some (.ref fM)) (kM : PySem.W.keepIn K (.ref fM) = true) (bM : Binds K fdM ["state", "many"] []) (FM : FnG P w K mg base 2 fM fdM ["state", "many"] spDraw)
    {f : Addr} {fd : FuncData} (Fn : Fun K "_law_of" "_law_of" s48 f fd) : FnG P w K mg base 3 f fd ["state", "some"] (spOf K) := by
  have sc : FnScope ["state", "some"] ["state", "some"] (defScope s48) := ⟨rfl, rfl, rfl, by decide +kernel, rfl, by decide +kernel, by decide +kernel⟩
  have nd := sc.nd
  refine funG Fn sc (fun vs H Q E h => ?_) (fun cdv A outer s H vs Q E hg hr h => ⟨_, PSs.nox (pss_one (ps_ret (pe_ix ix_list (pv 1) (pe_callG FM hg (hr.mono (by decide)) rfl gM kM bM (pa_cons (pv 0) (pa_cons (pe_callB call_len_seq rfl gl boot_len (pa_cons (pv 1) pa_nil)) pa_nil))) (fun _ _ => rfl)))), ?_⟩)
  · obtain ⟨d, c, l, p, t, cs, ls, xs, rfl, _⟩ := h; rfl
  · obtain ⟨d, c, l, p, t, cs, ls, xs, rfl, S, h0, h1, hp, ne, x0, x1, q⟩ := h
    refine ⟨_, rfl, _, rfl, _, rfl, p, xs, rfl, .inl (SqL.of hp), d, c, l, t, _, cs, ls, rfl, S, h0, h1, by omega, by omega, fun H' ls' r r0 r1 S' kp _ => ?_⟩
    have hp' := kp p _ hp (fun z => by rw [z, S.hd] at hp; cases hp) ne
    obtain ⟨i, rfl⟩ := Int.eq_ofNat_of_zero_le r0
    have hi : i < xs.length := by omega
    exact ⟨p, xs, _, xs[i], rfl, rfl, SqL.of hp', atI_nat (List.getElem?_eq_getElem hi), q _ _ _ (List.getElem_mem hi) S' kp⟩
end
end K95
/-! C4 -/
set_option maxHeartbeats 4000000
namespace K95
open PySem PySem.Spec PyProof.Rows L2 Ev
def m52 : Ms := (sSeq (sForE 300 (aCons (mCall 2 f50 (aCons (mVar 4) (aCons (mVar 5) aNil))) aNil) (gTu 2 (gsCons (gN 6) (gsCons (gN 7) gsNil))) (sSeq (sAsg (mVar 7) (gTu 3 (gsCons (gN 9) (gsCons (gN 10) (gsCons (gN 11) gsNil))))) (sSeq (sIf (mTst (mBin fNe (mRep okP (mLst (aCons (mVar 10) (aCons (mVar 11) aNil)))) (mRep okP (mLst (aCons (mVar 4) (aCons (mVar 5) aNil)))))) (sRet (mC (.bl false))) sNil) (sSeq (sIf (tOrM (tNotM (mTst (mIsX okI (tab 1) (mVar 9)))) (tNotM (mTst (mIsX okI (fun c => Nat.ble c 41) (mVar 9))))) (sRet (mC (.bl false))) sNil) (sSeq (sAsg (mCall 1 f49 (aCons (mVar 9) aNil)) (gN 8)) (sIf (tOrM (mTst (mBin fNe (mCnt (mVar 8) (aCons (mC (.bl true)) aNil)) (mC (.int 1)))) (tOrM (tNotM (mTst (mBin fIx (mVar 8) (mVar 6)))) (mTst (mIsX okI (fun c => Nat.ble 42 c) (mVar 9))))) (sRet (mC (.bl false))) sNil)))))) (sIf (tNotM (mTst (mCall 1 f51 (aCons (mVar 4) aNil)))) (sRet (mC (.bl false))) sNil))
def L0 : Lo := [none, some (.opq 100), some (.opq 101), none, some (.opq 0), some (.opq 1), none, none, none, none, none, none]
def isO (k : Nat) : Option (Option D) → Bool
  | some (some (.opq j)) => Nat.beq j k
  | _ => false
def nx52 : Bool := match m52 L0 ⟨0, .e⟩ with
  | some (.nx L _) => isO 100 L[1]? && (isO 101 L[2]? && Nat.beq L.length 12)
  | _ => false
theorem nx52_t : nx52 = true := by decide +kernel
end K95
/-! C5 -/
set_option maxHeartbeats 4000000
namespace K95
open PySem PySem.Spec PyProof.Rows L2 Ev
/-! the ten things that are drawn from -/
def big : Int := 10 ^ (30 : Int).toNat
inductive It (G : Addr → Prop) (H : Hp) : V → PyData → Prop
  | non : It G H .non .none
  | five : It G H (.int 5) (.int 5)
  | big : It G H (.int big) (.int big)
  | txt : It G H (.str "a text") (.str "a text")
  | emp : It G H (.str "") (.str "")
  | tu0 {a : Addr} : G a → H a = some (.tup []) → It G H (.ref a) (.tuple [])
  | tu2 {a : Addr} : G a → H a = some (.tup [.str "a", .int 1]) → It G H (.ref a) (.tuple [.str "a", .int 1])
  | lst {a b : Addr} : G a → G b → H a = some (.lst [.int 1, .ref b]) → H b = some (.lst [.int 2]) → It G H (.ref a) (.list [.int 1, .list [.int 2]])
  | dic {a : Addr} : G a → H a = some (.dK [(kS "a", .int 1)]) → It G H (.ref a) (.dict [(.str "a", .int 1)])
  | tru : It G H (.bl true) (.bool true)
def itD : List PyData := [.none, .int 5, .int big, .str "a text", .str "", .tuple [], .tuple [.str "a", .int 1], .list [.int 1, .list [.int 2]], .dict [(.str "a", .int 1)], .bool true]
theorem It.mem {G : Addr → Prop} {H : Hp} {v : V} {d : PyData} (i : It G H v d) : d ∈ itD := by
  cases i <;> simp [itD]
theorem It.same {G : Addr → Prop} {H H' : Hp} {v : V} {d : PyData} (i : It G H v d) (k : ∀ b o, G b → H b = some o → H' b = some o) : It G H' v d := by
  cases i with
  | non => exact .non
  | five => exact .five
  | big => exact .big
  | txt => exact .txt
  | emp => exact .emp
  | tu0 g h => exact .tu0 g (k _ _ g h)
  | tu2 g h => exact .tu2 g (k _ _ g h)
  | lst g g2 h h2 => exact .lst g g2 (k _ _ g h) (k _ _ g2 h2)
  | dic g h => exact .dic g (k _ _ g h)
  | tru => exact .tru
def shB (a b : PyData) : Bool := (PyData.list [a, b]).showable && (Nat.ble (PyData.list [a, b]).depth 40 && Nat.ble (PyData.list [a, b]).shown.length 1000)
theorem shB_all : (itD.all fun a => itD.all fun b => shB a b) = true := by decide +kernel
theorem shows_it {a b : PyData} (ha : a ∈ itD) (hb : b ∈ itD) : Shows (.list [a, b]) := by
  have q := List.all_eq_true.mp (List.all_eq_true.mp shB_all a ha) b hb
  obtain ⟨q1, q⟩ := Bool.and_eq_true_iff.mp q
  obtain ⟨q2, q3⟩ := Bool.and_eq_true_iff.mp q
  exact ⟨q1, Nat.le_of_ble_eq_true q2, sz1000 (Nat.le_trans (Nat.le_of_ble_eq_true q3) (by decide))⟩
theorem sm_ne {X : Cx} {pins : List (Addr × Obj)} {σ : L2.St} {H : Hp} {s : Shared} {a : Addr} {o : HO} (hsm : ∃ o, X.K.lookup sysModules = some o) (I : Inv X pins σ H s) (q : H a = some o) : a ≠ sysModules := fun z => by
  obtain ⟨ob, ho⟩ := hsm
  have y := (I.bs _ _ (I.ok.mod.kin _ _ ho)).2
  rw [← z, q] at y
  cases y
theorem It.rd {G : Addr → Prop} {H : Hp} {v : V} {d : PyData} (i : It G H v d) {X : Cx} {pins : List (Addr × Obj)} {σ : L2.St} {H' : Hp} {s : Shared} {u : Value} (hsm : ∃ o, X.K.lookup sysModules = some o) (I : Inv X pins σ H' s) (k : ∀ a o, H a = some o → H' a = some o) (r : RelV v u) : RdO s u d := by
  cases i with
  | non => cases r; exact ⟨_, .none, fun x hx => by cases hx⟩
  | five => obtain ⟨t, rfl⟩ := r; exact ⟨_, .int _ t, fun x hx => by cases hx⟩
  | big => obtain ⟨t, rfl⟩ := r; exact ⟨_, .int _ t, fun x hx => by cases hx⟩
  | txt => obtain ⟨t, rfl⟩ := r; exact ⟨_, .str _ t, fun x hx => by cases hx⟩
  | emp => obtain ⟨t, rfl⟩ := r; exact ⟨_, .str _ t, fun x hx => by cases hx⟩
  | tru => cases r; exact ⟨_, .bool _, fun x hx => by cases hx⟩
  | tu0 g h =>
    cases r
    obtain ⟨its, rv, ⟨o, ho, hc, n, hd⟩, _⟩ := I.tuple (SqT.of (K := X.K) (k _ _ h))
    cases rv
    exact ⟨_, .tuple ho hc hd .nil, fun x hx => by cases hx⟩
  | tu2 g h =>
    cases r
    obtain ⟨its, rv, ⟨o, ho, hc, n, hd⟩, _⟩ := I.tuple (SqT.of (K := X.K) (k _ _ h))
    cases rv with
    | cons r1 r2 =>
      cases r2 with
      | cons r2 r3 =>
        cases r3
        obtain ⟨t1, rfl⟩ := r1
        obtain ⟨t2, rfl⟩ := r2
        exact ⟨_, .tuple ho hc hd (.cons (.str _ t1) (.cons (.int _ t2) .nil)), fun x hx => by cases hx⟩
  | @lst a b g g2 h h2 =>
    cases r
    obtain ⟨its, rv, ⟨o, n, ho, hc, _, hd⟩, _⟩ := I.list (SqL.of (K := X.K) (k _ _ h))
    obtain ⟨its2, rv2, ⟨o2, n2, ho2, hc2, _, hd2⟩, _⟩ := I.list (SqL.of (K := X.K) (k _ _ h2))
    cases rv with
    | cons r1 r2 =>
      cases r2 with
      | cons r2 r3 =>
        cases r3
        obtain ⟨t1, rfl⟩ := r1
        cases r2
        cases rv2 with
        | cons r4 r5 =>
          cases r5
          obtain ⟨t2, rfl⟩ := r4
          refine ⟨_, .list ho hc hd (.cons (.int _ t1) (.cons (.list ho2 hc2 hd2 (.cons (.int _ t2) .nil)) .nil)), fun x hx => ?_⟩
          simp at hx
          rcases hx with rfl | rfl
          · exact sm_ne hsm I (k _ _ h)
          · exact sm_ne hsm I (k _ _ h2)
  | @dic a g h =>
    cases r
    obtain ⟨_, hne, vs, kv, o, es, ep, ho, hx, hd, _, hp, _⟩ := dk_of I.hok (k _ _ h)
    cases kv with
    | cons k1 k2 =>
      cases k2
      rename_i q
      obtain ⟨k1a, t1, k1b⟩ := k1
      generalize hes : es.toList = el at hp
      cases hp with
      | cons p1 p2 p3 =>
        cases p3
        rename_i e
        rw [← k1a] at p1
        replace p1 : keyIs (kS "a") e.key = true := p1
        rcases keyIs_shape p1 with ⟨i, t, z, _⟩ | ⟨y, t, z, ek⟩
        · cases z
        · cases z
          refine ⟨_, .dict ho hx.1 hd (as := []) (bs := []) ?_ ?_, fun x hx => ?_⟩
          · rw [hes]
            show ReadsAll _ [e.key] [PyData.str "a"] []
            rw [ek]
            exact .cons (.str _ _) .nil
          · rw [hes]
            show ReadsAll _ [e.val] [PyData.int 1] []
            rw [p2, k1b]
            exact .cons (.int _ _) .nil
          · simp at hx
            rw [hx]
            exact sm_ne hsm I (k _ _ h)
end K95
/-! C6 -/
set_option maxHeartbeats 4000000
namespace K95
open PySem PySem.Spec PyProof.Rows L2 Ev
/-! law -/
def TU (K : PySem.W.Frag) (m : Ms) : TS := fun Dn σ H => ∃ HB ω δ, Okk (mkE K (ca K) HB ω δ) ∧ TSs (mkE K (ca K) HB ω δ) m Dn σ H
theorem ps_TU {X : Cx} {st : List Stmt} {m : Ms} (p : ∀ HB ω δ, Okk (mkE X.K (ca X.K) HB ω δ) → PSs X st (TSs (mkE X.K (ca X.K) HB ω δ) m)) : PSs X st (TU X.K m) :=
  ⟨fun pins s σ H Dn I hw => let ⟨HB, ω, δ, hO, h⟩ := hw; (p HB ω δ hO).run pins s σ H Dn I h⟩
section
variable {P : Program} {w : World} {K : PySem.W.Frag} {mg : Str → Option Value} {base : Heap}
def spLaw (K : PySem.W.Frag) : Sp := fun vs H Q _ => ∃ (a : Addr) (ns : List Int), vs = [.ref a] ∧ SqL K H a (ns.map V.int) ∧ ns.length ≤ 63 ∧ ∀ H', Q (.bl true) H'
theorem law_len (vs : List V) (H : Hp) (Q : VK) (E : XK) (h : spLaw K vs H Q E) : vs.length = 1 := by
  obtain ⟨a, ns, rfl, _⟩ := h; rfl
theorem SA.same {H H' : Hp} {d c l : Addr} {t : Int} {cs ls : List Int} (s : SA H d c l t cs ls) (k : ∀ b o, H b = some o → H' b = some o) : SA H' d c l t cs ls := ⟨k _ _ s.hd, k _ _ s.hc, k _ _ s.hl, s.ne, s.n, s.pos, s.sz⟩
theorem SA.fresh {H : Hp} {d c l x : Addr} {t : Int} {cs ls : List Int} (s : SA H d c l t cs ls) (h : H x = none) : x ≠ d ∧ x ≠ l := ⟨fun z => (by rw [z, s.hd] at h; cases h), fun z => (by rw [z, s.hl] at h; cases h)⟩
abbrev Gd (d l : Addr) : Addr → Prop := fun x => x ≠ d ∧ x ≠ l
def omg (v1 v2 : V) (d p : Addr) (k : Nat) : V := if k = 0 then v1 else if k = 1 then v2 else if k = 100 then .ref d else if k = 101 then .ref p else .non
def dlt (d1 d2 : PyData) (k : Nat) : PyData := if k = 0 then d1 else if k = 1 then d2 else .none
theorem okk_of {H : Hp} {G : Addr → Prop} {v1 v2 : V} {d1 d2 : PyData} {d p : Addr} (hsm : ∃ o, K.lookup sysModules = some o) (i1 : It G H v1 d1) (i2 : It G H v2 d2) : Okk (mkE K (ca K) H (omg v1 v2 d p) (dlt d1 d2)) := by
  have mem : ∀ k, dlt d1 d2 k ∈ itD := fun k => by
    unfold dlt
    split
    · exact i1.mem
    · split
      · exact i2.mem
      · simp [itD]
  refine ⟨⟨fun k hk X pins σ H' s u eK I kp r => ?_, hsm⟩, fun a b => shows_it (mem a) (mem b)⟩
  dsimp only at eK kp r ⊢
  have hsm' : ∃ o, X.K.lookup sysModules = some o := by rw [eK]; exact hsm
  by_cases h0 : k = 0
  · subst h0
    exact i1.rd hsm' I kp r
  · by_cases h1 : k = 1
    · subst h1
      exact i2.rd hsm' I kp r
    · have e1 : omg v1 v2 d p k = .non := by
        unfold omg
        rw [if_neg h0, if_neg h1, if_neg (by omega), if_neg (by omega)]
      have e2 : dlt d1 d2 k = .none := by
        unfold dlt
        rw [if_neg h0, if_neg h1]
      rw [e1] at r
      rw [e2]
      exact It.rd (G := G) (H := H) .non hsm' I kp r
theorem nx52_ex : ∃ L h, m52 L0 ⟨0, .e⟩ = some (.nx L h) ∧ L.length = 12 ∧ L[1]? = some (some (.opq 100)) ∧ L[2]? = some (some (.opq 101)) := by
  have q := nx52_t
  unfold nx52 at q
  have isO_ok : ∀ {k : Nat} {x : Option (Option D)}, isO k x = true → x = some (some (.opq k)) := by
    intro k x hx
    unfold isO at hx
    split at hx
    · rename_i j
      rw [Nat.eq_of_beq_eq_true hx]
    · cases hx
  split at q
  · rename_i L h e
    obtain ⟨q1, q⟩ := Bool.and_eq_true_iff.mp q
    obtain ⟨q2, q3⟩ := Bool.and_eq_true_iff.mp q
    exact ⟨L, h, e, Nat.eq_of_beq_eq_true q3, isO_ok q1, isO_ok q2⟩
  · cases q
def t_loop (K : PySem.W.Frag) : TS := tSeq (tFor (iRng1 (tCons (tOp (rI0 fun i j => V.int (i + j)) (tC (V.int 2)) (tCB (fun xs H Q => ∃ i j, xs = [V.int i, V.int j] ∧ Q (V.int (if j < i then j else i)) H)
  (tCons (tC (V.int 2)) (tCons (tCB (fun xs H_1 Q => ∃ p ys, xs = [V.ref p] ∧ (SqL K H_1 p ys ∨ SqT K H_1 p ys) ∧ Q (V.int ↑ys.length) H_1) (tCons (tVar 0) tNil)) tNil)))) tNil)) (gName 3)
  (tSeq (tPar 4 5 (tCons (tCall (spOf K) [] E0 (tCons (tVar 1) (tCons (tVar 2) tNil))) (tCons (tCall (spOf K) [] E0 (tCons (tVar 1) (tCons (tVar 2) tNil))) tNil))) (TU K m52))) (tRet (tC (V.bl true)))
theorem loop_ok (hsm : ∃ o, K.lookup sysModules = some o) {H9 : Hp} {Q : VK} {a d c l p : Addr} {ns cs ls : List Int} {xs : List V} (hS : SqL K H9 a (ns.map V.int)) (hl : ns.length ≤ 63) (S : SA H9 d c l 0 cs ls) (hp : H9 p = some (.lst xs)) (hpl : p ≠ l) (hx : xs.length = 10)
    (hI : ∀ v ∈ xs, ∃ y, It (Gd d l) H9 v y) (q : ∀ H', Q (.bl true) H') :
    t_loop K { nx := fun _ H' => Q .non H', rt := Q } [some (.ref a), some (.ref d), some (.ref p), none, none, none, none, none, none, none, none, none] H9 := by
  have hpd : p ≠ d := ne_of hp S.hd (by intro z; cases z)
  have hlen : ((ns.map V.int).length : Int) = ns.length := by rw [List.length_map]
  refine ⟨_, rfl, a, _, rfl, .inl hS, _, _, rfl, _, _, rfl, rfl, _, rfl, ?_, ?_, ?_⟩
  · split <;> omega
  · split <;> omega
  obtain ⟨n, hn, hn4⟩ : ∃ n : Nat, ((2 : Int) + (if ((ns.map V.int).length : Int) < 2 then ((ns.map V.int).length : Int) else 2)).toNat = n ∧ n ≤ 4 := ⟨_, rfl, by split <;> omega⟩
  show _
  rw [hn]
  refine for_range (lo := 0) (n := n) (fun i σ H' => 12 ≤ σ.length ∧ σ[1]? = some (some (.ref d)) ∧ σ[2]? = some (some (.ref p)) ∧ (∃ ls', SA H' d c l (2 * (i : Int)) cs ls') ∧ H' p = some (.lst xs) ∧ ∀ v ∈ xs, ∃ y, It (Gd d l) H' v y) ⟨Nat.le_refl 12, rfl, rfl, ⟨ls, by simpa using S⟩, hp, hI⟩ ?_ ?_
  · rintro i σ H1 hi ⟨l12, g1, g2, ⟨ls1, S1⟩, hp1, hI1⟩
    have g1' : (σ.set 3 (some (.int (0 + (i : Int)))))[1]? = some (some (.ref d)) := by rw [List.getElem?_set_ne (by decide)]; exact g1
    have g2' : (σ.set 3 (some (.int (0 + (i : Int)))))[2]? = some (some (.ref p)) := by rw [List.getElem?_set_ne (by decide)]; exact g2
    refine ⟨_, g1', _, g2', d, c, l, p, _, cs, ls1, xs, rfl, S1, by omega, by omega, hp1, hpl, by omega, by omega, fun H2 ls2 v1 m1 S2 k2 => ?_⟩
    have hp2 := k2 _ _ hp1 hpd hpl
    refine ⟨_, g1', _, g2', d, c, l, p, _, cs, ls2, xs, rfl, S2, by omega, by omega, hp2, hpl, by omega, by omega, fun H3 ls3 v2 m2 S3 k3 => ?_⟩
    have hp3 := k3 _ _ hp2 hpd hpl
    obtain ⟨y1, i1⟩ := hI1 v1 m1
    obtain ⟨y2, i2⟩ := hI1 v2 m2
    have k13 : ∀ b o, Gd d l b → H1 b = some o → H3 b = some o := fun b o g e => k3 b o (k2 b o e g.1 g.2) g.1 g.2
    have I1 := i1.same k13
    have I2 := i2.same k13
    obtain ⟨L, hv, e, el, e1, e2⟩ := nx52_ex
    refine ⟨v1, v2, rfl, H3, omg v1 v2 d p, dlt y1 y2, okk_of hsm I1 I2, H3, fun _ => 0, 0, ⟨0, .e⟩, L0, ⟨⟨rfl, fun _ _ h => absurd h (Nat.not_lt_zero _), fun _ _ h => absurd h (Nat.not_lt_zero _), fun _ _ h => h, fun _ h => absurd h (Nat.not_lt_zero _), fun _ h => absurd h (Nat.not_lt_zero _), fun _ _ h => h⟩, ?_, ?_⟩, _, e, ?_⟩
    · simpa [L0] using l12
    · intro j y hj
      have gs : ∀ (m : Nat) (o : Option V), m ≠ 4 → m ≠ 5 → (σ.set 3 (some (.int (0 + (i : Int)))))[m]? = some o → (((σ.set 3 (some (.int (0 + (i : Int))))).set 4 (some v1)).set 5 (some v2))[m]? = some o := fun m o h4 h5 h => by
        rw [List.getElem?_set_ne (Ne.symm h5), List.getElem?_set_ne (Ne.symm h4)]; exact h
      match j, hj with
      | 0, hj => cases hj
      | 1, hj => cases hj; exact ⟨omg v1 v2 d p 100, gs 1 _ (by decide) (by decide) g1', .opq 100⟩
      | 2, hj => cases hj; exact ⟨omg v1 v2 d p 101, gs 2 _ (by decide) (by decide) g2', .opq 101⟩
      | 3, hj => cases hj
      | 4, hj => cases hj; exact ⟨omg v1 v2 d p 0, by rw [List.getElem?_set_ne (by decide), List.getElem?_set_self (by rw [List.length_set]; omega)]; rfl, .opq 0⟩
      | 5, hj => cases hj; exact ⟨omg v1 v2 d p 1, by rw [List.getElem?_set_self (by rw [List.length_set, List.length_set]; omega)]; rfl, .opq 1⟩
      | 6, hj => cases hj
      | 7, hj => cases hj
      | 8, hj => cases hj
      | 9, hj => cases hj
      | 10, hj => cases hj
      | 11, hj => cases hj
      | n + 12, hj => simp [L0] at hj
    · intro ι4 N4 H4 σ4 x4 s4
      refine ⟨?_, ?_, ?_, ⟨ls3, ?_⟩, s4.rel.out _ _ hp3, fun v hv => ?_⟩
      · have := s4.len; omega
      · obtain ⟨z, hz, rz⟩ := s4.lc 1 _ e1
        cases rz
        exact hz
      · obtain ⟨z, hz, rz⟩ := s4.lc 2 _ e2
        cases rz
        exact hz
      · have ei : (2 * ((i + 1 : Nat) : Int)) = 2 * (i : Int) + 1 + 1 := by omega
        rw [ei]
        exact S3.same fun b o h => s4.rel.out b o h
      · obtain ⟨y, iy⟩ := hI1 v hv
        exact ⟨y, (iy.same k13).same fun b o _ h => s4.rel.out b o h⟩
  · intro σ H1 _
    exact q H1
theorem mgG (tx : Tx K mg) (i : Nat) {x : Str} (h : gloN[i]? = some x := by rfl) : mg x = some (.ref (He.ga K x)) := tx.gl i x h
theorem okLaw (tx : Tx K mg) : ∃ fd, (∀ base : Heap, FnG P w K mg base 4 (He.ga K "law") fd ["script"] (spLaw K)) ∧ ∀ (s : Shared) (u : Value), BindsTo s fd ⟨[u], []⟩ [("script", u)] := by
  obtain ⟨fd, FD⟩ := tx.says.2.2.def_ 48 rfl
  have Fn : Fun K "law" "law" s52 (He.ga K "law") fd := fun_of FD
  refine ⟨fd, fun base => ?_, fun s u => FunD.bindsA (ps := ["script"]) FD (fun _ _ _ _ _ _ us hl => match us, hl with | [_], _ => rfl) s [u] rfl⟩
  obtain ⟨fdM, FDM⟩ := tx.says.2.2.def_ 41 rfl
  have FnM : Fun K "_law_mixed" "_law_mixed" s45 (He.ga K "_law_mixed") fdM := fun_of FDM
  have FM := okMix (P := P) (w := w) (mg := mg) (base := base) (tx.fr 3 _ rfl) FnM
  have bM : Binds K fdM ["cell", "k"] [] := FnM.binds (ps := ["cell", "k"]) fun _ _ _ _ _ _ us hl => match us, hl with | [_, _], _ => rfl
  obtain ⟨fdB, FDB⟩ := tx.says.2.2.def_ 42 rfl
  have FnB : Fun K "_law_begin" "_law_begin" s46 (He.ga K "_law_begin") fdB := fun_of FDB
  have FB := okBegin (P := P) (w := w) (mg := mg) (base := base) (tx.fr 5 _ rfl) FnB
  have bB : Binds K fdB ["script"] [] := FnB.binds (ps := ["script"]) fun _ _ _ _ _ _ us hl => match us, hl with | [_], _ => rfl
  obtain ⟨fdD, FDD⟩ := tx.says.2.2.def_ 43 rfl
  have FnD : Fun K "_law_draw" "_law_draw" s47 (He.ga K "_law_draw") fdD := fun_of FDD
  have FD_ := okDraw (P := P) (w := w) (mg := mg) (base := base) (tx.fr 3 _ rfl) (tx.fr 4 _ rfl) (tx.gl 43 _ rfl) FnM.kp bM FM FnD
  have bD : Binds K fdD ["state", "many"] [] := FnD.binds (ps := ["state", "many"]) fun _ _ _ _ _ _ us hl => match us, hl with | [_, _], _ => rfl
  obtain ⟨fdO, FDO⟩ := tx.says.2.2.def_ 44 rfl
  have FnO : Fun K "_law_of" "_law_of" s48 (He.ga K "_law_of") fdO := fun_of FDO
  have FO := okOf (P := P) (w := w) (mg := mg) (base := base) (tx.fr 4 _ rfl) (tx.gl 45 _ rfl) FnD.kp bD FD_ FnO
  have bO : Binds K fdO ["state", "some"] [] := FnO.binds (ps := ["state", "some"]) fun _ _ _ _ _ _ us hl => match us, hl with | [_, _], _ => rfl
  obtain ⟨fd49, F49⟩ := ok49 (P := P) (w := w) (base := base) tx
  obtain ⟨fd50, F50⟩ := ok50 (P := P) (w := w) (base := base) tx
  obtain ⟨fd51, F51⟩ := ok51 (P := P) (w := w) (base := base) tx
  have sc : FnScope ["script", "state", "some", "turn", "one", "other", "number", "row", "found", "e", "first", "second"] ["script"] (defScope s52) := ⟨rfl, rfl, rfl, by decide +kernel, rfl, by decide +kernel, by decide +kernel⟩
  have nd := sc.nd
  refine funG Fn sc (fun vs H Q E h => law_len vs H Q E h) (fun cdv A outer s H vs Q E hg hr h => ⟨_, PSs.nox (pss_cons (ps_set (i := 1) nd rfl (Or.inl rfl) (pe_callG FB hg (hr.mono (by decide)) rfl (tx.gl 44 _ rfl) FnB.kp bB (pa_cons (pv 0) pa_nil)))
    (pss_cons (ps_set (i := 2) nd rfl (Or.inl rfl) (pe_lst (pa_cons pe_non (pa_cons pe_int (pa_cons (pe_op op_pow pe_int pe_int) (pa_cons pe_str (pa_cons pe_str (pa_cons (pe_tup pa_nil) (pa_cons (pe_tup (pa_cons pe_str (pa_cons pe_int pa_nil)))
      (pa_cons (pe_lst (pa_cons pe_int (pa_cons (pe_lst (pa_cons pe_int pa_nil)) pa_nil))) (pa_cons (pe_disp (pps_cons pe_str pe_int pps_nil) rfl rfl (by simp) (by decide)) (pa_cons pe_bl pa_nil))))))))))))
    (pss_cons (ps_for PassesOwn.never rfl (pi_range1 rfl (tx.fr 6 _ rfl) (pa_cons (pe_op op_add pe_int (pe_callB (call_min2 rfl) rfl (tx.fr 7 _ rfl) boot_min (pa_cons pe_int (pa_cons (pe_callB call_len_seq rfl (tx.fr 4 _ rfl) boot_len (pa_cons (pv 0) pa_nil)) pa_nil)))) pa_nil)) (pg_name (i := 3) nd rfl (Or.inl rfl))
      (pss_cons (ps_par (i := 4) (j := 5) rfl nd rfl rfl (by decide) rfl rfl (pa_cons (pe_callG FO hg (hr.mono (by decide)) rfl (tx.gl 46 _ rfl) FnO.kp bO (pa_cons (pv 1) (pa_cons (pv 2) pa_nil))) (pa_cons (pe_callG FO hg (hr.mono (by decide)) rfl (tx.gl 46 _ rfl) FnO.kp bO (pa_cons (pv 1) (pa_cons (pv 2) pa_nil))) pa_nil)) (by rfl))
        (ps_TU (m := m52) fun HB ω δ hO => (c_seq (c_forE 300 rfl (ps_for PassesOwn.never rfl (pi_enum (by rfl) (tx.fr 2 _ rfl) (c_cons (callK tx 48 F50 hO hg (hr.mono (by decide)) rfl (c_cons (c_var 4 (pv 4)) (c_cons (c_var 5 (pv 5)) c_nil))) c_nil)) (c_gtup rfl rfl (c_gcons (c_gname 6 (pg_name (i := 6) nd rfl (Or.inl rfl))) (c_gcons (c_gname 7 (pg_name (i := 7) nd rfl (Or.inl rfl))) c_gnil))) (c_seq (c_asg (c_var 7 (pv 7)) (c_gtup rfl rfl (c_gcons (c_gname 9 (pg_name (i := 9) nd rfl (Or.inl rfl))) (c_gcons (c_gname 10 (pg_name (i := 10) nd rfl (Or.inl rfl))) (c_gcons (c_gname 11 (pg_name (i := 11) nd rfl (Or.inl rfl))) c_gnil))))) (c_seq (c_if (c_tcmp op_ne ne_s (repK tx hO hg hr (c_lst (c_cons (c_var 10 (pv 10)) (c_cons (c_var 11 (pv 11)) c_nil)))) (repK tx hO hg hr (c_lst (c_cons (c_var 4 (pv 4)) (c_cons (c_var 5 (pv 5)) c_nil)))) (nomark _)) (c_one (c_ret c_bl)) c_snil) (c_seq (c_if (PW.pt (c_or (c_not (c_tv (isK tx 1 rfl rfl (c_var 9 (pv 9))))) (c_or1 (c_not (c_tv (isB0 tx (c_var 9 (pv 9)))))))) (c_one (c_ret c_bl)) c_snil) (c_seq (c_set 8 (ps_set (i := 8) nd rfl (Or.inl rfl) (callK tx 47 F49 hO hg (hr.mono (by decide)) rfl (c_cons (c_var 9 (pv 9)) c_nil)))) (c_one (c_if (PW.pt (c_or (c_tcmp op_ne ne_s (c_cnt rfl (pe_bm PySem.F.plainAttrs_list PySem.F.slot_list_count type_lcount mt_cnt (c_var 8 (pv 8)) (c_cons c_bl c_nil))) c_int (nomark _)) (c_or (c_not (c_tv (c_ix ix_list (ix_s rfl) (c_var 8 (pv 8)) (c_var 6 (pv 6)) (fun _ _ => rfl)))) (c_or1 (c_tv (isKT tx (c_var 9 (pv 9)))))))) (c_one (c_ret c_bl)) c_snil)))))))) (c_one (c_if (c_not (c_tv (callK tx 49 F51 hO hg (hr.mono (by decide)) rfl (c_cons (c_var 4 (pv 4)) c_nil)))) (c_one (c_ret c_bl)) c_snil))))))
    (pss_one (ps_ret pe_bl))))), ?_⟩)
  obtain ⟨a, ns, rfl, hS, hl, q⟩ := h
  refine ⟨_, rfl, a, ns, rfl, hS, hl, fun H1 d c l cs ls S1 s1 => ?_⟩
  refine ⟨_, _, rfl, rfl, ⟨by decide, by decide, by decide⟩, sz1000 (by decide), fun t0 e0 => ?_⟩
  refine ⟨sz1000 (by decide), fun t2 e2 => ⟨sz1000 (by decide), fun b eb => ⟨sz1000 (by show 2 ≤ 100000; decide), fun u eu => fun dd ed => ⟨upd_same, [(kS "a", .int 1)], rfl, (by show 1 ≤ 15; decide), sz1000 (by show 10 ≤ 100000; decide), fun p ep => ?_⟩⟩⟩⟩
  have kA : ∀ x o, H1 x = some o → upd H1 t0 (.tup []) x = some o := keep_upd e0
  have SA1 := S1.same kA
  have kB := keep_upd (o := .tup [V.str "a", V.int 1]) e2
  have SA2 := SA1.same kB
  have kC := keep_upd (o := .lst [V.int 2]) eb
  have SA3 := SA2.same kC
  have kD := keep_upd (o := .lst [V.int 1, V.ref b]) eu
  have SA4 := SA3.same kD
  have kE := keep_upd (o := .dK []) ed
  have SA5 := SA4.same kE
  have nE : ∀ x, x ≠ dd → upd (upd (upd (upd (upd (upd H1 t0 (.tup [])) t2 (.tup [V.str "a", V.int 1])) b (.lst [V.int 2])) u (.lst [V.int 1, V.ref b])) dd (.dK [])) dd (.dK (mergeK [] [(kS "a", V.int 1)])) x = upd (upd (upd (upd H1 t0 (.tup [])) t2 (.tup [V.str "a", V.int 1])) b (.lst [V.int 2])) u (.lst [V.int 1, V.ref b]) x := fun x h => by rw [upd_ne h, upd_ne h]
  have kE2 : ∀ x o, upd (upd (upd (upd H1 t0 (.tup [])) t2 (.tup [V.str "a", V.int 1])) b (.lst [V.int 2])) u (.lst [V.int 1, V.ref b]) x = some o → upd (upd (upd (upd (upd (upd H1 t0 (.tup [])) t2 (.tup [V.str "a", V.int 1])) b (.lst [V.int 2])) u (.lst [V.int 1, V.ref b])) dd (.dK [])) dd (.dK (mergeK [] [(kS "a", V.int 1)])) x = some o := fun x o h => by
    rw [nE x (ne_of_none h ed)]; exact h
  have SA6 := SA4.same kE2
  have kF := keep_upd (o := .lst [.non, .int 5, .int big, .str "a text", .str "", .ref t0, .ref t2, .ref u, .ref dd, .bl true]) ep
  have SA7 := SA6.same kF
  refine loop_ok (K := K) (ns := ns) (cs := cs) (ls := ls) (c := c) (l := l) tx.says.2.1 ?_ hl SA7 upd_same (SA6.fresh ep).2 rfl ?_ q
  · exact Same.seq (fun x o h => kF x o (kE2 x o (kD x o (kC x o (kB x o (kA x o (s1 x o h))))))) hS
  · intro v hv
    have m0 : upd H1 t0 (.tup []) t0 = some (.tup []) := upd_same
    have m2 : upd (upd H1 t0 (.tup [])) t2 (.tup [V.str "a", V.int 1]) t2 = some (.tup [V.str "a", V.int 1]) := upd_same
    have mb := (upd_same : upd (upd (upd H1 t0 (.tup [])) t2 (.tup [V.str "a", V.int 1])) b (.lst [V.int 2]) b = _)
    have mu := (upd_same : upd (upd (upd (upd H1 t0 (.tup [])) t2 (.tup [V.str "a", V.int 1])) b (.lst [V.int 2])) u (.lst [V.int 1, V.ref b]) u = _)
    have md : upd (upd (upd (upd (upd (upd H1 t0 (.tup [])) t2 (.tup [V.str "a", V.int 1])) b (.lst [V.int 2])) u (.lst [V.int 1, V.ref b])) dd (.dK [])) dd (.dK (mergeK [] [(kS "a", V.int 1)])) dd = some (.dK [(kS "a", V.int 1)]) := by
      rw [upd_same]; simp [mergeK, putK]
    simp only [List.mem_cons, List.not_mem_nil, or_false] at hv
    rcases hv with rfl | rfl | rfl | rfl | rfl | rfl | rfl | rfl | rfl | rfl
    · exact ⟨_, .non⟩
    · exact ⟨_, .five⟩
    · exact ⟨_, .big⟩
    · exact ⟨_, .txt⟩
    · exact ⟨_, .emp⟩
    · exact ⟨_, .tu0 (S1.fresh e0) (kF _ _ (kE2 _ _ (kD _ _ (kC _ _ (kB _ _ m0)))))⟩
    · exact ⟨_, .tu2 (SA1.fresh e2) (kF _ _ (kE2 _ _ (kD _ _ (kC _ _ m2))))⟩
    · exact ⟨_, .lst (SA3.fresh eu) (SA2.fresh eb) (kF _ _ (kE2 _ _ mu)) (kF _ _ (kE2 _ _ (kD _ _ mb)))⟩
    · exact ⟨_, .dic (SA4.fresh ed) (kF _ _ md)⟩
    · exact ⟨_, .tru⟩
end
end K95
/-! C7 -/
set_option maxHeartbeats 4000000
/-! The end: a law's call at the heap behind the top, for a def told under no guards. -/
namespace Ev
open PySem PySem.Spec PyProof.Rows L2
section
variable {P : Program} {w : World} {K : PySem.W.Frag} {mg mb : Str → Option Value} {k : Nat} {fa a : Addr} {fd : FuncData} {x : Str} {sp : Sp} {t : Shared} {vs : List Value} {ns : List Int}
/-- what the end says of the call -/
abbrev Ended (t : Shared) (r : Except Value Flow) (u : Shared) : Prop := r = .ok (.ret (.bool true)) ∧ OldK t.heap u.heap ∧ u.os = t.os ∧ AllBare u.gens
theorem end_core {H : Hp} (KX : K.In t.heap) (n1 : t.heap.Ns mainGlobals mg) (n2 : t.heap.Ns builtinsNs mb) (bt : ∀ z : Str, z ≠ "__name__" → mb z = bootBuiltins z) (li : t.heap.NoLimit) (ge : t.gens = #[]) (la : t.heap.get? a = some { cls := .type "list", data := .seq vs.toArray })
    (rm : Room k callerA) (gd : callerA.guards = some []) (F : ∀ base : Heap, FnG P w K mg base k fa fd [x] sp) (bi : ∀ (s : Shared) (u : Value), BindsTo s fd ⟨[u], []⟩ [(x, u)]) (go : sp [.ref a] H (fun v _ => v = .bl true) fun _ _ _ => False)
    (on : Only H) (ok : HOk P w H t.heap) (one : ∀ b, H b ≠ none → b = a) (nk : H a ≠ none → K.lookup a = none) : codeAny (model P w) callerA (.call (.ref fa) ⟨[.ref a], []⟩) (Ended t) t := by
  have stays : ∀ {b : Addr} {o : Obj}, t.heap.get? b = some o → (b = a → H b = none) → (hidT t.heap H).get? b = some o := fun {b o} e n => hidT_get e (Classical.byContradiction fun z => z (n (one b z)))
  have notTab : ∀ {b : Addr} {o : Obj} {es : Array DictEntry} {ep : Nat}, t.heap.get? b = some o → o.data = .dict es ep → b ≠ a := fun {b o es ep} e d z => by
    subst z
    rw [la] at e
    cases e
    cases d
  have names : ∀ {b : Addr} {m : Str → Option Value}, t.heap.Ns b m → (hidT t.heap H).Ns b m := fun {b m} ⟨o, es, ep, e, d, r⟩ => ⟨o, es, ep, stays e fun z => absurd z (notTab e d), d, r⟩
  have frag : K.In (hidT t.heap H) := fun b o e => stays (KX b o e) fun z => Classical.byContradiction fun q => by
    subst z
    rw [nk q] at e
    cases e
  have world : Mod K mg (hidT t.heap H) := ⟨frag, names n1, ⟨mb, names n2, bt⟩, let ⟨mc, q1, q2⟩ := li; ⟨mc, names q1, q2⟩⟩
  have env : Env0 P w K mg (hidT t.heap H) callerA [] t H := ⟨rfl, world, fun b o e => of_hidT e, Nat.le_of_eq (hidT_size _ _), trivial, fun b hb => absurd (show b ∈ ([] : List Addr) from hb) (by simp), ok, .of_eq ge⟩
  refine codeAny_mono ((F (hidT t.heap H)).go callerA [] t H ⟨[.ref a], []⟩ [.ref a] [.ref a] _ _ gd rm env (bi t (.ref a)) (.cons rfl .nil) go) fun r u h => ?_
  match r, h with
  | .error _, h => exact False.elim h
  | .ok .next, h => exact False.elim h
  | .ok .brk, h => exact False.elim h
  | .ok .cont, h => exact False.elim h
  | .ok (.ret y), ⟨v, H', os, bare, un, ok', rv, q⟩ =>
    have q' : v = .bl true := q
    subst q'
    have ey : y = Value.bool true := rv
    subst ey
    refine ⟨rfl, OldK.of_keep fun b o e => ?_, os, bare⟩
    cases hb : H b with
    | none => exact un.keep b o e hb (fun z => absurd (show b ∈ ([] : List Addr) from z) (by simp)) (by simp)
    | some ob =>
      rcases on b with z | ⟨o', xs, z⟩
      · rw [hb] at z
        cases z
      · have e1 := (ok b _ z).1
        have e2 := (ok' b _ (un.frzs b o' _ z)).1
        rw [e] at e1
        cases e1
        exact e2
theorem end_call (KX : K.In t.heap) (n1 : t.heap.Ns mainGlobals mg) (n2 : t.heap.Ns builtinsNs mb) (bt : ∀ z : Str, z ≠ "__name__" → mb z = bootBuiltins z) (li : t.heap.NoLimit) (ge : t.gens = #[]) (la : t.heap.get? a = some { cls := .type "list", data := .seq vs.toArray })
    (hi : IntsAre vs ns) (hl : ns.length ≤ sizeLine) (rm : Room k callerA) (gd : callerA.guards = some []) (F : ∀ base : Heap, FnG P w K mg base k fa fd [x] sp) (bi : ∀ (s : Shared) (u : Value), BindsTo s fd ⟨[u], []⟩ [(x, u)])
    (go : ∀ H : Hp, Only H → SqL K H a (ns.map V.int) → sp [.ref a] H (fun v _ => v = .bl true) fun _ _ _ => False) : codeAny (model P w) callerA (.call (.ref fa) ⟨[.ref a], []⟩) (Ended t) t := by
  have rel := vals_ints hi
  cases hk : K.lookup a with
  | some o =>
    have e := KX a o hk
    rw [la] at e
    cases e
    have on : Only (fun _ => none) := fun _ => .inl rfl
    have sq : SqL K (fun _ => none) a (ns.map V.int) := .inr ⟨_, vs.toArray, _, hk, rfl, rfl, rfl, by rw [List.size_toArray, hi.length]; exact hl, by simpa using rel⟩
    exact end_core KX n1 n2 bt li ge la rm gd F bi (go _ on sq) on (fun b u z => nomatch z) (fun b z => absurd rfl z) fun z => absurd rfl z
  | none =>
    have at_ : (upd (fun _ => none) a (.frz { cls := .type "list", data := .seq vs.toArray } (.lst (ns.map V.int))) : Hp) a = _ := upd_same
    have off : ∀ b, b ≠ a → (upd (fun _ => none) a (.frz { cls := .type "list", data := .seq vs.toArray } (.lst (ns.map V.int))) : Hp) b = none := fun b h => upd_ne h
    have on : Only (upd (fun _ => none) a (.frz { cls := .type "list", data := .seq vs.toArray } (.lst (ns.map V.int)))) := fun b => by
      by_cases h : b = a
      · subst h
        exact .inr ⟨_, _, at_⟩
      · exact .inl (off b h)
    refine end_core KX n1 n2 bt li ge la rm gd F bi (go _ on (.inl (.inr ⟨_, at_⟩))) on (fun b u z => ?_) (fun b z => ?_) fun _ => hk
    · by_cases h : b = a
      · subst h
        rw [at_] at z
        cases z
        exact ⟨la, by rw [List.length_map]; exact hl, vs, _, rel, la⟩
      · rw [off b h] at z
        cases z
    · by_cases h : b = a
      · exact h
      · exact absurd (off b h) z
end
theorem walk_G {l : PySem.W.OpenLaw} {n k : Nat} {q : Program} {loose : List Str} {XP : (Str → Option Value) → Heap → Prop} {YP : World → Heap → Prop} {d : DefRec} {x : Str} (hn : l.most = some n) (hs : n ≤ sizeLine) (nod : d.params.defaults = []) (rm : Room k callerA) (gd : callerA.guards = some [])
    (F : ∀ (w : World) (mg : Str → Option Value) (fa : Addr) (h : Heap), YP w h → h.Ns mainGlobals mg → mg d.name = some (.ref fa) → ∃ (K : PySem.W.Frag) (fd : FuncData) (sp : Sp), K.In h ∧ (∀ (s : Shared) (u : Value), BindsTo s fd ⟨[u], []⟩ [(x, u)]) ∧
      (∀ (H : Hp) (a : Addr) (ns : List Int), ns.length ≤ n → Only H → SqL K H a (ns.map V.int) → sp [.ref a] H (fun v _ => v = .bl true) fun _ _ _ => False) ∧ ∀ base : Heap, FnG l.prog w K mg base k fa fd [x] sp) : PySem.W.WalkO q loose XP YP l.row.toRowW d [] (fun f vs => PySem.call f vs) := by
  refine Att.attach_call hn nod ?_
  intro w _ t mg mb fa o pm cd doc a vs ns G Y _ _ _ named la hi hlen ge
  obtain ⟨K, fd, sp, KX, bi, go, f⟩ := F w mg fa _ Y G.T.g named
  exact end_call KX G.T.g G.T.b G.T.builtins G.T.nolimit ge la hi (Nat.le_trans hlen hs) rm gd f bi fun H on sq => go H a ns hlen on sq
end Ev
/-! C8 -/
set_option maxHeartbeats 0
namespace K95
open PySem PySem.Spec PyProof.Rows L2 Ev
theorem tx_of {K : PySem.W.Frag} {h : Heap} {mg : Str → Option Value} (X : K.In h) (G : h.Ns mainGlobals mg) (c : SaysX fa fn chk K) : Tx K mg where
  says := c
  gl := fun i x hi => He.glo_ok X G (c.2.2.fact i (f := .glo x) (by
    have hl := (List.getElem?_eq_some_iff.mp hi).1
    unfold fa
    rw [List.getElem?_append_left (by rw [List.length_map]; exact hl), List.getElem?_map, hi]
    rfl))
  fr := fun i x hi => He.free_ok X G (c.2.2.fact (gloN.length + i) (f := .free x) (by
    unfold fa
    rw [List.getElem?_append_right (by rw [List.length_map]; omega), List.length_map, Nat.add_sub_cancel_left, List.getElem?_map, hi]
    rfl))
theorem room : Room 4 callerA := ⟨rfl, by decide, by decide⟩
theorem bare : callerA.guards = some [] := by rfl
end K95
open PySem PySem.W PySem.Calls PyProof.Rows
theorem PySem.Challenge.cw_namedcuts_k95_errors_by_hand_holds : PySem.Challenge.rw_namedcuts_k95_errors_by_hand.Holds := by
  w_on; o_law
  refine HandSHeadRun.head_any (r := OpenLaw.row PySem.Challenge.rw_namedcuts_k95_errors_by_hand) (q := view (OpenLaw.row PySem.Challenge.rw_namedcuts_k95_errors_by_hand).prog [52]) (H := K95.hk) (ob := K95.ob) (M := 12000) (loose := K95.loose) (d := HandSHeadRun.topDef (OpenLaw.row PySem.Challenge.rw_namedcuts_k95_errors_by_hand).prog 52) (kwd := []) K95.ob_eq
    (by kernel_rfl) (fun s => by kernel_rfl) K95.run (by kernel_rfl) (by kernel_rfl) (by kernel_rfl) (by rfl) (by first | assumption | decide +kernel) (by decide +kernel) ⟨rfl, rfl, rfl, rfl, rfl, by decide +kernel⟩ ?hw ?hc
  case hw => w_witness2
  case hc =>
    refine Ev.walk_G (l := PySem.Challenge.rw_namedcuts_k95_errors_by_hand) (n := 63) (k := 4) (x := "script") rfl (by decide) (by kernel_rfl) K95.room K95.bare ?F
    intro w mg fa h Y G named
    obtain ⟨K, KX, c⟩ := Y
    have tx := K95.tx_of KX G c
    have e0 : (HandSHeadRun.topDef (OpenLaw.row PySem.Challenge.rw_namedcuts_k95_errors_by_hand).prog 52).name = ("law" : PySem.Str) := by kernel_rfl
    rw [e0] at named
    have e := named.symm.trans (tx.gl 50 "law" rfl)
    cases e
    obtain ⟨fd, f, b⟩ := K95.okLaw (P := PySem.Challenge.rw_namedcuts_k95_errors_by_hand.prog) (w := w) tx
    exact ⟨K, fd, K95.spLaw K, KX, b, fun H a ns hl _ sq => ⟨a, ns, rfl, sq, hl, fun _ => rfl⟩, f⟩
