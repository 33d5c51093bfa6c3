import PyProof.Rows.All
import Wide.All
import OpenK.AllK
import Wide.FinOn
import HandS.ForMost
import HandS.ForExc
import HandS.IsInst
import HandS.Walk
import HandS.More
import HandS.Dict
import HandS.Style
import HandS.SortInts
import HandS.DictComp
import HandS.Zip
import HandS.Deep
import HandS.TryOnly
import HandS.TupAny
import HandS.TupMul
import KE.GoesMore
import PySem.Challenge.RW_loadanywhere_k85_dead_pieces
import HandS.Lambda
import HandS.Ends
import HandS.EndTab
import HandS.HeadWalk
import PyProof.ReprRoads
import KE.DataEq
import KE.SortKeyHeap
import KE.SortData
import HandS.SortKw
import HandS.ExcInit
import HandS.ExcField
import HandS.Defaults
import HandS.Conv
import PyProof.FitsBits
import KE.IntBitsLaws
import HandS.List
import KE.KDictWalk
import KE.KDictCopyH
import KE.KeyNested
import KE.KEqDict
import HandS.OwnEq
import PyProof.InstNe
import HandS.SlotsOwn
import PyProof.P3Eq
import HandS.TupLen
import HandS.WordsDict
import Wide.Once
import KE.KStateDown
import Lean
import HandS.Head0
import HandS.Head1
import HandS.Head2
import HandS.HeadHook1
import HandS.HeadHook2
import HandS.HeadHook3
import HandS.HeadHook4
set_option Elab.async false
set_option linter.all false
set_option maxRecDepth 100000
set_option maxHeartbeats 0
namespace DR
open PySem PySem.Spec PyProof.Rows L2
/-! ### the text by places -/
def topS (i : Nat) : Stmt := PySem.Challenge.pw_loadanywhere_k85_dead_pieces.main.body.getD i (.Pass ⟨0, 0, 0, 0⟩)
/-- a def of the text that stands at a global name and keeps its promise -/
structure Has (P : Program) (w : World) (K : PySem.W.Frag) (mg : Str → Option Value) (base : Heap) (CX : CXT) (k : Nat) (x : Str) (ps : List Str) (sp : Sp) : Prop where
  ex : ∃ (f : Addr) (fd : FuncData), mg x = some (.ref f) ∧ PySem.W.keepIn K (.ref f) = true ∧ Binds K fd ps [] ∧ FnOk P w K mg base CX k f fd ps sp
theorem Has.mono {P : Program} {w : World} {K : PySem.W.Frag} {mg : Str → Option Value} {base : Heap} {CX : CXT} {j k : Nat} {x : Str} {ps : List Str} {sp : Sp} (h : Has P w K mg base CX j x ps sp) (l : j ≤ k) : Has P w K mg base CX k x ps sp := by
  obtain ⟨f, fd, a, b, c, d⟩ := h.ex
  exact ⟨f, fd, a, b, c, d.mono l⟩
section
variable {X : Cx} {CX : CXT} {k : Nat} {ps : List Str} {sp : Sp} {E : XK} {x : Str} {p pos : Pos} {e : Expr} {es : List Expr} {t : TA}
theorem pe_callH (F : Has X.prog X.w X.K X.mg X.base CX k x ps sp) (hr : Room k X.A) (hg : Gl X x) (hx : Passes CX X E)
    (ha : PA X (e :: es) t) (hdb : (x == ("__debug__" : Str)) = false := by decide) (he : starEach (e :: es) X.env = (false, eval e X.env) :: starEach es X.env := by rfl) (hpl : (backTo pos (starEach es X.env)).any (·.1) = false := by rfl) :
    PE X (.Call (.Name x p) (e :: es) [] pos) (tCall sp [] E t) := by
  obtain ⟨f, fd, a, b, c, d⟩ := F.ex
  exact pe_call d hr hg a b c .nil hx ha hdb he hpl
end
/-- the names of built-ins that the law and the program ask -/
structure Bi (mg : Str → Option Value) : Prop where
  len : mg "len" = none
  int : mg "int" = none
  str : mg "str" = none
  bool : mg "bool" = none
  list : mg "list" = none
  tuple : mg "tuple" = none
  isinstance : mg "isinstance" = none
  all : mg "all" = none
  sorted : mg "sorted" = none
  range : mg "range" = none
  enumerate : mg "enumerate" = none
  zip : mg "zip" = none
  dict : mg "dict" = none
  min : mg "min" = none
  set : mg "set" = none
end DR

namespace DR
open PySem PySem.Spec PyProof.Rows L2
/-! ### things: data, and the empty dict -/
theorem rd_same {H H' : Hp} {a : Addr} {u : HO} (e : Same H H') (h : Rd H a u) : Rd H' a u := by
  rcases h with h | ⟨o, h⟩
  · exact .inl (e _ _ h)
  · exact .inr ⟨o, e _ _ h⟩
theorem sqL_same {K : PySem.W.Frag} {H H' : Hp} {a : Addr} {xs : List V} (e : Same H H') (h : SqL K H a xs) : SqL K H' a xs := e.seq h
theorem sqT_same {K : PySem.W.Frag} {H H' : Hp} {a : Addr} {xs : List V} (e : Same H H') (h : SqT K H a xs) : SqT K H' a xs := by
  rcases h with h | h
  · exact .inl (rd_same e h)
  · exact .inr h
mutual
theorem dp_same {K : PySem.W.Frag} {H H' : Hp} (e : Same H H') : ∀ {v : V} {d : PyData}, Dp K H v d → Dp K H' v d
  | _, _, .non => .non
  | _, _, .bl b => .bl b
  | _, _, .int i => .int i
  | _, _, .str x => .str x
  | _, _, .lst s a => .lst (sqL_same e s) (dps_same e a)
  | _, _, .tup s a => .tup (sqT_same e s) (dps_same e a)
theorem dps_same {K : PySem.W.Frag} {H H' : Hp} (e : Same H H') : ∀ {vs : List V} {ds : List PyData}, DpAll K H vs ds → DpAll K H' vs ds
  | _, _, .nil => .nil
  | _, _, .cons h t => .cons (dp_same e h) (dps_same e t)
end
theorem same_new {H : Hp} {p : Addr} {o : HO} (h : H p = none) : Same H (upd H p o) := fun b x e => by
  rw [upd_ne (ne_of_none e h)]
  exact e
/-- data, or a dict -/
inductive Th (K : PySem.W.Frag) (H : Hp) : V → PyData → Prop
  | dat {v : V} {d : PyData} : Dp K H v d → Th K H v d
  | dct {a : Addr} {kvs : List (Key × V)} : H a = some (.dK kvs) → Th K H (.ref a) (.dict [])
theorem th_same {K : PySem.W.Frag} {H H' : Hp} (e : Same H H') {v : V} {d : PyData} : Th K H v d → Th K H' v d
  | .dat h => .dat (dp_same e h)
  | .dct h => .dct (e _ _ h)
def tyN : PyData → String
  | .none => "NoneType"
  | .bool _ => "bool"
  | .int _ => "int"
  | .str _ => "str"
  | .list _ => "list"
  | .tuple _ => "tuple"
  | .dict _ => "dict"
theorem ty_list {K : PySem.W.Frag} {H : Hp} {a : Addr} {xs : List V} (h : SqL K H a xs) : TyX K H (.ref a) (.type "list") := by
  rcases h with (h | ⟨o, h⟩) | ⟨o, its, n, h, c, _⟩
  · exact .base (.lst h)
  · exact .base (.frz h)
  · exact .kList h c
theorem ty_tup {K : PySem.W.Frag} {H : Hp} {a : Addr} {xs : List V} (h : SqT K H a xs) : TyX K H (.ref a) (.type "tuple") := by
  rcases h with (h | ⟨o, h⟩) | ⟨o, its, n, h, c, _⟩
  · exact .base (.tup h)
  · exact .fTuple h
  · exact .kTuple h c
theorem th_ty {K : PySem.W.Frag} {H : Hp} {v : V} {d : PyData} (h : Th K H v d) : TyX K H v (.type (tyN d)) := by
  cases h with
  | dct h => exact .base (.dK h)
  | dat h =>
    cases h with
    | non => exact .base .non
    | bl b => exact .base (.bl b)
    | int i => exact .base (.int i)
    | str x => exact .base (.str x)
    | lst s _ => exact ty_list s
    | tup s _ => exact ty_tup s
def isI : PyData → Bool
  | .int _ => true
  | _ => false
def isIB : PyData → Bool
  | .int _ => true
  | .bool _ => true
  | _ => false
def isB : PyData → Bool
  | .bool _ => true
  | _ => false
def isS : PyData → Bool
  | .str _ => true
  | _ => false
def isR : PyData → Bool
  | .list _ => true
  | .tuple _ => true
  | _ => false
def tyNs : List String := ["NoneType", "bool", "int", "str", "list", "tuple", "dict"]
theorem tyN_mem (d : PyData) : tyN d ∈ tyNs := by cases d <;> simp [tyN, tyNs]
theorem kb_int : ∀ n ∈ tyNs, kitB n "int" = some (n == "int" || n == "bool") := by decide +kernel
theorem kb_bool : ∀ n ∈ tyNs, kitB n "bool" = some (n == "bool") := by decide +kernel
theorem kb_str : ∀ n ∈ tyNs, kitB n "str" = some (n == "str") := by decide +kernel
theorem kb_list : ∀ n ∈ tyNs, kitB n "list" = some (n == "list") := by decide +kernel
theorem kb_tup : ∀ n ∈ tyNs, kitB n "tuple" = some (n == "tuple") := by decide +kernel
theorem kit_int {K : PySem.W.Frag} (d : PyData) : PySem.W.kitOne K (.type (tyN d)) (.type "int") = some (isIB d) := by
  have h := kb_int _ (tyN_mem d)
  have e : (tyN d == "int" || tyN d == "bool") = isIB d := by cases d <;> rfl
  rw [e] at h
  exact kit_ty h
theorem kit_bool {K : PySem.W.Frag} (d : PyData) : PySem.W.kitOne K (.type (tyN d)) (.type "bool") = some (isB d) := by
  have h := kb_bool _ (tyN_mem d)
  have e : (tyN d == "bool") = isB d := by cases d <;> rfl
  rw [e] at h
  exact kit_ty h
theorem kit_str {K : PySem.W.Frag} (d : PyData) : PySem.W.kitOne K (.type (tyN d)) (.type "str") = some (isS d) := by
  have h := kb_str _ (tyN_mem d)
  have e : (tyN d == "str") = isS d := by cases d <;> rfl
  rw [e] at h
  exact kit_ty h
theorem kit_row {K : PySem.W.Frag} (d : PyData) : PySem.W.kitAny K (.type (tyN d)) [.type "list", .type "tuple"] = some (isR d) := by
  have h1 := kb_list _ (tyN_mem d)
  have h2 := kb_tup _ (tyN_mem d)
  refine kitAny_cons (kit_ty h1) (fun z => kitAny_cons (kit_ty h2) (fun z2 => ?_) fun z2 => ?_) fun z => ?_
  all_goals
    revert z
    try revert z2
    cases d <;> simp [tyN, isR, kitAny_nil]
/-- isinstance of a thing, one class -/
theorem isi1 {K : PySem.W.Frag} {H : Hp} {v : V} {d : PyData} {n : String} {b : Bool} {Q : VK} (h : Th K H v d) (k : PySem.W.kitOne K (.type (tyN d)) (.type n) = some b) (q : Q (.bl b) H) : rIsi K [v, .ty n] H Q :=
  ⟨v, .ty n, _, _, b, rfl, .ty n, th_ty h, k, q⟩
def spIsInt (K : PySem.W.Frag) : Sp := fun vs H Q _ => ∃ v d, vs = [v] ∧ Th K H v d ∧ Q (.bl (isI d)) H
def spIsRow (K : PySem.W.Frag) : Sp := fun vs H Q _ => ∃ v d, vs = [v] ∧ Th K H v d ∧ ∀ H', Same H H' → Q (.bl (isR d)) H'
/-- the items of a list or tuple -/
def items : PyData → Option (List PyData)
  | .list xs => some xs
  | .tuple xs => some xs
  | _ => none
def isRof (d : PyData) (n : Int) : Bool := match items d with
  | some xs => decide ((xs.length : Int) = n)
  | none => false
def spIsRowOf (K : PySem.W.Frag) : Sp := fun vs H Q _ => ∃ v d n, vs = [v, .int n] ∧ Th K H v d ∧ ∀ H', Same H H' → Q (.bl (isRof d n)) H'
theorem dps_len {K : PySem.W.Frag} {H : Hp} : ∀ {vs : List V} {ds : List PyData}, DpAll K H vs ds → vs.length = ds.length
  | _, _, .nil => rfl
  | _, _, .cons _ t => congrArg (· + 1) (dps_len t)
/-- a thing that is a row: its place and items -/
theorem th_row {K : PySem.W.Frag} {H : Hp} {v : V} {d : PyData} (h : Th K H v d) {ds : List PyData} (e : items d = some ds) : ∃ a xs, v = .ref a ∧ (SqL K H a xs ∨ SqT K H a xs) ∧ DpAll K H xs ds := by
  cases h with
  | dct h => cases e
  | dat h =>
    cases h with
    | non => cases e
    | bl b => cases e
    | int i => cases e
    | str x => cases e
    | lst s t =>
      cases e
      exact ⟨_, _, rfl, .inl s, t⟩
    | tup s t =>
      cases e
      exact ⟨_, _, rfl, .inr s, t⟩
theorem isR_items (d : PyData) : isR d = (items d).isSome := by cases d <;> rfl
abbrev sIsInt : Stmt := topS 11
abbrev sIsRow : Stmt := topS 12
abbrev sIsRowOf : Stmt := topS 13
abbrev sIsName : Stmt := topS 14
theorem scIsInt : FnScope ["thing"] ["thing"] (defScope sIsInt) := ⟨rfl, rfl, rfl, by decide +kernel, rfl, by decide +kernel, by decide +kernel⟩
theorem scIsRow : FnScope ["thing"] ["thing"] (defScope sIsRow) := ⟨rfl, rfl, rfl, by decide +kernel, rfl, by decide +kernel, by decide +kernel⟩
theorem scIsRowOf : FnScope ["thing", "many"] ["thing", "many"] (defScope sIsRowOf) := ⟨rfl, rfl, rfl, by decide +kernel, rfl, by decide +kernel, by decide +kernel⟩
theorem scIsName : FnScope ["thing", "letter"] ["thing"] (defScope sIsName) := ⟨rfl, rfl, rfl, by decide +kernel, rfl, by decide +kernel, by decide +kernel⟩
def lettersS : Str := "abcdefghijklmnopqrstuvwxyz"
def isNmS (s : Str) : Bool := decide (1 ≤ (s.length : Int)) && (decide ((s.length : Int) ≤ 8) && s.cps.toList.all fun c => decide (c ∈ lettersS.cps.toList))
def isNm : PyData → Bool
  | .str s => isNmS s
  | _ => false
/-- a thing whose text, if it is one, is not too long -/
def shortS : PyData → Prop
  | .str s => s.length ≤ 1000
  | _ => True
def spIsName (K : PySem.W.Frag) : Sp := fun vs H Q _ => ∃ v d, vs = [v] ∧ Th K H v d ∧ shortS d ∧ ∀ H', Same H H' → Q (.bl (isNm d)) H'
section
variable {P : Program} {w : World} {K : PySem.W.Frag} {mg : Str → Option Value} {base : Heap}
theorem ok_isInt {f : Addr} {fd : FuncData} (F : Fun K "is_integer" "is_integer" sIsInt f fd) (T : Bi mg) : FnOk P w K mg base CX0 1 f fd ["thing"] (spIsInt K) := by
  refine F.ok scIsInt (fun vs H Q E h => ?_) (fun cdv A outer s H vs Q E hr h => ?_)
  · obtain ⟨v, d, rfl, _⟩ := h
    rfl
  · obtain ⟨v, d, rfl, th, q⟩ := h
    refine ⟨_, (pss_one (ps_ret (pe_and (pe_callB call_isi (by rfl) T.isinstance (by decide +kernel) (pa_cons (pv 0) (pa_cons (pe_bltn (v := .ty "int") (by rfl) T.int (by decide +kernel) rfl) pa_nil))) (pe_one (pe_not (pe_callB call_isi (by rfl) T.isinstance (by decide +kernel) (pa_cons (pv 0) (pa_cons (pe_bltn (v := .ty "bool") (by rfl) T.bool (by decide +kernel) rfl) pa_nil)))))))), ?_⟩
    refine ⟨_, rfl, v, _, _, _, _, rfl, .ty "int", th_ty th, kit_int d, _, rfl, ?_⟩
    cases e : isIB d with
    | false =>
      refine iteF ?_
      have z : isI d = false := by cases d <;> first | rfl | cases e
      rw [z] at q
      exact q
    | true =>
      refine iteT ⟨_, rfl, v, _, _, _, _, rfl, .ty "bool", th_ty th, kit_bool d, _, rfl, ?_⟩
      have z : isI d = !isB d := by cases d <;> first | rfl | cases e
      rw [z] at q
      exact q
theorem ok_isRow {f : Addr} {fd : FuncData} (F : Fun K "is_row" "is_row" sIsRow f fd) (T : Bi mg) : FnOk P w K mg base CX0 1 f fd ["thing"] (spIsRow K) := by
  refine F.ok scIsRow (fun vs H Q E h => ?_) (fun cdv A outer s H vs Q E hr h => ?_)
  · obtain ⟨v, d, rfl, _⟩ := h
    rfl
  · obtain ⟨v, d, rfl, th, q⟩ := h
    refine ⟨_, (pss_one (ps_ret (pe_callB call_isiT (by rfl) T.isinstance (by decide +kernel) (pa_cons (pv 0) (pa_cons (pe_tup (pa_cons (pe_bltn (v := .ty "list") (by rfl) T.list (by decide +kernel) rfl) (pa_cons (pe_bltn (v := .ty "tuple") (by rfl) T.tuple (by decide +kernel) rfl) pa_nil))) pa_nil))))), ?_⟩
    refine ⟨_, rfl, (by show 2 ≤ sizeLine; decide), fun p hp => ?_⟩
    refine ⟨v, p, _, _, _, _, rfl, upd_same, .cons (.ty "list") (.cons (.ty "tuple") .nil), th_ty (th_same (same_new hp) th), kit_row d, q _ (same_new hp)⟩
theorem ok_isRowOf {f : Addr} {fd : FuncData} (F : Fun K "is_row_of" "is_row_of" sIsRowOf f fd) (T : Bi mg) (G : Has P w K mg base CX0 1 "is_row" ["thing"] (spIsRow K)) : FnOk P w K mg base CX0 2 f fd ["thing", "many"] (spIsRowOf K) := by
  refine F.ok scIsRowOf (fun vs H Q E h => ?_) (fun cdv A outer s H vs Q E hr h => ?_)
  · obtain ⟨v, d, n, rfl, _⟩ := h
    rfl
  · obtain ⟨v, d, n, rfl, th, q⟩ := h
    refine ⟨_, (pss_one (ps_ret (pe_and (pe_callH G hr (by rfl) pass0 (pa_cons (pv 0) pa_nil)) (pe_one (pe_cmpR op_eq (pe_callB call_len_seq (by rfl) T.len (by decide +kernel) (pa_cons (pv 0) pa_nil)) (pv 1) (nomark _)))))), ?_⟩
    refine ⟨_, rfl, v, d, rfl, th, fun H' sm => ⟨_, rfl, ?_⟩⟩
    rw [isR_items]
    have q' := q H' sm
    unfold isRof at q'
    cases e : items d with
    | none =>
      rw [e] at q'
      exact iteF q'
    | some ds =>
      rw [e] at q'
      obtain ⟨a, xs, rfl, hs, ha⟩ := th_row (th_same sm th) e
      refine iteT ⟨_, rfl, a, xs, rfl, hs, _, rfl, rfl, ?_⟩
      rw [dps_len ha]
      have z : decide (V.int (ds.length : Int) = V.int n) = decide ((ds.length : Int) = n) := by
        by_cases c : (ds.length : Int) = n
        · rw [c]; simp
        · rw [decide_eq_false c]
          exact decide_eq_false fun z => c (V.int.inj z)
      rw [z]
      exact q'
theorem yes_go {σ : L2.St} {H : Hp} {F : Bool → Hp → Prop} (h : F true H) : tYes σ H F := h
theorem ok_isName {f : Addr} {fd : FuncData} {t : Tok} (F : Fun K "is_name" "is_name" sIsName f fd) (T : Bi mg) (gL : mg "LETTERS" = some (.str lettersS t)) : FnOk P w K mg base CX0 1 f fd ["thing"] (spIsName K) := by
  refine F.ok scIsName (fun vs H Q E h => ?_) (fun cdv A outer s H vs Q E hr h => ?_)
  · obtain ⟨v, d, rfl, _⟩ := h
    rfl
  · obtain ⟨v, d, rfl, th, sh, q⟩ := h
    refine ⟨_, (pss_cons (ps_if (PW.pt (pw_or (pt_not (pt_val (pe_callB call_isi (by rfl) T.isinstance (by decide +kernel) (pa_cons (pv 0) (pa_cons (pe_bltn (v := .ty "str") (by rfl) T.str (by decide +kernel) rfl) pa_nil))))) (pw_or1 (pt_not (pt_chain op_le op_le pe_int (pe_callB call_len_str (by rfl) T.len (by decide +kernel) (pa_cons (pv 0) pa_nil)) pe_int))))) (pss_one (ps_ret pe_bl)) pss_nil)
      (pss_one (ps_ret (pe_callB (cr_all rfl) (by rfl) T.all (by decide +kernel) (pa_cons (pe_lc (own := [("letter", 1)]) (g := gName 1) (tt := tYes) rfl scIsName.nd (pi_str (pv 0)) (blkOk_by (N := ["thing", "letter"]) (sc := defScope sIsName) (by decide +kernel)) (fun _ _ _ _ _ => pg_name (i := 1) scIsName.nd rfl (.inl rfl)) (fun _ _ _ _ _ => pts_nil) (fun _ _ _ _ _ => (pe_cmpR op_in_sign (pv 1) (pe_glob (v := .str lettersS) rfl gL ⟨_, rfl⟩) (by rfl)))) pa_nil))))), ?_⟩
    refine ⟨_, rfl, v, _, _, _, _, rfl, .ty "str", th_ty th, kit_str d, _, rfl, ?_⟩
    cases d with
    | str s =>
      obtain rfl : v = .str s := by
        cases th with
        | dat h => cases h; rfl
      have hl : s.length ≤ sizeLine := Nat.le_trans sh (by decide)
      refine iteF ⟨_, rfl, s, rfl, hl, _, _, rfl, rfl, _, rfl, ?_⟩
      have q0 : Q (.bl (isNmS s)) H := q H (Same.refl H)
      unfold isNmS at q0
      cases c1 : decide (1 ≤ (s.length : Int)) with
      | false =>
        rw [c1] at q0
        exact iteF ⟨_, rfl, iteT q0⟩
      | true =>
        refine iteT ⟨_, _, rfl, rfl, _, rfl, ?_⟩
        cases c2 : decide ((s.length : Int) ≤ 8) with
        | false =>
          rw [c1, c2] at q0
          exact iteT q0
        | true =>
          refine iteF ⟨_, rfl, s, rfl, fun D hD => ?_⟩
          have e1 : (isNmS s) = s.cps.toList.all fun c => decide (c ∈ lettersS.cps.toList) := by
            unfold isNmS
            rw [c1, c2]
            rfl
          refine lc_it (walk_str (z := s)) (fun i H' => (∀ b o, b ≠ D → H b = some o → H' b = some o) ∧ H' D = some (.lst (((s.cps.toList.take i).map fun c => decide (c ∈ lettersS.cps.toList)).map V.bl))) ⟨fun b o hb e => by rw [upd_ne hb]; exact e, upd_same⟩ (fun _ _ _ _ => trivial) ?_ ?_
          · rintro i x H1 H2 hi ⟨kp, hd⟩ ⟨rfl, c, hc, rfl⟩
            have hc' : s.cps.toList[i]? = some c := by simpa using hc
            refine ⟨rfl, ?_⟩
            refine yes_go (iteT ?_)
            refine ⟨_, rfl, c, lettersS, rfl, rfl, _, hd, ?_, fun b o hb e => ?_, ?_⟩
            · rw [List.length_map, List.length_map, List.length_take]
              refine Nat.lt_of_le_of_lt (Nat.min_le_right _ _) (Nat.lt_of_le_of_lt (m := 1000) ?_ (by decide))
              have e2 : s.cps.toList.length = s.length := by simp [Str.length]
              have sh' : s.length ≤ 1000 := sh
              omega
            · rw [upd_ne hb]
              exact kp b o hb e
            · rw [upd_same, List.take_add_one, hc']
              simp
          · rintro H1 ⟨kp, hd⟩
            refine ⟨D, _, rfl, SqL.of hd, ?_⟩
            have e2 : s.cps.toList.take s.cps.size = s.cps.toList := by
              rw [← Array.length_toList]
              exact List.take_length
            have e3 : ((s.cps.toList.take s.cps.size).map fun c => decide (c ∈ lettersS.cps.toList)).all id = isNm (.str s) := by
              rw [e2, List.all_map]
              exact e1.symm
            rw [e3]
            exact q H1 fun b o e => kp b o (ne_of_none e hD) e
    | none => exact iteT (q H (Same.refl H))
    | bool b => exact iteT (q H (Same.refl H))
    | int i => exact iteT (q H (Same.refl H))
    | list xs => exact iteT (q H (Same.refl H))
    | tuple xs => exact iteT (q H (Same.refl H))
    | dict xs => exact iteT (q H (Same.refl H))
end
end DR

namespace DR
open PySem PySem.Spec PyProof.Rows L2
theorem at_of {xs : List V} {i : Nat} {v : V} (h : xs[i]? = some v) : atI xs (i : Int) = some v := by
  have hi : i < xs.length := (List.getElem?_eq_some_iff.mp h).1
  unfold atI ixN
  rw [if_pos (by omega), if_pos (by omega)]
  show xs[((i : Int)).toNat]? = _
  rw [Int.toNat_natCast]
  exact h
theorem at_last {xs : List V} {v : V} : atI (xs ++ [v]) (-1) = some v := by
  unfold atI ixN
  rw [if_neg (by omega), if_pos (by simp; omega)]
  show (xs ++ [v])[_]? = _
  have e : (-1 + ((xs ++ [v]).length : Int)).toNat = xs.length := by
    rw [List.length_append, List.length_singleton]
    omega
  rw [e]
  simp
theorem strEq (a b : Str) : decide (V.str a = V.str b) = decide (a = b) := by
  by_cases c : a = b
  · rw [c]; simp
  · rw [decide_eq_false c]
    exact decide_eq_false fun z => c (V.str.inj z)
theorem intEq (a b : Int) : decide (V.int a = V.int b) = decide (a = b) := by
  by_cases c : a = b
  · rw [c]; simp
  · rw [decide_eq_false c]
    exact decide_eq_false fun z => c (V.int.inj z)
theorem small1000 {n : Nat} (h : n ≤ 1000) : n < sizeLine := Nat.lt_of_le_of_lt h (by decide)
theorem same_upd {H H' : Hp} {p : Addr} {o : HO} (e : Same H H') (hp : H p = none) : Same H (upd H' p o) := fun b u hb => by
  rw [upd_ne (ne_of_none hb hp)]
  exact e _ _ hb
def SqE (K : PySem.W.Frag) (H : Hp) (a : Addr) (xs : List V) : Prop := SqL K H a xs ∨ SqT K H a xs
theorem sqE_same {K : PySem.W.Frag} {H H' : Hp} {a : Addr} {xs : List V} (e : Same H H') (h : SqE K H a xs) : SqE K H' a xs := h.imp (sqL_same e) (sqT_same e)
theorem cut_from {xs : List V} {r : Nat} (h : r ≤ xs.length) : cutV xs (some (r : Int)) none = xs.drop r := by
  unfold cutV
  rw [HT.sIx_none, HT.sIx_nat, Nat.min_eq_left h]
  rw [List.take_of_length_le (by rw [List.length_drop]; exact Nat.le_refl _)]
theorem cut_to {xs : List V} {r : Nat} (h : r ≤ xs.length) : cutV xs none (some (r : Int)) = xs.take r := by
  unfold cutV
  rw [HT.sIx_none, HT.sIx_nat, List.drop_zero, Nat.sub_zero, Nat.min_eq_left h]
theorem cut_1 (xs : List V) : cutV xs (some 1) none = xs.drop 1 := by
  cases xs with
  | nil => rfl
  | cons x xs => exact cut_from (r := 1) (by simp)
end DR

namespace GA
open PySem PySem.Spec PyProof.Rows L2
/-! ### the law's own call, told of the very caller: so what stands guarded is known -/
/-- what is known of the heap in which the law is called -/
structure Here (K : PySem.W.Frag) (mg : Str → Option Value) (s : Shared) (cs : List (Addr × Addr)) (a : Addr) (vs : List Value) (ns : List Int) : Prop where
  kin : K.In s.heap
  glob : s.heap.Ns mainGlobals mg
  blt : ∃ mb : Str → Option Value, s.heap.Ns builtinsNs mb ∧ ∀ x : Str, x ≠ "__name__" → mb x = bootBuiltins x
  lim : s.heap.NoLimit
  gens : s.gens = #[]
  tab : ∀ p ∈ cs, s.heap.get? p.2 = some { cls := .none, data := .fields #[] }
  out : ∀ p ∈ cs, K.lookup p.2 = none
  code : ∀ p ∈ cs, PySem.W.CodeHd s.heap p.1 p.2
  bm : ∃ (b : Addr) (o : Obj), mg "__builtins__" = some (.ref b) ∧ b ≠ builtinsNs ∧ s.heap.get? b = some o ∧ o.cls = .type "module" ∧ o.dict = some builtinsNs ∧ o.data = .plain
  obj : s.heap.get? a = some { cls := .type "list", data := .seq vs.toArray }
  nums : IntsAre vs ns
  few : ns.length ≤ sizeLine
section
variable {P : Program} {w : World} {K : PySem.W.Frag} {mg : Str → Option Value} {s : Shared} {cs : List (Addr × Addr)} {a : Addr} {vs : List Value} {ns : List Int}
/-- the script's list and the tables, and nothing else, are followed -/
noncomputable def hp (K : PySem.W.Frag) (cs : List (Addr × Addr)) (a : Addr) (vs : List Value) (ns : List Int) : Hp := fun b =>
  open Classical in
  if b ∈ cs.map Prod.snd then some (.tbl #[]) else if b = a ∧ K.lookup a = none then some (.frz { cls := .type "list", data := .seq vs.toArray } (.lst (ns.map V.int))) else none
theorem hp_tab {p : Addr × Addr} (h : p ∈ cs) : hp K cs a vs ns p.2 = some (.tbl #[]) := by
  unfold hp
  exact if_pos (List.mem_map.mpr ⟨p, h, rfl⟩)
/-- what is followed -/
theorem hp_cases {b : Addr} {u : HO} (h : hp K cs a vs ns b = some u) : (∃ p ∈ cs, p.2 = b ∧ u = .tbl #[]) ∨ (b = a ∧ K.lookup a = none ∧ (∀ p ∈ cs, p.2 ≠ b) ∧ u = .frz { cls := .type "list", data := .seq vs.toArray } (.lst (ns.map V.int))) := by
  unfold hp at h
  by_cases m : b ∈ cs.map Prod.snd
  · rw [if_pos m] at h
    obtain ⟨p, hp, e⟩ := List.mem_map.mp m
    exact .inl ⟨p, hp, e, (Option.some.inj h).symm⟩
  · rw [if_neg m] at h
    by_cases q : b = a ∧ K.lookup a = none
    · rw [if_pos q] at h
      exact .inr ⟨q.1, q.2, fun p hp e => m (List.mem_map.mpr ⟨p, hp, e⟩), (Option.some.inj h).symm⟩
    · rw [if_neg q] at h
      cases h
theorem Here.apart (W : Here K mg s cs a vs ns) {p : Addr × Addr} (h : p ∈ cs) : p.2 ≠ a := fun e => by
  have t := W.tab p h
  rw [e, W.obj] at t
  exact absurd (congrArg Obj.data (Option.some.inj t)) (by simp)
theorem Here.free (W : Here K mg s cs a vs ns) {b : Addr} {o : Obj} (g : s.heap.get? b = some o) (n1 : ∀ z n, o.data ≠ .seq z n) (n2 : o.data ≠ .fields #[]) : hp K cs a vs ns b = none := by
  cases e : hp K cs a vs ns b with
  | none => rfl
  | some u =>
    rcases hp_cases e with ⟨p, hp, rfl, _⟩ | ⟨rfl, _⟩
    · rw [W.tab p hp] at g
      exact absurd (by rw [← Option.some.inj g]) n2
    · rw [W.obj] at g
      exact absurd (by rw [← Option.some.inj g]) (n1 vs.toArray _)
theorem Here.spc (W : Here K mg s cs a vs ns) {b : Addr} {m : Str → Option Value} (h : s.heap.Ns b m) : (hidT s.heap (hp K cs a vs ns)).Ns b m := by
  obtain ⟨o, es, ep, g, d, r⟩ := h
  refine ⟨o, es, ep, hidT_get g (W.free g (fun z n q => ?_) fun q => ?_), d, r⟩
  · rw [d] at q
    cases q
  · rw [d] at q
    cases q
theorem Here.base (W : Here K mg s cs a vs ns) : K.In (hidT s.heap (hp K cs a vs ns)) := fun b o e => by
  refine hidT_get (W.kin b o e) ?_
  cases q : hp K cs a vs ns b with
  | none => rfl
  | some u =>
    rcases hp_cases q with ⟨p, hp, rfl, _⟩ | ⟨rfl, k, _⟩
    · rw [W.out p hp] at e
      cases e
    · rw [k] at e
      cases e
theorem Here.tabB (W : Here K mg s cs a vs ns) {p : Addr × Addr} (h : p ∈ cs) : LamX.TabB (hidT s.heap (hp K cs a vs ns)) mg p.1 p.2 := by
  have tp := W.tab p h
  have apart : ∀ {b : Addr} {o : Obj}, s.heap.get? b = some o → (o.data ≠ .fields #[]) → b ≠ p.2 := fun g n z => by
    rw [z, tp] at g
    exact n (by rw [← Option.some.inj g])
  obtain ⟨og, eg, pg, gg, dg, rg⟩ := id W.glob
  have ng : og.data ≠ .fields #[] := fun z => by
    rw [dg] at z
    cases z
  refine ⟨?_, ?_, apart gg ng⟩
  · obtain ⟨o, us, f1, f2, f3, f4, f5, f6, f7, g, r1, r2, r3, rest⟩ := W.code p h
    refine ⟨o, us, f1, f2, f3, f4, f5, f6, f7, hidT_get g (W.free g (fun z n q => ?_) fun q => ?_), r1, r2, r3, rest⟩
    · rw [r2] at q
      cases q
    · rw [r2] at q
      cases q
      simp at r3
  · obtain ⟨b, o, b1, b2, b3, b4, b5, b6⟩ := W.bm
    have pl : o.data ≠ .fields #[] := fun z => by
      rw [b6] at z
      cases z
    refine ⟨b, o, b1, b2, fun z => ?_, apart b3 pl, hidT_get b3 (W.free b3 (fun z n q => ?_) pl), b4, b5, b6⟩
    · rw [z, gg] at b3
      rw [← Option.some.inj b3, dg] at b6
      cases b6
    · rw [b6] at q
      cases q
theorem Here.sq (W : Here K mg s cs a vs ns) : SqL K (hp K cs a vs ns) a (ns.map V.int) := by
  cases k : K.lookup a with
  | some o =>
    have g := W.kin a o k
    rw [W.obj] at g
    obtain rfl := Option.some.inj g
    exact .inr ⟨_, vs.toArray, _, k, rfl, rfl, rfl, by rw [List.size_toArray, W.nums.length]; exact W.few, by simpa using vals_ints W.nums⟩
  | none =>
    refine .inl (.inr ⟨{ cls := .type "list", data := .seq vs.toArray }, ?_⟩)
    unfold hp
    rw [if_neg, if_pos ⟨rfl, k⟩]
    intro m
    obtain ⟨p, hp, e⟩ := List.mem_map.mp m
    exact W.apart hp e
theorem Here.hok (W : Here K mg s cs a vs ns) : HOk P w (hp K cs a vs ns) s.heap := fun b u e => by
  rcases hp_cases e with ⟨p, hp, rfl, rfl⟩ | ⟨rfl, _, _, rfl⟩
  · exact W.tab p hp
  · exact ⟨W.obj, by rw [List.length_map]; exact W.few, vs, _, vals_ints W.nums, W.obj⟩
theorem Here.env (W : Here K mg s cs a vs ns) : Env0 P w K mg (hidT s.heap (hp K cs a vs ns)) callerA [] s (hp K cs a vs ns) := by
  obtain ⟨mb, b1, b2⟩ := W.blt
  obtain ⟨mc, l1, l2⟩ := W.lim
  exact ⟨rfl, ⟨W.base, W.spc W.glob, ⟨mb, W.spc b1, b2⟩, ⟨mc, W.spc l1, l2⟩⟩, fun b o g => of_hidT g, Nat.le_of_eq (hidT_size _ _), trivial, (by intro b hb; cases hb), W.hok, .of_eq W.gens⟩
/-- what a call that gives True leaves behind -/
theorem Here.after (W : Here K mg s cs a vs ns) {CX : CXT} {r : Result} {s' : Shared} (no : ∀ H e s', CX [] H s (fun _ _ _ => False) e s' → False) (h : CR CX [] P w (hp K cs a vs ns) s (fun v _ => v = .bl true) (fun _ _ _ => False) r s') : r = .ok (.ret (.bool true)) ∧ OldK s.heap s'.heap ∧ s'.os = s.os ∧ AllBare s'.gens := by
  cases r with
  | error e => exact (no _ e s' h).elim
  | ok fl =>
    cases fl with
    | ret u =>
      obtain ⟨v, H', os, bare, un, ok', rv, rfl⟩ := h
      obtain rfl : u = Value.bool true := rv
      have tabs : ∀ p ∈ cs, ∃ z : Array Value, s'.heap.get? p.2 = some { cls := .none, data := .fields z } := fun p hp => by
        obtain ⟨z, e⟩ := un.tbls p.2 #[] (hp_tab hp)
        exact ⟨_, ok' p.2 _ e⟩
      have rest : ∀ b o, (∀ p ∈ cs, p.2 ≠ b) → s.heap.get? b = some o → s'.heap.get? b = some o := fun b o n g => by
        cases q : hp K cs a vs ns b with
        | none => exact un.keep b o g q (by intro z; cases z) (by simp)
        | some u =>
          rcases hp_cases q with ⟨p, hp, e, _⟩ | ⟨rfl, k, _, rfl⟩
          · exact absurd e (n p hp)
          · have f := un.frzs b _ _ q
            obtain ⟨g2, _⟩ := ok' b _ f
            rw [g2, ← g]
            exact W.obj.symm
      refine ⟨rfl, ⟨fun b o g => ?_, fun b o g => ?_⟩, os, bare⟩
      · by_cases m : ∃ p ∈ cs, p.2 = b
        · obtain ⟨p, hp, rfl⟩ := m
          obtain ⟨z, e⟩ := tabs p hp
          rw [W.tab p hp] at g
          obtain rfl := Option.some.inj g
          refine .inr (.inl ⟨((W.code p hp).tab (W.tab p hp)).isCodeTable, rfl, #[], z, rfl, ?_⟩)
          rw [Array.empty_append]
          exact e
        · exact .inl (rest b o (fun p hp e => m ⟨p, hp, e⟩) g)
      · by_cases m : ∃ p ∈ cs, p.2 = b
        · obtain ⟨p, hp, rfl⟩ := m
          obtain ⟨z, e⟩ := tabs p hp
          exact ⟨_, e⟩
        · exact ⟨o, rest b o (fun p hp e => m ⟨p, hp, e⟩) g⟩
    | next => exact h.elim
    | brk => exact h.elim
    | cont => exact h.elim
end
/-- the law's promise at the very call -/
def LawHere (l : PySem.W.OpenLaw) (w : World) (K : PySem.W.Frag) (CX : CXT) (n : Nat) (mg : Str → Option Value) (fa : Addr) (h : Heap) : Prop :=
  ∃ cs : List (Addr × Addr), (∀ p ∈ cs, h.get? p.2 = some { cls := .none, data := .fields #[] }) ∧ (∀ p ∈ cs, K.lookup p.2 = none) ∧ (∀ p ∈ cs, PySem.W.CodeHd h p.1 p.2) ∧
    ∀ (base : Heap) (s : Shared) (H : Hp) (a : Addr) (ns : List Int), K.In base → base.Ns mainGlobals mg → (∀ p ∈ cs, LamX.TabB base mg p.1 p.2) → (∀ p ∈ cs, H p.2 = some (.tbl #[])) → SqL K H a (ns.map V.int) → ns.length ≤ n → Env0 l.prog w K mg base callerA [] s H →
      codeAny (model l.prog w) callerA (.call (.ref fa) ⟨[.ref a], []⟩) (CR CX [] l.prog w H s (fun v _ => v = .bl true) fun _ _ _ => False) s
theorem walk_here {l : PySem.W.OpenLaw} {n : Nat} {q : Program} {loose : List Str} {XP : (Str → Option Value) → Heap → Prop} {YP : World → Heap → Prop} {d : DefRec} {CX : World → CXT} (hn : l.most = some n) (hn2 : n ≤ sizeLine) (hdf : d.params.defaults = [])
    (F : ∀ (w : World) (mg : Str → Option Value) (fa : Addr) (h : Heap), YP w h → h.Ns mainGlobals mg → mg d.name = some (.ref fa) → ∃ K : PySem.W.Frag, K.In h ∧ LawHere l w K (CX w) n mg fa h)
    (no : ∀ (w : World) (H : Hp) (s : Shared) (e : Value) (s' : Shared), CX w [] H s (fun _ _ _ => False) e s' → False) :
    PySem.W.WalkO q loose XP YP l.row.toRowW d [] (fun f vs => PySem.call f vs) := by
  refine Att.attach_callB hn hdf fun w s0 s mg mb fa o pm cd doc a vs ns G Y ho hd hcd hmg hobj hints hlen hbits hg => ?_
  obtain ⟨K, kin, cs, h1, h2, h3, run⟩ := F w mg fa _ Y G.T.g hmg
  have W : Here K mg s cs a vs ns := ⟨kin, G.T.g, ⟨mb, G.T.b, G.T.builtins⟩, G.T.nolimit, hg, h1, h2, h3, G.T.bmain, hobj, hints, Nat.le_trans hlen hn2⟩
  exact codeAny_mono (run _ s _ a ns W.base (W.spc W.glob) (fun p hp => W.tabB hp) (fun p hp => hp_tab hp) W.sq hlen W.env) fun r s' h => W.after (fun H e s2 => no w H s e s2) h
end GA

namespace GA
open PySem PySem.Spec PyProof.Rows L2
/-! ### repr of data -/
def rRepr (K : PySem.W.Frag) : List V → Hp → VK → Prop := fun xs H Q => ∃ (p : Addr) (d : PyData), xs = [.ref p] ∧ Dp K H (.ref p) d ∧ d.showable = true ∧ d.hasDict = false ∧ d.depth ≤ 60 ∧ d.shown.length ≤ sizeLine ∧ Q (.str d.shown) H
theorem call_repr_dat {X : Cx} (hg : X.A.guards = some []) (hu : X.A.units + 65 < cLine) : CallR X (.builtin "repr") (rRepr X.K) := by
  intro pins s σ H xs us Q I r h
  obtain ⟨p, d, rfl, hd, sh, nd, dp, sz, q⟩ := h
  obtain ⟨u, rfl, ru⟩ : ∃ u, us = [u] ∧ RelV (.ref p) u := by
    cases r with
    | cons a b =>
      cases b
      exact ⟨_, rfl, a⟩
  obtain ⟨as, rd⟩ := Dp.reads I d _ _ hd ru
  cases ru
  exact repr_of_reads' rd sh (fun e => by rw [nd] at e; cases e) hg (by omega) (fun b o e => e) (fun h' u tk k => ⟨.str d.shown, H, I.kept (t' := tk) k, ⟨u, rfl⟩, q⟩) sz
end GA

namespace DR
open PySem PySem.Spec PyProof.Rows PySem.W PySem.SeqAt
/-! ### sorting where an earlier place decides: rows that are not all alike -/
/-- rows of data: as far as the first place that differs, the places can be compared -/
def cmpL (R : PyData → PyData → Prop) : List PyData → List PyData → Prop
  | x :: xs, y :: ys => R x y ∧ (PyData.eqv x y = true → cmpL R xs ys)
  | _, _ => True
def alikeP (x y : PyData) : Prop := alike x y = true
def R1 (x y : PyData) : Prop := alikeP x y ∨ ∃ xs ys, x = .tuple xs ∧ y = .tuple ys ∧ cmpL alikeP xs ys
def Toks (x y : PyData) : Prop := (PyData.eqv x y = true → keyToks x = keyToks y) ∧ (PyData.eqv x y = false → ∀ l m, PyProof.Rows.lexLt itemOrd (keyToks x ++ l) (keyToks y ++ m) = PyProof.Rows.lexLt itemOrd (keyToks x) (keyToks y))
def ToksL (xs ys : List PyData) : Prop := (PyData.eqvAll xs ys = true → keyToksAll xs = keyToksAll ys) ∧ (PyData.eqvAll xs ys = false → ∀ l m, PyProof.Rows.lexLt itemOrd (keyToksAll xs ++ l) (keyToksAll ys ++ m) = PyProof.Rows.lexLt itemOrd (keyToksAll xs) (keyToksAll ys))
theorem toksL {R : PyData → PyData → Prop} (h : ∀ x y, R x y → Toks x y) : ∀ xs ys, cmpL R xs ys → ToksL xs ys
  | [], [], _ => ⟨fun _ => rfl, fun e => absurd e (by simp [PyData.eqvAll])⟩
  | [], y :: ys, _ => ⟨fun e => absurd e (by simp [PyData.eqvAll]), fun _ l m => by
      simp only [keyToksAll, List.cons_append, List.nil_append]
      exact (lex_atom (by simp) _ _).trans (lex_atom (by simp) _ _).symm⟩
  | x :: xs, [], _ => ⟨fun e => absurd e (by simp [PyData.eqvAll]), fun _ l m => by
      simp only [keyToksAll, List.cons_append, List.nil_append]
      exact (lex_atom (by simp) _ _).trans (lex_atom (by simp) _ _).symm⟩
  | x :: xs, y :: ys, c => by
    obtain ⟨a1, a2⟩ := h x y c.1
    unfold ToksL
    rw [eqv_all_cons, toks_all_cons, toks_all_cons]
    cases hx : PyData.eqv x y with
    | true =>
      obtain ⟨b1, b2⟩ := toksL h xs ys (c.2 hx)
      rw [a1 hx, Bool.true_and]
      refine ⟨fun e => by rw [b1 e], fun e l m => ?_⟩
      simp only [List.cons_append, List.append_assoc]
      exact (lex_self (O := itemOrd) _ _ _).trans ((lex_pre _ _ _).trans ((b2 e l m).trans ((lex_pre _ _ _).symm.trans (lex_self (O := itemOrd) _ _ _).symm)))
    | false =>
      rw [Bool.false_and]
      refine ⟨fun e => absurd e Bool.false_ne_true, fun _ l m => ?_⟩
      simp only [List.cons_append, List.append_assoc]
      exact (lex_self (O := itemOrd) _ _ _).trans ((a2 hx _ _).trans ((a2 hx _ _).symm.trans (lex_self (O := itemOrd) _ _ _).symm))
theorem toks_alike (x y : PyData) (h : alikeP x y) : Toks x y := toks_eqv x y h
theorem toks_R1 (x y : PyData) (h : R1 x y) : Toks x y := by
  rcases h with h | ⟨xs, ys, rfl, rfl, h⟩
  · exact toks_eqv x y h
  · have t := toksL toks_alike xs ys h
    unfold Toks
    simp only [keyToks, PyData.eqv]
    exact t
section
variable {R : PyData → PyData → Prop} (hT : ∀ x y, R x y → Toks x y)
include hT
theorem lt_yes {x y : PyData} {xs ys : List PyData} (h : R x y) (e : PyData.eqv x y = true) : PyProof.Rows.lexLt itemOrd (keyToksAll (x :: xs)) (keyToksAll (y :: ys)) = PyProof.Rows.lexLt itemOrd (keyToksAll xs) (keyToksAll ys) := by
  rw [toks_all_cons, toks_all_cons, (hT x y h).1 e]
  exact (lex_self (O := itemOrd) _ _ _).trans (lex_pre _ _ _)
theorem lt_no {x y : PyData} {xs ys : List PyData} (h : R x y) (e : PyData.eqv x y = false) : PyProof.Rows.lexLt itemOrd (keyToksAll (x :: xs)) (keyToksAll (y :: ys)) = dataLt x y := by
  rw [toks_all_cons, toks_all_cons]
  exact (lex_self (O := itemOrd) _ _ _).trans ((hT x y h).2 e _ _)
theorem firstLt_cmp : ∀ (xs ys : List PyData), cmpL R xs ys →
    firstLt (pairEq xs ys) (fun j => dataLt (xs.getD j .none) (ys.getD j .none)) (decide (xs.length < ys.length)) (List.range (min xs.length ys.length)) = PyProof.Rows.lexLt itemOrd (keyToksAll xs) (keyToksAll ys)
  | [], [], _ => by simp [firstLt, keyToksAll, lex_irrefl]
  | [], y :: ys, _ => by
    rw [toks_all_cons]
    simp only [keyToksAll]
    rw [lex_diff (O := itemOrd) (by simp)]
    simp [firstLt, itemLt]
  | x :: xs, [], _ => by
    rw [toks_all_cons]
    simp only [keyToksAll]
    rw [lex_diff (O := itemOrd) (by simp)]
    simp [firstLt, itemLt]
  | x :: xs, y :: ys, h => by
    have em : min (x :: xs).length (y :: ys).length = min xs.length ys.length + 1 := by
      rw [List.length_cons, List.length_cons]
      omega
    have ed : decide ((x :: xs).length < (y :: ys).length) = decide (xs.length < ys.length) := by
      rw [List.length_cons, List.length_cons]
      exact decide_eq_decide.mpr (by omega)
    rw [em, ed, List.range_succ_eq_map]
    cases hx : PyData.eqv x y with
    | true =>
      rw [firstLt_yes (show pairEq (x :: xs) (y :: ys) 0 = true from hx), firstLt_map, lt_yes hT h.1 hx, ← firstLt_cmp xs ys (h.2 hx)]
      rfl
    | false =>
      rw [firstLt_no (show pairEq (x :: xs) (y :: ys) 0 = false from hx), lt_no hT h.1 hx]
      rfl
end
/-- the place that is reached can be compared -/
theorem cmpL_at {R : PyData → PyData → Prop} : ∀ (xs ys : List PyData) (j : Nat), cmpL R xs ys → j < xs.length → j < ys.length → (∀ i, i < j → pairEq xs ys i = true) → R (xs.getD j .none) (ys.getD j .none)
  | x :: xs, y :: ys, 0, h, _, _, _ => h.1
  | x :: xs, y :: ys, j + 1, h, h1, h2, e => cmpL_at xs ys j (h.2 (e 0 (Nat.succ_pos _))) (Nat.lt_of_succ_lt_succ h1) (Nat.lt_of_succ_lt_succ h2) fun i hi => e (i + 1) (Nat.succ_lt_succ hi)
  | [], _, _, _, h1, _, _ => absurd h1 (Nat.not_lt_zero _)
  | _ :: _, [], _, _, _, h2, _ => absurd h2 (Nat.not_lt_zero _)
end DR

namespace DR
open PySem PySem.Spec PyProof.Rows PySem.W PySem.SeqAt
open PySem.AutoSeq1 (wpAny_loadPart')
open PySem.MeetsSeq PySem.MeetsSeq2 PySem.MeetsSeq3 PySem.SeqRoads2
section
/-- tuple's own <, a place's < asked only where the ones ahead are equal -/
theorem tuple_ltL (l b : Addr) (items items2 : Array Value) (n n2 : Nat) (dd dd2 : Option Addr) (sl sl2 : Array (Option Value)) (e r : Nat → Bool) :
    Meets (Builtin.«tuple.__lt__» ⟨[.ref l, .ref b], []⟩)
      (fun A R s => s.heap.get? l = some { cls := .type "tuple", dict := dd, data := .seq items n, slots := sl } ∧ s.heap.get? b = some { cls := .type "tuple", dict := dd2, data := .seq items2 n2, slots := sl2 } ∧
        (∀ j (h1 : j < items.size) (h2 : j < items2.size), EqAt A.in1 s items[j] items2[j] (e j)) ∧ (∀ j (h1 : j < items.size) (h2 : j < items2.size), (∀ i, i < j → e i = true) → e j = false → RcLt A.in1 s items[j] items2[j] (r j)) ∧
        R (.ok (.ret (.bool (firstLt e r (decide (items.size < items2.size)) (List.range (min items.size items2.size)))))) s) :=
  .of_wp fun prog w A R s h => by
    obtain ⟨hp, g, d, tk, os⟩ := s; obtain ⟨hl, hb, he, hr, h⟩ := h
    have f2 := AutoSeq1.sub_tuple_tuple
    have hZ : (items.toList.zip items2.toList).length = min items.size items2.size := by simp
    wp_walk using wpAny_loadPart' hl, wpAny_loadPart' hb, wpAny_forIn_list _ (fun rest b s' => b.1 = none ∧ s' = ⟨hp, g, d, tk, os⟩ ∧ ∃ i, rest = (items.toList.zip items2.toList).drop i ∧ (∀ k, k < i → e k = true) ∧
      R (.ok (.ret (.bool (firstLt e r (decide (items.size < items2.size)) ((List.range (min items.size items2.size)).drop i))))) ⟨hp, g, d, tk, os⟩) _
    case turn =>
      rintro ⟨y, x⟩ rest b s' ⟨hb', rfl, i, hz, hpre, hR⟩
      have hlt : i < (items.toList.zip items2.toList).length := by
        rcases Nat.lt_or_ge i (items.toList.zip items2.toList).length with h' | h'
        · exact h'
        · rw [List.drop_of_length_le h'] at hz; cases hz
      have hm : i < min items.size items2.size := hZ ▸ hlt
      have h1 : i < items.size := Nat.lt_of_lt_of_le hm (Nat.min_le_left _ _)
      have h2 : i < items2.size := Nat.lt_of_lt_of_le hm (Nat.min_le_right _ _)
      rw [List.drop_eq_getElem_cons hlt] at hz
      injection hz with hyx hrest
      have hy : y = items[i] := by have := congrArg Prod.fst hyx; simpa using this
      have hx : x = items2[i] := by have := congrArg Prod.snd hyx; simpa using this
      subst hy hx
      have hd : (List.range (min items.size items2.size)).drop i = i :: (List.range (min items.size items2.size)).drop (i + 1) := by simp [List.drop_eq_getElem_cons, hm]
      rw [hd] at hR
      refine wpAny_bind (he i h1 h2 prog w _ _ ?_)
      cases hy : e i with
      | true =>
        rw [firstLt_yes hy] at hR
        wp_walk
        refine ⟨rfl, rfl, i + 1, hrest, fun k hk => ?_, hR⟩
        rcases Nat.lt_succ_iff_lt_or_eq.mp hk with h' | h'
        · exact hpre k h'
        · rw [h']
          exact hy
      | false =>
        rw [firstLt_no hy] at hR
        have hr' := hr i h1 h2 hpre hy prog w
        generalize richCompare CmpOp.Lt items[i] items2[i] = mm at hr' ⊢
        wp_walk
        refine hr' _ _ ?_
        wp_walk
        exact ⟨_, rfl, hR⟩
    case fin =>
      rintro ⟨b1, b2⟩ s' ⟨hb', rfl, i, hz, _, hR⟩
      simp only at hb'
      subst hb'
      have hge : min items.size items2.size ≤ i := by
        rcases Nat.lt_or_ge i (items.toList.zip items2.toList).length with h' | h'
        · rw [List.drop_eq_getElem_cons h'] at hz; cases hz
        · exact hZ ▸ h'
      rw [List.drop_of_length_le (by simpa using hge)] at hR
      wp_walk
      exact ⟨_, rfl, by simpa [Builtin.Tuple.tupleCompareSizes, firstLt] using hR⟩
    case h =>
      exact ⟨rfl, rfl, 0, rfl, fun k hk => absurd hk (Nat.not_lt_zero _), by simpa using h⟩
theorem rcLt_tuplesL {A : Around} {s : Shared} {l b : Addr} {items items2 : Array Value} {e r : Nat → Bool} (hl : s.heap.IsTuple l items) (hb : s.heap.IsTuple b items2) (hu : A.units < cLine)
    (he : ∀ j (h1 : j < items.size) (h2 : j < items2.size), EqAt A.in1 s items[j] items2[j] (e j)) (hr : ∀ j (h1 : j < items.size) (h2 : j < items2.size), (∀ i, i < j → e i = true) → e j = false → RcLt A.in1 s items[j] items2[j] (r j)) :
    RcLt A s (.ref l) (.ref b) (firstLt e r (decide (items.size < items2.size)) (List.range (min items.size items2.size))) := fun prog w E Q h => by
  obtain ⟨⟨cls, dd, data, sl⟩, ho, hc, n, hd⟩ := id hl
  obtain ⟨⟨cls2, dd2, data2, sl2⟩, ho2, hc2, n2, hd2⟩ := id hb
  simp only at hc hd hc2 hd2
  subst hc hd hc2 hd2
  exact richCompare_meets_room (op := .Lt) ⟨_, ho, rfl⟩ ⟨_, ho2, rfl⟩ F.slot_tuple_lt F.entry_tuple_lt (F.args_tuple_lt_2 _ _) (tuple_ltL l b items items2 n n2 dd dd2 sl sl2 e r)
    ⟨ho, ho2, he, hr, show Value.bool (firstLt e r (decide (items.size < items2.size)) (List.range (min items.size items2.size))) ≠ Value.notImplemented ∧ Q (.bool (firstLt e r (decide (items.size < items2.size)) (List.range (min items.size items2.size)))) s from ⟨(fun x => nomatch x), h⟩⟩ hu
end
theorem reads_at {h : Heap} : ∀ {xs : List PyData} {vs : List Value} {as : List Addr}, ReadsAll h vs xs as → ∀ (j : Nat) (h1 : j < vs.length), ∃ as', Reads h vs[j] (xs.getD j .none) as'
  | [], _, _, r, j, h1 => by
    cases r
    exact absurd h1 (Nat.not_lt_zero _)
  | x :: xs, _, _, r, j, h1 => by
    cases r with
    | cons r rs =>
      cases j with
      | zero => exact ⟨_, r⟩
      | succ j => exact reads_at rs j (Nat.lt_of_succ_lt_succ h1)
theorem depth_at : ∀ (xs : List PyData) (j : Nat), (xs.getD j .none).depth ≤ PyData.depthAll xs
  | [], j => by simp [PyData.depth]
  | x :: xs, 0 => by
    rw [PyData.depthAll]
    exact Nat.le_max_left _ _
  | x :: xs, j + 1 => by
    rw [PyData.depthAll]
    exact Nat.le_trans (depth_at xs j) (Nat.le_max_right _ _)
/-- a < b of data of one kind -/
theorem rcLt_R1 {A : Around} {s : Shared} {da db : PyData} {a b : Value} {as bs : List Addr} (ra : Reads s.heap a da as) (rb : Reads s.heap b db bs) (h : R1 da db) (la : da.plain = true) (lb : db.plain = true) (hn : da ≠ .none) (hu : A.units + min da.depth db.depth < cLine) : RcLt A s a b (dataLt da db) := by
  rcases h with h | ⟨xs, ys, rfl, rfl, h⟩
  · exact rcLt_alike da db A s a b as bs ra rb h hn hu
  · cases ra with
    | @tuple l o vs n _ as₁ h1 h2 h3 h4 =>
      cases rb with
      | @tuple l' o' vs' n' _ bs₁ k1 k2 k3 k4 =>
        have n1 : vs.size = xs.length := by simpa using SeqAt.ReadsAll.length _ _ _ h4
        have n2 : vs'.size = ys.length := by simpa using SeqAt.ReadsAll.length _ _ _ k4
        have hin : A.units + 1 + min (PyData.depthAll xs) (PyData.depthAll ys) < cLine := room_in hu
        rw [dataLt_tuple, ← firstLt_cmp toks_alike xs ys h, ← n1, ← n2]
        refine rcLt_tuplesL ⟨_, h1, h2, _, h3⟩ ⟨_, k1, k2, _, k3⟩ (room_here hu) (fun j j1 j2 => ?_) fun j j1 j2 pre hj => ?_
        · have := eqAt_plainAll xs ys A.in1 s vs.toList vs'.toList _ _ h4 k4 la lb hin j (by simpa using j1) (by simpa using j2)
          simpa using this
        · obtain ⟨as', r1⟩ := reads_at h4 j (by simpa using j1)
          obtain ⟨bs', r2⟩ := reads_at k4 j (by simpa using j2)
          have hR : alikeP (xs.getD j .none) (ys.getD j .none) := cmpL_at xs ys j h (by omega) (by omega) pre
          have d1 := depth_at xs j
          have d2 := depth_at ys j
          have := rcLt_alike (xs.getD j .none) (ys.getD j .none) A.in1 s _ _ _ _ r1 r2 hR (ne_none_of hR hj) (Nat.lt_of_le_of_lt (Nat.add_le_add_left (Nat.le_min.mpr ⟨Nat.le_trans (Nat.min_le_left _ _) d1, Nat.le_trans (Nat.min_le_right _ _) d2⟩) _) hin)
          simpa using this
theorem ne_none_R1 {x y : PyData} (h : R1 x y) (e : PyData.eqv x y = false) : x ≠ .none := by
  rcases h with h | ⟨xs, ys, rfl, rfl, h⟩
  · exact ne_none_of h e
  · exact fun z => nomatch z
section
variable {prog : Program} {w : World} {A : Around} {E : Value → Shared → Prop} {s : Shared}
theorem oneLt_R1 {f : Bool} {da db : PyData} {a b : Value} {as bs : List Addr} {Q : Bool → Shared → Prop} (hf : f = true → ∀ xs, da ≠ .tuple xs) (ra : Reads s.heap a da as) (rb : Reads s.heap b db bs) (h : R1 da db) (la : da.plain = true) (lb : db.plain = true) (hn : da ≠ .none)
    (hu : A.units + min da.depth db.depth < cLine) (hq : Q (dataLt da db) s) : wpAny (model prog w) A (oneLt' f a b) Q E s := by
  rcases id h with ha | ⟨xs, ys, rfl, rfl, hc⟩
  · exact oneLt_alike hf ra rb ha hn hu hq
  · cases f with
    | true => exact absurd rfl (hf rfl xs)
    | false =>
      rw [oneLt'_eq]
      simp only [Bool.false_eq_true, if_false]
      exact wpAny_bind (rcLt_R1 ra rb h la lb hn hu prog w E _ (wpAny_truthy_bool hq))
theorem katLex_R1 {b fin : Bool} {Q : Bool → Shared → Prop} : ∀ (xs ys : List PyData) (i : Nat) (vs ws : List Value) (as bs : List Addr), ReadsAll s.heap vs xs as → ReadsAll s.heap ws ys bs → cmpL R1 xs ys → PyData.plainAll xs = true → PyData.plainAll ys = true →
    A.units + min (PyData.depthAll xs) (PyData.depthAll ys) < cLine → (b = true → i = 0 → ∀ x r t, xs = x :: r → x ≠ .tuple t) → fin = decide (xs.length < ys.length) → Q (PyProof.Rows.lexLt itemOrd (keyToksAll xs) (keyToksAll ys)) s → KatLex prog w A b fin Q (vs.zip ws) i s
  | [], [], i, _, _, _, _, ra, rb, _, _, _, _, _, hf, hq => by
    cases ra
    cases rb
    have e : fin = false := by rw [hf]; rfl
    subst e
    rw [lex_irrefl] at hq
    exact kat_nil hq
  | [], y :: ys, i, _, _, _, _, ra, rb, _, _, _, _, _, hf, hq => by
    cases ra
    have e : fin = true := by rw [hf]; exact decide_eq_true (Nat.succ_pos _)
    subst e
    rw [toks_all_cons] at hq
    simp only [keyToksAll] at hq
    rw [lex_diff (O := itemOrd) (by simp)] at hq
    rw [List.zip_nil_left]
    exact kat_nil (by simpa [itemLt] using hq)
  | x :: xs, [], i, _, _, _, _, ra, rb, _, _, _, _, _, hf, hq => by
    cases rb
    have e : fin = false := by rw [hf]; exact decide_eq_false (Nat.not_lt_zero _)
    subst e
    rw [toks_all_cons] at hq
    simp only [keyToksAll] at hq
    rw [lex_diff (O := itemOrd) (by simp)] at hq
    rw [List.zip_nil_right]
    exact kat_nil (by simpa [itemLt] using hq)
  | x :: xs, y :: ys, i, _, _, _, _, ra, rb, h, lx, ly, hu, hb, hf, hq => by
    have lx' : x.plain = true ∧ PyData.plainAll xs = true := by simpa [PyData.plainAll] using lx
    have ly' : y.plain = true ∧ PyData.plainAll ys = true := by simpa [PyData.plainAll] using ly
    have hf' : fin = decide (xs.length < ys.length) := by
      rw [hf]
      simp only [List.length_cons, Nat.add_lt_add_iff_right]
    cases ra with
    | cons r rs =>
      cases rb with
      | cons r' rs' =>
        rw [List.zip_cons_cons]
        refine kat_cons (eqAt_plain x y A s _ _ _ _ r r' lx'.1 ly'.1 (room_head hu) prog w _ _ ?_)
        cases hx : PyData.eqv x y with
        | true =>
          rw [lt_yes toks_R1 h.1 hx] at hq
          exact kat_yes (katLex_R1 xs ys (i + 1) _ _ _ _ rs rs' (h.2 hx) lx'.2 ly'.2 (room_tail hu) (fun _ hi => absurd hi (Nat.succ_ne_zero i)) hf' hq)
        | false =>
          rw [lt_no toks_R1 h.1 hx] at hq
          refine kat_no (oneLt_R1 (fun hbi t => ?_) r r' h.1 lx'.1 ly'.1 (ne_none_R1 h.1 hx) (room_head hu) hq)
          rw [Bool.and_eq_true] at hbi
          exact hb hbi.1 (by simpa using hbi.2) x xs t rfl
end
end DR

namespace DR
open PySem PySem.Spec PySem.Calls PyProof.Rows PySem.W PySem.SeqAt
/-- rows of data that can be sorted: an earlier place may decide -/
structure Mix (ds : List PyData) (T : Value) : Prop where
  tup : ∀ d, d ∈ ds → ∃ x r, d = .tuple (x :: r) ∧ dataType x = T
  cmp : ∀ xs ys, .tuple xs ∈ ds → .tuple ys ∈ ds → cmpL R1 xs ys
  lay : ∀ d, d ∈ ds → d.plain = true
theorem mix_some {h : Heap} {ds : List PyData} {T : Value} (M : Mix ds T) {v : Value} {d : PyData} {as : List Addr} (hd : d ∈ ds) (r : Reads h v d as) : (dataKind h ds).keyOf v = some (keyToks d) := by
  have q : ∃ d, d ∈ ds ∧ ∃ as, Reads h v d as := ⟨d, hd, as, r⟩
  have e : (dataKind h ds).keyOf v = some (keyToks q.choose) := by
    show (open Classical in if q : ∃ d, d ∈ ds ∧ ∃ as, Reads h v d as then some (keyToks q.choose) else none) = _
    rw [dif_pos q]
  obtain ⟨h1, as', h2⟩ := q.choose_spec
  rw [e, SeqAt.plain_unique _ _ _ _ _ (M.lay _ h1) h2 r]
theorem mix_keys {h : Heap} {ds : List PyData} {T : Value} (M : Mix ds T) {vs : List Value} (e : EachIs (fun v d => ∃ as, Reads h v d as) vs ds) : EachIs (fun v d => (dataKind h ds).keyOf v = some (keyToks d)) vs ds :=
  (each_mem e).mono fun _ _ ⟨⟨_, r⟩, hd⟩ => mix_some M hd r
section
variable {prog : Program} {w : World} {A : Around} {s : Shared}
theorem sorts_mix {vs : List Value} {ds : List PyData} {T : Value} (e : EachIs (fun v d => ∃ as, Reads s.heap v d as) vs ds) (M : Mix ds T) (hT : (T == T) = true) (hu : ∀ d, d ∈ ds → A.units + d.depth < cLine) : SortsAt prog w A s (dataKind s.heap ds) vs := by
  refine ⟨fun v hv => ?_, tuples' (T != Value.type "tuple"), ?_, fun h2 E Q hq => ?_⟩
  · obtain ⟨d, hd, as, r⟩ := e.left v hv
    exact ⟨_, mix_some M hd r⟩
  · intro E x y a b Q ha hb hq
    obtain ⟨d, as, hd, ra, rfl⟩ := dataKind_inv ha
    obtain ⟨d', as', hd', rb, rfl⟩ := dataKind_inv hb
    have hroom : A.units + min d.depth d'.depth < cLine := Nat.lt_of_le_of_lt (Nat.add_le_add_left (Nat.min_le_left _ _) _) (hu d hd)
    obtain ⟨x1, r1, rfl, t1⟩ := M.tup d hd
    obtain ⟨x2, r2, rfl, t2⟩ := M.tup d' hd'
    have hq' : Q (dataLt (.tuple (x1 :: r1)) (.tuple (x2 :: r2))) s := hq
    rw [dataLt_tuple] at hq'
    cases ra with
    | @tuple l o xs n _ _ h1 h2 h3 h4 =>
      cases rb with
      | @tuple l' o' xs' n' _ _ k1 k2 k3 k4 =>
        have n1 : xs.size = (x1 :: r1).length := by simpa using SeqAt.ReadsAll.length _ _ _ h4
        have n2 : xs'.size = (x2 :: r2).length := by simpa using SeqAt.ReadsAll.length _ _ _ k4
        refine kat_lt h1 h3 k1 k3 (katLex_R1 (x1 :: r1) (x2 :: r2) 0 _ _ _ _ h4 k4 (M.cmp _ _ hd hd') (M.lay _ hd) (M.lay _ hd') (by have q := SeqAt.room_in hroom; omega) (fun hb _ x r t ex => ?_) (by rw [n1, n2]) hq')
        obtain ⟨rfl, rfl⟩ := List.cons.inj ex
        rw [← t1] at hb
        exact dataType_tuple hb t
  · obtain ⟨fs, t1, t2, t3⟩ := each_katTups e fun d hd => by
      obtain ⟨x, r, z, _⟩ := M.tup d hd
      exact ⟨x, r, z⟩
    refine kat_kind (T := T) t1 (by omega) (fun f hf => ?_) hT hq
    obtain ⟨x, r, as, m1, m2⟩ := t3 f hf
    obtain ⟨x', r', z, t⟩ := M.tup _ m1
    obtain ⟨rfl, rfl⟩ := List.cons.inj (PyData.tuple.inj z)
    rw [← t]
    exact looks_reads m2
end
section
variable {prog : Program} {w : World} {A : Around} {E : Value → Shared → Prop} {s : Shared} {β : Type} {vs : List Value} {bs : List β} {enc : β → PyData} {R : Value → β → Prop}
/-- sorted(xs) of such rows -/
theorem sorted_mix {l : Addr} {Q : Value → Shared → Prop} {T : Value} (hl : s.heap.IsList l vs.toArray) (e : EachIs R vs bs) (er : EachIs (fun v b => ∃ as, Reads s.heap v (enc b) as) vs bs) (M : Mix (bs.map enc) T) (hT : (T == T) = true) (hL : bs.length ≤ sizeLine)
    (hu : ∀ b, b ∈ bs → A.units + 2 + (enc b).depth < cLine) (h : ∀ out, out.length = bs.length → EachIs R out (bs.mergeSort (dataLe false enc)) → Q (.ref (s.heap.objs.size + 1)) { s with heap := sortedAll s.heap vs (List.toArray out) }) :
    wpAny (model prog w) A (call (.builtin "sorted") [.ref l]) Q E s := by
  have er' : EachIs (fun v b => ∃ as, Reads (sortingHeap (copyHeap s.heap vs) (s.heap.objs.size + 1) vs) v (enc b) as) vs bs := er.mono fun _ _ ⟨as, r⟩ => ⟨as, PyProof.Rows.Reads.keeps (fun _ _ => sorting_copy_old) r⟩
  have em := each_map (R := fun v d => ∃ as, Reads (sortingHeap (copyHeap s.heap vs) (s.heap.objs.size + 1) vs) v d as) enc er'
  exact sorted_vals hl (sorts_mix (s := { s with heap := sortingHeap (copyHeap s.heap vs) (s.heap.objs.size + 1) vs }) em M hT (bound_map hu)) (by rw [e.length]; exact hL)
    (h _ (by rw [sortVals_length false rfl]; exact e.length) (sortVals_each (κ := dataKind (sortingHeap (copyHeap s.heap vs) (s.heap.objs.size + 1) vs) (bs.map enc)) (fun b => keyToks (enc b)) e (each_of_map enc (mix_keys M em))))
end
section
variable {prog : Program} {w : World} {A : Around} {E : Value → Shared → Prop} {s : Shared} {a kS : Addr} {b : Bool} {vs : List Value} {keys : Array Value} {e e1 : Nat} {P : PySem.Fin → Shared → Prop} {kz : List PyData}
/-- what key= leaves -/
def MixOut (kz : List PyData) (vs out : List Value) : Prop := ∃ h ks, out = sortVals (dataKind h kz) false ks vs ∧ EachIs (fun v k => ∃ as, Reads h v k as) ks kz
theorem mix_rest {f : Value} {h₁ : Heap} {T : Value} (kp : KeepsBut a h₁ s.heap) (hkS : h₁.get? kS = none) (nk : s.heap.get? kS = some (seqObj "list" #[] 0)) (na : s.heap.get? a = some (seqObj "list" #[] e1)) (hka : kS ≠ a)
    (hlen : kz.length = vs.length) (hZ : vs.length ≤ sizeLine) (hal : ∀ d, d ∈ kz → alike d d = true) (M : Mix kz T) (hT : (T == T) = true) (hu : ∀ d, d ∈ kz → A.units + d.depth < cLine)
    (turn : ∀ (i : Nat) (v : Value) (k : PyData), vs[i]? = some v → kz[i]? = some k → ∀ (h : Heap) (tk : Nat), KeepsBut a h₁ h →
      wpAny (model prog w) A (call f [v]) (KeyPure k { s with heap := h, toks := tk }) (fun _ _ => False) { s with heap := h, toks := tk })
    (h : ∀ h' tk out c, KeepsBut a h₁ h' → h'.get? a = some (seqObj "list" (List.toArray out) c) → MixOut kz vs out → P (.done (.ret .none)) { s with heap := h', toks := tk }) :
    wpAny (model prog w) A (ksk_rest a f false vs.toArray e1 (.ref kS)) P E s := by
  unfold ksk_rest
  refine wpAny_bind (wpAny_rule ?_)
  first
    | rw [List.forIn_toArray]
    | (rw [← Array.forIn_toList]; simp only [List.toList_toArray])
    | rw [← Array.forIn_toList]
  refine wpAny_bind (ksk_fold (fun i s' => ∃ h' tk kA e, s' = { s with heap := h', toks := tk } ∧ KeepsBut a h₁ h' ∧ h'.get? kS = some (seqObj "list" kA e) ∧ h'.get? a = some (seqObj "list" #[] e1) ∧ EachIs (fun v k => Reads h' v k [] ∧ alike k k = true) kA.toList (kz.take i)) vs 0 s
    ⟨s.heap, s.toks, #[], 0, rfl, kp, nk, na, by rw [List.take_zero]; exact EachIs.nil⟩ ?step ?done)
  case step =>
    rintro j x s' hx ⟨h', tk, kA, e, rfl, kp', nk', na', hk⟩
    simp only [Nat.zero_add] at hk ⊢
    have hj : j < vs.length := (List.getElem?_eq_some_iff.mp hx).1
    obtain ⟨k, hkj⟩ : ∃ k, kz[j]? = some k := ⟨_, List.getElem?_eq_getElem (by omega)⟩
    have hkk : alike k k = true := hal k (List.mem_of_getElem? hkj)
    have hz : kA.size ≤ vs.length := by
      have h1 := hk.length
      rw [Array.length_toList, List.length_take] at h1
      omega
    refine wpAny_bind (wpAny_attempt (wpAny_mono (turn j x k hx hkj h' tk kp') (fun v s'' he => ?_) fun _ _ hF => hF.elim))
    obtain ⟨g, tk2, rfl, hg, hr⟩ := he
    try dsimp only
    have nk2 : g.get? kS = some (seqObj "list" kA e) := hg _ _ nk'
    have na2 : g.get? a = some (seqObj "list" #[] e1) := hg _ _ na'
    have s1 := Heap.SameBut.update g kS (Obj.mapSeq (·.push v))
    obtain ⟨c2, hc2⟩ : ∃ c2, (g.update kS (Obj.mapSeq (·.push v))).get? kS = some (seqObj "list" (kA.push v) c2) := ⟨_, get?_update_seq nk2 (·.push v)⟩
    have ek : kz.take (j + 1) = kz.take j ++ [k] := by rw [List.take_add_one, hkj]; simp
    have ea : (kA.push v).toList = kA.toList ++ [v] := by simp
    refine wpAny_bind (listUpdate_at nk2 rfl ?_ (Nat.le_trans hz hZ) (Nat.le_trans (Nat.le_of_eq (Array.size_push ..)) (Nat.succ_le_succ (Nat.le_trans hz hZ))))
    have keepS : ∀ (u : Value) (d : PyData), Reads g u d [] ∧ alike d d = true → Reads (g.update kS (Obj.mapSeq (·.push v))) u d [] ∧ alike d d = true := fun u d q =>
      ⟨Reads.keepBut (a := kS) (fun b o hb e => (s1.2 b hb).trans e) (fun o e => by rw [nk2] at e; rw [← Option.some.inj e]) d u [] q.2 q.1 (by simp), q.2⟩
    refine wpAny_pure ⟨rfl, _, _, kA.push v, c2, rfl, (kp'.trans_all hg).same s1 (.inr hkS), hc2, (s1.2 a hka.symm).trans na2, ?_⟩
    rw [ea, ek]
    refine each_snoc (R := fun (u : Value) (d : PyData) => Reads (g.update kS (Obj.mapSeq (·.push v))) u d [] ∧ alike d d = true) (keepS v k ⟨hr, hkk⟩) ?_
    exact hk.mono fun u d q => keepS u d ⟨PyProof.Rows.Reads.keeps hg q.1, q.2⟩
  case done =>
    rintro s' ⟨h', tk, kA, e, rfl, kp', nk', na', hk⟩
    have hk' : EachIs (fun v k => ∃ as, Reads h' v k as) kA.toList kz := by
      have e3 : kz.take (0 + vs.length) = kz := List.take_of_length_le (by omega)
      rw [e3] at hk
      exact hk.mono fun v k q => ⟨[], q.1⟩
    have hsz : kA.size = vs.length := by
      have h1 := hk'.length
      rw [Array.length_toList] at h1
      omega
    try dsimp only
    refine wpAny_bind (listItems_at nk' rfl ?_)
    exact keyH_end (κ := dataKind h' kz) (h₁ := h₁) kp' hkS nk' na' hka (sorts_mix (s := { s with heap := h', toks := tk }) hk' M hT hu) hsz hZ fun h3 tk3 c k3 n3 => h h3 tk3 _ c k3 n3 ⟨h', kA.toList, rfl, hk'⟩
theorem mix_tree {f : Value} {n : Nat} {T : Value} (ho : s.heap.get? a = some (seqObj "list" vs.toArray n)) (hlen : kz.length = vs.length) (hZ : vs.length ≤ sizeLine) (hal : ∀ d, d ∈ kz → alike d d = true) (M : Mix kz T) (hT : (T == T) = true) (hu : ∀ d, d ∈ kz → A.units + d.depth < cLine)
    (turn : ∀ (i : Nat) (v : Value) (k : PyData), vs[i]? = some v → kz[i]? = some k → ∀ (h : Heap) (tk : Nat), KeepsBut a s.heap h →
      wpAny (model prog w) A (call f [v]) (KeyPure k { s with heap := h, toks := tk }) (fun _ _ => False) { s with heap := h, toks := tk })
    (h : ∀ h' tk out c, KeepsBut a s.heap h' → h'.get? a = some (seqObj "list" (List.toArray out) c) → MixOut kz vs out → P (.done (.ret .none)) { s with heap := h', toks := tk }) :
    wpAny (model prog w) A (ksk_tree a f false) P E s := by
  have ha : a < s.heap.objs.size := Heap.lt_size ho
  obtain ⟨e1, ho1⟩ : ∃ e1, (s.heap.update a (Obj.mapSeq fun _ => (#[] : Array Value))).get? a = some (seqObj "list" #[] e1) := ⟨_, get?_update_seq ho fun _ => #[]⟩
  have hkS : ((s.heap.update a (Obj.mapSeq fun _ => (#[] : Array Value))).push (seqObj "tuple" vs.toArray 0)).objs.size = s.heap.objs.size + 1 := by rw [size_push', Heap.size_update]
  unfold ksk_tree
  refine wpAny_bind (listItems_at ho rfl ?_)
  refine wpAny_bind (listUpdate_at ho rfl ?_ (by rw [List.size_toArray]; exact hZ) (Nat.zero_le _))
  refine wpAny_bind (seqEpoch_at ho1 rfl ?_)
  refine wpAny_bind (wpAny_newTuple ?_ (by show vs.length ≤ _; exact hZ))
  refine wpAny_bind (wpAny_newList ?_ (Nat.zero_le _))
  refine wpAny_holding ?_
  have kp : KeepsBut a s.heap (sortingHeap s.heap a vs) := fun b o hb q => sortingHeap_old hb q
  refine mix_rest (kz := kz) (h₁ := s.heap) (s := { s with heap := ((s.heap.update a (Obj.mapSeq fun _ => (#[] : Array Value))).push (seqObj "tuple" vs.toArray 0)).push (seqObj "list" #[] 0) }) (kS := ((s.heap.update a (Obj.mapSeq fun _ => (#[] : Array Value))).push (seqObj "tuple" vs.toArray 0)).objs.size)
    kp (Heap.get?_none_of_le (by rw [hkS]; exact Nat.le_succ _)) (Heap.get?_push_size _ rfl) (Heap.get?_push_of_some _ (Heap.get?_push_of_some _ ho1)) (by rw [hkS]; exact Nat.ne_of_gt (Nat.lt_succ_of_lt ha)) hlen hZ hal M hT hu turn h
end
section
variable {prog : Program} {w : World} {A : Around} {E : Value → Shared → Prop} {s : Shared} {β : Type} {vs : List Value} {bs : List β} {R : Value → β → Prop}
/-- sorted(xs, key=f) where the keys are such rows -/
theorem sorted_key_mix {l : Addr} {f : Value} {kw : List (Str × Value)} {Q : Value → Shared → Prop} {T : Value} (k : β → PyData) (hl : s.heap.IsList l vs.toArray) (e : EachIs R vs bs) (hal : ∀ d, d ∈ bs.map k → alike d d = true) (M : Mix (bs.map k) T) (hT : (T == T) = true) (hL : bs.length ≤ sizeLine)
    (hu : ∀ x, x ∈ bs → A.units + 2 + (k x).depth < cLine) (ha1 : argsOk "sorted" ⟨[.ref l], kw⟩) (ha2 : ∀ x, argsOk "list.sort" ⟨[.ref x], kw⟩) (ht : ∀ x, Builtin.«list.sort» ⟨[.ref x], kw⟩ = ksk_tree x f false)
    (turn : ∀ (v : Value) (x : β), R v x → x ∈ bs → ∀ (h : Heap) (tk : Nat), (∀ b o, s.heap.get? b = some o → h.get? b = some o) →
      wpAny (model prog w) A.in1.in1 (call f [v]) (KeyPure (k x) { s with heap := h, toks := tk }) (fun _ _ => False) { s with heap := h, toks := tk })
    (h : ∀ out c h' tk, (∀ b o, s.heap.get? b = some o → h'.get? b = some o) → s.heap.get? (s.heap.objs.size + 1) = none → h'.get? (s.heap.objs.size + 1) = some (seqObj "list" (List.toArray out) c) → out.length = bs.length → EachIs R out (bs.mergeSort (dataLe false k)) →
      Q (.ref (s.heap.objs.size + 1)) { s with heap := h', toks := tk }) :
    wpAny (model prog w) A (call (.builtin "sorted") [.ref l] kw) Q E s := by
  have fresh : s.heap.get? (s.heap.objs.size + 1) = none := Heap.get?_none_of_le (Nat.le_succ _)
  have up : ∀ {g : Heap}, KeepsBut (s.heap.objs.size + 1) (copyHeap s.heap vs) g → ∀ b o, s.heap.get? b = some o → g.get? b = some o := fun {g} kp b o q =>
    kp b o (Nat.ne_of_lt (Nat.lt_succ_of_lt (Heap.lt_size q))) (copyHeap_old q)
  refine sorted_of_sort hl (by rw [e.length]; exact hL) ha1 ha2 fun E' => ?_
  rw [ht]
  refine mix_tree (kz := bs.map k) (s := { s with heap := copyHeap s.heap vs }) (copyHeap_at s.heap vs) (by rw [List.length_map]; exact e.length.symm) (by rw [e.length]; exact hL) hal M hT (bound_map (A := A.in1.in1) hu)
    (keyH_turns (s := { s with heap := copyHeap s.heap vs }) e fun v x hR hx h tk kp => turn v x hR hx h tk (up kp)) fun h' tk out c kp hD ko => ⟨rfl, ?_⟩
  obtain ⟨hp, ks, rfl, hk⟩ := ko
  have hl2 : ks.length = vs.length := by rw [hk.length, List.length_map, e.length]
  exact h _ c h' tk (up kp) fresh hD (by rw [sortVals_length false hl2]; exact e.length) (sortVals_each (κ := dataKind hp (bs.map k)) (fun b => keyToks (k b)) e (each_of_map k (mix_keys M hk)))
end
end DR

namespace DR
open PySem PySem.Spec PyProof.Rows L2
def sPiece : Str := "piece"
def sName : Str := "name"
def sIn : Str := "in"
def rank (z : Str) : Option Int := if z = sPiece then some 0 else if z = sName then some 1 else if z = sIn then some 2 else none
/-- the dict RANKS of the text -/
structure Ranks (K : PySem.W.Frag) (w : World) (mg : Str → Option Value) (d : Addr) : Prop where
  g : mg "RANKS" = some (.ref d)
  kd : ∃ es n, KDict K w d es n
  has : ∀ z i, rank z = some i → ∃ t, PySem.W.nsIn K d z = some (some (.int i t))
  no : ∀ z, rank z = none → PySem.W.nsIn K d z = some none
def ofKey (k : Str) (o : PyData) : Option Key := if k = sIn then (match o with
    | .int i => if 1 ≤ i then some (.inl i) else none
    | _ => none) else (match o with
    | .str s => if isNmS s = true then some (.inr s) else none
    | _ => none)
def unkOf (k : Str) (o : PyData) : Option (List Key) := (rank k).bind fun _ => (ofKey k o).map fun z => [.inr k, z]
def readUnk : PyData → Option (List Key)
  | .tuple [.str k, o] => unkOf k o
  | .list [.str k, o] => unkOf k o
  | _ => none
/-- texts in a pair are short -/
def shortP : PyData → Prop
  | .tuple [a, b] => shortS a ∧ shortS b
  | .list [a, b] => shortS a ∧ shortS b
  | _ => True
def UnkV (H : Hp) (v : V) : Option (List Key) → Prop
  | none => v = .non
  | some u => ∃ a, v = .ref a ∧ H a = some (.tup (u.map kV))
def spReadUnk (K : PySem.W.Frag) : Sp := fun vs H Q _ => ∃ v d, vs = [v] ∧ Th K H v d ∧ shortP d ∧ ∀ v' H', Same H H' → UnkV H' v' (readUnk d) → Q v' H'
abbrev sReadUnk : Stmt := topS 18
theorem scReadUnk : FnScope ["thing", "kind", "of", "right"] ["thing"] (defScope sReadUnk) := ⟨rfl, rfl, rfl, by decide +kernel, rfl, by decide +kernel, by decide +kernel⟩
theorem rank_in : rank sIn = some 2 := by decide +kernel
theorem eq_str (a b : Str) : decide (V.str a = V.str b) = decide (a = b) := by
  by_cases c : a = b
  · rw [c]; simp
  · rw [decide_eq_false c]
    exact decide_eq_false fun z => c (V.str.inj z)
theorem eq_int (a b : Int) : decide (V.int a = V.int b) = decide (a = b) := by
  by_cases c : a = b
  · rw [c]; simp
  · rw [decide_eq_false c]
    exact decide_eq_false fun z => c (V.int.inj z)
/-- two names from a list or a tuple -/
def gRow (K : PySem.W.Frag) (n : Nat) (t : TGs) : TG := fun v σ H Q => gTup K n t v σ H Q ∨ gLst K n t v σ H Q
theorem pg_row {X : Cx} {pos : Pos} {es : List Expr} {k : Nat} {t : TGs} {n : Nat} (hc : X.calm = true) (h : PGs X es t) (hn : (assignEach es X.env).length = n := by rfl) (hst : (assignEach es X.env).findIdx? (·.1) = none := by rfl) : PG X (.Tuple es k pos) (gRow X.K n t) :=
  ⟨fun pins s σ H v u Q I r hw => hw.elim (fun z => (pg_tup hc h hn hst).run pins s σ H v u Q I r z) fun z => (pg_lst hc h hn hst).run pins s σ H v u Q I r z⟩
theorem th_tup {K : PySem.W.Frag} {H : Hp} {v : V} {ds : List PyData} (h : Th K H v (.tuple ds)) : ∃ a xs, v = .ref a ∧ SqT K H a xs ∧ DpAll K H xs ds := by
  cases h with
  | dat h =>
    cases h with
    | tup s t => exact ⟨_, _, rfl, s, t⟩
section
variable {P : Program} {w : World} {K : PySem.W.Frag} {mg : Str → Option Value} {base : Heap}
theorem ok_readUnk {f d0 : Addr} {fd : FuncData} (F : Fun K "read_unknown" "read_unknown" sReadUnk f fd) (T : Bi mg) (R : Ranks K w mg d0) (G1 : Has P w K mg base CX0 2 "is_row_of" ["thing", "many"] (spIsRowOf K))
    (G2 : Has P w K mg base CX0 2 "is_integer" ["thing"] (spIsInt K)) (G3 : Has P w K mg base CX0 2 "is_name" ["thing"] (spIsName K)) : FnOk P w K mg base CX0 3 f fd ["thing"] (spReadUnk K) := by
  refine F.ok scReadUnk (fun vs H Q E h => ?_) (fun cdv A outer s H vs Q E hr h => ?_)
  · obtain ⟨v, d, rfl, _⟩ := h
    rfl
  · obtain ⟨v, d, rfl, th, sh, q⟩ := h
    obtain ⟨es, n, kd⟩ := R.kd
    refine ⟨_, (pss_cons (ps_if (pt_not (pt_val (pe_callH G1 hr (by rfl) pass0 (pa_cons (pv 0) (pa_cons pe_int pa_nil))))) (pss_one (ps_ret pe_non)) pss_nil)
      (pss_cons (ps_asg (pv 0) (pg_row rfl (pgs_cons (pg_name (i := 1) scReadUnk.nd rfl (.inl rfl)) (pgs_cons (pg_name (i := 2) scReadUnk.nd rfl (.inl rfl)) pgs_nil))))
      (pss_cons (ps_if (PW.pt (pw_or (pt_not (pt_val (pe_callB call_isi (by rfl) T.isinstance (by decide +kernel) (pa_cons (pv 1) (pa_cons (pe_bltn (v := .ty "str") (by rfl) T.str (by decide +kernel) rfl) pa_nil))))) (pw_or1 (pt_cmpR (op_notIn_kd kd) (pv 1) (pe_glob (v := .ref d0) rfl R.g rfl) (by rfl))))) (pss_one (ps_ret pe_non)) pss_nil)
      (pss_cons (ps_if (pt_cmpR op_eq (pv 1) pe_str (nomark _)) (pss_one (ps_set (i := 3) scReadUnk.nd rfl (.inl rfl) (pe_and (pe_callH G2 hr (by rfl) pass0 (pa_cons (pv 2) pa_nil)) (pe_one (pe_cmpR op_ge (pv 2) pe_int (nomark _)))))) (pss_one (ps_set (i := 3) scReadUnk.nd rfl (.inl rfl) (pe_callH G3 hr (by rfl) pass0 (pa_cons (pv 2) pa_nil)))))
      (pss_one (ps_ret (pe_ifExp (pt_val (pv 3)) (pe_tup (pa_cons (pv 1) (pa_cons (pv 2) pa_nil))) pe_non))))))), ?_⟩
    refine ⟨_, rfl, v, d, 2, rfl, th, fun H1 sm1 => ⟨_, rfl, ?_⟩⟩
    have th1 := th_same sm1 th
    cases e : isRof d 2 with
    | false =>
      refine iteT ?_
      refine q _ _ sm1 ?_
      have z : readUnk d = none := by
        unfold readUnk
        split
        · rename_i k o
          revert e
          simp [isRof, items]
        · rename_i k o
          revert e
          simp [isRof, items]
        · rfl
      rw [z]
      rfl
    | true =>
      refine iteF ?_
      obtain ⟨x, y, ei, er, shp⟩ : ∃ x y, items d = some [x, y] ∧ (∀ o, readUnk (.tuple [x, y]) = o → readUnk d = o) ∧ (shortS x ∧ shortS y) := by
        have two : ∀ {xs : List PyData}, ((xs.length : Int) = 2) → ∃ x y, xs = [x, y] := fun {xs} e' => by
          match xs, e' with
          | [x, y], _ => exact ⟨x, y, rfl⟩
          | [], z => exact absurd z (by decide)
          | [_], z => exact absurd z (by simp)
          | _ :: _ :: _ :: _, z => simp at z; omega
        unfold isRof at e
        cases d with
        | tuple xs =>
          obtain ⟨x, y, rfl⟩ := two (of_decide_eq_true e)
          exact ⟨x, y, rfl, fun o h => h, sh⟩
        | list xs =>
          obtain ⟨x, y, rfl⟩ := two (of_decide_eq_true e)
          refine ⟨x, y, rfl, fun o h => ?_, sh⟩
          rw [← h]
          unfold readUnk
          cases x <;> rfl
        | none => cases e
        | bool b => cases e
        | int i => cases e
        | str s => cases e
        | dict k => cases e
      obtain ⟨a, xs, rfl, hs, ha⟩ := th_row th1 ei
      cases ha with
      | cons h1 h2 =>
      cases h2 with
      | cons h2 h3 =>
      cases h3
      rename_i v1 v2
      have unp : ∀ {D : L2.St → Hp → Prop}, D ([some (V.ref a), some v1, some v2, none] : L2.St) H1 → gRow K 2 (gCons (gName 1) (gCons (gName 2) gNil)) (.ref a) [some (V.ref a), none, none, none] H1 D := fun {D} h => by
        rcases hs with hs | hs
        · exact .inr ⟨a, _, rfl, hs, rfl, v1, _, rfl, v2, _, rfl, rfl, h⟩
        · exact .inl ⟨a, _, rfl, hs, rfl, v1, _, rfl, v2, _, rfl, rfl, h⟩
      refine ⟨_, rfl, unp ?_⟩
      refine ⟨_, rfl, v1, _, _, _, _, rfl, .ty "str", th_ty (.dat h1), kit_str x, _, rfl, ?_⟩
      cases x with
      | str k =>
        cases h1
        refine iteF ?_
        cases e2 : rank k with
        | none =>
          refine ⟨_, rfl, k, _, rfl, rfl, R.no k e2, _, rfl, iteT ?_⟩
          refine q _ _ sm1 ?_
          have z : readUnk (.tuple [.str k, y]) = none := by
            show unkOf k y = none
            unfold unkOf
            rw [e2]
            rfl
          rw [er _ z]
          rfl
        | some i =>
          obtain ⟨t, ht⟩ := R.has k i e2
          refine ⟨_, rfl, k, _, rfl, rfl, ht, _, rfl, iteF ?_⟩
          have ez : readUnk (.tuple [.str k, y]) = (ofKey k y).map fun z => [.inr k, z] := by
            show unkOf k y = _
            unfold unkOf
            rw [e2]
            rfl
          rw [er _ ez] at q
          have fin : ∀ (b : Bool) (H2 : Hp), Same H1 H2 → (b = true → ∃ z, v2 = kV z ∧ ofKey k y = some z) → (b = false → ofKey k y = none) →
              tRet (tIf (tB (tVar 3)) (tTup (tCons (tVar 1) (tCons (tVar 2) tNil))) (tC .non)) { nx := fun _ H' => Q .non H', rt := Q } [some (.ref a), some (.str k), some v2, some (.bl b)] H2 := by
            intro b H2 sm2 ht hf
            refine ⟨_, rfl, _, rfl, ?_⟩
            cases b with
            | true =>
              obtain ⟨z, rfl, ez⟩ := ht rfl
              refine iteT ⟨_, rfl, _, rfl, (by show 2 ≤ sizeLine; decide), fun p hp => ?_⟩
              refine q _ _ ((sm1.trans sm2).trans (same_new hp)) ?_
              rw [ez]
              exact ⟨p, rfl, upd_same⟩
            | false =>
              refine iteF ?_
              refine q _ _ (sm1.trans sm2) ?_
              rw [hf rfl]
              rfl
          refine ⟨_, rfl, rfl, _, rfl, ?_⟩
          rw [show decide (V.str k = V.str (Str.ofString "in")) = decide (k = sIn) from eq_str _ _]
          refine ite2 (fun c => ?_) (fun c => ?_)
          · have ck : k = sIn := of_decide_eq_true c
            refine ⟨_, rfl, v2, y, rfl, .dat h2, _, rfl, ?_⟩
            cases y with
            | int j =>
              cases h2
              refine iteT ⟨_, rfl, j, 1, rfl, rfl, ?_⟩
              refine fin _ _ (Same.refl _) (fun hb => ⟨.inl j, rfl, ?_⟩) fun hb => ?_
              · unfold ofKey
                rw [if_pos ck]
                exact if_pos (of_decide_eq_true hb)
              · unfold ofKey
                rw [if_pos ck]
                exact if_neg (of_decide_eq_false hb)
            | _ =>
              refine iteF (fin _ _ (Same.refl _) (fun hb => by cases hb) fun _ => ?_)
              unfold ofKey
              rw [if_pos ck]
          · have ck : ¬ k = sIn := fun z => c (decide_eq_true z)
            refine ⟨_, rfl, v2, y, rfl, .dat h2, shp.2, fun H2 sm2 => ?_⟩
            refine fin _ _ sm2 (fun hb => ?_) fun hb => ?_
            · cases y with
              | str s =>
                cases h2
                refine ⟨.inr s, rfl, ?_⟩
                unfold ofKey
                rw [if_neg ck]
                exact if_pos hb
              | _ => cases hb
            · cases y with
              | str s =>
                unfold ofKey
                rw [if_neg ck]
                exact if_neg (by intro z; rw [show isNm (.str s) = isNmS s from rfl, z] at hb; cases hb)
              | _ =>
                unfold ofKey
                rw [if_neg ck]
      | _ => exact iteT (q _ _ sm1 (by rw [er _ rfl]; rfl))
end
end DR

namespace DR
open PySem PySem.Spec PyProof.Rows L2
abbrev sOrderOf : Stmt := topS 19
theorem body_order : ∃ p1 p2 p3 p4 p5 p6 p7 p8 p9 p10 p11 k1 k2 k3, defBody sOrderOf = [.Return (some (.Tuple [.Subscript (.Name "RANKS" p1) (.Subscript (.Name "unknown" p2) (.Constant (.int 0) k1 p3) p4) p5, .Subscript (.Name "unknown" p6) (.Constant (.int 1) k2 p7) p8] k3 p9)) p10] ∧ p11 = p10 := ⟨_, _, _, _, _, _, _, _, _, _, _, _, _, _, rfl, rfl⟩
/-- what an unknown is to the sort -/
def keyD (u : List Key) : PyData := match u with
  | [.inr k, .inr s] => .tuple [.int ((rank k).getD 0), .str s]
  | [.inr k, .inl i] => .tuple [.int ((rank k).getD 0), .int i]
  | _ => .none
/-- the value of an unknown at a -/
def UnkH (h : Heap) (v : Value) (u : List Key) : Prop := ∃ a k o v1 v2, v = .ref a ∧ u = [.inr k, o] ∧ (rank k).isSome = true ∧ IsTup h a #[v1, v2] ∧ RelV (.str k) v1 ∧ RelV (kV o) v2
section
variable {P : Program} {w : World} {A : Around} {E : Value → Shared → Prop} {s : Shared} {K : PySem.W.Frag} {mg : Str → Option Value}
theorem order_pure {f d0 : Addr} {fd : FuncData} (F : Fun K "order_of" "order_of" sOrderOf f fd) (R : Ranks K w mg d0) (X : K.In s.heap) (G : s.heap.Ns mainGlobals mg) (hlim : s.heap.NoLimit) (hroom : A.depth < recursionLimit)
    {v : Value} {u : List Key} (hu : UnkH s.heap v u) : wpAny (model P w) A (call (.ref f) [v]) (PySem.W.KeyPure (keyD u) s) E s := by
  obtain ⟨oc, od, kV', doc, pm, an, cdv, ct, osl, rfl, lk, hcd⟩ := F.ex
  obtain ⟨a, k, o, v1, v2, rfl, rfl, hk, ht, r1, r2⟩ := hu
  obtain ⟨es, n, kd⟩ := R.kd
  obtain ⟨t1, rfl⟩ := r1
  obtain ⟨i, hi⟩ := Option.isSome_iff_exists.mp hk
  obtain ⟨t2, hns⟩ := R.has k i hi
  refine wpAny_call (Att.call_fn (binds := [("unknown", .ref a)]) X hlim lk hcd hroom (.of_eq rfl) (by first | rfl | decide | with_unfolding_all rfl) (fun s₁ IC => ?_) rfl rfl rfl)
  obtain ⟨h₁, tk₁, rfl⟩ := IC.toInCall.same
  have kp : ∀ b o, s.heap.get? b = some o → h₁.get? b = some o := IC.toInCall.keep
  have hn := IC.toInCall.ns
  have X₁ : K.In h₁ := X.keeps kp
  obtain ⟨p1, p2, p3, p4, p5, p6, p7, p8, p9, p10, p11, k1, k2, k3, hb, _⟩ := body_order
  rw [hb]
  refine wpAny_execs_cons (wpAny_Return_some (wpAny_Tuple_spliced ?_))
  have ld : ∀ {Q : Value → Shared → Prop} {E' : Value → Shared → Prop} {s' : Shared} {pos : Pos}, s'.heap.Ns s.heap.objs.size (bindL (envOfC "order_of" (defScope sOrderOf) s.heap.objs.size f cdv).kindOf [("unknown", .ref a)] fun _ => none) → Q (.ref a) s' →
      wpAny (model P w) (A.deeper (envOfC "order_of" (defScope sOrderOf) s.heap.objs.size f cdv)) (eval (.Name "unknown" pos) (envOfC "order_of" (defScope sOrderOf) s.heap.objs.size f cdv)) Q E' s' := fun hn h => wpAny_Name (wpAny_loadName_local rfl rfl hn (by first | rfl | with_unfolding_all rfl) h) (by decide)
  have lg : ∀ {Q : Value → Shared → Prop} {E' : Value → Shared → Prop} {s' : Shared} {pos : Pos}, s'.heap.Ns mainGlobals mg → Q (.ref d0) s' →
      wpAny (model P w) (A.deeper (envOfC "order_of" (defScope sOrderOf) s.heap.objs.size f cdv)) (eval (.Name "RANKS" pos) (envOfC "order_of" (defScope sOrderOf) s.heap.objs.size f cdv)) Q E' s' := fun hn h => Calls.Name_function_global rfl rfl (Calls.loadGlobal_global hn R.g h) (by decide)
  have G₁ : h₁.Ns mainGlobals mg := G.keeps kp
  have T₁ : IsTup h₁ a #[.str k t1, v2] := by
    obtain ⟨ot, g1, g2, g3, g4⟩ := ht
    exact ⟨ot, kp _ _ g1, g2, g3, g4⟩
  refine Calls.spliced_cons (PyProof.Rows.Subscript_ (lg G₁ (PyProof.Rows.Subscript_ (ld hn (wpAny_Constant_int (PyProof.Rows.item_tuple (j := 0) (x := .str k t1) T₁ (by decide) (by decide) rfl rfl ?_))))))
  have hm := PySem.W.mapOf_K (prog := P) (w := w) (h := h₁) X₁ kd.at_ kd.lit
  refine tail_any hm.typeIs slot_dict_getitem.lookup (wpAny_getItem_of (strKind_is P w k t1) hm (PySem.W.find_K kd.at_ hns) ?_) (by with_unfolding_all rfl)
  refine Calls.spliced_cons (PyProof.Rows.Subscript_ (ld hn (wpAny_Constant_int (PyProof.Rows.item_tuple (j := 1) (x := v2) T₁ (by decide) (by decide) rfl rfl ?_))))
  refine Calls.spliced_nil ⟨by show 2 ≤ sizeLine; decide, ?_⟩
  have push : ∀ b o, s.heap.get? b = some o → (h₁.push { cls := .type "tuple", data := .seq ([Value.int i t2, v2] : List Value).toArray }).get? b = some o := fun b o e => Heap.get?_push_of_some _ (kp b o e)
  have rd : ∀ (d : PyData), Reads (h₁.push { cls := .type "tuple", data := .seq ([Value.int i t2, v2] : List Value).toArray }) v2 d [] → Reads (h₁.push { cls := .type "tuple", data := .seq ([Value.int i t2, v2] : List Value).toArray }) (.ref h₁.objs.size) (.tuple [.int i, d]) [] := fun d hd =>
    .tuple (as := [] ++ ([] ++ [])) (Heap.get?_push_size _ rfl) rfl rfl (.cons (.int i t2) (.cons hd .nil))
  refine ⟨_, _, rfl, push, ?_⟩
  cases o with
  | inl j =>
    obtain ⟨t, rfl⟩ := r2
    show Reads _ _ (.tuple [.int ((rank k).getD 0), .int j]) []
    rw [hi]
    exact rd _ (.int j t)
  | inr z =>
    obtain ⟨t, rfl⟩ := r2
    show Reads _ _ (.tuple [.int ((rank k).getD 0), .str z]) []
    rw [hi]
    exact rd _ (.str z t)
end
end DR

namespace DR
open PySem PySem.Spec PyProof.Rows L2
/-- an unknown: of a kind, with a number where the kind is "in" -/
def NmU (u : List Key) : Prop := ∃ k o, u = [.inr k, o] ∧ (rank k).isSome = true ∧ ((∃ i, o = .inl i) ↔ k = sIn)
/-- an unknown at a value -/
def UnkAt (H : Hp) (y : V) (u : List Key) : Prop := ∃ a, y = .ref a ∧ H a = some (.tup (u.map kV))
def le2 : List Key → List Key → Bool := PySem.W.dataLe false keyD
/-- what stands behind the kind -/
def kD : Key → PyData
  | .inl i => .int i
  | .inr s => .str s
theorem keyD_is (k : Str) (o : Key) : keyD [.inr k, o] = .tuple [.int ((rank k).getD 0), kD o] := by
  cases o <;> rfl
theorem keyD_nm {u : List Key} (h : NmU u) : ∃ i z, keyD u = .tuple [.int i, kD z] := by
  obtain ⟨k, o, rfl, _⟩ := h
  exact ⟨_, o, keyD_is k o⟩
theorem rank_inj {k k' : Str} (h : (rank k).isSome = true) (h' : (rank k').isSome = true) (e : (rank k).getD 0 = (rank k').getD 0) : k = k' := by
  revert e h h'
  unfold rank
  by_cases c : k = sPiece
  · rw [if_pos c]
    by_cases c' : k' = sPiece
    · exact fun _ _ _ => c.trans c'.symm
    · rw [if_neg c']
      by_cases d' : k' = sName
      · rw [if_pos d']
        exact fun _ _ e => absurd e (by decide)
      · rw [if_neg d']
        by_cases e' : k' = sIn
        · rw [if_pos e']
          exact fun _ _ e => absurd e (by decide)
        · rw [if_neg e']
          exact fun _ z _ => absurd z (by decide)
  · rw [if_neg c]
    by_cases d : k = sName
    · rw [if_pos d]
      by_cases c' : k' = sPiece
      · rw [if_pos c']
        exact fun _ _ e => absurd e (by decide)
      · rw [if_neg c']
        by_cases d' : k' = sName
        · exact fun _ _ _ => d.trans d'.symm
        · rw [if_neg d']
          by_cases e' : k' = sIn
          · rw [if_pos e']
            exact fun _ _ e => absurd e (by decide)
          · rw [if_neg e']
            exact fun _ z _ => absurd z (by decide)
    · rw [if_neg d]
      by_cases e0 : k = sIn
      · rw [if_pos e0]
        by_cases c' : k' = sPiece
        · rw [if_pos c']
          exact fun _ _ e => absurd e (by decide)
        · rw [if_neg c']
          by_cases d' : k' = sName
          · rw [if_pos d']
            exact fun _ _ e => absurd e (by decide)
          · rw [if_neg d']
            by_cases e' : k' = sIn
            · exact fun _ _ _ => e0.trans e'.symm
            · rw [if_neg e']
              exact fun _ z _ => absurd z (by decide)
      · rw [if_neg e0]
        exact fun z _ _ => absurd z (by decide)
theorem same_key {k k' : Str} {o o' : Key} (h : (∃ i, o = .inl i) ↔ k = sIn) (h' : (∃ i, o' = .inl i) ↔ k' = sIn) (e : k = k') : PySem.W.alike (kD o) (kD o') = true := by
  subst e
  cases o with
  | inl i =>
    obtain ⟨j, rfl⟩ := h'.mpr (h.mp ⟨i, rfl⟩)
    rfl
  | inr s =>
    cases o' with
    | inl j =>
      obtain ⟨i, z⟩ := h.mpr (h'.mp ⟨j, rfl⟩)
      cases z
    | inr s' => rfl
theorem alike_kD (o : Key) : PySem.W.alike (kD o) (kD o) = true := by cases o <;> rfl
theorem lay_kD (o : Key) : (kD o).plain = true := by cases o <;> rfl
theorem cmp_key {u u' : List Key} (h : NmU u) (h' : NmU u') {xs ys : List PyData} (e : keyD u = .tuple xs) (e' : keyD u' = .tuple ys) : cmpL alikeP xs ys := by
  obtain ⟨k, o, rfl, h1, h2⟩ := h
  obtain ⟨k', o', rfl, h1', h2'⟩ := h'
  rw [keyD_is] at e e'
  obtain rfl := PyData.tuple.inj e
  obtain rfl := PyData.tuple.inj e'
  refine ⟨rfl, fun z => ⟨same_key h2 h2' (rank_inj h1 h1' ?_), fun _ => trivial⟩⟩
  exact of_decide_eq_true (show decide ((rank k).getD 0 = (rank k').getD 0) = true by simpa [PyData.eqv] using z)
theorem cmp_R1 : ∀ {xs ys : List PyData}, cmpL alikeP xs ys → cmpL R1 xs ys
  | _ :: _, _ :: _, h => ⟨.inl h.1, fun e => cmp_R1 (h.2 e)⟩
  | [], _, _ => by unfold cmpL; trivial
  | _ :: _, [], _ => by unfold cmpL; trivial
theorem mix_nm {us : List (List Key)} (h : ∀ u ∈ us, NmU u) : Mix (us.map keyD) (.type "int") := by
  refine ⟨fun d hd => ?_, fun xs ys hx hy => ?_, fun d hd => ?_⟩
  · obtain ⟨u, hu, rfl⟩ := List.mem_map.mp hd
    obtain ⟨i, z, e⟩ := keyD_nm (h u hu)
    exact ⟨_, _, e, rfl⟩
  · obtain ⟨u, hu, e⟩ := List.mem_map.mp hx
    obtain ⟨u', hu', e'⟩ := List.mem_map.mp hy
    exact cmp_R1 (cmp_key (h u hu) (h u' hu') e e')
  · obtain ⟨u, hu, rfl⟩ := List.mem_map.mp hd
    obtain ⟨i, z, e⟩ := keyD_nm (h u hu)
    rw [e]
    have := lay_kD z
    simp [PyData.plain, PyData.plainAll, this]
theorem self_nm {us : List (List Key)} (h : ∀ u ∈ us, NmU u) : ∀ d ∈ us.map keyD, PySem.W.alike d d = true := fun d hd => by
  obtain ⟨u, hu, rfl⟩ := List.mem_map.mp hd
  obtain ⟨i, z, e⟩ := keyD_nm (h u hu)
  rw [e]
  have := alike_kD z
  simp [PySem.W.alike, PySem.W.alikeAll, this]
/-- sorted(xs, key=order_of), the items unknowns by names -/
def rSortedUnk (K : PySem.W.Frag) (f : Addr) : List V → List V → Hp → VK → Prop := fun vs zs H Q => ∃ (a : Addr) (xs : List V) (us : List (List Key)), vs = [.ref a] ∧ zs = [.ref f] ∧ SqL K H a xs ∧ PySem.W.EachIs (UnkAt H) xs us ∧ (∀ u ∈ us, NmU u) ∧
  ∀ (ys : List V) (p : Addr), PySem.W.EachIs (UnkAt H) ys (us.mergeSort le2) → H p = none → Q (.ref p) (upd H p (.lst ys))
theorem unkH_of {X : Cx} {pins : List (Addr × Obj)} {σ : L2.St} {H : Hp} {s : Shared} (I : Inv X pins σ H s) {y : V} {v : Value} {u : List Key} (r : L2.RelV y v) (h : UnkAt H y u) (n : NmU u) : UnkH s.heap v u := by
  obtain ⟨a, rfl, ha⟩ := h
  obtain ⟨k, z, rfl, hk, _⟩ := n
  cases r
  obtain ⟨_, its, rv, o, h1, h2, m, h3⟩ := (show ObjOk X.prog X.w H s.heap a (.tup [V.str k, kV z]) from I.hok a _ ha)
  cases rv with
  | cons r1 rv => cases rv with
    | cons r2 rv =>
      cases rv
      rename_i w1 w2
      exact ⟨a, k, z, w1, w2, rfl, rfl, hk, ⟨o, h1, h2, m, h3⟩, r1, r2⟩
theorem unkH_keeps {h h' : Heap} {v : Value} {u : List Key} (k : ∀ b o, h.get? b = some o → h'.get? b = some o) (x : UnkH h v u) : UnkH h' v u := by
  obtain ⟨a, k1, o, v1, v2, e1, e2, hk, ⟨ot, g1, g2, g3⟩, r1, r2⟩ := x
  exact ⟨a, k1, o, v1, v2, e1, e2, hk, ⟨ot, k _ _ g1, g2, g3⟩, r1, r2⟩
theorem each_vals {H : Hp} : ∀ {xs : List V} {its : List Value} {us : List (List Key)}, PySem.W.EachIs (UnkAt H) xs us → Vals xs its → PySem.W.EachIs (fun v u => ∃ y, L2.RelV y v ∧ UnkAt H y u) its us
  | _, _, _, .nil, .nil => .nil
  | _, _, _, .cons h t, .cons r rt => .cons ⟨_, r, h⟩ (each_vals t rt)
theorem each_back {H : Hp} : ∀ {its : List Value} {us : List (List Key)}, PySem.W.EachIs (fun v u => ∃ y, L2.RelV y v ∧ UnkAt H y u) its us → ∃ ys, Vals ys its ∧ PySem.W.EachIs (UnkAt H) ys us
  | _, _, .nil => ⟨[], .nil, .nil⟩
  | _, _, .cons ⟨y, r, h⟩ t => by
    obtain ⟨ys, r1, h1⟩ := each_back t
    exact ⟨y :: ys, .cons r r1, .cons h h1⟩
theorem cr_sortedUnk {X : Cx} {k : Nat} {f d0 : Addr} {fd : FuncData} (hr : Room k X.A) (F : Fun X.K "order_of" "order_of" sOrderOf f fd) (R : Ranks X.K X.w X.mg d0) : CallRK X (.builtin "sorted") [Str.ofString "key"] (rSortedUnk X.K f) := by
  intro pins s σ H vs zs us' ws Q I r rz h
  obtain ⟨a, xs, us, rfl, rfl, hs, he, hn, q⟩ := h
  obtain rfl := Vals.ref1 r
  obtain ⟨w1, rfl, e1⟩ := vals1 rz
  obtain rfl : w1 = Value.ref f := e1
  obtain ⟨its, rv, hl, hz⟩ := I.list hs
  have hu := each_vals he rv
  have hlen : us.length ≤ sizeLine := by
    rw [← he.length]
    exact hz
  refine sorted_key_mix (bs := us) (R := fun v u => ∃ y, L2.RelV y v ∧ UnkAt H y u) (f := .ref f) keyD hl.isList hu (self_nm hn) (mix_nm hn) (by decide) hlen (fun u hu => ?_) (ksk_s1 _ _) (fun _ => ksk_l1 _ _) (fun x => ksk_t1 f x) (fun v u hR hu h tk kp => ?_) fun out c h' tk kp hf hg hol ho => ?_
  · obtain ⟨i, z, e⟩ := keyD_nm (hn u hu)
    have hd : (keyD u).depth ≤ 5 := by
      rw [e]
      have z0 : (kD z).depth = 0 := by cases z <;> simp [kD, PyData.depth]
      simp [PyData.depth, PyData.depthAll, z0]
    have := hr.units
    omega
  · obtain ⟨y, ry, hy⟩ := hR
    have hd : X.A.in1.in1.depth < recursionLimit := hr.depth
    exact order_pure (s := { s with heap := h, toks := tk }) F R (I.kIn.keeps kp) ((I.mod.glob.keeps I.bk).keeps kp) (I.nolimit.keeps kp) hd (unkH_keeps kp (unkH_of I ry hy (hn u hu)))
  · obtain ⟨ys, rv', hy⟩ := each_back ho
    have hlen' : ys.length ≤ sizeLine := by
      rw [rv'.length, hol]
      exact hlen
    exact ⟨.ref (s.heap.objs.size + 1), upd H (s.heap.objs.size + 1) (.lst ys), I.laid (t' := tk) kp (Nat.le_succ _) ⟨hlen', out, c, rv', hg⟩, rfl, q ys _ hy (I.hok.fresh (Nat.le_succ _))⟩
end DR

namespace DR
open PySem PySem.Spec PyProof.Rows L2
/-! ### sums -/
def keyDat : Key → PyData
  | .inl i => .int i
  | .inr s => .str s
def unkD (u : List Key) : PyData := .tuple (u.map keyDat)
def partD (p : List Key × Int) : PyData := .tuple [unkD p.1, .int p.2]
def sumD (n : Int) (ps : List (List Key × Int)) : PyData := .tuple [.int n, .tuple (ps.map partD)]
abbrev Mul := List (List Key × Int)
def vKv (kvs : Mul) : List (List Key × V) := kvs.map fun p => (p.1, V.int p.2)
def getI (kvs : Mul) (u : List Key) : Int := ((kvs.find? fun kv => decide (kv.1 = u)).map (·.2)).getD 0
def keysN (kvs : Mul) : List (List Key) := (kvs.map (·.1)).filter fun u => !decide (getI kvs u = 0)
def form (kvs : Mul) : Mul := ((keysN kvs).mergeSort le2).map fun u => (u, getI kvs u)
theorem valV_kv (kvs : Mul) (u : List Key) : valV (vKv kvs) u = (kvs.find? fun kv => decide (kv.1 = u)).map fun kv => V.int kv.2 := by
  unfold valV vKv
  rw [List.find?_map]
  simp [Function.comp_def]
theorem valV_mem {kvs : Mul} {u : List Key} (h : u ∈ kvs.map (·.1)) : valV (vKv kvs) u = some (.int (getI kvs u)) := by
  rw [valV_kv]
  unfold getI
  cases e : kvs.find? fun kv => decide (kv.1 = u) with
  | some p => rfl
  | none =>
    obtain ⟨p, hp, rfl⟩ := List.mem_map.mp h
    have z := List.find?_eq_none.mp e p hp
    simp at z
theorem dp_key {K : PySem.W.Frag} {H : Hp} (k : Key) : Dp K H (kV k) (keyDat k) := by
  cases k with
  | inl i => exact .int i
  | inr s => exact .str s
theorem dps_keys {K : PySem.W.Frag} {H : Hp} : ∀ u : List Key, DpAll K H (u.map kV) (u.map keyDat)
  | [] => .nil
  | k :: u => .cons (dp_key k) (dps_keys u)
theorem dp_unk {K : PySem.W.Frag} {H : Hp} {y : V} {u : List Key} (h : UnkAt H y u) : Dp K H y (unkD u) := by
  obtain ⟨a, rfl, ha⟩ := h
  exact .tup (SqT.of ha) (dps_keys u)
theorem unkAt_same {H H' : Hp} (e : Same H H') {y : V} {u : List Key} (h : UnkAt H y u) : UnkAt H' y u := by
  obtain ⟨a, rfl, ha⟩ := h
  exact ⟨a, rfl, e _ _ ha⟩
theorem each_same {H H' : Hp} (e : Same H H') : ∀ {ys : List V} {us : List (List Key)}, PySem.W.EachIs (UnkAt H) ys us → PySem.W.EachIs (UnkAt H') ys us
  | _, _, .nil => .nil
  | _, _, .cons h t => .cons (unkAt_same e h) (each_same e t)
theorem each_get {H : Hp} : ∀ {ys : List V} {us : List (List Key)}, PySem.W.EachIs (UnkAt H) ys us → ∀ {i : Nat} {y : V}, ys[i]? = some y → ∃ u, us[i]? = some u ∧ UnkAt H y u
  | _, _, .nil, i, y, h => by simp at h
  | _, _, .cons h t, 0, y, e => by
    obtain rfl : _ = y := Option.some.inj e
    exact ⟨_, rfl, h⟩
  | _, _, .cons h t, i + 1, y, e => each_get t (i := i) e
theorem each_snoc {H : Hp} {y : V} {u : List Key} (h : UnkAt H y u) : ∀ {ys : List V} {us : List (List Key)}, PySem.W.EachIs (UnkAt H) ys us → PySem.W.EachIs (UnkAt H) (ys ++ [y]) (us ++ [u])
  | _, _, .nil => .cons h .nil
  | _, _, .cons g t => .cons g (each_snoc h t)
theorem dps_snoc {K : PySem.W.Frag} {H : Hp} {y : V} {d : PyData} (h : Dp K H y d) : ∀ {ys : List V} {ds : List PyData}, DpAll K H ys ds → DpAll K H (ys ++ [y]) (ds ++ [d])
  | _, _, .nil => .cons h .nil
  | _, _, .cons g t => .cons g (dps_snoc h t)
/-- tuples stay -/
def TupS (H H' : Hp) : Prop := ∀ a xs, H a = some (.tup xs) → H' a = some (.tup xs)
theorem TupS.of {H H' : Hp} (e : Same H H') : TupS H H' := fun _ _ h => e _ _ h
theorem TupS.trans {H H' H2 : Hp} (e : TupS H H') (f : TupS H' H2) : TupS H H2 := fun a xs h => f a xs (e a xs h)
theorem TupS.refl (H : Hp) : TupS H H := fun _ _ h => h
theorem TupS.put {H : Hp} {S : Addr} {o o' : HO} (hS : H S = some o) (ho : ∀ xs, o ≠ .tup xs) : TupS H (upd H S o') := fun a xs h => by
  have ne : a ≠ S := fun z => by
    rw [z, hS] at h
    exact ho xs (Option.some.inj h)
  rw [upd_ne ne]
  exact h
theorem eachs_snoc {α β : Type} {R : α → β → Prop} {y : α} {u : β} (h : R y u) : ∀ {ys : List α} {us : List β}, PySem.W.EachIs R ys us → PySem.W.EachIs R (ys ++ [y]) (us ++ [u])
  | _, _, .nil => .cons h .nil
  | _, _, .cons g t => .cons g (eachs_snoc h t)
theorem eachs_imp {α β : Type} {R S : α → β → Prop} (f : ∀ a b, R a b → S a b) : ∀ {as : List α} {bs : List β}, PySem.W.EachIs R as bs → PySem.W.EachIs S as bs
  | _, _, .nil => .nil
  | _, _, .cons h t => .cons (f _ _ h) (eachs_imp f t)
theorem eachs_get {α β : Type} {R : α → β → Prop} : ∀ {ys : List α} {us : List β}, PySem.W.EachIs R ys us → ∀ {i : Nat} {y : α}, ys[i]? = some y → ∃ u, us[i]? = some u ∧ R y u
  | _, _, .nil, i, y, h => by simp at h
  | _, _, .cons h t, 0, y, e => by
    obtain rfl : _ = y := Option.some.inj e
    exact ⟨_, rfl, h⟩
  | _, _, .cons h t, i + 1, y, e => eachs_get t (i := i) e
/-- a part of a sum, a sum: all of tuples -/
def PartT (H : Hp) (v : V) (q : List Key × Int) : Prop := ∃ c e, v = .ref c ∧ H c = some (.tup [.ref e, .int q.2]) ∧ H e = some (.tup (q.1.map kV))
def SumT (H : Hp) (v : V) (n : Int) (ps : Mul) : Prop := ∃ a b xs, v = .ref a ∧ H a = some (.tup [.int n, .ref b]) ∧ H b = some (.tup xs) ∧ PySem.W.EachIs (PartT H) xs ps
theorem partT_s {H H' : Hp} (e : TupS H H') {v : V} {q : List Key × Int} (h : PartT H v q) : PartT H' v q := by
  obtain ⟨c, k, h1, h2, h3⟩ := h
  exact ⟨c, k, h1, e _ _ h2, e _ _ h3⟩
theorem sumT_s {H H' : Hp} (e : TupS H H') {v : V} {n : Int} {ps : Mul} (h : SumT H v n ps) : SumT H' v n ps := by
  obtain ⟨a, b, xs, h1, h2, h3, h4⟩ := h
  exact ⟨a, b, xs, h1, e _ _ h2, e _ _ h3, eachs_imp (fun _ _ => partT_s e) h4⟩
theorem parts_dp {K : PySem.W.Frag} {H : Hp} : ∀ {xs : List V} {ps : Mul}, PySem.W.EachIs (PartT H) xs ps → DpAll K H xs (ps.map partD)
  | _, _, .nil => .nil
  | _, _, .cons h t => by
    obtain ⟨c, e, rfl, h2, h3⟩ := h
    exact .cons (.tup (SqT.of h2) (.cons (dp_unk ⟨e, rfl, h3⟩) (.cons (.int _) .nil))) (parts_dp t)
theorem sumT_dp {K : PySem.W.Frag} {H : Hp} {v : V} {n : Int} {ps : Mul} (h : SumT H v n ps) : Dp K H v (sumD n ps) := by
  obtain ⟨a, b, xs, rfl, h2, h3, h4⟩ := h
  exact .tup (SqT.of h2) (.cons (.int n) (.cons (.tup (SqT.of h3) (parts_dp h4)) .nil))
def spOneForm (K : PySem.W.Frag) : Sp := fun vs H Q _ => ∃ (n : Int) (d : Addr) (kvs : Mul), vs = [.int n, .ref d] ∧ H d = some (.dT (vKv kvs)) ∧ (∀ u ∈ kvs.map (·.1), NmU u) ∧ kvs.length ≤ 1000 ∧
  ∀ v H', Same H H' → SumT H' v n (form kvs) → Q v H'
/-- a heap without the object at D -/
def wo (H : Hp) (D : Addr) : Hp := fun b => if b = D then none else H b
theorem wo_ne {H : Hp} {D b : Addr} (h : b ≠ D) : wo H D b = H b := if_neg h
theorem wo_same {H : Hp} {D : Addr} : Same (wo H D) H := fun b o e => by
  by_cases h : b = D
  · rw [h] at e
    unfold wo at e
    rw [if_pos rfl] at e
    cases e
  · rw [wo_ne h] at e
    exact e
theorem wo_self {H : Hp} {D : Addr} {o : HO} : wo (upd H D o) D = wo H D := by
  funext b
  by_cases h : b = D
  · unfold wo
    rw [if_pos h, if_pos h]
  · rw [wo_ne h, wo_ne h, upd_ne h]
theorem wo_new {H : Hp} {D T : Addr} {o : HO} (hT : H T = none) (h : T ≠ D) : Same (wo H D) (wo (upd H T o) D) := fun b x e => by
  have e2 : H b = some x := wo_same b x e
  have hb : b ≠ D := fun z => by
    rw [z] at e
    unfold wo at e
    rw [if_pos rfl] at e
    cases e
  rw [wo_ne hb, upd_ne (ne_of_none e2 hT)]
  exact e2
abbrev sOneForm : Stmt := topS 20
theorem scOneForm : FnScope ["number", "multiples", "held", "unknown"] ["number", "multiples"] (defScope sOneForm) := ⟨rfl, rfl, rfl, by decide +kernel, rfl, by decide +kernel, by decide +kernel⟩
theorem sz1000 {n : Nat} (h : n ≤ 1000) : n ≤ sizeLine := Nat.le_of_lt (small1000 h)
theorem unkAt_upd {H : Hp} {D : Addr} {l : List V} {o : HO} (hD : H D = some (.lst l)) {y : V} {u : List Key} (h : UnkAt H y u) : UnkAt (upd H D o) y u := by
  obtain ⟨a, rfl, ha⟩ := h
  refine ⟨a, rfl, ?_⟩
  rw [upd_ne (ne_of ha hD (by intro z; cases z))]
  exact ha
theorem each_upd {H : Hp} {D : Addr} {l : List V} {o : HO} (hD : H D = some (.lst l)) : ∀ {ys : List V} {us : List (List Key)}, PySem.W.EachIs (UnkAt H) ys us → PySem.W.EachIs (UnkAt (upd H D o)) ys us
  | _, _, .nil => .nil
  | _, _, .cons h t => .cons (unkAt_upd hD h) (each_upd hD t)
theorem each_len {H : Hp} {ys : List V} {us : List (List Key)} (h : PySem.W.EachIs (UnkAt H) ys us) : ys.length = us.length := h.length
theorem mem_sort {us : List (List Key)} {u : List Key} (h : u ∈ us.mergeSort le2) : u ∈ us := (List.mergeSort_perm us le2).mem_iff.mp h
section
variable {P : Program} {w : World} {K : PySem.W.Frag} {mg : Str → Option Value} {base : Heap}
theorem ok_oneForm {f fO d0 : Addr} {fd fdO : FuncData} (F : Fun K "one_form" "one_form" sOneForm f fd) (T : Bi mg) (R : Ranks K w mg d0) (FO : Fun K "order_of" "order_of" sOrderOf fO fdO) (gO : mg "order_of" = some (.ref fO)) :
    FnOk P w K mg base CX0 2 f fd ["number", "multiples"] (spOneForm K) := by
  refine F.ok scOneForm (fun vs H Q E h => ?_) (fun cdv A outer s H vs Q E hr h => ?_)
  · obtain ⟨n, d, kvs, rfl, _⟩ := h
    rfl
  · obtain ⟨n, d, kvs, rfl, hd, hn, hl, q⟩ := h
    have hu := hu_of hr
    refine ⟨_, pss_cons (ps_set (i := 2) scOneForm.nd rfl (.inl rfl) (pe_callBK (cr_sortedUnk hr FO R) (by rfl) T.sorted (by decide +kernel) (pa_cons (pe_lock (pe_lc (own := [("unknown", 3)]) (g := gName 3) (tt := _) rfl scOneForm.nd (pi_keys (pv 1)) (blkOk_by (N := ["number", "multiples", "held", "unknown"]) (sc := defScope sOneForm) (by decide +kernel)) (fun _ _ _ _ _ => pg_name (i := 3) scOneForm.nd rfl (.inl rfl)) (fun _ _ _ _ _ => pts_one (pt_cmpR op_ne (pe_dget hu (pv 1) (pv 3) (fun _ _ => rfl)) pe_int (nomark _))) (fun _ _ _ _ _ => (pv 3)))) pa_nil) (pk_cons (pe_glob (v := .ref fO) rfl gO rfl) pk_nil)))
      (pss_one (ps_ret (pe_tup (pa_cons (pv 0) (pa_cons (pe_callTy call_tuple_of (by rfl) T.tuple (by decide +kernel) (pa_cons (pe_lc (own := [("unknown", 3)]) (g := gName 3) (tt := tYes) rfl scOneForm.nd (pi_list (pv 2)) (blkOk_by (N := ["number", "multiples", "held", "unknown"]) (sc := defScope sOneForm) (by decide +kernel)) (fun _ _ _ _ _ => pg_name (i := 3) scOneForm.nd rfl (.inl rfl)) (fun _ _ _ _ _ => pts_nil) (fun _ _ _ _ _ => (pe_tup (pa_cons (pv 3) (pa_cons (pe_dget hu (pv 1) (pv 3) (fun _ _ => rfl)) pa_nil))))) pa_nil)) pa_nil))))), ?_⟩
    refine ⟨d, _, hd, trivial, fun od => ⟨_, rfl, d, od, rfl, .inr ⟨_, upd_same, fun D hD => ?_⟩⟩⟩
    have lenK : (vKv kvs).length = kvs.length := List.length_map _
    have hDd : D ≠ d := by
      intro z
      rw [z, upd_same] at hD
      cases hD
    have hDn : H D = none := by
      rw [upd_ne hDd] at hD
      exact hD
    refine lc_it walk_keysT (fun i H1 => (∀ b o, b ≠ D → upd H d (.frz od (.dT (vKv kvs))) b = some o → H1 b = some o) ∧ ∃ ys, H1 D = some (.lst ys) ∧ ys.length ≤ i ∧ PySem.W.EachIs (UnkAt H1) ys (((kvs.take i).map (·.1)).filter fun u => !decide (getI kvs u = 0)))
      ⟨fun b o hb e => by rw [upd_ne hb]; exact e, [], upd_same, Nat.le_refl _, .nil⟩ (fun i H1 _ ⟨kp, _⟩ => kp _ _ hDd.symm upd_same) ?_ ?_
    · rintro i x H1 H1' hi ⟨kp, ys, hD1, hlen, he⟩ ⟨rfl, k, v, qa, hk, rfl, hq⟩
      have hi' : i < kvs.length := by rw [lenK] at hi; exact hi
      obtain ⟨⟨k0, m⟩, hm⟩ : ∃ p, kvs[i]? = some p := ⟨kvs[i], List.getElem?_eq_getElem hi'⟩
      have hk2 : (k, v) = (k0, V.int m) := by
        unfold vKv at hk
        rw [List.getElem?_map, hm] at hk
        exact (Option.some.inj hk).symm
      cases hk2
      have hmem : k ∈ kvs.map (·.1) := List.mem_map.mpr ⟨_, List.mem_of_getElem? hm, rfl⟩
      have hd1 : H1' d = some (.frz od (.dT (vKv kvs))) := kp _ _ hDd.symm upd_same
      have qD : qa ≠ D := ne_of hq hD1 (by intro z; cases z)
      have hqH : UnkAt H1' (.ref qa) k := ⟨qa, rfl, hq⟩
      refine ⟨rfl, _, rfl, _, rfl, d, .int (getI kvs k), rfl, .inr ⟨vKv kvs, k, qa, .inr ⟨od, hd1⟩, rfl, hq, (valV_mem hmem).symm⟩, rfl, _, rfl, ?_⟩
      rw [eq_int]
      have tk : (kvs.take (i + 1)).map (·.1) = (kvs.take i).map (·.1) ++ [k] := by
        rw [List.take_add_one, hm]
        simp
      cases c : !decide (getI kvs k = 0) with
      | true =>
        refine iteT ⟨_, rfl, ys, hD1, small1000 (by omega), fun b o hb e => ?_, ys ++ [.ref qa], upd_same, by simp; omega, ?_⟩
        · rw [upd_ne hb]
          exact kp b o hb e
        · rw [tk, List.filter_append]
          have z : [k].filter (fun u => !decide (getI kvs u = 0)) = [k] := by simp [List.filter, c]
          rw [z]
          exact each_snoc (unkAt_upd hD1 hqH) (each_upd hD1 he)
      | false =>
        refine iteF ⟨kp, ys, hD1, by omega, ?_⟩
        rw [tk, List.filter_append]
        have z : [k].filter (fun u => !decide (getI kvs u = 0)) = [] := by simp [List.filter, c]
        rw [z, List.append_nil]
        exact he
    · rintro H1 ⟨kp, ys, hD1, hlen, he⟩
      have tl : (kvs.take (vKv kvs).length) = kvs := by rw [lenK]; exact List.take_length
      rw [tl] at he
      have hd1 : H1 d = some (.frz od (.dT (vKv kvs))) := kp _ _ hDd.symm upd_same
      have sm : Same H (upd H1 d (.dT (vKv kvs))) := fun b o e => by
        by_cases hb : b = d
        · rw [hb] at e ⊢
          rw [upd_same]
          exact hd.symm.trans e
        · rw [upd_ne hb]
          refine kp b o (ne_of_none e hDn) ?_
          rw [upd_ne hb]
          exact e
      have eD : (upd H1 d (.dT (vKv kvs))) D = some (.lst ys) := by
        rw [upd_ne hDd]
        exact hD1
      have he2 : PySem.W.EachIs (UnkAt (upd H1 d (.dT (vKv kvs)))) ys (keysN kvs) := by
        have go : ∀ {zs : List V} {us : List (List Key)}, PySem.W.EachIs (UnkAt H1) zs us → PySem.W.EachIs (UnkAt (upd H1 d (.dT (vKv kvs)))) zs us := by
          intro zs us h
          induction h with
          | nil => exact .nil
          | cons h t ih =>
            obtain ⟨a, rfl, ha⟩ := h
            refine .cons ⟨a, rfl, ?_⟩ ih
            rw [upd_ne (ne_of ha hd1 (by intro z; cases z))]
            exact ha
        exact go he
      have hnK : ∀ u ∈ keysN kvs, NmU u := fun u hu => hn u (List.mem_filter.mp hu).1
      refine ⟨hd1, D, ys, keysN kvs, rfl, rfl, SqL.of eD, he2, hnK, fun zs p hz hp => ?_⟩
      generalize hH2 : upd H1 d (.dT (vKv kvs)) = H2 at sm eD he2 hp hz ⊢
      have h2d : H2 d = some (.dT (vKv kvs)) := by rw [← hH2, upd_same]
      have sm3 : Same H2 (upd H2 p (.lst zs)) := same_new hp
      have hz3 : PySem.W.EachIs (UnkAt (upd H2 p (.lst zs))) zs ((keysN kvs).mergeSort le2) := each_same sm3 hz
      have lz : zs.length = ((keysN kvs).mergeSort le2).length := hz.length
      have lz2 : zs.length ≤ 1000 := by
        rw [lz, (List.mergeSort_perm _ _).length_eq]
        unfold keysN
        refine Nat.le_trans (List.length_filter_le _ _) ?_
        rw [List.length_map]
        exact hl
      generalize hH3 : upd H2 p (.lst zs) = H3 at sm3 hz3 ⊢
      have h3d : H3 d = some (.dT (vKv kvs)) := sm3 _ _ h2d
      have h3p : H3 p = some (.lst zs) := by rw [← hH3, upd_same]
      refine ⟨_, rfl, _, rfl, p, rfl, ⟨_, SqL.of h3p⟩, fun D2 hD2 => ?_⟩
      have pD2 : p ≠ D2 := ne_of_none h3p hD2
      refine lc_it (walk_list (xs := zs)) (fun i H4 => (∀ b o, b ≠ D2 → H3 b = some o → H4 b = some o) ∧ ∃ ps, H4 D2 = some (.lst ps) ∧ ps.length = i ∧ PySem.W.EachIs (PartT H4) ps ((((keysN kvs).mergeSort le2).take i).map fun u => (u, getI kvs u)))
        ⟨fun b o hb e => by rw [upd_ne hb]; exact e, [], upd_same, rfl, .nil⟩ (fun i H4 _ ⟨kp, _⟩ => SqL.of (kp _ _ pD2 h3p)) ?_ ?_
      · rintro i x H4 H4' hi ⟨kp4, ps, h4D, hps, hdp⟩ ⟨rfl, hx⟩
        obtain ⟨u, hu1, a, rfl, ha⟩ := each_get hz3 hx
        have haD : a ≠ D2 := ne_of_none ha hD2
        have ha4 := kp4 _ _ haD ha
        have h4d := kp4 _ _ (ne_of_none h3d hD2) h3d
        have hmem : u ∈ kvs.map (·.1) := (List.mem_filter.mp (mem_sort (List.mem_of_getElem? hu1))).1
        refine ⟨rfl, yes_go (iteT ⟨_, rfl, _, rfl, _, rfl, d, .int (getI kvs u), rfl, .inr ⟨vKv kvs, u, a, .inl h4d, rfl, ha4, (valV_mem hmem).symm⟩, (by show 2 ≤ sizeLine; decide), fun t ht => ⟨ps, ?_, small1000 (by omega), ?_, ps ++ [.ref t], upd_same, by simp; omega, ?_⟩⟩)⟩
        · rw [upd_ne (ne_of_none h4D ht)]
          exact h4D
        · intro b o hb e
          rw [upd_ne hb, upd_ne (ne_of_none (kp4 b o hb e) ht)]
          exact kp4 b o hb e
        · have tD : t ≠ D2 := fun z => by rw [z, h4D] at ht; cases ht
          have ts : TupS H4' (upd (upd H4' t (.tup [.ref a, .int (getI kvs u)])) D2 (.lst (ps ++ [.ref t]))) := (TupS.of (same_new ht)).trans (TupS.put (o := .lst ps) (by
            rw [upd_ne (ne_of_none h4D ht)]
            exact h4D) (by intro xs z; cases z))
          rw [List.take_add_one, hu1]
          simp only [Option.toList_some, List.map_append, List.map_cons, List.map_nil]
          refine eachs_snoc ⟨t, a, rfl, ?_, ts _ _ ha4⟩ (eachs_imp (fun _ _ => partT_s ts) hdp)
          rw [upd_ne tD, upd_same]
      · rintro H4 ⟨kp4, ps, h4D, hps, hdp⟩
        have tl2 : ((keysN kvs).mergeSort le2).take zs.length = (keysN kvs).mergeSort le2 := by rw [lz]; exact List.take_length
        rw [tl2] at hdp
        refine ⟨D2, ps, rfl, .inl ⟨SqL.of h4D, fun l hl4 => ⟨(by show 2 ≤ sizeLine; decide), fun r hr5 => ?_⟩⟩⟩
        have s4 : Same H3 H4 := fun b o e => kp4 b o (ne_of_none e hD2) e
        have s5 := same_new (o := .tup ps) hl4
        have s6 := same_new (o := .tup [.int n, .ref l]) hr5
        refine q _ _ ((((sm.trans sm3).trans s4).trans s5).trans s6) ?_
        have el : (upd (upd H4 l (.tup ps)) r (.tup [.int n, .ref l])) l = some (.tup ps) := s6 _ _ upd_same
        exact ⟨r, l, ps, rfl, upd_same, el, eachs_imp (fun _ _ => partT_s (TupS.of (s5.trans s6))) hdp⟩
end
end DR

namespace DR
open PySem PySem.Spec PyProof.Rows L2
/-! ### a for over a list or a tuple -/
def iSeq (K : PySem.W.Frag) (tl : TE) : TI := fun σ H R => tl σ H fun x H1 => ∃ a xs, x = .ref a ∧ (SqL K H1 a xs ∨ SqT K H1 a xs) ∧ ∀ J G, Walk J xs.length G (YAt xs) → (∀ H4, (SqL K H1 a xs → SqL K H4 a xs) → (SqT K H1 a xs → SqT K H4 a xs) → G H4) → R J H1
theorem pi_seq {X : Cx} {tg l : Expr} {tl : TE} (hl : PE X l tl) : PI X tg l (iSeq X.K tl) := by
  refine ⟨fun pins s σ H R I h => ?_⟩
  refine thn (hl.run pins s σ H _ I h) fun v s1 ⟨x, H1, I1, r1, q1⟩ => ?_
  obtain ⟨a, xs, e, hq, q⟩ := q1
  subst e
  cases r1
  have fp : ∀ b ∈ [s1.heap.objs.size], FpOk X pins H1 b := fun b hb => by
    have e : b = s1.heap.objs.size := by simpa using hb
    subst e
    exact I1.fpOk (Nat.le_refl _) (I1.hok.fresh (Nat.le_refl _))
  rcases hq with hq | hq
  · obtain ⟨its, rv, p, hz⟩ := I1.list hq
    refine wpAny_pyIter_list p.isList ?_
    exact ⟨s1.heap.objs.size, [s1.heap.objs.size], _, _, H1, rfl, I1.kept (t' := s1.toks) fun b o e => Heap.get?_push_of_some _ e, turn_list a _, ⟨_, Heap.get?_push_size _ rfl, rfl, rfl⟩, fp, q _ (fun H4 => SqL X.K H4 a xs) walk_list fun H4 e _ => e hq⟩
  · obtain ⟨its, rv, p, hz⟩ := I1.tuple hq
    refine wpAny_pyIter_tuple (show s1.heap.IsTuple a its.toArray from p) ?_
    exact ⟨s1.heap.objs.size, [s1.heap.objs.size], _, _, H1, rfl, I1.kept (t' := s1.toks) fun b o e => Heap.get?_push_of_some _ e, turn_tuple a _, ⟨_, Heap.get?_push_size _ rfl, rfl, rfl⟩, fp, q _ (fun H4 => SqT X.K H4 a xs) walk_tup fun H4 _ e => e hq⟩
/-! ### the mirror of read_sum -/
def putI (kvs : Mul) (u : List Key) (m : Int) : Mul := if (kvs.any fun kv => decide (kv.1 = u)) = true then kvs.map (fun kv => if kv.1 = u then (kv.1, m) else kv) else kvs ++ [(u, m)]
theorem put_vKv (kvs : Mul) (u : List Key) (m : Int) : putK (vKv kvs) u (.int m) = vKv (putI kvs u m) := by
  unfold putK putI vKv
  have e : ((kvs.map fun p => (p.1, V.int p.2)).any fun kv => decide (kv.1 = u)) = kvs.any fun kv => decide (kv.1 = u) := by
    rw [List.any_map]
    rfl
  rw [e]
  split
  · rw [List.map_map, List.map_map]
    apply List.map_congr_left
    intro p _
    by_cases h : p.1 = u
    · simp [h]
    · simp [h]
  · simp
theorem putI_len (kvs : Mul) (u : List Key) (m : Int) : (putI kvs u m).length ≤ kvs.length + 1 := by
  unfold putI
  split
  · rw [List.length_map]; omega
  · simp
theorem putI_keys {kvs : Mul} {u : List Key} {m : Int} (hu : NmU u) (h : ∀ x ∈ kvs.map (·.1), NmU x) : ∀ x ∈ (putI kvs u m).map (·.1), NmU x := by
  intro x hx
  unfold putI at hx
  split at hx
  · rw [List.map_map] at hx
    obtain ⟨p, hp, rfl⟩ := List.mem_map.mp hx
    have e : (Prod.fst ∘ fun kv : List Key × Int => if kv.1 = u then (kv.1, m) else kv) p = p.1 := by
      show (if p.1 = u then (p.1, m) else p).1 = p.1
      split <;> rfl
    rw [e]
    exact h _ (List.mem_map.mpr ⟨p, hp, rfl⟩)
  · rw [List.map_append] at hx
    rcases List.mem_append.mp hx with hx | hx
    · exact h x hx
    · have e : x = u := by simpa using hx
      rw [e]
      exact hu
def addPart (acc : Mul) (p : PyData) : Option Mul := match items p with
  | some [x, .int m] => (readUnk x).map fun u => putI acc u (getI acc u + m)
  | _ => none
def readParts : List PyData → Mul → Option Mul
  | [], acc => some acc
  | p :: r, acc => (addPart acc p).bind (readParts r)
theorem readParts_app : ∀ (ps qs : List PyData) (acc : Mul), readParts (ps ++ qs) acc = (readParts ps acc).bind (readParts qs)
  | [], qs, acc => rfl
  | p :: ps, qs, acc => by
    show (addPart acc p).bind (readParts (ps ++ qs)) = ((addPart acc p).bind (readParts ps)).bind (readParts qs)
    cases e : addPart acc p with
    | none => rfl
    | some a => exact readParts_app ps qs a
def readSum (d : PyData) : Option (Int × Mul) := match d with
  | .int n => some (n, [])
  | d => match items d with
    | some [.int n, q] => (items q).bind fun ds => (readParts ds []).map fun kvs => (n, form kvs)
    | _ => none
def okPart (p : PyData) : Prop := ∀ x m, items p = some [x, .int m] → shortP x ∧ ∀ u, readUnk x = some u → NmU u
def okSum (d : PyData) : Prop := ∀ n q ds, items d = some [.int n, q] → items q = some ds → ds.length ≤ 1000 ∧ ∀ p ∈ ds, okPart p
def SumV (K : PySem.W.Frag) (H : Hp) (v : V) : Option (Int × Mul) → Prop
  | none => v = .non
  | some (n, ps) => SumT H v n ps
def spReadSum (K : PySem.W.Frag) : Sp := fun vs H Q _ => ∃ v d, vs = [v] ∧ Th K H v d ∧ okSum d ∧ ∀ v' H', Same H H' → SumV K H' v' (readSum d) → Q v' H'
abbrev sReadSum : Stmt := topS 21
theorem scReadSum : FnScope ["thing", "multiples", "part", "unknown"] ["thing"] (defScope sReadSum) := ⟨rfl, rfl, rfl, by decide +kernel, rfl, by decide +kernel, by decide +kernel⟩
theorem row_sq {K : PySem.W.Frag} {H H' : Hp} {a : Addr} {xs : List V} (e : Same H H') (h : SqL K H a xs ∨ SqT K H a xs) : SqL K H' a xs ∨ SqT K H' a xs := h.imp (sqL_same e) (sqT_same e)
theorem ix_row {K : PySem.W.Frag} {H : Hp} {a : Addr} {xs : List V} {i : Int} {v : V} {Q : VK} (h : SqL K H a xs ∨ SqT K H a xs) (e : atI xs i = some v) (q : Q v H) : rIx K (.ref a) (.int i) H Q := by
  rcases h with h | h
  · exact .inl ⟨a, xs, i, v, rfl, rfl, h, e, q⟩
  · exact .inr (.inl ⟨a, xs, i, v, rfl, rfl, h, e, q⟩)
theorem rd_drop {H : Hp} {D b : Addr} {o u : HO} (h : Rd (upd H D o) b u) (h1 : o ≠ u) (h2 : ∀ x, o ≠ .frz x u) : Rd H b u := by
  have hb : b ≠ D := fun z => by
    rcases h with h | ⟨x, h⟩
    · rw [z, upd_same] at h
      exact h1 (Option.some.inj h)
    · rw [z, upd_same] at h
      exact h2 x (Option.some.inj h)
  rcases h with h | ⟨x, h⟩
  · rw [upd_ne hb] at h
    exact .inl h
  · rw [upd_ne hb] at h
    exact .inr ⟨x, h⟩
theorem sqL_drop {K : PySem.W.Frag} {H : Hp} {D b : Addr} {k : List (List Key × V)} {xs : List V} (h : SqL K (upd H D (.dT k)) b xs) : SqL K H b xs := by
  rcases h with h | h
  · exact .inl (rd_drop h (by intro z; cases z) (by intro x z; cases z))
  · exact .inr h
theorem sqT_drop {K : PySem.W.Frag} {H : Hp} {D b : Addr} {k : List (List Key × V)} {xs : List V} (h : SqT K (upd H D (.dT k)) b xs) : SqT K H b xs := by
  rcases h with h | h
  · exact .inl (rd_drop h (by intro z; cases z) (by intro x z; cases z))
  · exact .inr h
theorem row_drop {K : PySem.W.Frag} {H : Hp} {D b : Addr} {k : List (List Key × V)} {xs : List V} (h : SqL K (upd H D (.dT k)) b xs ∨ SqT K (upd H D (.dT k)) b xs) : SqL K H b xs ∨ SqT K H b xs := h.imp sqL_drop sqT_drop
theorem dps_get {K : PySem.W.Frag} {H : Hp} : ∀ {vs : List V} {ds : List PyData}, DpAll K H vs ds → ∀ {i : Nat} {v : V}, vs[i]? = some v → ∃ d, ds[i]? = some d ∧ Dp K H v d
  | _, _, .nil, i, v, h => by simp at h
  | _, _, .cons g t, 0, v, e => by
    obtain rfl : _ = v := Option.some.inj e
    exact ⟨_, rfl, g⟩
  | _, _, .cons g t, i + 1, v, e => dps_get t (i := i) e
theorem parts_split {ds : List PyData} {i : Nat} {dp : PyData} (h : ds[i]? = some dp) : ds = ds.take i ++ dp :: ds.drop (i + 1) := by
  have hi : i < ds.length := (List.getElem?_eq_some_iff.mp h).1
  have e : ds[i] = dp := (List.getElem?_eq_some_iff.mp h).2
  rw [← e, ← List.drop_eq_getElem_cons hi]
  exact (List.take_append_drop i ds).symm
theorem parts_stop {ds : List PyData} {i : Nat} {dp : PyData} {acc : Mul} (h : ds[i]? = some dp) (h1 : readParts (ds.take i) [] = some acc) (h2 : addPart acc dp = none) : readParts ds [] = none := by
  rw [parts_split h, readParts_app, h1]
  show (addPart acc dp).bind _ = none
  rw [h2]
  rfl
theorem parts_more {ds : List PyData} {i : Nat} {dp : PyData} {acc acc' : Mul} (h : ds[i]? = some dp) (h1 : readParts (ds.take i) [] = some acc) (h2 : addPart acc dp = some acc') : readParts (ds.take (i + 1)) [] = some acc' := by
  rw [List.take_add_one, h, readParts_app, h1]
  show (addPart acc dp).bind (readParts []) = some acc'
  rw [h2]
  rfl
theorem getD_val (acc : Mul) (u : List Key) : (valV (vKv acc) u).getD (.int 0) = .int (getI acc u) := by
  rw [valV_kv]
  unfold getI
  cases acc.find? fun kv => decide (kv.1 = u) with
  | none => rfl
  | some p => rfl
/-- two items -/
theorem dps_two {K : PySem.W.Frag} {H : Hp} {xs : List V} {a b : PyData} (h : DpAll K H xs [a, b]) : ∃ x y, xs = [x, y] ∧ Dp K H x a ∧ Dp K H y b := by
  cases h with
  | cons h1 h => cases h with
    | cons h2 h =>
      cases h
      exact ⟨_, _, rfl, h1, h2⟩
theorem rof_two {d : PyData} (h : isRof d 2 = true) : ∃ a b, items d = some [a, b] := by
  unfold isRof at h
  cases e : items d with
  | none => rw [e] at h; cases h
  | some xs =>
    rw [e] at h
    have e' : ((xs.length : Int) = 2) := of_decide_eq_true h
    match xs, e' with
    | [x, y], _ => exact ⟨x, y, rfl⟩
    | [], z => exact absurd z (by decide)
    | [_], z => exact absurd z (by simp)
    | _ :: _ :: _ :: _, z => simp at z; omega
theorem rof_not {d : PyData} (h : isRof d 2 = false) : ∀ a b, items d ≠ some [a, b] := by
  intro a b e
  unfold isRof at h
  rw [e] at h
  cases h
theorem at2 {a b : V} (i : Nat) (v : V) (h : [a, b][i]? = some v) : atI [a, b] (i : Int) = some v := by
  have hi : i < 2 := (List.getElem?_eq_some_iff.mp h).1
  unfold atI ixN
  rw [if_pos (by omega), if_pos (by show (i : Int) < ((2 : Nat) : Int); omega)]
  show ([a, b] : List V)[((i : Int)).toNat]? = _
  rw [Int.toNat_natCast]
  exact h
section
variable {P : Program} {w : World} {K : PySem.W.Frag} {mg : Str → Option Value} {base : Heap}
theorem ok_readSum {f : Addr} {fd : FuncData} (F : Fun K "read_sum" "read_sum" sReadSum f fd) (G1 : Has P w K mg base CX0 3 "is_integer" ["thing"] (spIsInt K)) (G2 : Has P w K mg base CX0 3 "is_row_of" ["thing", "many"] (spIsRowOf K))
    (G3 : Has P w K mg base CX0 3 "is_row" ["thing"] (spIsRow K)) (G4 : Has P w K mg base CX0 3 "read_unknown" ["thing"] (spReadUnk K)) (G5 : Has P w K mg base CX0 3 "one_form" ["number", "multiples"] (spOneForm K)) :
    FnOk P w K mg base CX0 4 f fd ["thing"] (spReadSum K) := by
  refine F.ok scReadSum (fun vs H Q E h => ?_) (fun cdv A outer s H vs Q E hr h => ?_)
  · obtain ⟨v, d, rfl, _⟩ := h
    rfl
  · obtain ⟨v, d, rfl, th, ok, q⟩ := h
    have hu := hu_of hr
    refine ⟨_, (pss_cons (ps_if (pt_val (pe_callH G1 hr (by rfl) pass0 (pa_cons (pv 0) pa_nil))) (pss_one (ps_ret (pe_tup (pa_cons (pv 0) (pa_cons (pe_tup pa_nil) pa_nil))))) pss_nil)
      (pss_cons (ps_if (PW.pt (pw_or (pt_not (pt_val (pe_callH G2 hr (by rfl) pass0 (pa_cons (pv 0) (pa_cons pe_int pa_nil))))) (pw_or (pt_not (pt_val (pe_callH G1 hr (by rfl) pass0 (pa_cons (pe_ix ix_seq (pv 0) pe_int (fun _ _ => rfl)) pa_nil)))) (pw_or1 (pt_not (pt_val (pe_callH G3 hr (by rfl) pass0 (pa_cons (pe_ix ix_seq (pv 0) pe_int (fun _ _ => rfl)) pa_nil)))))))) (pss_one (ps_ret pe_non)) pss_nil)
      (pss_cons (ps_set (i := 1) scReadSum.nd rfl (.inl rfl) (pe_dnewT))
      (pss_cons (ps_for PassesOwn.never rfl (pi_seq (pe_ix ix_seq (pv 0) pe_int (fun _ _ => rfl))) (pg_name (i := 2) scReadSum.nd rfl (.inl rfl)) (pss_cons (ps_if (PW.pt (pw_or (pt_not (pt_val (pe_callH G2 hr (by rfl) pass0 (pa_cons (pv 2) (pa_cons pe_int pa_nil))))) (pw_or1 (pt_not (pt_val (pe_callH G1 hr (by rfl) pass0 (pa_cons (pe_ix ix_seq (pv 2) pe_int (fun _ _ => rfl)) pa_nil))))))) (pss_one (ps_ret pe_non)) pss_nil)
      (pss_cons (ps_set (i := 3) scReadSum.nd rfl (.inl rfl) (pe_callH G4 hr (by rfl) pass0 (pa_cons (pe_ix ix_seq (pv 2) pe_int (fun _ _ => rfl)) pa_nil)))
      (pss_cons (ps_if (pt_cmpR op_isN (pv 3) pe_non (nomark _)) (pss_one (ps_ret pe_non)) pss_nil)
      (pss_one (ps_dput hu (pv 1) (pv 3) (pe_op op_add (pe_dget2 hu (pv 1) (pv 3) pe_int ⟨rfl, rfl, rfl, rfl⟩) (pe_ix ix_seq (pv 2) pe_int (fun _ _ => rfl))) rfl))))))
      (pss_one (ps_ret (pe_callH G5 hr (by rfl) pass0 (pa_cons (pe_ix ix_seq (pv 0) pe_int (fun _ _ => rfl)) (pa_cons (pv 1) pa_nil))))))))), ?_⟩
    refine ⟨_, rfl, v, d, rfl, th, _, rfl, ?_⟩
    cases ei : isI d with
    | true =>
      obtain ⟨n, rfl⟩ : ∃ n, d = .int n := by
        cases d with
        | int n => exact ⟨n, rfl⟩
        | _ => cases ei
      obtain rfl : v = .int n := by
        cases th with
        | dat h => cases h; rfl
      refine iteT ⟨_, rfl, Nat.zero_le _, fun e he => ⟨(by show 2 ≤ sizeLine; decide), fun p hp => ?_⟩⟩
      refine q _ _ ((same_new he).trans (same_new hp)) ?_
      have ee : (upd (upd H e (.tup [])) p (.tup [.int n, .ref e])) e = some (.tup []) := same_new hp _ _ upd_same
      exact ⟨p, e, [], rfl, upd_same, ee, .nil⟩
    | false =>
      refine iteF ?_
      have rs : readSum d = match items d with
        | some [.int n, q] => (items q).bind fun ds => (readParts ds []).map fun kvs => (n, form kvs)
        | _ => none := by
        cases d with
        | int n => cases ei
        | _ => rfl
      refine ⟨_, rfl, v, d, 2, rfl, th, fun H1 sm1 => ⟨_, rfl, ?_⟩⟩
      cases e2 : isRof d 2 with
      | false =>
        refine iteT (q _ _ sm1 ?_)
        have z : readSum d = none := by
          rw [rs]
          split
          · rename_i n q' e
            exact absurd e (rof_not e2 _ _)
          · rfl
        rw [z]
        rfl
      | true =>
        refine iteF ?_
        obtain ⟨d1, dq, e3⟩ := rof_two e2
        obtain ⟨a, xs, rfl, hs, ha⟩ := th_row (th_same sm1 th) e3
        obtain ⟨v1, vq, rfl, h1, h2⟩ := dps_two ha
        refine ⟨_, rfl, ix_row hs (at2 0 v1 rfl) ?_⟩
        refine ⟨v1, d1, rfl, .dat h1, _, rfl, ?_⟩
        cases ei1 : isI d1 with
        | false =>
          refine iteT (q _ _ sm1 ?_)
          have z : readSum d = none := by
            rw [rs, e3]
            cases d1 with
            | int n => cases ei1
            | _ => rfl
          rw [z]
          rfl
        | true =>
          obtain ⟨n, rfl⟩ : ∃ n, d1 = .int n := by
            cases d1 with
            | int n => exact ⟨n, rfl⟩
            | _ => cases ei1
          cases h1
          rw [e3] at rs
          refine iteF ⟨_, rfl, ix_row hs (at2 1 vq rfl) ⟨vq, dq, rfl, .dat h2, fun H2 sm2 => ⟨_, rfl, ?_⟩⟩⟩
          rw [isR_items]
          cases e4 : items dq with
          | none =>
            refine iteT (q _ _ (sm1.trans sm2) ?_)
            have z : readSum d = none := by
              rw [rs]
              show (items dq).bind _ = none
              rw [e4]
              rfl
            rw [z]
            rfl
          | some ds =>
            obtain ⟨hlen, hok⟩ := ok n dq ds e3 e4
            have rs2 : readSum d = (readParts ds []).map fun kvs => (n, form kvs) := by
              rw [rs]
              show (items dq).bind _ = _
              rw [e4]
              rfl
            have hs2 := row_sq sm2 hs
            obtain ⟨b, ys, rfl, hb, hby⟩ := th_row (th_same sm2 (.dat h2)) e4
            refine iteF fun D hD => ?_
            have sm3 := sm1.trans (sm2.trans (same_new (o := .dT []) hD))
            refine ⟨_, rfl, ix_row (row_sq (same_new hD) hs2) (at2 1 _ rfl) ⟨b, ys, rfl, row_sq (same_new hD) hb, fun J G W hG => ?_⟩⟩
            have ly : ys.length = ds.length := dps_len hby
            have keyless : ∀ x ∈ ([] : Mul).map Prod.fst, NmU x := fun x hx => by simp at hx
            refine for_it W (fun i σ H4 => ∃ (acc : Mul) (p u : Option V), σ = [some (.ref a), some (.ref D), p, u] ∧ Same H2 H4 ∧ H4 D = some (.dT (vKv acc)) ∧ readParts (ds.take i) [] = some acc ∧ (∀ x ∈ acc.map Prod.fst, NmU x) ∧ acc.length ≤ i)
              ⟨[], none, none, rfl, same_new hD, upd_same, rfl, keyless, Nat.le_refl _⟩ (fun i σ H4 _ ⟨_, _, _, _, s4, _⟩ => hG H4 (fun z => sqL_same s4 (sqL_drop z)) (fun z => sqT_same s4 (sqT_drop z))) ?_ ?_
            · rintro i x σ H4 H4' hi ⟨acc, p, u, rfl, s4, hD4, hrp, hnm, hal⟩ ⟨rfl, hx⟩
              obtain ⟨dp, hdp, hxd⟩ := dps_get hby hx
              have hxd4 := dp_same s4 hxd
              have hokp := hok dp (List.mem_of_getElem? hdp)
              have stop : addPart acc dp = none → readSum d = none := by
                intro e
                rw [rs2, parts_stop hdp hrp e]
                rfl
              refine ⟨_, rfl, x, dp, 2, rfl, .dat hxd4, fun H5 s5 => ⟨_, rfl, ?_⟩⟩
              cases e5 : isRof dp 2 with
              | false =>
                refine iteT (q _ _ ((sm1.trans sm2).trans (s4.trans s5)) ?_)
                rw [stop (by
                  unfold addPart
                  split
                  · rename_i x' m' e
                    exact absurd e (rof_not e5 _ _)
                  · rfl)]
                rfl
              | true =>
                obtain ⟨pu, pm, e6⟩ := rof_two e5
                obtain ⟨c, zs, rfl, hc, hcd⟩ := th_row (.dat (dp_same s5 hxd4)) e6
                obtain ⟨w1, w2, rfl, g1, g2⟩ := dps_two hcd
                refine iteF ⟨_, rfl, ix_row hc (at2 1 w2 rfl) ⟨w2, pm, rfl, .dat g2, _, rfl, ?_⟩⟩
                cases e7 : isI pm with
                | false =>
                  refine iteT (q _ _ ((sm1.trans sm2).trans (s4.trans s5)) ?_)
                  rw [stop (by
                    unfold addPart
                    rw [e6]
                    cases pm with
                    | int m => cases e7
                    | _ => rfl)]
                  rfl
                | true =>
                  obtain ⟨m, rfl⟩ : ∃ m, pm = .int m := by
                    cases pm with
                    | int m => exact ⟨m, rfl⟩
                    | _ => cases e7
                  cases g2
                  obtain ⟨shp, hnu⟩ := hokp pu m e6
                  refine iteF ⟨_, rfl, ix_row hc (at2 0 w1 rfl) ⟨w1, pu, rfl, .dat g1, shp, fun vu H6 s6 hvu => ?_⟩⟩
                  have ea : addPart acc dp = (readUnk pu).map fun u => putI acc u (getI acc u + m) := by
                    unfold addPart
                    rw [e6]
                  cases e8 : readUnk pu with
                  | none =>
                    rw [e8] at hvu ea
                    obtain rfl : vu = .non := hvu
                    refine ⟨_, rfl, rfl, _, rfl, iteT (q _ _ ((sm1.trans sm2).trans ((s4.trans s5).trans s6)) ?_)⟩
                    rw [stop ea]
                    rfl
                  | some uu =>
                    rw [e8] at hvu ea
                    obtain ⟨au, rfl, hau⟩ := hvu
                    have hD6 : H6 D = some (.dT (vKv acc)) := s6 _ _ (s5 _ _ hD4)
                    refine ⟨_, rfl, rfl, _, rfl, iteF ?_⟩
                    refine ⟨_, rfl, D, rfl, .inr ⟨_, .inl hD6⟩, _, rfl, _, DGet.t hD6 hau, _, rfl, ix_row (row_sq s6 hc) (at2 1 _ rfl) ⟨getI acc uu, m, getD_val acc uu, rfl, ?_⟩⟩
                    have hi2 : i < ds.length := (List.getElem?_eq_some_iff.mp hdp).1
                    refine ⟨_, rfl, _, rfl, D, _, rfl, DPut.t hD6 hau (by
                      show (List.map _ acc).length < sizeLine
                      rw [List.length_map]
                      exact small1000 (by omega)), ?_⟩
                    rw [put_vKv]
                    refine ⟨_, _, _, rfl, fun b o e => ?_, upd_same, parts_more hdp hrp ea, putI_keys (hnu uu e8) hnm, Nat.le_trans (putI_len _ _ _) (by omega)⟩
                    rw [upd_ne (ne_of_none e hD)]
                    exact s6 _ _ (s5 _ _ (s4 _ _ e))
            · rintro σ H4 ⟨acc, p, u, rfl, s4, hD4, hrp, hnm, hal⟩
              rw [ly, List.take_length] at hrp
              rw [ly] at hal
              refine ⟨_, rfl, ix_row (row_sq s4 hs2) (at2 0 _ rfl) ⟨_, rfl, n, D, acc, rfl, hD4, hnm, by omega, fun v' H5 s5 hv => ?_⟩⟩
              refine q _ _ ((sm1.trans sm2).trans (s4.trans s5)) ?_
              rw [rs2, hrp]
              exact hv
end
end DR

namespace DR
open PySem PySem.Spec PyProof.Rows L2
/-! ### the order of unknowns -/
theorem data_tot {β : Type} (k : β → PyData) : PySem.W.TotalLe (PySem.W.dataLe false k) := by
  unfold PySem.W.dataLe
  exact PySem.W.sortLe_total _ _ _
theorem tot_or {β : Type} {r : β → β → Bool} (h : PySem.W.TotalLe r) (a b : β) : (r a b || r b a) = true := by
  rcases h.total a b with h | h
  · rw [h]
    rfl
  · rw [h, Bool.or_true]
theorem le2_trans : ∀ a b c, le2 a b = true → le2 b c = true → le2 a c = true := (data_tot keyD).trans
theorem le2_total : ∀ a b, (le2 a b || le2 b a) = true := tot_or (data_tot keyD)
theorem str_lt_irr (z : Str) : ¬ z.cps.toList < z.cps.toList := List.lt_irrefl _
theorem str_anti {z z' : Str} (h1 : ¬ z.cps.toList < z'.cps.toList) (h2 : ¬ z'.cps.toList < z.cps.toList) : z = z' := by
  have e : z.cps.toList = z'.cps.toList := List.le_antisymm (List.not_lt.mp h2) (List.not_lt.mp h1)
  obtain ⟨⟨l⟩⟩ := z
  obtain ⟨⟨l'⟩⟩ := z'
  have e' : l = l' := e
  rw [e']
/-- what is not less either way is the same -/
theorem toks_same {a b : PyData} (h1 : PySem.W.dataLt a b = false) (h2 : PySem.W.dataLt b a = false) : PySem.W.keyToks a = PySem.W.keyToks b := lex_total (O := itemOrd) _ _ h1 h2
theorem kD_toks {o o' : Key} {l m : List (Int ⊕ List Nat)} (h : PySem.W.keyToks (kD o) ++ l = PySem.W.keyToks (kD o') ++ m) : o = o' := by
  cases o with
  | inl i =>
    cases o' with
    | inl j =>
      have e := (List.cons.inj (show Sum.inl i :: l = Sum.inl j :: m from h)).1
      rw [Sum.inl.inj e]
    | inr z => exact nomatch (List.cons.inj (show (Sum.inl i : Int ⊕ List Nat) :: l = Sum.inr z.cps.toList :: m from h)).1
  | inr z =>
    cases o' with
    | inl j => exact nomatch (List.cons.inj (show (Sum.inr z.cps.toList : Int ⊕ List Nat) :: l = Sum.inl j :: m from h)).1
    | inr z' =>
      have e := (List.cons.inj (show Sum.inr z.cps.toList :: l = Sum.inr z'.cps.toList :: m from h)).1
      rw [PySem.W.str_of_cps (Sum.inr.inj e)]
theorem key_inj {a b : List Key} (ha : NmU a) (hb : NmU b) (h : PySem.W.keyToks (keyD a) = PySem.W.keyToks (keyD b)) : a = b := by
  obtain ⟨k, o, rfl, h1, _⟩ := ha
  obtain ⟨k', o', rfl, h1', _⟩ := hb
  rw [keyD_is, keyD_is] at h
  have h' : (Sum.inl 1 :: Sum.inl ((rank k).getD 0) :: Sum.inl 1 :: (PySem.W.keyToks (kD o) ++ [Sum.inl 0]) : List (Int ⊕ List Nat)) = Sum.inl 1 :: Sum.inl ((rank k').getD 0) :: Sum.inl 1 :: (PySem.W.keyToks (kD o') ++ [Sum.inl 0]) := by
    have := h
    simp only [PySem.W.keyToks, PySem.W.keyToksAll, List.cons_append, List.nil_append] at this
    exact this
  have e1 := (List.cons.inj (List.cons.inj h').2).1
  have e2 := (List.cons.inj (List.cons.inj (List.cons.inj h').2).2).2
  rw [rank_inj h1 h1' (Sum.inl.inj e1), kD_toks e2]
theorem le2_def (a b : List Key) : le2 a b = !PySem.W.dataLt (keyD b) (keyD a) := rfl
theorem le2_anti : ∀ a b, NmU a → NmU b → le2 a b = true → le2 b a = true → a = b := by
  intro a b ha hb h1 h2
  rw [le2_def, Bool.not_eq_true'] at h1 h2
  exact key_inj ha hb (toks_same h2 h1)
/-! ### sums as sums over their parts -/
/-- the parts' worth, each unknown worth F of it -/
def lin (F : List Key → Int) : Mul → Int
  | [] => 0
  | p :: l => p.2 * F p.1 + lin F l
theorem lin_app (F : List Key → Int) : ∀ l m : Mul, lin F (l ++ m) = lin F l + lin F m
  | [], m => by simp [lin]
  | p :: l, m => by
    show p.2 * F p.1 + lin F (l ++ m) = _
    rw [lin_app F l m]
    simp only [lin]
    omega
def NodK (l : Mul) : Prop := (l.map (·.1)).Nodup
theorem getI_nil (u : List Key) : getI [] u = 0 := rfl
theorem getI_cons (p : List Key × Int) (l : Mul) (u : List Key) : getI (p :: l) u = if p.1 = u then p.2 else getI l u := by
  unfold getI
  rw [List.find?_cons]
  by_cases h : p.1 = u
  · simp [h]
  · simp [h]
theorem getI_not {l : Mul} {u : List Key} (h : u ∉ l.map (·.1)) : getI l u = 0 := by
  induction l with
  | nil => rfl
  | cons p l ih =>
    rw [List.map_cons, List.mem_cons, not_or] at h
    rw [getI_cons, if_neg fun e => h.1 e.symm]
    exact ih h.2
theorem any_key {l : Mul} {u : List Key} : (l.any fun kv => decide (kv.1 = u)) = true ↔ u ∈ l.map (·.1) := by
  rw [List.any_eq_true, List.mem_map]
  constructor
  · rintro ⟨p, hp, e⟩
    exact ⟨p, hp, of_decide_eq_true e⟩
  · rintro ⟨p, hp, e⟩
    exact ⟨p, hp, decide_eq_true e⟩
theorem map_not {l : Mul} {u : List Key} (m : Int) (h : u ∉ l.map (·.1)) : l.map (fun kv => if kv.1 = u then (kv.1, m) else kv) = l := by
  induction l with
  | nil => rfl
  | cons p l ih =>
    rw [List.map_cons, List.mem_cons, not_or] at h
    rw [List.map_cons, ih h.2, if_neg fun e => h.1 e.symm]
theorem putI_in {l : Mul} {u : List Key} (m : Int) (h : u ∈ l.map (·.1)) : (putI l u m).map (·.1) = l.map (·.1) := by
  unfold putI
  rw [if_pos (any_key.mpr h), List.map_map]
  apply List.map_congr_left
  intro p _
  show (if p.1 = u then (p.1, m) else p).1 = p.1
  split <;> rfl
theorem putI_out {l : Mul} {u : List Key} (m : Int) (h : u ∉ l.map (·.1)) : putI l u m = l ++ [(u, m)] := by
  unfold putI
  rw [if_neg (fun z => h (any_key.mp z))]
theorem nodK_put {l : Mul} (h : NodK l) (u : List Key) (m : Int) : NodK (putI l u m) := by
  unfold NodK
  cases Classical.em (u ∈ l.map (·.1)) with
  | inl z =>
    rw [putI_in m z]
    exact h
  | inr z =>
    rw [putI_out m z, List.map_append]
    refine List.nodup_append.mpr ⟨h, (by simp), fun a ha b hb e => ?_⟩
    have hb' : b = u := by simpa using hb
    exact z (hb' ▸ e ▸ ha)
theorem lin_map {F : List Key → Int} {u : List Key} {m : Int} : ∀ {l : Mul}, NodK l → u ∈ l.map (·.1) → lin F (l.map (fun kv => if kv.1 = u then (kv.1, m) else kv)) = lin F l + (m - getI l u) * F u
  | [], _, h => by simp at h
  | p :: l, nd, h => by
    have nd' := List.nodup_cons.mp (show (p.1 :: l.map (·.1)).Nodup from nd)
    rw [List.map_cons]
    by_cases c : p.1 = u
    · rw [if_pos c, map_not m (c ▸ nd'.1), getI_cons, if_pos c]
      show m * F p.1 + lin F l = p.2 * F p.1 + lin F l + _
      rw [c, Int.sub_mul]
      omega
    · have h2 : u ∈ l.map (·.1) := by
        rcases List.mem_cons.mp h with z | z
        · exact absurd z.symm c
        · exact z
      rw [if_neg c, getI_cons, if_neg c]
      show p.2 * F p.1 + lin F _ = p.2 * F p.1 + lin F l + _
      rw [lin_map nd'.2 h2]
      omega
theorem lin_put {F : List Key → Int} {l : Mul} (nd : NodK l) (u : List Key) (m : Int) : lin F (putI l u (getI l u + m)) = lin F l + m * F u := by
  unfold putI
  by_cases h : u ∈ l.map (·.1)
  · rw [if_pos (any_key.mpr h), lin_map nd h]
    have e : getI l u + m - getI l u = m := by omega
    rw [e]
  · rw [if_neg (fun z => h (any_key.mp z)), lin_app, getI_not h]
    simp [lin]
/-- whether it is v -/
def isU (v : List Key) (u : List Key) : Int := if u = v then 1 else 0
theorem getI_lin {l : Mul} (nd : NodK l) (v : List Key) : getI l v = lin (isU v) l := by
  induction l with
  | nil => rfl
  | cons p l ih =>
    have nd' := List.nodup_cons.mp (show (p.1 :: l.map (·.1)).Nodup from nd)
    rw [getI_cons]
    show _ = p.2 * isU v p.1 + lin (isU v) l
    rw [← ih nd'.2]
    unfold isU
    by_cases c : p.1 = v
    · rw [if_pos c, if_pos c, getI_not (c ▸ nd'.1)]
      omega
    · rw [if_neg c, if_neg c]
      omega
theorem lin_perm {F : List Key → Int} {l m : Mul} (h : l.Perm m) : lin F l = lin F m := by
  induction h with
  | nil => rfl
  | cons x _ ih => simp only [lin, ih]
  | swap x y l =>
    simp only [lin]
    omega
  | trans _ _ i1 i2 => exact i1.trans i2
theorem lin_keys {F : List Key → Int} (g : List Key → Int) : ∀ us : List (List Key), lin F ((us.filter fun u => !decide (g u = 0)).map fun u => (u, g u)) = lin F (us.map fun u => (u, g u))
  | [] => rfl
  | u :: us => by
    rw [List.filter_cons, List.map_cons]
    show _ = g u * F u + lin F _
    rw [← lin_keys g us]
    by_cases c : g u = 0
    · simp [c]
    · simp [c, lin]
theorem lin_self {F : List Key → Int} : ∀ {l : Mul}, NodK l → (l.map (·.1)).map (fun u => (u, getI l u)) = l
  | [], _ => rfl
  | p :: l, nd => by
    have nd' := List.nodup_cons.mp (show (p.1 :: l.map (·.1)).Nodup from nd)
    rw [List.map_cons, List.map_cons, getI_cons, if_pos rfl]
    refine congrArg (p :: ·) (Eq.trans ?_ (lin_self (F := F) nd'.2))
    apply List.map_congr_left
    intro u hu
    rw [getI_cons, if_neg]
    intro e
    exact nd'.1 (e ▸ hu)
theorem lin_form {F : List Key → Int} {l : Mul} (nd : NodK l) : lin F (form l) = lin F l := by
  unfold form
  rw [lin_perm ((List.mergeSort_perm (keysN l) le2).map fun u => (u, getI l u))]
  unfold keysN
  rw [lin_keys (getI l), lin_self (F := F) nd]
theorem keysN_mem {l : Mul} {u : List Key} : u ∈ keysN l ↔ getI l u ≠ 0 := by
  unfold keysN
  rw [List.mem_filter]
  constructor
  · rintro ⟨_, h⟩ e
    simp [e] at h
  · intro h
    refine ⟨?_, by simp [h]⟩
    cases Classical.em (u ∈ l.map (·.1)) with
    | inl z => exact z
    | inr z => exact absurd (getI_not z) h
theorem keysN_nod {l : Mul} (nd : NodK l) : (keysN l).Nodup := List.Nodup.sublist List.filter_sublist nd
def NmK (l : Mul) : Prop := ∀ u ∈ l.map (·.1), NmU u
theorem keysN_nm {l : Mul} (h : NmK l) : ∀ u ∈ keysN l, NmU u := fun u hu => h u (List.mem_filter.mp hu).1
/-- a row of unknowns in order is the one in order -/
theorem sort_one {us vs : List (List Key)} (h : ∀ u ∈ us, NmU u) (p : us.Perm vs) (o : us.Pairwise fun a b => le2 a b = true) : vs.mergeSort le2 = us := by
  have pm : us.Perm (vs.mergeSort le2) := p.trans (List.mergeSort_perm vs le2).symm
  have o2 : (vs.mergeSort le2).Pairwise fun a b => le2 a b = true := List.pairwise_mergeSort le2_trans le2_total vs
  exact (pm.eq_of_pairwise (fun a b ha hb h1 h2 => le2_anti a b (h a ha) (h b (pm.mem_iff.mpr hb)) h1 h2) o o2).symm
theorem form_eq {l m : Mul} (nl : NodK l) (nm : NodK m) (kl : NmK l) (e : ∀ u, getI l u = getI m u) : form l = form m := by
  have hp : (keysN l).Perm (keysN m) := (List.perm_ext_iff_of_nodup (keysN_nod nl) (keysN_nod nm)).mpr fun u => by rw [keysN_mem, keysN_mem, e u]
  have q : (keysN m).mergeSort le2 = (keysN l).mergeSort le2 := by
    refine sort_one (fun u hu => keysN_nm kl u ((List.mergeSort_perm _ _).mem_iff.mp hu)) ((List.mergeSort_perm _ _).trans hp) ?_
    exact List.pairwise_mergeSort le2_trans le2_total _
  unfold form
  rw [q]
  apply List.map_congr_left
  intro u _
  rw [e u]
/-! ### parts added -/
/-- one part added -/
def addP (kvs : Mul) (u : List Key) (m : Int) : Mul := putI kvs u (getI kvs u + m)
theorem addP_keys {l : Mul} {u : List Key} {m : Int} {Pr : List Key → Prop} (h : ∀ x ∈ l.map (·.1), Pr x) (hu : Pr u) : ∀ x ∈ (addP l u m).map (·.1), Pr x := by
  unfold addP
  intro x hx
  cases Classical.em (u ∈ l.map (·.1)) with
  | inl z =>
    rw [putI_in _ z] at hx
    exact h x hx
  | inr z =>
    rw [putI_out _ z, List.map_append] at hx
    rcases List.mem_append.mp hx with hx | hx
    · exact h x hx
    · have e : x = u := by simpa using hx
      rw [e]
      exact hu
theorem addP_len (l : Mul) (u : List Key) (m : Int) : (addP l u m).length ≤ l.length + 1 := putI_len _ _ _
/-- the parts of a sum, added up -/
def accAll (l : Mul) : Mul := l.foldl (fun a q => addP a q.1 q.2) []
theorem acc_go : ∀ (l s : Mul), NodK s → NodK (l.foldl (fun a q => addP a q.1 q.2) s) ∧ ∀ F, lin F (l.foldl (fun a q => addP a q.1 q.2) s) = lin F s + lin F l
  | [], s, nd => ⟨nd, fun F => by simp [lin]⟩
  | q :: l, s, nd => by
    rw [List.foldl_cons]
    obtain ⟨h1, h2⟩ := acc_go l (addP s q.1 q.2) (nodK_put nd _ _)
    refine ⟨h1, fun F => ?_⟩
    rw [h2 F]
    unfold addP
    rw [lin_put nd]
    simp only [lin]
    omega
theorem acc_lin (l : Mul) (F : List Key → Int) : lin F (form (accAll l)) = lin F l := by
  obtain ⟨h1, h2⟩ := acc_go l [] List.nodup_nil
  unfold accAll
  rw [lin_form h1, h2]
  simp [lin]
end DR

namespace DR
open PySem PySem.Spec PyProof.Rows L2
/-! ### own errors of one field -/
/-- __init__ stores its argument under f -/
def spErrInit (K : PySem.W.Frag) (C : Addr) (f : Str) : Sp := fun vs H Q _ => ∃ a y, vs = [.ref a, y] ∧ H a = some (exo a C none) ∧ ∀ dx, H dx = none → dx ≠ a → Q .non (upd (upd H dx (exd dx [(f, y)])) a (exo a C (some dx)))
/-- what is known of such a class x at C -/
structure Err (P : Program) (w : World) (K : PySem.W.Frag) (mg : Str → Option Value) (base : Heap) (x : Str) (C : Addr) (f : Str) : Prop where
  g : mg x = some (.ref C)
  T : OexC K C
  no : PySem.W.findIn K (.ref C) f = some none
  xf : XfC K C
  te : PySem.W.exmOne K (.ref C) (.ref C) = some true
  ini : ∃ (fI : Addr) (fd : FuncData) (p2 : Str), PySem.W.findIn K (.ref C) "__init__" = some (some (.ref fI)) ∧ PySem.W.typeIn K (.ref fI) = some (.type "function") ∧ Binds K fd ["self", p2] [] ∧ FnOk P w K mg base CX0 1 fI fd ["self", p2] (spErrInit K C f)
theorem err_go {K : PySem.W.Frag} {C : Addr} {f : Str} {y : V} {H1 : Hp} {Q : XK} (q : ∀ dx, H1 dx = none → Q (.ref C) (some dx) (upd H1 dx (.xd [(f, y)]))) :
    [y].length ≤ 1000 ∧ ∀ a, H1 a = none → spErrInit K C f (.ref a :: ([y] ++ [])) (upd H1 a (exo a C none)) (fun v H2 => v = .non ∧ ∃ (d : Addr) (fs : List (Str × V)), H2 a = some (exo a C (some d)) ∧ H2 d = some (exd d fs) ∧ H1 d = none ∧ Q (.ref C) (some d) (upd (del H2 a) d (.xd fs))) (fun _ _ _ => False) := by
  refine ⟨(by show 1 ≤ 1000; decide), fun a ha => ⟨a, y, rfl, upd_same, fun dx hdx hne => ⟨rfl, dx, [(f, y)], upd_same, ?_, ?_, ?_⟩⟩⟩
  · rw [upd_ne hne, upd_same]
  · rw [upd_ne hne] at hdx
    exact hdx
  · have h1 : H1 dx = none := by
      rw [upd_ne hne] at hdx
      exact hdx
    have e : upd (del (upd (upd (upd H1 a (exo a C none)) dx (exd dx [(f, y)])) a (exo a C (some dx))) a) dx (.xd [(f, y)]) = upd H1 dx (.xd [(f, y)]) := by
      funext b
      by_cases hb : b = dx
      · rw [hb, upd_same, upd_same]
      · rw [upd_ne hb, upd_ne hb]
        by_cases hb2 : b = a
        · rw [hb2, del_same, ha]
        · rw [del_ne hb2, upd_ne hb2, upd_ne hb, upd_ne hb2]
    rw [e]
    exact q dx h1
def tRaise1 (K : PySem.W.Frag) (C : Addr) (f : Str) (te : TE) (W : WX) : TS := fun _ σ H => tMkO C (spErrInit K C f) [] (tCons te tNil) σ H fun cls d H' => W cls d σ H'
theorem ps_err {X : Cx} {W : WX} {x f : Str} {C : Addr} {e : Expr} {te : TE} {p pos pos2 : Pos} {k : Nat} (hc : X.calm = true) (tk : Takes X W) (T : Err X.prog X.w X.K X.mg X.base x C f) (hr : Room k X.A) (h2 : 2 ≤ k) (he : PE X e te) (hg : Gl X x := by rfl)
    (hdb : (x == ("__debug__" : Str)) = false := by decide) (hs : starEach (e :: []) X.env = (false, eval e X.env) :: starEach [] X.env := by rfl) (hpl : (backTo pos (starEach [] X.env)).any (·.1) = false := by rfl) :
    PS X (.Raise (some (.Call (.Name x p) [e] [] pos)) none pos2) (tRaise1 X.K C f te W) := by
  obtain ⟨fI, fd, p2, iC, tI, hb, F⟩ := T.ini
  exact ps_raise (pos := pos2) hc tk (pmk_oex (p := p) (pos := pos) T.T iC tI F (hr.mono h2) hb .nil pass0 hg T.g (pa_cons he pa_nil hs) hdb hs hpl)
end DR

namespace DR
open PySem PySem.Spec PyProof.Rows L2
/-! ### dict comprehensions whose keys are tuples -/
/-- the heap behind D[y] = z, y a tuple -/
def PutT (D : Addr) (y z : V) (Ha Hb : Hp) : Prop := ∃ (ks : List (List Key × V)) (u : List Key) (b : Addr), Ha D = some (.dT ks) ∧ y = .ref b ∧ Ha b = some (.tup (u.map kV)) ∧ ks.length < sizeLine ∧ Hb = upd Ha D (.dT (putK ks u z))
theorem run_putT {X : Cx} {pn : List (Addr × Obj)} {σ : L2.St} {Ha Hb : Hp} {s : Shared} {Er : Value → Shared → Prop} {D : Addr} {y z : V} {vy vz : Value} {Fi : Unit → Shared → Prop} (hu : X.A.units + 1 < cLine) (I : Inv X pn σ Ha s) (g : PutT D y z Ha Hb)
    (r1 : L2.RelV y vy) (r2 : L2.RelV z vz) (go : ∀ s', Inv X pn σ Hb s' → Fi () s') : wpAny (model X.prog X.w) X.A (dictSet D vy vz) Fi Er s := by
  obtain ⟨ks, u, b, hD, rfl, hb, few, rfl⟩ := g
  obtain rfl : vy = Value.ref b := r1
  obtain ⟨size, notM, xs, pr, isD⟩ := dt_of I.hok hD
  have lx : xs.length ≤ sizeLine := (Paired.length pr) ▸ size
  have few2 : (putK ks u z).length ≤ sizeLine := Nat.le_trans (length_putK ks u z) few
  refine wpAny_dictSet_heap (hsz := lx) (show (tupleKind (mixKind X.prog X.w)).room X.A from Nat.lt_of_succ_lt hu) (key_of I.hok hb) isD fun g2 isD2 same => go _ ?_
  obtain ⟨ob, en, epo, i1, i2, i3, i4, _, i6⟩ := isD2
  have stays : ∀ c us, Ha c = some (.tup us) → upd Ha D (.dT (putK ks u z)) c = some (.tup us) := fun c us ec => by
    rw [upd_ne (ne_of ec hD (fun e => nomatch e))]
    exact ec
  exact d_write I (by rw [hD]; trivial) same ⟨ob, i1⟩ ⟨few2, notM, _, (pr.put u hb r2).keeps fun c us ec => stays c us ec, ob, en, epo, i1, i2, i3, i4, i6⟩
/-- one turn of such a comprehension -/
def turnT (g : TG) (tt : TT) (tk tv : TE) (σ0 : L2.St) (vs : List Nat) (D : Addr) (Nx : Hp → Prop) (x : V) (Ha : Hp) : Prop :=
  g x (wipe σ0 vs) Ha fun σ1 Hb => wipe σ1 vs = wipe σ0 vs ∧ tt σ1 Hb fun b Hc => if b = true then tk σ1 Hc fun y Hd => tv σ1 Hd fun z He => ∃ Hf, PutT D y z He Hf ∧ Nx Hf else Nx Hc
/-- what is asked of such a comprehension -/
def tDt (wi : TI) (g : TG) (tt : TT) (tk tv : TE) (vs : List Nat) : TE := fun σ H Q => wi σ H fun J Ha => ∀ D, Ha D = none → ∃ W : Nat → Nat → Hp → Prop, (∃ n, W 0 n (upd Ha D (.dT []))) ∧
  ∀ j n Hb, W j n Hb → (J.stop j Hb ∧ Q (.ref D) Hb) ∨ (J.go j Hb ∧ ∃ Nx : Hp → Prop, (∀ Hc, Nx Hc → ∃ n', n' < n ∧ W (j + 1) n' Hc) ∧ ∀ x Hc, J.yld j Hb x Hc → turnT g tt tk tv σ vs D Nx x Hc)
section
variable {X : Cx}
theorem run_dt {pn : List (Addr × Obj)} {s : Shared} {σ : L2.St} {H : Hp} {Q : VK} {ke ve tg src : Expr} {conds : List Expr} {sc : Scope} {own : List (Str × Nat)} {po po' : Pos} {wi : TI} {g : TG} {tt : TT} {tk tv : TE} {use : Option (Value → Sem Unit)} {Fi : Value → Shared → Prop}
    (hu : X.A.units + 1 < cLine) (calm : X.calm = true) (nod : X.N.Nodup) (I : Inv X pn σ H s) (walks : PI X tg src wi) (blk : BlkOk X.N X.env.scope sc own)
    (rg : ∀ (s : Shared) (H : Hp) (C : Addr) (cl : List (Str × Addr)) (fp : List Addr), PG (X.blk s H sc (compEnvC sc cl C X.env) fp) tg g) (rt : ∀ (s : Shared) (H : Hp) (C : Addr) (cl : List (Str × Addr)) (fp : List Addr), PTs (X.blk s H sc (compEnvC sc cl C X.env) fp) conds tt)
    (rk : ∀ (s : Shared) (H : Hp) (C : Addr) (cl : List (Str × Addr)) (fp : List Addr), PE (X.blk s H sc (compEnvC sc cl C X.env) fp) ke tk) (rv : ∀ (s : Shared) (H : Hp) (C : Addr) (cl : List (Str × Addr)) (fp : List Addr), PE (X.blk s H sc (compEnvC sc cl C X.env) fp) ve tv)
    (fold : ∀ x, foldedSetIterable src X.env x = pure x) (asks : tDt wi g tt tk tv (own.map (·.2)) σ H Q)
    (last : ∀ D C s' m H', Inv X pn σ H' s' → Q (.ref D) H' → s'.heap.Ns C m → FpOk X pn H' C → compPost (model X.prog X.w) X.A X.xe use Fi (.ref D) C (.ok .next) s') :
    wpAny (model X.prog X.w) X.A (comprehension (.DictComp ke ve [⟨tg, src, conds, 0⟩] sc po) sc X.env po' newDict false (eval src X.env) use) Fi X.xe s := by
  have freeOk : ∀ y ∈ sc.names, y.2 = .free → ∃ c, X.env.cells.lookup y.1 = some c := fun y hy e => (blk.free y hy e).elim (fun k => I.ok.has _ (.inl k)) fun k => I.ok.has _ (.inr k)
  refine wpAny_comprehension_free (use := use) rfl fold (closure_ok freeOk) blk.kind (fun y hy e => by rw [blk.uniq y hy, e]) (thn (walks.run pn s σ H _ I asks) fun _ sa ha => thn ha fun _ sb hb => ?_)
  obtain ⟨it, fp, tn, J, Hb, rfl, Ib, T, stb, fpb, q⟩ := hb
  refine wpAny_newObj_type (newEnv_comp ?_)
  -- the new dict
  have freeD : Hb sb.heap.objs.size = none := Ib.hok.fresh (Nat.le_refl _)
  obtain ⟨W, ⟨n0, w0⟩, turns⟩ := q _ freeD
  have Ic : Inv X pn σ (upd Hb sb.heap.objs.size (.dT [])) { sb with heap := sb.heap.push { cls := .type "dict", data := .dict #[] } } := Ib.laid (t' := sb.toks) (fun _ _ e => Heap.get?_push_of_some _ e) (Nat.le_refl _) (dt_empty sb.heap Ib.big)
  generalize eD : sb.heap.objs.size = D at freeD w0 turns Ic ⊢
  generalize ec : ({ sb with heap := sb.heap.push { cls := .type "dict", data := .dict #[] } } : Shared) = c at Ic
  have hc : c.heap = sb.heap.push { cls := .type "dict", data := .dict #[] } := by rw [← ec]
  have below : ∀ b ∈ fp, b < D := fun b hb => by
    obtain ⟨o, e, _⟩ := T.obj _ _ stb b hb
    rw [← eD]
    exact Heap.lt_size e
  generalize eH : upd Hb D (.dT []) = Hc at Ic w0
  have fpc : ∀ b ∈ fp, FpOk X pn Hc b ∧ b < c.heap.objs.size := fun b hb => by
    have lt := below b hb
    refine ⟨⟨?_, (fpb b hb).2⟩, ?_⟩
    · rw [← eH, upd_ne (Nat.ne_of_lt lt)]
      exact (fpb b hb).1
    · rw [hc, Heap.size_push, eD]
      exact Nat.lt_succ_of_lt lt
  have stc : tn 0 c.heap := T.keep _ _ _ stb fun b _ o e => by
    rw [hc]
    exact Heap.get?_push_of_some _ e
  have Id := block_start Ic blk nod fpc
  -- the block
  generalize eE : compEnvC sc (cellsFrom (c.heap.objs.size + 1) sc.names (cloFrom X.env.cells sc.names [])) c.heap.objs.size X.env = en at Id
  have pg : PG (X.blk c Hc sc en fp) tg g := eE ▸ rg c Hc _ _ fp
  have pt : PTs (X.blk c Hc sc en fp) conds tt := eE ▸ rt c Hc _ _ fp
  have pk : PE (X.blk c Hc sc en fp) ke tk := eE ▸ rk c Hc _ _ fp
  have pv' : PE (X.blk c Hc sc en fp) ve tv := eE ▸ rv c Hc _ _ fp
  have locs : en.locals = c.heap.objs.size := by rw [← eE]; rfl
  have quiet : ∀ b ∈ fp, Hc b = none := fun b hb => (fpc b hb).1.1
  generalize ed : ({ c with heap := pushCells (c.heap.push { cls := .type "dict", data := .dict #[] }) sc.names } : Shared) = d at Id
  have std : tn 0 d.heap := T.keep _ _ _ stc fun b _ o e => by
    rw [← ed]
    exact pushCells_keeps _ _ _ _ (Heap.get?_push_of_some _ e)
  have fpIn : ∀ {σ' : L2.St} {H' : Hp} {s' : Shared}, Inv (X.blk c Hc sc en fp) [] σ' H' s' → (∀ b ∈ fp, H' b = none) → ∀ b ∈ fp, FpOk (X.blk c Hc sc en fp) [] H' b := fun I' q b hb =>
    ⟨q b hb, (I'.ok.exf b hb).1, I'.ok.exfs b hb, .inl hb, fun x y e => (I'.ok.exf b hb).2 x y e, fun p hp => absurd (show p ∈ ([] : List (Addr × Obj)) ++ [] from hp) (by simp)⟩
  have goes : codeAny (model X.prog X.w) X.A (.compLoop (.DictComp ke ve [⟨tg, src, conds, 0⟩] sc po) 0 (.ref it) (.ref D) en) (compPost (model X.prog X.w) X.A X.xe use Fi (.ref D) c.heap.objs.size) d := by
    refine compLoop_anyD (fun n s' => ∃ j H', Inv (X.blk c Hc sc en fp) [] (wipe σ (own.map (·.2))) H' s' ∧ tn j s'.heap ∧ (∀ b ∈ fp, H' b = none) ∧ W j n H') (fun n s5 hs5 => ?_) n0 ⟨0, Hc, Id, std, quiet, w0⟩
    obtain ⟨j, H5, I5, st5, n5, w5⟩ := hs5
    rcases turns j n H5 w5 with ⟨over, qq⟩ | ⟨on, Nx, next, step⟩
    · refine thnF (T.done (X.blk c Hc sc en fp) rfl rfl rfl calm j [] s5 _ H5 (fun _ _ => False) I5 (fpIn I5 n5) st5 over) fun r s6 h6 => ?_
      obtain ⟨rfl, I6⟩ := h6
      have outer : Inv X pn σ H5 s6 := Ic.call' (ch := fp) I6.os I6.base I6.hok I6.bare fun b hb => by
        obtain ⟨⟨k0, k1, k2, k3, k4, k5⟩, _⟩ := fpc b hb
        exact ⟨k3, k1, k4, k5⟩
      have nL : H5 c.heap.objs.size = none := by
        rw [← locs]
        exact I6.free
      obtain ⟨m, hm, _⟩ := I6.loc
      have hm' : s6.heap.Ns c.heap.objs.size m := by
        rw [← locs]
        exact hm
      exact last D _ s6 m H5 outer qq hm' (Ic.fpOk (Nat.le_refl _) nL)
    · refine thnF (T.item (X.blk c Hc sc en fp) rfl rfl rfl calm j [] s5 _ H5 (fun _ _ => False) I5 (fpIn I5 n5) st5 on) fun r s6 h6 => ?_
      obtain ⟨u, rfl, h6⟩ := h6
      refine thnF h6 fun _ s7 h7 => ?_
      obtain ⟨x, H7, I7, r7, y7, st7, n7⟩ := h7
      refine thnF (pg.run _ s7 _ H7 x u _ (I7.pinned (fpIn I7 n7) (T.obj _ _ st7)) r7 (step x H7 y7)) fun _ s8 h8 => ?_
      obtain ⟨σ8, H8, I8, wip, q8⟩ := h8
      have over : ∀ {s' : Shared} {H' : Hp}, Inv (X.blk c Hc sc en fp) ([] ++ pinsAt fp s7.heap) σ8 H' s' → Nx H' → ∃ m, m < n ∧ ∃ j H', Inv (X.blk c Hc sc en fp) [] (wipe σ (own.map (·.2))) H' s' ∧ tn j s'.heap ∧ (∀ b ∈ fp, H' b = none) ∧ W j m H' := by
        intro s' H' I' nx
        obtain ⟨m', lt, w'⟩ := next H' nx
        have pinned : ∀ b ∈ fp, ∀ o, s7.heap.get? b = some o → s'.heap.get? b = some o ∧ H' b = none := fun b hb o e => by
          have z := I'.pin (b, o) (List.mem_append_right _ (List.mem_append_right _ (mem_pinsAt hb e)))
          exact ⟨z.1, z.2.1⟩
        refine ⟨m', lt, j + 1, H', (I'.unpinned (pins := [])).weak ?_ ?_, T.keep _ _ _ st7 fun b hb o e => (pinned b hb o e).1, fun b hb => ?_, w'⟩
        · rw [← wip, wipe_length]
        · intro i v e
          rw [← wip] at e
          exact (wipe_some e).1
        · obtain ⟨o, e, _⟩ := T.obj _ _ st7 b hb
          exact (pinned b hb o e).2
      refine thnF (pt.run _ s8 σ8 H8 _ I8 q8) fun b s9 h9 => ?_
      obtain ⟨H9, I9, q9⟩ := h9
      cases b with
      | false =>
        rw [if_neg Bool.false_ne_true] at q9 ⊢
        exact over I9 q9
      | true =>
        rw [if_pos rfl] at q9 ⊢
        refine thnF (pk.run _ s9 σ8 H9 _ I9 q9) fun _ s10 h10 => ?_
        obtain ⟨yk, H10, I10, r10, q10⟩ := h10
        refine thnF (pv'.run _ s10 σ8 H10 _ I10 q10) fun _ s11 h11 => ?_
        obtain ⟨yv, H11, I11, r11, Hf, put, nx⟩ := h11
        exact run_putT (X := X.blk c Hc sc en fp) hu I11 put r10 r11 fun s12 I12 => over I12 nx
  subst eE
  exact codeAny_compStart_dict goes (T.self X.A 0 _ _ _ std goes)
/-- such a comprehension as a value -/
theorem pe_dt {ke ve tg src : Expr} {conds : List Expr} {sc : Scope} {own : List (Str × Nat)} {po : Pos} {wi : TI} {g : TG} {tt : TT} {tk tv : TE} (hu : X.A.units + 1 < cLine) (calm : X.calm = true) (nod : X.N.Nodup) (walks : PI X tg src wi) (blk : BlkOk X.N X.env.scope sc own)
    (rg : ∀ (s : Shared) (H : Hp) (C : Addr) (cl : List (Str × Addr)) (fp : List Addr), PG (X.blk s H sc (compEnvC sc cl C X.env) fp) tg g) (rt : ∀ (s : Shared) (H : Hp) (C : Addr) (cl : List (Str × Addr)) (fp : List Addr), PTs (X.blk s H sc (compEnvC sc cl C X.env) fp) conds tt)
    (rk : ∀ (s : Shared) (H : Hp) (C : Addr) (cl : List (Str × Addr)) (fp : List Addr), PE (X.blk s H sc (compEnvC sc cl C X.env) fp) ke tk) (rv : ∀ (s : Shared) (H : Hp) (C : Addr) (cl : List (Str × Addr)) (fp : List Addr), PE (X.blk s H sc (compEnvC sc cl C X.env) fp) ve tv)
    (fold : ∀ x, foldedSetIterable src X.env x = pure x := by intro _; rfl) : PE X (.DictComp ke ve [⟨tg, src, conds, 0⟩] sc po) (tDt wi g tt tk tv (own.map (·.2))) := by
  constructor
  intro pn s σ H Q I asks
  rw [arm_eval_DictComp]
  refine run_dt hu calm nod I walks blk rg rt rk rv fold asks fun D C s' m H' I' q hm f => ⟨m, hm, fun g2 sb => ?_⟩
  obtain ⟨k0, k1, k2, k3, k4, k5⟩ := f
  exact ⟨.ref D, H', I'.turned (t' := s'.toks) (fun b o hb e => (sb.2 b hb).trans e) k0 k1 k3 k4 k5, rfl, q⟩
end
/-- over any walk -/
theorem dt_it {J : It} {n : Nat} {G : Hp → Prop} {Y : Nat → Hp → V → Hp → Prop} (w : Walk J n G Y) {g : TG} {tt : TT} {tk tv : TE} {vs : List Nat} {σ : L2.St} {Ha : Hp} {D : Addr} {Qd : Hp → Prop} (Pv : Nat → Hp → Prop) (zero : Pv 0 (upd Ha D (.dT []))) (stand : ∀ i H, i ≤ n → Pv i H → G H)
    (turn : ∀ i x H H', i < n → Pv i H → Y i H x H' → turnT g tt tk tv σ vs D (Pv (i + 1)) x H') (last : ∀ H, Pv n H → Qd H) :
    ∃ W : Nat → Nat → Hp → Prop, (∃ m, W 0 m (upd Ha D (.dT []))) ∧ ∀ j m Hb, W j m Hb → (J.stop j Hb ∧ Qd Hb) ∨ (J.go j Hb ∧ ∃ Nx : Hp → Prop, (∀ Hc, Nx Hc → ∃ n', n' < m ∧ W (j + 1) n' Hc) ∧ ∀ x Hc, J.yld j Hb x Hc → turnT g tt tk tv σ vs D Nx x Hc) := by
  refine ⟨fun j m Hb => m = n - j ∧ j ≤ n ∧ Pv j Hb, ⟨n, rfl, Nat.zero_le _, zero⟩, ?_⟩
  rintro j m Hb ⟨rfl, le, p⟩
  have q := stand j Hb le p
  rcases Nat.lt_or_eq_of_le le with lt | rfl
  · exact .inr ⟨w.goes j Hb lt q, Pv (j + 1), fun Hc p' => ⟨n - (j + 1), by omega, rfl, lt, p'⟩, fun x Hc y => turn j x Hb Hc lt p (w.yields j Hb x Hc lt q y)⟩
  · exact .inl ⟨w.stops Hb q, last Hb p⟩
end DR

namespace DR
open PySem PySem.Spec PyProof.Rows L2
/-- y = {k: v for ..}, the keys tuples, y a local name -/
theorem ps_setDt {X : Cx} {i : Nat} {y : Str} {py : Pos} {ke ve tg src : Expr} {conds : List Expr} {sc : Scope} {own : List (Str × Nat)} {po spo : Pos} {wi : TI} {g : TG} {tt : TT} {tk tv : TE} (hu : X.A.units + 1 < cLine) (calm : X.calm = true) (nod : X.N.Nodup) (slot : X.N[i]? = some y) (isLoc : X.env.scope.names.lookup y = some .local)
    (sw : swapsWith (.DictComp ke ve [⟨tg, src, conds, 0⟩] sc po) (some (.Name y py)) spo.line X.env = pure true) (walks : PI X tg src wi) (blk : BlkOk X.N X.env.scope sc own)
    (rg : ∀ (s : Shared) (H : Hp) (C : Addr) (cl : List (Str × Addr)) (fp : List Addr), PG (X.blk s H sc (compEnvC sc cl C X.env) fp) tg g) (rt : ∀ (s : Shared) (H : Hp) (C : Addr) (cl : List (Str × Addr)) (fp : List Addr), PTs (X.blk s H sc (compEnvC sc cl C X.env) fp) conds tt)
    (rk : ∀ (s : Shared) (H : Hp) (C : Addr) (cl : List (Str × Addr)) (fp : List Addr), PE (X.blk s H sc (compEnvC sc cl C X.env) fp) ke tk) (rv : ∀ (s : Shared) (H : Hp) (C : Addr) (cl : List (Str × Addr)) (fp : List Addr), PE (X.blk s H sc (compEnvC sc cl C X.env) fp) ve tv)
    (fold : ∀ x, foldedSetIterable src X.env x = pure x := by intro _; rfl) : PS X (.Assign [.Name y py] (.DictComp ke ve [⟨tg, src, conds, 0⟩] sc po) spo) (tAsg (tDt wi g tt tk tv (own.map (·.2))) (gName i)) := by
  constructor
  intro pn s σ H D I want
  rw [exec_Assign_Name_used _ _ _ _ sw]
  refine wpAny_bind (wpAny_standAt (wpAny_bind ?_))
  show wpAny _ X.A (do let _ ← comprehension (.DictComp ke ve [⟨tg, src, conds, 0⟩] sc po) sc X.env (firstIterPos [⟨tg, src, conds, 0⟩] po) newDict false (eval src X.env) (some (assign (.Name y py) X.env))) _ _ s
  have want' : tDt wi g tt tk tv (own.map (·.2)) σ H (fun x H1 => gName i x σ H1 D.nx) := want
  refine wpAny_bind (thn (run_dt (Fi := fun _ s' => SP X pn D .next s') hu calm nod I walks blk rg rt rk rv fold want' fun L C s' m H' I' q hn ff => ?_) fun _ s' hq => wpAny_pure (wpAny_pure hq))
  show wpAny _ _ (assign (.Name y py) X.env (.ref L)) _ _ _
  refine wpAny_assign_Name (store_ok2 (v := V.ref L) I' nod slot (.inl isLoc) rfl (fun s2 I2 there => ?_) (.inr isLoc))
  obtain ⟨a, sb, ha⟩ := there
  have ⟨u0, u1, u2, u3, u4, u5⟩ := ff
  have apart : C ≠ a := by
    rcases ha with z | z
    · exact fun e => u1 (e.trans z)
    · exact fun e => u4 y a z e.symm
  exact ⟨m, hn.sameBut sb apart, fun h3 sb3 => ⟨_, H', I2.turned (t' := s2.toks) (fun b o hb e => (sb3.2 b hb).trans e) u0 u1 u3 u4 u5, q⟩⟩
theorem sw_dt {ke ve : Expr} {gs : List Comprehension} {sc : Scope} {po py : Pos} {y : Str} {l : Nat} {env : Env} (isF : env.scope.kind = .function) (isL : env.scope.names.lookup y = some .local) (line : (py.line == po.line) = true)
    (not : (sc.names.any fun (n, k) => n == y && (k == .local || k == .cell)) = false) : swapsWith (.DictComp ke ve gs sc po) (some (.Name y py)) l env = pure true := by
  have k1 : env.kindOf y = some .local := isL
  have k2 : env.blockKind = .function := by
    unfold Env.blockKind
    rw [isF]
    rfl
  unfold swapsWith
  simp only [k2, k1, not, Expr.pos, line]
  rfl
end DR

namespace DR
open PySem PySem.Spec PyProof.Rows L2
/-! ### products of great numbers -/
def Sz (i : Int) : Prop := i.natAbs < 2 ^ 200
theorem sz_mul {i j : Int} (a : Sz i) (b : Sz j) : IntMulOk i j := .of_le (intBits_le_iff.mpr a) (intBits_le_iff.mpr b) (by decide)
theorem op_mulS {X : Cx} : OpR X (binaryOp .Mult) (rI (fun i j => Sz i ∧ Sz j) fun i j => .int (i * j)) := opI fun _ _ _ _ _ _ _ hc q => mul_int q (sz_mul hc.1 hc.2)
/-! ### sums of the program -/
def plusA (l m : Mul) : Mul := m.foldl (fun a q => addP a q.1 q.2) l
theorem vKv_len (l : Mul) : (vKv l).length = l.length := List.length_map ..
theorem plusA_len : ∀ (m l : Mul), (plusA l m).length ≤ l.length + m.length
  | [], l => Nat.le_refl _
  | q :: m, l => by
    show (plusA (addP l q.1 q.2) m).length ≤ _
    refine Nat.le_trans (plusA_len m _) ?_
    have := addP_len l q.1 q.2
    rw [List.length_cons]
    omega
theorem plusA_nm : ∀ {m l : Mul}, (∀ u ∈ m.map (·.1), NmU u) → (∀ u ∈ l.map (·.1), NmU u) → ∀ u ∈ (plusA l m).map (·.1), NmU u
  | [], l, _, h => h
  | q :: m, l, hm, h => by
    show ∀ u ∈ (plusA (addP l q.1 q.2) m).map (·.1), NmU u
    exact plusA_nm (fun u hu => hm u (List.mem_cons_of_mem _ hu)) (addP_keys h (hm q.1 (List.mem_cons_self ..)))
theorem take_not {α : Type} {l : List α} {i : Nat} {a : α} (nd : l.Nodup) (h : l[i]? = some a) : a ∉ l.take i := by
  intro hm
  obtain ⟨j, hj, ej⟩ := List.mem_iff_getElem.mp hm
  have hj2 : j < i := by
    rw [List.length_take] at hj
    omega
  have hi : i < l.length := (List.getElem?_eq_some_iff.mp h).1
  have e1 : l[i] = a := (List.getElem?_eq_some_iff.mp h).2
  have e2 : l[j] = a := by rw [← ej, List.getElem_take]
  exact List.pairwise_iff_getElem.mp nd j i (by omega) hi hj2 (e2.trans e1.symm)
theorem part_get {H : Hp} {xs : List V} {ps : Mul} (h : PySem.W.EachIs (PartT H) xs ps) {i : Nat} {x : V} (hx : xs[i]? = some x) : ∃ u m c e, ps[i]? = some (u, m) ∧ x = .ref c ∧ H c = some (.tup [.ref e, .int m]) ∧ H e = some (.tup (u.map kV)) := by
  obtain ⟨⟨u, m⟩, h1, c, e, h2, h3, h4⟩ := eachs_get h hx
  exact ⟨u, m, c, e, h1, h2, h3, h4⟩
theorem put_new {l : Mul} {u : List Key} (m : Int) (h : u ∉ l.map (·.1)) : putI l u m = l ++ [(u, m)] := putI_out m h
theorem sumT_not_non {H : Hp} {v : V} {n : Int} {ps : Mul} (h : SumT H v n ps) : decide (v = .non) = false := by
  obtain ⟨a, b, xs, rfl, _⟩ := h
  rfl
def scal (k : Int) (l : Mul) : Mul := l.map fun q => (q.1, k * q.2)
theorem scal_len (k : Int) (l : Mul) : (scal k l).length = l.length := List.length_map ..
theorem scal_keys (k : Int) (l : Mul) : (scal k l).map (·.1) = l.map (·.1) := by
  unfold scal
  rw [List.map_map]
  rfl
theorem scal_nm {k : Int} {l : Mul} (h : ∀ u ∈ l.map (·.1), NmU u) : ∀ u ∈ (scal k l).map (·.1), NmU u := by
  rw [scal_keys]
  exact h
end DR

namespace DR
open PySem PySem.Spec PyProof.Rows L2
/-! ### the law's draws -/
abbrev sCell : Stmt := topS 42
theorem scCell : FnScope ["script", "k"] ["script", "k"] (defScope sCell) := ⟨rfl, rfl, rfl, by decide +kernel, rfl, by decide +kernel, by decide +kernel⟩
/-- some int comes back -/
def spCell (K : PySem.W.Frag) : Sp := fun vs H Q _ => ∃ (l : Addr) (ns : List Int) (j : Nat), vs = [.ref l, .int (j : Int)] ∧ SqL K H l (ns.map V.int) ∧ ∀ n : Int, Q (.int n) H
section
variable {P : Program} {w : World} {K : PySem.W.Frag} {mg : Str → Option Value} {base : Heap}
theorem ok_cell {f : Addr} {fd : FuncData} (F : Fun K "_law_cell" "_law_cell" sCell f fd) (mL : mg "len" = none) : FnOk P w K mg base CX0 1 f fd ["script", "k"] (spCell K) := by
  refine F.ok scCell (fun vs H Q E h => ?_) (fun cdv A outer s H vs Q E hr h => ?_)
  · obtain ⟨l, ns, j, rfl, _⟩ := h
    rfl
  · obtain ⟨l, ns, j, rfl, hs, q⟩ := h
    refine ⟨_, pss_one (ps_ret (pe_ifExp (pt_cmpR op_lt (pv 1) (pe_callB call_len_seq (by rfl) mL PySem.boot_len (pa_cons (pv 0) pa_nil)) (nomark _)) (pe_ix ix_list (pv 0) (pv 1) (fun _ _ => rfl)) pe_int)), ?_⟩
    refine ⟨_, rfl, _, rfl, l, _, rfl, .inl hs, _, _, rfl, rfl, _, rfl, ?_⟩
    refine ite2 (fun hd => ?_) (fun hd => ?_)
    · have hj : (j : Int) < ((ns.map V.int).length : Int) := of_decide_eq_true hd
      rw [List.length_map] at hj
      have hj' : j < ns.length := by omega
      refine ⟨_, rfl, _, rfl, l, _, _, .int ns[j], rfl, rfl, hs, ?_, q _⟩
      unfold atI ixN
      rw [List.length_map, if_pos (by omega), if_pos (by omega)]
      show (ns.map V.int)[((j : Int)).toNat]? = _
      rw [Int.toNat_natCast, List.getElem?_map, List.getElem?_eq_getElem hj']
      rfl
    · exact q 0
end

end DR

namespace DR
open PySem PySem.Spec PyProof.Rows L2
/-! ### the law's keys and its order -/
/-- the pair of a key and an unknown -/
def PairK (H : Hp) (y : V) (u : List Key) : Prop := ∃ c a b k o, y = .ref c ∧ H c = some (.tup [.ref a, .ref b]) ∧ u = [.inr k, o] ∧ H a = some (.tup [.int ((rank k).getD 0), kV o]) ∧ H b = some (.tup [.str k, kV o])
def encK (u : List Key) : PyData := .tuple [keyD u, unkD u]
def leK : List Key → List Key → Bool := PySem.W.dataLe false encK
theorem keyDat_kD (o : Key) : keyDat o = kD o := by cases o <;> rfl
theorem pairK_dp {K : PySem.W.Frag} {H : Hp} {y : V} {u : List Key} (h : PairK H y u) : Dp K H y (encK u) := by
  obtain ⟨c, a, b, k, o, rfl, hc, rfl, ha, hb⟩ := h
  refine .tup (SqT.of hc) (.cons ?_ (.cons (dp_unk ⟨b, rfl, hb⟩) .nil))
  rw [keyD_is, ← keyDat_kD]
  exact .tup (SqT.of ha) (.cons (.int _) (.cons (dp_key o) .nil))
theorem pairK_s {H H' : Hp} (e : TupS H H') {y : V} {u : List Key} (h : PairK H y u) : PairK H' y u := by
  obtain ⟨c, a, b, k, o, h1, h2, h3, h4, h5⟩ := h
  exact ⟨c, a, b, k, o, h1, e _ _ h2, h3, e _ _ h4, e _ _ h5⟩
theorem R1_key {u u' : List Key} (h : NmU u) (h' : NmU u') : R1 (keyD u) (keyD u') := by
  obtain ⟨i, z, e⟩ := keyD_nm h
  obtain ⟨i', z', e'⟩ := keyD_nm h'
  exact .inr ⟨_, _, e, e', cmp_key h h' e e'⟩
theorem key_same {u u' : List Key} (h : NmU u) (h' : NmU u') (e : PyData.eqv (keyD u) (keyD u') = true) : u = u' := key_inj h h' ((toks_R1 _ _ (R1_key h h')).1 e)
theorem alike_unkD {u : List Key} (h : NmU u) : PySem.W.alike (unkD u) (unkD u) = true := by
  obtain ⟨k, o, rfl, _⟩ := h
  have := alike_kD o
  show PySem.W.alike (.tuple [.str k, keyDat o]) (.tuple [.str k, keyDat o]) = true
  rw [keyDat_kD]
  simp [PySem.W.alike, PySem.W.alikeAll, this]
theorem plain_unkD {u : List Key} (h : NmU u) : (unkD u).plain = true := by
  obtain ⟨k, o, rfl, _⟩ := h
  have := lay_kD o
  show (PyData.tuple [.str k, keyDat o]).plain = true
  rw [keyDat_kD]
  simp [PyData.plain, PyData.plainAll, this]
theorem plain_keyD {u : List Key} (h : NmU u) : (keyD u).plain = true := by
  obtain ⟨i, z, e⟩ := keyD_nm h
  rw [e]
  have := lay_kD z
  simp [PyData.plain, PyData.plainAll, this]
theorem cmp_enc {u u' : List Key} (h : NmU u) (h' : NmU u') : cmpL R1 [keyD u, unkD u] [keyD u', unkD u'] :=
  ⟨R1_key h h', fun e => by
    obtain rfl := key_same h h' e
    exact ⟨.inl (alike_unkD h), fun _ => trivial⟩⟩
theorem mix_enc {us : List (List Key)} (h : ∀ u ∈ us, NmU u) : Mix (us.map encK) (.type "tuple") := by
  refine ⟨fun d hd => ?_, fun xs ys hx hy => ?_, fun d hd => ?_⟩
  · obtain ⟨u, hu, rfl⟩ := List.mem_map.mp hd
    obtain ⟨i, z, e⟩ := keyD_nm (h u hu)
    exact ⟨_, _, rfl, by rw [e]; rfl⟩
  · obtain ⟨u, hu, e⟩ := List.mem_map.mp hx
    obtain ⟨u', hu', e'⟩ := List.mem_map.mp hy
    obtain rfl := PyData.tuple.inj e
    obtain rfl := PyData.tuple.inj e'
    exact cmp_enc (h u hu) (h u' hu')
  · obtain ⟨u, hu, rfl⟩ := List.mem_map.mp hd
    have h1 := plain_keyD (h u hu)
    have h2 := plain_unkD (h u hu)
    simp [encK, PyData.plain, PyData.plainAll, h1, h2]
theorem leK_is {a b : List Key} (ha : NmU a) (hb : NmU b) : leK a b = le2 a b := by
  show (!PySem.W.dataLt (encK b) (encK a)) = !PySem.W.dataLt (keyD b) (keyD a)
  cases e : PyData.eqv (keyD b) (keyD a) with
  | true =>
    obtain rfl := key_same hb ha e
    unfold PySem.W.dataLt
    rw [lex_irrefl, lex_irrefl]
  | false =>
    unfold encK
    rw [PySem.W.dataLt_tuple, lt_no toks_R1 (R1_key hb ha) e]
theorem sort_leK {us : List (List Key)} (h : ∀ u ∈ us, NmU u) : us.mergeSort leK = us.mergeSort le2 := PySem.W.sort_congr fun a ha b hb => leK_is (h a ha) (h b hb)
theorem depth_enc {u : List Key} (h : NmU u) : (encK u).depth ≤ 5 := by
  obtain ⟨k, o, rfl, _⟩ := h
  cases o <;> simp [encK, keyD, unkD, keyDat, PyData.depth, PyData.depthAll]
/-- sorted of such pairs -/
def rSortedK (K : PySem.W.Frag) : List V → Hp → VK → Prop := fun vs H Q => ∃ (a : Addr) (xs : List V) (us : List (List Key)), vs = [.ref a] ∧ SqL K H a xs ∧ PySem.W.EachIs (PairK H) xs us ∧ (∀ u ∈ us, NmU u) ∧
  ∀ (ys : List V) (p : Addr), PySem.W.EachIs (PairK H) ys (us.mergeSort le2) → H p = none → Q (.ref p) (upd H p (.lst ys))
theorem each_valsK {H : Hp} : ∀ {xs : List V} {its : List Value} {us : List (List Key)}, PySem.W.EachIs (PairK H) xs us → Vals xs its → PySem.W.EachIs (fun v u => ∃ y, L2.RelV y v ∧ PairK H y u) its us
  | _, _, _, .nil, .nil => .nil
  | _, _, _, .cons h t, .cons r rt => .cons ⟨_, r, h⟩ (each_valsK t rt)
theorem each_backK {H : Hp} : ∀ {its : List Value} {us : List (List Key)}, PySem.W.EachIs (fun v u => ∃ y, L2.RelV y v ∧ PairK H y u) its us → ∃ ys, Vals ys its ∧ PySem.W.EachIs (PairK H) ys us
  | _, _, .nil => ⟨[], .nil, .nil⟩
  | _, _, .cons ⟨y, r, h⟩ t => by
    obtain ⟨ys, r1, h1⟩ := each_backK t
    exact ⟨y :: ys, .cons r r1, .cons h h1⟩
theorem cr_sortedK {X : Cx} {k : Nat} (hr : Room k X.A) : CallR X (.builtin "sorted") (rSortedK X.K) := by
  intro pn s σ H vs ws Q I r h
  obtain ⟨a, xs, us, rfl, hs, he, nm, q⟩ := h
  obtain ⟨its, rv, hl, hz⟩ := I.list hs
  obtain ⟨u, rfl, ru⟩ := vals1 r
  obtain rfl : u = Value.ref a := ru
  have e := each_valsK he rv
  have er : PySem.W.EachIs (fun v u => ∃ as, Reads s.heap v (encK u) as) its us := eachs_imp (fun v u ⟨y, ry, hy⟩ => Dp.reads I (encK u) y v (pairK_dp hy) ry) e
  have lz : us.length ≤ sizeLine := by
    rw [← he.length]
    exact hz
  refine sorted_mix (bs := us) (enc := encK) (R := fun v u => ∃ y, L2.RelV y v ∧ PairK H y u) hl.isList e er (mix_enc nm) (by decide) lz (fun u hu => ?_) fun out hol ho => ?_
  · have h1 := depth_enc (nm u hu)
    have h2 := hr.units
    omega
  · rw [show us.mergeSort (PySem.W.dataLe false encK) = us.mergeSort le2 from sort_leK nm] at ho
    obtain ⟨ys, rv2, hy⟩ := each_backK ho
    obtain ⟨n, hn⟩ := sortedAll_at s.heap its out.toArray
    refine ⟨.ref (s.heap.objs.size + 1), upd H (s.heap.objs.size + 1) (.lst ys), I.laid (t' := s.toks) (fun b o e => sortedAll_old e) (Nat.le_succ _) ⟨?_, _, n, rv2, hn⟩, rfl, q ys _ hy (I.hok.fresh (Nat.le_succ _))⟩
    rw [hy.length, (List.mergeSort_perm _ _).length_eq]
    exact lz
/-! ### _law_key -/
theorem rank_cases {k : Str} (h : (rank k).isSome = true) : k = sPiece ∨ k = sName ∨ k = sIn := by
  unfold rank at h
  by_cases c : k = sPiece
  · exact .inl c
  · rw [if_neg c] at h
    by_cases d : k = sName
    · exact .inr (.inl d)
    · rw [if_neg d] at h
      by_cases e : k = sIn
      · exact .inr (.inr e)
      · rw [if_neg e] at h
        cases h
theorem rank_at {k : Str} (h : (rank k).isSome = true) : ∃ (j : Nat) (z : V), (rank k).getD 0 = (j : Int) ∧ [V.str sPiece, V.str sName, V.str sIn][j]? = some z ∧ eqV z (.str k) = true ∧ ∀ (m : Nat) (z' : V), m < j → [V.str sPiece, V.str sName, V.str sIn][m]? = some z' → eqV z' (.str k) = false := by
  rcases rank_cases h with rfl | rfl | rfl
  · exact ⟨0, _, by decide +kernel, rfl, by decide +kernel, fun m z' hm => absurd hm (Nat.not_lt_zero _)⟩
  · refine ⟨1, _, by decide +kernel, rfl, by decide +kernel, fun m z' hm e => ?_⟩
    obtain rfl : m = 0 := by omega
    obtain rfl := Option.some.inj e
    decide +kernel
  · refine ⟨2, _, by decide +kernel, rfl, by decide +kernel, fun m z' hm e => ?_⟩
    rcases (by omega : m = 0 ∨ m = 1) with rfl | rfl
    · obtain rfl := Option.some.inj e
      decide +kernel
    · obtain rfl := Option.some.inj e
      decide +kernel
end DR

namespace DR
open PySem PySem.Spec PyProof.Rows L2
/-! ### _law_total -/
theorem accA_len (l : Mul) : (accAll l).length ≤ l.length := by
  have := plusA_len l []
  rw [List.length_nil, Nat.zero_add] at this
  exact this
theorem accA_nm {l : Mul} (h : ∀ u ∈ l.map (·.1), NmU u) : ∀ u ∈ (accAll l).map (·.1), NmU u := plusA_nm (l := []) h (fun u hu => by simp at hu)
theorem eachK_s {H H' : Hp} (e : TupS H H') {ys : List V} {us : List (List Key)} (h : PySem.W.EachIs (PairK H) ys us) : PySem.W.EachIs (PairK H') ys us := eachs_imp (fun _ _ => pairK_s e) h
end DR

namespace DR
open PySem PySem.Spec PyProof.Rows L2
/-! ### dict comprehensions of two sources, their keys tuples -/
abbrev DC (ke ve t0 i0 t1 i1 : Expr) (c0 c1 : List Expr) (sc : Scope) (po : Pos) : Expr := .DictComp ke ve [⟨t0, i0, c0, 0⟩, ⟨t1, i1, c1, 0⟩] sc po
theorem turn_a (ke ve t0 i0 t1 i1 : Expr) (c0 c1 : List Expr) (sc : Scope) (po : Pos) (ai : Value) (D : Addr) (en : Env) :
    compTurn (DC ke ve t0 i0 t1 i1 c0 c1 sc po) 0 ai (.ref D) en = (do
      standAt i0.pos
      match ← pyNext ai with
      | none => pure (.done .next)
      | some got =>
        letOwnedTupleGo t0 ai got
        assign t0 en got
        let mut yes := true
        for cond in c0 do
          if yes then yes ← isTrue cond en (eval cond en)
        if yes then
          let src ← eval i1 en
          standAt i1.pos
          let src ← foldedSetIterable i1 en src
          let _ ← runOwn (.compStart (DC ke ve t0 i0 t1 i1 c0 c1 sc po) 1 (← holding [src] (pyIter src)) (.ref D) en) en
        again (.compLoop (DC ke ve t0 i0 t1 i1 c0 c1 sc po) 0 ai (.ref D) en)) := by rfl
theorem turn_b (ke ve t0 i0 t1 i1 : Expr) (c0 c1 : List Expr) (sc : Scope) (po : Pos) (bi : Value) (D : Addr) (en : Env) :
    compTurn (DC ke ve t0 i0 t1 i1 c0 c1 sc po) 1 bi (.ref D) en = (do
      standAt i1.pos
      match ← pyNext bi with
      | none => pure (.done .next)
      | some got =>
        letOwnedTupleGo t1 bi got
        assign t1 en got
        let mut yes := true
        for cond in c1 do
          if yes then yes ← isTrue cond en (eval cond en)
        if yes then
          (do
            let ky ← eval ke en
            let vl ← holding [ky] (eval ve en)
            standAt { ke.pos with endLine := ve.pos.endLine, endCol := ve.pos.endCol }
            holding [ky, vl] (dictSet D ky vl))
        again (.compLoop (DC ke ve t0 i0 t1 i1 c0 c1 sc po) 1 bi (.ref D) en)) := by rfl
section
variable {prog : Program} {w : World} {A : Around} {R : Result → Shared → Prop} {s : Shared} {ke ve t0 i0 t1 i1 : Expr} {c0 c1 : List Expr} {sc : Scope} {po : Pos} {ai : Value} {D : Addr} {en : Env}
abbrev Nt (prog : Program) (w : World) (A : Around) (en : Env) (R : Result → Shared → Prop) : Value → Shared → Prop := notedBy (model prog w) A en fun e s' => R (.error e) s'
abbrev Back (n : Nat) (J : Nat → Shared → Prop) (s' : Shared) : Prop := ∃ m, m < n ∧ J m s'
theorem loop_a (fold : ∀ x, foldedSetIterable i1 en x = pure x) (J : Nat → Shared → Prop)
    (turn : ∀ n s, J n s → wpAny (model prog w) A (pyNext ai) (fun r sa => match r with
      | none => R (.ok .next) sa
      | some got => wpAny (model prog w) A (letOwnedTupleGo t0 ai got) (fun _ sb => wpAny (model prog w) A (assign t0 en got) (fun _ sd => wpAny (model prog w) A (forIn c0 true fun c r => if r = true then do let ok ← isTrue c en (eval c en); pure (ForInStep.yield ok) else pure (ForInStep.yield r)) (fun yes se =>
          if yes = true then wpAny (model prog w) A (eval i1 en) (fun src sf => wpAny (model prog w) A (pyIter src) (fun bi sg => codeAny (model prog w) A (.compStart (DC ke ve t0 i0 t1 i1 c0 c1 sc po) 1 bi (.ref D) en) (fun r s' => match r with
            | .ok _ => Back n J s'
            | .error _ => False) sg) (Nt prog w A en R) sf) (Nt prog w A en R) se
          else Back n J se) (Nt prog w A en R) sd) (Nt prog w A en R) sb) (Nt prog w A en R) sa) (Nt prog w A en R) s)
    (n : Nat) (h : J n s) : codeAny (model prog w) A (.compLoop (DC ke ve t0 i0 t1 i1 c0 c1 sc po) 0 ai (.ref D) en) R s := by
  refine codeAny_loop rfl J (fun n sx hJ => ?_) n h
  show wpAny _ A ((compTurn (DC ke ve t0 i0 t1 i1 c0 c1 sc po) 0 ai (.ref D) en).onRaise (fun x => do noteFrame x en; theTreesLotGoes x)) _ _ sx
  refine wpAny_noted ?_
  rw [turn_a]
  refine wpAny_bind (wpAny_standAt (wpAny_bind (wpAny_mono (turn n sx hJ) (fun r sa ha => ?_) fun _ _ z => z)))
  cases r with
  | none => exact wpAny_pure ha
  | some got =>
    refine wpAny_bind (wpAny_mono ha (fun _ sb hb => ?_) fun _ _ z => z)
    refine wpAny_bind (wpAny_mono hb (fun _ sd hd => wpAny_bind (wpAny_mono hd (fun yes se he => ?_) fun _ _ z => z)) fun _ _ z => z)
    cases yes with
    | false => exact wpAny_pure ⟨rfl, he⟩
    | true =>
      refine wpAny_bind (wpAny_mono he (fun src sf hf => ?_) fun _ _ z => z)
      refine wpAny_bind (wpAny_standAt (wpAny_bind (wpAny_of_eq (fold src) (wpAny_bind (wpAny_holding (wpAny_mono hf (fun bi sg hg => ?_) fun _ _ z => z))))))
      refine wpAny_bind (wpAny_runOwn ?_)
      rw [Around.mark_none]
      refine codeAny_mono hg fun r s' hr => ?_
      cases r with
      | error e => exact hr.elim
      | ok fl =>
        first
          | exact wpAny_pure (And.intro rfl hr)
          | exact wpAny_bind (wpAny_pure (wpAny_pure (And.intro rfl hr)))
theorem loop_b (J : Nat → Shared → Prop)
    (turn : ∀ n s, J n s → wpAny (model prog w) A (pyNext ai) (fun r sa => match r with
      | none => R (.ok .next) sa
      | some got => wpAny (model prog w) A (letOwnedTupleGo t1 ai got) (fun _ sb => wpAny (model prog w) A (assign t1 en got) (fun _ sd => wpAny (model prog w) A (forIn c1 true fun c r => if r = true then do let ok ← isTrue c en (eval c en); pure (ForInStep.yield ok) else pure (ForInStep.yield r)) (fun yes se =>
          if yes = true then wpAny (model prog w) A (eval ke en) (fun ky sf => wpAny (model prog w) A (eval ve en) (fun vl sg => wpAny (model prog w) A (dictSet D ky vl) (fun _ sh => Back n J sh) (Nt prog w A en R) sg) (Nt prog w A en R) sf) (Nt prog w A en R) se
          else Back n J se) (Nt prog w A en R) sd) (Nt prog w A en R) sb) (Nt prog w A en R) sa) (Nt prog w A en R) s)
    (n : Nat) (h : J n s) : codeAny (model prog w) A (.compLoop (DC ke ve t0 i0 t1 i1 c0 c1 sc po) 1 ai (.ref D) en) R s := by
  refine codeAny_loop rfl J (fun n sx hJ => ?_) n h
  show wpAny _ A ((compTurn (DC ke ve t0 i0 t1 i1 c0 c1 sc po) 1 ai (.ref D) en).onRaise (fun x => do noteFrame x en; theTreesLotGoes x)) _ _ sx
  refine wpAny_noted ?_
  rw [turn_b]
  refine wpAny_bind (wpAny_standAt (wpAny_bind (wpAny_mono (turn n sx hJ) (fun r sa ha => ?_) fun _ _ z => z)))
  cases r with
  | none => exact wpAny_pure ha
  | some got =>
    refine wpAny_bind (wpAny_mono ha (fun _ sb hb => ?_) fun _ _ z => z)
    refine wpAny_bind (wpAny_mono hb (fun _ sd hd => wpAny_bind (wpAny_mono hd (fun yes se he => ?_) fun _ _ z => z)) fun _ _ z => z)
    cases yes with
    | false => exact wpAny_pure ⟨rfl, he⟩
    | true =>
      refine wpAny_bind (wpAny_bind (wpAny_mono he (fun ky sf hf => ?_) fun _ _ z => z))
      refine wpAny_bind (wpAny_holding (wpAny_mono hf (fun vl sg hg => ?_) fun _ _ z => z))
      exact wpAny_bind (wpAny_standAt (wpAny_holding (wpAny_mono hg (fun _ sh hh => wpAny_pure ⟨rfl, hh⟩) fun _ _ z => z)))
theorem start_b (here : codeAny (model prog w) A (.compLoop (DC ke ve t0 i0 t1 i1 c0 c1 sc po) 1 ai (.ref D) en) R s)
    (itr : wpAny (model prog w) A (pyIter ai) (fun bi s' => codeAny (model prog w) A (.compLoop (DC ke ve t0 i0 t1 i1 c0 c1 sc po) 1 bi (.ref D) en) R s') (Nt prog w A en R) s) :
    codeAny (model prog w) A (.compStart (DC ke ve t0 i0 t1 i1 c0 c1 sc po) 1 ai (.ref D) en) R s := by
  refine codeAny_of_tree ?_
  show wpAny _ _ ((compStart (DC ke ve t0 i0 t1 i1 c0 c1 sc po) 1 ai (.ref D) en).onRaise (fun x => do noteFrame x en; standAt theWindowsPlace)) _ _ s
  refine wpAny_notedAt ?_
  unfold compStart
  show wpAny _ _ (ask >>= _) _ _ s
  refine wpAny_bind (wpAny_askSetting (wpAny_ite ?_))
  split
  · first
      | exact wpAny_pure ⟨rfl, here⟩
      | exact wpAny_bind (wpAny_pure (wpAny_pure ⟨rfl, here⟩))
  · first
      | exact wpAny_bind (wpAny_rule (wpAny_bind (wpAny_standAt (wpAny_bind (wpAny_mono itr (fun bi s' hb => wpAny_pure ⟨rfl, hb⟩) fun _ _ z => z)))))
      | (refine wpAny_bind (wpAny_rule ?_); show wpAny _ _ (standAt i1.pos >>= _) _ _ s; exact wpAny_bind (wpAny_standAt (wpAny_bind (wpAny_mono itr (fun bi s' hb => wpAny_pure ⟨rfl, hb⟩) fun _ _ z => z))))
end
/-- one turn of the outer loop -/
def turnT2 (g : TG) (tt : TT) (wi1 : TI) (g1 : TG) (tt1 : TT) (tk tv : TE) (σ0 : L2.St) (vs vs1 : List Nat) (D : Addr) (Nx : Hp → Prop) (x : V) (Ha : Hp) : Prop :=
  g x (wipe σ0 vs) Ha fun σ1 Hb => wipe σ1 vs = wipe σ0 vs ∧ tt σ1 Hb fun b Hc => if b = true then wi1 σ1 Hc fun J1 Hd => ∃ W1 : Nat → Nat → Hp → Prop, (∃ n, W1 0 n Hd) ∧
    ∀ j k He, W1 j k He → (J1.stop j He ∧ Nx He) ∨ (J1.go j He ∧ ∃ Nx1 : Hp → Prop, (∀ Hf, Nx1 Hf → ∃ k', k' < k ∧ W1 (j + 1) k' Hf) ∧ ∀ y Hf, J1.yld j He y Hf → turnT g1 tt1 tk tv σ1 vs1 D Nx1 y Hf) else Nx Hc
def tDt2 (wi : TI) (g : TG) (tt : TT) (wi1 : TI) (g1 : TG) (tt1 : TT) (tk tv : TE) (vs vs1 : List Nat) : TE := fun σ H Q => wi σ H fun J Ha => ∀ D, Ha D = none → ∃ W : Nat → Nat → Hp → Prop, (∃ n, W 0 n (upd Ha D (.dT []))) ∧
  ∀ j n Hb, W j n Hb → (J.stop j Hb ∧ Q (.ref D) Hb) ∨ (J.go j Hb ∧ ∃ Nx : Hp → Prop, (∀ Hc, Nx Hc → ∃ n', n' < n ∧ W (j + 1) n' Hc) ∧ ∀ x Hc, J.yld j Hb x Hc → turnT2 g tt wi1 g1 tt1 tk tv σ vs vs1 D Nx x Hc)
section
variable {X : Cx}
theorem run_dt2 {pn : List (Addr × Obj)} {s : Shared} {σ : L2.St} {H : Hp} {Q : VK} {ke ve t0 i0 t1 i1 : Expr} {c0 c1 : List Expr} {sc : Scope} {own : List (Str × Nat)} {vs1 : List Nat} {po po' : Pos} {wi wi1 : TI} {g g1 : TG} {tt tt1 : TT} {tk tv : TE} {use : Option (Value → Sem Unit)} {Fi : Value → Shared → Prop}
    (hu : X.A.units + 1 < cLine) (calm : X.calm = true) (nod : X.N.Nodup) (I : Inv X pn σ H s) (walks : PI X t0 i0 wi) (blk : BlkOk X.N X.env.scope sc own) (inn : ∀ i ∈ vs1, i ∈ own.map (·.2))
    (rg : ∀ (s : Shared) (H : Hp) (C : Addr) (cl : List (Str × Addr)) (fp : List Addr), PG (X.blk s H sc (compEnvC sc cl C X.env) fp) t0 g) (rt : ∀ (s : Shared) (H : Hp) (C : Addr) (cl : List (Str × Addr)) (fp : List Addr), PTs (X.blk s H sc (compEnvC sc cl C X.env) fp) c0 tt)
    (ri1 : ∀ (s : Shared) (H : Hp) (C : Addr) (cl : List (Str × Addr)) (fp : List Addr), PI (X.blk s H sc (compEnvC sc cl C X.env) fp) t1 i1 wi1)
    (rg1 : ∀ (s : Shared) (H : Hp) (C : Addr) (cl : List (Str × Addr)) (fp : List Addr), PG (X.blk s H sc (compEnvC sc cl C X.env) fp) t1 g1) (rt1 : ∀ (s : Shared) (H : Hp) (C : Addr) (cl : List (Str × Addr)) (fp : List Addr), PTs (X.blk s H sc (compEnvC sc cl C X.env) fp) c1 tt1)
    (rk : ∀ (s : Shared) (H : Hp) (C : Addr) (cl : List (Str × Addr)) (fp : List Addr), PE (X.blk s H sc (compEnvC sc cl C X.env) fp) ke tk) (rv : ∀ (s : Shared) (H : Hp) (C : Addr) (cl : List (Str × Addr)) (fp : List Addr), PE (X.blk s H sc (compEnvC sc cl C X.env) fp) ve tv)
    (fold : ∀ x, foldedSetIterable i0 X.env x = pure x) (fold1 : ∀ en x, foldedSetIterable i1 en x = pure x) (asks : tDt2 wi g tt wi1 g1 tt1 tk tv (own.map (·.2)) vs1 σ H Q)
    (last : ∀ D C s' m H', Inv X pn σ H' s' → Q (.ref D) H' → s'.heap.Ns C m → FpOk X pn H' C → compPost (model X.prog X.w) X.A X.xe use Fi (.ref D) C (.ok .next) s') :
    wpAny (model X.prog X.w) X.A (comprehension (DC ke ve t0 i0 t1 i1 c0 c1 sc po) sc X.env po' newDict false (eval i0 X.env) use) Fi X.xe s := by
  have freeOk : ∀ y ∈ sc.names, y.2 = .free → ∃ c, X.env.cells.lookup y.1 = some c := fun y hy e => (blk.free y hy e).elim (fun k => I.ok.has _ (.inl k)) fun k => I.ok.has _ (.inr k)
  refine wpAny_comprehension_free (use := use) rfl fold (closure_ok freeOk) blk.kind (fun y hy e => by rw [blk.uniq y hy, e]) (thn (walks.run pn s σ H _ I asks) fun _ sa ha => thn ha fun _ sb hb => ?_)
  obtain ⟨it, fp, tn, J, Hb, rfl, Ib, T, stb, fpb, q⟩ := hb
  refine wpAny_newObj_type (newEnv_comp ?_)
  have freeD : Hb sb.heap.objs.size = none := Ib.hok.fresh (Nat.le_refl _)
  obtain ⟨W, ⟨n0, w0⟩, turns⟩ := q _ freeD
  have Ic : Inv X pn σ (upd Hb sb.heap.objs.size (.dT [])) { sb with heap := sb.heap.push { cls := .type "dict", data := .dict #[] } } := Ib.laid (t' := sb.toks) (fun _ _ e => Heap.get?_push_of_some _ e) (Nat.le_refl _) (dt_empty sb.heap Ib.big)
  generalize eD : sb.heap.objs.size = D at freeD w0 turns Ic ⊢
  generalize ec : ({ sb with heap := sb.heap.push { cls := .type "dict", data := .dict #[] } } : Shared) = c at Ic
  have hc : c.heap = sb.heap.push { cls := .type "dict", data := .dict #[] } := by rw [← ec]
  have below : ∀ b ∈ fp, b < D := fun b hb => by
    obtain ⟨o, e, _⟩ := T.obj _ _ stb b hb
    rw [← eD]
    exact Heap.lt_size e
  generalize eH : upd Hb D (.dT []) = Hc at Ic w0
  have fpc : ∀ b ∈ fp, FpOk X pn Hc b ∧ b < c.heap.objs.size := fun b hb => by
    have lt := below b hb
    refine ⟨⟨?_, (fpb b hb).2⟩, ?_⟩
    · rw [← eH, upd_ne (Nat.ne_of_lt lt)]
      exact (fpb b hb).1
    · rw [hc, Heap.size_push, eD]
      exact Nat.lt_succ_of_lt lt
  have stc : tn 0 c.heap := T.keep _ _ _ stb fun b _ o e => by
    rw [hc]
    exact Heap.get?_push_of_some _ e
  have Id := block_start Ic blk nod fpc
  generalize eE : compEnvC sc (cellsFrom (c.heap.objs.size + 1) sc.names (cloFrom X.env.cells sc.names [])) c.heap.objs.size X.env = en at Id
  have pg : PG (X.blk c Hc sc en fp) t0 g := eE ▸ rg c Hc _ _ fp
  have pt : PTs (X.blk c Hc sc en fp) c0 tt := eE ▸ rt c Hc _ _ fp
  have pi1 : PI (X.blk c Hc sc en fp) t1 i1 wi1 := eE ▸ ri1 c Hc _ _ fp
  have pg1 : PG (X.blk c Hc sc en fp) t1 g1 := eE ▸ rg1 c Hc _ _ fp
  have pt1 : PTs (X.blk c Hc sc en fp) c1 tt1 := eE ▸ rt1 c Hc _ _ fp
  have pk : PE (X.blk c Hc sc en fp) ke tk := eE ▸ rk c Hc _ _ fp
  have pv' : PE (X.blk c Hc sc en fp) ve tv := eE ▸ rv c Hc _ _ fp
  have locs : en.locals = c.heap.objs.size := by rw [← eE]; rfl
  have quiet : ∀ b ∈ fp, Hc b = none := fun b hb => (fpc b hb).1.1
  generalize ed : ({ c with heap := pushCells (c.heap.push { cls := .type "dict", data := .dict #[] }) sc.names } : Shared) = d at Id
  have std : tn 0 d.heap := T.keep _ _ _ stc fun b _ o e => by
    rw [← ed]
    exact pushCells_keeps _ _ _ _ (Heap.get?_push_of_some _ e)
  have fpIn : ∀ {σ' : L2.St} {H' : Hp} {s' : Shared}, Inv (X.blk c Hc sc en fp) [] σ' H' s' → (∀ b ∈ fp, H' b = none) → ∀ b ∈ fp, FpOk (X.blk c Hc sc en fp) [] H' b := fun I' q b hb =>
    ⟨q b hb, (I'.ok.exf b hb).1, I'.ok.exfs b hb, .inl hb, fun x y e => (I'.ok.exf b hb).2 x y e, fun p hp => absurd (show p ∈ ([] : List (Addr × Obj)) ++ [] from hp) (by simp)⟩
  have goes : codeAny (model X.prog X.w) X.A (.compLoop (DC ke ve t0 i0 t1 i1 c0 c1 sc po) 0 (.ref it) (.ref D) en) (compPost (model X.prog X.w) X.A X.xe use Fi (.ref D) c.heap.objs.size) d := by
    refine loop_a (fold1 en) (fun n s' => ∃ j H', Inv (X.blk c Hc sc en fp) [] (wipe σ (own.map (·.2))) H' s' ∧ tn j s'.heap ∧ (∀ b ∈ fp, H' b = none) ∧ W j n H') (fun n s5 hs5 => ?_) n0 ⟨0, Hc, Id, std, quiet, w0⟩
    obtain ⟨j, H5, I5, st5, n5, w5⟩ := hs5
    rcases turns j n H5 w5 with ⟨over, qq⟩ | ⟨on, Nx, next, step⟩
    · refine thnF (T.done (X.blk c Hc sc en fp) rfl rfl rfl calm j [] s5 _ H5 (fun _ _ => False) I5 (fpIn I5 n5) st5 over) fun r s6 h6 => ?_
      obtain ⟨rfl, I6⟩ := h6
      have outer : Inv X pn σ H5 s6 := Ic.call' (ch := fp) I6.os I6.base I6.hok I6.bare fun b hb => by
        obtain ⟨⟨k0, k1, k2, k3, k4, k5⟩, _⟩ := fpc b hb
        exact ⟨k3, k1, k4, k5⟩
      have nL : H5 c.heap.objs.size = none := by
        rw [← locs]
        exact I6.free
      obtain ⟨m, hm, _⟩ := I6.loc
      have hm' : s6.heap.Ns c.heap.objs.size m := by
        rw [← locs]
        exact hm
      exact last D _ s6 m H5 outer qq hm' (Ic.fpOk (Nat.le_refl _) nL)
    · refine thnF (T.item (X.blk c Hc sc en fp) rfl rfl rfl calm j [] s5 _ H5 (fun _ _ => False) I5 (fpIn I5 n5) st5 on) fun r s6 h6 => ?_
      obtain ⟨u, rfl, h6⟩ := h6
      refine thnF h6 fun _ s7 h7 => ?_
      obtain ⟨x, H7, I7, r7, y7, st7, n7⟩ := h7
      refine thnF (pg.run _ s7 _ H7 x u _ (I7.pinned (fpIn I7 n7) (T.obj _ _ st7)) r7 (step x H7 y7)) fun _ s8 h8 => ?_
      obtain ⟨σ8, H8, I8, wip, q8⟩ := h8
      have over : ∀ {σ9 : L2.St} {s' : Shared} {H' : Hp}, Inv (X.blk c Hc sc en fp) ([] ++ pinsAt fp s7.heap) σ9 H' s' → (wipe σ (own.map (·.2))).length = σ9.length → (∀ (i : Nat) v, (wipe σ (own.map (·.2)))[i]? = some (some v) → σ9[i]? = some (some v)) → Nx H' →
          Back n (fun n s' => ∃ j H', Inv (X.blk c Hc sc en fp) [] (wipe σ (own.map (·.2))) H' s' ∧ tn j s'.heap ∧ (∀ b ∈ fp, H' b = none) ∧ W j n H') s' := by
        intro σ9 s' H' I' hl hk nx
        obtain ⟨m', lt, w'⟩ := next H' nx
        have pinned : ∀ b ∈ fp, ∀ o, s7.heap.get? b = some o → s'.heap.get? b = some o ∧ H' b = none := fun b hb o e => by
          have z := I'.pin (b, o) (List.mem_append_right _ (List.mem_append_right _ (mem_pinsAt hb e)))
          exact ⟨z.1, z.2.1⟩
        refine ⟨m', lt, j + 1, H', (I'.unpinned (pins := [])).weak hl hk, T.keep _ _ _ st7 fun b hb o e => (pinned b hb o e).1, fun b hb => ?_, w'⟩
        obtain ⟨o, e, _⟩ := T.obj _ _ st7 b hb
        exact (pinned b hb o e).2
      have len8 : (wipe σ (own.map (·.2))).length = σ8.length := by rw [← wip, wipe_length]
      have kno8 : ∀ (i : Nat) v, (wipe σ (own.map (·.2)))[i]? = some (some v) → σ8[i]? = some (some v) := fun i v e => by
        rw [← wip] at e
        exact (wipe_some e).1
      have kno9 : ∀ (i : Nat) v, (wipe σ (own.map (·.2)))[i]? = some (some v) → (wipe σ8 vs1)[i]? = some (some v) := fun i v e => by
        rw [← wip] at e
        obtain ⟨e1, e2⟩ := wipe_some e
        rw [wipe_out fun z => e2 (inn i z)]
        exact e1
      refine thnF (pt.run _ s8 σ8 H8 _ I8 q8) fun b s9 h9 => ?_
      obtain ⟨H9, I9, q9⟩ := h9
      cases b with
      | false =>
        rw [if_neg Bool.false_ne_true] at q9 ⊢
        exact over I9 len8 kno8 q9
      | true =>
        rw [if_pos rfl] at q9 ⊢
        refine thnF (pi1.run _ s9 σ8 H9 _ I9 q9) fun _ s10 h10 => thnF h10 fun _ s11 h11 => ?_
        obtain ⟨it1, fp1, tn1, J1, H11, rfl, I11, T1, st11, f11, W1, ⟨k1, w1⟩, turns1⟩ := h11
        have fpIn1 : ∀ {H' : Hp}, (∀ b ∈ fp1, H' b = none) → ∀ b ∈ fp1, FpOk (X.blk c Hc sc en fp) ([] ++ pinsAt fp s7.heap) H' b := fun hn b hb => ⟨hn b hb, (f11 b hb).2⟩
        have inner : codeAny (model X.prog X.w) X.A (.compLoop (DC ke ve t0 i0 t1 i1 c0 c1 sc po) 1 (.ref it1) (.ref D) en)
            (fun r s' => match r with
              | .ok _ => Back n (fun n s' => ∃ j H', Inv (X.blk c Hc sc en fp) [] (wipe σ (own.map (·.2))) H' s' ∧ tn j s'.heap ∧ (∀ b ∈ fp, H' b = none) ∧ W j n H') s'
              | .error _ => False) s11 := by
          refine loop_b (fun k s' => ∃ i H', Inv (X.blk c Hc sc en fp) ([] ++ pinsAt fp s7.heap) (wipe σ8 vs1) H' s' ∧ tn1 i s'.heap ∧ (∀ b ∈ fp1, H' b = none) ∧ W1 i k H') (fun k s12 hs12 => ?_) k1 ⟨0, H11, I11.weak (wipe_length _ _) (fun i v e => (wipe_some e).1), st11, fun b hb => (f11 b hb).1, w1⟩
          obtain ⟨i, H12, I12, st12, n12, w12⟩ := hs12
          rcases turns1 i k H12 w12 with ⟨over1, nx1⟩ | ⟨on1, Nx1, next1, step1⟩
          · refine thnF (T1.done (X.blk c Hc sc en fp) rfl rfl rfl calm i _ s12 (wipe σ8 vs1) H12 (fun _ _ => False) I12 (fpIn1 n12) st12 over1) fun r s13 h13 => ?_
            obtain ⟨rfl, I13⟩ := h13
            exact over I13 (len8.trans (wipe_length σ8 vs1).symm) kno9 nx1
          · refine thnF (T1.item (X.blk c Hc sc en fp) rfl rfl rfl calm i _ s12 (wipe σ8 vs1) H12 (fun _ _ => False) I12 (fpIn1 n12) st12 on1) fun r s13 h13 => ?_
            obtain ⟨u1, rfl, h13⟩ := h13
            refine thnF h13 fun _ s14 h14 => ?_
            obtain ⟨x1, H14, I14, r14, y14, st14, n14⟩ := h14
            refine thnF (pg1.run _ s14 (wipe σ8 vs1) H14 x1 u1 _ (I14.pinned (fpIn1 n14) (T1.obj _ _ st14)) r14 (step1 x1 H14 y14)) fun _ s15 h15 => ?_
            obtain ⟨σ15, H15, I15, wip1, q15⟩ := h15
            have over2 : ∀ {s' : Shared} {H' : Hp}, Inv (X.blk c Hc sc en fp) (([] ++ pinsAt fp s7.heap) ++ pinsAt fp1 s14.heap) σ15 H' s' → Nx1 H' →
                Back k (fun k s' => ∃ i H', Inv (X.blk c Hc sc en fp) ([] ++ pinsAt fp s7.heap) (wipe σ8 vs1) H' s' ∧ tn1 i s'.heap ∧ (∀ b ∈ fp1, H' b = none) ∧ W1 i k H') s' := by
              intro s' H' I' nx
              obtain ⟨m', lt, w'⟩ := next1 H' nx
              have pinned : ∀ b ∈ fp1, ∀ o, s14.heap.get? b = some o → s'.heap.get? b = some o ∧ H' b = none := fun b hb o e => by
                have z := I'.pin (b, o) (List.mem_append_right _ (List.mem_append_right _ (mem_pinsAt hb e)))
                exact ⟨z.1, z.2.1⟩
              refine ⟨m', lt, i + 1, H', I'.unpinned.weak ?_ ?_, T1.keep _ _ _ st14 fun b hb o e => (pinned b hb o e).1, fun b hb => ?_, w'⟩
              · rw [← wip1, wipe_length]
              · intro l v e
                rw [← wip1] at e
                exact (wipe_some e).1
              · obtain ⟨o, e, _⟩ := T1.obj _ _ st14 b hb
                exact (pinned b hb o e).2
            refine thnF (pt1.run _ s15 σ15 H15 _ I15 q15) fun b s16 h16 => ?_
            obtain ⟨H16, I16, q16⟩ := h16
            cases b with
            | false =>
              rw [if_neg Bool.false_ne_true] at q16 ⊢
              exact over2 I16 q16
            | true =>
              rw [if_pos rfl] at q16 ⊢
              refine thnF (pk.run _ s16 σ15 H16 _ I16 q16) fun _ s17 h17 => ?_
              obtain ⟨yk, H17, I17, r17, q17⟩ := h17
              refine thnF (pv'.run _ s17 σ15 H17 _ I17 q17) fun _ s18 h18 => ?_
              obtain ⟨yv, H18, I18, r18, Hf, put, nx⟩ := h18
              exact run_putT (X := X.blk c Hc sc en fp) hu I18 put r17 r18 fun s19 I19 => over2 I19 nx
        exact start_b inner (T1.self X.A 0 _ _ _ st11 inner)
  subst eE
  exact codeAny_compStart_dict goes (T.self X.A 0 _ _ _ std goes)
theorem pe_dt2 {ke ve t0 i0 t1 i1 : Expr} {c0 c1 : List Expr} {sc : Scope} {own : List (Str × Nat)} {vs1 : List Nat} {po : Pos} {wi wi1 : TI} {g g1 : TG} {tt tt1 : TT} {tk tv : TE} (hu : X.A.units + 1 < cLine) (calm : X.calm = true) (nod : X.N.Nodup) (walks : PI X t0 i0 wi) (blk : BlkOk X.N X.env.scope sc own) (inn : ∀ i ∈ vs1, i ∈ own.map (·.2))
    (rg : ∀ (s : Shared) (H : Hp) (C : Addr) (cl : List (Str × Addr)) (fp : List Addr), PG (X.blk s H sc (compEnvC sc cl C X.env) fp) t0 g) (rt : ∀ (s : Shared) (H : Hp) (C : Addr) (cl : List (Str × Addr)) (fp : List Addr), PTs (X.blk s H sc (compEnvC sc cl C X.env) fp) c0 tt)
    (ri1 : ∀ (s : Shared) (H : Hp) (C : Addr) (cl : List (Str × Addr)) (fp : List Addr), PI (X.blk s H sc (compEnvC sc cl C X.env) fp) t1 i1 wi1)
    (rg1 : ∀ (s : Shared) (H : Hp) (C : Addr) (cl : List (Str × Addr)) (fp : List Addr), PG (X.blk s H sc (compEnvC sc cl C X.env) fp) t1 g1) (rt1 : ∀ (s : Shared) (H : Hp) (C : Addr) (cl : List (Str × Addr)) (fp : List Addr), PTs (X.blk s H sc (compEnvC sc cl C X.env) fp) c1 tt1)
    (rk : ∀ (s : Shared) (H : Hp) (C : Addr) (cl : List (Str × Addr)) (fp : List Addr), PE (X.blk s H sc (compEnvC sc cl C X.env) fp) ke tk) (rv : ∀ (s : Shared) (H : Hp) (C : Addr) (cl : List (Str × Addr)) (fp : List Addr), PE (X.blk s H sc (compEnvC sc cl C X.env) fp) ve tv)
    (fold : ∀ x, foldedSetIterable i0 X.env x = pure x := by intro _; rfl) (fold1 : ∀ en x, foldedSetIterable i1 en x = pure x := by intro _ _; rfl) : PE X (.DictComp ke ve [⟨t0, i0, c0, 0⟩, ⟨t1, i1, c1, 0⟩] sc po) (tDt2 wi g tt wi1 g1 tt1 tk tv (own.map (·.2)) vs1) := by
  constructor
  intro pn s σ H Q I asks
  rw [arm_eval_DictComp]
  refine run_dt2 hu calm nod I walks blk inn rg rt ri1 rg1 rt1 rk rv fold fold1 asks fun D C s' m H' I' q hm f => ⟨m, hm, fun g2 sb => ?_⟩
  obtain ⟨k0, k1, k2, k3, k4, k5⟩ := f
  exact ⟨.ref D, H', I'.turned (t' := s'.toks) (fun b o hb e => (sb.2 b hb).trans e) k0 k1 k3 k4 k5, rfl, q⟩
end
end DR


namespace DR
open PySem PySem.Spec PyProof.Rows L2
/-! ### enumerate over a tuple -/
open AutoSeq1 (wpAny_loadPart') in
theorem meets_enumT (tt : Addr) (its : Array Value) (ot : Obj) (co : ot.cls = .type "tuple") (n : Nat) (dd : ot.data = .seq its n) :
    Meets (Builtin.«enumerate.__new__» ⟨[.type "enumerate", .ref tt], []⟩) (fun _ R t => t.heap.get? tt = some ot ∧
      R (.ok (.ret (.ref (t.heap.push { cls := .type "tuple_iterator", data := .fields #[.ref tt, .int 0 0] }).objs.size)))
        { t with heap := (t.heap.push { cls := .type "tuple_iterator", data := .fields #[.ref tt, .int 0 0] }).push { cls := .type "enumerate", data := .fields #[.none, .bool false, .ref t.heap.objs.size, rawInt 0, .none, .none] } }) :=
  .of_wp fun prog w A R t goal => by
    obtain ⟨hp, gg, dp, tk, os⟩ := t
    obtain ⟨get, goal⟩ := goal
    obtain ⟨c0, d0, dt0, s0⟩ := ot
    dsimp only at co dd
    subst co
    subst dd
    have below := sub_enumerate
    have isT : Heap.IsTuple (Shared.heap ⟨hp, gg, dp, tk, os⟩) tt its := ⟨_, get, rfl, n, rfl⟩
    wp_walk using wpAny_loadPart' get
    refine wpAny_stack_any fun st => wpAny_pure ?_
    split
    · rename_i c _ _ _ _ _
      cases (c == Value.type "enumerate") <;>
      · wp_walk using wpAny_loadPart' get, wpAny_pyIter_tuple isT
        exact ⟨_, rfl, goal⟩
    · wp_walk using wpAny_loadPart' get, wpAny_pyIter_tuple isT
      exact ⟨_, rfl, goal⟩
theorem call_enumT {prog : Program} {w : World} {A : Around} {E : Value → Shared → Prop} {t : Shared} {tt : Addr} {its : Array Value} {Q : Value → Shared → Prop} (isT : t.heap.IsTuple tt its)
    (go : ∀ g, IsEnum g (t.heap.objs.size + 1) t.heap.objs.size 0 .none → g.IsTupleIter t.heap.objs.size tt 0 → (∀ b o, t.heap.get? b = some o → g.get? b = some o) → Q (.ref (t.heap.objs.size + 1)) { t with heap := g }) :
    wpAny (model prog w) A (call (.type "enumerate") [.ref tt]) Q E t := by
  obtain ⟨ot, get, co, n, dd⟩ := isT
  refine callType_new F.called_enumerate (by decide) (F.typeCall_enumerate_1 _) (F.newCall_enumerate_1 _) (fun obj => F.args_object_init_2 obj _) F.entry_enumerate_new (meets_enumT tt its ot co n dd) ⟨get, ?_⟩
  let oi : Obj := { cls := .type "tuple_iterator", data := .fields #[.ref tt, .int 0 0] }
  have sz : (t.heap.push oi).objs.size = t.heap.objs.size + 1 := Heap.size_push ..
  have eq2 : (t.heap.push { cls := .type "tuple_iterator", data := .fields #[.ref tt, .int 0 0] }).objs.size = t.heap.objs.size + 1 := sz
  show _ ∧ _
  rw [eq2]
  have top : IsEnum ((t.heap.push oi).push { cls := .type "enumerate", data := .fields #[.none, .bool false, .ref t.heap.objs.size, rawInt 0, .none, .none] }) (t.heap.objs.size + 1) t.heap.objs.size 0 .none := by
    have z := Heap.get?_push_size (t.heap.push oi) (o := { cls := .type "enumerate", data := .fields #[.none, .bool false, .ref t.heap.objs.size, rawInt 0, .none, .none] }) rfl
    rw [sz] at z
    exact z
  refine ⟨⟨_, top, rfl⟩, go _ top ⟨oi, Heap.get?_push_of_some _ (Heap.get?_push_size _ rfl), rfl, rfl⟩ fun b o e => Heap.get?_push_of_some _ (Heap.get?_push_of_some _ e)⟩
/-- the tuple at a, each item in a new pair -/
def Itu (K : PySem.W.Frag) (a : Addr) : It where
  go := fun i H => ∃ (xs : List V) (x : V), SqT K H a xs ∧ xs[i]? = some x
  yld := fun i H v H' => ∃ T x, v = .ref T ∧ H T = none ∧ H' = upd H T (.tup [.int (i : Nat), x]) ∧ ∀ xs, SqT K H a xs → xs[i]? = some x
  stop := fun i H => ∃ xs : List V, SqT K H a xs ∧ xs.length ≤ i
theorem turn_enumT {P : Program} {w : World} {K : PySem.W.Frag} {elts : List Expr} {kk : Nat} {tpos : Pos} (a e it : Addr) (ae : a ≠ e) (ai : a ≠ it) :
    Turn P w K (.Tuple elts kk tpos) (Itu K a) [e, it] e (fun i h => (∃ old, IsEnum h e it ((i : Nat) : Int) old) ∧ h.IsTupleIter it a i ∧ e ≠ it) where
  mem := List.mem_cons_self ..
  obj := by
    intro i h st b hb
    obtain ⟨⟨old, he⟩, ⟨o, ho, hc, hd⟩, _⟩ := st
    rcases List.mem_cons.mp hb with rfl | hb
    · exact ⟨_, he, fun v q => nomatch q⟩
    · obtain rfl := List.mem_singleton.mp hb
      exact ⟨o, ho, fun v q => by rw [hd] at q; cases q⟩
  keep := by
    intro i h h' st k
    obtain ⟨⟨old, he⟩, hi, hne⟩ := st
    exact ⟨⟨old, k e (by simp) _ he⟩, hi.at fun o q => k it (by simp) o q, hne⟩
  item := by
    intro X hP hw hK hc i pins s σ H E I hf st hg
    subst hP hw hK
    obtain ⟨⟨old, he⟩, hit, hne⟩ := st
    obtain ⟨xs, x, hq, hx⟩ := hg
    obtain ⟨its, rv, p, hz⟩ := I.tuple hq
    obtain ⟨u, hu, ru⟩ := rv.get hx
    have elt : e < s.heap.objs.size := Heap.lt_size he
    have ilt : it < s.heap.objs.size := by
      obtain ⟨_, q, _⟩ := hit
      exact Heap.lt_size q
    have DD := Draws.tuple (prog := X.prog) (w := X.w) (A := X.A.in1) (I.ok.hd hc) it a ai its.toArray
    have hlen : i < its.toArray.size := by
      have : its[i]? = some u := hu
      have := (List.getElem?_eq_some_iff.mp this).1
      simpa using this
    have ef : e ∉ ([it, a] : List Addr) := by simp [hne, ae.symm]
    refine wpAny_pyNext_enum_itemD DD he ⟨hit, (show s.heap.IsTuple a its.toArray from p)⟩ hlen hne ef fun y h' tk hy ho hs' hT hsz hk => ?_
    obtain ⟨hit', _⟩ := hs'
    obtain rfl : y = u := by
      have q : its.toArray[i]? = some y := hy
      rw [List.getElem?_toArray, hu] at q
      exact (Option.some.inj q).symm
    refine ⟨_, rfl, wpAny_letOwnedTupleGo_enum (s := { s with heap := h', toks := tk + 1 }) ho fun h'' he' sb => ?_⟩
    have hT2 : h''.get? s.heap.objs.size = some { cls := .type "tuple", data := .seq #[.int i tk, y] } := (sb.2 _ (Nat.ne_of_gt elt)).trans hT
    have new : ObjOk X.prog X.w (upd H s.heap.objs.size (.tup [.int (i : Nat), x])) h'' s.heap.objs.size (.tup [.int (i : Nat), x]) :=
      ⟨by show 2 ≤ sizeLine; decide, [.int i tk, y], .cons ⟨_, rfl⟩ (.cons ru .nil), ⟨_, hT2, rfl, _, rfl⟩⟩
    have I1 : Inv X pins σ (upd H s.heap.objs.size (.tup [.int (i : Nat), x])) { s with heap := h'', toks := tk + 1 } :=
      I.turnedNew (ch := [e, it]) (fun b ob hb q => (sb.2 b (fun z => hb (by simp [z]))).trans (hk b ob (fun z => hb (by simp [z])) (fun z => hb (by simp [z])) q)) hf (Nat.le_refl _) new
    refine ⟨.ref s.heap.objs.size, _, I1, rfl, ⟨_, x, rfl, I.hok.fresh (Nat.le_refl _), rfl, fun ys hy => by rw [I.tuple_inj hy hq]; exact hx⟩, ⟨⟨y, ?_⟩, hit'.at fun o q => (sb.2 it (Ne.symm hne)).trans q, hne⟩, fun b hb => ?_⟩
    · rw [show ((i + 1 : Nat) : Int) = (i : Int) + 1 by omega]
      exact he'
    · have blt : b < s.heap.objs.size := by
        rcases List.mem_cons.mp hb with rfl | hb
        · exact elt
        · obtain rfl := List.mem_singleton.mp hb
          exact ilt
      rw [upd_ne (Nat.ne_of_lt blt)]
      exact (hf b hb).1
  done := by
    intro X hP hw hK hc i pins s σ H E I hf st hg
    subst hP hw hK
    obtain ⟨⟨old, he⟩, hit, hne⟩ := st
    obtain ⟨xs, hq, hx⟩ := hg
    obtain ⟨its, rv, p, hz⟩ := I.tuple hq
    obtain ⟨f0, f1, f2, f3, f4, f5⟩ := hf it (by simp)
    have hl := rv.length
    have T : s.heap.IsTuple a its.toArray := p
    have hn : wpAny (model X.prog X.w) X.A (pyNext (.ref e)) (fun r s1 => r = none ∧ Inv X pins σ H s1) E s := by
      have hT : s.TypeIs (.ref e) "enumerate" := ⟨_, he, rfl⟩
      unfold pyNext
      refine wpAny_bind (wpAny_attempt (wpAny_callSpecial?_slot (name := Str.ofString "__next__") hT F.slot_enumerate_next (wpAny_call_entry F.slot_enumerate_next hT F.entry_enumerate_next ?_ (F.args_enumerate_next_1 _))))
      show wpAny _ _ (field (.ref e) 2 >>= _) _ _ _
      refine wpAny_bind (wpAny_field he rfl (x := .ref it) rfl ?_)
      refine wpAny_bind (wpAny_nextOf_tuple_end (A := X.A.in1) (I.ok.hd hc) hit T (by simp; omega) fun h' x he' hx' => ?_)
      obtain ⟨o, ho, hcl⟩ := hx'
      refine wpAny_bind (wpAny_isInstance (T := "StopIteration") (b := true) ⟨o, ho, hcl⟩ isSubtype_stop ?_)
      exact wpAny_pure ⟨rfl, I.turned (t' := s.toks) (fun b o hb q => he' b o hb q) f0 f1 f3 f4 f5⟩
    exact hn
  self := fun A i s Q E st h => by
    obtain ⟨⟨_, he⟩, _⟩ := st
    exact wpAny_pyIter_enum he h
def iEnumT (K : PySem.W.Frag) (ta : TA) : TI := fun σ H R => ta σ H fun vs H1 => ∃ a xs, vs = [.ref a] ∧ SqT K H1 a xs ∧ R (Itu K a) H1
theorem pi_enumT {X : Cx} {e : Expr} {ta : TA} {p pos tpos : Pos} {elts : List Expr} {kk : Nat} (hg : Gl X "enumerate") (hm : X.mg "enumerate" = none) (ha : PA X [e] ta) (hs : starEach [e] X.env = [(false, eval e X.env)] := by rfl) :
    PI X (.Tuple elts kk tpos) (.Call (.Name "enumerate" p) [e] [] pos) (iEnumT X.K ta) := by
  constructor
  intro pins s σ H R I h
  refine Call_ (ld_blt I hg hm boot_enumerate (PyProof.Rows.callWith_type1 (thn (ha.run pos pins s σ H _ I h) fun us s1 got => ?_) hs rfl))
  obtain ⟨vs, H1, I1, r1, a, xs, rfl, hq, q⟩ := got
  cases r1 with
  | cons r rr =>
    cases rr
    cases r
    obtain ⟨its, rv, p', hz⟩ := I1.tuple hq
    have alt : a < s1.heap.objs.size := by
      obtain ⟨o, g, _⟩ := id p'
      exact Heap.lt_size g
    refine call_enumT (show s1.heap.IsTuple a its.toArray from p') fun h' he hit hk => wpAny_pyIter_enum he ?_
    refine ⟨s1.heap.objs.size + 1, [s1.heap.objs.size + 1, s1.heap.objs.size], _, _, H1, rfl, I1.kept (t' := s1.toks) hk, turn_enumT a (s1.heap.objs.size + 1) s1.heap.objs.size (Nat.ne_of_lt (Nat.lt_succ_of_lt alt)) (Nat.ne_of_lt alt), ⟨⟨.none, he⟩, hit, Nat.succ_ne_self _⟩, fun b hb => ?_, q⟩
    have hle : s1.heap.objs.size ≤ b := by
      rcases List.mem_cons.mp hb with rfl | hb
      · exact Nat.le_add_right _ _
      · obtain rfl := List.mem_singleton.mp hb
        exact Nat.le_refl _
    exact I1.fpOk hle (I1.hok.fresh hle)
theorem walk_enumT {K : PySem.W.Frag} {a : Addr} {xs : List V} : Walk (Itu K a) xs.length (fun H => SqT K H a xs) (YPair (fun i => some (.int (i : Nat))) (fun i => xs[i]?)) := by
  refine ⟨fun i _ hi q => ⟨xs, xs[i], q, by simp [hi]⟩, fun _ q => ⟨xs, q, Nat.le_refl _⟩, fun i H v H' _ q y => ?_⟩
  obtain ⟨T, x, h1, h2, h3, h4⟩ := y
  exact ⟨T, .int (i : Nat), x, h1, h2, h3, rfl, h4 xs q⟩
theorem dc_it {J : It} {n : Nat} {G : Hp → Prop} {Y : Nat → Hp → V → Hp → Prop} (w : Walk J n G Y) {g : TG} {tt : TT} {tk tv : TE} {vs : List Nat} {σ : L2.St} {H1 : Hp} {D : Addr} {Qd : Hp → Prop} (Pv : Nat → Hp → Prop) (h0 : Pv 0 (upd H1 D (.dK []))) (hG : ∀ i H, i ≤ n → Pv i H → G H)
    (hs : ∀ i x H H', i < n → Pv i H → Y i H x H' → g x (wipe σ vs) H' fun σ2 H2 => wipe σ2 vs = wipe σ vs ∧ tt σ2 H2 fun b H3 =>
      if b = true then tk σ2 H3 fun y H4 => tv σ2 H4 fun z H5 => ∃ kvs k, y = kV k ∧ H5 D = some (.dK kvs) ∧ kvs.length < sizeLine ∧ Pv (i + 1) (upd H5 D (.dK (putK kvs k z))) else Pv (i + 1) H3) (hd : ∀ H, Pv n H → Qd H) :
    ∃ W : Nat → Nat → Hp → Prop, (∃ m, W 0 m (upd H1 D (.dK []))) ∧ ∀ i m H, W i m H →
      (J.stop i H ∧ Qd H) ∨ (J.go i H ∧ ∃ Nx : Hp → Prop, (∀ H', Nx H' → ∃ m', m' < m ∧ W (i + 1) m' H') ∧ ∀ x H', J.yld i H x H' → g x (wipe σ vs) H' fun σ2 H2 => wipe σ2 vs = wipe σ vs ∧ tt σ2 H2 fun b H3 =>
        if b = true then tk σ2 H3 fun y H4 => tv σ2 H4 fun z H5 => ∃ kvs k, y = kV k ∧ H5 D = some (.dK kvs) ∧ kvs.length < sizeLine ∧ Nx (upd H5 D (.dK (putK kvs k z))) else Nx H3) := by
  refine ⟨fun i m H => m = n - i ∧ i ≤ n ∧ Pv i H, ⟨n, rfl, Nat.zero_le _, h0⟩, fun i m H hW => ?_⟩
  obtain ⟨rfl, hi, p⟩ := hW
  have q := hG i H hi p
  rcases Nat.lt_or_eq_of_le hi with lt | rfl
  · exact .inr ⟨w.goes i H lt q, Pv (i + 1), fun H' p' => ⟨n - (i + 1), by omega, rfl, lt, p'⟩, fun x H' y => hs i x H H' lt p (w.yields i H x H' lt q y)⟩
  · exact .inl ⟨w.stops H q, hd H p⟩
/-! ### == and != of data with any texts -/
def rEqP (K : PySem.W.Frag) : R2 := fun x y H Q => ∃ d e, Dp K H x d ∧ Dp K H y e ∧ d.plain = true ∧ e.plain = true ∧ d.depth ≤ 60 ∧ Q (.bl (PyData.eqv d e)) H
def rNeP (K : PySem.W.Frag) : R2 := fun x y H Q => ∃ d e, Dp K H x d ∧ Dp K H y e ∧ d.plain = true ∧ e.plain = true ∧ d.depth ≤ 60 ∧ Q (.bl (!PyData.eqv d e)) H
theorem op_eqP {X : Cx} {k : Nat} (hr : Room k X.A) : OpR X (compareOp .Eq) (rEqP X.K) := by
  intro pins s σ H x y v u Q I rx ry h
  obtain ⟨d, e, hd, he, sd, se, dp, q⟩ := h
  obtain ⟨as, r1⟩ := Dp.reads I d x v hd rx
  obtain ⟨bs, r2⟩ := Dp.reads I e y u he ry
  have hu := hr.units
  exact SeqAt.eq_plain r1 r2 sd se (by omega) ⟨.bl _, H, I, rfl, q⟩
theorem op_neP {X : Cx} {k : Nat} (hr : Room k X.A) : OpR X (compareOp .NotEq) (rNeP X.K) := by
  intro pins s σ H x y v u Q I rx ry h
  obtain ⟨d, e, hd, he, sd, se, dp, q⟩ := h
  obtain ⟨as, r1⟩ := Dp.reads I d x v hd rx
  obtain ⟨bs, r2⟩ := Dp.reads I e y u he ry
  have hu := hr.units
  exact SeqAt.ne_plain r1 r2 sd se (by omega) ⟨.bl _, H, I, rfl, q⟩
/-! ### x in c, data with any texts -/
def rInP (K : PySem.W.Frag) : R2 := fun x y H Q => ∃ d ds, Dp K H x d ∧ Dp K H y (.list ds) ∧ d.plain = true ∧ PyData.plainAll ds = true ∧ d.depth ≤ 60 ∧ Q (.bl (ds.any fun z => PyData.eqv z d)) H
theorem op_inP {X : Cx} {k : Nat} (hr : Room k X.A) : OpR X (compareOp .In) (rInP X.K) := by
  intro pins s σ H x y v u Q I rx ry h
  obtain ⟨d, ds, hd, he, sd, se, dp, q⟩ := h
  obtain ⟨as, r1⟩ := Dp.reads I d x v hd rx
  obtain ⟨bs, r2⟩ := Dp.reads I (.list ds) y u he ry
  have hu := hr.units
  exact SeqAt.in_list_data r2 r1 se sd (by
    have := Nat.min_le_right (PyData.depthAll ds) d.depth
    omega) ⟨.bl _, H, I, rfl, q⟩
/-- what is never reached -/
theorem ps_never {X : Cx} {st : Stmt} : PS X st (fun _ _ _ => False) := ⟨fun _ _ _ _ _ _ h => h.elim⟩
theorem passN {X : Cx} : Passes (L2.CX X.prog X.w) X E0 := fun _ _ _ _ _ _ _ c => by
  obtain ⟨_, _, _, _, _, _, _, _, _, _, _, _, y⟩ := c
  exact y.elim
end DR

namespace DR
open PySem PySem.Spec PyProof.Rows L2
/-! ### forms, names, words -/
theorem form_len (l : Mul) : (form l).length ≤ l.length := by
  unfold form
  rw [List.length_map, (List.mergeSort_perm _ _).length_eq]
  unfold keysN
  refine Nat.le_trans (List.length_filter_le _ _) ?_
  rw [List.length_map]
  exact Nat.le_refl _
theorem form_nod {l : Mul} (nd : NodK l) : NodK (form l) := by
  unfold NodK form
  rw [List.map_map]
  have e : (((keysN l).mergeSort le2).map ((fun x => x.1) ∘ fun u => (u, getI l u))) = (keysN l).mergeSort le2 := by
    conv => rhs; rw [← List.map_id ((keysN l).mergeSort le2)]
    rfl
  rw [e]
  exact (List.mergeSort_perm _ _).nodup_iff.mpr (keysN_nod nd)
theorem acc_nod (l : Mul) : NodK (accAll l) := (acc_go l [] List.nodup_nil).1
theorem form_keys {Pr : List Key → Prop} {l : Mul} (h : ∀ u ∈ l.map (·.1), Pr u) : ∀ u ∈ (form l).map (·.1), Pr u := fun u hu => by
  unfold form at hu
  rw [List.map_map] at hu
  obtain ⟨x, hx, rfl⟩ := List.mem_map.mp hu
  exact h x (List.mem_filter.mp (mem_sort hx)).1
theorem plusA_keys {Pr : List Key → Prop} : ∀ (m l : Mul), (∀ u ∈ m.map (·.1), Pr u) → (∀ u ∈ l.map (·.1), Pr u) → ∀ u ∈ (plusA l m).map (·.1), Pr u
  | [], l, _, hl => hl
  | q :: m, l, hm, hl => plusA_keys m (addP l q.1 q.2) (fun u hu => hm u (List.mem_cons_of_mem _ hu)) (addP_keys hl (hm q.1 (List.mem_cons_self ..)))
theorem getI_acc (l : Mul) (u : List Key) : getI (accAll l) u = lin (isU u) l := by
  rw [getI_lin (acc_nod l)]
  have := (acc_go l [] List.nodup_nil).2 (isU u)
  unfold accAll
  rw [this]
  simp [lin]
theorem form_form {l : Mul} (nd : NodK l) (nm : ∀ u ∈ l.map (·.1), NmU u) : form (form l) = form l :=
  form_eq (form_nod nd) nd (form_keys nm) fun u => by rw [getI_lin (form_nod nd), getI_lin nd, lin_form nd]
theorem acc_one {ps : Mul} (nd : NodK ps) (nm : ∀ u ∈ ps.map (·.1), NmU u) : form (accAll ps) = form ps :=
  form_eq (acc_nod ps) nd (accA_nm nm) fun u => by rw [getI_acc, getI_lin nd]
/-- a name -/
structure NmOk (z : Str) : Prop where
  nm : isNmS z = true
  sh : z.length ≤ 1000
/-- the place of a piece, a name -/
def UkP (u : List Key) : Prop := ∃ k z, (k = sPiece ∨ k = sName) ∧ u = [.inr k, .inr z] ∧ NmOk z
theorem UkP.nmu {u : List Key} (h : UkP u) : NmU u := by
  obtain ⟨k, z, hk, rfl, _⟩ := h
  rcases hk with rfl | rfl
  · exact ⟨sPiece, .inr z, rfl, by decide +kernel, ⟨fun ⟨i, e⟩ => absurd e (by intro z; cases z), fun e => absurd e (by decide +kernel)⟩⟩
  · exact ⟨sName, .inr z, rfl, by decide +kernel, ⟨fun ⟨i, e⟩ => absurd e (by intro z; cases z), fun e => absurd e (by decide +kernel)⟩⟩
theorem unk_rd {k z : Str} {i : Int} (r : rank k = some i) (n : ¬ k = sIn) (hz : NmOk z) : readUnk (unkD [.inr k, .inr z]) = some [.inr k, .inr z] := by
  show (rank k).bind (fun _ => (ofKey k (.str z)).map fun y => ([.inr k, y] : List Key)) = _
  rw [r]
  show (ofKey k (.str z)).map (fun y => ([.inr k, y] : List Key)) = _
  unfold ofKey
  rw [if_neg n]
  show (if isNmS z = true then some (Sum.inr z : Key) else none).map _ = _
  rw [if_pos hz.nm]
  rfl
theorem UkP.rd {u : List Key} (h : UkP u) : readUnk (unkD u) = some u := by
  obtain ⟨k, z, hk, rfl, hz⟩ := h
  rcases hk with rfl | rfl
  · exact unk_rd (i := 0) (by decide +kernel) (by decide +kernel) hz
  · exact unk_rd (i := 1) (by decide +kernel) (by decide +kernel) hz
theorem UkP.shp {u : List Key} (h : UkP u) : shortP (unkD u) := by
  obtain ⟨k, z, hk, rfl, hz⟩ := h
  rcases hk with rfl | rfl
  · exact ⟨by show sPiece.length ≤ 1000; decide +kernel, hz.sh⟩
  · exact ⟨by show sName.length ≤ 1000; decide +kernel, hz.sh⟩
/-- a word in its one form -/
structure WdOk (n : Int) (ps : Mul) : Prop where
  nod : NodK ps
  uk : ∀ u ∈ ps.map (·.1), UkP u
  one : form ps = ps
  few : ps.length ≤ 5
  sz : ∀ q ∈ ps, Sz q.2
  nz : Sz n
theorem WdOk.nm {n : Int} {ps : Mul} (h : WdOk n ps) : ∀ u ∈ ps.map (·.1), NmU u := fun u hu => (h.uk u hu).nmu
theorem readUnk_nm {x : PyData} {u : List Key} (h : readUnk x = some u) : NmU u := by
  have go : ∀ (k : Str) (o : PyData), unkOf k o = some u → NmU u := fun k o e => by
    unfold unkOf at e
    cases hr : rank k with
    | none => rw [hr] at e; cases e
    | some i =>
      rw [hr] at e
      have e' : (ofKey k o).map (fun z => [.inr k, z]) = some u := e
      cases hk : ofKey k o with
      | none => rw [hk] at e'; cases e'
      | some z =>
        rw [hk] at e'
        obtain rfl := Option.some.inj e'
        refine ⟨k, z, rfl, by rw [hr]; rfl, ?_⟩
        unfold ofKey at hk
        by_cases c : k = sIn
        · rw [if_pos c] at hk
          refine ⟨fun _ => c, fun _ => ?_⟩
          cases o with
          | int i =>
            dsimp only at hk
            split at hk
            · exact ⟨i, (Option.some.inj hk).symm⟩
            · cases hk
          | _ => cases hk
        · rw [if_neg c] at hk
          refine ⟨fun ⟨i, ei⟩ => ?_, fun z => absurd z c⟩
          cases o with
          | str s =>
            dsimp only at hk
            split at hk
            · rw [ei] at hk
              cases hk
            · cases hk
          | _ => cases hk
  unfold readUnk at h
  split at h
  · exact go _ _ h
  · exact go _ _ h
  · cases h
theorem parts_rd : ∀ (l acc : Mul), (∀ q ∈ l, UkP q.1) → readParts (l.map partD) acc = some (l.foldl (fun a q => addP a q.1 q.2) acc)
  | [], acc, _ => rfl
  | q :: l, acc, h => by
    have e : addPart acc (partD q) = some (addP acc q.1 q.2) := by
      show (readUnk (unkD q.1)).map _ = _
      rw [(h q (List.mem_cons_self ..)).rd]
      rfl
    show (addPart acc (partD q)).bind (readParts (l.map partD)) = _
    rw [e]
    exact parts_rd l _ fun q' hq => h q' (List.mem_cons_of_mem _ hq)
theorem WdOk.rd {n : Int} {ps : Mul} (h : WdOk n ps) : readSum (sumD n ps) = some (n, ps) := by
  show (readParts (ps.map partD) []).map (fun kvs => (n, form kvs)) = _
  rw [parts_rd ps [] fun q hq => h.uk q.1 (List.mem_map.mpr ⟨q, hq, rfl⟩)]
  show some (n, form (accAll ps)) = _
  rw [acc_one h.nod h.nm, h.one]
theorem WdOk.oks {n : Int} {ps : Mul} (h : WdOk n ps) : okSum (sumD n ps) := by
  intro n' q ds e1 e2
  obtain rfl : q = .tuple (ps.map partD) := by
    have := Option.some.inj (show some [PyData.int n, .tuple (ps.map partD)] = some [.int n', q] from e1)
    exact (List.cons.inj (List.cons.inj this).2).1.symm
  obtain rfl := Option.some.inj (show some (ps.map partD) = some ds from e2)
  have few := h.few
  refine ⟨by rw [List.length_map]; omega, fun p hp => ?_⟩
  obtain ⟨q, hq, rfl⟩ := List.mem_map.mp hp
  intro x m e
  obtain rfl : x = unkD q.1 := by
    have := Option.some.inj (show some [unkD q.1, .int q.2] = some [x, .int m] from e)
    exact (List.cons.inj this).1.symm
  exact ⟨(h.uk q.1 (List.mem_map.mpr ⟨q, hq, rfl⟩)).shp, fun u hu => readUnk_nm hu⟩
/-! ### read_address, worth_at -/
def spReadAddr (K : PySem.W.Frag) : Sp := fun vs H Q _ => ∃ (a : Addr) (z : Str) (n : Int), vs = [.ref a] ∧ H a = some (.tup [.str z, .int n]) ∧ NmOk z ∧ ∀ p H', Same H H' → H p = none → H' p = some (.tup [.str z, .int n]) → Q (.ref p) H'
abbrev sReadAddr : Stmt := topS 15
theorem scReadAddr : FnScope ["thing"] ["thing"] (defScope sReadAddr) := ⟨rfl, rfl, rfl, by decide +kernel, rfl, by decide +kernel, by decide +kernel⟩
section
variable {P : Program} {w : World} {K : PySem.W.Frag} {mg : Str → Option Value} {base : Heap}
theorem ok_readAddr {f : Addr} {fd : FuncData} (F : Fun K "read_address" "read_address" sReadAddr f fd) (G1 : Has P w K mg base CX0 2 "is_row_of" ["thing", "many"] (spIsRowOf K)) (G2 : Has P w K mg base CX0 2 "is_name" ["thing"] (spIsName K)) (G3 : Has P w K mg base CX0 2 "is_integer" ["thing"] (spIsInt K)) : FnOk P w K mg base CX0 3 f fd ["thing"] (spReadAddr K) := by
  refine F.ok scReadAddr (fun vs H Q E h => ?_) (fun cdv A outer s H vs Q E hr h => ?_)
  · obtain ⟨a, z, n, rfl, _⟩ := h
    rfl
  · obtain ⟨a, z, n, rfl, ha, hz, q⟩ := h
    refine ⟨_, (pss_cons (ps_if (PW.pt (pw_or (pt_not (pt_val (pe_callH G1 hr (by rfl) pass0 (pa_cons (pv 0) (pa_cons pe_int pa_nil))))) (pw_or (pt_not (pt_val (pe_callH G2 hr (by rfl) pass0 (pa_cons (pe_ix ix_tup (pv 0) pe_int (fun _ _ => rfl)) pa_nil)))) (pw_or1 (pt_not (pt_val (pe_callH G3 hr (by rfl) pass0 (pa_cons (pe_ix ix_tup (pv 0) pe_int (fun _ _ => rfl)) pa_nil)))))))) (pss_one (ps_ret pe_non)) pss_nil)
      (pss_one (ps_ret (pe_tup (pa_cons (pe_ix ix_tup (pv 0) pe_int (fun _ _ => rfl)) (pa_cons (pe_ix ix_tup (pv 0) pe_int (fun _ _ => rfl)) pa_nil)))))), ?_⟩
    refine ⟨_, rfl, .ref a, .tuple [.str z, .int n], 2, rfl, .dat (.tup (SqT.of ha) (.cons (.str z) (.cons (.int n) .nil))), fun H1 s1 => ⟨_, rfl, ?_⟩⟩
    refine iteF ⟨_, rfl, a, _, _, _, rfl, rfl, SqT.of (s1 _ _ ha), at_of (i := 0) rfl, .str z, .str z, rfl, .dat (.str z), hz.sh, fun H2 s2 => ⟨_, rfl, ?_⟩⟩
    rw [show isNm (.str z) = true from hz.nm]
    have s12 := s1.trans s2
    refine iteF ⟨_, rfl, a, _, _, _, rfl, rfl, SqT.of (s12 _ _ ha), at_of (i := 1) rfl, .int n, .int n, rfl, .dat (.int n), _, rfl, ?_⟩
    refine iteF ⟨_, rfl, a, _, _, _, rfl, rfl, SqT.of (s12 _ _ ha), at_of (i := 0) rfl, _, rfl, a, _, _, _, rfl, rfl, SqT.of (s12 _ _ ha), at_of (i := 1) rfl, (by show 2 ≤ sizeLine; decide), fun p hp => ?_⟩
    refine q p _ (s12.trans (same_new hp)) ?_ upd_same
    cases e : H p with
    | none => rfl
    | some o => rw [s12 _ _ e] at hp; cases hp
end
end DR

namespace DR
open PySem PySem.Spec PyProof.Rows L2
/-! ### pieces of any data -/
abbrev Pk := Str × Str × List (Int × Mul)
abbrev SumP (H : Hp) (v : V) (q : Int × Mul) : Prop := SumT H v q.1 q.2
def PieceG (H : Hp) (v : V) (q : Pk) : Prop := ∃ a b ws, v = .ref a ∧ H a = some (.tup [.str q.1, .str q.2.1, .ref b]) ∧ H b = some (.tup ws) ∧ PySem.W.EachIs (SumP H) ws q.2.2
theorem pieceG_s {H H' : Hp} (e : TupS H H') {v : V} {q : Pk} (h : PieceG H v q) : PieceG H' v q := by
  obtain ⟨a, b, ws, h1, h2, h3, h4⟩ := h
  exact ⟨a, b, ws, h1, e _ _ h2, e _ _ h3, eachs_imp (fun _ _ => sumT_s e) h4⟩
def PcV (H : Hp) (v : V) : Option Pk → Prop
  | none => v = .non
  | some q => PieceG H v q
def readAllS : List PyData → Option (List (Int × Mul))
  | [] => some []
  | w :: r => (readSum w).bind fun s => (readAllS r).map fun l => s :: l
def kinds2 : List Str := ["code", "data"]
def readPc (d : PyData) : Option Pk := match items d with
  | some [.str p, .str k, ws] => if isNmS p = true ∧ k ∈ kinds2 then (items ws).bind fun wl => (readAllS wl).map fun l => (p, k, l) else none
  | _ => none
def okPc (d : PyData) : Prop := ∀ p k ws, items d = some [p, k, ws] → shortS p ∧ ∀ wl, items ws = some wl → wl.length ≤ 100 ∧ ∀ w ∈ wl, okSum w
theorem th_items {K : PySem.W.Frag} {H : Hp} {v : V} {d : PyData} {ds : List PyData} (h : Th K H v d) (e : items d = some ds) : ∃ a xs, v = .ref a ∧ (SqL K H a xs ∨ SqT K H a xs) ∧ DpAll K H xs ds := by
  cases h with
  | dct h => cases e
  | dat h =>
    cases h with
    | lst s t => cases e; exact ⟨_, _, rfl, .inl s, t⟩
    | tup s t => cases e; exact ⟨_, _, rfl, .inr s, t⟩
    | non => cases e
    | bl b => cases e
    | int i => cases e
    | str x => cases e
theorem readParts_nm : ∀ {ds : List PyData} {acc kvs : Mul}, (∀ u ∈ acc.map (·.1), NmU u) → readParts ds acc = some kvs → ∀ u ∈ kvs.map (·.1), NmU u
  | [], acc, kvs, h, e => by cases e; exact h
  | p :: ds, acc, kvs, h, e => by
    have e : (addPart acc p).bind (readParts ds) = some kvs := e
    cases e1 : addPart acc p with
    | none => rw [e1] at e; cases e
    | some acc' =>
      rw [e1] at e
      refine readParts_nm ?_ (show readParts ds acc' = some kvs from e)
      unfold addPart at e1
      split at e1
      · rename_i x m _
        cases e2 : readUnk x with
        | none => rw [e2] at e1; cases e1
        | some u =>
          rw [e2] at e1
          cases e1
          exact putI_keys (readUnk_nm e2) h
      · cases e1
theorem readSum_nm {d : PyData} {n : Int} {ps : Mul} (e : readSum d = some (n, ps)) : ∀ u ∈ ps.map (·.1), NmU u := by
  unfold readSum at e
  split at e
  · cases e
    intro u hu
    simp at hu
  · split at e
    · rename_i q _
      cases e1 : items q with
      | none => rw [e1] at e; cases e
      | some ds =>
        rw [e1] at e
        have e : (readParts ds []).map (fun kvs => (_, form kvs)) = some (n, ps) := e
        cases e2 : readParts ds [] with
        | none => rw [e2] at e; cases e
        | some kvs =>
          rw [e2] at e
          cases e
          exact form_keys (readParts_nm (fun u hu => by simp at hu) e2)
    · cases e
theorem plain_sumD {n : Int} {ps : Mul} (nm : ∀ u ∈ ps.map (·.1), NmU u) : (sumD n ps).plain = true := by
  have go : ∀ ps : Mul, (∀ u ∈ ps.map (·.1), NmU u) → PyData.plainAll (ps.map partD) = true := fun ps => by
    induction ps with
    | nil => exact fun _ => rfl
    | cons q l ih =>
      intro hn
      have a1 := plain_unkD (hn q.1 (List.mem_cons_self ..))
      have a2 := ih fun u hu => hn u (List.mem_cons_of_mem _ hu)
      rw [List.map_cons]
      simp [PyData.plainAll, partD, PyData.plain, a1, a2]
  have h2 := go ps nm
  simp [sumD, PyData.plainAll, PyData.plain, h2]
/-- what a word comes to, as data -/
def rsD (w : PyData) : PyData := match readSum w with
  | none => .none
  | some s => sumD s.1 s.2
theorem rsD_plain : ∀ wl : List PyData, PyData.plainAll (wl.map rsD) = true
  | [] => rfl
  | w :: wl => by
    have h : (rsD w).plain = true := by
      unfold rsD
      cases e : readSum w with
      | none => rfl
      | some s =>
        obtain ⟨n, ps⟩ := s
        exact plain_sumD (readSum_nm e)
    rw [List.map_cons]
    show (_ && _) = true
    rw [h, rsD_plain wl]
    rfl
theorem rsD_none (wl : List PyData) : ((wl.map rsD).any fun z => PyData.eqv z .none) = wl.any fun w => (readSum w).isNone := by
  rw [List.any_map]
  congr 1
  funext w
  show PyData.eqv (rsD w) .none = _
  unfold rsD
  cases readSum w with
  | none => rfl
  | some s => rfl
abbrev SumO (K : PySem.W.Frag) (H : Hp) (v : V) (w : PyData) : Prop := SumV K H v (readSum w)
theorem sumO_s {K : PySem.W.Frag} {H H' : Hp} (e : TupS H H') {v : V} {w : PyData} (h : SumO K H v w) : SumO K H' v w := by
  unfold SumO at h ⊢
  cases e1 : readSum w with
  | none => rw [e1] at h; exact h
  | some s =>
    obtain ⟨n, ps⟩ := s
    rw [e1] at h
    exact sumT_s e h
theorem sumO_dp {K : PySem.W.Frag} {H : Hp} : ∀ {vs : List V} {wl : List PyData}, PySem.W.EachIs (SumO K H) vs wl → DpAll K H vs (wl.map rsD)
  | _, _, .nil => .nil
  | _, w :: _, .cons (a := v) h t => by
    have hd : Dp K H v (rsD w) := by
      have h : SumV K H v (readSum w) := h
      unfold rsD
      cases e : readSum w with
      | none =>
        rw [e] at h
        obtain rfl : v = .non := h
        exact .non
      | some s =>
        obtain ⟨n, ps⟩ := s
        rw [e] at h
        exact sumT_dp h
    exact .cons hd (sumO_dp t)
theorem sumO_all {K : PySem.W.Frag} {H : Hp} : ∀ {vs : List V} {wl : List PyData}, PySem.W.EachIs (SumO K H) vs wl → (wl.any fun w => (readSum w).isNone) = false → ∃ l, readAllS wl = some l ∧ PySem.W.EachIs (SumP H) vs l
  | _, _, .nil, _ => ⟨[], rfl, .nil⟩
  | _, w :: wl, .cons h t, e => by
    rw [List.any_cons, Bool.or_eq_false_iff] at e
    obtain ⟨l, h1, h2⟩ := sumO_all t e.2
    have h : SumV K H _ (readSum w) := h
    cases e1 : readSum w with
    | none => rw [e1] at e; cases e.1
    | some s =>
      obtain ⟨n, ps⟩ := s
      rw [e1] at h
      refine ⟨(n, ps) :: l, ?_, .cons h h2⟩
      show (readSum w).bind _ = _
      rw [e1, h1]
      rfl
theorem sumO_no : ∀ {wl : List PyData}, (wl.any fun w => (readSum w).isNone) = true → readAllS wl = none
  | w :: wl, e => by
    show (readSum w).bind _ = none
    cases e1 : readSum w with
    | none => rfl
    | some s =>
      have : (wl.any fun w => (readSum w).isNone) = true := by
        rw [List.any_cons, e1] at e
        exact e
      show ((readAllS wl).map _) = none
      rw [sumO_no this]
      rfl
def spReadPc (K : PySem.W.Frag) : Sp := fun vs H Q _ => ∃ v d, vs = [v] ∧ Th K H v d ∧ okPc d ∧ ∀ v' H', Same H H' → PcV H' v' (readPc d) → Q v' H'
abbrev sReadPc : Stmt := topS 23
theorem three {d : PyData} (e : isRof d 3 = true) : ∃ x y z, items d = some [x, y, z] := by
  unfold isRof at e
  cases h : items d with
  | none => rw [h] at e; cases e
  | some xs =>
    rw [h] at e
    have e : (xs.length : Int) = 3 := of_decide_eq_true e
    match xs, e with
    | [x, y, z], _ => exact ⟨x, y, z, rfl⟩
    | [], z => exact absurd z (by decide)
    | [_], z => exact absurd z (by simp)
    | [_, _], z => exact absurd z (by simp)
    | _ :: _ :: _ :: _ :: _, z => simp at z; omega
theorem not_three {d : PyData} (e : isRof d 3 = false) : readPc d = none := by
  unfold readPc
  split
  · rename_i p k ws h
    unfold isRof at e
    rw [h] at e
    simp at e
  · rfl
end DR

namespace DR
open PySem PySem.Spec PyProof.Rows L2
theorem scReadPc : FnScope ["thing", "p", "kind", "words", "sums", "word"] ["thing"] (defScope sReadPc) := ⟨rfl, rfl, rfl, by decide +kernel, rfl, by decide +kernel, by decide +kernel⟩
theorem in_kinds (k : Str) : inV (.str k) [V.str "code", V.str "data"] = decide (k ∈ kinds2) := by
  unfold inV kinds2
  rw [Bool.eq_iff_iff, List.any_eq_true, decide_eq_true_iff]
  constructor
  · rintro ⟨x, hx, e⟩
    simp only [List.mem_cons, List.not_mem_nil, or_false] at hx
    rcases hx with rfl | rfl
    · have e : (("code" : Str) == k) = true := e
      simp at e
      simp [← e]
    · have e : (("data" : Str) == k) = true := e
      simp at e
      simp [← e]
  · intro h
    simp only [List.mem_cons, List.not_mem_nil, or_false] at h
    rcases h with rfl | rfl
    · exact ⟨.str "code", by simp, show (("code" : Str) == "code") = true by simp⟩
    · exact ⟨.str "data", by simp, show (("data" : Str) == "data") = true by simp⟩
theorem go2 {K : PySem.W.Frag} {H : Hp} : ∀ {vs : List V} {ds : List PyData}, DpAll K H vs ds → vs.length = ds.length
  | _, _, .nil => rfl
  | _, _, .cons _ t => by rw [List.length_cons, List.length_cons, go2 t]
section
variable {P : Program} {w : World} {K : PySem.W.Frag} {mg : Str → Option Value} {base : Heap}
theorem ok_readPc {f : Addr} {fd : FuncData} (F : Fun K "read_piece" "read_piece" sReadPc f fd) (T : Bi mg) (G1 : Has P w K mg base CX0 4 "is_row_of" ["thing", "many"] (spIsRowOf K)) (G2 : Has P w K mg base CX0 4 "is_name" ["thing"] (spIsName K)) (G3 : Has P w K mg base CX0 4 "is_row" ["thing"] (spIsRow K)) (G4 : Has P w K mg base CX0 4 "read_sum" ["thing"] (spReadSum K)) : FnOk P w K mg base CX0 5 f fd ["thing"] (spReadPc K) := by
  refine F.ok scReadPc (fun vs H Q E h => ?_) (fun cdv A outer s H vs Q E hr h => ?_)
  · obtain ⟨v, q, rfl, _⟩ := h
    rfl
  · obtain ⟨v, d, rfl, th, ok, q⟩ := h
    refine ⟨_, (pss_cons (ps_if (pt_not (pt_val (pe_callH G1 hr (by rfl) pass0 (pa_cons (pv 0) (pa_cons pe_int pa_nil))))) (pss_one (ps_ret pe_non)) pss_nil)
      (pss_cons (ps_asg (pv 0) (pg_row rfl (pgs_cons (pg_name (i := 1) scReadPc.nd rfl (.inl rfl)) (pgs_cons (pg_name (i := 2) scReadPc.nd rfl (.inl rfl)) (pgs_cons (pg_name (i := 3) scReadPc.nd rfl (.inl rfl)) pgs_nil)))))
      (pss_cons (ps_if (PW.pt (pw_or (pt_not (pt_val (pe_callH G2 hr (by rfl) pass0 (pa_cons (pv 1) pa_nil)))) (pw_or (pt_not (pt_val (pe_callB call_isi (by rfl) T.isinstance (by decide +kernel) (pa_cons (pv 2) (pa_cons (pe_bltn (v := .ty "str") (by rfl) T.str (by decide +kernel) rfl) pa_nil))))) (pw_or (pt_cmpR op_notIn_seq (pv 2) (pe_tup (pa_cons pe_str (pa_cons pe_str pa_nil))) (by rfl)) (pw_or1 (pt_not (pt_val (pe_callH G3 hr (by rfl) pass0 (pa_cons (pv 3) pa_nil))))))))) (pss_one (ps_ret pe_non)) pss_nil)
      (pss_cons (ps_setLc (i := 4) (own := [("word", 5)]) (g := gName 5) (tt := tYes) (te := tCall (spReadSum K) [] E0 (tCons (tVar 5) tNil)) rfl scReadPc.nd rfl rfl (sw_true rfl rfl rfl (by decide +kernel)) (pi_seq (pv 3)) (blkOk_by (N := ["thing", "p", "kind", "words", "sums", "word"]) (sc := defScope sReadPc) (by decide +kernel)) (fun _ _ _ _ _ => pg_name (i := 5) scReadPc.nd rfl (.inl rfl)) (fun _ _ _ _ _ => pts_nil) (fun _ _ _ _ _ => (pe_callH G4 hr (by rfl) pass0 (pa_cons (pv 5) pa_nil))))
      (pss_cons (ps_if (pt_cmpR (op_inP hr) pe_non (pv 4) (by rfl)) (pss_one (ps_ret pe_non)) pss_nil)
      (pss_one (ps_ret (pe_tup (pa_cons (pv 1) (pa_cons (pv 2) (pa_cons (pe_callTy call_tuple_of (by rfl) T.tuple (by decide +kernel) (pa_cons (pv 4) pa_nil)) pa_nil))))))))))), ?_⟩
    refine ⟨_, rfl, v, d, 3, rfl, th, fun H1 s1 => ⟨_, rfl, ?_⟩⟩
    cases e3 : isRof d 3 with
    | false => exact iteT (q _ _ s1 (by rw [not_three e3]; rfl))
    | true =>
      obtain ⟨x, y, z, ei⟩ := three e3
      obtain ⟨okx, okz⟩ := ok x y z ei
      obtain ⟨a, vs, rfl, hsq, hall⟩ := th_items (th_same s1 th) ei
      cases hall with
      | @cons v1 _ _ _ h1 t1 => cases t1 with
        | @cons v2 _ _ _ h2 t2 => cases t2 with
          | @cons v3 _ _ _ h3 t3 =>
            cases t3
            refine iteF ⟨_, rfl, ?_⟩
            have go : ∀ {t : TGs} {Q' : L2.St → Hp → Prop} {σ : L2.St}, t [v1, v2, v3] σ H1 Q' → gRow K 3 t (.ref a) σ H1 Q' := fun {t Q' σ} h => by
              rcases hsq with hs | hs
              · exact .inr ⟨a, _, rfl, hs, rfl, h⟩
              · exact .inl ⟨a, _, rfl, hs, rfl, h⟩
            refine go ⟨_, _, rfl, _, _, rfl, _, _, rfl, rfl, ?_⟩
            refine ⟨_, rfl, v1, x, rfl, .dat h1, okx, fun H2 s2 => ⟨_, rfl, ?_⟩⟩
            have no : ∀ {H' : Hp}, Same H1 H' → readPc d = none → Q .non H' := fun s' e => q _ _ (s1.trans s') (by rw [e]; rfl)
            cases en : isNm x with
            | false =>
              refine iteT (iteT (no s2 ?_))
              unfold readPc
              rw [ei]
              split
              · rename_i p k ws h
                cases h
                rw [if_neg (fun c => by rw [show isNmS p = false from en] at c; cases c.1)]
              · rfl
            | true =>
              obtain ⟨p, rfl, hp⟩ : ∃ p, x = .str p ∧ isNmS p = true := by
                cases x with
                | str p => exact ⟨p, rfl, en⟩
                | none => cases en
                | bool b => cases en
                | int i => cases en
                | list l => cases en
                | tuple l => cases en
                | dict l => cases en
              cases h1
              refine iteF ⟨_, rfl, v2, _, _, _, _, rfl, .ty "str", th_ty (.dat (dp_same s2 h2)), kit_str y, _, rfl, ?_⟩
              cases es : isS y with
              | false =>
                refine iteT (iteT (no s2 ?_))
                unfold readPc
                rw [ei]
                split
                · rename_i p k ws h
                  cases h
                  cases es
                · rfl
              | true =>
                obtain ⟨k, rfl⟩ : ∃ k, y = .str k := by
                  cases y with
                  | str p => exact ⟨p, rfl⟩
                  | none => cases es
                  | bool b => cases es
                  | int i => cases es
                  | list l => cases es
                  | tuple l => cases es
                  | dict l => cases es
                cases h2
                refine iteF ⟨_, rfl, (by show 2 ≤ sizeLine; decide), fun p3 n3 => ⟨p3, _, rfl, .inr (SqT.of upd_same), rfl, rfl, _, rfl, ?_⟩⟩
                have s3 := same_new (o := .tup [V.str "code", V.str "data"]) n3
                have s13 := s2.trans s3
                generalize upd H2 p3 (.tup [V.str "code", V.str "data"]) = H3 at s13 ⊢
                show (if (!inV (.str k) [V.str "code", V.str "data"]) = true then _ else _)
                rw [in_kinds]
                by_cases hk : k ∈ kinds2
                · rw [decide_eq_true hk]
                  refine iteF ⟨_, rfl, v3, z, rfl, .dat (dp_same s13 h3), fun H4 s4 => ⟨_, rfl, ?_⟩⟩
                  have s14 := s13.trans s4
                  have rp : ∀ r, (items z).bind (fun wl => (readAllS wl).map fun l => (p, k, l)) = r → readPc d = r := fun r e => by
                    unfold readPc
                    rw [ei]
                    show (if isNmS p = true ∧ k ∈ kinds2 then _ else _) = r
                    rw [if_pos ⟨hp, hk⟩]
                    exact e
                  cases ew : items z with
                  | none =>
                    have : isR z = false := by cases z <;> first | rfl | cases ew
                    rw [this]
                    exact iteT (no s14 (rp none (by rw [ew]; rfl)))
                  | some wl =>
                    have : isR z = true := by cases z <;> first | rfl | cases ew
                    rw [this]
                    obtain ⟨lw, okw⟩ := okz wl ew
                    obtain ⟨b, ws, e3', hws, hdw⟩ := th_items (.dat (dp_same s14 h3)) ew
                    subst e3'
                    have ll : ws.length = wl.length := go2 hdw
                    refine iteF ⟨_, rfl, b, ws, rfl, hws, fun J Gd W hG => fun D hD => ?_⟩
                    refine lc_it W (fun i H5 => (∀ c o, c ≠ D → H4 c = some o → H5 c = some o) ∧ ∃ zs, H5 D = some (.lst zs) ∧ zs.length = i ∧ PySem.W.EachIs (SumO K H5) zs (wl.take i))
                      ⟨fun c o hc e => by rw [upd_ne hc]; exact e, [], upd_same, rfl, .nil⟩ (fun i H5 _ ⟨kp, _⟩ => hG H5 (fun zz => sqL_same (fun c o e => kp c o (ne_of_none e hD) e) zz) (fun zz => sqT_same (fun c o e => kp c o (ne_of_none e hD) e) zz)) ?_ ?_
                    · rintro i u H5 H5' hi ⟨kp, zs, hD5, hl, hz⟩ ⟨rfl, hu⟩
                      obtain ⟨wd, hwd, hdd⟩ := dps_get hdw hu
                      have s5 : Same H4 H5' := fun c o e => kp c o (ne_of_none e hD) e
                      refine ⟨rfl, yes_go (iteT ⟨_, rfl, u, wd, rfl, .dat (dp_same s5 hdd), okw wd (List.mem_of_getElem? hwd), fun v' H6 s6 hv' => ?_⟩)⟩
                      have hD6 := s6 _ _ hD5
                      have ts := TupS.put (o' := .lst (zs ++ [v'])) hD6 (by intro xs z; cases z)
                      refine ⟨zs, hD6, small1000 (by omega), fun c o hc e => by rw [upd_ne hc]; exact s6 _ _ (kp c o hc e), zs ++ [v'], upd_same, by simp [hl], ?_⟩
                      rw [List.take_add_one, hwd]
                      exact eachs_snoc (R := SumO K _) (sumO_s ts hv') (eachs_imp (fun _ _ => sumO_s ((TupS.of s6).trans ts)) hz)
                    · rintro H5 ⟨kp, zs, hD5, hl, hz⟩
                      rw [ll, List.take_length] at hz
                      have s5 : Same H4 H5 := fun c o e => kp c o (ne_of_none e hD) e
                      refine ⟨_, rfl, .none, _, .non, .lst (SqL.of hD5) (sumO_dp hz), rfl, rsD_plain wl, by simp [PyData.depth], _, rfl, ?_⟩
                      rw [rsD_none]
                      cases ea : wl.any fun w => (readSum w).isNone with
                      | true => exact iteT (no (s14.trans s5) (rp none (by rw [ew]; show (readAllS wl).map _ = none; rw [sumO_no ea]; rfl)))
                      | false =>
                        obtain ⟨l, hl1, hl2⟩ := sumO_all hz ea
                        refine iteF ⟨_, rfl, _, rfl, _, rfl, D, zs, rfl, .inl ⟨SqL.of hD5, fun p6 n6 => ⟨(by show 3 ≤ sizeLine; decide), fun p7 n7 => ?_⟩⟩⟩
                        have s6 := same_new (o := .tup zs) n6
                        have s7 := same_new (o := .tup [V.str p, V.str k, V.ref p6]) n7
                        refine q _ _ ((((s1.trans s14).trans s5).trans s6).trans s7) ?_
                        rw [rp (some (p, k, l)) (by rw [ew]; show (readAllS wl).map _ = _; rw [hl1]; rfl)]
                        exact ⟨p7, p6, zs, rfl, upd_same, s7 _ _ upd_same, eachs_imp (fun _ _ => sumT_s (TupS.of (s6.trans s7))) hl2⟩
                · rw [decide_eq_false hk]
                  refine iteT (iteT (no s13 ?_))
                  unfold readPc
                  rw [ei]
                  show (if isNmS p = true ∧ k ∈ kinds2 then _ else _) = none
                  rw [if_neg (fun c => hk c.2)]
end
end DR

namespace DR
open PySem PySem.Spec PyProof.Rows L2
/-! ### enumerate of a list or a tuple -/
def iEnumS (K : PySem.W.Frag) (ta : TA) : TI := fun σ H R => iEnum K ta σ H R ∨ iEnumT K ta σ H R
theorem pi_enumS {X : Cx} {e : Expr} {ta : TA} {p pos tpos : Pos} {elts : List Expr} {kk : Nat} (hg : Gl X "enumerate") (hm : X.mg "enumerate" = none) (ha : PA X [e] ta) (hs : starEach [e] X.env = [(false, eval e X.env)] := by rfl) :
    PI X (.Tuple elts kk tpos) (.Call (.Name "enumerate" p) [e] [] pos) (iEnumS X.K ta) :=
  ⟨fun pins s σ H R I h => h.elim (fun z => (pi_enum hg hm ha hs).run pins s σ H R I z) fun z => (pi_enumT hg hm ha hs).run pins s σ H R I z⟩
theorem enumS_go {K : PySem.W.Frag} {i : Nat} {σ : L2.St} {H0 H : Hp} {R : It → Hp → Prop} {l : Addr} {xs : List V} (hv : σ[i]? = some (some (.ref l))) (hs : SqL K H0 l xs ∨ SqT K H0 l xs) (s0 : Same H0 H)
    (main : ∀ (J : It) (G : Hp → Prop), Walk J xs.length G (YPair (fun i => some (.int (i : Nat))) (fun i => xs[i]?)) → (∀ H4, Same H0 H4 → G H4) → R J H) : iEnumS K (tCons (tVar i) tNil) σ H R := by
  rcases hs with hs | hs
  · exact .inl ⟨_, hv, l, xs, rfl, sqL_same s0 hs, main _ _ walk_enum fun H4 a => sqL_same a hs⟩
  · exact .inr ⟨_, hv, l, xs, rfl, sqT_same s0 hs, main _ _ walk_enumT fun H4 a => sqT_same a hs⟩
/-! ### read_pieces -/
def GoodP (d : PyData) (q : Pk) : Prop := readPc d = some q
/-- what is wrong with the thing at i -/
def BadP (ds : List PyData) (i : Nat) : Prop := ∃ x qs, ds[i]? = some x ∧ PySem.W.EachIs GoodP (ds.take i) qs ∧ (qs.map (·.1)).Nodup ∧ (readPc x = none ∨ ∃ q, readPc x = some q ∧ q.1 ∈ qs.map (·.1))
/-- a thing, or a row of things -/
def ThE (K : PySem.W.Frag) (H : Hp) (v : V) (d : PyData) : Prop := (items d = none ∧ Th K H v d) ∨ ∃ a xs ds, v = .ref a ∧ items d = some ds ∧ (SqL K H a xs ∨ SqT K H a xs) ∧ PySem.W.EachIs (Th K H) xs ds
theorem ths_of {K : PySem.W.Frag} {H : Hp} : ∀ {vs : List V} {ds : List PyData}, DpAll K H vs ds → PySem.W.EachIs (Th K H) vs ds
  | _, _, .nil => .nil
  | _, _, .cons h t => .cons (.dat h) (ths_of t)
theorem thE_of {K : PySem.W.Frag} {H : Hp} {v : V} {d : PyData} (h : Th K H v d) : ThE K H v d := by
  cases e : items d with
  | none => exact .inl ⟨e, h⟩
  | some ds =>
    obtain ⟨a, xs, rfl, hsq, hall⟩ := th_items h e
    exact .inr ⟨a, xs, ds, rfl, e, hsq, ths_of hall⟩
theorem thE_same {K : PySem.W.Frag} {H H' : Hp} (e : Same H H') {v : V} {d : PyData} (h : ThE K H v d) : ThE K H' v d := by
  rcases h with ⟨n, h⟩ | ⟨a, xs, ds, h1, h2, h3, h4⟩
  · exact .inl ⟨n, th_same e h⟩
  · exact .inr ⟨a, xs, ds, h1, h2, row_sq e h3, eachs_imp (fun _ _ => th_same e) h4⟩
def spIsRowA (K : PySem.W.Frag) : Sp := fun vs H Q _ => ∃ v d, vs = [v] ∧ ThE K H v d ∧ ∀ H', Same H H' → Q (.bl (isR d)) H'
theorem ok_isRowA {P : Program} {w : World} {K : PySem.W.Frag} {mg : Str → Option Value} {base : Heap} {f : Addr} {fd : FuncData} (F : Fun K "is_row" "is_row" sIsRow f fd) (T : Bi mg) : FnOk P w K mg base CX0 1 f fd ["thing"] (spIsRowA K) := by
  refine F.ok scIsRow (fun vs H Q E h => ?_) (fun cdv A outer s H vs Q E hr h => ?_)
  · obtain ⟨v, d, rfl, _⟩ := h
    rfl
  · obtain ⟨v, d, rfl, th, q⟩ := h
    refine ⟨_, (pss_one (ps_ret (pe_callB call_isiT (by rfl) T.isinstance (by decide +kernel) (pa_cons (pv 0) (pa_cons (pe_tup (pa_cons (pe_bltn (v := .ty "list") (by rfl) T.list (by decide +kernel) rfl) (pa_cons (pe_bltn (v := .ty "tuple") (by rfl) T.tuple (by decide +kernel) rfl) pa_nil))) pa_nil))))), ?_⟩
    refine ⟨_, rfl, (by show 2 ≤ sizeLine; decide), fun p hp => ?_⟩
    have s1 := same_new (o := .tup [V.ty "list", V.ty "tuple"]) hp
    rcases thE_same s1 th with ⟨n, th1⟩ | ⟨a, xs, ds, rfl, ei, hsq, _⟩
    · exact ⟨v, p, _, _, _, _, rfl, upd_same, .cons (.ty "list") (.cons (.ty "tuple") .nil), th_ty th1, kit_row d, q _ s1⟩
    · have e : isR d = true := by cases d <;> first | rfl | cases ei
      rw [e] at q
      rcases hsq with h | h
      · exact ⟨.ref a, p, _, _, _, _, rfl, upd_same, .cons (.ty "list") (.cons (.ty "tuple") .nil), ty_list h, kit_row (.list []), q _ s1⟩
      · exact ⟨.ref a, p, _, _, _, _, rfl, upd_same, .cons (.ty "list") (.cons (.ty "tuple") .nil), ty_tup h, kit_row (.tuple []), q _ s1⟩
def spReadPcs (K : PySem.W.Frag) (CB : Addr) : Sp := fun vs H Q E => ∃ v d, vs = [v] ∧ ThE K H v d ∧
  ((items d = none ∧ ∀ H' dx, Same H H' → H' dx = none → E (.ref CB) (some dx) (upd H' dx (.xd [("index", .int 0)]))) ∨
   ∃ ds, items d = some ds ∧ ds.length ≤ 20 ∧ (∀ x ∈ ds, okPc x) ∧ (∀ i, BadP ds i → ∀ H' dx, Same H H' → H' dx = none → E (.ref CB) (some dx) (upd H' dx (.xd [("index", .int (i : Nat))]))) ∧
     ∀ qs, PySem.W.EachIs GoodP ds qs → (qs.map (·.1)).Nodup → ∀ D ys H', Same H H' → H D = none → H' D = some (.lst ys) → PySem.W.EachIs (PieceG H') ys qs → Q (.ref D) H')
abbrev sReadPcs : Stmt := topS 24
theorem scReadPcs : FnScope ["pieces", "found", "stood", "index", "thing", "piece"] ["pieces"] (defScope sReadPcs) := ⟨rfl, rfl, rfl, by decide +kernel, rfl, by decide +kernel, by decide +kernel⟩
theorem none_of {H H' : Hp} {b : Addr} (s : Same H H') (h : H' b = none) : H b = none := by
  cases e : H b with
  | none => rfl
  | some o => rw [s _ _ e] at h; cases h
def stoodD (zs : List Str) : List (Key × V) := zs.map fun z => (.inr z, V.bl true)
theorem stood_val (zs : List Str) (z : Str) : (valV (stoodD zs) (.inr z)).isSome = decide (z ∈ zs) := by
  unfold valV stoodD
  induction zs with
  | nil => rfl
  | cons y zs ih =>
    rw [List.map_cons]
    by_cases c : y = z
    · subst c
      rw [List.find?_cons_of_pos (by simp)]
      simp
    · rw [List.find?_cons_of_neg (by simp [c])]
      rw [ih]
      simp [Ne.symm c]
theorem stood_put (zs : List Str) {z : Str} (h : z ∉ zs) : putK (stoodD zs) (.inr z) (.bl true) = stoodD (zs ++ [z]) := by
  unfold putK stoodD
  rw [if_neg]
  · rw [List.map_append]
    rfl
  · intro c
    obtain ⟨p, hp, e⟩ := List.any_eq_true.mp c
    obtain ⟨y, hy, rfl⟩ := List.mem_map.mp hp
    have : y = z := Sum.inr.inj (of_decide_eq_true e)
    exact h (this ▸ hy)
section
variable {P : Program} {w : World} {K : PySem.W.Frag} {mg : Str → Option Value} {base : Heap}
theorem ok_readPcs {f CB : Addr} {fd : FuncData} (F : Fun K "read_pieces" "read_pieces" sReadPcs f fd) (T : Bi mg) (S : Err P w K mg base "BadPiece" CB "index") (G1 : Has P w K mg base CX0 5 "is_row" ["thing"] (spIsRowA K)) (G2 : Has P w K mg base CX0 5 "read_piece" ["thing"] (spReadPc K)) : FnOk P w K mg base (L2.CX P w) 6 f fd ["pieces"] (spReadPcs K CB) := by
  refine F.okX scReadPcs (fun vs H Q E h => ?_) (fun cdv A outer s H vs Q E hr h => ?_)
  · obtain ⟨v, d, rfl, _⟩ := h
    rfl
  · obtain ⟨v, d, rfl, th, want⟩ := h
    have hu := hu_of hr
    refine ⟨_, (pss_cons (ps_if (pt_not (pt_val (pe_callH G1 hr (by rfl) pass0 (pa_cons (pv 0) pa_nil)))) (pss_one (ps_err rfl (takes_of rfl rfl rfl rfl) S hr (by decide) pe_int)) pss_nil)
      (pss_cons (ps_set (i := 1) scReadPcs.nd rfl (.inl rfl) (pe_lst pa_nil))
      (pss_cons (ps_set (i := 2) scReadPcs.nd rfl (.inl rfl) (pe_dnewK))
      (pss_cons (ps_for (passes_of rfl) rfl (pi_enumS (by rfl) T.enumerate (pa_cons (pv 0) pa_nil)) (pg_tup rfl (pgs_cons (pg_name (i := 3) scReadPcs.nd rfl (.inl rfl)) (pgs_cons (pg_name (i := 4) scReadPcs.nd rfl (.inl rfl)) pgs_nil))) (pss_cons (ps_set (i := 5) scReadPcs.nd rfl (.inl rfl) (pe_callH G2 hr (by rfl) pass0 (pa_cons (pv 4) pa_nil)))
      (pss_cons (ps_if (PW.pt (pw_or (pt_cmpR op_isN (pv 5) pe_non (nomark _)) (pw_or1 (pt_cmp (pc_din hu (pe_ix ix_tup (pv 5) pe_int (fun _ _ => rfl)) (pv 2)) (by rfl))))) (pss_one (ps_err rfl (takes_of rfl rfl rfl rfl) S hr (by decide) (pv 3))) pss_nil)
      (pss_cons (ps_dput hu (pv 2) (pe_ix ix_tup (pv 5) pe_int (fun _ _ => rfl)) pe_bl rfl)
      (pss_one (ps_expr (pe_bm PySem.F.plainAttrs_list PySem.F.slot_list_append PySem.F.type_list_append mt_append (pv 1) (pa_cons (pv 5) pa_nil))))))))
      (pss_one (ps_ret (pv 1))))))), ?_⟩
    refine ⟨_, rfl, v, d, rfl, th, fun H1 s1 => ⟨_, rfl, ?_⟩⟩
    rcases want with ⟨ei, qe⟩ | ⟨ds, ei, few, okd, qe, q⟩
    · have : isR d = false := by cases d <;> first | rfl | cases ei
      rw [this]
      exact iteT (err_go fun dx hdx => qe H1 dx s1 hdx)
    · have : isR d = true := by cases d <;> first | rfl | cases ei
      rw [this]
      obtain ⟨l, xs, rfl, hsq, hall⟩ : ∃ l xs, v = .ref l ∧ (SqL K H l xs ∨ SqT K H l xs) ∧ PySem.W.EachIs (Th K H) xs ds := by
        rcases th with ⟨n, _⟩ | ⟨a, xs, ds', h1, h2, h3, h4⟩
        · rw [n] at ei; cases ei
        · rw [h2] at ei
          obtain rfl := Option.some.inj ei
          exact ⟨a, xs, h1, h3, h4⟩
      have lx : xs.length = ds.length := hall.length
      refine iteF ⟨(by show 0 ≤ sizeLine; decide), fun D nd => fun st ns => ?_⟩
      have sd := same_new (o := .lst []) nd
      have ss := same_new (o := .dK []) ns
      have dH : H D = none := none_of s1 nd
      have stH : H st = none := none_of (s1.trans sd) ns
      have dst : D ≠ st := fun z => by
        rw [← z, upd_same] at ns
        cases ns
      have S0 := (s1.trans sd).trans ss
      have hd0 : upd (upd H1 D (.lst [])) st (.dK []) D = some (.lst []) := ss _ _ upd_same
      have hst0 : upd (upd H1 D (.lst [])) st (.dK []) st = some (.dK []) := upd_same
      generalize upd (upd H1 D (.lst [])) st (.dK []) = H2 at S0 hd0 hst0 ⊢
      refine enumS_go rfl hsq S0 fun J Gd W hG => ?_
      refine for_it W (fun i σ H4 => ∃ (w3 w4 w5 : Option V) (ys : List V) (qs : List Pk), σ = [some (.ref l), some (.ref D), some (.ref st), w3, w4, w5] ∧ Same H H4 ∧ H4 D = some (.lst ys) ∧ H4 st = some (.dK (stoodD (qs.map (·.1)))) ∧ PySem.W.EachIs (PieceG H4) ys qs ∧ PySem.W.EachIs GoodP (ds.take i) qs ∧ (qs.map (·.1)).Nodup)
        ⟨none, none, none, [], [], rfl, S0, hd0, hst0, .nil, .nil, List.nodup_nil⟩ (fun i σ H4 _ ⟨_, _, _, _, _, _, s4, _⟩ => hG H4 s4) ?_ ?_
      · rintro i x σ H4 H4' hi ⟨w3, w4, w5, ys, qs, rfl, s4, hd4, hs4, hys, hgood, hnod⟩ ⟨TT, y1, y2, rfl, hT, rfl, hy1, hy2⟩
        cases hy1
        have hy2 : xs[i]? = some y2 := hy2
        obtain ⟨dd, hdd, hp⟩ := eachs_get hall hy2
        have sT := same_new (o := .tup [V.int (i : Nat), y2]) hT
        have hT5 : upd H4 TT (.tup [V.int (i : Nat), y2]) TT = some (.tup [V.int (i : Nat), y2]) := upd_same
        generalize upd H4 TT (.tup [V.int (i : Nat), y2]) = H5 at sT hT5 ⊢
        have s5 := s4.trans sT
        have lq : qs.length ≤ i := by
          have := hgood.length
          rw [List.length_take] at this
          omega
        refine ⟨TT, _, rfl, SqT.of hT5, rfl, _, _, rfl, _, _, rfl, rfl, ?_⟩
        refine ⟨_, rfl, y2, dd, rfl, th_same s5 hp, okd dd (List.mem_of_getElem? hdd), fun v6 H6 s6 hv6 => ?_⟩
        have hd6 := s6 _ _ (sT _ _ hd4)
        have hs6 := s6 _ _ (sT _ _ hs4)
        have s06 := s5.trans s6
        cases er : readPc dd with
        | none =>
          rw [er] at hv6
          obtain rfl : v6 = .non := hv6
          exact ⟨_, rfl, rfl, true, by decide, iteT (iteT ⟨_, rfl, err_go fun dx hdx => qe i ⟨dd, qs, hdd, hgood, hnod, .inl er⟩ H6 dx s06 hdx⟩)⟩
        | some pk =>
          rw [er] at hv6
          obtain ⟨a6, b6, ws6, rfl, ha6, hb6, hw6⟩ := id hv6
          refine ⟨_, rfl, rfl, false, by simp, ?_⟩
          refine iteF ⟨_, rfl, a6, _, _, _, rfl, rfl, SqT.of ha6, at_of (i := 0) rfl, _, rfl, st, _, rfl, DGet.k (k := .inr pk.1) hs6, _, rfl, ?_⟩
          rw [stood_val]
          by_cases nin : pk.1 ∈ qs.map (·.1)
          · rw [decide_eq_true nin]
            exact iteT ⟨_, rfl, err_go fun dx hdx => qe i ⟨dd, qs, hdd, hgood, hnod, .inr ⟨pk, er, nin⟩⟩ H6 dx s06 hdx⟩
          · rw [decide_eq_false nin]
            refine iteF ⟨_, rfl, _, rfl, a6, _, _, _, rfl, rfl, SqT.of ha6, at_of (i := 0) rfl, st, _, rfl, DPut.k (k := .inr pk.1) hs6 (small1000 (by unfold stoodD; rw [List.length_map, List.length_map]; omega)), ?_⟩
            rw [stood_put _ nin]
            have ts1 : TupS H6 (upd H6 st (.dK (stoodD (qs.map (·.1) ++ [pk.1])))) := TupS.put hs6 (by intro xs z; cases z)
            have hd7 : upd H6 st (.dK (stoodD (qs.map (·.1) ++ [pk.1]))) D = some (.lst ys) := by rw [upd_ne dst]; exact hd6
            have hs7 : upd H6 st (.dK (stoodD (qs.map (·.1) ++ [pk.1]))) st = some (.dK (stoodD (qs.map (·.1) ++ [pk.1]))) := upd_same
            have k7 : ∀ b x, b ≠ st → H6 b = some x → upd H6 st (.dK (stoodD (qs.map (·.1) ++ [pk.1]))) b = some x := fun b x hb e => by rw [upd_ne hb]; exact e
            generalize upd H6 st (.dK (stoodD (qs.map (·.1) ++ [pk.1]))) = H7 at ts1 hd7 hs7 k7 ⊢
            have ts2 : TupS H7 (upd H7 D (.lst (ys ++ [.ref a6]))) := TupS.put hd7 (by intro xs z; cases z)
            have ly := hys.length
            refine ⟨_, rfl, .inl ⟨rfl, _, SqL.of hd7⟩, _, rfl, D, ys, .ref a6, rfl, rfl, hd7, small1000 (by omega), ?_⟩
            refine ⟨_, _, _, ys ++ [.ref a6], qs ++ [pk], rfl, fun b x e => ?_, upd_same, ?_, ?_, ?_, ?_⟩
            · rw [upd_ne (ne_of_none e dH)]
              exact k7 _ _ (ne_of_none e stH) (s06 _ _ e)
            · rw [upd_ne dst.symm, hs7, List.map_append]
              rfl
            · exact eachs_snoc (R := PieceG _) (pieceG_s (ts1.trans ts2) hv6) (eachs_imp (fun _ _ => pieceG_s (((TupS.of (sT.trans s6)).trans ts1).trans ts2)) hys)
            · rw [List.take_add_one, hdd]
              exact eachs_snoc (R := GoodP) er hgood
            · rw [List.map_append]
              exact List.nodup_append.mpr ⟨hnod, by simp, fun a ha b hb e => by
                have : b = pk.1 := by simpa using hb
                exact nin (this ▸ e ▸ ha)⟩
      · rintro σ H4 ⟨w3, w4, w5, ys, qs, rfl, s4, hd4, hs4, hys, hgood, hnod⟩
        rw [lx, List.take_length] at hgood
        exact ⟨_, rfl, q qs hgood hnod D ys H4 s4 dH hd4 hys⟩
end
end DR

namespace DR
open PySem PySem.Spec PyProof.Rows L2
/-! ### the words and the kinds of pieces -/
theorem wk_it {J : It} {n : Nat} {G : Hp → Prop} {Y : Nat → Hp → V → Hp → Prop} (w : Walk J n G Y) {T : (Hp → Prop) → V → Hp → Prop} {H0 : Hp} {Qd : Hp → Prop} (Pv : Nat → Hp → Prop) (zero : Pv 0 H0) (stand : ∀ i H, i ≤ n → Pv i H → G H)
    (turn : ∀ i x H H', i < n → Pv i H → Y i H x H' → T (Pv (i + 1)) x H') (last : ∀ H, Pv n H → Qd H) :
    ∃ W : Nat → Nat → Hp → Prop, (∃ m, W 0 m H0) ∧ ∀ j m Hb, W j m Hb → (J.stop j Hb ∧ Qd Hb) ∨ (J.go j Hb ∧ ∃ Nx : Hp → Prop, (∀ Hc, Nx Hc → ∃ n', n' < m ∧ W (j + 1) n' Hc) ∧ ∀ x Hc, J.yld j Hb x Hc → T Nx x Hc) := by
  refine ⟨fun j m Hb => m = n - j ∧ j ≤ n ∧ Pv j Hb, ⟨n, rfl, Nat.zero_le _, zero⟩, ?_⟩
  rintro j m Hb ⟨rfl, le, p⟩
  have q := stand j Hb le p
  rcases Nat.lt_or_eq_of_le le with lt | rfl
  · exact .inr ⟨w.goes j Hb lt q, Pv (j + 1), fun Hc p' => ⟨n - (j + 1), by omega, rfl, lt, p'⟩, fun x Hc y => turn j x Hb Hc lt p (w.yields j Hb x Hc lt q y)⟩
  · exact .inl ⟨w.stops Hb q, last Hb p⟩
/-- an address and its word -/
abbrev Adr := Str × Nat × (Int × Mul)
def adrK (a : Adr) : List Key := [.inr a.1, .inl (a.2.1 : Nat)]
def adrsP (q : Pk) : List Adr := q.2.2.zipIdx.map fun wk => (q.1, wk.2, wk.1)
def adrs (qs : List Pk) : List Adr := qs.flatMap adrsP
structure PkOk (qs : List Pk) : Prop where
  nod : (qs.map (·.1)).Nodup
  few : qs.length ≤ 10
  wd : ∀ q ∈ qs, q.2.2.length ≤ 10
  nm : ∀ q ∈ qs, ∀ w ∈ q.2.2, ∀ u ∈ w.2.map (·.1), NmU u
def AdrV (H : Hp) (e : List Key × V) (a : Adr) : Prop := e.1 = adrK a ∧ SumP H e.2 a.2.2
theorem adrV_s {H H' : Hp} (e : TupS H H') {x : List Key × V} {a : Adr} (h : AdrV H x a) : AdrV H' x a := ⟨h.1, sumT_s e h.2⟩
theorem adrsP_len (q : Pk) : (adrsP q).length = q.2.2.length := by
  unfold adrsP
  rw [List.length_map, List.length_zipIdx]
theorem adrsP_at {q : Pk} {j : Nat} {w : Int × Mul} (h : q.2.2[j]? = some w) : (adrsP q)[j]? = some (q.1, j, w) := by
  unfold adrsP
  rw [List.getElem?_map, List.getElem?_zipIdx, h]
  simp
theorem adrsP_nm {q : Pk} {a : Adr} (h : a ∈ adrsP q) : a.1 = q.1 := by
  unfold adrsP at h
  obtain ⟨x, _, rfl⟩ := List.mem_map.mp h
  rfl
theorem adrsP_take {q : Pk} {j : Nat} {a : Adr} (h : a ∈ (adrsP q).take j) : a.2.1 < j := by
  obtain ⟨i, hi, e⟩ := List.mem_iff_getElem.mp h
  rw [List.length_take] at hi
  have hi2 : i < (adrsP q).length := by omega
  have hq : i < q.2.2.length := by rw [← adrsP_len]; exact hi2
  have e2 := adrsP_at (q := q) (List.getElem?_eq_getElem hq)
  rw [List.getElem_take] at e
  rw [List.getElem?_eq_getElem hi2, e] at e2
  rw [Option.some.inj e2]
  show i < j
  omega
theorem adrs_nm {qs : List Pk} {a : Adr} (h : a ∈ adrs qs) : a.1 ∈ qs.map (·.1) := by
  obtain ⟨q, hq, ha⟩ := List.mem_flatMap.mp h
  exact List.mem_map.mpr ⟨q, hq, (adrsP_nm ha).symm⟩
theorem adrs_le {n : Nat} : ∀ (qs : List Pk), (∀ q ∈ qs, q.2.2.length ≤ n) → (adrs qs).length ≤ n * qs.length
  | [], _ => Nat.zero_le _
  | q :: r, h => by
    unfold adrs
    rw [List.flatMap_cons, List.length_append, adrsP_len, List.length_cons]
    have h1 : (adrs r).length ≤ n * r.length := adrs_le r fun x hx => h x (List.mem_cons_of_mem _ hx)
    have h2 := h q (List.mem_cons_self ..)
    unfold adrs at h1
    rw [Nat.mul_succ]
    omega
theorem putK_new {l : List (List Key × V)} {u : List Key} (v : V) (h : u ∉ l.map (·.1)) : putK l u v = l ++ [(u, v)] := by
  unfold putK
  rw [if_neg]
  intro z
  obtain ⟨p, hp, e⟩ := List.any_eq_true.mp z
  exact h (List.mem_map.mpr ⟨p, hp, of_decide_eq_true e⟩)
theorem adrV_keys {H : Hp} : ∀ {ks : List (List Key × V)} {as : List Adr}, PySem.W.EachIs (AdrV H) ks as → ks.map (·.1) = as.map adrK
  | _, _, .nil => rfl
  | _, _, .cons h t => by rw [List.map_cons, List.map_cons, h.1, adrV_keys t]
def spWords (K : PySem.W.Frag) : Sp := fun vs H Q _ => ∃ (a : Addr) (xs : List V) (qs : List Pk), vs = [.ref a] ∧ H a = some (.tup xs) ∧ PySem.W.EachIs (PieceG H) xs qs ∧ PkOk qs ∧
  ∀ D ks H', Same H H' → H D = none → H' D = some (.dT ks) → PySem.W.EachIs (AdrV H') ks (adrs qs) → Q (.ref D) H'
abbrev sWords : Stmt := topS 25
theorem scWords : FnScope ["pieces", "p", "_", "words", "k", "word"] ["pieces"] (defScope sWords) := ⟨rfl, rfl, rfl, by decide +kernel, rfl, by decide +kernel, by decide +kernel⟩
abbrev sKinds : Stmt := topS 27
theorem scKinds : FnScope ["pieces", "p", "kind", "_"] ["pieces"] (defScope sKinds) := ⟨rfl, rfl, rfl, by decide +kernel, rfl, by decide +kernel, by decide +kernel⟩
def kindD (qs : List Pk) : List (Key × V) := qs.map fun q => (.inr q.1, V.str q.2.1)
theorem kind_val (qs : List Pk) (z : Str) : valV (kindD qs) (.inr z) = (qs.find? fun q => decide (q.1 = z)).map fun q => V.str q.2.1 := by
  unfold valV kindD
  induction qs with
  | nil => rfl
  | cons y qs ih =>
    rw [List.map_cons]
    by_cases c : y.1 = z
    · rw [List.find?_cons_of_pos (by simp [c]), List.find?_cons_of_pos (by simp [c])]
      rfl
    · rw [List.find?_cons_of_neg (by simp [c]), List.find?_cons_of_neg (by simp [c])]
      exact ih
theorem kind_put (qs : List Pk) {q : Pk} (h : q.1 ∉ qs.map (·.1)) : putK (kindD qs) (.inr q.1) (.str q.2.1) = kindD (qs ++ [q]) := by
  unfold putK kindD
  rw [if_neg]
  · rw [List.map_append]
    rfl
  · intro c
    obtain ⟨p, hp, e⟩ := List.any_eq_true.mp c
    obtain ⟨y, hy, rfl⟩ := List.mem_map.mp hp
    have : y.1 = q.1 := Sum.inr.inj (of_decide_eq_true e)
    exact h (List.mem_map.mpr ⟨y, hy, this⟩)
def spKinds (K : PySem.W.Frag) : Sp := fun vs H Q _ => ∃ (a : Addr) (xs : List V) (qs : List Pk), vs = [.ref a] ∧ H a = some (.tup xs) ∧ PySem.W.EachIs (PieceG H) xs qs ∧ PkOk qs ∧
  ∀ D H', Same H H' → H D = none → H' D = some (.dK (kindD qs)) → Q (.ref D) H'
section
variable {P : Program} {w : World} {K : PySem.W.Frag} {mg : Str → Option Value} {base : Heap}
theorem ok_words {f : Addr} {fd : FuncData} (F : Fun K "words_of" "words_of" sWords f fd) (T : Bi mg) : FnOk P w K mg base CX0 1 f fd ["pieces"] (spWords K) := by
  refine F.ok scWords (fun vs H Q E h => ?_) (fun cdv A outer s H vs Q E hr h => ?_)
  · obtain ⟨a, xs, qs, rfl, _⟩ := h
    rfl
  · obtain ⟨a, xs, qs, rfl, ha, hxs, ok, q⟩ := h
    have hu := hu_of hr
    refine ⟨_, (pss_one (ps_ret (pe_dt2 (own := [("p", 1), ("_", 2), ("words", 3), ("k", 4), ("word", 5)]) (vs1 := [4, 5]) (g := gTup K 3 (gCons (gName 1) (gCons (gName 2) (gCons (gName 3) gNil)))) (g1 := gTup K 2 (gCons (gName 4) (gCons (gName 5) gNil))) (tt := tYes) (tt1 := tYes) (wi1 := iEnumT K (tCons (tVar 3) tNil)) (tk := tTup (tCons (tVar 1) (tCons (tVar 4) tNil))) (tv := tVar 5) hu rfl scWords.nd (pi_tup (pv 0)) (blkOk_by (N := ["pieces", "p", "_", "words", "k", "word"]) (sc := defScope sWords) (by decide +kernel)) (by decide +kernel)
      (fun _ _ _ _ _ => pg_tup rfl (pgs_cons (pg_name (i := 1) scWords.nd rfl (.inl rfl)) (pgs_cons (pg_name (i := 2) scWords.nd rfl (.inl rfl)) (pgs_cons (pg_name (i := 3) scWords.nd rfl (.inl rfl)) pgs_nil)))) (fun _ _ _ _ _ => pts_nil)
      (fun _ _ _ _ _ => pi_enumT (by rfl) T.enumerate (pa_cons (pv 3) pa_nil))
      (fun _ _ _ _ _ => pg_tup rfl (pgs_cons (pg_name (i := 4) scWords.nd rfl (.inl rfl)) (pgs_cons (pg_name (i := 5) scWords.nd rfl (.inl rfl)) pgs_nil))) (fun _ _ _ _ _ => pts_nil)
      (fun _ _ _ _ _ => pe_tup (pa_cons (pv 1) (pa_cons (pv 4) pa_nil))) (fun _ _ _ _ _ => pv 5)))), ?_⟩
    have lx : xs.length = qs.length := hxs.length
    have few := ok.few
    refine ⟨_, rfl, a, rfl, ⟨xs, SqT.of ha⟩, fun D hD => ?_⟩
    refine wk_it (walk_tup (xs := xs)) (fun i H4 => (∀ c o, c ≠ D → H c = some o → H4 c = some o) ∧ ∃ ks, H4 D = some (.dT ks) ∧ PySem.W.EachIs (AdrV H4) ks (adrs (qs.take i)))
      ⟨fun c o hc e => by rw [upd_ne hc]; exact e, [], upd_same, .nil⟩ (fun i H4 _ ⟨kp, _⟩ => SqT.of (kp _ _ (ne_of_none ha hD) ha)) ?_ ?_
    · rintro i x H4 H4' hi ⟨kp, ks, hD4, hks⟩ ⟨rfl, hx⟩
      obtain ⟨pc, hpc, hp⟩ := eachs_get hxs hx
      have i2 : i < qs.length := (List.getElem?_eq_some_iff.mp hpc).1
      have pfew := ok.wd pc (List.mem_of_getElem? hpc)
      have s4 : Same H H4' := fun c o e => kp c o (ne_of_none e hD) e
      obtain ⟨t, b, ws, rfl, ht, hb, hws⟩ := pieceG_s (TupS.of s4) hp
      have lw : ws.length = pc.2.2.length := hws.length
      have nin : pc.1 ∉ (qs.take i).map (·.1) := by
        rw [List.map_take]
        exact take_not ok.nod (by rw [List.getElem?_map, hpc]; rfl)
      refine ⟨t, _, rfl, SqT.of ht, rfl, _, _, rfl, _, _, rfl, _, _, rfl, rfl, rfl, yes_go ?_⟩
      refine ⟨_, rfl, b, ws, rfl, SqT.of hb, ?_⟩
      refine wk_it walk_enumT (fun j H5 => (∀ c o, c ≠ D → H4' c = some o → H5 c = some o) ∧ ∃ ks', H5 D = some (.dT ks') ∧ PySem.W.EachIs (AdrV H5) ks' (adrs (qs.take i) ++ (adrsP pc).take j))
        ⟨fun _ _ _ e => e, ks, hD4, by rw [List.take_zero, List.append_nil]; exact hks⟩ (fun j H5 _ ⟨kp5, _⟩ => SqT.of (kp5 _ _ (ne_of hb hD4 (by intro z; cases z)) hb)) ?_ ?_
      · rintro j y H5 H5' hj ⟨kp5, ks', hD5, hks5⟩ ⟨TT, y1, y2, rfl, hT, rfl, hy1, hy2⟩
        cases hy1
        have hy2 : ws[j]? = some y2 := hy2
        obtain ⟨wd, hwd, hsum⟩ := eachs_get hws hy2
        have j2 : j < pc.2.2.length := (List.getElem?_eq_some_iff.mp hwd).1
        have sT := same_new (o := .tup [V.int (j : Nat), y2]) hT
        have hT6 : upd H5 TT (.tup [V.int (j : Nat), y2]) TT = some (.tup [V.int (j : Nat), y2]) := upd_same
        generalize upd H5 TT (.tup [V.int (j : Nat), y2]) = H6 at sT hT6 ⊢
        have ts : TupS H4' H6 := fun c l e => sT _ _ (kp5 c _ (ne_of e hD4 (by intro z; cases z)) e)
        have lks : ks'.length ≤ 110 := by
          rw [hks5.length, List.length_append, List.length_take]
          have b := adrs_le (n := 10) (qs.take i) fun q hq => ok.wd q (List.mem_of_mem_take hq)
          rw [List.length_take] at b
          omega
        have kin : adrK (pc.1, j, wd) ∉ ks'.map (·.1) := by
          rw [adrV_keys hks5, List.mem_map]
          rintro ⟨x, hx, e⟩
          have e1 : x.1 = pc.1 := by
            have := congrArg (fun z : List Key => z[0]?) e
            simpa [adrK] using this
          have e2 : x.2.1 = j := by
            have e0 := congrArg (fun z : List Key => z[1]?) e
            have e0 : ((x.2.1 : Nat) : Int) = (j : Int) := by simpa [adrK] using e0
            omega
          rcases List.mem_append.mp hx with hx | hx
          · exact nin (e1 ▸ adrs_nm hx)
          · have := adrsP_take hx
            omega
        refine ⟨TT, _, rfl, SqT.of hT6, rfl, _, _, rfl, _, _, rfl, rfl, rfl, yes_go ?_⟩
        refine ⟨_, rfl, _, rfl, (by show 2 ≤ sizeLine; decide), fun p7 n7 => ⟨_, rfl, _, ⟨ks', adrK (pc.1, j, wd), p7, ?_, rfl, upd_same, small1000 (by omega), rfl⟩, ?_⟩⟩
        · have s7 := same_new (o := .tup [V.str pc.1, V.int (j : Nat)]) n7
          exact s7 _ _ (sT _ _ hD5)
        · have s7 := same_new (o := .tup [V.str pc.1, V.int (j : Nat)]) n7
          have hD7 := s7 _ _ (sT _ _ hD5)
          rw [putK_new y2 kin]
          have ts8 : TupS _ (upd (upd H6 p7 (.tup [V.str pc.1, V.int (j : Nat)])) D (.dT (ks' ++ [(adrK (pc.1, j, wd), y2)]))) := TupS.put hD7 (by intro xs z; cases z)
          have all : TupS H5 (upd (upd H6 p7 (.tup [V.str pc.1, V.int (j : Nat)])) D (.dT (ks' ++ [(adrK (pc.1, j, wd), y2)]))) := (TupS.of (sT.trans s7)).trans ts8
          refine ⟨fun c o hc e => by rw [upd_ne hc]; exact s7 _ _ (sT _ _ (kp5 c o hc e)), _, upd_same, ?_⟩
          rw [List.take_add_one, adrsP_at hwd, ← List.append_assoc]
          exact eachs_snoc (R := AdrV _) ⟨rfl, sumT_s (ts.trans ((TupS.of s7).trans ts8)) hsum⟩ (eachs_imp (fun _ _ => adrV_s all) hks5)
      · rintro H5 ⟨kp5, ks', hD5, hks5⟩
        refine ⟨fun c o hc e => kp5 c o hc (kp c o hc e), ks', hD5, ?_⟩
        have le : (adrsP pc).length = ws.length := by rw [adrsP_len, lw]
        rw [List.take_of_length_le (Nat.le_of_eq le)] at hks5
        have e : adrs (qs.take (i + 1)) = adrs (qs.take i) ++ adrsP pc := by
          unfold adrs
          rw [List.take_add_one, hpc, List.flatMap_append]
          simp
        rw [e]
        exact hks5
    · rintro H4 ⟨kp, ks, hD4, hks⟩
      rw [lx, List.take_length] at hks
      exact q D ks H4 (fun c o e => kp c o (ne_of_none e hD) e) hD hD4 hks
theorem ok_kinds {f : Addr} {fd : FuncData} (F : Fun K "kinds_of" "kinds_of" sKinds f fd) (T : Bi mg) : FnOk P w K mg base CX0 1 f fd ["pieces"] (spKinds K) := by
  refine F.ok scKinds (fun vs H Q E h => ?_) (fun cdv A outer s H vs Q E hr h => ?_)
  · obtain ⟨a, xs, qs, rfl, _⟩ := h
    rfl
  · obtain ⟨a, xs, qs, rfl, ha, hxs, ok, q⟩ := h
    have hu := hu_of hr
    refine ⟨_, (pss_one (ps_ret (pe_dc (own := [("p", 1), ("kind", 2), ("_", 3)]) (g := gTup K 3 (gCons (gName 1) (gCons (gName 2) (gCons (gName 3) gNil)))) (tt := tYes) (tk := tVar 1) (tv := tVar 2) rfl scKinds.nd (pi_tup (pv 0)) (blkOk_by (N := ["pieces", "p", "kind", "_"]) (sc := defScope sKinds) (by decide +kernel))
      (fun _ _ _ _ _ => pg_tup rfl (pgs_cons (pg_name (i := 1) scKinds.nd rfl (.inl rfl)) (pgs_cons (pg_name (i := 2) scKinds.nd rfl (.inl rfl)) (pgs_cons (pg_name (i := 3) scKinds.nd rfl (.inl rfl)) pgs_nil)))) (fun _ _ _ _ _ => pts_nil) (fun _ _ _ _ _ => pv 1) (fun _ _ _ _ _ => pv 2)))), ?_⟩
    have lx : xs.length = qs.length := hxs.length
    have few := ok.few
    refine ⟨_, rfl, a, rfl, ⟨xs, SqT.of ha⟩, fun D hD => ?_⟩
    refine dc_it (walk_tup (xs := xs)) (fun i H4 => (∀ c o, c ≠ D → H c = some o → H4 c = some o) ∧ H4 D = some (.dK (kindD (qs.take i))))
      ⟨fun c o hc e => by rw [upd_ne hc]; exact e, upd_same⟩ (fun i H4 _ ⟨kp, _⟩ => SqT.of (kp _ _ (ne_of_none ha hD) ha)) ?_ ?_
    · rintro i x H4 H4' hi ⟨kp, hD4⟩ ⟨rfl, hx⟩
      obtain ⟨pc, hpc, hp⟩ := eachs_get hxs hx
      have i2 : i < qs.length := (List.getElem?_eq_some_iff.mp hpc).1
      have s4 : Same H H4' := fun c o e => kp c o (ne_of_none e hD) e
      obtain ⟨t, b, ws, rfl, ht, hb, hws⟩ := pieceG_s (TupS.of s4) hp
      have nin : pc.1 ∉ (qs.take i).map (·.1) := by
        rw [List.map_take]
        exact take_not ok.nod (by rw [List.getElem?_map, hpc]; rfl)
      refine ⟨t, _, rfl, SqT.of ht, rfl, _, _, rfl, _, _, rfl, _, _, rfl, rfl, rfl, yes_go ?_⟩
      refine ⟨_, rfl, _, rfl, _, .inr pc.1, rfl, hD4, small1000 (by unfold kindD; rw [List.length_map, List.length_take]; omega), fun c o hc e => by rw [upd_ne hc]; exact kp c o hc e, ?_⟩
      rw [upd_same, kind_put _ nin, List.take_add_one, hpc]
      rfl
    · rintro H4 ⟨kp, hD4⟩
      rw [lx, List.take_length] at hD4
      exact q D H4 (fun c o e => kp c o (ne_of_none e hD) e) hD hD4
end
end DR

namespace DR
open PySem PySem.Spec PyProof.Rows L2
/-! ### own errors of two fields -/
/-- self.f as a target -/
def gOst (K : PySem.W.Frag) (f : Str) (to : TE) : TG := fun y σ H Q => to σ H fun x H2 => ∃ a C : Addr, x = .ref a ∧ OexC K C ∧ PySem.W.findIn K (.ref C) f = some none ∧
  ((H2 a = some (exo a C none) ∧ ∀ dx, H2 dx = none → dx ≠ a → Q σ (upd (upd H2 dx (exd dx [(f, y)])) a (exo a C (some dx)))) ∨
    ∃ (dx : Addr) (fs : List (Str × V)), H2 a = some (exo a C (some dx)) ∧ H2 dx = some (exd dx fs) ∧ fs.length ≤ 900 ∧ Q σ (upd H2 dx (exd dx ((f, y) :: fs))))
theorem pg_ost {X : Cx} {o : Expr} {to : TE} {f : Str} {p : Pos} (ho : PE X o to) : PG X (.Attribute o f p) (gOst X.K f to) := by
  refine ⟨fun pins s σ H v u Q I r h => ?_⟩
  refine PySem.W.kas_attr (thn (ho.run pins s σ H _ I h) fun u1 s2 ⟨x, H2, I2, r2, a, C, ex, T, hno, q⟩ => ?_)
  subst ex
  obtain rfl : u1 = Value.ref a := r2
  rcases q with ⟨ea, q⟩ | ⟨dx, fs, ea, ed, hl, q⟩
  · exact ost_new T I2 ea hno r fun dx s' n ne J => ⟨σ, _, J, q dx n ne⟩
  · exact ost_old T I2 ea ed hl hno r fun s' J => ⟨σ, _, J, q⟩
/-- __init__ stores its arguments under f and g -/
def spErrInit2 (K : PySem.W.Frag) (C : Addr) (f g : Str) : Sp := fun vs H Q _ => ∃ a y z, vs = [.ref a, y, z] ∧ H a = some (exo a C none) ∧ ∀ tp dx, H tp = none → upd H tp (.tup [y, z]) dx = none → dx ≠ a →
  Q .non (upd (upd (upd (upd H tp (.tup [y, z])) dx (exd dx [(f, y)])) a (exo a C (some dx))) dx (exd dx [(g, z), (f, y)]))
structure Err2 (P : Program) (w : World) (K : PySem.W.Frag) (mg : Str → Option Value) (base : Heap) (x : Str) (C : Addr) (f g : Str) : Prop where
  at_ : mg x = some (.ref C)
  T : OexC K C
  no : PySem.W.findIn K (.ref C) f = some none
  no2 : PySem.W.findIn K (.ref C) g = some none
  xf : XfC K C
  te : PySem.W.exmOne K (.ref C) (.ref C) = some true
  ini : ∃ (fI : Addr) (fd : FuncData) (p2 p3 : Str), PySem.W.findIn K (.ref C) "__init__" = some (some (.ref fI)) ∧ PySem.W.typeIn K (.ref fI) = some (.type "function") ∧ Binds K fd ["self", p2, p3] [] ∧ FnOk P w K mg base CX0 1 fI fd ["self", p2, p3] (spErrInit2 K C f g)
theorem err_go2 {K : PySem.W.Frag} {C : Addr} {f g : Str} {y z : V} {H1 : Hp} {Q : XK} (q : ∀ tp dx, H1 tp = none → upd H1 tp (.tup [y, z]) dx = none → Q (.ref C) (some dx) (upd (upd H1 tp (.tup [y, z])) dx (.xd [(g, z), (f, y)]))) :
    [y, z].length ≤ 1000 ∧ ∀ a, H1 a = none → spErrInit2 K C f g (.ref a :: ([y, z] ++ [])) (upd H1 a (exo a C none)) (fun v H2 => v = .non ∧ ∃ (d : Addr) (fs : List (Str × V)), H2 a = some (exo a C (some d)) ∧ H2 d = some (exd d fs) ∧ H1 d = none ∧ Q (.ref C) (some d) (upd (del H2 a) d (.xd fs))) (fun _ _ _ => False) := by
  refine ⟨(by show 2 ≤ 1000; decide), fun a ha => ⟨a, y, z, rfl, upd_same, fun tp dx htp hdx hne => ⟨rfl, dx, [(g, z), (f, y)], ?_, upd_same, ?_, ?_⟩⟩⟩
  · rw [upd_ne (Ne.symm hne), upd_same]
  · have h1 : dx ≠ tp := fun e => by rw [e, upd_same] at hdx; cases hdx
    rw [upd_ne h1, upd_ne hne] at hdx
    exact hdx
  · have ta : tp ≠ a := fun e => by rw [e, upd_same] at htp; cases htp
    have h1 : dx ≠ tp := fun e => by rw [e, upd_same] at hdx; cases hdx
    have h2 : H1 tp = none := by
      rw [upd_ne ta] at htp
      exact htp
    have h3 : upd H1 tp (.tup [y, z]) dx = none := by
      rw [upd_ne h1, upd_ne hne] at hdx
      rw [upd_ne h1]
      exact hdx
    have e : upd (del (upd (upd (upd (upd (upd H1 a (exo a C none)) tp (.tup [y, z])) dx (exd dx [(f, y)])) a (exo a C (some dx))) dx (exd dx [(g, z), (f, y)])) a) dx (.xd [(g, z), (f, y)]) = upd (upd H1 tp (.tup [y, z])) dx (.xd [(g, z), (f, y)]) := by
      funext b
      by_cases hb : b = dx
      · rw [hb, upd_same, upd_same]
      · rw [upd_ne hb, upd_ne hb]
        by_cases hb2 : b = a
        · rw [hb2, del_same, upd_ne ta.symm, ha]
        · rw [del_ne hb2, upd_ne hb, upd_ne hb2, upd_ne hb]
          by_cases hb3 : b = tp
          · rw [hb3, upd_same, upd_same]
          · rw [upd_ne hb3, upd_ne hb2, upd_ne hb3]
    rw [e]
    exact q tp dx h2 h3
def tRaise2 (K : PySem.W.Frag) (C : Addr) (f g : Str) (te tu : TE) (W : WX) : TS := fun _ σ H => tMkO C (spErrInit2 K C f g) [] (tCons te (tCons tu tNil)) σ H fun cls d H' => W cls d σ H'
theorem ps_err2 {X : Cx} {W : WX} {x f g : Str} {C : Addr} {e e' : Expr} {te tu : TE} {p pos pos2 : Pos} {k : Nat} (hc : X.calm = true) (tk : Takes X W) (T : Err2 X.prog X.w X.K X.mg X.base x C f g) (hr : Room k X.A) (h2 : 2 ≤ k) (he : PE X e te) (hu : PE X e' tu) (hg : Gl X x := by rfl)
    (hdb : (x == ("__debug__" : Str)) = false := by decide) (hs : starEach (e :: [e']) X.env = (false, eval e X.env) :: starEach [e'] X.env := by rfl) (hs2 : starEach (e' :: []) X.env = (false, eval e' X.env) :: starEach [] X.env := by rfl) (hpl : (backTo pos (starEach [e'] X.env)).any (·.1) = false := by rfl) :
    PS X (.Raise (some (.Call (.Name x p) [e, e'] [] pos)) none pos2) (tRaise2 X.K C f g te tu W) := by
  obtain ⟨fI, fd, p2, p3, iC, tI, hb, F⟩ := T.ini
  exact ps_raise (pos := pos2) hc tk (pmk_oex (p := p) (pos := pos) T.T iC tI F (hr.mono h2) hb .nil pass0 hg T.at_ (pa_cons he (pa_cons hu pa_nil hs2) hs) hdb hs hpl)
end DR

namespace DR
open PySem PySem.Spec PyProof.Rows L2
/-! ### addresses of any data -/
def readAdr (d : PyData) : Option (Str × Int) := match items d with
  | some [.str z, .int n] => if isNmS z = true then some (z, n) else none
  | _ => none
def okAd (d : PyData) : Prop := ∀ x y, items d = some [x, y] → shortS x
def AdV (H : Hp) (v : V) : Option (Str × Int) → Prop
  | none => v = .non
  | some a => ∃ p, v = .ref p ∧ H p = some (.tup [.str a.1, .int a.2])
def spReadAdr (K : PySem.W.Frag) : Sp := fun vs H Q _ => ∃ v d, vs = [v] ∧ Th K H v d ∧ okAd d ∧ ∀ v' H', Same H H' → AdV H' v' (readAdr d) → Q v' H'
theorem two_of {d : PyData} (e : isRof d 2 = true) : ∃ x y, items d = some [x, y] := by
  unfold isRof at e
  cases h : items d with
  | none => rw [h] at e; cases e
  | some xs =>
    rw [h] at e
    have e : (xs.length : Int) = 2 := of_decide_eq_true e
    match xs, e with
    | [x, y], _ => exact ⟨x, y, rfl⟩
    | [], z => exact absurd z (by decide)
    | [_], z => exact absurd z (by simp)
    | _ :: _ :: _ :: _, z => simp at z; omega
theorem not_two {d : PyData} (e : isRof d 2 = false) : readAdr d = none := by
  unfold readAdr
  split
  · rename_i z n h
    unfold isRof at e
    rw [h] at e
    simp at e
  · rfl
theorem str_of {x : PyData} (e : isNm x = true) : ∃ p, x = .str p ∧ isNmS p = true := by
  cases x with
  | str p => exact ⟨p, rfl, e⟩
  | none => cases e
  | bool b => cases e
  | int i => cases e
  | list l => cases e
  | tuple l => cases e
  | dict l => cases e
theorem int_of {x : PyData} (e : isI x = true) : ∃ n, x = .int n := by
  cases x with
  | int n => exact ⟨n, rfl⟩
  | none => cases e
  | bool b => cases e
  | str i => cases e
  | list l => cases e
  | tuple l => cases e
  | dict l => cases e
section
variable {P : Program} {w : World} {K : PySem.W.Frag} {mg : Str → Option Value} {base : Heap}
theorem ok_readAdr {f : Addr} {fd : FuncData} (F : Fun K "read_address" "read_address" sReadAddr f fd) (G1 : Has P w K mg base CX0 2 "is_row_of" ["thing", "many"] (spIsRowOf K)) (G2 : Has P w K mg base CX0 2 "is_name" ["thing"] (spIsName K)) (G3 : Has P w K mg base CX0 2 "is_integer" ["thing"] (spIsInt K)) : FnOk P w K mg base CX0 3 f fd ["thing"] (spReadAdr K) := by
  refine F.ok scReadAddr (fun vs H Q E h => ?_) (fun cdv A outer s H vs Q E hr h => ?_)
  · obtain ⟨v, d, rfl, _⟩ := h
    rfl
  · obtain ⟨v, d, rfl, th, ok, q⟩ := h
    refine ⟨_, (pss_cons (ps_if (PW.pt (pw_or (pt_not (pt_val (pe_callH G1 hr (by rfl) pass0 (pa_cons (pv 0) (pa_cons pe_int pa_nil))))) (pw_or (pt_not (pt_val (pe_callH G2 hr (by rfl) pass0 (pa_cons (pe_ix ix_seq (pv 0) pe_int (fun _ _ => rfl)) pa_nil)))) (pw_or1 (pt_not (pt_val (pe_callH G3 hr (by rfl) pass0 (pa_cons (pe_ix ix_seq (pv 0) pe_int (fun _ _ => rfl)) pa_nil)))))))) (pss_one (ps_ret pe_non)) pss_nil)
      (pss_one (ps_ret (pe_tup (pa_cons (pe_ix ix_seq (pv 0) pe_int (fun _ _ => rfl)) (pa_cons (pe_ix ix_seq (pv 0) pe_int (fun _ _ => rfl)) pa_nil)))))), ?_⟩
    refine ⟨_, rfl, v, d, 2, rfl, th, fun H1 s1 => ⟨_, rfl, ?_⟩⟩
    have no : ∀ {H' : Hp}, Same H H' → readAdr d = none → Q .non H' := fun s' e => q _ _ s' (by rw [e]; rfl)
    cases e2 : isRof d 2 with
    | false => exact iteT (iteT (no s1 (not_two e2)))
    | true =>
      obtain ⟨x, y, ei⟩ := two_of e2
      obtain ⟨a, vs, rfl, hsq, hall⟩ := th_items th ei
      cases hall with
      | @cons v1 _ _ _ h1 t1 => cases t1 with
        | @cons v2 _ _ _ h2 t2 =>
          cases t2
          have sq : ∀ {H' : Hp}, Same H H' → SqL K H' a [v1, v2] ∨ SqT K H' a [v1, v2] := fun s' => row_sq s' hsq
          refine iteF ⟨_, rfl, ix_row (sq s1) (at_of (i := 0) rfl) ⟨v1, x, rfl, .dat (dp_same s1 h1), ok x y ei, fun H2 s2 => ⟨_, rfl, ?_⟩⟩⟩
          have s12 := s1.trans s2
          cases en : isNm x with
          | false =>
            refine iteT (iteT (no s12 ?_))
            unfold readAdr
            rw [ei]
            split
            · rename_i z n h
              cases h
              rw [if_neg (fun c => by rw [show isNmS z = false from en] at c; cases c)]
            · rfl
          | true =>
            obtain ⟨z, rfl, hz⟩ := str_of en
            cases h1
            refine iteF ⟨_, rfl, ix_row (sq s12) (at_of (i := 1) rfl) ⟨v2, y, rfl, .dat (dp_same s12 h2), _, rfl, ?_⟩⟩
            cases ey : isI y with
            | false =>
              refine iteT (no s12 ?_)
              unfold readAdr
              rw [ei]
              split
              · rename_i z n h
                cases h
                cases ey
              · rfl
            | true =>
              obtain ⟨n, rfl⟩ := int_of ey
              cases h2
              refine iteF ⟨_, rfl, ix_row (sq s12) (at_of (i := 0) rfl) ⟨_, rfl, ix_row (sq s12) (at_of (i := 1) rfl) ⟨(by show 2 ≤ sizeLine; decide), fun p hp => ?_⟩⟩⟩
              refine q _ _ (s12.trans (same_new hp)) ?_
              have : readAdr d = some (z, n) := by
                unfold readAdr
                rw [ei]
                show (if isNmS z = true then _ else _) = _
                rw [if_pos hz]
              rw [this]
              exact ⟨p, rfl, upd_same⟩
end
end DR

namespace DR
open PySem PySem.Spec PyProof.Rows L2
/-! ### pairs of any things: a dict may be in the pair -/
def spIsRowT (K : PySem.W.Frag) : Sp := fun vs H Q _ => ∃ a xs, vs = [.ref a] ∧ SqT K H a xs ∧ ∀ H', Same H H' → Q (.bl true) H'
def spIsRowOfT (K : PySem.W.Frag) : Sp := fun vs H Q _ => ∃ a xs n, vs = [.ref a, .int n] ∧ SqT K H a xs ∧ ∀ H', Same H H' → Q (.bl (decide ((xs.length : Int) = n))) H'
def adrOf : PyData → PyData → Option (Str × Int)
  | .str z, .int n => if isNmS z = true then some (z, n) else none
  | _, _ => none
def spReadAdrT (K : PySem.W.Frag) : Sp := fun vs H Q _ => ∃ a v1 v2 d1 d2, vs = [.ref a] ∧ SqT K H a [v1, v2] ∧ Th K H v1 d1 ∧ Th K H v2 d2 ∧ shortS d1 ∧ ∀ v' H', Same H H' → AdV H' v' (adrOf d1 d2) → Q v' H'
theorem adr_no1 {x y : PyData} (e : isNm x = false) : adrOf x y = none := by
  unfold adrOf
  split
  · rename_i z n
    rw [if_neg (fun c => by rw [show isNmS z = false from e] at c; cases c)]
  · rfl
theorem adr_no2 {x y : PyData} (e : isI y = false) : adrOf x y = none := by
  unfold adrOf
  split
  · cases e
  · rfl
theorem th_str {K : PySem.W.Frag} {H : Hp} {v : V} {z : Str} (h : Th K H v (.str z)) : v = .str z := by
  cases h with
  | dat h => cases h; rfl
theorem th_int {K : PySem.W.Frag} {H : Hp} {v : V} {n : Int} (h : Th K H v (.int n)) : v = .int n := by
  cases h with
  | dat h => cases h; rfl
section
variable {P : Program} {w : World} {K : PySem.W.Frag} {mg : Str → Option Value} {base : Heap}
theorem ok_isRowT {f : Addr} {fd : FuncData} (F : Fun K "is_row" "is_row" sIsRow f fd) (T : Bi mg) : FnOk P w K mg base CX0 1 f fd ["thing"] (spIsRowT K) := by
  refine F.ok scIsRow (fun vs H Q E h => ?_) (fun cdv A outer s H vs Q E hr h => ?_)
  · obtain ⟨a, xs, rfl, _⟩ := h
    rfl
  · obtain ⟨a, xs, rfl, th, q⟩ := h
    refine ⟨_, (pss_one (ps_ret (pe_callB call_isiT (by rfl) T.isinstance (by decide +kernel) (pa_cons (pv 0) (pa_cons (pe_tup (pa_cons (pe_bltn (v := .ty "list") (by rfl) T.list (by decide +kernel) rfl) (pa_cons (pe_bltn (v := .ty "tuple") (by rfl) T.tuple (by decide +kernel) rfl) pa_nil))) pa_nil))))), ?_⟩
    refine ⟨_, rfl, (by show 2 ≤ sizeLine; decide), fun p hp => ?_⟩
    exact ⟨.ref a, p, _, _, _, _, rfl, upd_same, .cons (.ty "list") (.cons (.ty "tuple") .nil), ty_tup (sqT_same (same_new hp) th), kit_row (.tuple []), q _ (same_new hp)⟩
theorem ok_isRowOfT {f : Addr} {fd : FuncData} (F : Fun K "is_row_of" "is_row_of" sIsRowOf f fd) (T : Bi mg) (G : Has P w K mg base CX0 1 "is_row" ["thing"] (spIsRowT K)) : FnOk P w K mg base CX0 2 f fd ["thing", "many"] (spIsRowOfT K) := by
  refine F.ok scIsRowOf (fun vs H Q E h => ?_) (fun cdv A outer s H vs Q E hr h => ?_)
  · obtain ⟨a, xs, n, rfl, _⟩ := h
    rfl
  · obtain ⟨a, xs, n, rfl, th, q⟩ := h
    refine ⟨_, (pss_one (ps_ret (pe_and (pe_callH G hr (by rfl) pass0 (pa_cons (pv 0) pa_nil)) (pe_one (pe_cmpR op_eq (pe_callB call_len_seq (by rfl) T.len (by decide +kernel) (pa_cons (pv 0) pa_nil)) (pv 1) (nomark _)))))), ?_⟩
    refine ⟨_, rfl, a, xs, rfl, th, fun H' sm => ⟨_, rfl, ?_⟩⟩
    refine iteT ⟨_, rfl, a, xs, rfl, .inr (sqT_same sm th), _, rfl, rfl, ?_⟩
    have z : decide (V.int (xs.length : Int) = V.int n) = decide ((xs.length : Int) = n) := by
      by_cases c : (xs.length : Int) = n
      · rw [c]; simp
      · rw [decide_eq_false c]
        exact decide_eq_false fun z => c (V.int.inj z)
    rw [z]
    exact q H' sm
theorem ok_readAdrT {f : Addr} {fd : FuncData} (F : Fun K "read_address" "read_address" sReadAddr f fd) (G1 : Has P w K mg base CX0 2 "is_row_of" ["thing", "many"] (spIsRowOfT K)) (G2 : Has P w K mg base CX0 2 "is_name" ["thing"] (spIsName K)) (G3 : Has P w K mg base CX0 2 "is_integer" ["thing"] (spIsInt K)) : FnOk P w K mg base CX0 3 f fd ["thing"] (spReadAdrT K) := by
  refine F.ok scReadAddr (fun vs H Q E h => ?_) (fun cdv A outer s H vs Q E hr h => ?_)
  · obtain ⟨a, v1, v2, d1, d2, rfl, _⟩ := h
    rfl
  · obtain ⟨a, v1, v2, x, y, rfl, hsq, h1, h2, ok, q⟩ := h
    refine ⟨_, (pss_cons (ps_if (PW.pt (pw_or (pt_not (pt_val (pe_callH G1 hr (by rfl) pass0 (pa_cons (pv 0) (pa_cons pe_int pa_nil))))) (pw_or (pt_not (pt_val (pe_callH G2 hr (by rfl) pass0 (pa_cons (pe_ix ix_seq (pv 0) pe_int (fun _ _ => rfl)) pa_nil)))) (pw_or1 (pt_not (pt_val (pe_callH G3 hr (by rfl) pass0 (pa_cons (pe_ix ix_seq (pv 0) pe_int (fun _ _ => rfl)) pa_nil)))))))) (pss_one (ps_ret pe_non)) pss_nil)
      (pss_one (ps_ret (pe_tup (pa_cons (pe_ix ix_seq (pv 0) pe_int (fun _ _ => rfl)) (pa_cons (pe_ix ix_seq (pv 0) pe_int (fun _ _ => rfl)) pa_nil)))))), ?_⟩
    refine ⟨_, rfl, a, _, 2, rfl, hsq, fun H1 s1 => ⟨_, rfl, ?_⟩⟩
    have no : ∀ {H' : Hp}, Same H H' → adrOf x y = none → Q .non H' := fun s' e => q _ _ s' (by rw [e]; rfl)
    have sq : ∀ {H' : Hp}, Same H H' → SqL K H' a [v1, v2] ∨ SqT K H' a [v1, v2] := fun s' => .inr (sqT_same s' hsq)
    refine iteF ⟨_, rfl, ix_row (sq s1) (at_of (i := 0) rfl) ⟨v1, x, rfl, th_same s1 h1, ok, fun H2 s2 => ⟨_, rfl, ?_⟩⟩⟩
    have s12 := s1.trans s2
    cases en : isNm x with
    | false => exact iteT (iteT (no s12 (adr_no1 en)))
    | true =>
      obtain ⟨z, rfl, hz⟩ := str_of en
      obtain rfl := th_str h1
      refine iteF ⟨_, rfl, ix_row (sq s12) (at_of (i := 1) rfl) ⟨v2, y, rfl, th_same s12 h2, _, rfl, ?_⟩⟩
      cases ey : isI y with
      | false => exact iteT (no s12 (adr_no2 ey))
      | true =>
        obtain ⟨n, rfl⟩ := int_of ey
        obtain rfl := th_int h2
        refine iteF ⟨_, rfl, ix_row (sq s12) (at_of (i := 0) rfl) ⟨_, rfl, ix_row (sq s12) (at_of (i := 1) rfl) ⟨(by show 2 ≤ sizeLine; decide), fun p hp => ?_⟩⟩⟩
        refine q _ _ (s12.trans (same_new hp)) ?_
        have : adrOf (.str z) (.int n) = some (z, n) := by
          show (if isNmS z = true then _ else _) = _
          rw [if_pos hz]
        rw [this]
        exact ⟨p, rfl, upd_same⟩
end
end DR

namespace DR
open PySem PySem.Spec PyProof.Rows L2
/-! ### the word at an address -/
def wordOf (qs : List Pk) (u : List Key) : Option (Int × Mul) := ((adrs qs).find? fun x => decide (adrK x = u)).map (·.2.2)
theorem val_none {H : Hp} {ks : List (List Key × V)} {as : List Adr} {u : List Key} (h : PySem.W.EachIs (AdrV H) ks as) : (as.find? fun x => decide (adrK x = u)) = none → valV ks u = none := by
  unfold valV
  induction h with
  | nil => intro _; rfl
  | @cons e a ks as h t ih =>
    have h1 : e.1 = adrK a := h.1
    intro z
    by_cases c : adrK a = u
    · rw [List.find?_cons_of_pos (by simp [c])] at z
      cases z
    · rw [List.find?_cons_of_neg (by simp [c])] at z
      rw [List.find?_cons_of_neg (by simp [h1, c])]
      exact ih z
theorem val_word {H : Hp} {ks : List (List Key × V)} {as : List Adr} {u : List Key} {b : Adr} (h : PySem.W.EachIs (AdrV H) ks as) : (as.find? fun x => decide (adrK x = u)) = some b → ∃ v, valV ks u = some v ∧ SumP H v b.2.2 := by
  unfold valV
  induction h with
  | nil => intro z; cases z
  | @cons e a ks as h t ih =>
    have h1 : e.1 = adrK a := h.1
    intro z
    by_cases c : adrK a = u
    · rw [List.find?_cons_of_pos (by simp [c])] at z
      rw [List.find?_cons_of_pos (by simp [h1, c])]
      obtain rfl := Option.some.inj z
      exact ⟨e.2, rfl, h.2⟩
    · rw [List.find?_cons_of_neg (by simp [c])] at z
      rw [List.find?_cons_of_neg (by simp [h1, c])]
      exact ih z
def keyA (a : Str × Int) : List Key := [.inr a.1, .inl a.2]
def wordAt (qs : List Pk) (d1 d2 : PyData) : Option (Int × Mul) := (adrOf d1 d2).bind fun a => wordOf qs (keyA a)
def ErrSame (E : XK) (H : Hp) (CE : Addr) (fs : List (Str × V)) : Prop := ∀ H' dx, Same H H' → H' dx = none → E (.ref CE) (some dx) (upd H' dx (.xd fs))
def spWordAt (K : PySem.W.Frag) (CN : Addr) : Sp := fun vs H Q E => ∃ (D : Addr) (ks : List (List Key × V)) (qs : List Pk) (v1 v2 : V) (d1 d2 : PyData), vs = [.ref D, v1, v2] ∧ H D = some (.dT ks) ∧ PySem.W.EachIs (AdrV H) ks (adrs qs) ∧ Th K H v1 d1 ∧ Th K H v2 d2 ∧ shortS d1 ∧
  (wordAt qs d1 d2 = none → ErrSame E H CN [("k", v2), ("p", v1)]) ∧ ∀ w, wordAt qs d1 d2 = some w → ∀ v' H', Same H H' → SumP H' v' w → Q v' H'
abbrev sWordAt : Stmt := topS 26
theorem scWordAt : FnScope ["sums", "p", "k", "address"] ["sums", "p", "k"] (defScope sWordAt) := ⟨rfl, rfl, rfl, by decide +kernel, rfl, by decide +kernel, by decide +kernel⟩
section
variable {P : Program} {w : World} {K : PySem.W.Frag} {mg : Str → Option Value} {base : Heap}
theorem ok_wordAt {f CN : Addr} {fd : FuncData} (F : Fun K "word_at" "word_at" sWordAt f fd) (S : Err2 P w K mg base "NoWord" CN "p" "k") (G : Has P w K mg base CX0 3 "read_address" ["thing"] (spReadAdrT K)) : FnOk P w K mg base (L2.CX P w) 5 f fd ["sums", "p", "k"] (spWordAt K CN) := by
  refine F.okX scWordAt (fun vs H Q E h => ?_) (fun cdv A outer s H vs Q E hr h => ?_)
  · obtain ⟨D, ks, qs, v1, v2, d1, d2, rfl, _⟩ := h
    rfl
  · obtain ⟨D, ks, qs, v1, v2, d1, d2, rfl, hD, hks, h1, h2, ok, qe, q⟩ := h
    have hu := hu_of hr
    refine ⟨_, (pss_cons (ps_set (i := 3) scWordAt.nd rfl (.inl rfl) (pe_callH G (hr.mono (by decide)) (by rfl) pass0 (pa_cons (pe_tup (pa_cons (pv 1) (pa_cons (pv 2) pa_nil))) pa_nil)))
      (pss_cons (ps_if (PW.pt (pw_or (pt_cmpR op_isN (pv 3) pe_non (nomark _)) (pw_or1 (pt_cmp (pc_dnotin hu (pv 3) (pv 0)) (by rfl))))) (pss_one (ps_err2 rfl (takes_of rfl rfl rfl rfl) S hr (by decide) (pv 1) (pv 2))) pss_nil)
      (pss_one (ps_ret (pe_dget hu (pv 0) (pv 3) (fun _ _ => rfl)))))), ?_⟩
    refine ⟨_, rfl, _, rfl, (by show 2 ≤ sizeLine; decide), fun t ht => ?_⟩
    have s0 := same_new (o := .tup [v1, v2]) ht
    refine ⟨t, v1, v2, d1, d2, rfl, SqT.of upd_same, th_same s0 h1, th_same s0 h2, ok, fun v8 H8 s8 hv8 => ?_⟩
    have s08 := s0.trans s8
    have D8 := s08 _ _ hD
    have hks8 := eachs_imp (fun _ _ => adrV_s (TupS.of s08)) hks
    have bad : wordAt qs d1 d2 = none → ∀ tp dx, H8 tp = none → upd H8 tp (.tup [v1, v2]) dx = none → E (.ref CN) (some dx) (upd (upd H8 tp (.tup [v1, v2])) dx (.xd [("k", v2), ("p", v1)])) := fun e tp dx htp hdx => qe e _ dx (s08.trans (same_new htp)) hdx
    cases er : adrOf d1 d2 with
    | none =>
      rw [er] at hv8
      obtain rfl : v8 = .non := hv8
      exact ⟨_, rfl, rfl, true, by decide, iteT (iteT ⟨_, rfl, _, rfl, err_go2 (bad (by unfold wordAt; rw [er]; rfl))⟩)⟩
    | some a0 =>
      rw [er] at hv8
      obtain ⟨r8, rfl, hr8⟩ := hv8
      refine ⟨_, rfl, rfl, false, by simp, ?_⟩
      cases ef : (adrs qs).find? (fun x => decide (adrK x = keyA a0)) with
      | none =>
        have ev := val_none hks8 ef
        have g := DGet.t (k := keyA a0) D8 hr8
        rw [ev] at g
        refine iteF ⟨_, rfl, _, rfl, D, _, rfl, g, ?_⟩
        refine ⟨true, rfl, iteT ⟨_, rfl, _, rfl, err_go2 (bad ?_)⟩⟩
        unfold wordAt
        rw [er]
        show wordOf qs (keyA a0) = none
        unfold wordOf
        rw [ef]
        rfl
      | some b =>
        obtain ⟨vv, ev, hs⟩ := val_word hks8 ef
        have g := DGet.t (k := keyA a0) D8 hr8
        rw [ev] at g
        refine iteF ⟨_, rfl, _, rfl, D, _, rfl, g, ?_⟩
        refine ⟨false, rfl, iteF ⟨_, rfl, _, rfl, D, vv, rfl, g, q b.2.2 ?_ _ _ s08 hs⟩⟩
        unfold wordAt
        rw [er]
        show wordOf qs (keyA a0) = _
        unfold wordOf
        rw [ef]
        rfl
end
end DR

namespace DR
open PySem PySem.Spec PyProof.Rows L2
/-! ### are_of: a word of names and of the places of pieces -/
def ofU (qs : List Pk) (u : List Key) : Bool := match u with
  | [.inr k, o] => decide (k = sName) || (decide (k = sPiece) && (valV (kindD qs) o).isSome)
  | _ => false
def ofW (qs : List Pk) (w : Int × Mul) : Bool := w.2.all fun q => ofU qs q.1
def spAreOf (K : PySem.W.Frag) : Sp := fun vs H Q _ => ∃ (v : V) (F : Addr) (w : Int × Mul) (qs : List Pk), vs = [v, .ref F] ∧ SumP H v w ∧ (∀ u ∈ w.2.map (·.1), NmU u) ∧ w.2.length ≤ 1000 ∧ H F = some (.dK (kindD qs)) ∧ ∀ H', Same H H' → Q (.bl (ofW qs w)) H'
abbrev sAreOf : Stmt := topS 31
abbrev NAo : List Str := ["one", "pieces", "_", "kind", "of"]
theorem scAreOf : FnScope NAo ["one", "pieces"] (defScope sAreOf) := ⟨rfl, rfl, rfl, by decide +kernel, rfl, by decide +kernel, by decide +kernel⟩
section
variable {P : Program} {w : World} {K : PySem.W.Frag} {mg : Str → Option Value} {base : Heap}
theorem ok_areOf {f : Addr} {fd : FuncData} (F : Fun K "are_of" "are_of" sAreOf f fd) (T : Bi mg) : FnOk P w K mg base CX0 1 f fd ["one", "pieces"] (spAreOf K) := by
  refine F.ok scAreOf (fun vs H Q E h => ?_) (fun cdv A outer s H vs Q E hr h => ?_)
  · obtain ⟨v, F, wd, qs, rfl, _⟩ := h
    rfl
  · obtain ⟨v, F, wd, qs, rfl, hsum, nm, few, hF, q⟩ := h
    have hu := hu_of hr
    refine ⟨_, (pss_one (ps_ret (pe_callB (cr_all rfl) (by rfl) T.all (by decide +kernel) (pa_cons (pe_lc (own := [("_", 2), ("kind", 3), ("of", 4)]) (g := gTup K 2 (gCons (gTup K 2 (gCons (gName 3) (gCons (gName 4) gNil))) (gCons (gName 2) gNil))) (tt := tYes) (te := tOrV (tOp rEq (tVar 3) (tC (.str "name"))) (tAndV (tOp rEq (tVar 3) (tC (.str "piece"))) (tDIn (tVar 4) (tVar 1)))) rfl scAreOf.nd (pi_tup (pe_ix ix_tup (pv 0) pe_int (fun _ _ => rfl))) (blkOk_by (N := NAo) (sc := defScope sAreOf) (by decide +kernel)) (fun _ _ _ _ _ => (pg_tup rfl (pgs_cons (pg_tup rfl (pgs_cons (pg_name (i := 3) scAreOf.nd rfl (.inl rfl)) (pgs_cons (pg_name (i := 4) scAreOf.nd rfl (.inl rfl)) pgs_nil))) (pgs_cons (pg_name (i := 2) scAreOf.nd rfl (.inl rfl)) pgs_nil)))) (fun _ _ _ _ _ => pts_nil) (fun _ _ _ _ _ => (pe_or (pe_cmpR op_eq (pv 3) pe_str (nomark _)) (pe_one (pe_and (pe_cmpR op_eq (pv 3) pe_str (nomark _)) (pe_one (pe_cmp (pc_din hu (pv 4) (pv 1)) (by rfl)))))))) pa_nil)))), ?_⟩
    obtain ⟨c1, c2, us, rfl, hc1, hc2, hus⟩ := hsum
    have lu : us.length = wd.2.length := hus.length
    refine ⟨_, rfl, c1, _, _, _, rfl, rfl, SqT.of hc1, at_of (i := 1) rfl, c2, rfl, ⟨us, SqT.of hc2⟩, fun Dp hDp => ?_⟩
    refine lc_it walk_tup (fun j Hj => Same H Hj ∧ Hj Dp = some (.lst (((wd.2.take j).map fun q => ofU qs q.1).map V.bl)))
      ⟨same_new hDp, upd_same⟩ (fun j Hj _ ⟨sj, _⟩ => SqT.of (sj _ _ hc2)) ?_ ?_
    · rintro j y Hj' Hj hj ⟨sj, hz⟩ ⟨rfl, hy⟩
      obtain ⟨u, m, c, ee, hum, rfl, hc, he⟩ := part_get hus hy
      obtain ⟨kd, o, rfl, hkd, _⟩ := nm u (List.mem_map.mpr ⟨_, List.mem_of_getElem? hum, rfl⟩)
      have hcj := sj _ _ hc
      have hej := sj _ _ he
      have hFj := sj _ _ hF
      have hjl := (List.getElem?_eq_some_iff.mp hum).1
      have fin : ∀ b : Bool, ofU qs [.inr kd, o] = b → ∃ acc, Hj Dp = some (.lst acc) ∧ acc.length < sizeLine ∧ (Same H (upd Hj Dp (.lst (acc ++ [V.bl b]))) ∧ upd Hj Dp (.lst (acc ++ [V.bl b])) Dp = some (.lst (((wd.2.take (j + 1)).map fun q => ofU qs q.1).map V.bl))) := fun b e => by
        refine ⟨_, hz, small1000 (by simp; omega), same_upd sj hDp, ?_⟩
        rw [upd_same, List.take_add_one, hum, List.map_append, List.map_append]
        show _ = some (HO.lst (_ ++ [V.bl (ofU qs [.inr kd, o])]))
        rw [e]
      refine ⟨c, _, rfl, SqT.of hcj, rfl, _, _, rfl, ⟨ee, _, rfl, SqT.of hej, rfl, _, _, rfl, _, _, rfl, rfl, _, _, rfl, rfl, rfl, yes_go ?_⟩⟩
      refine ⟨_, rfl, rfl, _, rfl, ?_⟩
      by_cases k1 : kd = sName
      · subst k1
        rw [show decide (kV (.inr sName) = V.str "name") = true from by decide +kernel]
        exact iteT (fin true (by
          show (decide (sName = sName) || (decide (sName = sPiece) && (valV (kindD qs) o).isSome)) = true
          simp))
      · rw [show decide (kV (.inr kd) = V.str "name") = false from decide_eq_false fun z => k1 (by injection z)]
        refine iteF ⟨_, rfl, rfl, _, rfl, ?_⟩
        by_cases k2 : kd = sPiece
        · subst k2
          rw [show decide (kV (.inr sPiece) = V.str "piece") = true from by decide +kernel]
          refine iteT ⟨_, rfl, _, rfl, F, _, rfl, DGet.k (k := o) hFj, fin _ ?_⟩
          show (decide (sPiece = sName) || (decide (sPiece = sPiece) && (valV (kindD qs) o).isSome)) = _
          rw [decide_eq_false k1, decide_eq_true rfl, Bool.false_or, Bool.true_and]
        · rw [show decide (kV (.inr kd) = V.str "piece") = false from decide_eq_false fun z => k2 (by injection z)]
          refine iteF (fin false ?_)
          show (decide (kd = sName) || (decide (kd = sPiece) && (valV (kindD qs) o).isSome)) = _
          rw [decide_eq_false k1, decide_eq_false k2]
          rfl
    · rintro Hj ⟨sj, hz⟩
      rw [lu, List.take_length] at hz
      refine ⟨Dp, _, rfl, SqL.of hz, ?_⟩
      have : (List.map (fun q => ofU qs q.1) wd.2).all id = ofW qs wd := by
        unfold ofW
        rw [List.all_map]
        rfl
      rw [this]
      exact q _ sj
end
end DR

namespace DR
open PySem PySem.Spec PyProof.Rows L2
/-! ### the values of a dict whose keys are tuples -/
section
variable {X : Cx} {pins : List (Addr × Obj)} {σ : L2.St} {H : Hp} {s : Shared} {d : Addr} {o : Obj}
theorem frzTV {kvs : List (List Key × V)} (I : Inv X pins σ H s) (h : H d = some (.frz o (.dT kvs))) :
    (d == sysModules) = false ∧ s.heap.get? d = some o ∧ o.ExactDict ∧ ∃ (es : Array DictEntry) (ep : Nat), o.data = .dict es ep ∧ es.size = kvs.length ∧
      ∀ (i : Nat) (k : List Key) (v : V), kvs[i]? = some (k, v) → ∃ en : DictEntry, es[i]? = some en ∧ L2.RelV v en.val := by
  obtain ⟨hd, z, hs, xs, pr, o', es, ep, ho, hx, hdt, he, _⟩ := I.hok d _ h
  rw [hd] at ho
  cases ho
  refine ⟨hs, hd, hx, es, ep, hdt, ?_, fun i k v e => ?_⟩
  · have l1 : es.size = xs.length := size_of_entries he
    have l2 : kvs.length = xs.length := Paired.length pr
    omega
  · obtain ⟨b, hb, e1, e2, e3⟩ := paired_get pr e
    have q := entry_at he i
    rw [hb] at q
    exact ⟨_, q, e3⟩
end
/-- the values, in their order -/
def Itvt (d : Addr) (o : Obj) (kvs : List (List Key × V)) : It :=
  ⟨fun i H => H d = some (.frz o (.dT kvs)) ∧ i < kvs.length, fun i H x H' => H' = H ∧ ∃ k, kvs[i]? = some (k, x), fun i H => H d = some (.frz o (.dT kvs)) ∧ kvs.length ≤ i⟩
section
variable {P : Program} {w : World} {K : PySem.W.Frag} {tg : Expr} {d : Addr} {o : Obj} {es : Array DictEntry} {ep : Nat}
theorem turn_valsT {kvs : List (List Key × V)} (it : Addr) (hod : o.data = .dict es ep) : Turn P w K tg (Itvt d o kvs) [it] it (fun i h => h.IsValIter it d i kvs.length ep) where
  mem := by simp
  obj := fun i h st b hb => by
    have e : b = it := by simpa using hb
    subst e
    obtain ⟨oi, e, c, dd⟩ := st
    exact ⟨oi, e, fun v z => by rw [dd] at z; cases z⟩
  keep := fun i h h' st k => st.at fun oi e => k it (by simp) oi e
  item := by
    intro X hP hw hK hc i pins s σ H E I hf st hg
    subst hP hw hK
    obtain ⟨hd, hi⟩ := hg
    obtain ⟨f0, f1, f2, f3, f4, f5⟩ := hf it (by simp)
    obtain ⟨hs, hgd, hx, es', ep', hdt, hsz, ent⟩ := frzTV I hd
    obtain ⟨rfl, rfl⟩ := dict_ep hod hdt
    obtain ⟨⟨k, v⟩, hkv⟩ : ∃ p, kvs[i]? = some p := ⟨kvs[i], List.getElem?_eq_getElem hi⟩
    obtain ⟨en, hen, ru⟩ := ent i k v hkv
    have hlt : i < es'.size := by omega
    have ee : es'[i] = en := by
      rw [Array.getElem?_eq_getElem hlt] at hen
      exact Option.some.inj hen
    have st : s.heap.IsValIter it d i kvs.length ep' := st
    rw [← hsz] at st
    refine wpAny_pyNext_values_item_raw st ⟨o, hgd, hx, hdt⟩ hlt fun h' st' sb => ?_
    have I1 : Inv X pins σ H { s with heap := h' } := I.turned (t' := s.toks) (fun b ob hb e => (sb.2 b hb).trans e) f0 f1 f3 f4 f5
    obtain ⟨oi, e, c, dd⟩ := id st'
    refine ⟨es'[i].val, rfl, go_of (s := { s with heap := h' }) e c dd (by decide) ⟨v, H, I1, by rw [ee]; exact ru, ⟨rfl, k, hkv⟩, ?_, fun b hb => (hf b hb).1⟩⟩
    show h'.IsValIter it d (i + 1) kvs.length _
    rw [← hsz]
    exact st'
  done := by
    intro X hP hw hK hc i pins s σ H E I hf st hg
    subst hP hw hK
    obtain ⟨hd, hi⟩ := hg
    obtain ⟨f0, f1, f2, f3, f4, f5⟩ := hf it (by simp)
    obtain ⟨hs, hgd, hx, es', ep', hdt, hsz, ent⟩ := frzTV I hd
    obtain ⟨rfl, rfl⟩ := dict_ep hod hdt
    have st : s.heap.IsValIter it d i kvs.length ep' := st
    rw [← hsz] at st
    exact wpAny_pyNext_values_end_raw (I.ok.hd hc) st ⟨o, hgd, hx, hdt⟩ (by omega) fun h' eb => ⟨rfl, I.turned (t' := s.toks) (fun b ob hb e => eb b ob hb e) f0 f1 f3 f4 f5⟩
  self := fun A i s Q E st h => wpAny_pyIter_valiter st h
end
/-- d.values(), the keys of d tuples -/
def iValsT (td : TE) : TI := fun σ H R => td σ H fun x H1 => ∃ d o kvs, x = .ref d ∧ H1 d = some (.frz o (.dT kvs)) ∧ R (Itvt d o kvs) H1
theorem pi_valuesT {X : Cx} {tg e : Expr} {td : TE} {apos cpos : Pos} (he : PE X e td) (hbase : attributeBase e "values" X.env (eval e X.env) = eval e X.env := by rfl) (hline : (apos.endLine == cpos.line) = true := by rfl) : PI X tg (.Call (.Attribute e "values" apos) [] [] cpos) (iValsT td) := by
  refine ⟨fun pins s σ H R I h => ?_⟩
  refine wpAny_Call_method (T := "dict") (id := "dict.values") hbase rfl hline PySem.F.plainAttrs_dict PySem.F.slot_dict_values PySem.F.type_dict_values (thn (he.run pins s σ H _ I h) fun u s1 ⟨x, H1, I1, rx, d, o, kvs, ex, hd, q⟩ => ?_)
  subst ex
  obtain rfl : u = Value.ref d := rx
  obtain ⟨hs, hgd, hx, es, ep, hdt, hsz, ent⟩ := frzTV I1 hd
  have hm : s1.heap.DictRaw d es ep := ⟨o, hgd, hx, hdt⟩
  refine ⟨hm.typeIs, fun b e => ?_, ?_⟩
  · cases e
    exact ⟨o, hgd, hx.2.1⟩
  have I2 : Inv X pins σ H1 { s1 with heap := s1.heap.push { cls := .type "dict_values", data := .fields #[.ref d] } } := I1.kept (t' := s1.toks) fun b ob q => Heap.get?_push_of_some _ q
  have fin : wpAny (model X.prog X.w) X.A (pyIter (.ref s1.heap.objs.size)) (PIE X pins σ tg R) X.xe { s1 with heap := s1.heap.push { cls := .type "dict_values", data := .fields #[.ref d] } } := by
    refine wpAny_pyIter_values_raw (d := d) ⟨_, Heap.get?_push_size _ rfl, rfl, rfl⟩ (hm.push _) (pi_one (tk := s1.toks) I2 _ (turn_valsT _ hdt) ⟨_, Heap.get?_push_size _ rfl, rfl, ?_⟩ q)
    rw [hsz] <;> rfl
  show wpAny _ _ (callWith cpos (.builtin "dict.values") [.ref d] [] []) _ X.xe s1
  exact method_meetsIn PySem.F.slot_dict_values PySem.F.entry_dict_values rfl (PySem.evalArgs_none ⟨rfl, hm.typeIs, PySem.F.args_dict_values_1 _, _, meets_dict_values_raw d hs, ⟨⟨es, ep, hm⟩, fin⟩⟩)
theorem walk_valsT {d : Addr} {o : Obj} {kvs : List (List Key × V)} : Walk (Itvt d o kvs) kvs.length (fun H => H d = some (.frz o (.dT kvs))) (fun i H x H' => H' = H ∧ ∃ k, kvs[i]? = some (k, x)) :=
  ⟨fun _ _ hi q => ⟨q, hi⟩, fun _ q => ⟨q, Nat.le_refl _⟩, fun _ _ _ _ _ _ y => y⟩
end DR

namespace DR
open PySem PySem.Spec PyProof.Rows L2
/-! ### wanted_in: the names that words have and that are told of nothing -/
def nameU (u : List Key) : Option Str := match u with
  | [.inr k, .inr z] => if k = sName then some z else none
  | _ => none
def namesW (w : Int × Mul) : List Str := w.2.filterMap fun q => nameU q.1
def namesQ (qs : List Pk) : List Str := (adrs qs).flatMap fun a => namesW a.2.2
theorem stood_put2 (zs : List Str) {z : Str} (h : z ∈ zs) : putK (stoodD zs) (.inr z) (.bl true) = stoodD zs := by
  unfold putK stoodD
  rw [if_pos]
  · rw [List.map_map]
    refine List.map_congr_left fun y hy => ?_
    show (if (Sum.inr y : Key) = .inr z then ((.inr y : Key), V.bl true) else ((.inr y : Key), V.bl true)) = _
    split <;> rfl
  · exact List.any_eq_true.mpr ⟨_, List.mem_map.mpr ⟨z, h, rfl⟩, by simp⟩
/-- names found so far -/
structure Wtd (md : List (Key × V)) (ns l : List Str) : Prop where
  nod : ns.Nodup
  mem : ∀ z, z ∈ ns ↔ z ∈ l ∧ valV md (.inr z) = none
  len : ns.length ≤ l.length
theorem Wtd.nil {md : List (Key × V)} : Wtd md [] [] := ⟨List.nodup_nil, fun z => by simp, Nat.le_refl _⟩
theorem Wtd.same {md : List (Key × V)} {ns l l' : List Str} (h : Wtd md ns l) (e : ∀ z, z ∈ l' → z ∈ l ∨ valV md (.inr z) ≠ none) (e2 : ∀ z ∈ l, z ∈ l') (le : l.length ≤ l'.length) : Wtd md ns l' :=
  ⟨h.nod, fun z => ⟨fun hz => ⟨e2 z ((h.mem z).mp hz).1, ((h.mem z).mp hz).2⟩, fun hz => (h.mem z).mpr ⟨(e z hz.1).resolve_right fun c => c hz.2, hz.2⟩⟩, Nat.le_trans h.len le⟩
theorem Wtd.put {md : List (Key × V)} {ns l : List Str} {z : Str} (h : Wtd md ns l) (n : valV md (.inr z) = none) : ∃ ns', putK (stoodD ns) (.inr z) (.bl true) = stoodD ns' ∧ Wtd md ns' (l ++ [z]) := by
  by_cases c : z ∈ ns
  · exact ⟨ns, stood_put2 ns c, h.same (fun y hy => by
      rcases List.mem_append.mp hy with hy | hy
      · exact .inl hy
      · rw [List.mem_singleton.mp hy]
        exact .inl ((h.mem z).mp c).1) (fun y hy => List.mem_append_left _ hy) (by simp)⟩
  · refine ⟨ns ++ [z], stood_put ns c, ?_, fun y => ?_, ?_⟩
    · refine List.nodup_append.mpr ⟨h.nod, by simp, fun a ha b hb e => c ?_⟩
      rw [List.mem_singleton.mp hb] at e
      exact e ▸ ha
    · constructor
      · intro hy
        rcases List.mem_append.mp hy with hy | hy
        · exact ⟨List.mem_append_left _ ((h.mem y).mp hy).1, ((h.mem y).mp hy).2⟩
        · rw [List.mem_singleton.mp hy]
          exact ⟨List.mem_append_right _ (List.mem_singleton.mpr rfl), n⟩
      · rintro ⟨hy, hn⟩
        rcases List.mem_append.mp hy with hy | hy
        · exact List.mem_append_left _ ((h.mem y).mpr ⟨hy, hn⟩)
        · exact List.mem_append_right _ hy
    · have := h.len
      simp only [List.length_append, List.length_singleton]
      omega
theorem fm_none {u : List Key} {m : Int} (h : nameU u = none) : List.filterMap (fun q : List Key × Int => nameU q.1) [(u, m)] = [] := by simp [h]
theorem fm_some {u : List Key} {m : Int} {z : Str} (h : nameU u = some z) : List.filterMap (fun q : List Key × Int => nameU q.1) [(u, m)] = [z] := by simp [h]
theorem names_pre {qs : List Pk} {i : Nat} {a : Adr} (h : (adrs qs)[i]? = some a) (j : Nat) : ((((adrs qs).take i).flatMap fun a => namesW a.2.2) ++ (a.2.2.2.take j).filterMap fun q => nameU q.1).length ≤ (namesQ qs).length := by
  have hi := (List.getElem?_eq_some_iff.mp h).1
  have ha : (adrs qs)[i] = a := (List.getElem?_eq_some_iff.mp h).2
  have e : adrs qs = (adrs qs).take i ++ (a :: (adrs qs).drop (i + 1)) := by
    rw [← ha, ← List.drop_eq_getElem_cons hi, List.take_append_drop]
  have e2 : namesQ qs = ((adrs qs).take i).flatMap (fun a => namesW a.2.2) ++ (namesW a.2.2 ++ ((adrs qs).drop (i + 1)).flatMap fun a => namesW a.2.2) := by
    show (adrs qs).flatMap (fun a => namesW a.2.2) = _
    conv => lhs; rw [e]
    rw [List.flatMap_append, List.flatMap_cons]
  rw [e2, List.length_append, List.length_append, List.length_append]
  have : ((a.2.2.2.take j).filterMap fun q => nameU q.1).length ≤ (namesW a.2.2).length := ((List.take_sublist j a.2.2.2).filterMap _).length_le
  omega
def spWanted (K : PySem.W.Frag) : Sp := fun vs H Q _ => ∃ (D F : Addr) (ks : List (List Key × V)) (md : List (Key × V)) (qs : List Pk), vs = [.ref D, .ref F] ∧ H D = some (.dT ks) ∧ PySem.W.EachIs (AdrV H) ks (adrs qs) ∧ PkOk qs ∧ H F = some (.dK md) ∧ (namesQ qs).length < 64 ∧
  ∀ L ys H', Same H H' → H L = none → H' L = some (.lst (ys.map V.str)) → sortedS ys = true → ys.Nodup → (∀ z, z ∈ ys ↔ z ∈ namesQ qs ∧ valV md (.inr z) = none) → Q (.ref L) H'
abbrev sWanted : Stmt := topS 32
abbrev NWa : List Str := ["sums", "told", "found", "word", "kind", "of", "_"]
theorem scWanted : FnScope NWa ["sums", "told"] (defScope sWanted) := ⟨rfl, rfl, rfl, by decide +kernel, rfl, by decide +kernel, by decide +kernel⟩
section
variable {P : Program} {w : World} {K : PySem.W.Frag} {mg : Str → Option Value} {base : Heap}
theorem ok_wanted {f : Addr} {fd : FuncData} (F : Fun K "wanted_in" "wanted_in" sWanted f fd) (T : Bi mg) : FnOk P w K mg base CX0 1 f fd ["sums", "told"] (spWanted K) := by
  refine F.ok scWanted (fun vs H Q E h => ?_) (fun cdv A outer s H vs Q E hr h => ?_)
  · obtain ⟨D, F, ks, md, qs, rfl, _⟩ := h
    rfl
  · obtain ⟨D, F, ks, md, qs, rfl, hD, hks, ok, hF, few, q⟩ := h
    have hu := hu_of hr
    refine ⟨_, (pss_cons (ps_set (i := 2) scWanted.nd rfl (.inl rfl) pe_dnewK)
      (pss_cons (ps_lock (ps_for PassesOwn.never rfl (pi_valuesT (pv 0)) (pg_name (i := 3) scWanted.nd rfl (.inl rfl)) (pss_one (ps_for PassesOwn.never rfl (pi_tup (pe_ix ix_tup (pv 3) pe_int (fun _ _ => rfl))) (pg_tup rfl (pgs_cons (pg_tup rfl (pgs_cons (pg_name (i := 4) scWanted.nd rfl (.inl rfl)) (pgs_cons (pg_name (i := 5) scWanted.nd rfl (.inl rfl)) pgs_nil))) (pgs_cons (pg_name (i := 6) scWanted.nd rfl (.inl rfl)) pgs_nil))) (pss_one (ps_if (PW.pt (pw_and (pt_cmpR op_eq (pv 4) pe_str (nomark _)) (pw_and1 (pt_cmp (pc_dnotin hu (pv 5) (pv 1)) (by rfl))))) (pss_one (ps_dput hu (pv 2) (pv 5) pe_bl rfl)) pss_nil))))))
      (pss_one (ps_ret (pe_callB cr_sortedS (by rfl) T.sorted (by decide +kernel) (pa_cons (pe_callTy (call_listD rfl) (by rfl) T.list (by decide +kernel) (pa_cons (pv 2) pa_nil)) pa_nil)))))), ?_⟩
    refine fun F0 nF0 => ?_
    have k1 := same_new (o := .dK []) nF0
    have g1 : upd H F0 (.dK []) F0 = some (.dK (stoodD [])) := upd_same
    have DF0 : D ≠ F0 := ne_of_none hD nF0
    have FF0 : F ≠ F0 := ne_of_none hF nF0
    generalize upd H F0 (.dK []) = H1 at k1 g1 ⊢
    have hD1 := k1 _ _ hD
    refine ⟨D, _, hD1, trivial, fun od => ?_⟩
    have ts0 : TupS H1 (upd H1 D (.frz od (.dT ks))) := TupS.put hD1 (by intro xs z; cases z)
    have hD0 : upd H1 D (.frz od (.dT ks)) D = some (.frz od (.dT ks)) := upd_same
    have kp0 : ∀ b o, b ≠ D → H1 b = some o → upd H1 D (.frz od (.dT ks)) b = some o := fun b o hb e => by rw [upd_ne hb]; exact e
    generalize upd H1 D (.frz od (.dT ks)) = H0 at ts0 hD0 kp0 ⊢
    have tsH : TupS H H0 := fun b xs e => ts0 _ _ (k1 _ _ e)
    have hks0 := eachs_imp (fun _ _ => adrV_s tsH) hks
    have hF0' : H0 F0 = some (.dK (stoodD [])) := kp0 _ _ DF0.symm g1
    have FD : F ≠ D := fun z => by rw [z, hD] at hF; cases hF
    have hF1 : H0 F = some (.dK md) := kp0 _ _ FD (k1 _ _ hF)
    have lk : ks.length = (adrs qs).length := hks.length
    refine ⟨_, rfl, D, od, ks, rfl, hD0, ?_⟩
    refine for_it walk_valsT (fun i σ H5 => ∃ (w3 w4 w5 w6 : Option V) (ns : List Str), σ = [some (.ref D), some (.ref F), some (.ref F0), w3, w4, w5, w6] ∧ (∀ b x, b ≠ F0 → H0 b = some x → H5 b = some x) ∧ H5 F0 = some (.dK (stoodD ns)) ∧ Wtd md ns (((adrs qs).take i).flatMap fun a => namesW a.2.2))
      ⟨none, none, none, none, [], rfl, fun _ _ _ e => e, hF0', .nil⟩ (fun i σ H5 _ ⟨_, _, _, _, _, _, k5, _⟩ => k5 _ _ DF0 hD0) ?_ ?_
    · rintro i x σ H5' H5 hi ⟨w3, w4, w5, w6, ns, rfl, k5, g5, wt⟩ ⟨rfl, kk, hk⟩
      obtain ⟨⟨z, n, wd⟩, had, ek, hsum⟩ := eachs_get hks0 hk
      have ts5 : TupS H0 H5 := fun b xs e => k5 b _ (fun c => by rw [c, hF0'] at e; cases e) e
      obtain ⟨c1, c2, us, e3, hc1, hc2, hus⟩ := sumT_s ts5 hsum
      have e3 : x = .ref c1 := e3
      subst e3
      have hus : PySem.W.EachIs (PartT H5) us wd.2 := hus
      have lu : us.length = wd.2.length := hus.length
      have anm : ∀ u ∈ wd.2.map (·.1), NmU u := by
        obtain ⟨q1, hq1, hm⟩ := List.mem_flatMap.mp (List.mem_of_getElem? had)
        unfold adrsP at hm
        obtain ⟨wk, hwk, e⟩ := List.mem_map.mp hm
        have hw : wk.1 ∈ q1.2.2 := (List.mem_zipIdx hwk).2.2 ▸ List.getElem_mem _
        have e : wk.1 = wd := congrArg (fun z : Adr => z.2.2) e
        exact ok.nm q1 hq1 wd (e ▸ hw)
      refine ⟨_, rfl, c1, _, _, _, rfl, rfl, SqT.of hc1, at_of (i := 1) rfl, c2, rfl, ⟨us, SqT.of hc2⟩, ?_⟩
      refine for_it walk_tup (fun j σ H7 => ∃ (w4 w5 w6 : Option V) (ns : List Str), σ = [some (.ref D), some (.ref F), some (.ref F0), some (.ref c1), w4, w5, w6] ∧ (∀ b x, b ≠ F0 → H0 b = some x → H7 b = some x) ∧ (∀ b xs, H5 b = some (.tup xs) → H7 b = some (.tup xs)) ∧ H7 F0 = some (.dK (stoodD ns)) ∧ Wtd md ns ((((adrs qs).take i).flatMap fun a => namesW a.2.2) ++ (wd.2.take j).filterMap fun q => nameU q.1))
        ⟨_, _, _, ns, rfl, k5, fun _ _ e => e, g5, by rw [List.take_zero, List.filterMap_nil, List.append_nil]; exact wt⟩ (fun j σ H7 _ ⟨_, _, _, _, _, _, t7, _⟩ => SqT.of (t7 _ _ hc2)) ?_ ?_
      · rintro j y σ H7' H7 hj ⟨w4, w5, w6, ns, rfl, k7, t7, g7, wt⟩ ⟨rfl, hy⟩
        obtain ⟨u, m, c, ee, hum, rfl, hc, he⟩ := part_get hus hy
        obtain ⟨kd, o, rfl, hkd, hin⟩ := anm u (List.mem_map.mpr ⟨_, List.mem_of_getElem? hum, rfl⟩)
        have hc7 := t7 _ _ hc
        have he7 := t7 _ _ he
        have hF7 := k7 _ _ FF0 hF1
        have stay : nameU [.inr kd, o] = none ∨ (∃ z, nameU [.inr kd, o] = some z ∧ valV md (.inr z) ≠ none) → Wtd md ns ((((adrs qs).take i).flatMap fun a => namesW a.2.2) ++ (wd.2.take (j + 1)).filterMap fun q => nameU q.1) := fun c => by
          rw [List.take_add_one, hum, List.filterMap_append, ← List.append_assoc]
          rcases c with c | ⟨z, c, cv⟩
          · show Wtd md ns (_ ++ List.filterMap (fun q : List Key × Int => nameU q.1) [([.inr kd, o], m)])
            rw [fm_none c, List.append_nil]
            exact wt
          · show Wtd md ns (_ ++ List.filterMap (fun q : List Key × Int => nameU q.1) [([.inr kd, o], m)])
            rw [fm_some c]
            exact wt.same (fun y hy => by
              rcases List.mem_append.mp hy with hy | hy
              · exact .inl hy
              · rw [List.mem_singleton.mp hy]; exact .inr cv) (fun y hy => List.mem_append_left _ hy) (by simp)
        refine ⟨c, _, rfl, SqT.of hc7, rfl, _, _, rfl, ⟨ee, _, rfl, SqT.of he7, rfl, _, _, rfl, _, _, rfl, rfl, _, _, rfl, rfl, ?_⟩⟩
        refine ⟨_, rfl, rfl, _, rfl, ?_⟩
        by_cases kn : kd = sName
        · subst kn
          obtain ⟨z, rfl⟩ : ∃ z, o = .inr z := by
            cases o with
            | inl n => exact absurd (hin.mp ⟨n, rfl⟩) (by decide +kernel)
            | inr z => exact ⟨z, rfl⟩
          have eN : nameU [.inr sName, .inr z] = some z := by
            show (if sName = sName then some z else none) = some z
            rw [if_pos rfl]
          rw [show decide (kV (.inr sName) = V.str "name") = true from by decide +kernel]
          refine iteT ⟨_, rfl, _, rfl, F, _, rfl, DGet.k (k := .inr z) hF7, ?_⟩
          cases ev : valV md (.inr z) with
          | some v =>
            exact ⟨_, rfl, iteF ⟨_, _, _, ns, rfl, k7, t7, g7, stay (.inr ⟨z, eN, by rw [ev]; simp⟩)⟩⟩
          | none =>
            obtain ⟨ns', en, wt'⟩ := wt.put ev
            refine ⟨_, rfl, iteT ⟨_, rfl, _, rfl, F0, _, rfl, DPut.k (k := .inr z) g7 (small1000 ?_), ?_⟩⟩
            · have h2 : ns.length ≤ (namesQ qs).length := Nat.le_trans wt.len (names_pre had j)
              unfold stoodD
              rw [List.length_map]
              omega
            · rw [en]
              refine ⟨_, _, _, ns', rfl, fun b x hb e => by rw [upd_ne hb]; exact k7 b x hb e, fun b xs e => by rw [upd_ne (fun c => by rw [c, g5] at e; cases e)]; exact t7 b xs e, upd_same, ?_⟩
              rw [List.take_add_one, hum, List.filterMap_append, ← List.append_assoc]
              show Wtd md ns' (_ ++ List.filterMap (fun q : List Key × Int => nameU q.1) [([.inr sName, .inr z], m)])
              rw [fm_some eN]
              exact wt'
        · rw [show decide (kV (.inr kd) = V.str "name") = false from decide_eq_false fun z => kn (by injection z)]
          refine iteF (iteF ⟨_, _, _, ns, rfl, k7, t7, g7, stay (.inl ?_)⟩)
          cases o with
          | inl n => rfl
          | inr z =>
            show (if kd = sName then some z else none) = none
            rw [if_neg kn]
      · rintro σ H7 ⟨w4, w5, w6, ns, rfl, k7, t7, g7, wt⟩
        rw [lu, List.take_length] at wt
        refine ⟨_, _, _, _, ns, rfl, k7, g7, ?_⟩
        rw [List.take_add_one, had, List.flatMap_append]
        show Wtd md ns (_ ++ List.flatMap (fun a : Adr => namesW a.2.2) [(z, n, wd)])
        rw [List.flatMap_singleton]
        exact wt
    · rintro σ H5 ⟨w3, w4, w5, w6, ns, rfl, k5, g5, wt⟩
      rw [lk, List.take_length] at wt
      have wt : Wtd md ns (namesQ qs) := wt
      have hD5 := k5 _ _ DF0 hD0
      refine ⟨hD5, ?_⟩
      have g6 : upd H5 D (.dT ks) F0 = some (.dK (stoodD ns)) := by rw [upd_ne DF0.symm]; exact g5
      have S6 : Same H (upd H5 D (.dT ks)) := fun b o e => by
        by_cases c : b = D
        · rw [c, upd_same, ← hD, ← c, e]
        · rw [upd_ne c]
          exact k5 b o (ne_of_none e nF0) (kp0 b o c (k1 _ _ e))
      generalize upd H5 D (.dT ks) = H6 at g6 S6 ⊢
      refine ⟨_, rfl, F0, _, rfl, .of g6, fun p hp => ?_⟩
      have k7 := same_new (o := .lst ((stoodD ns).map fun kv => kV kv.1)) hp
      have g7 : upd H6 p (.lst ((stoodD ns).map fun kv => kV kv.1)) p = some (.lst (ns.map V.str)) := by
        rw [upd_same]
        unfold stoodD
        rw [List.map_map]
        rfl
      generalize upd H6 p (.lst ((stoodD ns).map fun kv => kV kv.1)) = H7 at k7 g7 ⊢
      have S7 := S6.trans k7
      refine ⟨p, ns, rfl, SqL.of g7, Nat.lt_of_le_of_lt wt.len few, fun ys L perm srt hL => ?_⟩
      refine q L ys _ (S7.trans (same_new hL)) (none_of S7 hL) upd_same srt (perm.nodup_iff.mpr wt.nod) fun z => ?_
      rw [perm.mem_iff]
      exact wt.mem z
end
end DR

namespace DR
open PySem PySem.Spec PyProof.Rows L2
/-! ### dicts whose keys are of several kinds -/
/-- what may be a key here -/
def keyOk : Value → Bool
  | .ref _ => true
  | .str _ _ => true
  | .int _ _ => true
  | .bool _ => true
  | .none => true
  | _ => false
structure VKind (prog : Program) (w : World) (K : Type) [DecidableEq K] where
  is : Heap → K → Value → Prop
  hash : K → Int
  draws : K → Nat
  room : Around → Prop
  ok : ∀ {h : Heap} {v : Value} {x : K}, is h x v → keyOk v = true
  inj : ∀ {h : Heap} {v : Value} {x y : K}, is h x v → is h y v → x = y
  keeps : ∀ {h h' : Heap} {k : K} {v : Value} {d : Addr} {o : Obj} {es ep}, is h k v → h.get? d = some o → o.data = .dict es ep → Heap.SameBut d h h' → is h' k v
  pyHash : ∀ {A : Around} {E : Value → Shared → Prop} {s : Shared} {k : K} {v : Value} {Q : Int → Shared → Prop}, room A → is s.heap k v → Q (hash k) { s with toks := s.toks + draws k } → wpAny (model prog w) A (PySem.pyHash v) Q E s
  eqBool : ∀ {A : Around} {E : Value → Shared → Prop} {s : Shared} {x y : K} {a b : Value} {Q : Bool → Shared → Prop}, room A → is s.heap x a → is s.heap y b → Q (decide (x = y)) s → wpAny (model prog w) A (PySem.eqBool a b) Q E s
  quiet : ∀ {A : Around} {E : Value → Shared → Prop} {s : Shared} {k : K} {v : Value} {Q : Bool → Shared → Prop}, is s.heap k v → Q true s → wpAny (model prog w) A (eqIsQuiet 8 v) Q E s
section
variable {prog : Program} {w : World} {K : Type} [DecidableEq K] (V : VKind prog w K)
def entV (x : K × Value × Value) : DictEntry := ⟨V.hash x.1, x.2.1, x.2.2⟩
abbrev plcs (es : Array DictEntry) (h : Int) : List Nat := placesWithHash es.size (fun i => es[i]?.map (·.hash)) h
/-- the table at d -/
def TabV (h : Heap) (d : Addr) (xs : List (K × Value × Value)) : Prop :=
  ∃ o es ep, h.get? d = some o ∧ o.ExactDict ∧ o.data = .dict es ep ∧ es.toList = xs.map (entV V) ∧ (∀ x ∈ xs, V.is h x.1 x.2.1) ∧ (xs.map (·.1)).Nodup
variable {V} {A : Around} {E : Value → Shared → Prop} {s : Shared}
theorem entV_at {es : Array DictEntry} {xs : List (K × Value × Value)} (he : es.toList = xs.map (entV V)) (j : Nat) : es[j]? = (xs[j]?).map (entV V) := by
  rw [← Array.getElem?_toList, he, List.getElem?_map]
theorem sizeV {es : Array DictEntry} {xs : List (K × Value × Value)} (he : es.toList = xs.map (entV V)) : es.size = xs.length := by
  rw [← Array.length_toList, he, List.length_map]
theorem mem_plcs {es : Array DictEntry} {xs : List (K × Value × Value)} (he : es.toList = xs.map (entV V)) {h : Int} {i : Nat} (hi : i ∈ plcs es h) : ∃ k v u, xs[i]? = some (k, v, u) ∧ V.hash k = h := by
  obtain ⟨_, hp0⟩ := List.mem_filter.mp hi
  have hp : ((es[i]?.map (·.hash)) == some h) = true := hp0
  rw [entV_at he] at hp
  cases e : xs[i]? with
  | none => rw [e] at hp; simp at hp
  | some x =>
    rw [e] at hp
    exact ⟨x.1, x.2.1, x.2.2, rfl, by simpa [entV] using hp⟩
theorem in_plcs {es : Array DictEntry} {xs : List (K × Value × Value)} (he : es.toList = xs.map (entV V)) {j : Nat} {k : K} {p : Value × Value} (hj : xs[j]? = some (k, p)) : j ∈ plcs es (V.hash k) := by
  refine List.mem_filter.mpr ⟨?_, ?_⟩
  · have := (List.getElem?_eq_some_iff.mp hj).1
    exact List.mem_range.mpr (by rw [sizeV he]; exact this)
  · show ((es[j]?.map (·.hash)) == some (V.hash k)) = true
    rw [entV_at he, hj]
    simp [entV]
theorem nod_plcs (es : Array DictEntry) (h : Int) : (plcs es h).Nodup := List.Nodup.sublist List.filter_sublist List.nodup_range
theorem idxV {xs : List (K × Value × Value)} (hn : (xs.map (·.1)).Nodup) {i j : Nat} {k : K} {p q : Value × Value} (hi : xs[i]? = some (k, p)) (hj : xs[j]? = some (k, q)) : i = j := by
  have hi' : (xs.map (·.1))[i]? = some k := by rw [List.getElem?_map, hi]; rfl
  have hj' : (xs.map (·.1))[j]? = some k := by rw [List.getElem?_map, hj]; rfl
  exact (List.getElem?_inj (List.getElem?_eq_some_iff.mp hi').1 hn).mp (hi'.trans hj'.symm)
/-- the walk over plain keys -/
theorem walkV {d : Addr} {key : Value} {o : Obj} {es ep} {xs : List (K × Value × Value)} {k : K} {Q : Option Nat → Shared → Prop} (hu : V.room A) (hkey : V.is s.heap k key)
    (ho : s.heap.get? d = some o) (hd : o.data = .dict es ep) (he : es.toList = xs.map (entV V)) (his : ∀ x ∈ xs, V.is s.heap x.1 x.2.1)
    (hnone : (∀ (j : Nat) (p : Value × Value), xs[j]? ≠ some (k, p)) → Q none s) (hsome : ∀ (j : Nat) (p : Value × Value), xs[j]? = some (k, p) → Q (some j) s) :
    wpAny (model prog w) A (dictWalkPlain d key (V.hash k) es (plcs es (V.hash k))) Q E s := by
  unfold dictWalkPlain
  refine wpAny_bind ?_
  refine wpAny_forIn_list _ (fun rest b s' => s' = s ∧ b = (none, ()) ∧ (∀ i ∈ rest, i ∈ plcs es (V.hash k)) ∧ ∀ j p, xs[j]? = some (k, p) → j ∈ rest) _ ?_ ?_ _ _ ⟨rfl, rfl, fun _ h => h, fun j p h => in_plcs he h⟩
  · rintro x rest b s' ⟨rfl, rfl, hin, hall⟩
    obtain ⟨k', v', u', hx, hh⟩ := mem_plcs he (hin x (List.mem_cons_self ..))
    have hex : es[x]? = some ⟨V.hash k', v', u'⟩ := by rw [entV_at he, hx]; rfl
    have hib : V.is s'.heap k' v' := his _ (List.mem_of_getElem? hx)
    rw [hex]
    dsimp only
    rw [if_pos (by rw [hh]; simp)]
    refine wpAny_bind (wpAny_dictEpoch ho hd (wpAny_bind (V.eqBool hu hib hkey (wpAny_bind (wpAny_dictEpoch ho hd ?_)))))
    show wpAny _ _ (if (ep != ep) = true then _ else _) _ E _
    rw [if_neg (by simp)]
    by_cases hkk : k' = k
    · subst hkk
      rw [decide_eq_true rfl]
      exact wpAny_bind (wpAny_rule (wpAny_pure (wpAny_pure (hsome x _ hx))))
    · rw [decide_eq_false hkk]
      refine wpAny_bind (wpAny_rule (wpAny_pure ⟨rfl, rfl, fun i hi => hin i (List.mem_cons_of_mem _ hi), fun j p hj => ?_⟩))
      rcases List.mem_cons.mp (hall j p hj) with z | z
      · rw [z, hx] at hj
        exact absurd (Prod.mk.inj (Option.some.inj hj)).1 hkk
      · exact z
  · rintro b s' ⟨rfl, rfl, hin, hall⟩
    exact wpAny_pure (hnone fun j p hj => absurd (hall j p hj) (by simp))
end
end DR

namespace DR
open PySem PySem.Spec PyProof.Rows L2
section
variable {prog : Program} {w : World} {K : Type} [DecidableEq K] {V : VKind prog w K} {A : Around} {E : Value → Shared → Prop} {s : Shared}
theorem tellV {key : Value} {k : K} {stored : List Value} {Q : Bool → Shared → Prop} (hkey : V.is s.heap k key) (hst : ∀ v ∈ stored, ∃ k', V.is s.heap k' v) (h : Q false s) : wpAny (model prog w) A (tableMayTell key stored) Q E s := by
  unfold tableMayTell
  split
  · exact wpAny_pure h
  · refine wpAny_bind (V.quiet hkey ?_)
    simp only [Bool.not_true, Bool.false_eq_true, if_false]
    refine wpAny_bind ?_
    refine wpAny_forIn_list _ (fun rest r s' => s' = s ∧ r = (none, ()) ∧ ∀ v ∈ rest, ∃ k', V.is s.heap k' v) _ ?_ ?_ _ _ ⟨rfl, rfl, hst⟩
    · rintro x rest r s' ⟨rfl, rfl, hr⟩
      obtain ⟨k', hb⟩ := hr x List.mem_cons_self
      refine wpAny_bind (V.quiet hb ?_)
      simp only [Bool.not_true, Bool.false_eq_true, if_false]
      exact wpAny_pure ⟨rfl, rfl, fun v hv => hr v (List.mem_cons_of_mem _ hv)⟩
    · rintro r s' ⟨rfl, rfl, _⟩
      exact wpAny_pure h
theorem findV {d : Addr} {key : Value} {o : Obj} {es ep} {xs : List (K × Value × Value)} {k : K} {Q : Option Nat → Shared → Prop} (hu : V.room A) (hkey : V.is s.heap k key)
    (ho : s.heap.get? d = some o) (hd : o.data = .dict es ep) (he : es.toList = xs.map (entV V)) (his : ∀ x ∈ xs, V.is s.heap x.1 x.2.1) (hn : (xs.map (·.1)).Nodup)
    (hs : isExactStrKey key = true → (es.all fun e => isExactStrKey e.key) = false)
    (hnone : (∀ (j : Nat) (p : Value × Value), xs[j]? ≠ some (k, p)) → Q none s) (hsome : ∀ (j : Nat) (p : Value × Value), xs[j]? = some (k, p) → Q (some j) s) :
    wpAny (model prog w) A (dictFind d key (V.hash k)) Q E s := by
  have hmem : ∀ e ∈ es, ∃ x ∈ xs, e = entV V x := by
    intro e hin
    have : e ∈ xs.map (entV V) := he ▸ Array.mem_toList_iff.mpr hin
    obtain ⟨x, hx, rfl⟩ := List.mem_map.mp this
    exact ⟨x, hx, rfl⟩
  have hany : ¬ (es.any fun e => e.key == key && e.hash != V.hash k) = true := by
    rw [← Array.any_toList, List.any_eq_true]
    rintro ⟨e, hin, hc⟩
    obtain ⟨x, hx, rfl⟩ := hmem e (Array.mem_toList_iff.mp hin)
    rw [Bool.and_eq_true] at hc
    obtain ⟨h1, h2⟩ := hc
    have e1 : x.2.1 = key := eq_of_beq h1
    have := his x hx
    rw [e1] at this
    rw [show (entV V x).hash = V.hash k from congrArg V.hash (V.inj this hkey)] at h2
    simp at h2
  have hst : ∀ v ∈ (plcs es (V.hash k)).filterMap (fun i => es[i]?.map (·.key)), ∃ k', V.is s.heap k' v := by
    intro v hv
    obtain ⟨i, _, hi⟩ := List.mem_filterMap.mp hv
    cases hei : es[i]? with
    | none => rw [hei] at hi; cases hi
    | some e =>
      rw [hei] at hi
      obtain rfl : e.key = v := by simpa using hi
      obtain ⟨x, hx, rfl⟩ := hmem e (Array.mem_of_getElem? hei)
      exact ⟨x.1, his x hx⟩
  have plain := walkV (Q := Q) (E := E) hu hkey ho hd he his hnone hsome
  unfold dictFind
  try with_reducible refine wpAny_holding ?_
  refine wpAny_bind (wpAny_dictEntries ho hd ?_)
  cases key with
  | ref a =>
    dsimp only
    rw [if_neg (show ¬ ((Value.ref a :: (plcs es (V.hash k)).filterMap (fun i => es[i]?.map (·.key))).all carriedByValue) = true by simp [carriedByValue])]
    rw [if_neg hany]
    by_cases hone : (((plcs es (V.hash k)).filterMap (fun i => es[i]?.map (·.key))) == [Value.ref a]) = true <;>
    (first | rw [if_pos hone] | rw [if_neg hone]) <;> (first | refine wpAny_bind (wpAny_pure ?_) | refine wpAny_bind (tellV hkey hst ?_)) <;> (
      rw [if_neg (by simp)]
      refine wpAny_bind ?_
      refine wpAny_forIn_list _ (fun rest b s' => s' = s ∧ rest.Nodup ∧ (∀ i ∈ rest, i ∈ plcs es (V.hash k)) ∧ ∃ hit, b = (none, hit) ∧ ((hit = none ∧ ∀ j p, xs[j]? = some (k, p) → j ∈ rest) ∨ ∃ j p, hit = some j ∧ xs[j]? = some (k, p) ∧ j ∉ rest)) _ ?_ ?_ _ _
        ⟨rfl, nod_plcs _ _, fun _ h => h, none, rfl, .inl ⟨rfl, fun j p h => in_plcs he h⟩⟩
      · rintro x rest b s' ⟨rfl, nd, hin, hit, rfl, hH⟩
        obtain ⟨k', v', u', hx, hh⟩ := mem_plcs he (hin x (List.mem_cons_self ..))
        have hex : es[x]? = some ⟨V.hash k', v', u'⟩ := by rw [entV_at he, hx]; rfl
        have hib : V.is s'.heap k' v' := his _ (List.mem_of_getElem? hx)
        have nd' := List.nodup_cons.mp nd
        have hin' : ∀ i ∈ rest, i ∈ plcs es (V.hash k) := fun i hi => hin i (List.mem_cons_of_mem _ hi)
        rw [hex]
        dsimp only
        rw [if_pos (by rw [hh]; simp)]
        refine wpAny_bind (wpAny_dictEpoch ho hd (wpAny_bind (V.eqBool hu hib hkey (wpAny_bind (wpAny_dictEpoch ho hd ?_)))))
        show wpAny _ _ (if (ep != ep) = true then _ else _) _ E _
        rw [if_neg (by simp)]
        by_cases hkk : k' = k
        · subst hkk
          rw [decide_eq_true rfl]
          rcases hH with ⟨rfl, _⟩ | ⟨j, p, _, hj, hjn⟩
          · first | rw [if_pos rfl] | skip
            simp only [Option.isSome_none, Bool.false_eq_true, if_false]
            first | refine wpAny_bind (wpAny_pure ?_) | skip
            refine wpAny_bind (wpAny_rule ?_)
            split
            · exact wpAny_pure (wpAny_pure (hsome x _ hx))
            · exact wpAny_pure ⟨rfl, nd'.2, hin', some x, rfl, .inr ⟨x, _, rfl, hx, nd'.1⟩⟩
          · exact absurd (idxV hn hj hx) (fun z => hjn (by rw [z]; exact List.mem_cons_self ..))
        · rw [decide_eq_false hkk]
          simp only [Bool.false_eq_true, if_false]
          have next : (hit = none ∧ ∀ j p, xs[j]? = some (k, p) → j ∈ rest) ∨ ∃ j p, hit = some j ∧ xs[j]? = some (k, p) ∧ j ∉ rest := by
            rcases hH with ⟨h0, hall⟩ | ⟨j, p, h1, hj, hjn⟩
            · refine .inl ⟨h0, fun j p hj => ?_⟩
              rcases List.mem_cons.mp (hall j p hj) with z | z
              · rw [z, hx] at hj
                exact absurd (Prod.mk.inj (Option.some.inj hj)).1 hkk
              · exact z
            · exact .inr ⟨j, p, h1, hj, fun z => hjn (List.mem_cons_of_mem _ z)⟩
          refine wpAny_bind (wpAny_rule ?_)
          first | rw [if_neg (by simp)] | skip
          first
            | exact wpAny_pure ⟨rfl, nd'.2, hin', hit, rfl, next⟩
            | exact wpAny_bind (wpAny_pure (wpAny_pure ⟨rfl, nd'.2, hin', hit, rfl, next⟩))
      · rintro b s' ⟨rfl, _, _, hit, rfl, hH⟩
        rcases hH with ⟨rfl, hall⟩ | ⟨j, p, rfl, hj, _⟩
        · exact wpAny_pure (hnone fun j p hj => absurd (hall j p hj) (by simp))
        · exact wpAny_pure (hsome j p hj))
  | str x t =>
    dsimp only
    rw [if_neg (by rw [hs rfl]; exact Bool.false_ne_true)]
    by_cases hall0 : ((Value.str x t :: (plcs es (V.hash k)).filterMap (fun i => es[i]?.map (·.key))).all carriedByValue) = true
    · rw [if_pos hall0]
      exact plain
    rw [if_neg hall0]
    try dsimp only
    by_cases hone : (((plcs es (V.hash k)).filterMap (fun i => es[i]?.map (·.key))) == [Value.str x t]) = true <;>
    (first | rw [if_pos hone] | rw [if_neg hone]) <;> (first | refine wpAny_bind (wpAny_pure ?_) | refine wpAny_bind (tellV hkey hst ?_)) <;> (
      rw [if_neg (by simp)]
      refine wpAny_bind ?_
      refine wpAny_forIn_list _ (fun rest b s' => s' = s ∧ rest.Nodup ∧ (∀ i ∈ rest, i ∈ plcs es (V.hash k)) ∧ ∃ hit, b = (none, hit) ∧ ((hit = none ∧ ∀ j p, xs[j]? = some (k, p) → j ∈ rest) ∨ ∃ j p, hit = some j ∧ xs[j]? = some (k, p) ∧ j ∉ rest)) _ ?_ ?_ _ _
        ⟨rfl, nod_plcs _ _, fun _ h => h, none, rfl, .inl ⟨rfl, fun j p h => in_plcs he h⟩⟩
      · rintro x rest b s' ⟨rfl, nd, hin, hit, rfl, hH⟩
        obtain ⟨k', v', u', hx, hh⟩ := mem_plcs he (hin x (List.mem_cons_self ..))
        have hex : es[x]? = some ⟨V.hash k', v', u'⟩ := by rw [entV_at he, hx]; rfl
        have hib : V.is s'.heap k' v' := his _ (List.mem_of_getElem? hx)
        have nd' := List.nodup_cons.mp nd
        have hin' : ∀ i ∈ rest, i ∈ plcs es (V.hash k) := fun i hi => hin i (List.mem_cons_of_mem _ hi)
        rw [hex]
        dsimp only
        rw [if_pos (by rw [hh]; simp)]
        refine wpAny_bind (wpAny_dictEpoch ho hd (wpAny_bind (V.eqBool hu hib hkey (wpAny_bind (wpAny_dictEpoch ho hd ?_)))))
        show wpAny _ _ (if (ep != ep) = true then _ else _) _ E _
        rw [if_neg (by simp)]
        by_cases hkk : k' = k
        · subst hkk
          rw [decide_eq_true rfl]
          rcases hH with ⟨rfl, _⟩ | ⟨j, p, _, hj, hjn⟩
          · first | rw [if_pos rfl] | skip
            simp only [Option.isSome_none, Bool.false_eq_true, if_false]
            first | refine wpAny_bind (wpAny_pure ?_) | skip
            refine wpAny_bind (wpAny_rule ?_)
            split
            · exact wpAny_pure (wpAny_pure (hsome x _ hx))
            · exact wpAny_pure ⟨rfl, nd'.2, hin', some x, rfl, .inr ⟨x, _, rfl, hx, nd'.1⟩⟩
          · exact absurd (idxV hn hj hx) (fun z => hjn (by rw [z]; exact List.mem_cons_self ..))
        · rw [decide_eq_false hkk]
          simp only [Bool.false_eq_true, if_false]
          have next : (hit = none ∧ ∀ j p, xs[j]? = some (k, p) → j ∈ rest) ∨ ∃ j p, hit = some j ∧ xs[j]? = some (k, p) ∧ j ∉ rest := by
            rcases hH with ⟨h0, hall⟩ | ⟨j, p, h1, hj, hjn⟩
            · refine .inl ⟨h0, fun j p hj => ?_⟩
              rcases List.mem_cons.mp (hall j p hj) with z | z
              · rw [z, hx] at hj
                exact absurd (Prod.mk.inj (Option.some.inj hj)).1 hkk
              · exact z
            · exact .inr ⟨j, p, h1, hj, fun z => hjn (List.mem_cons_of_mem _ z)⟩
          refine wpAny_bind (wpAny_rule ?_)
          first | rw [if_neg (by simp)] | skip
          first
            | exact wpAny_pure ⟨rfl, nd'.2, hin', hit, rfl, next⟩
            | exact wpAny_bind (wpAny_pure (wpAny_pure ⟨rfl, nd'.2, hin', hit, rfl, next⟩))
      · rintro b s' ⟨rfl, _, _, hit, rfl, hH⟩
        rcases hH with ⟨rfl, hall⟩ | ⟨j, p, rfl, hj, _⟩
        · exact wpAny_pure (hnone fun j p hj => absurd (hall j p hj) (by simp))
        · exact wpAny_pure (hsome j p hj))
  | none =>
    dsimp only
    by_cases hall0 : ((Value.none :: (plcs es (V.hash k)).filterMap (fun i => es[i]?.map (·.key))).all carriedByValue) = true
    · rw [if_pos hall0]
      exact plain
    rw [if_neg hall0]
    try dsimp only
    by_cases hone : (((plcs es (V.hash k)).filterMap (fun i => es[i]?.map (·.key))) == [Value.none]) = true <;>
    (first | rw [if_pos hone] | rw [if_neg hone]) <;> (first | refine wpAny_bind (wpAny_pure ?_) | refine wpAny_bind (tellV hkey hst ?_)) <;> (
      rw [if_neg (by simp)]
      refine wpAny_bind ?_
      refine wpAny_forIn_list _ (fun rest b s' => s' = s ∧ rest.Nodup ∧ (∀ i ∈ rest, i ∈ plcs es (V.hash k)) ∧ ∃ hit, b = (none, hit) ∧ ((hit = none ∧ ∀ j p, xs[j]? = some (k, p) → j ∈ rest) ∨ ∃ j p, hit = some j ∧ xs[j]? = some (k, p) ∧ j ∉ rest)) _ ?_ ?_ _ _
        ⟨rfl, nod_plcs _ _, fun _ h => h, none, rfl, .inl ⟨rfl, fun j p h => in_plcs he h⟩⟩
      · rintro x rest b s' ⟨rfl, nd, hin, hit, rfl, hH⟩
        obtain ⟨k', v', u', hx, hh⟩ := mem_plcs he (hin x (List.mem_cons_self ..))
        have hex : es[x]? = some ⟨V.hash k', v', u'⟩ := by rw [entV_at he, hx]; rfl
        have hib : V.is s'.heap k' v' := his _ (List.mem_of_getElem? hx)
        have nd' := List.nodup_cons.mp nd
        have hin' : ∀ i ∈ rest, i ∈ plcs es (V.hash k) := fun i hi => hin i (List.mem_cons_of_mem _ hi)
        rw [hex]
        dsimp only
        rw [if_pos (by rw [hh]; simp)]
        refine wpAny_bind (wpAny_dictEpoch ho hd (wpAny_bind (V.eqBool hu hib hkey (wpAny_bind (wpAny_dictEpoch ho hd ?_)))))
        show wpAny _ _ (if (ep != ep) = true then _ else _) _ E _
        rw [if_neg (by simp)]
        by_cases hkk : k' = k
        · subst hkk
          rw [decide_eq_true rfl]
          rcases hH with ⟨rfl, _⟩ | ⟨j, p, _, hj, hjn⟩
          · first | rw [if_pos rfl] | skip
            simp only [Option.isSome_none, Bool.false_eq_true, if_false]
            first | refine wpAny_bind (wpAny_pure ?_) | skip
            refine wpAny_bind (wpAny_rule ?_)
            split
            · exact wpAny_pure (wpAny_pure (hsome x _ hx))
            · exact wpAny_pure ⟨rfl, nd'.2, hin', some x, rfl, .inr ⟨x, _, rfl, hx, nd'.1⟩⟩
          · exact absurd (idxV hn hj hx) (fun z => hjn (by rw [z]; exact List.mem_cons_self ..))
        · rw [decide_eq_false hkk]
          simp only [Bool.false_eq_true, if_false]
          have next : (hit = none ∧ ∀ j p, xs[j]? = some (k, p) → j ∈ rest) ∨ ∃ j p, hit = some j ∧ xs[j]? = some (k, p) ∧ j ∉ rest := by
            rcases hH with ⟨h0, hall⟩ | ⟨j, p, h1, hj, hjn⟩
            · refine .inl ⟨h0, fun j p hj => ?_⟩
              rcases List.mem_cons.mp (hall j p hj) with z | z
              · rw [z, hx] at hj
                exact absurd (Prod.mk.inj (Option.some.inj hj)).1 hkk
              · exact z
            · exact .inr ⟨j, p, h1, hj, fun z => hjn (List.mem_cons_of_mem _ z)⟩
          refine wpAny_bind (wpAny_rule ?_)
          first | rw [if_neg (by simp)] | skip
          first
            | exact wpAny_pure ⟨rfl, nd'.2, hin', hit, rfl, next⟩
            | exact wpAny_bind (wpAny_pure (wpAny_pure ⟨rfl, nd'.2, hin', hit, rfl, next⟩))
      · rintro b s' ⟨rfl, _, _, hit, rfl, hH⟩
        rcases hH with ⟨rfl, hall⟩ | ⟨j, p, rfl, hj, _⟩
        · exact wpAny_pure (hnone fun j p hj => absurd (hall j p hj) (by simp))
        · exact wpAny_pure (hsome j p hj))
  | int x t =>
    dsimp only
    by_cases hall0 : ((Value.int x t :: (plcs es (V.hash k)).filterMap (fun i => es[i]?.map (·.key))).all carriedByValue) = true
    · rw [if_pos hall0]
      exact plain
    rw [if_neg hall0]
    try dsimp only
    by_cases hone : (((plcs es (V.hash k)).filterMap (fun i => es[i]?.map (·.key))) == [Value.int x t]) = true <;>
    (first | rw [if_pos hone] | rw [if_neg hone]) <;> (first | refine wpAny_bind (wpAny_pure ?_) | refine wpAny_bind (tellV hkey hst ?_)) <;> (
      rw [if_neg (by simp)]
      refine wpAny_bind ?_
      refine wpAny_forIn_list _ (fun rest b s' => s' = s ∧ rest.Nodup ∧ (∀ i ∈ rest, i ∈ plcs es (V.hash k)) ∧ ∃ hit, b = (none, hit) ∧ ((hit = none ∧ ∀ j p, xs[j]? = some (k, p) → j ∈ rest) ∨ ∃ j p, hit = some j ∧ xs[j]? = some (k, p) ∧ j ∉ rest)) _ ?_ ?_ _ _
        ⟨rfl, nod_plcs _ _, fun _ h => h, none, rfl, .inl ⟨rfl, fun j p h => in_plcs he h⟩⟩
      · rintro x rest b s' ⟨rfl, nd, hin, hit, rfl, hH⟩
        obtain ⟨k', v', u', hx, hh⟩ := mem_plcs he (hin x (List.mem_cons_self ..))
        have hex : es[x]? = some ⟨V.hash k', v', u'⟩ := by rw [entV_at he, hx]; rfl
        have hib : V.is s'.heap k' v' := his _ (List.mem_of_getElem? hx)
        have nd' := List.nodup_cons.mp nd
        have hin' : ∀ i ∈ rest, i ∈ plcs es (V.hash k) := fun i hi => hin i (List.mem_cons_of_mem _ hi)
        rw [hex]
        dsimp only
        rw [if_pos (by rw [hh]; simp)]
        refine wpAny_bind (wpAny_dictEpoch ho hd (wpAny_bind (V.eqBool hu hib hkey (wpAny_bind (wpAny_dictEpoch ho hd ?_)))))
        show wpAny _ _ (if (ep != ep) = true then _ else _) _ E _
        rw [if_neg (by simp)]
        by_cases hkk : k' = k
        · subst hkk
          rw [decide_eq_true rfl]
          rcases hH with ⟨rfl, _⟩ | ⟨j, p, _, hj, hjn⟩
          · first | rw [if_pos rfl] | skip
            simp only [Option.isSome_none, Bool.false_eq_true, if_false]
            first | refine wpAny_bind (wpAny_pure ?_) | skip
            refine wpAny_bind (wpAny_rule ?_)
            split
            · exact wpAny_pure (wpAny_pure (hsome x _ hx))
            · exact wpAny_pure ⟨rfl, nd'.2, hin', some x, rfl, .inr ⟨x, _, rfl, hx, nd'.1⟩⟩
          · exact absurd (idxV hn hj hx) (fun z => hjn (by rw [z]; exact List.mem_cons_self ..))
        · rw [decide_eq_false hkk]
          simp only [Bool.false_eq_true, if_false]
          have next : (hit = none ∧ ∀ j p, xs[j]? = some (k, p) → j ∈ rest) ∨ ∃ j p, hit = some j ∧ xs[j]? = some (k, p) ∧ j ∉ rest := by
            rcases hH with ⟨h0, hall⟩ | ⟨j, p, h1, hj, hjn⟩
            · refine .inl ⟨h0, fun j p hj => ?_⟩
              rcases List.mem_cons.mp (hall j p hj) with z | z
              · rw [z, hx] at hj
                exact absurd (Prod.mk.inj (Option.some.inj hj)).1 hkk
              · exact z
            · exact .inr ⟨j, p, h1, hj, fun z => hjn (List.mem_cons_of_mem _ z)⟩
          refine wpAny_bind (wpAny_rule ?_)
          first | rw [if_neg (by simp)] | skip
          first
            | exact wpAny_pure ⟨rfl, nd'.2, hin', hit, rfl, next⟩
            | exact wpAny_bind (wpAny_pure (wpAny_pure ⟨rfl, nd'.2, hin', hit, rfl, next⟩))
      · rintro b s' ⟨rfl, _, _, hit, rfl, hH⟩
        rcases hH with ⟨rfl, hall⟩ | ⟨j, p, rfl, hj, _⟩
        · exact wpAny_pure (hnone fun j p hj => absurd (hall j p hj) (by simp))
        · exact wpAny_pure (hsome j p hj))
  | bool x =>
    dsimp only
    by_cases hall0 : ((Value.bool x :: (plcs es (V.hash k)).filterMap (fun i => es[i]?.map (·.key))).all carriedByValue) = true
    · rw [if_pos hall0]
      exact plain
    rw [if_neg hall0]
    try dsimp only
    by_cases hone : (((plcs es (V.hash k)).filterMap (fun i => es[i]?.map (·.key))) == [Value.bool x]) = true <;>
    (first | rw [if_pos hone] | rw [if_neg hone]) <;> (first | refine wpAny_bind (wpAny_pure ?_) | refine wpAny_bind (tellV hkey hst ?_)) <;> (
      rw [if_neg (by simp)]
      refine wpAny_bind ?_
      refine wpAny_forIn_list _ (fun rest b s' => s' = s ∧ rest.Nodup ∧ (∀ i ∈ rest, i ∈ plcs es (V.hash k)) ∧ ∃ hit, b = (none, hit) ∧ ((hit = none ∧ ∀ j p, xs[j]? = some (k, p) → j ∈ rest) ∨ ∃ j p, hit = some j ∧ xs[j]? = some (k, p) ∧ j ∉ rest)) _ ?_ ?_ _ _
        ⟨rfl, nod_plcs _ _, fun _ h => h, none, rfl, .inl ⟨rfl, fun j p h => in_plcs he h⟩⟩
      · rintro x rest b s' ⟨rfl, nd, hin, hit, rfl, hH⟩
        obtain ⟨k', v', u', hx, hh⟩ := mem_plcs he (hin x (List.mem_cons_self ..))
        have hex : es[x]? = some ⟨V.hash k', v', u'⟩ := by rw [entV_at he, hx]; rfl
        have hib : V.is s'.heap k' v' := his _ (List.mem_of_getElem? hx)
        have nd' := List.nodup_cons.mp nd
        have hin' : ∀ i ∈ rest, i ∈ plcs es (V.hash k) := fun i hi => hin i (List.mem_cons_of_mem _ hi)
        rw [hex]
        dsimp only
        rw [if_pos (by rw [hh]; simp)]
        refine wpAny_bind (wpAny_dictEpoch ho hd (wpAny_bind (V.eqBool hu hib hkey (wpAny_bind (wpAny_dictEpoch ho hd ?_)))))
        show wpAny _ _ (if (ep != ep) = true then _ else _) _ E _
        rw [if_neg (by simp)]
        by_cases hkk : k' = k
        · subst hkk
          rw [decide_eq_true rfl]
          rcases hH with ⟨rfl, _⟩ | ⟨j, p, _, hj, hjn⟩
          · first | rw [if_pos rfl] | skip
            simp only [Option.isSome_none, Bool.false_eq_true, if_false]
            first | refine wpAny_bind (wpAny_pure ?_) | skip
            refine wpAny_bind (wpAny_rule ?_)
            split
            · exact wpAny_pure (wpAny_pure (hsome x _ hx))
            · exact wpAny_pure ⟨rfl, nd'.2, hin', some x, rfl, .inr ⟨x, _, rfl, hx, nd'.1⟩⟩
          · exact absurd (idxV hn hj hx) (fun z => hjn (by rw [z]; exact List.mem_cons_self ..))
        · rw [decide_eq_false hkk]
          simp only [Bool.false_eq_true, if_false]
          have next : (hit = none ∧ ∀ j p, xs[j]? = some (k, p) → j ∈ rest) ∨ ∃ j p, hit = some j ∧ xs[j]? = some (k, p) ∧ j ∉ rest := by
            rcases hH with ⟨h0, hall⟩ | ⟨j, p, h1, hj, hjn⟩
            · refine .inl ⟨h0, fun j p hj => ?_⟩
              rcases List.mem_cons.mp (hall j p hj) with z | z
              · rw [z, hx] at hj
                exact absurd (Prod.mk.inj (Option.some.inj hj)).1 hkk
              · exact z
            · exact .inr ⟨j, p, h1, hj, fun z => hjn (List.mem_cons_of_mem _ z)⟩
          refine wpAny_bind (wpAny_rule ?_)
          first | rw [if_neg (by simp)] | skip
          first
            | exact wpAny_pure ⟨rfl, nd'.2, hin', hit, rfl, next⟩
            | exact wpAny_bind (wpAny_pure (wpAny_pure ⟨rfl, nd'.2, hin', hit, rfl, next⟩))
      · rintro b s' ⟨rfl, _, _, hit, rfl, hH⟩
        rcases hH with ⟨rfl, hall⟩ | ⟨j, p, rfl, hj, _⟩
        · exact wpAny_pure (hnone fun j p hj => absurd (hall j p hj) (by simp))
        · exact wpAny_pure (hsome j p hj))
  | _ => exact Bool.noConfusion (V.ok hkey)
theorem atV_get {xs : List (K × Value × Value)} (hn : (xs.map (·.1)).Nodup) {i : Nat} {k : K} {p : Value × Value} (hx : xs[i]? = some (k, p)) : (xs.find? fun x => decide (x.1 = k)).map (·.2) = some p := by
  cases e : xs.find? fun x => decide (x.1 = k) with
  | none =>
    have := List.find?_eq_none.mp e _ (List.mem_of_getElem? hx)
    simp at this
  | some y =>
    have hy : y.1 = k := of_decide_eq_true (List.find?_some (p := fun x : K × Value × Value => decide (x.1 = k)) e)
    obtain ⟨j, hj⟩ := List.mem_iff_getElem?.mp (List.mem_of_find?_eq_some e)
    have hj' : xs[j]? = some (k, y.2) := by
      rw [hj, ← hy]
    have e2 := idxV hn hx hj'
    rw [e2, hj'] at hx
    rw [← (Prod.mk.inj (Option.some.inj hx)).2]
    rfl
/-- d[key], there -/
theorem getV {d : Addr} {key : Value} {xs : List (K × Value × Value)} {k : K} {i : Nat} {p : Value × Value} {Q : Option Value → Shared → Prop} (hu : V.room A) (hkey : V.is s.heap k key) (hm : TabV V s.heap d xs) (hi : xs[i]? = some (k, p))
    (hs : isExactStrKey key = true → ∃ x ∈ xs, isExactStrKey x.2.1 = false) (h : Q (some p.2) { s with toks := s.toks + V.draws k }) : wpAny (model prog w) A (dictGet d key) Q E s := by
  obtain ⟨o, es, ep, ho, _, hd, he, his, hn⟩ := hm
  have hs' : isExactStrKey key = true → (es.all fun e => isExactStrKey e.key) = false := fun z => by
    obtain ⟨x, hx, hx2⟩ := hs z
    rw [← Array.all_toList, he, List.all_map, List.all_eq_false]
    exact ⟨x, hx, by show ¬ isExactStrKey x.2.1 = true; rw [hx2]; exact Bool.false_ne_true⟩
  unfold dictGet
  try with_reducible refine wpAny_holding ?_
  refine wpAny_bind (V.pyHash hu hkey (wpAny_bind (findV (s := { s with toks := s.toks + V.draws k }) hu hkey ho hd he his hn hs' (fun hno => absurd hi (hno i p)) fun j q hj => ?_)))
  obtain rfl := idxV hn hi hj
  rw [hi] at hj
  obtain rfl := (Prod.mk.inj (Option.some.inj hj)).2
  refine wpAny_bind (wpAny_dictEntries (s := { s with toks := s.toks + V.draws k }) ho hd ?_)
  rw [entV_at he, hi]
  exact wpAny_pure h
/-- d[key] = v, a new key -/
theorem setV {d : Addr} {key : Value} {xs : List (K × Value × Value)} {k : K} {v : Value} {Q : Unit → Shared → Prop} (hu : V.room A) (hkey : V.is s.heap k key) (hm : TabV V s.heap d xs) (hnew : k ∉ xs.map (·.1))
    (hs : isExactStrKey key = true → ∃ x ∈ xs, isExactStrKey x.2.1 = false) (hQ : ∀ h', TabV V h' d (xs ++ [(k, key, v)]) → Heap.SameBut d s.heap h' → Q () { s with heap := h', toks := s.toks + V.draws k }) (hsz : xs.length < sizeLine) :
    wpAny (model prog w) A (dictSet d key v) Q E s := by
  obtain ⟨o, es, ep, ho, hc, hd, he, his, hn⟩ := hm
  have hs' : isExactStrKey key = true → (es.all fun e => isExactStrKey e.key) = false := fun z => by
    obtain ⟨x, hx, hx2⟩ := hs z
    rw [← Array.all_toList, he, List.all_map, List.all_eq_false]
    exact ⟨x, hx, by show ¬ isExactStrKey x.2.1 = true; rw [hx2]; exact Bool.false_ne_true⟩
  unfold dictSet
  try with_reducible refine wpAny_holding ?_
  refine wpAny_bind (V.pyHash hu hkey ?_)
  unfold dictSetHashed
  try with_reducible refine wpAny_holding ?_
  refine wpAny_bind (findV (s := { s with toks := s.toks + V.draws k }) hu hkey ho hd he his hn hs' (fun _ => ?_) fun j q hj => absurd (List.mem_map.mpr ⟨_, List.mem_of_getElem? hj, rfl⟩) hnew)
  have hz := sizeV he
  refine wpAny_bind (wpAny_rule (wpAny_updateDictKeys (hz := by omega) (s := { s with toks := s.toks + V.draws k }) ho hd (hQ _ ⟨_, _, ep + 1, Heap.get?_update_self _ ho (Obj.isFreed_of_dict (Obj.data_mapDictKeys hd _)), hc.mapDictKeys _, Obj.data_mapDictKeys hd _, ?_, ?_, ?_⟩ (Heap.SameBut.update ..))))
  · simp [he, entV]
  · intro x hx
    rcases List.mem_append.mp hx with hx | hx
    · exact V.keeps (his x hx) ho hd (Heap.SameBut.update ..)
    · obtain rfl : x = (k, key, v) := by simpa using hx
      exact V.keeps hkey ho hd (Heap.SameBut.update ..)
  · rw [List.map_append]
    exact List.nodup_append.mpr ⟨hn, by simp, fun a ha b hb => by
      obtain rfl : b = k := by simpa using hb
      exact fun z => hnew (z ▸ ha)⟩
end
end DR

namespace DR
open PySem PySem.Spec PyProof.Rows L2
/-- keys of every kind: None, numbers, truth values, texts, tuples of such -/
def nestV (prog : Program) (w : World) : VKind prog w NestedKey where
  is := fun h k v => NestedIs h k v ∧ k.depth ≤ 8
  hash := fun k => k.hash w
  draws := fun k => k.draws
  room := fun A => A.units + 8 < cLine
  ok := fun x => by
    obtain ⟨h, _⟩ := x
    cases h <;> rfl
  inj := fun hx hy => NestedIs.inj _ _ _ hx.1 hy.1
  keeps := fun {h h' k v d o es ep} x ho hd hs => ⟨NestedIs.at (fun b ob vs n hb hc => by
    refine (hs.2 b fun e => ?_).trans hb
    subst e
    rw [ho] at hb
    cases hb
    rw [hd] at hc
    cases hc) k _ x.1, x.2⟩
  pyHash := fun hu hk h => pyHash_key _ _ _ _ _ hk.1 (by have := hk.2; omega) h
  eqBool := fun {A E s x y a b Q} hu hx hy h => eqAt_key x y A s _ _ hx.1 hy.1 (by have := hx.2; omega) _ _ _ _ (by rw [← NestedKey.decide_eq]; exact h)
  quiet := fun {A E s k a Q} hk h => quiet_key k _ 8 s hk.1 hk.2 A E Q h
mutual
/-- what a datum is as a key -/
def nkOf : PyData → Option NestedKey
  | .none => some .none
  | .bool b => some (.num (if b = true then 1 else 0))
  | .int i => some (.num i)
  | .str x => some (.text x)
  | .list _ => none
  | .tuple ds => (nkAll ds).map .tup
  | .dict _ => none
def nkAll : List PyData → Option (List NestedKey)
  | [] => some []
  | d :: ds => (nkOf d).bind fun k => (nkAll ds).map fun ks => k :: ks
end
mutual
theorem reads_nest {h : Heap} : ∀ (d : PyData) (v : Value) (as : List Addr) (k : NestedKey), Reads h v d as → nkOf d = some k → NestedIs h k v
  | .none, _, _, _, r, e => by
    cases r
    obtain rfl := Option.some.inj (show some NestedKey.none = some _ from e)
    exact .none
  | .bool b, _, _, _, r, e => by
    cases r
    obtain rfl := Option.some.inj (show some (NestedKey.num (if b = true then 1 else 0)) = some _ from e)
    exact .bool rfl
  | .int i, _, _, _, r, e => by
    cases r
    obtain rfl := Option.some.inj (show some (NestedKey.num i) = some _ from e)
    exact .int _ _
  | .str x, _, _, _, r, e => by
    cases r
    obtain rfl := Option.some.inj (show some (NestedKey.text x) = some _ from e)
    exact .text _ _
  | .list _, _, _, _, _, e => by
    exact nomatch (show (none : Option NestedKey) = some _ from e)
  | .dict _, _, _, _, _, e => by
    exact nomatch (show (none : Option NestedKey) = some _ from e)
  | .tuple ds, _, _, k, r, e => by
    have e' : (nkAll ds).map NestedKey.tup = some k := by simpa [nkOf] using e
    cases ek : nkAll ds with
    | none => rw [ek] at e'; cases e'
    | some ks =>
      rw [ek] at e'
      obtain rfl := Option.some.inj e'
      cases r with
      | tuple h1 h2 h3 h4 => exact .tup h1 h2 h3 (reads_nestAll ds _ _ ks h4 ek)
theorem reads_nestAll {h : Heap} : ∀ (ds : List PyData) (vs : List Value) (as : List Addr) (ks : List NestedKey), ReadsAll h vs ds as → nkAll ds = some ks → NestedAll h ks vs
  | [], _, _, _, r, e => by
    cases r
    obtain rfl : [] = _ := Option.some.inj (by simpa [nkAll] using e)
    exact .nil
  | d :: ds, _, _, ks, r, e => by
    cases r with
    | cons r1 r2 =>
      have e' : ((nkOf d).bind fun k => (nkAll ds).map fun ks => k :: ks) = some ks := by simpa [nkAll] using e
      cases e1 : nkOf d with
      | none => rw [e1] at e'; cases e'
      | some k =>
        rw [e1] at e'
        cases e2 : nkAll ds with
        | none =>
          rw [e2] at e'
          cases e'
        | some ks' =>
          rw [e2] at e'
          obtain rfl := Option.some.inj e'
          exact .cons (reads_nest d _ _ k r1 e1) (reads_nestAll ds _ _ ks' r2 e2)
end
end DR

namespace DR
open PySem PySem.Spec PyProof.Rows L2
section
variable {prog : Program} {w : World} {A : Around} {E : Value → Shared → Prop} {s : Shared}
theorem nest_keep {h h' : Heap} {zs : List (NestedKey × Value × Value)} (k : ∀ b o, h.get? b = some o → h'.get? b = some o) (his : ∀ z ∈ zs, NestedIs h z.1 z.2.1 ∧ z.1.depth ≤ 8) : ∀ z ∈ zs, (nestV prog w).is h' z.1 z.2.1 := fun z hz =>
  ⟨NestedIs.at (fun b o vs n e _ => k b o e) _ _ (his z hz).1, (his z hz).2⟩
/-- dict(xs): keys of every kind, the first one no text -/
theorem dict_argV {T : String} {a : Addr} {fp : List Addr} {n : Nat} {Rel : Nat → Value → Value → Prop} {OK : Heap → Prop} {zs : List (NestedKey × Value × Value)} {Q : Value → Shared → Prop} (P : PairArg prog w T a fp [] n Rel OK) (hh : A.handled = none) (hu : (nestV prog w).room A.in1.in1) (ok : OK s.heap)
    (hl : zs.length = n) (hc : ∀ i key v, Rel i key v → ∃ k, zs[i]? = some (k, key, v)) (his : ∀ z ∈ zs, NestedIs s.heap z.1 z.2.1 ∧ z.1.depth ≤ 8) (hn : (zs.map (·.1)).Nodup) (hfirst : ∀ z, zs[0]? = some z → isExactStrKey z.2.1 = false) (hsz : n < sizeLine)
    (h : ∀ h' tk, TabV (nestV prog w) h' s.heap.objs.size zs → (∀ b o, s.heap.get? b = some o → h'.get? b = some o) → Q (.ref s.heap.objs.size) { s with heap := h', toks := tk }) :
    wpAny (model prog w) A (call (.type "dict") [.ref a]) Q E s := by
  have old : ∀ b o, s.heap.get? b = some o → b ≠ s.heap.objs.size := fun b o e => Nat.ne_of_lt (Heap.lt_size e)
  refine call_dict_arg P ok fun s₁ hs₁ hdf ok₁ => ?_
  subst hs₁
  refine updateFrom_arg (A := A.in1) (Tab := fun i h => TabV (nestV prog w) h s.heap.objs.size (zs.take i) ∧ ∀ b o, s.heap.get? b = some o → h.get? b = some o) P .none hh ok₁ hdf ?_ ?_ ?_ ?_ ?_
  · exact ⟨⟨_, #[], 0, Heap.get?_push_size _ rfl, ⟨rfl, rfl, rfl⟩, rfl, by simp, fun x hx => by simp at hx, by simp⟩, fun b o e => Heap.get?_push_of_some _ e⟩
  · rintro i h ⟨⟨o, es, ep, ho, _⟩, _⟩
    exact Heap.lt_size ho
  · rintro i h h' wr' hd hw ⟨⟨o, es, ep, ho, hx, hdt, he, hi, hnd⟩, hk⟩ hk2
    have k3 : ∀ b o, s.heap.get? b = some o → h'.get? b = some o := fun b o e => hk2 b o (fun hm => by
      rcases hw b hm with q | q
      · simp at q
      · rw [Heap.get?_push_of_some _ e] at q
        cases q) (hk b o e)
    exact ⟨⟨o, es, ep, hk2 _ _ hd ho, hx, hdt, he, fun x hx => nest_keep k3 his x (List.mem_of_mem_take hx), hnd⟩, k3⟩
  · intro i key v s' Q' E' hi hrel tb _ hQ
    obtain ⟨tb1, tb2⟩ := tb
    obtain ⟨k, hz⟩ := hc i key v hrel
    have hi2 : i < zs.length := by omega
    have e : zs.take (i + 1) = zs.take i ++ [(k, key, v)] := by
      rw [List.take_add_one, hz]
      rfl
    refine setV (V := nestV prog w) hu (nest_keep tb2 his _ (List.mem_of_getElem? hz)) tb1 ?_ (fun hs => ?_) (fun h' t' sb => hQ h' _ ⟨by rw [e]; exact t', fun b o eb => sb.extBut b o (old b o eb) (tb2 b o eb)⟩ sb) ?_
    · have := take_not hn (i := i) (a := k) (by rw [List.getElem?_map, hz]; rfl)
      rw [← List.map_take] at this
      exact this
    · obtain ⟨z0, hz0⟩ : ∃ z, zs[0]? = some z := ⟨zs[0], List.getElem?_eq_getElem (by omega)⟩
      have h0 := hfirst z0 hz0
      cases i with
      | zero =>
        rw [hz] at hz0
        obtain rfl := Option.some.inj hz0
        rw [hs] at h0
        cases h0
      | succ i =>
        refine ⟨z0, ?_, h0⟩
        refine List.mem_of_getElem? (i := 0) ?_
        rw [List.getElem?_take]
        simp [hz0]
    · rw [List.length_take]
      omega
  · intro h' tk tb hk
    obtain ⟨tb1, tb2⟩ := tb
    have e : zs.take n = zs := List.take_of_length_le (Nat.le_of_eq hl)
    rw [e] at tb1
    exact ⟨rfl, h h' tk tb1 tb2⟩
end
end DR

namespace DR
open PySem PySem.Spec PyProof.Rows L2
/-! ### such a dict in the heap that is followed -/
abbrev Kvs := List (NestedKey × V × V)
abbrev KvR : NestedKey × V × V → NestedKey × Value × Value → Prop := fun p q => p.1 = q.1 ∧ L2.RelV p.2.1 q.2.1 ∧ L2.RelV p.2.2 q.2.2
def MapF (P : Program) (w : World) (d : Addr) (kvs : Kvs) (h : Heap) : Prop := ∃ xs : List (NestedKey × Value × Value), Paired KvR kvs xs ∧ (d == sysModules) = false ∧ ∃ o es ep, h.get? d = some o ∧ o.ExactDict ∧ o.data = .dict es ep ∧ es.toList = xs.map (entV (nestV P w)) ∧ (xs.map (·.1)).Nodup
def MapO (P : Program) (w : World) (d : Addr) (kvs : Kvs) : HO := .ext (MapF P w d kvs)
/-- a key that is known -/
def KeyV (K : PySem.W.Frag) (H : Hp) (y : V) (k : NestedKey) : Prop := ∃ d, Dp K H y d ∧ nkOf d = some k ∧ k.depth ≤ 8
def PairV (K : PySem.W.Frag) (H : Hp) (p : Addr) (kv : NestedKey × V × V) : Prop := SqT K H p [kv.2.1, kv.2.2] ∧ KeyV K H kv.2.1 kv.1
def rDictV (K : PySem.W.Frag) (P : Program) (w : World) : List V → Hp → VK → Prop := fun xs H Q => ∃ (a : Addr) (ps : List Addr) (kvs : Kvs), xs = [.ref a] ∧ SqL K H a (ps.map V.ref) ∧ Paired (PairV K H) ps kvs ∧ (kvs.map (·.1)).Nodup ∧ (∀ kv, kvs[0]? = some kv → ∃ b, kv.2.1 = .ref b) ∧ ps.length ≤ 1000 ∧
  ∀ p, H p = none → Q (.ref p) (upd H p (MapO P w p kvs))
section
variable {X : Cx} {pins : List (Addr × Obj)} {σ : L2.St} {H : Hp} {s : Shared}
theorem keyV_nest (I : Inv X pins σ H s) {y : V} {v : Value} {k : NestedKey} (h : KeyV X.K H y k) (r : L2.RelV y v) : NestedIs s.heap k v ∧ k.depth ≤ 8 := by
  obtain ⟨d, hd, e, hk⟩ := h
  obtain ⟨as, r1⟩ := Dp.reads I d y v hd r
  exact ⟨reads_nest d v as k r1 e, hk⟩
theorem pairsV_of (I : Inv X pins σ H s) : ∀ {ps : List Addr} {kvs : Kvs}, Paired (PairV X.K H) ps kvs →
    ∃ xs : List (NestedKey × Value × Value), Paired KvR kvs xs ∧ xs.length = ps.length ∧ ∀ (j : Nat) (q : NestedKey × Value × Value), xs[j]? = some q → ∃ p, ps[j]? = some p ∧ IsTup s.heap p #[q.2.1, q.2.2] ∧ NestedIs s.heap q.1 q.2.1 ∧ q.1.depth ≤ 8
  | _, _, .nil => ⟨[], .nil, rfl, fun j q e => by simp at e⟩
  | _, _, .cons (a := p) (b := kv) h t => by
    obtain ⟨xs, r, hl, hp⟩ := pairsV_of I t
    obtain ⟨hs, hk⟩ := h
    obtain ⟨its, rv, ht, _⟩ := I.tuple hs
    obtain ⟨u, y, ei, ru, ry⟩ := vals2 rv
    subst ei
    refine ⟨(kv.1, u, y) :: xs, .cons ⟨rfl, ru, ry⟩ r, by rw [List.length_cons, List.length_cons, hl], fun j q e => ?_⟩
    cases j with
    | zero =>
      have e' : (kv.1, u, y) = q := Option.some.inj e
      subst e'
      exact ⟨p, rfl, ht, keyV_nest I hk ru⟩
    | succ j =>
      obtain ⟨p', e1, e2, e3⟩ := hp j q (by simpa using e)
      exact ⟨p', by simpa using e1, e2, e3⟩
theorem kvr_keys : ∀ {kvs : Kvs} {xs : List (NestedKey × Value × Value)}, Paired KvR kvs xs → xs.map (·.1) = kvs.map (·.1)
  | _, _, .nil => rfl
  | _, _, .cons h t => by
    rw [List.map_cons, List.map_cons, kvr_keys t, h.1]
theorem kvr_at : ∀ {kvs : Kvs} {xs : List (NestedKey × Value × Value)}, Paired KvR kvs xs → ∀ {j : Nat} {q : NestedKey × Value × Value}, xs[j]? = some q → ∃ kv, kvs[j]? = some kv ∧ KvR kv q
  | _, _, .nil, j, q, e => by simp at e
  | _, _, .cons h t, 0, q, e => by
    obtain rfl := Option.some.inj (show some _ = some q from e)
    exact ⟨_, rfl, h⟩
  | _, _, .cons h t, j + 1, q, e => kvr_at t (j := j) e
theorem call_dictV {k : Nat} (hr : Room k X.A) (hcalm : X.calm = true) : CallR X (.type "dict") (rDictV X.K X.prog X.w) := by
  intro pins s σ H xs us Q I r q
  obtain ⟨a, ps, kvs, ex, hq, hp, nd, h0, few, q⟩ := q
  subst ex
  obtain ⟨u, eu, rx⟩ := vals1 r
  subst eu
  cases rx
  obtain ⟨its, rv, pl, hz⟩ := I.list hq
  have ei := refs_at rv
  subst ei
  obtain ⟨zs, rel, hl, hpr⟩ := pairsV_of I hp
  obtain ⟨o, n, ho, hc, hd, hdat⟩ := pl
  have nz : (zs.map (·.1)).Nodup := by
    rw [kvr_keys rel]
    exact nd
  have items : PySem.PairItems s.heap (ps.map Value.ref).toArray (fun j => ps.getD j 0) (zs.map fun z => (z.2.1, z.2.2)) := by
    refine ⟨by simp [hl], fun j kk v e => ?_⟩
    rw [List.getElem?_map] at e
    cases ez : zs[j]? with
    | none => rw [ez] at e; cases e
    | some z =>
      rw [ez] at e
      obtain ⟨rfl, rfl⟩ := Prod.mk.inj (Option.some.inj e)
      obtain ⟨p, e1, e2, e3⟩ := hpr j z ez
      have ed : ps.getD j 0 = p := by simp [e1]
      refine ⟨by simp [e1], ?_⟩
      show PairAt s.heap (ps.getD j 0) _ _
      rw [ed]
      obtain ⟨o', g1, g2, n', g3⟩ := e2
      exact .inl ⟨o', g1, g2, n', g3⟩
  refine dict_argV (zs := zs) (PySem.PairArg.list a (ps.map Value.ref).toArray (fun j => ps.getD j 0) (zs.map fun z => (z.2.1, z.2.2))) (I.ok.hd hcalm) ?_ ⟨⟨o, n, ho, hc, hd, hdat⟩, items⟩ (by simp) (fun i key v e => ?_) (fun z hz => ?_) nz (fun z hz => ?_) ?_ fun h' tk hd' k => ?_
  · have hu := hr.units
    show X.A.units + 1 + 1 + 8 < cLine
    omega
  · have e' : (zs.map fun z => (z.2.1, z.2.2))[i]? = some (key, v) := e
    rw [List.getElem?_map] at e'
    cases ez : zs[i]? with
    | none => rw [ez] at e'; cases e'
    | some z =>
      rw [ez] at e'
      obtain ⟨rfl, rfl⟩ := Prod.mk.inj (Option.some.inj e')
      exact ⟨z.1, rfl⟩
  · obtain ⟨j, hj⟩ := List.mem_iff_getElem?.mp hz
    obtain ⟨p, _, _, e3⟩ := hpr j z hj
    exact e3
  · obtain ⟨kv, hkv, r1, r2, r3⟩ := kvr_at rel hz
    obtain ⟨b, hb⟩ := h0 kv hkv
    rw [hb] at r2
    have ez : z.2.1 = Value.ref b := r2
    rw [ez]
    rfl
  · rw [List.length_map, hl]
    exact small1000 few
  · have hm : (s.heap.objs.size == sysModules) = false := beq_eq_false_iff_ne.mpr (Nat.ne_of_gt I.big)
    obtain ⟨od, es, ep, g1, g2, g3, g4, g5, g6⟩ := hd'
    have new : H s.heap.objs.size = none := I.hok.fresh (Nat.le_refl _)
    exact ⟨.ref s.heap.objs.size, upd H s.heap.objs.size (MapO X.prog X.w s.heap.objs.size kvs), I.laid (t' := tk) k (Nat.le_refl _) (show ObjOk X.prog X.w _ _ _ (.ext (MapF X.prog X.w s.heap.objs.size kvs)) from
      ⟨⟨zs, rel, hm, od, es, ep, g1, g2, g3, g4, g6⟩, ⟨od, g1⟩, fun h1 h2 ⟨ys, y1, y2, o', es', ep', y3, y4⟩ hk => ⟨ys, y1, y2, o', es', ep', hk _ y3, y4⟩⟩), rfl, q _ new⟩
end
end DR

namespace DR
open PySem PySem.Spec PyProof.Rows L2
/-! ### for k in such a dict, which stands still meanwhile -/
theorem kvr_get : ∀ {kvs : Kvs} {xs : List (NestedKey × Value × Value)}, Paired KvR kvs xs → ∀ {j : Nat} {kv : NestedKey × V × V}, kvs[j]? = some kv → ∃ q, xs[j]? = some q ∧ KvR kv q
  | _, _, .nil, j, q, e => by simp at e
  | _, _, .cons h t, 0, q, e => by
    obtain rfl := Option.some.inj (show some _ = some q from e)
    exact ⟨_, rfl, h⟩
  | _, _, .cons h t, j + 1, q, e => kvr_get t (j := j) e
section
variable {X : Cx} {pins : List (Addr × Obj)} {σ : L2.St} {H : Hp} {s : Shared} {d : Addr} {o : Obj} {kvs : Kvs}
theorem frzV (I : Inv X pins σ H s) (h : H d = some (.frz o (MapO X.prog X.w d kvs))) :
    (d == sysModules) = false ∧ s.heap.get? d = some o ∧ o.ExactDict ∧ ∃ (es : Array DictEntry) (ep : Nat), o.data = .dict es ep ∧ es.size = kvs.length ∧
      ∀ (i : Nat) (kv : NestedKey × V × V), kvs[i]? = some kv → ∃ en : DictEntry, es[i]? = some en ∧ L2.RelV kv.2.1 en.key := by
  obtain ⟨hd, ⟨xs, rel, hs, o', es, ep, ho, hx, hdt, he, _⟩, _⟩ := (show ObjOk X.prog X.w H s.heap d (.frz o (.ext (MapF X.prog X.w d kvs))) from I.hok d _ h)
  rw [hd] at ho
  cases ho
  refine ⟨hs, hd, hx, es, ep, hdt, ?_, fun i kv e => ?_⟩
  · rw [sizeV he]
    exact (Paired.length rel).symm
  · obtain ⟨q, hq, r1, r2, r3⟩ := kvr_get rel e
    refine ⟨entV (nestV X.prog X.w) q, ?_, r2⟩
    rw [entV_at he, hq]
    rfl
end
def ItV (P : Program) (w : World) (d : Addr) (o : Obj) (kvs : Kvs) : It :=
  ⟨fun i H => H d = some (.frz o (MapO P w d kvs)) ∧ i < kvs.length, fun i H x H' => H' = H ∧ ∃ k v, kvs[i]? = some (k, x, v), fun i H => H d = some (.frz o (MapO P w d kvs)) ∧ kvs.length ≤ i⟩
section
variable {P : Program} {w : World} {K : PySem.W.Frag} {tg : Expr} {d : Addr} {o : Obj} {es : Array DictEntry} {ep : Nat}
theorem turn_keysV {kvs : Kvs} (it : Addr) (hod : o.data = .dict es ep) : Turn P w K tg (ItV P w d o kvs) [it] it (fun i h => h.IsKeyIter it d i kvs.length ep) where
  mem := by simp
  obj := fun i h st b hb => by
    have e : b = it := by simpa using hb
    subst e
    obtain ⟨oi, e, c, dd⟩ := st
    exact ⟨oi, e, fun v z => by rw [dd] at z; cases z⟩
  keep := fun i h h' st k => st.at fun oi e => k it (by simp) oi e
  item := by
    intro X hP hw hK hc i pins s σ H E I hf st hg
    subst hP hw hK
    obtain ⟨hd, hi⟩ := hg
    obtain ⟨f0, f1, f2, f3, f4, f5⟩ := hf it (by simp)
    obtain ⟨hs, hgd, hx, es', ep', hdt, hsz, ent⟩ := frzV I hd
    obtain ⟨rfl, rfl⟩ := dict_ep hod hdt
    obtain ⟨⟨k, y, v⟩, hkv⟩ : ∃ p, kvs[i]? = some p := ⟨kvs[i], List.getElem?_eq_getElem hi⟩
    obtain ⟨en, hen, hkey⟩ := ent i _ hkv
    refine next_key_item st hgd hdt hsz hen fun h' st' sb => ?_
    have I1 : Inv X pins σ H { s with heap := h' } := I.turned (t' := s.toks) (fun b ob hb e => (sb.2 b hb).trans e) f0 f1 f3 f4 f5
    obtain ⟨oi, e, c, dd⟩ := id st'
    exact ⟨en.key, rfl, go_of (s := { s with heap := h' }) e c dd (by decide) ⟨y, H, I1, hkey, ⟨rfl, k, v, hkv⟩, st', fun b hb => (hf b hb).1⟩⟩
  done := by
    intro X hP hw hK hc i pins s σ H E I hf st hg
    subst hP hw hK
    obtain ⟨hd, hi⟩ := hg
    obtain ⟨f0, f1, f2, f3, f4, f5⟩ := hf it (by simp)
    obtain ⟨hs, hgd, hx, es', ep', hdt, hsz, ent⟩ := frzV I hd
    obtain ⟨rfl, rfl⟩ := dict_ep hod hdt
    exact next_key_end (I.ok.hd hc) st hgd hdt hsz hi fun h' eb => ⟨rfl, I.turned (t' := s.toks) (fun b ob hb e => eb b ob hb e) f0 f1 f3 f4 f5⟩
  self := fun A i s Q E st h => by
    refine wpAny_pyIter_slot st.typeIs F.slot_dict_keyiterator_iter (wpAny_call_entry F.slot_dict_keyiterator_iter st.typeIs F.entry_dict_keyiterator_iter ?_ (F.args_dict_keyiterator_iter_1 _))
    show wpAny _ _ (ret (.ref it)) _ _ s
    exact wpAny_pure ⟨_, rfl, "dict_keyiterator", _, st.typeIs, F.slot_dict_keyiterator_next.lookup, h⟩
end
def iKeysV (P : Program) (w : World) (td : TE) : TI := fun σ H R => td σ H fun x H1 => ∃ d o kvs, x = .ref d ∧ H1 d = some (.frz o (MapO P w d kvs)) ∧ R (ItV P w d o kvs) H1
theorem pi_keysV {X : Cx} {tg e : Expr} {td : TE} (he : PE X e td) : PI X tg e (iKeysV X.prog X.w td) := by
  refine ⟨fun pins s σ H R I h => ?_⟩
  refine thn (he.run pins s σ H _ I h) fun u s1 ⟨x, H1, I1, rx, d, o, kvs, ex, hd, q⟩ => ?_
  subst ex
  obtain rfl : u = Value.ref d := rx
  obtain ⟨hs, hgd, hx, es, ep, hdt, hsz, ent⟩ := frzV I1 hd
  refine iter_keys hs hgd hx hdt (pi_one (tk := s1.toks) I1 _ (turn_keysV _ hdt) ⟨_, Heap.get?_push_size _ rfl, rfl, ?_⟩ q)
  rw [hsz] <;> rfl
theorem walk_keysV {P : Program} {w : World} {d : Addr} {o : Obj} {kvs : Kvs} : Walk (ItV P w d o kvs) kvs.length (fun H => H d = some (.frz o (MapO P w d kvs))) (fun i H x H' => H' = H ∧ ∃ k v, kvs[i]? = some (k, x, v)) :=
  ⟨fun _ _ hi hG => ⟨hG, hi⟩, fun _ hG => ⟨hG, Nat.le_refl _⟩, fun _ _ _ _ _ _ y => y⟩
end DR

namespace DR
open PySem PySem.Spec PyProof.Rows L2
/-! ### isinstance of such a dict, and what stands at a key -/
def VAt (P : Program) (w : World) (H : Hp) (d : Addr) (kvs : Kvs) : Prop := Rd H d (MapO P w d kvs)
section
variable {X : Cx} {pins : List (Addr × Obj)} {σ : L2.St} {H : Hp} {s : Shared} {d : Addr} {kvs : Kvs} {A : Around} {E : Value → Shared → Prop}
theorem mapF_of (I : Inv X pins σ H s) (h : VAt X.prog X.w H d kvs) : MapF X.prog X.w d kvs s.heap := by
  rcases h with h | ⟨o, h⟩
  · exact (show ObjOk X.prog X.w H s.heap d (.ext (MapF X.prog X.w d kvs)) from I.hok d _ h).1
  · exact (show ObjOk X.prog X.w H s.heap d (.frz o (.ext (MapF X.prog X.w d kvs))) from I.hok d _ h).2.1
theorem tabV_of (I : Inv X pins σ H s) (h : VAt X.prog X.w H d kvs) (hk : ∀ kv ∈ kvs, KeyV X.K H kv.2.1 kv.1) : ∃ xs, Paired KvR kvs xs ∧ TabV (nestV X.prog X.w) s.heap d xs := by
  obtain ⟨xs, rel, hs, o, es, ep, ho, hx, hdt, he, hn⟩ := mapF_of I h
  refine ⟨xs, rel, o, es, ep, ho, hx, hdt, he, fun x hx => ?_, hn⟩
  obtain ⟨j, hj⟩ := List.mem_iff_getElem?.mp hx
  obtain ⟨kv, hkv, r1, r2, r3⟩ := kvr_at rel hj
  rw [← r1]
  exact keyV_nest I (hk kv (List.mem_of_getElem? hkv)) r2
theorem tabV_type {xs : List (NestedKey × Value × Value)} (h : TabV (nestV X.prog X.w) s.heap d xs) : s.TypeIs (.ref d) "dict" := by
  obtain ⟨o, es, ep, ho, hc, _⟩ := h
  exact ⟨o, ho, hc.1⟩
theorem getItemV {key : Value} {xs : List (NestedKey × Value × Value)} {k : NestedKey} {i : Nat} {p : Value × Value} {Q : Value → Shared → Prop} (hu : (nestV X.prog X.w).room A.in1) (hkey : (nestV X.prog X.w).is s.heap k key) (hm : TabV (nestV X.prog X.w) s.heap d xs) (hi : xs[i]? = some (k, p))
    (hs : isExactStrKey key = true → ∃ x ∈ xs, isExactStrKey x.2.1 = false) (h : Q p.2 { s with toks := s.toks + k.draws }) : wpAny (model X.prog X.w) A (getItem (.ref d) key) Q E s := by
  have ht := tabV_type hm
  unfold getItem
  try with_reducible refine wpAny_holding ?_
  refine wpAny_bind (wpAny_sequenceKey ht (by decide) ?_)
  refine wpAny_bind (wpAny_callSpecial?_slot (name := Str.ofString "__getitem__") ht PySem.F.slot_dict_getitem
    (wpAny_call_entry PySem.F.slot_dict_getitem ht PySem.F.entry_dict_getitem ?_ (PySem.F.args_dict_getitem_2 _ _)))
  show wpAny _ _ (dictGet d key >>= _) _ _ s
  refine wpAny_bind (getV hu hkey hm hi hs ?_)
  exact wpAny_pure ⟨p.2, rfl, wpAny_pure h⟩
end
def tDGetV (K : PySem.W.Frag) (P : Program) (w : World) (td ty : TE) : TE := fun σ H Q => td σ H fun x H1 => ty σ H1 fun y H2 => ∃ (d : Addr) (kvs : Kvs) (k : NestedKey) (i : Nat) (y' v : V), x = .ref d ∧ VAt P w H2 d kvs ∧ (∀ kv ∈ kvs, KeyV K H2 kv.2.1 kv.1) ∧ (∀ kv, kvs[0]? = some kv → ∃ b, kv.2.1 = .ref b) ∧
  kvs[i]? = some (k, y', v) ∧ KeyV K H2 y k ∧ Q v H2
theorem pe_dgetV {X : Cx} {o i : Expr} {td ty : TE} {pos : Pos} {n : Nat} (hr : Room n X.A) (ho : PE X o td) (hi : PE X i ty) (hs : NoSl i) : PE X (.Subscript o i pos) (tDGetV X.K X.prog X.w td ty) := by
  refine ⟨fun pins s σ H Q I h => ?_⟩
  refine subD_of PySem.F.slot_dict_getitem.lookup hs (thn (ho.run pins s σ H _ I h) fun u s1 ⟨x, H1, I1, rx, q1⟩ => thn (hi.run pins s1 σ H1 _ I1 q1) fun iv s2 ⟨y, H2, I2, ry, d, kvs, k, j, y', v, ex, hv, hk, h0, hj, hky, q2⟩ => ?_)
  subst ex
  obtain rfl : u = Value.ref d := rx
  obtain ⟨xs, rel, tab⟩ := tabV_of I2 hv hk
  obtain ⟨⟨k', p⟩, hq, r1, r2, r3⟩ := kvr_get rel hj
  obtain rfl : k = k' := r1
  refine ⟨tabV_type tab, getItemV (by have := hr.units; show X.A.units + 1 + 8 < cLine; omega) (keyV_nest I2 hky ry) tab hq (fun _ => ?_) ⟨v, H2, I2.tok _, r3, q2⟩⟩
  obtain ⟨kv0, hkv0⟩ : ∃ kv, kvs[0]? = some kv := ⟨kvs[0]'(Nat.lt_of_le_of_lt (Nat.zero_le _) (List.getElem?_eq_some_iff.mp hj).1), List.getElem?_eq_getElem _⟩
  obtain ⟨b, hb⟩ := h0 kv0 hkv0
  obtain ⟨q0, hq0, t1, t2, t3⟩ := kvr_get rel hkv0
  rw [hb] at t2
  have ez : q0.2.1 = Value.ref b := t2
  exact ⟨q0, List.mem_of_getElem? hq0, by rw [ez]; rfl⟩
end DR

namespace DR
open PySem PySem.Spec PyProof.Rows L2
def rIsiV (K : PySem.W.Frag) (P : Program) (w : World) : List V → Hp → VK → Prop := fun xs H Q => rIsi K xs H Q ∨ ∃ (d : Addr) (kvs : Kvs) (c : V) (u : Value) (b : Bool), xs = [.ref d, c] ∧ ClsV c u ∧ VAt P w H d kvs ∧ PySem.W.kitOne K (.type "dict") u = some b ∧ Q (.bl b) H
theorem call_isiV {X : Cx} : CallR X (.builtin "isinstance") (rIsiV X.K X.prog X.w) := by
  intro pins s σ H xs us Q I r h
  rcases h with h | ⟨d, kvs, c, u, b, rfl, k, hv, e, q⟩
  · exact call_isi pins s σ H xs us Q I r h
  · obtain ⟨u1, u2, rfl, r1, r2⟩ := vals2 r
    have e2 := k.eq r2
    subst e2
    obtain rfl : u1 = Value.ref d := r1
    obtain ⟨_, _, _, o, _, _, ho, hx, _⟩ := mapF_of I hv
    exact PySem.W.kia_one PySem.W.kitx_dict I.kIn ⟨o, ho, hx.1⟩ e (fun z => nomatch z) fun tk => ⟨.bl b, H, I.tok tk, rfl, q⟩
end DR

namespace DR
open PySem PySem.Spec PyProof.Rows L2
/-! ### data stays while all but such a dict stays -/
/-- all but what stands at D stays, and there stands neither a list nor a tuple -/
structure ButD (D : Addr) (H H' : Hp) : Prop where
  keep : ∀ b x, b ≠ D → H b = some x → H' b = some x
  noL : ∀ xs, ¬ Rd H D (.lst xs)
  noT : ∀ xs, ¬ Rd H D (.tup xs)
  noD : ∀ kvs, H D ≠ some (.dK kvs)
theorem rd_but {H H' : Hp} {D a : Addr} {u : HO} (e : ButD D H H') (n : a ≠ D) (h : Rd H a u) : Rd H' a u := by
  rcases h with h | ⟨o, h⟩
  · exact .inl (e.keep _ _ n h)
  · exact .inr ⟨o, e.keep _ _ n h⟩
theorem sqL_but {K : PySem.W.Frag} {H H' : Hp} {D a : Addr} {xs : List V} (e : ButD D H H') (h : SqL K H a xs) : SqL K H' a xs := by
  rcases h with h | h
  · exact .inl (rd_but e (fun z => e.noL xs (z ▸ h)) h)
  · exact .inr h
theorem sqT_but {K : PySem.W.Frag} {H H' : Hp} {D a : Addr} {xs : List V} (e : ButD D H H') (h : SqT K H a xs) : SqT K H' a xs := by
  rcases h with h | h
  · exact .inl (rd_but e (fun z => e.noT xs (z ▸ h)) h)
  · exact .inr h
mutual
theorem dp_but {K : PySem.W.Frag} {H H' : Hp} {D : Addr} (e : ButD D H H') : ∀ {v : V} {d : PyData}, Dp K H v d → Dp K H' v d
  | _, _, .non => .non
  | _, _, .bl b => .bl b
  | _, _, .int i => .int i
  | _, _, .str x => .str x
  | _, _, .lst s a => .lst (sqL_but e s) (dps_but e a)
  | _, _, .tup s a => .tup (sqT_but e s) (dps_but e a)
theorem dps_but {K : PySem.W.Frag} {H H' : Hp} {D : Addr} (e : ButD D H H') : ∀ {vs : List V} {ds : List PyData}, DpAll K H vs ds → DpAll K H' vs ds
  | _, _, .nil => .nil
  | _, _, .cons h t => .cons (dp_but e h) (dps_but e t)
end
theorem th_but {K : PySem.W.Frag} {H H' : Hp} {D : Addr} (e : ButD D H H') {v : V} {d : PyData} : Th K H v d → Th K H' v d
  | .dat h => .dat (dp_but e h)
  | .dct h => .dct (e.keep _ _ (fun z => e.noD _ (z ▸ h)) h)
theorem keyV_but {K : PySem.W.Frag} {H H' : Hp} {D : Addr} (e : ButD D H H') {y : V} {k : NestedKey} (h : KeyV K H y k) : KeyV K H' y k := by
  obtain ⟨d, h1, h2⟩ := h
  exact ⟨d, dp_but e h1, h2⟩
theorem but_map {P : Program} {w : World} {H H' : Hp} {D : Addr} {kvs : Kvs} (h : VAt P w H D kvs) (k : ∀ b x, b ≠ D → H b = some x → H' b = some x) : ButD D H H' := by
  refine ⟨k, fun xs z => ?_, fun xs z => ?_, fun l z => ?_⟩
  · rcases h with h | ⟨o, h⟩ <;> rcases z with z | ⟨o', z⟩ <;> · rw [h] at z; cases z
  · rcases h with h | ⟨o, h⟩ <;> rcases z with z | ⟨o', z⟩ <;> · rw [h] at z; cases z
  · rcases h with h | ⟨o, h⟩ <;> · rw [h] at z; cases z
end DR

namespace DR
open PySem PySem.Spec PyProof.Rows L2
/-! ### dicts of keys of any kind: their keys in turn, what stands at a key -/
/-- some key is no text -/
def MixC (kvs : Kvs) : Prop := ∃ (i : Nat) (kv : NestedKey × V × V), kvs[i]? = some kv ∧ ∀ z, kv.2.1 ≠ .str z
def tDGetA (K : PySem.W.Frag) (P : Program) (w : World) (td ty : TE) : TE := fun σ H Q => td σ H fun x H1 => ty σ H1 fun y H2 => (∃ a v, x = .ref a ∧ DGet H2 a y (some v) ∧ Q v H2) ∨
  ∃ (d : Addr) (kvs : Kvs) (k : NestedKey) (i : Nat) (y' v : V), x = .ref d ∧ VAt P w H2 d kvs ∧ (∀ kv ∈ kvs, KeyV K H2 kv.2.1 kv.1) ∧ MixC kvs ∧ kvs[i]? = some (k, y', v) ∧ KeyV K H2 y k ∧ Q v H2
theorem pe_dgetA {X : Cx} {o i : Expr} {td ty : TE} {pos : Pos} {n : Nat} (hr : Room n X.A) (ho : PE X o td) (hi : PE X i ty) (hs : NoSl i) : PE X (.Subscript o i pos) (tDGetA X.K X.prog X.w td ty) := by
  refine ⟨fun pins s σ H Q I h => ?_⟩
  refine subD_of PySem.F.slot_dict_getitem.lookup hs (thn (ho.run pins s σ H _ I h) fun u s1 ⟨x, H1, I1, rx, q1⟩ => thn (hi.run pins s1 σ H1 _ I1 q1) fun iv s2 ⟨y, H2, I2, ry, q2⟩ => ?_)
  rcases q2 with ⟨a, v, ex, g, q2⟩ | ⟨d, kvs, k, j, y', v, ex, hv, hk, mx, hj, hky, q2⟩
  · subst ex
    obtain rfl : u = Value.ref a := rx
    exact ⟨dict_typeIs I2 g, d_getItem (by have := hr.un; omega) I2 g ry fun w' s3 I3 rw' => ⟨v, H2, I3, rw', q2⟩⟩
  · subst ex
    obtain rfl : u = Value.ref d := rx
    obtain ⟨xs, rel, tab⟩ := tabV_of I2 hv hk
    obtain ⟨⟨k', p⟩, hq, r1, r2, r3⟩ := kvr_get rel hj
    obtain rfl : k = k' := r1
    refine ⟨tabV_type tab, getItemV (by have := hr.units; show X.A.units + 1 + 8 < cLine; omega) (keyV_nest I2 hky ry) tab hq (fun _ => ?_) ⟨v, H2, I2.tok _, r3, q2⟩⟩
    obtain ⟨i0, kv0, hkv0, ns⟩ := mx
    obtain ⟨q0, hq0, t1, t2, t3⟩ := kvr_get rel hkv0
    refine ⟨q0, List.mem_of_getElem? hq0, ?_⟩
    cases e : q0.2.1 with
    | str z t =>
      rw [e] at t2
      have t2 : L2.RelV kv0.2.1 (.str z t) := t2
      cases ev : kv0.2.1 with
      | str z' => exact absurd ev (ns z')
      | _ => rw [ev] at t2; first | (cases t2; done) | (obtain ⟨_, t2⟩ := t2; cases t2; done)
    | _ => rfl
/-- the keys, in turn, of a locked dict -/
def KeysAt (P : Program) (w : World) (H : Hp) (d : Addr) (o : Obj) (ys : List V) : Prop := (∃ kvs : List (Key × V), H d = some (.frz o (.dK kvs)) ∧ ys = kvs.map fun kv => kV kv.1) ∨ ∃ kvs : Kvs, H d = some (.frz o (MapO P w d kvs)) ∧ ys = kvs.map fun kv => kv.2.1
def iKeysA (P : Program) (w : World) (td : TE) : TI := fun σ H R => td σ H fun x H1 => ∃ d o ys, x = .ref d ∧ KeysAt P w H1 d o ys ∧ ∀ J G, Walk J ys.length G (YAt ys) → (∀ H4, H4 d = H1 d → G H4) → R J H1
theorem pi_keysA {X : Cx} {tg e : Expr} {td : TE} (he : PE X e td) : PI X tg e (iKeysA X.prog X.w td) := by
  refine ⟨fun pins s σ H R I h => ?_⟩
  refine thn (he.run pins s σ H _ I h) fun u s1 ⟨x, H1, I1, rx, d, o, ys, ex, hk, q⟩ => ?_
  subst ex
  obtain rfl : u = Value.ref d := rx
  rcases hk with ⟨kvs, hd, rfl⟩ | ⟨kvs, hd, rfl⟩
  · obtain ⟨hs, hgd, hx, es, ep, vs, hdt, hsz, kv, hm⟩ := I1.frzK hd
    refine iter_keys hs hgd hx hdt (pi_one (tk := s1.toks) I1 _ (turn_keys _ hdt) ⟨_, Heap.get?_push_size _ rfl, rfl, ?_⟩ (q (Itk d o kvs) (fun H => H d = some (.frz o (.dK kvs))) ⟨fun _ _ hi g => ⟨g, by rw [List.length_map] at hi; exact hi⟩, fun _ g => ⟨g, by rw [List.length_map]; exact Nat.le_refl _⟩, fun i H x H' _ g y => ⟨y.1, ?_⟩⟩ fun H4 e => e.trans hd))
    · rw [hsz] <;> rfl
    · obtain ⟨k, v, hkv, rfl⟩ := y.2
      rw [List.getElem?_map, hkv]
      rfl
  · obtain ⟨hs, hgd, hx, es, ep, hdt, hsz, ent⟩ := frzV I1 hd
    refine iter_keys hs hgd hx hdt (pi_one (tk := s1.toks) I1 _ (turn_keysV _ hdt) ⟨_, Heap.get?_push_size _ rfl, rfl, ?_⟩ (q (ItV X.prog X.w d o kvs) (fun H => H d = some (.frz o (MapO X.prog X.w d kvs))) ⟨fun _ _ hi g => ⟨g, by rw [List.length_map] at hi; exact hi⟩, fun _ g => ⟨g, by rw [List.length_map]; exact Nat.le_refl _⟩, fun i H x H' _ g y => ⟨y.1, ?_⟩⟩ fun H4 e => e.trans hd))
    · rw [hsz] <;> rfl
    · obtain ⟨k, v, hkv⟩ := y.2
      rw [List.getElem?_map, hkv]
      rfl
end DR

namespace DR
open PySem PySem.Spec PyProof.Rows L2
/-! ### what is told of names: a dict of any keys -/
theorem kit_dd {K : PySem.W.Frag} : PySem.W.kitOne K (.type "dict") (.type "dict") = some true := by
  show kitB "dict" "dict" = some true
  decide +kernel
def AdT (H : Hp) (v : V) (a : Str × Int) : Prop := ∃ t, v = .ref t ∧ H t = some (.tup [.str a.1, .int a.2])
theorem adT_s {H H' : Hp} (e : TupS H H') {v : V} {a : Str × Int} (h : AdT H v a) : AdT H' v a := by
  obtain ⟨t, h1, h2⟩ := h
  exact ⟨t, h1, e _ _ h2⟩
/-- d[y], as it is read -/
def rGetA (K : PySem.W.Frag) (P : Program) (w : World) (x y : V) (H : Hp) (Q : VK) : Prop := (∃ a v, x = .ref a ∧ DGet H a y (some v) ∧ Q v H) ∨
  ∃ (d : Addr) (kvs : Kvs) (k : NestedKey) (i : Nat) (y' v : V), x = .ref d ∧ VAt P w H d kvs ∧ (∀ kv ∈ kvs, KeyV K H kv.2.1 kv.1) ∧ MixC kvs ∧ kvs[i]? = some (k, y', v) ∧ KeyV K H y k ∧ Q v H
/-- a dict at D with these keys and what stands at them -/
structure TU (P : Program) (w : World) (K : PySem.W.Frag) (D : Addr) (u : HO) (ys vs : List V) : Prop where
  mt : Mut (some u)
  isD : ∀ H, H D = some u → TyX K H (.ref D) (.type "dict") ∨ ∃ kvs, u = MapO P w D kvs
  keys : ∀ H o, H D = some (.frz o u) → KeysAt P w H D o ys
  get : ∀ H o (i : Nat) (y v : V) (Q : VK), H D = some (.frz o u) → ys[i]? = some y → vs[i]? = some v → Q v H → rGetA K P w (.ref D) y H Q
  noL : ∀ xs, u ≠ .lst xs
  noT : ∀ xs, u ≠ .tup xs
  noF : ∀ o x, u ≠ .frz o x
  noE : ∀ ks, u ≠ .dT ks
theorem valK_at : ∀ {ks : List (Key × V)}, (ks.map (·.1)).Nodup → ∀ {i : Nat} {k : Key} {v : V}, ks[i]? = some (k, v) → valV ks k = some v
  | e :: ks, nod, 0, k, v, h => by
    have h : e = (k, v) := Option.some.inj h
    subst h
    unfold valV
    rw [List.find?_cons_of_pos (by simp)]
    rfl
  | e :: ks, nod, i + 1, k, v, h => by
    rw [List.map_cons, List.nodup_cons] at nod
    have h : ks[i]? = some (k, v) := h
    have ne : e.1 ≠ k := fun z => nod.1 (z ▸ List.mem_map.mpr ⟨_, List.mem_of_getElem? h, rfl⟩)
    have := valK_at nod.2 h
    unfold valV at this ⊢
    rw [List.find?_cons_of_neg (by simp [ne])]
    exact this
theorem tu_dK {P : Program} {w : World} {K : PySem.W.Frag} {D : Addr} {kvs : List (Key × V)} (nod : (kvs.map (·.1)).Nodup) : TU P w K D (.dK kvs) (kvs.map fun kv => kV kv.1) (kvs.map fun kv => kv.2) := by
  refine ⟨trivial, fun H h => .inl (.base (.dK h)), fun H o h => .inl ⟨kvs, h, rfl⟩, fun H o i y v Q h hy hv q => .inl ⟨D, v, rfl, ?_, q⟩, fun xs z => (by cases z), fun xs z => (by cases z), fun o x z => (by cases z), fun ks z => (by cases z)⟩
  rw [List.getElem?_map] at hy hv
  cases e : kvs[i]? with
  | none => rw [e] at hy; cases hy
  | some kv =>
    rw [e] at hy hv
    obtain rfl := Option.some.inj hy
    obtain rfl := Option.some.inj hv
    obtain ⟨k, v⟩ := kv
    exact .inl ⟨kvs, k, .inr ⟨o, h⟩, rfl, (valK_at nod e).symm⟩
theorem tu_map {P : Program} {w : World} {K : PySem.W.Frag} {D : Addr} {kvs : Kvs} (hk : ∀ kv ∈ kvs, ∀ G, KeyV K G kv.2.1 kv.1) (mx : MixC kvs) : TU P w K D (MapO P w D kvs) (kvs.map fun kv => kv.2.1) (kvs.map fun kv => kv.2.2) := by
  refine ⟨trivial, fun H h => .inr ⟨kvs, rfl⟩, fun H o h => .inr ⟨kvs, h, rfl⟩, fun H o i y v Q h hy hv q => .inr ?_, fun xs z => (by cases z), fun xs z => (by cases z), fun o x z => (by cases z), fun ks z => (by cases z)⟩
  rw [List.getElem?_map] at hy hv
  cases e : kvs[i]? with
  | none => rw [e] at hy; cases hy
  | some kv =>
    rw [e] at hy hv
    obtain rfl := Option.some.inj hy
    obtain rfl := Option.some.inj hv
    obtain ⟨k, y, v⟩ := kv
    exact ⟨D, kvs, k, i, y, v, rfl, .inr ⟨o, h⟩, fun kv hm => hk kv hm H, mx, e, hk _ (List.mem_of_getElem? e) H, q⟩
/-- a pair of what is told: its key's data, its worth's data -/
def tellE (qs : List Pk) (e : PyData × PyData) : Option (Str × (Str × Int)) := match e.1 with
  | .str z => if isNmS z = true then (readAdr e.2).bind fun a => if (wordOf qs (keyA a)).isSome = true then some (z, a) else none else none
  | _ => none
def TellR (qs : List Pk) (e : PyData × PyData) (m : Str × (Str × Int)) : Prop := tellE qs e = some m
structure TEnt (K : PySem.W.Frag) (H : Hp) (y v : V) (e : PyData × PyData) : Prop where
  key : Dp K H y e.1
  sh : shortS e.1
  val : Dp K H v e.2
  ok : okAd e.2
structure Ents (K : PySem.W.Frag) (H : Hp) (ys vs : List V) (es : List (PyData × PyData)) : Prop where
  lv : vs.length = ys.length
  le : es.length = ys.length
  at_ : ∀ (i : Nat) (y v : V) (e : PyData × PyData), ys[i]? = some y → vs[i]? = some v → es[i]? = some e → TEnt K H y v e
def MdR (H : Hp) (kv : Key × V) (m : Str × (Str × Int)) : Prop := kv.1 = .inr m.1 ∧ AdT H kv.2 m.2
/-- data stays while all but what stands at D stays -/
structure ButL (D : Addr) (H H' : Hp) : Prop where
  keep : ∀ b x, b ≠ D → H b = some x → H' b = some x
  noL : ∀ xs, ¬ Rd H D (.lst xs)
  noT : ∀ xs, ¬ Rd H D (.tup xs)
theorem rd_butL {H H' : Hp} {D a : Addr} {u : HO} (e : ButL D H H') (n : a ≠ D) (h : Rd H a u) : Rd H' a u := by
  rcases h with h | ⟨o, h⟩
  · exact .inl (e.keep _ _ n h)
  · exact .inr ⟨o, e.keep _ _ n h⟩
theorem sqL_butL {K : PySem.W.Frag} {H H' : Hp} {D a : Addr} {xs : List V} (e : ButL D H H') (h : SqL K H a xs) : SqL K H' a xs := by
  rcases h with h | h
  · exact .inl (rd_butL e (fun z => e.noL xs (z ▸ h)) h)
  · exact .inr h
theorem sqT_butL {K : PySem.W.Frag} {H H' : Hp} {D a : Addr} {xs : List V} (e : ButL D H H') (h : SqT K H a xs) : SqT K H' a xs := by
  rcases h with h | h
  · exact .inl (rd_butL e (fun z => e.noT xs (z ▸ h)) h)
  · exact .inr h
mutual
theorem dp_butL {K : PySem.W.Frag} {H H' : Hp} {D : Addr} (e : ButL D H H') : ∀ {v : V} {d : PyData}, Dp K H v d → Dp K H' v d
  | _, _, .non => .non
  | _, _, .bl b => .bl b
  | _, _, .int i => .int i
  | _, _, .str x => .str x
  | _, _, .lst s a => .lst (sqL_butL e s) (dps_butL e a)
  | _, _, .tup s a => .tup (sqT_butL e s) (dps_butL e a)
theorem dps_butL {K : PySem.W.Frag} {H H' : Hp} {D : Addr} (e : ButL D H H') : ∀ {vs : List V} {ds : List PyData}, DpAll K H vs ds → DpAll K H' vs ds
  | _, _, .nil => .nil
  | _, _, .cons h t => .cons (dp_butL e h) (dps_butL e t)
end
theorem TU.but {P : Program} {w : World} {K : PySem.W.Frag} {D : Addr} {u : HO} {ys vs : List V} {H H' : Hp} (t : TU P w K D u ys vs) (h : H D = some u) (k : ∀ b x, b ≠ D → H b = some x → H' b = some x) : ButL D H H' :=
  ⟨k, fun xs z => by
    rcases z with z | ⟨o, z⟩
    · rw [h] at z; exact t.noL xs (Option.some.inj z)
    · rw [h] at z; exact t.noF _ _ (Option.some.inj z), fun xs z => by
    rcases z with z | ⟨o, z⟩
    · rw [h] at z; exact t.noT xs (Option.some.inj z)
    · rw [h] at z; exact t.noF _ _ (Option.some.inj z)⟩
/-- what is told, and how reading it ends -/
def ToldD (K : PySem.W.Frag) (P : Program) (w : World) (CT : Addr) (qs : List Pk) (v : V) (H : Hp) (Q : VK) (E : XK) : Prop :=
  (v = .non ∧ ∀ p, H p = none → Q (.ref p) (upd H p (.dK []))) ∨
   (∃ d, Th K H v d ∧ v ≠ .non ∧ PySem.W.kitOne K (.type (tyN d)) (.type "dict") = some false ∧ ∀ dx, H dx = none → E (.ref CT) (some dx) (upd H dx (.xd [("name", .non)]))) ∨
   ∃ (D : Addr) (u : HO) (ys ws : List V) (es : List (PyData × PyData)), v = .ref D ∧ H D = some u ∧ TU P w K D u ys ws ∧ Ents K H ys ws es ∧ ys.length ≤ 100 ∧ (∀ i ms, PySem.W.EachIs (TellR qs) (es.take i) ms → (ms.map (·.1)).Nodup) ∧
     (∀ (i : Nat) (y : V) (e : PyData × PyData) ms, ys[i]? = some y → es[i]? = some e → PySem.W.EachIs (TellR qs) (es.take i) ms → tellE qs e = none → ∀ H' dx, (∀ b x, b ≠ D → H b = some x → H' b = some x) → H' dx = none → E (.ref CT) (some dx) (upd H' dx (.xd [("name", y)]))) ∧
     ∀ ms, PySem.W.EachIs (TellR qs) es ms → ∀ H' F md, Same H H' → H F = none → H' F = some (.dK md) → PySem.W.EachIs (MdR H') md ms → Q (.ref F) H'
def spReadTold (K : PySem.W.Frag) (P : Program) (w : World) (CT : Addr) : Sp := fun vs H Q E => ∃ (v : V) (S : Addr) (ks : List (List Key × V)) (qs : List Pk), vs = [v, .ref S] ∧ H S = some (.dT ks) ∧ PySem.W.EachIs (AdrV H) ks (adrs qs) ∧ ToldD K P w CT qs v H Q E
abbrev sReadTold : Stmt := topS 30
abbrev NRt : List Str := ["told", "sums", "found", "name", "address"]
theorem scReadTold : FnScope NRt ["told", "sums"] (defScope sReadTold) := ⟨rfl, rfl, rfl, by decide +kernel, rfl, by decide +kernel, by decide +kernel⟩
end DR

namespace DR
open PySem PySem.Spec PyProof.Rows L2
theorem putS_new {md : List (Key × V)} {k : Key} {v : V} (h : k ∉ md.map (·.1)) : putK md k v = md ++ [(k, v)] := by
  unfold putK
  rw [if_neg]
  intro c
  obtain ⟨p, hp, e⟩ := List.any_eq_true.mp c
  exact h (List.mem_map.mpr ⟨p, hp, of_decide_eq_true e⟩)
theorem md_keys {H : Hp} : ∀ {md : List (Key × V)} {ms : List (Str × (Str × Int))}, PySem.W.EachIs (MdR H) md ms → md.map (·.1) = ms.map fun m => (.inr m.1 : Key)
  | _, _, .nil => rfl
  | _, _, .cons h t => by rw [List.map_cons, List.map_cons, md_keys t, h.1]
theorem tell_no1 {qs : List Pk} {kd vd : PyData} (h : isNm kd = false) : tellE qs (kd, vd) = none := by
  unfold tellE
  cases kd with
  | str z =>
    show (if isNmS z = true then _ else _) = _
    rw [if_neg (fun c => by rw [show isNmS z = false from h] at c; cases c)]
  | _ => rfl
theorem tell_no2 {qs : List Pk} {kd vd : PyData} (h : readAdr vd = none) : tellE qs (kd, vd) = none := by
  unfold tellE
  cases kd with
  | str z =>
    show (if isNmS z = true then (readAdr vd).bind _ else _) = _
    rw [h]
    split <;> rfl
  | _ => rfl
theorem tell_yes {qs : List Pk} {z : Str} {vd : PyData} {a : Str × Int} (h : isNmS z = true) (r : readAdr vd = some a) : tellE qs (.str z, vd) = if (wordOf qs (keyA a)).isSome = true then some (z, a) else none := by
  show (if isNmS z = true then (readAdr vd).bind _ else _) = _
  rw [if_pos h, r]
  rfl
section
variable {P : Program} {w : World} {K : PySem.W.Frag} {mg : Str → Option Value} {base : Heap}
theorem ok_readTold {f CT : Addr} {fd : FuncData} (F : Fun K "read_told" "read_told" sReadTold f fd) (T : Bi mg) (S : Err P w K mg base "BadTold" CT "name") (G1 : Has P w K mg base CX0 4 "read_address" ["thing"] (spReadAdr K)) (G2 : Has P w K mg base CX0 4 "is_name" ["thing"] (spIsName K)) :
    FnOk P w K mg base (L2.CX P w) 5 f fd ["told", "sums"] (spReadTold K P w CT) := by
  refine F.okX scReadTold (fun vs H Q E h => ?_) (fun cdv A outer s H vs Q E hr h => ?_)
  · obtain ⟨v, S, ks, qs, rfl, _⟩ := h
    rfl
  · obtain ⟨v, Sa, ks, qs, rfl, hS, hks, h⟩ := h
    have hu := hu_of hr
    refine ⟨_, (pss_cons (ps_if (pt_cmpR op_isN (pv 0) pe_non (nomark _)) (pss_one (ps_ret pe_dnewK)) pss_nil)
      (pss_cons (ps_if (pt_not (pt_val (pe_callB call_isiV (by rfl) T.isinstance (by decide +kernel) (pa_cons (pv 0) (pa_cons (pe_bltn (v := .ty "dict") (by rfl) T.dict (by decide +kernel) rfl) pa_nil))))) (pss_one (ps_err rfl (takes_of rfl rfl rfl rfl) S hr (by decide) pe_non)) pss_nil)
      (pss_cons (ps_set (i := 2) scReadTold.nd rfl (.inl rfl) pe_dnewK)
      (pss_cons (ps_lock (ps_for (passes_of rfl) rfl (pi_keysA (pv 0)) (pg_name (i := 3) scReadTold.nd rfl (.inl rfl)) (pss_cons (ps_set (i := 4) scReadTold.nd rfl (.inl rfl) (pe_callH G1 hr (by rfl) pass0 (pa_cons (pe_dgetA hr (pv 0) (pv 3) (fun _ _ => rfl)) pa_nil)))
        (pss_cons (ps_if (PW.pt (pw_or (pt_not (pt_val (pe_callH G2 hr (by rfl) pass0 (pa_cons (pv 3) pa_nil)))) (pw_or (pt_cmpR op_isN (pv 4) pe_non (nomark _)) (pw_or1 (pt_cmp (pc_dnotin hu (pv 4) (pv 1)) (by rfl)))))) (pss_one (ps_err rfl (takes_of rfl rfl rfl rfl) S hr (by decide) (pv 3))) pss_nil)
        (pss_one (ps_dput hu (pv 2) (pv 3) (pv 4) rfl))))))
      (pss_one (ps_ret (pv 2))))))), ?_⟩
    rcases h with ⟨rfl, q⟩ | ⟨d, th, nn, nd, qe⟩ | ⟨D, u, ys, ws, es, rfl, hD, tu, en, few, hnod, qe, q⟩
    · exact ⟨_, rfl, rfl, _, rfl, iteT fun p hp => q p hp⟩
    · refine ⟨_, rfl, rfl, _, rfl, ?_⟩
      rw [decide_eq_false nn]
      refine iteF ⟨_, rfl, .inl ⟨v, _, _, _, _, rfl, .ty "dict", th_ty th, nd, _, rfl, iteT (err_go fun dx hdx => qe dx hdx)⟩⟩
    · refine ⟨_, rfl, rfl, _, rfl, ?_⟩
      rw [show decide (V.ref D = V.non) = false from by simp]
      have key : ∀ {Qk : VK}, Qk (.bl true) H → rIsiV K P w [.ref D, .ty "dict"] H Qk := fun {Qk} qk => by
        rcases tu.isD H hD with ty | ⟨kvs, eu⟩
        · exact .inl ⟨_, _, _, _, _, rfl, .ty "dict", ty, kit_dd, qk⟩
        · exact .inr ⟨D, kvs, _, _, _, rfl, .ty "dict", .inl (by rw [hD, eu]), kit_dd, qk⟩
      refine iteF ⟨_, rfl, key ⟨_, rfl, iteF fun F0 hF => ?_⟩⟩
      have sF := same_new (o := .dK []) hF
      have FD : F0 ≠ D := (ne_of_none hD hF).symm
      have hD1 := sF _ _ hD
      have hF1 : upd H F0 (.dK []) F0 = some (.dK []) := upd_same
      generalize upd H F0 (.dK []) = H1 at sF hD1 hF1 ⊢
      have SD : Sa ≠ D := fun z => by rw [z, hD] at hS; exact tu.noE ks (Option.some.inj hS)
      have SF : Sa ≠ F0 := ne_of_none hS hF
      refine ⟨D, _, hD1, tu.mt, fun od => ?_⟩
      have kl : ∀ b x, b ≠ D → H b = some x → upd H1 D (.frz od u) b = some x := fun b x hb e => by
        rw [upd_ne hb]
        exact sF _ _ e
      have hDl : upd H1 D (.frz od u) D = some (.frz od u) := upd_same
      have hFl : upd H1 D (.frz od u) F0 = some (.dK []) := by
        rw [upd_ne FD]
        exact hF1
      have back : ∀ {H4 : Hp}, (∀ b x, b ≠ F0 → upd H1 D (.frz od u) b = some x → H4 b = some x) → Same H (upd H4 D u) := fun {H4} kp b x e => by
        by_cases hb : b = D
        · rw [hb] at e ⊢
          rw [upd_same]
          exact hD.symm.trans e
        · rw [upd_ne hb]
          exact kp b x (ne_of_none e hF) (kl b x hb e)
      generalize upd H1 D (.frz od u) = H2 at kl hDl hFl back ⊢
      refine ⟨_, rfl, D, od, ys, rfl, tu.keys _ _ hDl, fun J Gd W hG => ?_⟩
      refine for_it W (fun i σ H4 => ∃ (w3 w4 : Option V) (md : List (Key × V)) (ms : List (Str × (Str × Int))), σ = [some (.ref D), some (.ref Sa), some (.ref F0), w3, w4] ∧ (∀ b x, b ≠ F0 → H2 b = some x → H4 b = some x) ∧ H4 F0 = some (.dK md) ∧ PySem.W.EachIs (MdR H4) md ms ∧ PySem.W.EachIs (TellR qs) (es.take i) ms)
        ⟨none, none, [], [], rfl, fun b x _ e => e, hFl, .nil, .nil⟩ (fun i σ H4 _ ⟨_, _, _, _, _, kp, _⟩ => hG H4 ((kp _ _ FD.symm hDl).trans hDl.symm)) ?_ ?_
      · rintro i y σ H4' H4 hi ⟨w3, w4, md, ms, rfl, kp, hF4, hmd, hms⟩ ⟨rfl, hy⟩
        have hiw : i < ws.length := by rw [en.lv]; exact hi
        have hie : i < es.length := by rw [en.le]; exact hi
        have hw := List.getElem?_eq_getElem hiw
        have he := List.getElem?_eq_getElem hie
        generalize ws[i] = v0 at hw
        generalize es[i] = e0 at he
        have te := en.at_ i y v0 e0 hy hw he
        have k4 : ∀ b x, b ≠ D → H b = some x → H4 b = some x := fun b x hb e => kp b x (ne_of_none e hF) (kl b x hb e)
        have B4 := tu.but hD k4
        have hD4 := kp _ _ FD.symm hDl
        have hS4 := k4 _ _ SD hS
        have ts4 : TupS H H4 := fun b xs e => k4 b _ (fun z => by rw [z, hD] at e; exact tu.noT xs (Option.some.inj e)) e
        have hks4 := eachs_imp (fun _ _ => adrV_s ts4) hks
        refine ⟨_, rfl, _, rfl, tu.get H4 od i y v0 _ hD4 hy hw ?_⟩
        refine ⟨v0, e0.2, rfl, .dat (dp_butL B4 te.val), te.ok, fun a4 H5 s5 h5 => ?_⟩
        have k5 : ∀ b x, b ≠ D → H b = some x → H5 b = some x := fun b x hb e => s5 _ _ (k4 b x hb e)
        have bad : tellE qs e0 = none → ∀ {H' : Hp} {dx : Addr}, Same H5 H' → H' dx = none → E (.ref CT) (some dx) (upd H' dx (.xd [("name", y)])) := fun e {H' dx} s' hdx => qe i y e0 ms hy he hms e H' dx (fun b x hb e => s' _ _ (k5 b x hb e)) hdx
        refine ⟨_, rfl, y, e0.1, rfl, .dat (dp_same s5 (dp_butL B4 te.key)), te.sh, fun H6 s6 => ⟨_, rfl, ?_⟩⟩
        obtain ⟨kd, vd⟩ := e0
        cases ek : isNm kd with
        | false =>
          exact iteT (iteT ⟨_, rfl, err_go fun dx hdx => bad (tell_no1 ek) s6 hdx⟩)
        | true =>
          obtain ⟨z, rfl, hz⟩ := str_of ek
          refine iteF ⟨_, rfl, rfl, _, rfl, ?_⟩
          cases er : readAdr vd with
          | none =>
            have h5 : AdV H5 a4 (readAdr vd) := h5
            rw [er] at h5
            obtain rfl : a4 = .non := h5
            exact iteT (iteT ⟨_, rfl, err_go fun dx hdx => bad (tell_no2 er) s6 hdx⟩)
          | some a =>
            have h5 : AdV H5 a4 (readAdr vd) := h5
            rw [er] at h5
            obtain ⟨p5, rfl, hp5⟩ := h5
            have s56 := s5.trans s6
            have hks6 := eachs_imp (fun _ _ => adrV_s (TupS.of s56)) hks4
            rw [show decide (V.ref p5 = V.non) = false from by simp]
            refine iteF ⟨_, rfl, _, rfl, Sa, _, rfl, DGet.t (k := keyA a) (s56 _ _ hS4) (s6 _ _ hp5), ?_⟩
            have ty := tell_yes (qs := qs) hz er
            cases ef : (adrs qs).find? (fun x => decide (adrK x = keyA a)) with
            | none =>
              have ew : wordOf qs (keyA a) = none := by unfold wordOf; rw [ef]; rfl
              rw [ew] at ty
              rw [val_none hks6 ef]
              exact ⟨_, rfl, iteT ⟨_, rfl, err_go fun dx hdx => bad ty s6 hdx⟩⟩
            | some b =>
              obtain ⟨vb, evb, _⟩ := val_word hks6 ef
              have ew : (wordOf qs (keyA a)).isSome = true := by unfold wordOf; rw [ef]; rfl
              rw [ew] at ty
              have ty : tellE qs (.str z, vd) = some (z, a) := ty
              rw [evb]
              have gg : PySem.W.EachIs (TellR qs) (es.take (i + 1)) (ms ++ [(z, a)]) := by
                rw [List.take_add_one, he]
                exact eachs_snoc (R := TellR qs) ty hms
              have nd := hnod (i + 1) _ gg
              have hF6 := s56 _ _ hF4
              have ny : y = .str z := by
                have := te.key
                cases this
                rfl
              subst ny
              have nu : (.inr z : Key) ∉ md.map (·.1) := by
                rw [md_keys hmd]
                intro c
                obtain ⟨m, hm, e⟩ := List.mem_map.mp c
                have e : m.1 = z := Sum.inr.inj e
                rw [List.map_append] at nd
                exact (List.nodup_append.mp nd).2.2 z (List.mem_map.mpr ⟨m, hm, e⟩) z (by simp) rfl
              have lm : md.length ≤ 100 := by
                have h1 := hmd.length
                have h2 := hms.length
                rw [List.length_take] at h2
                omega
              refine ⟨_, rfl, iteF ⟨_, rfl, _, rfl, _, rfl, F0, _, rfl, DPut.k (k := .inr z) hF6 (small1000 (by omega)), ?_⟩⟩
              rw [putS_new nu]
              have ts : TupS H6 (upd H6 F0 (.dK (md ++ [(.inr z, .ref p5)]))) := TupS.put hF6 (by intro xs z; cases z)
              refine ⟨_, _, md ++ [(.inr z, .ref p5)], ms ++ [(z, a)], rfl, fun b x hb e => by rw [upd_ne hb]; exact s56 _ _ (kp b x hb e), upd_same, ?_, gg⟩
              exact eachs_snoc (R := MdR _) ⟨rfl, p5, rfl, ts _ _ (s6 _ _ hp5)⟩ (eachs_imp (fun _ _ h => ⟨h.1, adT_s ts (adT_s (TupS.of s56) h.2)⟩) hmd)
      · rintro σ H4 ⟨w3, w4, md, ms, rfl, kp, hF4, hmd, hms⟩
        rw [← en.le, List.take_length] at hms
        have hD4 := kp _ _ FD.symm hDl
        have hF5 : upd H4 D u F0 = some (.dK md) := by rw [upd_ne FD]; exact hF4
        have ts5 : TupS H4 (upd H4 D u) := TupS.put hD4 (by intro xs z; cases z)
        exact ⟨hD4, _, rfl, q ms hms _ F0 md (back kp) hF hF5 (eachs_imp (fun _ _ h => ⟨h.1, adT_s ts5 h.2⟩) hmd)⟩
end
end DR

namespace DR
open PySem PySem.Spec PyProof.Rows L2
/-! ### units -/
structure HasM (P : Program) (w : World) (K : PySem.W.Frag) (mg : Str → Option Value) (base : Heap) (CX : CXT) (k : Nat) (C : Addr) (m : Str) (ps : List Str) (sp : Sp) : Prop where
  ex : ∃ (f : Addr) (fd : FuncData), Meth K C m f ∧ Binds K fd ps [] ∧ FnOk P w K mg base CX k f fd ps sp
  cl : Cls K C
theorem HasM.mono {P : Program} {w : World} {K : PySem.W.Frag} {mg : Str → Option Value} {base : Heap} {CX : CXT} {j k : Nat} {C : Addr} {m : Str} {ps : List Str} {sp : Sp} (h : HasM P w K mg base CX j C m ps sp) (l : j ≤ k) : HasM P w K mg base CX k C m ps sp := by
  obtain ⟨⟨f, fd, a, b, c⟩, d⟩ := h
  exact ⟨⟨f, fd, a, b, c.mono l⟩, d⟩
def unF (p d m l : Addr) : List (Str × V) := [("parts", .ref p), ("sums", .ref d), ("meanings", .ref m), ("lacking", .ref l)]
/-- what is wanted -/
structure WantR (qs : List Pk) (ms : List (Str × (Str × Int))) (ns : List Str) : Prop where
  srt : sortedS ns = true
  nod : ns.Nodup
  mem : ∀ z, z ∈ ns ↔ z ∈ namesQ qs ∧ z ∉ ms.map (·.1)
/-- a unit of these pieces and meanings, at x -/
def UnG (H : Hp) (C x : Addr) (qs : List Pk) (ms : List (Str × (Str × Int))) (ns : List Str) : Prop := PkOk qs ∧ (ms.map (·.1)).Nodup ∧ WantR qs ms ns ∧ ∃ dx p d m l xs ks md, H x = some (.ins C dx (unF p d m l)) ∧ H p = some (.tup xs) ∧ PySem.W.EachIs (PieceG H) xs qs ∧ H d = some (.dT ks) ∧ PySem.W.EachIs (AdrV H) ks (adrs qs) ∧ H m = some (.dK md) ∧ PySem.W.EachIs (MdR H) md ms ∧ H l = some (.tup (ns.map V.str))
theorem mdR_s {H H' : Hp} (e : TupS H H') {kv : Key × V} {m : Str × (Str × Int)} (h : MdR H kv m) : MdR H' kv m := ⟨h.1, adT_s e h.2⟩
theorem unG_s {H H' : Hp} (e : Same H H') {C x : Addr} {qs : List Pk} {ms : List (Str × (Str × Int))} {ns : List Str} (h : UnG H C x qs ms ns) : UnG H' C x qs ms ns := by
  obtain ⟨ok, nd, wr, dx, p, d, m, l, xs, ks, md, h1, h2, h3, h4, h5, h6, h7, h8⟩ := h
  exact ⟨ok, nd, wr, dx, p, d, m, l, xs, ks, md, e _ _ h1, e _ _ h2, eachs_imp (fun _ _ => pieceG_s (TupS.of e)) h3, e _ _ h4, eachs_imp (fun _ _ => adrV_s (TupS.of e)) h5, e _ _ h6, eachs_imp (fun _ _ => mdR_s (TupS.of e)) h7, e _ _ h8⟩
structure UnC (K : PySem.W.Frag) (C : Addr) : Prop where
  cl : Cls K C
  n1 : NoAttr K C "parts"
  n2 : NoAttr K C "sums"
  n3 : NoAttr K C "meanings"
  n4 : NoAttr K C "lacking"
/-- the first word with an unknown that is neither a name nor the place of a piece -/
def badU (qs : List Pk) : Option Adr := (adrs qs).find? fun a => !ofW qs a.2.2
/-- an own error, all that stood standing but x and what is told -/
def ErrU (E : XK) (H : Hp) (x : Addr) (tv : V) (CE : Addr) (fs : List (Str × V)) : Prop := ∀ H' d', (∀ b o, b ≠ x → tv ≠ .ref b → H b = some o → H' b = some o) → H' d' = none → E (.ref CE) (some d') (upd H' d' (.xd fs))
def Tld (K : PySem.W.Frag) (P : Program) (w : World) (qs : List Pk) (x : Addr) (H : Hp) (tv : V) (bad : V → Prop) (good : List (Str × (Str × Int)) → Prop) : Prop :=
  (tv = .non ∧ good []) ∨ (∃ d, Th K H tv d ∧ tv ≠ .non ∧ PySem.W.kitOne K (.type (tyN d)) (.type "dict") = some false ∧ bad .non) ∨
  ∃ (D : Addr) (u : HO) (ys ws : List V) (es : List (PyData × PyData)), tv = .ref D ∧ D ≠ x ∧ H D = some u ∧ TU P w K D u ys ws ∧ Ents K H ys ws es ∧ ys.length ≤ 100 ∧ (∀ i ms, PySem.W.EachIs (TellR qs) (es.take i) ms → (ms.map (·.1)).Nodup) ∧
    (∀ (i : Nat) (y : V) (e : PyData × PyData) ms, ys[i]? = some y → es[i]? = some e → PySem.W.EachIs (TellR qs) (es.take i) ms → tellE qs e = none → bad y) ∧ ∀ ms, PySem.W.EachIs (TellR qs) es ms → good ms
/-- what is told stands in a dict of its own -/
def NewM (H H' : Hp) (C x : Addr) : Prop := ∀ dx p d m l, H' x = some (.ins C dx (unF p d m l)) → H m = none
def spUnit (K : PySem.W.Frag) (P : Program) (w : World) (C CB CT CW : Addr) : Sp := fun vs H Q E => ∃ (x dx : Addr) (v tv : V) (d : PyData), vs = [.ref x, v, tv] ∧ H x = some (.ins C dx []) ∧ ThE K H v d ∧
  ((items d = none ∧ ErrU E H x tv CB [("index", .int 0)]) ∨ ∃ ds, items d = some ds ∧ ds.length ≤ 10 ∧ (∀ y ∈ ds, okPc y ∧ ∀ q, readPc y = some q → q.2.2.length ≤ 10) ∧ (∀ i, BadP ds i → ErrU E H x tv CB [("index", .int (i : Nat))]) ∧
    ∀ qs, PySem.W.EachIs GoodP ds qs → (qs.map (·.1)).Nodup → (namesQ qs).length < 64 ∧ (∀ a ∈ adrs qs, a.2.2.2.length ≤ 1000) ∧
      Tld K P w qs x H tv (fun y => ErrU E H x tv CT [("name", y)]) (fun ms => (∀ a, badU qs = some a → ErrU E H x tv CW [("k", .int (a.2.1 : Nat)), ("p", .str a.1)]) ∧
        (badU qs = none → ∀ H' ns, (∀ b o, b ≠ x → H b = some o → H' b = some o) → UnG H' C x qs ms ns → NewM H H' C x → Q .non H')))
abbrev sUnit : Stmt := inClass (topS 33) 0
abbrev NUi : List Str := ["self", "pieces", "told", "kinds", "p", "k"]
theorem scUnit : FnScope NUi ["self", "pieces", "told"] (defScope sUnit) := ⟨rfl, rfl, rfl, by decide +kernel, rfl, by decide +kernel, by decide +kernel⟩
theorem ins_butL {H H' : Hp} {x C dx : Addr} {fs : List (Str × V)} (hx : H x = some (.ins C dx fs)) (k : ∀ b o, b ≠ x → H b = some o → H' b = some o) : ButL x H H' := by
  refine ⟨k, fun xs z => ?_, fun xs z => ?_⟩
  · rcases z with z | ⟨o, z⟩ <;> · rw [hx] at z; cases z
  · rcases z with z | ⟨o, z⟩ <;> · rw [hx] at z; cases z
theorem th_butL {K : PySem.W.Frag} {H H' : Hp} {x C dx : Addr} {fs : List (Str × V)} (hx : H x = some (.ins C dx fs)) (k : ∀ b o, b ≠ x → H b = some o → H' b = some o) {v : V} {d : PyData} : Th K H v d → Th K H' v d
  | .dat h => .dat (dp_butL (ins_butL hx k) h)
  | .dct h => .dct (k _ _ (fun z => by rw [z, hx] at h; cases h) h)
theorem ents_butL {K : PySem.W.Frag} {H H' : Hp} {x : Addr} (e : ButL x H H') {ys ws : List V} {es : List (PyData × PyData)} (h : Ents K H ys ws es) : Ents K H' ys ws es :=
  ⟨h.lv, h.le, fun i y v e' a b c => (let t := h.at_ i y v e' a b c; ⟨dp_butL e t.key, t.sh, dp_butL e t.val, t.ok⟩)⟩
end DR

namespace DR
open PySem PySem.Spec PyProof.Rows L2
theorem readPc_nm {d : PyData} {q : Pk} (e : readPc d = some q) : ∀ w ∈ q.2.2, ∀ u ∈ w.2.map (·.1), NmU u := by
  have all : ∀ {wl : List PyData} {l : List (Int × Mul)}, readAllS wl = some l → ∀ w ∈ l, ∀ u ∈ w.2.map (·.1), NmU u := fun {wl} => by
    induction wl with
    | nil =>
      intro l e w hw
      cases e
      cases hw
    | cons x wl ih =>
      intro l e w hw
      have e : (readSum x).bind (fun s => (readAllS wl).map fun l => s :: l) = some l := e
      cases e1 : readSum x with
      | none => rw [e1] at e; cases e
      | some s =>
        rw [e1] at e
        have e : (readAllS wl).map (fun l => s :: l) = some l := e
        cases e2 : readAllS wl with
        | none => rw [e2] at e; cases e
        | some l2 =>
          rw [e2] at e
          have e : s :: l2 = l := Option.some.inj e
          subst e
          rcases List.mem_cons.mp hw with rfl | hw
          · obtain ⟨n, ps⟩ := w
            exact readSum_nm e1
          · exact ih e2 w hw
  unfold readPc at e
  split at e
  · rename_i p k ws h
    split at e
    · cases e1 : items ws with
      | none => rw [e1] at e; cases e
      | some wl =>
        rw [e1] at e
        have e : (readAllS wl).map (fun l => (p, k, l)) = some q := e
        cases e2 : readAllS wl with
        | none => rw [e2] at e; cases e
        | some l =>
          rw [e2] at e
          have e : (p, k, l) = q := Option.some.inj e
          subst e
          exact all e2
    · cases e
  · cases e
theorem good_nm {ds : List PyData} {qs : List Pk} (h : PySem.W.EachIs GoodP ds qs) : ∀ q ∈ qs, ∀ w ∈ q.2.2, ∀ u ∈ w.2.map (·.1), NmU u := by
  induction h with
  | nil => exact fun _ h => by cases h
  | cons h _ ih =>
    intro q hq
    rcases List.mem_cons.mp hq with rfl | hq
    · exact readPc_nm h
    · exact ih q hq
theorem eachs_inv {α β : Type} {R : α → β → Prop} : ∀ {xs : List α} {ys : List β}, PySem.W.EachIs R xs ys → ∀ {i : Nat} {y : β}, ys[i]? = some y → ∃ x, xs[i]? = some x ∧ R x y
  | _, _, .cons h t, 0, y, e => by
    have e : _ = y := Option.some.inj e
    subst e
    exact ⟨_, rfl, h⟩
  | _, _, .cons h t, i + 1, y, e => eachs_inv t (i := i) e
theorem ne_of_none' {H : Hp} {x p : Addr} {o : HO} (h : H x = some o) (hp : H p = none) : p ≠ x := fun z => by
  rw [z, h] at hp
  cases hp
theorem find_at {α : Type} {l : List α} {p : α → Bool} {i : Nat} {a : α} (h : (l.take i).find? p = none) (ha : l[i]? = some a) (hp : p a = true) : l.find? p = some a := by
  have e : l = l.take i ++ (a :: l.drop (i + 1)) := by
    have hi := (List.getElem?_eq_some_iff.mp ha).1
    have : l[i] = a := (List.getElem?_eq_some_iff.mp ha).2
    rw [← this, ← List.drop_eq_getElem_cons hi, List.take_append_drop]
  rw [e, List.find?_append, h, Option.none_or, List.find?_cons_of_pos hp]
theorem find_step {α : Type} {l : List α} {p : α → Bool} {i : Nat} {a : α} (h : (l.take i).find? p = none) (ha : l[i]? = some a) (hp : p a = false) : (l.take (i + 1)).find? p = none := by
  rw [List.take_add_one, ha, List.find?_append, h]
  simp [hp]
theorem adrs_nodup {qs : List Pk} (nod : (qs.map (·.1)).Nodup) : (adrs qs).Pairwise fun a b => adrK a ≠ adrK b := by
  unfold adrs
  rw [List.pairwise_flatMap]
  refine ⟨fun q _ => ?_, ?_⟩
  · rw [List.pairwise_iff_getElem]
    intro i j hi hj ij e
    have hi' := hi
    have hj' := hj
    rw [adrsP_len] at hi' hj'
    have ei := adrsP_at (q := q) (List.getElem?_eq_getElem hi')
    have ej := adrsP_at (q := q) (List.getElem?_eq_getElem hj')
    rw [List.getElem?_eq_getElem hi] at ei
    rw [List.getElem?_eq_getElem hj] at ej
    rw [Option.some.inj ei, Option.some.inj ej] at e
    have e0 := congrArg (fun z : List Key => z[1]?) e
    have e0 : ((i : Nat) : Int) = (j : Int) := by simpa [adrK] using e0
    omega
  · have := List.pairwise_map.mp nod
    refine this.imp fun {a b} ne x hx y hy e => ?_
    have e0 := congrArg (fun z : List Key => z[0]?) e
    have e0 : x.1 = y.1 := by simpa [adrK] using e0
    rw [adrsP_nm hx, adrsP_nm hy] at e0
    exact ne e0
theorem val_at : ∀ {ks : List (List Key × V)}, (ks.map (·.1)).Nodup → ∀ {i : Nat} {k : List Key} {v : V}, ks[i]? = some (k, v) → valV ks k = some v
  | e :: ks, nod, 0, k, v, h => by
    have h : e = (k, v) := Option.some.inj h
    subst h
    unfold valV
    rw [List.find?_cons_of_pos (by simp)]
    rfl
  | e :: ks, nod, i + 1, k, v, h => by
    rw [List.map_cons, List.nodup_cons] at nod
    have h : ks[i]? = some (k, v) := h
    have ne : e.1 ≠ k := fun z => nod.1 (z ▸ List.mem_map.mpr ⟨_, List.mem_of_getElem? h, rfl⟩)
    have := val_at nod.2 h
    unfold valV at this ⊢
    rw [List.find?_cons_of_neg (by simp [ne])]
    exact this
theorem ks_nod {H : Hp} {ks : List (List Key × V)} {qs : List Pk} (ok : (qs.map (·.1)).Nodup) (h : PySem.W.EachIs (AdrV H) ks (adrs qs)) : (ks.map (·.1)).Nodup := by
  rw [adrV_keys h]
  exact List.pairwise_map.mpr (adrs_nodup ok)
theorem valK_none {md : List (Key × V)} {z : Str} {ms : List (Str × (Str × Int))} {H : Hp} (h : PySem.W.EachIs (MdR H) md ms) : valV md (.inr z) = none ↔ z ∉ ms.map (·.1) := by
  have e := md_keys h
  have m : z ∈ ms.map (·.1) ↔ (.inr z : Key) ∈ md.map (·.1) := by
    rw [e, List.mem_map, List.mem_map]
    constructor
    · rintro ⟨m, hm, rfl⟩
      exact ⟨m, hm, rfl⟩
    · rintro ⟨m, hm, e⟩
      exact ⟨m, hm, Sum.inr.inj e⟩
  rw [m]
  unfold valV
  rw [Option.map_eq_none_iff, List.find?_eq_none]
  constructor
  · intro c hm
    obtain ⟨kv, hkv, e⟩ := List.mem_map.mp hm
    exact c kv hkv (by simp [e])
  · intro c kv hkv e
    exact c (List.mem_map.mpr ⟨kv, hkv, of_decide_eq_true e⟩)
theorem tld_use {K : PySem.W.Frag} {P : Program} {w : World} {qs : List Pk} {x C dx CT : Addr} {fs : List (Str × V)} {H H5 : Hp} {tv : V} {good : List (Str × (Str × Int)) → Prop} {Qk : VK} {E : XK} (h : Tld K P w qs x H tv (fun y => ErrU E H x tv CT [("name", y)]) good) (hx : H x = some (.ins C dx fs)) (k5 : ∀ b o, b ≠ x → H b = some o → H5 b = some o)
    (after : ∀ ms, good ms → (ms.map (·.1)).Nodup → ∀ H6 m md, Same H5 H6 → H5 m = none → H6 m = some (.dK md) → PySem.W.EachIs (MdR H6) md ms → Qk (.ref m) H6) : ToldD K P w CT qs tv H5 Qk E := by
  rcases h with ⟨rfl, g⟩ | ⟨d, th, nn, nd, bad⟩ | ⟨D, u, ys, ws, es, rfl, Dx, hD, tu, en, few, hnod, bad, g⟩
  · exact .inl ⟨rfl, fun p hp => after [] g List.nodup_nil _ p [] (same_new hp) hp upd_same .nil⟩
  · exact .inr (.inl ⟨d, th_butL hx k5 th, nn, nd, fun d' hd' => bad H5 d' (fun b o hb _ e => k5 b o hb e) hd'⟩)
  · refine .inr (.inr ⟨D, u, ys, ws, es, rfl, k5 _ _ Dx hD, tu, ents_butL (ins_butL hx k5) en, few, hnod, fun i y e ms hy he hms no H' d' kp hd' => bad i y e ms hy he hms no H' d' (fun b o hb hn e => kp b o (fun z => hn (by rw [z])) (k5 b o hb e)) hd', fun ms hms H6 m md s6 m0 hm hmd => after ms (g ms hms) ?_ H6 m md s6 m0 hm hmd⟩)
    have := hnod es.length ms
    rw [List.take_length] at this
    exact this hms
section
variable {P : Program} {w : World} {K : PySem.W.Frag} {mg : Str → Option Value} {base : Heap}
theorem ok_unit {f C CB CT CW : Addr} {fd : FuncData} (F : FunD K "__init__" "Unit.__init__" (defArgs sUnit) (defBody sUnit) (defScope sUnit) [.non] [] f fd) (T : Bi mg) (B : UnC K C) (S : Err2 P w K mg base "BadWord" CW "p" "k") (G1 : Has P w K mg base (L2.CX P w) 6 "read_pieces" ["pieces"] (spReadPcs K CB)) (G2 : Has P w K mg base CX0 6 "words_of" ["pieces"] (spWords K)) (G3 : Has P w K mg base (L2.CX P w) 6 "read_told" ["told", "sums"] (spReadTold K P w CT)) (G4 : Has P w K mg base CX0 6 "kinds_of" ["pieces"] (spKinds K)) (G5 : Has P w K mg base CX0 6 "are_of" ["one", "pieces"] (spAreOf K)) (G6 : Has P w K mg base CX0 6 "wanted_in" ["sums", "told"] (spWanted K)) :
    FnOk P w K mg base (L2.CX P w) 7 f fd ["self", "pieces", "told"] (spUnit K P w C CB CT CW) := by
  refine F.ok (CX := L2.CX P w) scUnit (fun vs H Q E h => ?_) (fun cdv A outer s H vs Q E hr h => ?_)
  · obtain ⟨x, dx, v, tv, d, rfl, _⟩ := h
    rfl
  · obtain ⟨x, dx, v, tv, d, rfl, hx, th, want⟩ := h
    have hu := hu_of hr
    refine ⟨_, (pss_cons (ps_fld (pv 0) (pe_callTy call_tuple_of (by rfl) T.tuple (by decide +kernel) (pa_cons (pe_callH G1 hr (by rfl) (passes_call (W := fun cls d _ H => E cls d H) (takes_of rfl rfl rfl rfl) (fun _ _ _ _ h => h)) (pa_cons (pv 1) pa_nil)) pa_nil)) rfl)
      (pss_cons (ps_fld (pv 0) (pe_callH G2 hr (by rfl) pass0 (pa_cons (pe_fld (pv 0) rfl) pa_nil)) rfl)
      (pss_cons (ps_fld (pv 0) (pe_callH G3 hr (by rfl) (passes_call (W := fun cls d _ H => E cls d H) (takes_of rfl rfl rfl rfl) (fun _ _ _ _ h => h)) (pa_cons (pv 2) (pa_cons (pe_fld (pv 0) rfl) pa_nil))) rfl)
      (pss_cons (ps_set (i := 3) scUnit.nd rfl (.inl rfl) (pe_callH G4 hr (by rfl) pass0 (pa_cons (pe_fld (pv 0) rfl) pa_nil)))
      (pss_cons (ps_lock (ps_for (passes_of rfl) rfl (pi_keys (pe_fld (pv 0) rfl)) (pg_tup rfl (pgs_cons (pg_name (i := 4) scUnit.nd rfl (.inl rfl)) (pgs_cons (pg_name (i := 5) scUnit.nd rfl (.inl rfl)) pgs_nil))) (pss_one (ps_if (pt_not (pt_val (pe_callH G5 hr (by rfl) pass0 (pa_cons (pe_dget hu (pe_fld (pv 0) rfl) (pe_tup (pa_cons (pv 4) (pa_cons (pv 5) pa_nil))) (fun _ _ => rfl)) (pa_cons (pv 3) pa_nil))))) (pss_one (ps_err2 rfl (takes_of rfl rfl rfl rfl) S hr (by decide) (pv 4) (pv 5))) pss_nil))))
      (pss_one (ps_fld (pv 0) (pe_callTy call_tuple_of (by rfl) T.tuple (by decide +kernel) (pa_cons (pe_callH G6 hr (by rfl) pass0 (pa_cons (pe_fld (pv 0) rfl) (pa_cons (pe_fld (pv 0) rfl) pa_nil))) pa_nil)) rfl))))))), ?_⟩
    have px : ∀ {H' : Hp}, Same H H' → ∀ b o, b ≠ x → tv ≠ .ref b → H b = some o → H' b = some o := fun s' b o _ _ e => s' b o e
    refine ⟨_, rfl, v, d, rfl, th, ?_⟩
    rcases want with ⟨ei, qe⟩ | ⟨ds, ei, few, okd, qe, want⟩
    · exact .inl ⟨ei, fun H' dx' s' hdx => qe H' dx' (px s') hdx⟩
    refine .inr ⟨ds, ei, by omega, fun y hy => (okd y hy).1, fun i hi H' dx' s' hdx => qe i hi H' dx' (px s') hdx, fun qs hgood hnod D ys H1 s1 hD0 hD hys => ?_⟩
    obtain ⟨fewN, fewW, want⟩ := want qs hgood hnod
    have ok : PkOk qs := by
      refine ⟨hnod, by have := hgood.length; omega, fun q hq => ?_, good_nm hgood⟩
      obtain ⟨i, hi⟩ := List.mem_iff_getElem?.mp hq
      obtain ⟨y, hy, hg⟩ := eachs_inv hgood hi
      exact (okd y (List.mem_of_getElem? hy)).2 q hg
    refine ⟨D, ys, rfl, .inl ⟨SqL.of hD, fun p hp => ?_⟩⟩
    have pnx : p ≠ x := ne_of_none' (s1 _ _ hx) hp
    have s12 := s1.trans (same_new (o := .tup ys) hp)
    refine ⟨_, rfl, x, C, dx, [], rfl, s12 _ _ hx, B.cl, B.n1, (by decide), ?_⟩
    generalize hH3 : upd (upd H1 p (.tup ys)) x (.ins C dx (putF "parts" (.ref p) [])) = H3
    have k3 : ∀ b o, b ≠ x → H b = some o → H3 b = some o := fun b o hb e => by
      rw [← hH3, upd_ne hb]
      exact s12 _ _ e
    have x3 : H3 x = some (.ins C dx [("parts", .ref p)]) := by rw [← hH3, upd_same]; rfl
    have p3 : H3 p = some (.tup ys) := by rw [← hH3, upd_ne pnx]; exact upd_same
    have t13 : TupS H1 H3 := by
      rw [← hH3]
      exact (TupS.of (same_new hp)).trans (TupS.put (s12 _ _ hx) (by intro xs z; cases z))
    have r3 := eachs_imp (fun _ _ => pieceG_s t13) hys
    refine ⟨_, rfl, x, C, dx, _, _, rfl, x3, B.cl, B.n1, rfl, p, ys, _, rfl, p3, r3, ok, fun W ks H4 s4 hW0 hW hks => ?_⟩
    have x4 := s4 _ _ x3
    have hWx : W ≠ x := ne_of_none' x3 hW0
    refine ⟨_, rfl, x, C, dx, _, rfl, x4, B.cl, B.n2, (by show 1 < 1000; decide), ?_⟩
    generalize hH5 : upd H4 x (.ins C dx (putF "sums" (.ref W) [("parts", .ref p)])) = H5
    have k5 : ∀ b o, b ≠ x → H b = some o → H5 b = some o := fun b o hb e => by
      rw [← hH5, upd_ne hb]
      exact s4 _ _ (k3 b o hb e)
    have x5 : H5 x = some (.ins C dx [("parts", .ref p), ("sums", .ref W)]) := by rw [← hH5, upd_same]; rfl
    have p5 : H5 p = some (.tup ys) := by rw [← hH5, upd_ne pnx]; exact s4 _ _ p3
    have W5 : H5 W = some (.dT ks) := by rw [← hH5, upd_ne hWx]; exact hW
    have hWH : H W = none := by
      cases e : H W with
      | none => rfl
      | some o => rw [k3 _ _ hWx e] at hW0; cases hW0
    have t45 : TupS H4 H5 := by
      rw [← hH5]
      exact TupS.put x4 (by intro xs z; cases z)
    have r5 := eachs_imp (fun _ _ => pieceG_s ((TupS.of s4).trans t45)) r3
    have hks5 := eachs_imp (fun _ _ => adrV_s t45) hks
    refine ⟨_, rfl, _, rfl, x, C, dx, _, _, rfl, x5, B.cl, B.n2, rfl, tv, W, ks, qs, rfl, W5, hks5, tld_use want hx k5 fun ms gm nd H6 m md s6 m0 hm hmd => ?_⟩
    obtain ⟨qw, qq⟩ := gm
    have x6 := s6 _ _ x5
    have hmx : m ≠ x := ne_of_none' x5 m0
    refine ⟨_, rfl, x, C, dx, _, rfl, x6, B.cl, B.n3, (by show 2 < 1000; decide), ?_⟩
    generalize hH7 : upd H6 x (.ins C dx (putF "meanings" (.ref m) [("parts", .ref p), ("sums", .ref W)])) = H7
    have k7 : ∀ b o, b ≠ x → H b = some o → H7 b = some o := fun b o hb e => by
      rw [← hH7, upd_ne hb]
      exact s6 _ _ (k5 b o hb e)
    have x7 : H7 x = some (.ins C dx [("parts", .ref p), ("sums", .ref W), ("meanings", .ref m)]) := by rw [← hH7, upd_same]; rfl
    have p7 : H7 p = some (.tup ys) := by rw [← hH7, upd_ne pnx]; exact s6 _ _ p5
    have W7 : H7 W = some (.dT ks) := by rw [← hH7, upd_ne hWx]; exact s6 _ _ W5
    have m7 : H7 m = some (.dK md) := by rw [← hH7, upd_ne hmx]; exact hm
    have t67 : TupS H6 H7 := by
      rw [← hH7]
      exact TupS.put x6 (by intro xs z; cases z)
    have t57 : TupS H5 H7 := (TupS.of s6).trans t67
    have r7 := eachs_imp (fun _ _ => pieceG_s t57) r5
    have hks7 := eachs_imp (fun _ _ => adrV_s t57) hks5
    have hmd7 := eachs_imp (fun _ _ => mdR_s t67) hmd
    refine ⟨_, rfl, x, C, dx, _, _, rfl, x7, B.cl, B.n1, rfl, p, ys, _, rfl, p7, r7, ok, fun E8 H8 s8 hE0 hE => ?_⟩
    have x8 := s8 _ _ x7
    have W8 := s8 _ _ W7
    have WE : W ≠ E8 := ne_of_none W7 hE0
    refine ⟨W, _, W8, trivial, fun od => ?_⟩
    have ts0 : TupS H8 (upd H8 W (.frz od (.dT ks))) := TupS.put W8 (by intro xs z; cases z)
    have hW9 : upd H8 W (.frz od (.dT ks)) W = some (.frz od (.dT ks)) := upd_same
    have kp9 : ∀ b o, b ≠ W → H8 b = some o → upd H8 W (.frz od (.dT ks)) b = some o := fun b o hb e => by rw [upd_ne hb]; exact e
    have back : ∀ {H' : Hp}, Same (upd H8 W (.frz od (.dT ks))) H' → Same H8 (upd H' W (.dT ks)) := fun {H'} s' b o e => by
      by_cases c : b = W
      · rw [c, upd_same, ← W8, ← c, e]
      · rw [upd_ne c]
        exact s' _ _ (by rw [upd_ne c]; exact e)
    generalize upd H8 W (.frz od (.dT ks)) = H9 at ts0 hW9 kp9 back ⊢
    have x9 := kp9 _ _ hWx.symm x8
    have E9 := kp9 _ _ WE.symm hE
    have t79 : TupS H7 H9 := fun b xs e => ts0 _ _ (s8 _ _ e)
    have hks9 := eachs_imp (fun _ _ => adrV_s t79) hks7
    have knod := ks_nod ok.nod hks9
    have lk : ks.length = (adrs qs).length := hks9.length
    refine ⟨_, rfl, x, C, dx, _, _, rfl, x9, B.cl, B.n2, rfl, W, od, rfl, .inr ⟨ks, hW9, ?_⟩⟩
    refine for_it walk_keysT (fun i σ H' => ∃ (w4 w5 : Option V), σ = [some (.ref x), some v, some tv, some (.ref E8), w4, w5] ∧ Same H9 H' ∧ ((adrs qs).take i).find? (fun a => !ofW qs a.2.2) = none)
      ⟨none, none, rfl, fun _ _ e => e, rfl⟩ (fun i σ H' _ ⟨_, _, _, s', _⟩ => s' _ _ hW9) ?_ ?_
    · rintro i y σ Ha' Ha hi ⟨w4, w5, rfl, sa, nb⟩ ⟨rfl, k, v1, a, hk, rfl, ha⟩
      obtain ⟨⟨z, n, wd⟩, had, ek, hsum⟩ := eachs_get hks9 hk
      have ek : k = [.inr z, .inl ((n : Nat) : Int)] := ek
      subst ek
      have hsum : SumP H9 v1 wd := hsum
      refine ⟨a, _, rfl, SqT.of ha, rfl, _, _, rfl, _, _, rfl, rfl, ?_⟩
      refine ⟨_, rfl, x, C, dx, _, _, rfl, sa _ _ x9, B.cl, B.n2, rfl, _, rfl, _, rfl, (by show 2 ≤ sizeLine; decide), fun p6 n6 => ?_⟩
      have sb := same_new (o := .tup [kV (.inr z), kV (.inl ((n : Nat) : Int))]) n6
      have hp6 : upd Ha p6 (.tup [kV (.inr z), kV (.inl ((n : Nat) : Int))]) p6 = some (.tup [kV (.inr z), kV (.inl ((n : Nat) : Int))]) := upd_same
      generalize upd Ha p6 (.tup [kV (.inr z), kV (.inl ((n : Nat) : Int))]) = Hb at sb hp6 ⊢
      have sab := sa.trans sb
      have hv := val_at knod hk
      have anm : ∀ u ∈ wd.2.map (·.1), NmU u := by
        obtain ⟨q1, hq1, hm1⟩ := List.mem_flatMap.mp (List.mem_of_getElem? had)
        unfold adrsP at hm1
        obtain ⟨wk, hwk, e⟩ := List.mem_map.mp hm1
        have hw : wk.1 ∈ q1.2.2 := (List.mem_zipIdx hwk).2.2 ▸ List.getElem_mem _
        have e : wk.1 = wd := congrArg (fun z : Adr => z.2.2) e
        exact ok.nm q1 hq1 wd (e ▸ hw)
      refine ⟨W, _, rfl, .inr ⟨ks, [.inr z, .inl ((n : Nat) : Int)], p6, .inr ⟨od, sab _ _ hW9⟩, rfl, hp6, hv.symm⟩, _, rfl, v1, E8, wd, qs, rfl, sumT_s (TupS.of sab) hsum, anm, fewW _ (List.mem_of_getElem? had), sab _ _ E9, fun Hc sc => ⟨_, rfl, ?_⟩⟩
      cases eo : ofW qs wd with
      | true =>
        refine iteF ⟨_, _, rfl, sab.trans sc, find_step nb had ?_⟩
        show (!ofW qs wd) = false
        rw [eo]
        rfl
      | false =>
        refine iteT ⟨_, rfl, _, rfl, err_go2 fun tp dx' htp hdx => qw (z, n, wd) (find_at nb had ?_) _ dx' (fun b o hb _ e => (same_new htp) _ _ (sc _ _ (sab _ _ (kp9 b o ?_ (s8 _ _ (k7 b o hb e)))))) hdx⟩
        · show (!ofW qs wd) = true
          rw [eo]
          rfl
        · exact fun c => by rw [c, hWH] at e; cases e
    · rintro σ Ha ⟨w4, w5, rfl, sa, nb⟩
      rw [lk, List.take_length] at nb
      refine ⟨sa _ _ hW9, ?_⟩
      have sz := back sa
      generalize upd Ha W (.dT ks) = Hz at sz ⊢
      have s7z := s8.trans sz
      have xz := s7z _ _ x7
      refine ⟨_, rfl, x, C, dx, _, _, rfl, xz, B.cl, B.n2, rfl, _, rfl, x, C, dx, _, _, rfl, xz, B.cl, B.n3, rfl, W, m, ks, md, qs, rfl, s7z _ _ W7, eachs_imp (fun _ _ => adrV_s (TupS.of s7z)) hks7, ok, s7z _ _ m7, fewN, fun L ns Hl sl L0 hL srt nodL mem => ?_⟩
      refine ⟨L, _, rfl, .inl ⟨SqL.of hL, fun l hl => ?_⟩⟩
      have s7l := s7z.trans (sl.trans (same_new (o := .tup (ns.map V.str)) hl))
      have hlt : upd Hl l (.tup (ns.map V.str)) l = some (.tup (ns.map V.str)) := upd_same
      generalize upd Hl l (.tup (ns.map V.str)) = Hm at s7l hlt ⊢
      have xm := s7l _ _ x7
      refine ⟨_, rfl, x, C, dx, _, rfl, xm, B.cl, B.n4, (by show 3 < 1000; decide), ?_⟩
      have lx : l ≠ x := fun z => by rw [z, xm] at hlt; cases hlt
      have ko : ∀ b o, b ≠ x → Hm b = some o → upd Hm x (.ins C dx (putF "lacking" (.ref l) [("parts", .ref p), ("sums", .ref W), ("meanings", .ref m)])) b = some o := fun b o hb e => by rw [upd_ne hb]; exact e
      have tm : TupS Hm (upd Hm x (.ins C dx (putF "lacking" (.ref l) [("parts", .ref p), ("sums", .ref W), ("meanings", .ref m)]))) := TupS.put xm (by intro xs z; cases z)
      have t7m : TupS H7 (upd Hm x (.ins C dx (putF "lacking" (.ref l) [("parts", .ref p), ("sums", .ref W), ("meanings", .ref m)]))) := (TupS.of s7l).trans tm
      refine qq nb _ ns (fun b o hb e => ko b o hb (s7l _ _ (k7 b o hb e))) ⟨ok, nd, ⟨srt, nodL, fun z => ?_⟩, dx, p, W, m, l, ys, ks, md, upd_same, ko _ _ pnx (s7l _ _ p7), eachs_imp (fun _ _ => pieceG_s t7m) r7, ko _ _ hWx (s7l _ _ W7), eachs_imp (fun _ _ => adrV_s t7m) hks7, ko _ _ hmx (s7l _ _ m7), eachs_imp (fun _ _ => mdR_s t7m) hmd7, ko _ _ lx hlt⟩ (fun dx' p' d' m' l' e => ?_)
      · rw [mem z, valK_none hmd7]
      · rw [upd_same] at e
        have e2 := Option.some.inj e
        have e3 : ([("parts", .ref p), ("sums", .ref W), ("meanings", .ref m), ("lacking", .ref l)] : List (Str × V)) = unF p' d' m' l' := by
          injection e2 with _ _ e4
        injection e3 with _ e3
        injection e3 with _ e3
        injection e3 with e5 _
        injection e5 with _ e6
        injection e6 with e7
        rw [← e7]
        cases z : H m with
        | none => rfl
        | some o =>
          have := k5 m o hmx z
          rw [m0] at this
          cases this
end
end DR

namespace DR
open PySem PySem.Spec PyProof.Rows L2
/-! ### == and != of dicts whose worths are data -/
structure DkE (K : PySem.W.Frag) (H : Hp) (kv : Key × V) (e : Key × PyData) : Prop where
  key : kv.1 = e.1
  dat : Dp K H kv.2 e.2
  pl : e.2.plain = true
  dp : e.2.depth ≤ 50
def valD (fs : List (Key × PyData)) (k : Key) : Option PyData := (fs.find? fun e => decide (e.1 = k)).map (·.2)
def eqE (es fs : List (Key × PyData)) : Bool := es.all fun e => match valD fs e.1 with
  | none => false
  | some d => PyData.eqv e.2 d
theorem dk_val {K : PySem.W.Frag} {H : Hp} {ls : List (Key × V)} {fs : List (Key × PyData)} (h : PySem.W.EachIs (DkE K H) ls fs) (k : Key) : (valD fs k = none ∧ valV ls k = none) ∨ ∃ d y, valD fs k = some d ∧ valV ls k = some y ∧ Dp K H y d ∧ d.plain = true ∧ d.depth ≤ 50 := by
  unfold valD valV
  induction h with
  | nil => exact .inl ⟨rfl, rfl⟩
  | @cons p e ls fs h t ih =>
    by_cases c : e.1 = k
    · rw [List.find?_cons_of_pos (by simp [c]), List.find?_cons_of_pos (by simp [h.key, c])]
      exact .inr ⟨_, _, rfl, rfl, h.dat, h.pl, h.dp⟩
    · rw [List.find?_cons_of_neg (by simp [c]), List.find?_cons_of_neg (by simp [h.key, c])]
      exact ih
section
variable {X : Cx} {pins : List (Addr × Obj)} {σ : L2.St} {H : Hp} {s : Shared}
theorem hitsDD (I : Inv X pins σ H s) {A : Around} (hu : A.units + 50 < cLine) {ls : List (Key × V)} {vb : List (Key × Value)} {fs : List (Key × PyData)} (rb : L2.KV ls vb) (hf : PySem.W.EachIs (DkE X.K H) ls fs) {ks : List (Key × V)} {va : List (Key × Value)} (ra : L2.KV ks va) : ∀ {es : List (Key × PyData)}, PySem.W.EachIs (DkE X.K H) ks es → PySem.W.KeqHits A s vb va (eqE es fs) := by
  unfold L2.KV at ra
  induction ra with
  | nil =>
    intro es he
    cases he
    exact .nil
  | @cons p q ps qs h t ih =>
    intro es he
    cases he with
    | @cons _ e _ es he ht =>
      obtain ⟨h1, h2⟩ := h
      obtain ⟨k, v⟩ := q
      have h1 : p.1 = k := h1
      have ek : e.1 = k := he.key.symm.trans h1
      have step : eqE (e :: es) fs = ((match valD fs e.1 with
        | none => false
        | some d => PyData.eqv e.2 d) && eqE es fs) := rfl
      rw [step]
      rcases dk_val hf e.1 with ⟨n1, n2⟩ | ⟨d, y, n1, n2, hd, pl, dp⟩
      · rw [n1]
        refine .miss ?_
        have rr := rb.val e.1
        rw [n2, ek] at rr
        cases hv : valueAt vb k with
        | none => rfl
        | some z => rw [hv] at rr; exact rr.elim
      · rw [n1]
        have rr := rb.val e.1
        rw [n2, ek] at rr
        obtain ⟨u, hu2, ru⟩ := L2.RelO.some_of rr
        obtain ⟨as, r1⟩ := Dp.reads I e.2 p.2 v he.dat h2
        obtain ⟨bs, r2⟩ := Dp.reads I d y u hd ru
        exact .hit hu2 (SeqAt.eqAt_plain e.2 d A s v u as bs r1 r2 he.pl pl (by have := he.dp; have := Nat.min_le_left e.2.depth d.depth; omega)) (ih ht)
end
def rEqDD (K : PySem.W.Frag) : R2 := fun x y H Q => ∃ a b ks ls es fs, x = .ref a ∧ y = .ref b ∧ H a = some (.dK ks) ∧ H b = some (.dK ls) ∧ PySem.W.EachIs (DkE K H) ks es ∧ PySem.W.EachIs (DkE K H) ls fs ∧ Q (.bl (es.length == fs.length && eqE es fs)) H
def rNeDD (K : PySem.W.Frag) : R2 := fun x y H Q => ∃ a b ks ls es fs, x = .ref a ∧ y = .ref b ∧ H a = some (.dK ks) ∧ H b = some (.dK ls) ∧ PySem.W.EachIs (DkE K H) ks es ∧ PySem.W.EachIs (DkE K H) ls fs ∧ Q (.bl (!(es.length == fs.length && eqE es fs))) H
theorem op_eqDD {X : Cx} {k : Nat} (hr : Room k X.A) : OpR X (compareOp .Eq) (rEqDD X.K) := by
  intro pins s σ H x y v u Q I rx ry h
  obtain ⟨a, b, ks, ls, es, fs, rfl, rfl, ea, eb, he, hf, q⟩ := h
  obtain rfl : v = Value.ref a := rx
  obtain rfl : u = Value.ref b := ry
  obtain ⟨_, ya, va, ra, da⟩ := (show ObjOk X.prog X.w H s.heap a (.dK ks) from I.hok a _ ea)
  obtain ⟨_, yb, vb, rb, db⟩ := (show ObjOk X.prog X.w H s.heap b (.dK ls) from I.hok b _ eb)
  have hu := hr.units
  have l1 : va.length = es.length := by rw [← ra.length, he.length]
  have l2 : vb.length = fs.length := by rw [← rb.length, hf.length]
  refine PySem.W.keq_eq (knd := mixKind X.prog X.w) (r := eqE es fs) ya yb da db (by omega) (fun _ => hitsDD I (by show X.A.units + 1 + 50 < cLine; omega) rb hf ra he) (fin_bl I q (by rw [l1, l2]))
theorem op_neDD {X : Cx} {k : Nat} (hr : Room k X.A) : OpR X (compareOp .NotEq) (rNeDD X.K) := by
  intro pins s σ H x y v u Q I rx ry h
  obtain ⟨a, b, ks, ls, es, fs, rfl, rfl, ea, eb, he, hf, q⟩ := h
  obtain rfl : v = Value.ref a := rx
  obtain rfl : u = Value.ref b := ry
  obtain ⟨_, ya, va, ra, da⟩ := (show ObjOk X.prog X.w H s.heap a (.dK ks) from I.hok a _ ea)
  obtain ⟨_, yb, vb, rb, db⟩ := (show ObjOk X.prog X.w H s.heap b (.dK ls) from I.hok b _ eb)
  have hu := hr.units
  have l1 : va.length = es.length := by rw [← ra.length, he.length]
  have l2 : vb.length = fs.length := by rw [← rb.length, hf.length]
  refine PySem.W.keq_ne (knd := mixKind X.prog X.w) (r := eqE es fs) ya yb da db (by omega) (fun _ => hitsDD I (by show X.A.units + 1 + 50 < cLine; omega) rb hf ra he) (fin_bl I q (by rw [l1, l2]))
end DR

namespace DR
open PySem PySem.Spec PyProof.Rows L2
/-! ### != by an own == -/
section
open PySem.W
variable {prog : Program} {w : World} {A : Around} {E : Value → Shared → Prop} {s : Shared} {K : Frag} {x C f : Addr} {ox : Obj} {od : Option Obj} {b : Value}
theorem ifBound_slotK {M : Model} {args : List Value} {Q : Option Value → Shared → Prop} (X : K.In s.heap) (I : InstAt s.heap x ox C od) (hs : findIn K (.ref C) "__ne__" = some (some (.builtin "object.__ne__")))
    (h : wpAny M A (call (.builtin "object.__ne__") (.ref x :: args)) (fun v => Q (some v)) E s) : wpAny M A (callSpecialIfBound? (.ref x) "__ne__" args) Q E s := by
  simp only [callSpecialIfBound?, bindSpecialIfBound?]
  refine wpAny_holding (wpAny_bind (wpAny_bind (wpAny_bind (I.type.here ((looks_findIn X hs).here ?_)))))
  simp only [PySem.F.slot_enumerate_ne.bind]
  refine wpAny_bind (wpAny_askSetting (wpAny_ite ?_))
  have fin : wpAny M A (call (.builtin "object.__ne__") ([.ref x] ++ args) >>= fun v => pure (some v)) Q E s := wpAny_bind (wpAny_mono h (fun v s' h' => wpAny_pure h') fun _ _ h' => h')
  split
  · exact wpAny_bind (wpAny_pure (wpAny_pure fin))
  · exact wpAny_tryCatch (wpAny_bind (wpAny_pure (wpAny_pure fin)))
theorem check_slotK {M : Model} {rest : List Value} {Q : Unit → Shared → Prop} (X : K.In s.heap) (I : InstAt s.heap x ox C od) (hm : mroIn K C (.type "object") = some true)
    (ha : argsOk "object.__ne__" ⟨.ref x :: rest, []⟩) (hq : Q () s) : wpAny M A (checkBuiltinCall "object.__ne__" ⟨.ref x :: rest, []⟩) Q E s := by
  simp only [checkBuiltinCall, F.cmpKind_ne, F.cmpSplit_ne]
  refine wpAny_bind ?_
  unfold isInstance
  refine wpAny_bind (I.type.here ((looks_mroIn X hm).here ?_))
  simp only [Bool.not_true, Bool.false_eq_true, if_false]
  cases hsig : Manifest.signature? "object.__ne__" with
  | none => first | exact wpAny_pure hq | exact wpAny_pure (wpAny_pure hq) | exact wpAny_bind (wpAny_pure (wpAny_pure hq))
  | some sig =>
    simp only [argsOk, hsig] at ha
    have h2 : Bind.checkArgs "object.__ne__" sig ⟨.ref x :: rest, []⟩ = pure () := ha
    first
    | (show wpAny M A (Bind.checkArgs "object.__ne__" sig ⟨.ref x :: rest, []⟩) Q E _
       rw [h2]; exact wpAny_pure hq)
    | (refine wpAny_pure ?_
       show wpAny M A (Bind.checkArgs "object.__ne__" sig ⟨.ref x :: rest, []⟩) Q E _
       rw [h2]; exact wpAny_pure hq)
theorem objNeK (X : K.In s.heap) (I : InstAt s.heap x ox C od) (hs : findIn K (.ref C) "__eq__" = some (some (.ref f))) (hf : isFn K (.ref f) = true) (hu : A.units < cLine) {Q : Fin → Shared → Prop}
    (hcall : wpAny (model prog w) A (call (.ref f) [.ref x, b]) (fun v s' => ∃ r, v = .bool r ∧ Q (.done (.ret (.bool (!r)))) s') E s) : wpAny (model prog w) A (Builtin.«object.__ne__» ⟨[.ref x, b], []⟩) Q E s := by
  unfold Builtin.«object.__ne__»
  repeat (first
    | with_reducible refine wpAny_cRoomFor hu ?_
    | (refine wpAny_bind (m := callSpecialIfBound? (.ref x) (Str.ofString "__eq__") [b])
        (ifBound_K X I hs hf (wpAny_mono hcall (fun r s' hr => by
          obtain ⟨b, rfl, hq⟩ := hr
          repeat (first | exact hq | exact wpAny_pure hq | exact wpAny_truthy_bool hq | (refine wpAny_bind (m := truthy (.bool _)) (wpAny_truthy_bool ?_)) | wp_step)) fun _ _ e => e)))
    | wp_step)
theorem ne_K {Q : Value → Shared → Prop} (X : K.In s.heap) (I : InstAt s.heap x ox C od) (hb : Looks (model prog w) s.heap (typeOf b) (.ref C)) (hne : findIn K (.ref C) "__ne__" = some (some (.builtin "object.__ne__"))) (hm : mroIn K C (.type "object") = some true)
    (hs : findIn K (.ref C) "__eq__" = some (some (.ref f))) (hf : isFn K (.ref f) = true) (hu : A.units + 1 < cLine)
    (h : wpAny (model prog w) A.in1 (call (.ref f) [.ref x, b]) (fun v s' => ∃ r, v = .bool r ∧ Q (.bool (!r)) s') E s) : wpAny (model prog w) A (richCompare .NotEq (.ref x) b) Q E s := by
  have one : wpAny (model prog w) A (tryCompare (.ref x) "__ne__" b) (fun r s' => ∃ v, r = some v ∧ Q v s') E s := by
    unfold tryCompare
    refine wpAny_bind (ifBound_slotK X I hne (wpAny_call (codeAny_call_builtin PySem.F.slot_enumerate_ne.plain PySem.F.cmpEntry_ne (check_slotK X I hm (PySem.F.cmpArgs_ne _ _) (objNeK (A := A.in1) X I hs hf hu (wpAny_mono h (fun v s' hv => ?_) fun _ _ e => e))))))
    obtain ⟨r, rfl, hq⟩ := hv
    exact ⟨r, rfl, wpAny_pure ⟨_, rfl, hq⟩⟩
  unfold richCompare
  simp only [oneThing_ref]
  refine wpAny_holding (wpAny_bind (wpAny_cRoomFor (Nat.lt_of_succ_lt hu) ?_))
  rw [cmpInfo_NotEq]
  dsimp only
  refine wpAny_bind (I.type.here (wpAny_bind (hb.here ?_)))
  rw [show (Value.ref C != Value.ref C) = false from by simp]
  simp only [Bool.false_eq_true, if_false]
  refine wpAny_bind (wpAny_pure ?_)
  simp only [Bool.false_eq_true, if_false]
  refine wpAny_bind (wpAny_mono one (fun r s' z => ?_) fun _ _ e => e)
  obtain ⟨v, rfl, hq⟩ := z
  exact wpAny_pure hq
end
end DR

namespace DR
open PySem PySem.Spec PyProof.Rows L2
/-! ### images compared -/
structure ImQ (K : PySem.W.Frag) (C fe : Addr) : Prop where
  cls : PySem.W.findIn K (.ref C) "__class__" = some (some (.builtin "object.__class__"))
  spc : PySem.W.specialIn K (.builtin "object.__class__") "__get__" = some (some (.builtin "getset_descriptor.__get__"))
  tks : PySem.W.takesIn K (.builtin "object.__class__") = some true
  mro : PySem.W.mroIn K C (.type "object") = some true
  kit : PySem.W.kitOne K (.ref C) (.ref C) = some true
  kno : ∀ n ∈ tyNs, PySem.W.kitOne K (.type n) (.ref C) = some false
  nf : ∀ n ∈ tyNs, PySem.W.notFirst K C (.type n) = true
  ne : PySem.W.findIn K (.ref C) "__ne__" = some (some (.builtin "object.__ne__"))
  eq : PySem.W.findIn K (.ref C) "__eq__" = some (some (.ref fe))
  fn : PySem.W.isFn K (.ref fe) = true
theorem insTy {K : PySem.W.Frag} {H : Hp} {C a fe dx : Addr} {fs : List (Str × V)} (B : Cls K C) (D : ImQ K C fe) (h : H a = some (.ins C dx fs)) : TyX K H (.ref a) (.ref C) := .base (.ins h B D.cls D.spc D.tks D.mro)
/-- x == y, x such a draft -/
def rEqA (K : PySem.W.Frag) (C : Addr) (sp : Sp) (E : XK) : R2 := fun x y H Q => ∃ a dx fs t, x = .ref a ∧ H a = some (.ins C dx fs) ∧ TyX K H y t ∧ PySem.W.notFirst K C t = true ∧ sp [x, y] H Q E
theorem op_eqA {X : Cx} {n : Nat} {CX : CXT} {C f : Addr} {fd : FuncData} {ps : List Str} {sp : Sp} {E : XK} (F : FnOk X.prog X.w X.K X.mg X.base CX n f fd ps sp) (hs : PySem.W.findIn X.K (.ref C) "__eq__" = some (some (.ref f))) (hf : PySem.W.isFn X.K (.ref f) = true) (hb : Binds X.K fd ps []) (hx : Passes CX X E) (hr : Room n X.A) : OpR X (compareOp .Eq) (rEqA X.K C sp E) := by
  intro pins s σ H x y v u Q I rx ry hq
  obtain ⟨a, dx, fs, t, rfl, ha, ty, hn, hsp⟩ := hq
  cases rx
  obtain ⟨mA, J, _⟩ := ins_get I.hok ha
  obtain ⟨od, J, _⟩ := J.look
  obtain ⟨Pt, kx, hP, _⟩ := kit_of I ry ty
  obtain ⟨m, hF⟩ := I.fr
  show wpAny (model X.prog X.w) X.A (richCompare .Eq (.ref a) u) (EP X pins σ Q) X.xe s
  refine PySem.W.cmp_K (op := .Eq) (tb := t) hr.units0 hF I.ok.mod.kin J (kx.ty _ _ I.kIn hP) hn hs hf ?_
  have e0 := I.env0
  have hl := F.len _ _ _ _ hsp
  have r2 : Vals [V.ref a, y] [Value.ref a, u] := .cons rfl (.cons ry .nil)
  refine wpAny_call (codeAny_mono (F.run X.A X.stack s H ⟨[.ref a, u], []⟩ [.ref a, u] [.ref a, y] _ E hr e0 (by
    have := hb s [.ref a, u] I.kIn (by simpa using hl)
    simpa using this) r2 hsp) fun r s' hq => ?_)
  cases r with
  | error e => exact hx pins σ H s e s' I hq
  | ok fl =>
    cases fl with
    | ret w =>
      obtain ⟨z, H', I', rz, q⟩ := I.after hq
      exact SlX.cmpback (P := EP X pins σ Q) rz ⟨z, H', I', rz, q⟩
    | next => exact False.elim hq
    | brk => exact False.elim hq
    | cont => exact False.elim hq
/-- x != y of two such drafts -/
def rNeA (C : Addr) (sp : Sp) (E : XK) : R2 := fun x y H Q => ∃ a b dx dy fs gs, x = .ref a ∧ y = .ref b ∧ H a = some (.ins C dx fs) ∧ H b = some (.ins C dy gs) ∧ sp [x, y] H (fun z H' => ∃ k, z = .bl k ∧ Q (.bl (!k)) H') E
theorem op_neA {X : Cx} {n : Nat} {CX : CXT} {C f : Addr} {fd : FuncData} {ps : List Str} {sp : Sp} {E : XK} (F : FnOk X.prog X.w X.K X.mg X.base CX n f fd ps sp) (D : ImQ X.K C f) (hb : Binds X.K fd ps []) (hx : Passes CX X E) (hr : Room (n + 1) X.A) (hu : X.A.units + 1 < cLine) : OpR X (compareOp .NotEq) (rNeA C sp E) := by
  intro pins s σ H x y v u Q I rx ry hq
  obtain ⟨a, b, dx, dy, fs, gs, rfl, rfl, ha, hb', hsp⟩ := hq
  cases rx
  cases ry
  obtain ⟨mA, J, _⟩ := ins_get I.hok ha
  obtain ⟨mB, J', _⟩ := ins_get I.hok hb'
  obtain ⟨od, J, _⟩ := J.look
  obtain ⟨od', J', _⟩ := J'.look
  show wpAny (model X.prog X.w) X.A (richCompare .NotEq (.ref a) (.ref b)) (EP X pins σ Q) X.xe s
  refine ne_K I.kIn J J'.type D.ne D.mro D.eq D.fn hu ?_
  have e0 : Env0 X.prog X.w X.K X.mg X.base X.A.in1 X.stack s H := by
    have e := I.env0
    exact ⟨e.frames, e.mod, e.bs, e.bsz, e.funs, e.frf, e.hok, e.bare⟩
  have hl := F.len _ _ _ _ hsp
  have r2 : Vals [V.ref a, V.ref b] [Value.ref a, Value.ref b] := .cons rfl (.cons rfl .nil)
  refine wpAny_call (codeAny_mono (F.run X.A.in1 X.stack s H ⟨[.ref a, .ref b], []⟩ [.ref a, .ref b] [.ref a, .ref b] _ E hr.in1 e0 (by
    have := hb s [.ref a, .ref b] I.kIn (by simpa using hl)
    simpa using this) r2 hsp) fun r s' hq => ?_)
  cases r with
  | error e => exact hx pins σ H s e s' I hq
  | ok fl =>
    cases fl with
    | ret w =>
      obtain ⟨z, H', I', rz, k, ez, q⟩ := I.after hq
      subst ez
      cases rz
      exact ⟨k, rfl, .bl (!k), H', I', rfl, q⟩
    | next => exact False.elim hq
    | brk => exact False.elim hq
    | cont => exact False.elim hq
def rLenA (C : Addr) (sp : Sp) (E : XK) : List V → Hp → VK → Prop := fun xs H Q => ∃ a dx fs, xs = [.ref a] ∧ H a = some (.ins C dx fs) ∧ sp [.ref a] H (fun z H' => ∃ n : Nat, z = .int (n : Nat) ∧ n ≤ 1000000 ∧ Q (.int (n : Nat)) H') E
theorem call_lenA {X : Cx} {n : Nat} {CX : CXT} {C f : Addr} {fd : FuncData} {ps : List Str} {sp : Sp} {E : XK} (F : FnOk X.prog X.w X.K X.mg X.base CX n f fd ps sp) (hs : PySem.W.findIn X.K (.ref C) "__len__" = some (some (.ref f))) (hf : PySem.W.isFn X.K (.ref f) = true) (hb : Binds X.K fd ps []) (hx : Passes CX X E) (hr : Room (n + 1) X.A) : CallR X (.builtin "len") (rLenA C sp E) := by
  intro pins s σ H xs us Q I r h
  obtain ⟨a, dx, fs, rfl, ha, hsp⟩ := h
  obtain ⟨u, rfl, rx⟩ := vals1 r
  cases rx
  obtain ⟨mA, J, _⟩ := ins_get I.hok ha
  obtain ⟨od, J, _⟩ := J.look
  obtain ⟨m, hF⟩ := I.fr
  refine PySem.W.len_K hF I.ok.mod.kin J hs hf ?_
  have e0 : Env0 X.prog X.w X.K X.mg X.base X.A.in1 X.stack s H := by
    have e := I.env0
    exact ⟨e.frames, e.mod, e.bs, e.bsz, e.funs, e.frf, e.hok, e.bare⟩
  have hl := F.len _ _ _ _ hsp
  have r2 : Vals [V.ref a] [Value.ref a] := .cons rfl .nil
  refine wpAny_call (codeAny_mono (F.run X.A.in1 X.stack s H ⟨[.ref a], []⟩ [.ref a] [.ref a] _ E hr.in1 e0 (by
    have := hb s [.ref a] I.kIn (by simpa using hl)
    simpa using this) r2 hsp) fun r s' hq => ?_)
  cases r with
  | error e => exact hx pins σ H s e s' I hq
  | ok fl =>
    cases fl with
    | ret w =>
      obtain ⟨z, H', I', rz, k, ez, hk, q⟩ := I.after hq
      subst ez
      obtain ⟨t, e⟩ := (show ∃ t, w = Value.int (k : Nat) t from rz)
      cases e
      refine ⟨⟨by omega, by omega⟩, .int (k : Nat), H', I'.tok _, ⟨_, rfl⟩, q⟩
    | next => exact False.elim hq
    | brk => exact False.elim hq
    | cont => exact False.elim hq
end DR

namespace DR
open PySem PySem.Spec PyProof.Rows L2
/-! ### == of images -/
def pkD (q : Pk) : PyData := .tuple [.str q.1, .str q.2.1, .tuple (q.2.2.map fun w => sumD w.1 w.2)]
def partsD (qs : List Pk) : PyData := .tuple (qs.map pkD)
def adD (a : Str × Int) : PyData := .tuple [.str a.1, .int a.2]
def sameI (qs : List Pk) (a0 : Str × Int) (qs' : List Pk) (b0 : Str × Int) : Bool := PyData.eqv (partsD qs) (partsD qs') && PyData.eqv (adD a0) (adD b0)
theorem sums_dp {K : PySem.W.Frag} {H : Hp} : ∀ {vs : List V} {ws : List (Int × Mul)}, PySem.W.EachIs (SumP H) vs ws → DpAll K H vs (ws.map fun w => sumD w.1 w.2)
  | _, _, .nil => .nil
  | _, _, .cons h t => .cons (sumT_dp h) (sums_dp t)
theorem pieceG_dp {K : PySem.W.Frag} {H : Hp} {v : V} {q : Pk} (h : PieceG H v q) : Dp K H v (pkD q) := by
  obtain ⟨a, b, ws, rfl, h1, h2, h3⟩ := h
  exact .tup (SqT.of h1) (.cons (.str _) (.cons (.str _) (.cons (.tup (SqT.of h2) (sums_dp h3)) .nil)))
theorem pieces_dp {K : PySem.W.Frag} {H : Hp} : ∀ {vs : List V} {qs : List Pk}, PySem.W.EachIs (PieceG H) vs qs → DpAll K H vs (qs.map pkD)
  | _, _, .nil => .nil
  | _, _, .cons h t => .cons (pieceG_dp h) (pieces_dp t)
def NmQ (qs : List Pk) : Prop := ∀ q ∈ qs, ∀ w ∈ q.2.2, ∀ u ∈ w.2.map (·.1), NmU u
theorem sums_plain : ∀ {ws : List (Int × Mul)}, (∀ w ∈ ws, ∀ u ∈ w.2.map (·.1), NmU u) → PyData.plainAll (ws.map fun w => sumD w.1 w.2) = true
  | [], _ => rfl
  | w :: ws, h => by
    have h1 := plain_sumD (n := w.1) (h w (List.mem_cons_self ..))
    have h2 := sums_plain fun w' hw => h w' (List.mem_cons_of_mem _ hw)
    rw [List.map_cons]
    simp [PyData.plainAll, h1, h2]
theorem sum_depth {n : Int} {ps : Mul} (h : ∀ u ∈ ps.map (·.1), NmU u) : (sumD n ps).depth ≤ 8 := by
  have go : ∀ ps : Mul, (∀ u ∈ ps.map (·.1), NmU u) → PyData.depthAll (ps.map partD) ≤ 5 := fun ps => by
    induction ps with
    | nil => exact fun _ => by simp [PyData.depthAll]
    | cons q l ih =>
      intro hn
      have h2 := ih fun u hu => hn u (List.mem_cons_of_mem _ hu)
      obtain ⟨k, o, e, _⟩ := hn q.1 (List.mem_cons_self ..)
      have h3 : (partD q).depth ≤ 5 := by
        unfold partD
        rw [e]
        cases o <;> simp [unkD, keyDat, PyData.depth, PyData.depthAll]
      rw [List.map_cons, PyData.depthAll]
      exact Nat.max_le.mpr ⟨h3, h2⟩
  have := go ps h
  simp only [sumD, PyData.depth, PyData.depthAll]
  omega
theorem sums_depth : ∀ {ws : List (Int × Mul)}, (∀ w ∈ ws, ∀ u ∈ w.2.map (·.1), NmU u) → PyData.depthAll (ws.map fun w => sumD w.1 w.2) ≤ 8
  | [], _ => by simp [PyData.depthAll]
  | w :: ws, h => by
    rw [List.map_cons, PyData.depthAll]
    exact Nat.max_le.mpr ⟨sum_depth (h w (List.mem_cons_self ..)), sums_depth fun w' hw => h w' (List.mem_cons_of_mem _ hw)⟩
theorem pk_plain : ∀ {qs : List Pk}, NmQ qs → PyData.plainAll (qs.map pkD) = true ∧ PyData.depthAll (qs.map pkD) ≤ 12
  | [], _ => ⟨rfl, by simp [PyData.depthAll]⟩
  | q :: qs, h => by
    have h1 := sums_plain (h q (List.mem_cons_self ..))
    have h2 := sums_depth (h q (List.mem_cons_self ..))
    obtain ⟨g1, g2⟩ := pk_plain (qs := qs) fun q' hq => h q' (List.mem_cons_of_mem _ hq)
    rw [List.map_cons]
    refine ⟨by simp [PyData.plainAll, pkD, PyData.plain, h1, g1], ?_⟩
    rw [PyData.depthAll]
    refine Nat.max_le.mpr ⟨?_, g2⟩
    simp only [pkD, PyData.depth, PyData.depthAll]
    omega
theorem parts_plain {qs : List Pk} (h : NmQ qs) : (partsD qs).plain = true := by
  have := (pk_plain h).1
  simp [partsD, PyData.plain, this]
theorem parts_depth {qs : List Pk} (h : NmQ qs) : (partsD qs).depth ≤ 60 := by
  have := (pk_plain h).2
  simp only [partsD, PyData.depth]
  omega
/-- data without truths and dicts -/
def pureD : PyData → Bool
  | .none => true
  | .int _ => true
  | .str _ => true
  | .list xs => pureAll xs
  | .tuple xs => pureAll xs
  | .bool _ => false
  | .dict _ => false
where pureAll : List PyData → Bool
  | [] => true
  | x :: xs => pureD x && pureAll xs
mutual
theorem eqv_pure : ∀ (d e : PyData), pureD d = true → pureD e = true → PyData.eqv d e = true → d = e
  | .none, e, _, _, h => by cases e <;> simp_all [PyData.eqv]
  | .int i, e, _, he, h => by cases e <;> simp_all [PyData.eqv, pureD]
  | .str z, e, _, _, h => by cases e <;> simp_all [PyData.eqv]
  | .list xs, e, hd, he, h => by
    cases e with
    | list ys => exact congrArg _ (eqv_pures xs ys (by simpa [pureD] using hd) (by simpa [pureD] using he) (by simpa [PyData.eqv] using h))
    | _ => simp_all [PyData.eqv]
  | .tuple xs, e, hd, he, h => by
    cases e with
    | tuple ys => exact congrArg _ (eqv_pures xs ys (by simpa [pureD] using hd) (by simpa [pureD] using he) (by simpa [PyData.eqv] using h))
    | _ => simp_all [PyData.eqv]
  | .bool b, e, hd, _, _ => by simp [pureD] at hd
  | .dict k, e, hd, _, _ => by simp [pureD] at hd
theorem eqv_pures : ∀ (xs ys : List PyData), pureD.pureAll xs = true → pureD.pureAll ys = true → PyData.eqvAll xs ys = true → xs = ys
  | [], [], _, _, _ => rfl
  | [], _ :: _, _, _, h => by simp [PyData.eqvAll] at h
  | _ :: _, [], _, _, h => by simp [PyData.eqvAll] at h
  | x :: xs, y :: ys, hx, hy, h => by
    simp only [pureD.pureAll, Bool.and_eq_true] at hx hy
    simp only [PyData.eqvAll, Bool.and_eq_true] at h
    rw [eqv_pure x y hx.1 hy.1 h.1, eqv_pures xs ys hx.2 hy.2 h.2]
end
theorem pure_sum {n : Int} {ps : Mul} (h : ∀ u ∈ ps.map (·.1), NmU u) : pureD (sumD n ps) = true := by
  have go : ∀ ps : Mul, (∀ u ∈ ps.map (·.1), NmU u) → pureD.pureAll (ps.map partD) = true := fun ps => by
    induction ps with
    | nil => exact fun _ => rfl
    | cons q l ih =>
      intro hn
      obtain ⟨k, o, e, _⟩ := hn q.1 (List.mem_cons_self ..)
      have h2 := ih fun u hu => hn u (List.mem_cons_of_mem _ hu)
      rw [List.map_cons]
      unfold partD
      rw [e]
      cases o <;> simp [pureD, pureD.pureAll, unkD, keyDat] <;> exact h2
  have := go ps h
  simp [sumD, pureD, pureD.pureAll, this]
theorem pure_sums : ∀ {ws : List (Int × Mul)}, (∀ w ∈ ws, ∀ u ∈ w.2.map (·.1), NmU u) → pureD.pureAll (ws.map fun w => sumD w.1 w.2) = true
  | [], _ => rfl
  | w :: ws, h => by
    have h1 := pure_sum (n := w.1) (h w (List.mem_cons_self ..))
    have h2 := pure_sums fun w' hw => h w' (List.mem_cons_of_mem _ hw)
    rw [List.map_cons]
    simp [pureD.pureAll, h1, h2]
theorem pure_pks : ∀ {qs : List Pk}, NmQ qs → pureD.pureAll (qs.map pkD) = true
  | [], _ => rfl
  | q :: qs, h => by
    have h1 := pure_sums (h q (List.mem_cons_self ..))
    have h2 := pure_pks (qs := qs) fun q' hq => h q' (List.mem_cons_of_mem _ hq)
    rw [List.map_cons]
    simp [pureD.pureAll, pkD, pureD, h1, h2]
theorem map_inj {α : Type} {f : α → PyData} {Pr : α → Prop} (inj : ∀ a b, Pr a → Pr b → f a = f b → a = b) : ∀ {xs ys : List α}, (∀ a ∈ xs, Pr a) → (∀ a ∈ ys, Pr a) → xs.map f = ys.map f → xs = ys
  | [], [], _, _, _ => rfl
  | [], _ :: _, _, _, h => by cases h
  | _ :: _, [], _, _, h => by cases h
  | x :: xs, y :: ys, hx, hy, h => by
    rw [List.map_cons, List.map_cons] at h
    obtain ⟨h1, h2⟩ := List.cons.inj h
    rw [inj x y (hx x (List.mem_cons_self ..)) (hy y (List.mem_cons_self ..)) h1, map_inj inj (fun a ha => hx a (List.mem_cons_of_mem _ ha)) (fun a ha => hy a (List.mem_cons_of_mem _ ha)) h2]
theorem unk_inj {u v : List Key} (hu : NmU u) (hv : NmU v) (e : unkD u = unkD v) : u = v := by
  obtain ⟨k, o, rfl, _⟩ := hu
  obtain ⟨k', o', rfl, _⟩ := hv
  cases o <;> cases o' <;> simp_all [unkD, keyDat]
def NmM (w : Int × Mul) : Prop := ∀ u ∈ w.2.map (·.1), NmU u
theorem sum_inj {w w' : Int × Mul} (hw : ∀ u ∈ w.2.map (·.1), NmU u) (hw' : ∀ u ∈ w'.2.map (·.1), NmU u) (e : sumD w.1 w.2 = sumD w'.1 w'.2) : w = w' := by
  obtain ⟨n, ps⟩ := w
  obtain ⟨n', ps'⟩ := w'
  have e := PyData.tuple.inj e
  obtain ⟨e1, e2⟩ := List.cons.inj e
  obtain ⟨e2, _⟩ := List.cons.inj e2
  have e1 := PyData.int.inj e1
  have e2 := PyData.tuple.inj e2
  have e1 : n = n' := e1
  have e3 : ps = ps' := map_inj (f := partD) (Pr := fun q : List Key × Int => NmU q.1) (fun a b ha hb e => by
    obtain ⟨a1, a2⟩ := a
    obtain ⟨b1, b2⟩ := b
    have e := PyData.tuple.inj e
    obtain ⟨f1, f2⟩ := List.cons.inj e
    obtain ⟨f2, _⟩ := List.cons.inj f2
    have f2 : a2 = b2 := PyData.int.inj f2
    have f1 : a1 = b1 := unk_inj ha hb f1
    rw [f1, f2]) (fun a ha => hw _ (List.mem_map.mpr ⟨a, ha, rfl⟩)) (fun a ha => hw' _ (List.mem_map.mpr ⟨a, ha, rfl⟩)) e2
  rw [e1, e3]
theorem pk_inj {q q' : Pk} (h : ∀ w ∈ q.2.2, ∀ u ∈ w.2.map (·.1), NmU u) (h' : ∀ w ∈ q'.2.2, ∀ u ∈ w.2.map (·.1), NmU u) (e : pkD q = pkD q') : q = q' := by
  obtain ⟨p, k, ws⟩ := q
  obtain ⟨p', k', ws'⟩ := q'
  have e := PyData.tuple.inj e
  obtain ⟨e1, e⟩ := List.cons.inj e
  obtain ⟨e2, e⟩ := List.cons.inj e
  obtain ⟨e3, _⟩ := List.cons.inj e
  have e1 : p = p' := PyData.str.inj e1
  have e2 : k = k' := PyData.str.inj e2
  have e3 : ws = ws' := map_inj (f := fun w : Int × Mul => sumD w.1 w.2) (Pr := NmM) (fun a b ha hb e => sum_inj ha hb e) h h' (PyData.tuple.inj e3)
  rw [e1, e2, e3]
def NmW (q : Pk) : Prop := ∀ w ∈ q.2.2, ∀ u ∈ w.2.map (·.1), NmU u
theorem parts_inj {qs qs' : List Pk} (h : NmQ qs) (h' : NmQ qs') (e : PyData.eqv (partsD qs) (partsD qs') = true) : qs = qs' := by
  have e := eqv_pure _ _ (by simpa [partsD, pureD] using pure_pks h) (by simpa [partsD, pureD] using pure_pks h') e
  exact map_inj (f := pkD) (Pr := NmW) (fun a b ha hb e => pk_inj ha hb e) h h' (PyData.tuple.inj e)
theorem ad_inj {a b : Str × Int} (e : PyData.eqv (adD a) (adD b) = true) : a = b := by
  obtain ⟨z, n⟩ := a
  obtain ⟨y, m⟩ := b
  have e := eqv_pure _ _ rfl rfl e
  simpa [adD] using e
theorem sameI_not {qs qs' : List Pk} {a0 b0 : Str × Int} (h : NmQ qs) (h' : NmQ qs') (ne : qs ≠ qs' ∨ a0 ≠ b0) : sameI qs a0 qs' b0 = false := by
  cases e : sameI qs a0 qs' b0 with
  | false => rfl
  | true =>
    unfold sameI at e
    rw [Bool.and_eq_true] at e
    rcases ne with ne | ne
    · exact absurd (parts_inj h h' e.1) ne
    · exact absurd (ad_inj e.2) ne
theorem sameI_self {qs : List Pk} {a0 : Str × Int} (h : NmQ qs) : sameI qs a0 qs a0 = true := by
  unfold sameI
  rw [SeqAt.eqv_refl_plain _ (parts_plain h), SeqAt.eqv_refl_plain (adD a0) rfl]
  rfl
end DR

namespace DR
open PySem PySem.Spec PyProof.Rows L2
/-! ### the methods of a unit -/
def msD (ms : List (Str × (Str × Int))) : List (Key × PyData) := ms.map fun m => (.inr m.1, adD m.2)
def sameU (qs : List Pk) (ms : List (Str × (Str × Int))) (qs' : List Pk) (ms' : List (Str × (Str × Int))) : Bool := PyData.eqv (partsD qs) (partsD qs') && ((msD ms).length == (msD ms').length && eqE (msD ms) (msD ms'))
theorem md_dk {K : PySem.W.Frag} {H : Hp} : ∀ {md : List (Key × V)} {ms : List (Str × (Str × Int))}, PySem.W.EachIs (MdR H) md ms → PySem.W.EachIs (DkE K H) md (msD ms)
  | _, _, .nil => .nil
  | _, _, .cons (bs := ms) h t => by
    obtain ⟨h1, p, h2, h3⟩ := h
    exact .cons ⟨h1, by rw [h2]; exact .tup (SqT.of h3) (.cons (.str _) (.cons (.int _) .nil)), rfl, by simp [adD, PyData.depth, PyData.depthAll]⟩ (md_dk t)
def spUPieces (C : Addr) : Sp := fun vs H Q _ => ∃ x qs ms ns, vs = [.ref x] ∧ UnG H C x qs ms ns ∧ ∀ d ys H', Same H H' → H d = none → H' d = some (.lst ys) → PySem.W.EachIs (PieceG H') ys qs → Q (.ref d) H'
def spUTold (C : Addr) : Sp := fun vs H Q _ => ∃ x qs ms ns, vs = [.ref x] ∧ UnG H C x qs ms ns ∧ ∀ d md H', Same H H' → H d = none → H' d = some (.dK md) → PySem.W.EachIs (MdR H') md ms → Q (.ref d) H'
def spUWanted (C : Addr) : Sp := fun vs H Q _ => ∃ x qs ms ns, vs = [.ref x] ∧ UnG H C x qs ms ns ∧ ∀ d H', Same H H' → H d = none → H' d = some (.lst (ns.map V.str)) → Q (.ref d) H'
def spULen (C : Addr) : Sp := fun vs H Q _ => ∃ x qs ms ns, vs = [.ref x] ∧ UnG H C x qs ms ns ∧ Q (.int ((adrs qs).length : Nat)) H
def spUWord (K : PySem.W.Frag) (C CN : Addr) : Sp := fun vs H Q E => ∃ (x : Addr) (qs : List Pk) (ms : List (Str × (Str × Int))) (ns : List Str) (v1 v2 : V) (d1 d2 : PyData), vs = [.ref x, v1, v2] ∧ UnG H C x qs ms ns ∧ Th K H v1 d1 ∧ Th K H v2 d2 ∧ shortS d1 ∧
  (wordAt qs d1 d2 = none → ErrSame E H CN [("k", v2), ("p", v1)]) ∧ ∀ w, wordAt qs d1 d2 = some w → ∀ v' H', Same H H' → SumP H' v' w → Q v' H'
def spEqU (K : PySem.W.Frag) (C : Addr) : Sp := fun vs H Q _ => ∃ a v qs ms ns, vs = [.ref a, v] ∧ UnG H C a qs ms ns ∧ ((∃ b qs' ms' ns', v = .ref b ∧ UnG H C b qs' ms' ns' ∧ Q (.bl (sameU qs ms qs' ms')) H) ∨ ∃ d, Th K H v d ∧ Q (.bl false) H)
abbrev sUPieces : Stmt := inClass (topS 33) 1
abbrev sUTold : Stmt := inClass (topS 33) 2
abbrev sUWanted : Stmt := inClass (topS 33) 3
abbrev sUWord : Stmt := inClass (topS 33) 4
abbrev sULen : Stmt := inClass (topS 33) 5
abbrev sUEq : Stmt := inClass (topS 33) 6
theorem scUPieces : FnScope ["self"] ["self"] (defScope sUPieces) := ⟨rfl, rfl, rfl, by decide +kernel, rfl, by decide +kernel, by decide +kernel⟩
theorem scUTold : FnScope ["self"] ["self"] (defScope sUTold) := ⟨rfl, rfl, rfl, by decide +kernel, rfl, by decide +kernel, by decide +kernel⟩
theorem scUWanted : FnScope ["self"] ["self"] (defScope sUWanted) := ⟨rfl, rfl, rfl, by decide +kernel, rfl, by decide +kernel, by decide +kernel⟩
theorem scULen : FnScope ["self"] ["self"] (defScope sULen) := ⟨rfl, rfl, rfl, by decide +kernel, rfl, by decide +kernel, by decide +kernel⟩
theorem scUWord : FnScope ["self", "p", "k"] ["self", "p", "k"] (defScope sUWord) := ⟨rfl, rfl, rfl, by decide +kernel, rfl, by decide +kernel, by decide +kernel⟩
theorem scUEq : FnScope ["self", "other"] ["self", "other"] (defScope sUEq) := ⟨rfl, rfl, rfl, by decide +kernel, rfl, by decide +kernel, by decide +kernel⟩
section
variable {P : Program} {w : World} {K : PySem.W.Frag} {mg : Str → Option Value} {base : Heap}
theorem ok_upieces {f C : Addr} {fd : FuncData} (F : Fun K "pieces" "Unit.pieces" sUPieces f fd) (T : Bi mg) (B : UnC K C) : FnOk P w K mg base CX0 1 f fd ["self"] (spUPieces C) := by
  refine F.ok scUPieces (fun vs H Q E h => ?_) (fun cdv A outer s H vs Q E hr h => ?_)
  · obtain ⟨x, qs, ms, ns, rfl, _⟩ := h
    rfl
  · obtain ⟨x, qs, ms, ns, rfl, ⟨ok, nd, wr, dx, p, d, m, l, xs, ks, md, hx, hp, hxs, _⟩, q⟩ := h
    refine ⟨_, (pss_one (ps_ret (pe_callTy call_list_of (by rfl) T.list (by decide +kernel) (pa_cons (pe_fld (pv 0) rfl) pa_nil)))), ?_⟩
    refine ⟨_, rfl, x, C, dx, _, _, rfl, hx, B.cl, B.n1, rfl, p, xs, rfl, .inr (SqT.of hp), fun D hD => ?_⟩
    have s1 := same_new (o := .lst xs) hD
    exact q D xs _ s1 hD upd_same (eachs_imp (fun _ _ => pieceG_s (TupS.of s1)) hxs)
theorem ok_utold {f C : Addr} {fd : FuncData} (F : Fun K "told" "Unit.told" sUTold f fd) (T : Bi mg) (B : UnC K C) : FnOk P w K mg base CX0 1 f fd ["self"] (spUTold C) := by
  refine F.ok scUTold (fun vs H Q E h => ?_) (fun cdv A outer s H vs Q E hr h => ?_)
  · obtain ⟨x, qs, ms, ns, rfl, _⟩ := h
    rfl
  · obtain ⟨x, qs, ms, ns, rfl, ⟨ok, nd, wr, dx, p, d, m, l, xs, ks, md, hx, hp, hxs, hd, hks, hm, hmd, _⟩, q⟩ := h
    refine ⟨_, (pss_one (ps_ret (pe_callTy call_dictD (by rfl) T.dict (by decide +kernel) (pa_cons (pe_fld (pv 0) rfl) pa_nil)))), ?_⟩
    refine ⟨_, rfl, x, C, dx, _, _, rfl, hx, B.cl, B.n3, rfl, m, md, rfl, .of hm, fun D hD => ?_⟩
    have s1 := same_new (o := .dK md) hD
    exact q D md _ s1 hD upd_same (eachs_imp (fun _ _ => mdR_s (TupS.of s1)) hmd)
theorem ok_ulen {f C : Addr} {fd : FuncData} (F : Fun K "__len__" "Unit.__len__" sULen f fd) (T : Bi mg) (B : UnC K C) : FnOk P w K mg base CX0 1 f fd ["self"] (spULen C) := by
  refine F.ok scULen (fun vs H Q E h => ?_) (fun cdv A outer s H vs Q E hr h => ?_)
  · obtain ⟨x, qs, ms, ns, rfl, _⟩ := h
    rfl
  · obtain ⟨x, qs, ms, ns, rfl, ⟨ok, nd, wr, dx, p, d, m, l, xs, ks, md, hx, hp, hxs, hd, hks, _⟩, q⟩ := h
    refine ⟨_, (pss_one (ps_ret (pe_callB call_len_dT (by rfl) T.len (by decide +kernel) (pa_cons (pe_fld (pv 0) rfl) pa_nil)))), ?_⟩
    rw [← hks.length] at q
    exact ⟨_, rfl, x, C, dx, _, _, rfl, hx, B.cl, B.n2, rfl, d, ks, rfl, hd, q⟩
theorem ok_uword {f C CN : Addr} {fd : FuncData} (F : Fun K "word" "Unit.word" sUWord f fd) (B : UnC K C) (G : Has P w K mg base (L2.CX P w) 5 "word_at" ["sums", "p", "k"] (spWordAt K CN)) : FnOk P w K mg base (L2.CX P w) 6 f fd ["self", "p", "k"] (spUWord K C CN) := by
  refine F.okX scUWord (fun vs H Q E h => ?_) (fun cdv A outer s H vs Q E hr h => ?_)
  · obtain ⟨x, qs, ms, ns, v1, v2, d1, d2, rfl, _⟩ := h
    rfl
  · obtain ⟨x, qs, ms, ns, v1, v2, d1, d2, rfl, ⟨ok0, nd, wr, dx, p, d, m, l, xs, ks, md, hx, hp, hxs, hd, hks, _⟩, h1, h2, ok, qe, q⟩ := h
    refine ⟨_, (pss_one (ps_ret (pe_callH G hr (by rfl) (passes_call (W := fun cls d _ H => E cls d H) (takes_of rfl rfl rfl rfl) (fun _ _ _ _ h => h)) (pa_cons (pe_fld (pv 0) rfl) (pa_cons (pv 1) (pa_cons (pv 2) pa_nil)))))), ?_⟩
    exact ⟨_, rfl, x, C, dx, _, _, rfl, hx, B.cl, B.n2, rfl, _, rfl, _, rfl, d, ks, qs, v1, v2, d1, d2, rfl, hd, hks, h1, h2, ok, qe, q⟩
theorem ok_ueq {f C fe : Addr} {fd : FuncData} (F : Fun K "__eq__" "Unit.__eq__" sUEq f fd) (T : Bi mg) (B : UnC K C) (D : ImQ K C fe) (gI : mg "Unit" = some (.ref C)) : FnOk P w K mg base CX0 1 f fd ["self", "other"] (spEqU K C) := by
  refine F.ok scUEq (fun vs H Q E h => ?_) (fun cdv A outer s H vs Q E hr h => ?_)
  · obtain ⟨a, v, qs, ms, ns, rfl, _⟩ := h
    rfl
  · obtain ⟨a, v, qs, ms, ns, rfl, ⟨ok, nd, wr, dx, p, d, m, l, xs, ks, md, hx, hp, hxs, hd, hks, hm, hmd, hl⟩, want⟩ := h
    refine ⟨_, pss_one (ps_ret (pe_and (pe_callB call_isi (by rfl) T.isinstance (by decide +kernel) (pa_cons (pv 1) (pa_cons (pe_glob (v := .ref C) rfl gI rfl) pa_nil))) (pe_and (pe_cmpR (op_eqP hr) (pe_fld (pv 0) rfl) (pe_fld (pv 1) rfl) (nomark _)) (pe_one (pe_cmpR (op_eqDD hr) (pe_fld (pv 0) rfl) (pe_fld (pv 1) rfl) (nomark _)))))), ?_⟩
    rcases want with ⟨b, qs', ms', ns', rfl, ⟨ok', nd', wr', dx', p', d', m', l', xs', ks', md', hx', hp', hxs', hd', hks', hm', hmd', hl'⟩, want⟩ | ⟨dv, th, want⟩
    · refine ⟨_, rfl, .ref b, .ref C, _, _, _, rfl, .own C, insTy B.cl D hx', D.kit, _, rfl, iteT ?_⟩
      refine ⟨_, rfl, a, C, dx, _, _, rfl, hx, B.cl, B.n1, rfl, _, rfl, b, C, dx', _, _, rfl, hx', B.cl, B.n1, rfl, partsD qs, partsD qs', .tup (SqT.of hp) (pieces_dp hxs), .tup (SqT.of hp') (pieces_dp hxs'), parts_plain ok.nm, parts_plain ok'.nm, parts_depth ok.nm, _, rfl, ?_⟩
      unfold sameU at want
      cases e : PyData.eqv (partsD qs) (partsD qs') with
      | false =>
        rw [e] at want
        exact iteF want
      | true =>
        rw [e] at want
        exact iteT ⟨_, rfl, a, C, dx, _, _, rfl, hx, B.cl, B.n3, rfl, _, rfl, b, C, dx', _, _, rfl, hx', B.cl, B.n3, rfl, m, m', md, md', msD ms, msD ms', rfl, rfl, hm, hm', md_dk hmd, md_dk hmd', want⟩
    · refine ⟨_, rfl, v, .ref C, _, _, _, rfl, .own C, th_ty th, D.kno _ (tyN_mem dv), _, rfl, iteF ?_⟩
      exact want
end
end DR

namespace DR
open PySem PySem.Spec PyProof.Rows L2
/-! ### try with several clauses that name the error -/
abbrev Suite := Addr → Value → Option Addr → TS
def wAll (K : PySem.W.Frag) (out : WX) (D : Ends) : List (Value × Nat × Suite) → WX
  | [] => out
  | (c, i, ts) :: more => fun cls d σ H => ∃ yes, PySem.W.exmOne K cls c = some yes ∧
      (yes = true → ∀ e, H e = none → ts e cls d ⟨fun σ1 H1 => D.nx (σ1.set i none) H1, D.rt, fun σ1 H1 => D.bk (σ1.set i none) H1, fun σ1 H1 => D.ct (σ1.set i none) H1⟩ (σ.set i (some (.ref e))) H) ∧ (yes = false → wAll K out D more cls d σ H)
inductive Clauses (X : Cx) : List ExceptHandler → List (Value × Nat × Suite) → Prop
  | none : Clauses X [] []
  | more {x nm : Str} {c : Value} {i : Nat} {ts : Suite} {st : Stmt} {sts : List Stmt} {q1 q2 : Pos} {hds : List ExceptHandler} {l : List (Value × Nat × Suite)} (hi : X.N[i]? = some nm) (hl : X.env.kindOf nm = some .local) (hc : Names X x c)
      (hs : ∀ (e : Addr) (oe : Obj) (cls : Value) (d : Option Addr) (pn : List (Addr × Obj)), Zc cls d oe → (∃ fs, oe.data = .fields fs) → PSs (X.suite e ((e, oe) :: pn)) (st :: sts) (ts e cls d)) (rest : Clauses X hds l) :
      Clauses X (.ExceptHandler (some (.Name x q1)) (some nm) (st :: sts) q2 :: hds) ((c, i, ts) :: l)
theorem ps_tryN {X : Cx} {body : List Stmt} {h0 : ExceptHandler} {hds : List ExceptHandler} {l : List (Value × Nat × Suite)} {pos : Pos} {tb : WX → TS} {out : WX} (e1 : X.stack = X.env :: X.outer) (e2 : X.env.frame = some X.env.locals) (nd : X.N.Nodup) (tk : Takes X out)
    (hb : ∀ (W : WX) (pn : List (Addr × Obj)) (xe : Value → Shared → Prop), Takes (X.tr pn xe) W → PassesOwn (model X.prog X.w) X.A X.env xe → PSs (X.tr pn xe) body (tb W))
    (hh : Clauses X (h0 :: hds) l) : PS X (.Try body (h0 :: hds) [] [] pos) (fun D σ H => tb (wAll X.K out D l) D σ H) := by
  constructor
  intro pins s σ H D I h
  have okX := I.ok
  have fr : X.A.frames = some (X.env :: X.outer) := okX.frames.trans (by rw [e1])
  refine wpAny_Try_except (wpAny_mono ((hb (wAll X.K out D l) (X.pn ++ pins) (fun ev s₁ => wpAny (model X.prog X.w) X.A (noteFrame ev X.env) (fun _ s₂ => wpAny (model X.prog X.w) X.A (setFlight ev none) (fun _ s₃ =>
      wpAny (model X.prog X.w) X.A (handleBy ev X.env (h0 :: hds)) (SP X pins D) X.xe s₃) X.xe s₂) X.xe s₁) ?caught PassesOwn.looking).run [] s σ H D (I.toTry _) h) ?through fun _ _ z => z)
  case through =>
    intro fl s1 hsp
    cases fl with
    | next => exact let ⟨σ1, H1, J, q⟩ := hsp; wpAny_execs_nil ⟨σ1, H1, J.ofTry okX, q⟩
    | brk => exact let ⟨σ1, H1, J, q⟩ := hsp; ⟨σ1, H1, J.ofTry okX, q⟩
    | cont => exact let ⟨σ1, H1, J, q⟩ := hsp; ⟨σ1, H1, J.ofTry okX, q⟩
    | ret u => exact let ⟨v, σ1, H1, J, r, q⟩ := hsp; ⟨v, σ1, H1, J.ofTry okX, r, q⟩
  case caught =>
    intro u s1 flying
    obtain ⟨a, B, sI, pins1, σ1, H1, cls, d, rfl, J0, nb, up, sky, na, os, ag, wish⟩ := flying
    have J : Inv X pins σ1 H1 sI := J0.ofTry okX
    refine Sky.land (A := X.A) (env := X.env) (outer := X.outer) (L := X.env.locals) Zc.steady fr e2 (by rw [← e1]; exact sky) fun h3 fl3 up3 => ?_
    have J3 : Inv X pins σ1 H1 { s1 with heap := h3 } := J.landed nb fl3.1 (up.trans up3) os ag
    obtain ⟨o3, w3, g3, z3, d3⟩ := fl3.there
    have out_of : a ∉ frs (X.env :: X.outer) := fun hm => by
      obtain ⟨_, ob, g, notf⟩ := fl3.2.2.1.mem hm
      have same : o3 = ob := Option.some.inj (g3.symm.trans g)
      rw [same] at d3
      exact notf _ d3
    have nL : a ≠ X.env.locals := fun z => out_of (List.mem_filterMap.mpr ⟨X.env, .head _, e2.trans (by rw [z])⟩)
    have nF : a ∉ X.fs := fun hm => let ⟨e, he, q⟩ := List.mem_filterMap.mp hm; out_of (List.mem_filterMap.mpr ⟨e, .tail _ he, q⟩)
    have S3 := J3.suite g3 d3 na nL nF
    have each : ∀ {hs' : List ExceptHandler} {l' : List (Value × Nat × Suite)}, Clauses X hs' l' → wAll X.K out D l' cls d σ1 H1 → wpAny (model X.prog X.w) X.A (handleBy (.ref a) X.env hs') (SP X pins D) X.xe { s1 with heap := h3 } := by
      intro hs' l' C
      induction C with
      | none =>
        intro wo
        obtain ⟨k1, k2, k3, oe, vs, TB, oT, ts', he, hz, hd, ht, hr⟩ := id fl3
        have thrown : wpAny (model X.prog X.w) X.A (setFlight (.ref a) X.env.frame) (fun _ s4 => wpAny (model X.prog X.w) X.A (throw (.ref a) : Sem Flow) (SP X pins D) X.xe s4) X.xe { s1 with heap := h3 } := by
          rw [e2]
          refine HandSPX.setFlight_upZ fl3 fun h4 held up4 => wpAny_throw (tk _ _ ⟨a, B, sI, pins, σ1, H1, cls, d, rfl, J, nb, (up.trans up3).trans up4, .inr (.inr ?_), na, os, ag, wo⟩)
          rw [e1]
          exact held
        refine wpAny_handleBy_nil ?_
        unfold PySem.passOn
        refine wpAny_bind (wpAny_field he hd ht ?_)
        rw [if_neg (by simp : ¬ ((Value.ref TB == Value.none) = true))]
        first | exact wpAny_bind (wpAny_pure (wpAny_bind thrown)) | exact wpAny_bind thrown
      | @more x nm c i ts st sts q1 q2 hds2 l2 hi hl hc hs rest ih =>
        intro wo
        obtain ⟨yes, hy, on, off⟩ := wo
        have LM := PySem.W.exm_one (M := model X.prog X.w) J3.kIn (fun A Q E s k q => wpAny_typeOf_ref (k _ _ g3) (by rw [z3.1]; exact q)) hy
        have named : ∀ {Q : Value → Shared → Prop} {E : Value → Shared → Prop}, Q c { s1 with heap := h3 } → wpAny (model X.prog X.w) (X.A.mark (some (.ref a))) (eval (.Name x q1) X.env) Q E { s1 with heap := h3 } := fun {Q E} q => by
          obtain ⟨gl, dbg, m1 | ⟨m1, m2, m3⟩⟩ := hc
          · exact ld_glob (X := X.suite a ((a, o3) :: (X.pn ++ pins))) S3 gl m1 q dbg
          · exact ld_blt (X := X.suite a ((a, o3) :: (X.pn ++ pins))) S3 gl m1 m2 q m3 dbg
        refine wpAny_handleBy_cons (codeAny_handlers_test (named (LM.here ?_))) (by intro q; cases q)
        cases yes with
        | false => exact ih (off rfl)
        | true =>
          refine codeAny_handlers_suite_as (HandSPX.lands_againZ fl3 fun h4 fl4 up4 => ?_)
          obtain ⟨o4, w4, g4, z4, d4⟩ := fl4.there
          have J4 : Inv X pins σ1 H1 { s1 with heap := h4 } := J.landed nb fl4.1 ((up.trans up3).trans up4) os ag
          refine store_ok (X := X.suite a ((a, o4) :: (X.pn ++ pins))) (v := .ref a) (J4.suite g4 d4 na nL nF) nd hi (.inl hl) rfl (fun s5 S5 => ?_) (.inr hl)
          refine wpAny_mono ((hs a o4 cls d (X.pn ++ pins) z4 ⟨_, d4⟩).run [] s5 _ H1 _ S5 (on rfl a na)) (fun fl s6 hsp => ?_) fun _ _ z => z.elim
          have gone : ∀ {σ6 : L2.St} {H6 : Hp} {Q : Shared → Prop}, Inv (X.suite a ((a, o4) :: (X.pn ++ pins))) [] σ6 H6 s6 → (∀ s7, Inv X pins (σ6.set i Option.none) H6 s7 → Q s7) →
              wpAny (model X.prog X.w) X.A (do bindName X.env nm .none; unbindBehindTheSuite X.env nm q2) (fun _ s7 => Q s7) X.xe s6 := fun S6 k => gone_ok (S6.unsuite okX) nd hi hl k
          cases fl with
          | next => exact let ⟨_, _, S6, q6⟩ := hsp; gone S6 fun s7 J7 => ⟨_, _, J7, q6⟩
          | brk => exact let ⟨_, _, S6, q6⟩ := hsp; gone S6 fun s7 J7 => ⟨_, _, J7, q6⟩
          | cont => exact let ⟨_, _, S6, q6⟩ := hsp; gone S6 fun s7 J7 => ⟨_, _, J7, q6⟩
          | ret u => exact let ⟨_, _, _, S6, r6, q6⟩ := hsp; gone S6 fun s7 J7 => ⟨_, _, _, J7, r6, q6⟩
    exact each hh wish
end DR

namespace DR
open PySem PySem.Spec PyProof.Rows L2
/-! ### _law_told_right -/
structure FunM (K : PySem.W.Frag) (x q : Str) (st : Stmt) (c f : Addr) (fd : FuncData) : Prop where
  ex : ∃ (oc : Value) (od : Option Addr) (kV doc pm : Value) (an : Option Addr) (ct : Value) (osl : Array (Option Value)),
    fd = PySem.W.fnOf x q (defArgs st) (defBody st) (defScope st) .none kV doc pm an (.ref c) ct ∧ K.lookup f = some ⟨oc, od, .func fd, osl⟩ ∧ PySem.W.codeIn K (.ref c) q = true
  kp : PySem.W.keepIn K (.ref f) = true
theorem FunM.fn {K : PySem.W.Frag} {x q : Str} {st : Stmt} {c f : Addr} {fd : FuncData} (F : FunM K x q st c f fd) : Fun K x q st f fd := by
  obtain ⟨oc, od, kV, doc, pm, an, ct, osl, e, lk, hc⟩ := F.ex
  exact ⟨⟨oc, od, kV, doc, pm, an, _, ct, osl, e, lk, hc⟩, F.kp⟩
theorem FunM.okC {CX : CXT} {P : Program} {w : World} {K : PySem.W.Frag} {mg : Str → Option Value} {base : Heap} {x q : Str} {st : Stmt} {c f : Addr} {fd : FuncData} {N ps : List Str} {k : Nat} {sp : Sp} (F : FunM K x q st c f fd) (S : FnScope N ps (defScope st)) (len : ∀ vs H Q E, sp vs H Q E → vs.length = ps.length)
    (hbody : ∀ (A : Around) (outer : List Env) (s : Shared) (H : Hp) (vs : List V) (Q : VK) (E : XK), Room k (A.deeper (envOfC q (defScope st) s.heap.objs.size f (.ref c))) → sp vs H Q E →
      ∃ t, PSs (cxOf CX P w K mg base N q (defScope st) f (.ref c) A outer s H E) (defBody st) t ∧ t { nx := fun _ H' => Q .non H', rt := Q } (start N vs) H) : FnOk P w K mg base CX (k + 1) f fd ps sp := by
  obtain ⟨oc, od, kV, doc, pm, an, ct, osl, rfl, lk, hcd⟩ := F.ex
  exact fn_of lk hcd S len fun A outer s H vs Q E hr hsp => hbody A outer s H vs Q E hr hsp
abbrev rLenV (K : PySem.W.Frag) : List V → Hp → VK → Prop := fun xs H Q => ∃ p ys, xs = [.ref p] ∧ (SqL K H p ys ∨ SqT K H p ys) ∧ Q (.int ys.length) H
theorem cr_lenV {X : Cx} : CallR X (.builtin "len") (rLenV X.K) := call_len_seq
theorem adrs_sum (qs : List Pk) : (((adrs qs).length : Nat) : Int) = (qs.map fun q => (q.2.2.length : Int)).sum := by
  induction qs with
  | nil => rfl
  | cons q qs ih =>
    have e : adrs (q :: qs) = adrsP q ++ adrs qs := by simp [adrs]
    rw [e, List.length_append, adrsP_len, List.map_cons, List.sum_cons, ← ih]
    omega
theorem find_uniq {α β : Type} [DecidableEq β] {f : α → β} : ∀ {l : List α}, l.Pairwise (fun a b => f a ≠ f b) → ∀ {a : α}, a ∈ l → l.find? (fun x => decide (f x = f a)) = some a
  | [], _, a, h => by cases h
  | b :: l, pw, a, h => by
    rw [List.pairwise_cons] at pw
    rcases List.mem_cons.mp h with rfl | h
    · rw [List.find?_cons_of_pos (by simp)]
    · rw [List.find?_cons_of_neg (by simp [pw.1 a h]), find_uniq pw.2 h]
theorem word_at_mem {qs : List Pk} (ok : PkOk qs) {q : Pk} (hq : q ∈ qs) {j : Nat} {w : Int × Mul} (hw : q.2.2[j]? = some w) (nm : isNmS q.1 = true) : wordAt qs (.str q.1) (.int (j : Nat)) = some w := by
  have e : adrOf (.str q.1) (.int (j : Nat)) = some (q.1, (j : Int)) := by
    show (if isNmS q.1 = true then _ else _) = _
    rw [if_pos nm]
  unfold wordAt
  rw [e]
  show wordOf qs (keyA (q.1, (j : Int))) = _
  have hm : (q.1, j, w) ∈ adrs qs := List.mem_flatMap.mpr ⟨q, hq, List.mem_of_getElem? (adrsP_at hw)⟩
  have := find_uniq (adrs_nodup ok.nod) hm
  unfold wordOf
  have ek : keyA (q.1, (j : Int)) = adrK (q.1, j, w) := rfl
  rw [ek, this]
  rfl
theorem word_no_int {qs : List Pk} {z : Str} {n : Int} (h : ∀ a ∈ adrs qs, a.1 = z → ((a.2.1 : Nat) : Int) ≠ n) : wordAt qs (.str z) (.int n) = none := by
  unfold wordAt
  cases e : adrOf (.str z) (.int n) with
  | none => rfl
  | some a0 =>
    have e : (if isNmS z = true then some (z, n) else none) = some a0 := e
    split at e
    · obtain rfl := Option.some.inj e
      show wordOf qs (keyA (z, n)) = none
      unfold wordOf
      rw [List.find?_eq_none.mpr]
      · rfl
      · intro a ha c
        have c := of_decide_eq_true c
        have c0 := congrArg (fun z : List Key => z[0]?) c
        have c1 := congrArg (fun z : List Key => z[1]?) c
        have c0 : a.1 = z := by simpa [adrK, keyA] using c0
        have c1 : ((a.2.1 : Nat) : Int) = n := by simpa [adrK, keyA] using c1
        exact h a ha c0 c1
    · cases e
theorem adr_in {qs : List Pk} (nod : (qs.map (·.1)).Nodup) {q : Pk} (hq : q ∈ qs) {a : Adr} (ha : a ∈ adrs qs) (e : a.1 = q.1) : a.2.1 < q.2.2.length := by
  obtain ⟨q', hq', ha'⟩ := List.mem_flatMap.mp ha
  have e1 := adrsP_nm ha'
  have : q' = q := by
    have h1 : q'.1 = q.1 := e1.symm.trans e
    have pw := List.pairwise_map.mp nod
    by_cases c : q' = q
    · exact c
    · rcases List.mem_iff_getElem.mp hq' with ⟨i, hi, rfl⟩
      rcases List.mem_iff_getElem.mp hq with ⟨j, hj, rfl⟩
      rcases Nat.lt_trichotomy i j with lt | rfl | lt
      · exact absurd h1 (List.pairwise_iff_getElem.mp pw i j hi hj lt)
      · exact absurd rfl c
      · exact absurd h1.symm (List.pairwise_iff_getElem.mp pw j i hj hi lt)
  subst this
  obtain ⟨i, hi, e2⟩ := List.mem_iff_getElem.mp ha'
  rw [adrsP_len] at hi
  have e3 := adrsP_at (q := q') (List.getElem?_eq_getElem hi)
  rw [List.getElem?_eq_getElem (by rw [adrsP_len]; exact hi), e2] at e3
  rw [Option.some.inj e3]
  exact hi
theorem th_ext {K : PySem.W.Frag} {H H' : Hp} (e : LamX.ExtN H H') {v : V} {d : PyData} (h : Th K H v d) : Th K H' v d := by
  have sl : ∀ {a : Addr} {xs : List V}, SqL K H a xs → SqL K H' a xs := fun h => h.imp (fun h => h.imp (fun h => e _ _ h (by intro x z; cases z)) (fun ⟨o, h⟩ => ⟨o, e _ _ h (by intro x z; cases z)⟩)) id
  have st : ∀ {a : Addr} {xs : List V}, SqT K H a xs → SqT K H' a xs := fun h => h.imp (fun h => h.imp (fun h => e _ _ h (by intro x z; cases z)) (fun ⟨o, h⟩ => ⟨o, e _ _ h (by intro x z; cases z)⟩)) id
  have go : ∀ (n : Nat) {v : V} {d : PyData}, d.depth ≤ n → Dp K H v d → Dp K H' v d := by
    intro n
    induction n with
    | zero =>
      intro v d hd h
      cases h with
      | non => exact .non
      | bl b => exact .bl b
      | int i => exact .int i
      | str x => exact .str x
      | lst _ _ => simp [PyData.depth] at hd
      | tup _ _ => simp [PyData.depth] at hd
    | succ n ih =>
      have all : ∀ {vs : List V} {ds : List PyData}, PyData.depthAll ds ≤ n → DpAll K H vs ds → DpAll K H' vs ds := by
        intro vs
        induction vs with
        | nil => intro ds _ h; cases h; exact .nil
        | cons v vs iht =>
          intro ds hd h
          cases h with
          | cons h t =>
            rw [PyData.depthAll] at hd
            exact .cons (ih (Nat.le_trans (Nat.le_max_left _ _) hd) h) (iht (Nat.le_trans (Nat.le_max_right _ _) hd) t)
      intro v d hd h
      cases h with
      | non => exact .non
      | bl b => exact .bl b
      | int i => exact .int i
      | str x => exact .str x
      | lst s a => exact .lst (sl s) (all (by simp only [PyData.depth] at hd; omega) a)
      | tup s a => exact .tup (st s) (all (by simp only [PyData.depth] at hd; omega) a)
  cases h with
  | dct h => exact .dct (e _ _ h (by intro x z; cases z))
  | dat h => exact .dat (go _ (Nat.le_refl _) h)
theorem sub_len : ∀ (zs ys : List Str), zs.Nodup → (∀ z ∈ zs, z ∈ ys) → zs.length ≤ ys.length
  | [], ys, _, _ => Nat.zero_le _
  | z :: zs, ys, nd, sub => by
    obtain ⟨n1, n2⟩ := List.nodup_cons.mp nd
    have hz : z ∈ ys := sub z List.mem_cons_self
    have el := List.length_erase_of_mem hz
    have pos : 0 < ys.length := List.length_pos_of_mem hz
    have ih := sub_len zs (ys.erase z) n2 fun y hy => (List.mem_erase_of_ne fun e => n1 (by rw [← e]; exact hy)).mpr (sub y (List.mem_cons_of_mem _ hy))
    rw [List.length_cons]
    omega
theorem rise_le : ∀ (p : Str) (l : List Str), risingS p l = true → (p :: l).Pairwise fun a b => ¬ b.cps.toList < a.cps.toList
  | p, [], _ => List.pairwise_singleton _ _
  | p, x :: r, h => by
    unfold risingS at h
    rw [Bool.and_eq_true, Bool.not_eq_true', ltCps_eq, decide_eq_false_iff_not] at h
    have ih := rise_le x r h.2
    obtain ⟨a, b⟩ := List.pairwise_cons.mp ih
    refine List.pairwise_cons.mpr ⟨fun y hy => ?_, ih⟩
    rcases List.mem_cons.mp hy with rfl | hy
    · exact h.1
    · exact List.not_lt.mpr (List.le_trans (List.not_lt.mp h.1) (List.not_lt.mp (a y hy)))
theorem sorted_le {l : List Str} (h : sortedS l = true) : l.Pairwise fun a b => ¬ b.cps.toList < a.cps.toList := by
  cases l with
  | nil => exact .nil
  | cons x r => exact rise_le x r h
theorem eqE_refl : ∀ (es : List (Key × PyData)), (es.map (·.1)).Nodup → (∀ e ∈ es, e.2.plain = true) → eqE es es = true := by
  intro es nd pl
  unfold eqE
  rw [List.all_eq_true]
  intro e he
  have : valD es e.1 = some e.2 := by
    unfold valD
    rw [find_uniq (f := fun e : Key × PyData => e.1) (List.pairwise_map.mp nd) he]
    rfl
  rw [this]
  exact SeqAt.eqv_refl_plain _ (pl e he)
theorem msD_nodup {ms : List (Str × (Str × Int))} (h : (ms.map (·.1)).Nodup) : ((msD ms).map (·.1)).Nodup := by
  have e : (msD ms).map (·.1) = (ms.map (·.1)).map (Sum.inr : Str → Key) := by simp [msD]
  rw [e]
  exact List.pairwise_map.mpr (h.imp fun hne e => hne (Sum.inr.inj e))
theorem msD_plain {ms : List (Str × (Str × Int))} : ∀ e ∈ msD ms, e.2.plain = true := by
  intro e he
  obtain ⟨m, _, rfl⟩ := List.mem_map.mp he
  rfl
theorem md_none {H : Hp} {md : List (Key × V)} {ms : List (Str × (Str × Int))} (h : PySem.W.EachIs (MdR H) md ms) (z : Str) : valV md (.inr z) = none ↔ z ∉ ms.map (·.1) := by
  unfold valV
  induction h with
  | nil => simp
  | @cons p m md ms h t ih =>
    obtain ⟨h1, _⟩ := h
    by_cases c : p.1 = .inr z
    · have : m.1 = z := Sum.inr.inj (h1.symm.trans c)
      simp [List.find?_cons, c, this]
    · have c2 : m.1 ≠ z := fun e => c (by rw [h1, e])
      rw [List.find?_cons]
      simp only [decide_eq_false c]
      rw [ih, List.map_cons, List.mem_cons, not_or]
      exact ⟨fun q => ⟨fun e => c2 e.symm, q⟩, fun q => q.2⟩
end DR

namespace DR
open PySem PySem.Spec PyProof.Rows L2
/-! ### units are made; _law_met_two, _law_met_odd -/
structure MkU (P : Program) (w : World) (K : PySem.W.Frag) (mg : Str → Option Value) (base : Heap) (C CB CT CW : Addr) : Prop where
  gl : mg "Unit" = some (.ref C)
  ex : ∃ (f : Addr) (fd : FuncData) (ds : List Value), Mk K C f ∧ Binds K fd ["self", "pieces", "told"] [] ∧ Vals [.non] ds ∧ Binds K fd ["self", "pieces", "told"] ds ∧ FnOk P w K mg base (L2.CX P w) 7 f fd ["self", "pieces", "told"] (spUnit K P w C CB CT CW)
theorem pe_makeU {X : Cx} {C CB CT CW : Addr} {E : XK} {p pos : Pos} {e : Expr} {es : List Expr} {t : TA} (M : MkU X.prog X.w X.K X.mg X.base C CB CT CW) (hr : Room 8 X.A) (hg : Gl X "Unit") (hx : Passes (L2.CX X.prog X.w) X E) (ha : PA X (e :: es) t)
    (hst : starEach (e :: es) X.env = (false, eval e X.env) :: starEach es X.env := by rfl) (hpl : (backTo pos (starEach es X.env)).any (·.1) = false := by rfl) :
    PE X (.Call (.Name "Unit" p) (e :: es) [] pos) (tMake C (spUnit X.K X.prog X.w C CB CT CW) [] E t) := by
  obtain ⟨gl, f, fd, ds, hm, hb, _, _, hf⟩ := M
  exact pe_make hm hf hr hg gl hb .nil hx ha (by decide) hst hpl
theorem pe_makeU1 {X : Cx} {C CB CT CW : Addr} {E : XK} {p pos : Pos} {e : Expr} {es : List Expr} {t : TA} (M : MkU X.prog X.w X.K X.mg X.base C CB CT CW) (hr : Room 8 X.A) (hg : Gl X "Unit") (hx : Passes (L2.CX X.prog X.w) X E) (ha : PA X (e :: es) t)
    (hst : starEach (e :: es) X.env = (false, eval e X.env) :: starEach es X.env := by rfl) (hpl : (backTo pos (starEach es X.env)).any (·.1) = false := by rfl) :
    PE X (.Call (.Name "Unit" p) (e :: es) [] pos) (tMake C (spUnit X.K X.prog X.w C CB CT CW) [.non] E t) := by
  obtain ⟨gl, f, fd, ds, hm, _, hv, hb, hf⟩ := M
  exact pe_make hm hf hr hg gl hb hv hx ha (by decide) hst hpl
end DR

namespace DR
open PySem PySem.Spec PyProof.Rows L2
/-! ### units made of data -/
theorem each_in {α β : Type} {R : α → β → Prop} : ∀ {as : List α} {bs : List β}, PySem.W.EachIs R as bs → ∀ a ∈ as, ∃ b ∈ bs, R a b
  | _, _, .nil, a, h => by simp at h
  | _, _, .cons (b := b) h t, a, ha => by
    rcases List.mem_cons.mp ha with rfl | ha
    · exact ⟨b, List.mem_cons_self .., h⟩
    · obtain ⟨b', h1, h2⟩ := each_in t a ha
      exact ⟨b', List.mem_cons_of_mem _ h1, h2⟩
/-- data that is read as a piece -/
def PcD (d : PyData) (q : Pk) : Prop := readPc d = some q ∧ okPc d
theorem good_uniq : ∀ {ds : List PyData} {qs qs' : List Pk}, PySem.W.EachIs GoodP ds qs → PySem.W.EachIs GoodP ds qs' → qs = qs'
  | _, _, _, .nil, .nil => rfl
  | _, _, _, .cons h t, .cons h' t' => by
    have h : readPc _ = some _ := h
    have h' : readPc _ = some _ := h'
    rw [h] at h'
    rw [Option.some.inj h', good_uniq t t']
theorem each_take {α β : Type} {R : α → β → Prop} : ∀ (i : Nat) {as : List α} {bs : List β}, PySem.W.EachIs R as bs → PySem.W.EachIs R (as.take i) (bs.take i)
  | 0, _, _, _ => by rw [List.take_zero, List.take_zero]; exact .nil
  | i + 1, _, _, .nil => by rw [List.take_nil, List.take_nil]; exact .nil
  | i + 1, _, _, .cons h t => by
    rw [List.take_succ_cons, List.take_succ_cons]
    exact .cons h (each_take i t)
theorem pcd_good : ∀ {ds : List PyData} {qs : List Pk}, PySem.W.EachIs PcD ds qs → PySem.W.EachIs GoodP ds qs
  | _, _, .nil => .nil
  | _, _, .cons h t => .cons h.1 (pcd_good t)
theorem bad_none {ds : List PyData} {qs : List Pk} (h : PySem.W.EachIs GoodP ds qs) (nod : (qs.map (·.1)).Nodup) {i : Nat} (b : BadP ds i) : False := by
  obtain ⟨x, qs', hx, h', nod', bad⟩ := b
  obtain ⟨q, hq, hg⟩ := eachs_get h hx
  have hg : readPc x = some q := hg
  rcases bad with bad | ⟨q', e, hm⟩
  · rw [hg] at bad; cases bad
  · rw [hg] at e
    obtain rfl := Option.some.inj e
    obtain rfl := good_uniq (each_take i h) h'
    have : q.1 ∉ (qs.take i).map (·.1) := by
      rw [List.map_take]
      exact take_not nod (by rw [List.getElem?_map, hq]; rfl)
    exact this hm
/-- the first thing that is wrong stands at k -/
structure BadAt (ds : List PyData) (k : Nat) : Prop where
  ex : ∃ x qs, ds[k]? = some x ∧ PySem.W.EachIs GoodP (ds.take k) qs ∧ (qs.map (·.1)).Nodup ∧ (readPc x = none ∨ ∃ q, readPc x = some q ∧ q.1 ∈ qs.map (·.1))
theorem take_take_le {α : Type} {l : List α} {i k : Nat} (h : i ≤ k) : (l.take k).take i = l.take i := by rw [List.take_take, Nat.min_eq_left h]
theorem BadAt.uniq {ds : List PyData} {k i : Nat} (h : BadAt ds k) (b : BadP ds i) : i = k := by
  obtain ⟨x, qs, hx, hg, nod, bad⟩ := h.ex
  rcases Nat.lt_trichotomy i k with lt | e | lt
  · refine (bad_none hg nod (i := i) ?_).elim
    obtain ⟨y, qs', hy, h', nod', bad'⟩ := b
    refine ⟨y, qs', ?_, by rw [take_take_le (Nat.le_of_lt lt)]; exact h', nod', bad'⟩
    rw [List.getElem?_take, if_pos lt]
    exact hy
  · exact e
  · obtain ⟨y, qs', hy, h', nod', bad'⟩ := b
    refine (bad_none h' nod' (i := k) ⟨x, qs, ?_, by rw [take_take_le (Nat.le_of_lt lt)]; exact hg, nod, bad⟩).elim
    rw [List.getElem?_take, if_pos lt]
    exact hx
theorem BadAt.not {ds : List PyData} {k : Nat} (h : BadAt ds k) {qs : List Pk} (g : PySem.W.EachIs GoodP ds qs) (nod : (qs.map (·.1)).Nodup) : False := bad_none g nod (i := k) h.ex
/-- what an image can be made of -/
structure HdOk (d : PyData) (qs : List Pk) : Prop where
  ex : ∃ ds, items d = some ds ∧ PySem.W.EachIs PcD ds qs
  few : qs.length ≤ 10
  len : ∀ q ∈ qs, q.2.2.length ≤ 10
  nod : (qs.map (·.1)).Nodup
section
variable {K : PySem.W.Frag} {P : Program} {w : World} {C CB CT CW : Addr} {H : Hp} {v tv : V} {d : PyData} {Q : VK} {E : XK} {x dx : Addr}
theorem made_same (hx : H x = none) (hdx : H dx = none) (hne : dx ≠ x) : Same H (upd (upd H dx (.own x)) x (.ins C dx [])) := (same_new (o := .own x) hdx).trans (same_new (o := .ins C dx []) (H := upd H dx (.own x)) (by rw [upd_ne hne.symm]; exact hx))
theorem errU_at {CE : Addr} {fs : List (Str × V)} (hx : H x = none) (hdx : H dx = none) (hne : dx ≠ x) (q : ∀ H2 d2, (∀ b o, tv ≠ .ref b → H b = some o → H2 b = some o) → H2 d2 = none → E (.ref CE) (some d2) (upd H2 d2 (.xd fs))) : ErrU E (upd (upd H dx (.own x)) x (.ins C dx [])) x tv CE fs := fun H' d' kp hd' =>
  q H' d' (fun b o hb e => kp b o (ne_of_none e hx) hb (made_same (C := C) hx hdx hne _ _ e)) hd'
theorem unit_norow (th : ThE K H v d) (ei : items d = none) (hx : H x = none) (hdx : H dx = none) (hne : dx ≠ x) (q : ∀ H2 d2, (∀ b o, tv ≠ .ref b → H b = some o → H2 b = some o) → H2 d2 = none → E (.ref CB) (some d2) (upd H2 d2 (.xd [("index", .int 0)]))) :
    spUnit K P w C CB CT CW (.ref x :: ([v, tv] ++ [])) (upd (upd H dx (.own x)) x (.ins C dx [])) Q E :=
  ⟨x, dx, v, tv, d, rfl, upd_same, thE_same (made_same hx hdx hne) th, .inl ⟨ei, errU_at hx hdx hne q⟩⟩
theorem unit_piece {ds : List PyData} {k : Nat} (th : ThE K H v d) (ei : items d = some ds) (few : ds.length ≤ 10) (okd : ∀ y ∈ ds, okPc y ∧ ∀ q, readPc y = some q → q.2.2.length ≤ 10) (b : BadAt ds k) (hx : H x = none) (hdx : H dx = none) (hne : dx ≠ x) (q : ∀ H2 d2, (∀ b o, tv ≠ .ref b → H b = some o → H2 b = some o) → H2 d2 = none → E (.ref CB) (some d2) (upd H2 d2 (.xd [("index", .int (k : Nat))]))) :
    spUnit K P w C CB CT CW (.ref x :: ([v, tv] ++ [])) (upd (upd H dx (.own x)) x (.ins C dx [])) Q E :=
  ⟨x, dx, v, tv, d, rfl, upd_same, thE_same (made_same hx hdx hne) th, .inr ⟨ds, ei, few, okd, fun i hi => by
    rw [b.uniq hi]
    exact errU_at hx hdx hne q, fun qs g nod => (b.not g nod).elim⟩⟩
theorem hd_okd {ds : List PyData} {qs : List Pk} (hds : PySem.W.EachIs PcD ds qs) (len : ∀ q ∈ qs, q.2.2.length ≤ 10) : ∀ y ∈ ds, okPc y ∧ ∀ q, readPc y = some q → q.2.2.length ≤ 10 := fun y hy => by
  obtain ⟨q1, hq1, h1⟩ := each_in hds y hy
  refine ⟨h1.2, fun q2 e => ?_⟩
  rw [h1.1] at e
  obtain rfl := Option.some.inj e
  exact len _ hq1
/-- pieces that are right: what is told decides -/
theorem unit_any {qs : List Pk} (th : ThE K H v d) (hd : HdOk d qs) (fn : (namesQ qs).length < 64) (fm : ∀ a ∈ adrs qs, a.2.2.2.length ≤ 1000) (hx : H x = none) (hdx : H dx = none) (hne : dx ≠ x)
    (tl : ∀ H1, Same H H1 → H1 x = some (.ins C dx []) → Tld K P w qs x H1 tv (fun y => ErrU E H1 x tv CT [("name", y)]) (fun ms => (∀ a, badU qs = some a → ErrU E H1 x tv CW [("k", .int (a.2.1 : Nat)), ("p", .str a.1)]) ∧
        (badU qs = none → ∀ H' ns, (∀ b o, b ≠ x → H1 b = some o → H' b = some o) → UnG H' C x qs ms ns → NewM H1 H' C x → Q .non H'))) :
    spUnit K P w C CB CT CW (.ref x :: ([v, tv] ++ [])) (upd (upd H dx (.own x)) x (.ins C dx [])) Q E := by
  obtain ⟨ds, ei, hds⟩ := hd.ex
  have lds := hds.length
  have few := hd.few
  have hg := pcd_good hds
  refine ⟨x, dx, v, tv, d, rfl, upd_same, thE_same (made_same hx hdx hne) th, .inr ⟨ds, ei, by omega, hd_okd hds hd.len, fun i b => (bad_none hg hd.nod b).elim, fun qs' g' nod' => ?_⟩⟩
  obtain rfl := good_uniq hg g'
  exact ⟨fn, fm, tl _ (made_same hx hdx hne) upd_same⟩
end
end DR

namespace DR
open PySem PySem.Spec PyProof.Rows L2
/-! ### what leads where -/
abbrev MsT := List (Str × (Str × Int))
def ledU (ms : MsT) (u : List Key) : Option Str := match u with
  | [.inr k, .inr o] => if k = sPiece then some o else (ms.find? fun m => decide (m.1 = o)).map (·.2.1)
  | _ => none
def ledW (ms : MsT) (w : Int × Mul) : List Str := w.2.filterMap fun q => ledU ms q.1
def homeQ (qs : List Pk) (p : Str) : List (Int × Mul) := ((qs.find? fun q => decide (q.1 = p)).map (·.2.2)).getD []
def Led (qs : List Pk) (ms : MsT) (p q : Str) : Prop := ∃ (k : Nat) (w : Int × Mul), (homeQ qs p)[k]? = some w ∧ q ∈ ledW ms w
/-- what is reached in so many steps -/
def Rt (qs : List Pk) (ms : MsT) (S : List Str) : Nat → Str → Prop
  | 0, p => p ∈ S
  | t + 1, p => Rt qs ms S t p ∨ ∃ p', Rt qs ms S t p' ∧ Led qs ms p' p
/-- .. and in no fewer -/
def Ds (qs : List Pk) (ms : MsT) (S : List Str) (t : Nat) (p : Str) : Prop := Rt qs ms S t p ∧ ∀ j, j < t → ¬ Rt qs ms S j p
def Rch (qs : List Pk) (ms : MsT) (S : List Str) (p : Str) : Prop := ∃ t, Ds qs ms S t p
section
variable {qs : List Pk} {ms : MsT} {S : List Str} {t t' j : Nat} {p q : Str}
theorem rt_mono (h : Rt qs ms S t p) (l : t ≤ t') : Rt qs ms S t' p := by
  induction l with
  | refl => exact h
  | step _ ih => exact .inl ih
theorem ds_ex : ∀ {t : Nat} {p : Str}, Rt qs ms S t p → ∃ j, j ≤ t ∧ Ds qs ms S j p
  | 0, p, h => ⟨0, Nat.le_refl _, h, fun j hj => absurd hj (Nat.not_lt_zero _)⟩
  | t + 1, p, h => by
    by_cases c : Rt qs ms S t p
    · obtain ⟨j, hj, d⟩ := ds_ex c
      exact ⟨j, Nat.le_succ_of_le hj, d⟩
    · exact ⟨t + 1, Nat.le_refl _, h, fun j hj z => c (rt_mono z (Nat.le_of_lt_succ hj))⟩
theorem ds_eq (h : Ds qs ms S t p) (h' : Ds qs ms S t' p) : t = t' := by
  rcases Nat.lt_trichotomy t t' with l | e | l
  · exact absurd h.1 (h'.2 t l)
  · exact e
  · exact absurd h'.1 (h.2 t' l)
theorem ds_pre (h : Ds qs ms S (t + 1) q) : ∃ p, Ds qs ms S t p ∧ Led qs ms p q := by
  rcases h.1 with c | ⟨p, hp, l⟩
  · exact absurd c (h.2 t (Nat.lt_succ_self _))
  · refine ⟨p, ⟨hp, fun j hj z => ?_⟩, l⟩
    exact h.2 (j + 1) (Nat.succ_lt_succ hj) (.inr ⟨p, z, l⟩)
theorem ds_step (h : Rt qs ms S t p) (l : Led qs ms p q) (n : ¬ Rt qs ms S t q) : Ds qs ms S (t + 1) q :=
  ⟨.inr ⟨p, h, l⟩, fun j hj z => n (rt_mono z (Nat.le_of_lt_succ hj))⟩
theorem ds_chain : ∀ {t : Nat} {p : Str}, Ds qs ms S t p → ∃ xs : List Str, xs.length = t + 1 ∧ xs.Nodup ∧ ∀ x ∈ xs, ∃ j, j ≤ t ∧ Ds qs ms S j x
  | 0, p, h => ⟨[p], rfl, by simp, fun x hx => by rw [List.mem_singleton.mp hx]; exact ⟨0, Nat.le_refl _, h⟩⟩
  | t + 1, p, h => by
    obtain ⟨p', h', _⟩ := ds_pre h
    obtain ⟨xs, l, nd, al⟩ := ds_chain h'
    refine ⟨p :: xs, by rw [List.length_cons, l], List.nodup_cons.mpr ⟨fun m => ?_, nd⟩, fun x hx => ?_⟩
    · obtain ⟨j, hj, d⟩ := al p m
      have := ds_eq d h
      omega
    · rcases List.mem_cons.mp hx with rfl | hx
      · exact ⟨t + 1, Nat.le_refl _, h⟩
      · obtain ⟨j, hj, d⟩ := al x hx
        exact ⟨j, Nat.le_succ_of_le hj, d⟩
/-- all that is reached is among these -/
structure Among (qs : List Pk) (ms : MsT) (S ns : List Str) : Prop where
  root : ∀ p ∈ S, p ∈ ns
  led : ∀ p ∈ ns, ∀ q, Led qs ms p q → q ∈ ns
theorem Among.rt {ns : List Str} (h : Among qs ms S ns) : ∀ {t : Nat} {p : Str}, Rt qs ms S t p → p ∈ ns
  | 0, p, c => h.root p c
  | t + 1, p, c => by
    rcases c with c | ⟨p', c, l⟩
    · exact h.rt c
    · exact h.led p' (h.rt c) p l
theorem Among.lt {ns : List Str} (h : Among qs ms S ns) (d : Ds qs ms S t p) : t < ns.length := by
  obtain ⟨xs, l, nd, al⟩ := ds_chain d
  have := sub_len xs ns nd fun x hx => by
    obtain ⟨j, _, d⟩ := al x hx
    exact h.rt d.1
  omega
/-- where nothing new is reached all is reached -/
theorem ds_none (h : ∀ p, ¬ Ds qs ms S t p) : ∀ {j : Nat} {p : Str}, Ds qs ms S j p → j < t := by
  intro j p d
  by_cases c : j < t
  · exact c
  · have key : ∀ n p, ¬ Ds qs ms S (t + n) p := by
      intro n
      induction n with
      | zero => exact h
      | succ n ih =>
        intro p d
        obtain ⟨p', d', _⟩ := ds_pre d
        exact ih p' d'
    have e : j = t + (j - t) := by omega
    rw [e] at d
    exact absurd d (key _ p)
/-- a way of words -/
def VW (qs : List Pk) (ms : MsT) : List Str → List (Str × Nat) → Str → Prop
  | here, [], p => p ∈ here
  | here, a :: rest, p => a.1 ∈ here ∧ ∃ w, (homeQ qs a.1)[a.2]? = some w ∧ VW qs ms (ledW ms w) rest p
theorem vw_snoc {k : Nat} {w : Int × Mul} (hw : (homeQ qs p)[k]? = some w) (hq : q ∈ ledW ms w) : ∀ {way : List (Str × Nat)} {here : List Str}, VW qs ms here way p → VW qs ms here (way ++ [(p, k)]) q
  | [], here, h => ⟨h, w, hw, hq⟩
  | a :: way, here, h => by
    obtain ⟨h1, w', h2, h3⟩ := h
    exact ⟨h1, w', h2, vw_snoc hw hq h3⟩
/-- what is found behind some rounds -/
abbrev FsT := List (Str × List (Str × Nat))
structure Bfs (qs : List Pk) (ms : MsT) (S : List Str) (t : Nat) (fs : FsT) (looked : List Str) : Prop where
  nod : (fs.map (·.1)).Nodup
  way : ∀ f ∈ fs, VW qs ms S f.2 f.1 ∧ Ds qs ms S f.2.length f.1
  dom : ∀ p, p ∈ fs.map (·.1) ↔ Rt qs ms S t p
  lk : ∀ p, p ∈ looked ↔ Ds qs ms S t p
  lnod : looked.Nodup
/-- .. within a round: done are those whose leads are all looked at -/
structure BfsI (qs : List Pk) (ms : MsT) (S : List Str) (t : Nat) (looked : List Str) (Done : Str → Str → Prop) (fs : FsT) (newer : List Str) : Prop where
  nod : (fs.map (·.1)).Nodup
  way : ∀ f ∈ fs, VW qs ms S f.2 f.1 ∧ Ds qs ms S f.2.length f.1
  dom : ∀ p, Rt qs ms S t p → p ∈ fs.map (·.1)
  nw : ∀ p, p ∈ newer ↔ (p ∈ fs.map (·.1) ∧ Ds qs ms S (t + 1) p)
  nnod : newer.Nodup
  top : ∀ p ∈ fs.map (·.1), Rt qs ms S (t + 1) p
  dn : ∀ p q, Done p q → q ∈ fs.map (·.1)
theorem Bfs.start {fs : FsT} {looked : List Str} (h : Bfs qs ms S t fs looked) : BfsI qs ms S t looked (fun _ _ => False) fs [] :=
  ⟨h.nod, h.way, fun p c => (h.dom p).mpr c, fun p => ⟨fun c => (by cases c), fun ⟨c, d⟩ => absurd ((h.dom p).mp c) (d.2 t (Nat.lt_succ_self _))⟩, List.nodup_nil, fun p c => .inl ((h.dom p).mp c), fun _ _ c => c.elim⟩
theorem BfsI.done {looked newer : List Str} {fs : FsT} {D D' : Str → Str → Prop} (h : BfsI qs ms S t looked D fs newer) (e : ∀ p q, D' p q → D p q ∨ q ∈ fs.map (·.1)) : BfsI qs ms S t looked D' fs newer :=
  ⟨h.nod, h.way, h.dom, h.nw, h.nnod, h.top, fun p q c => (e p q c).elim (h.dn p q) id⟩
theorem BfsI.add {looked newer : List Str} {fs : FsT} {D D' : Str → Str → Prop} {way : List (Str × Nat)} {k : Nat} {w : Int × Mul} (h : BfsI qs ms S t looked D fs newer) (hp : Ds qs ms S t p) (hf : (p, way) ∈ fs) (hw : (homeQ qs p)[k]? = some w) (hq : q ∈ ledW ms w) (n : q ∉ fs.map (·.1)) (e : ∀ p' q', D' p' q' → D p' q' ∨ q' = q) :
    BfsI qs ms S t looked D' (fs ++ [(q, way ++ [(p, k)])]) (newer ++ [q]) := by
  have nq : ¬ Rt qs ms S t q := fun z => n (h.dom q z)
  have dq : Ds qs ms S (t + 1) q := ds_step hp.1 ⟨k, w, hw, hq⟩ nq
  obtain ⟨v1, v2⟩ := h.way _ hf
  have lw : way.length = t := ds_eq v2 hp
  have mm : ∀ x, x ∈ (fs ++ [(q, way ++ [(p, k)])]).map (·.1) ↔ (x ∈ fs.map (·.1) ∨ x = q) := fun x => by
    rw [List.map_append, List.mem_append]
    show _ ∨ x ∈ [q] ↔ _
    rw [List.mem_singleton]
  refine ⟨?_, fun f hf' => ?_, fun x c => (mm x).mpr (.inl (h.dom x c)), fun x => ?_, ?_, fun x c => ?_, fun x y c => ?_⟩
  · rw [List.map_append]
    refine List.nodup_append.mpr ⟨h.nod, by simp, fun a ha b hb z => ?_⟩
    have hb : b = q := List.mem_singleton.mp hb
    rw [z, hb] at ha
    exact n ha
  · rcases List.mem_append.mp hf' with hf' | hf'
    · exact h.way f hf'
    · rw [List.mem_singleton.mp hf']
      refine ⟨vw_snoc hw hq v1, ?_⟩
      show Ds qs ms S (way ++ [(p, k)]).length q
      rw [List.length_append, List.length_singleton, lw]
      exact dq
  · rw [mm, List.mem_append, List.mem_singleton, h.nw]
    constructor
    · rintro (⟨a, b⟩ | rfl)
      · exact ⟨.inl a, b⟩
      · exact ⟨.inr rfl, dq⟩
    · rintro ⟨a | rfl, b⟩
      · exact .inl ⟨a, b⟩
      · exact .inr rfl
  · refine List.nodup_append.mpr ⟨h.nnod, by simp, fun a ha b hb z => ?_⟩
    have hb : b = q := List.mem_singleton.mp hb
    rw [z, hb] at ha
    exact n ((h.nw q).mp ha).1
  · rcases (mm x).mp c with c | rfl
    · exact h.top x c
    · exact dq.1
  · rcases e x y c with c | rfl
    · exact (mm y).mpr (.inl (h.dn x y c))
    · exact (mm y).mpr (.inr rfl)
theorem BfsI.next {looked newer : List Str} {fs : FsT} {D : Str → Str → Prop} (h : BfsI qs ms S t looked D fs newer) (e : ∀ p q, Ds qs ms S t p → Led qs ms p q → D p q) : Bfs qs ms S (t + 1) fs newer := by
  have dom : ∀ p, Rt qs ms S (t + 1) p → p ∈ fs.map (·.1) := fun p c => by
    rcases c with c | ⟨p', c, l⟩
    · exact h.dom p c
    · obtain ⟨j, hj, d⟩ := ds_ex c
      rcases Nat.lt_or_eq_of_le hj with lt | rfl
      · exact h.dom p (rt_mono (t := j + 1) (.inr ⟨p', d.1, l⟩) lt)
      · exact h.dn p' p (e p' p d l)
  exact ⟨h.nod, h.way, fun p => ⟨h.top p, dom p⟩, fun p => ⟨fun c => ((h.nw p).mp c).2, fun d => (h.nw p).mpr ⟨dom p d.1, d⟩⟩, h.nnod⟩
/-- all is found -/
theorem Bfs.all {fs : FsT} (h : Bfs qs ms S t fs []) (p : Str) : p ∈ fs.map (·.1) ↔ Rch qs ms S p := by
  have nn : ∀ p, ¬ Ds qs ms S t p := fun p d => by
    have := (h.lk p).mpr d
    cases this
  rw [h.dom]
  constructor
  · intro c
    obtain ⟨j, _, d⟩ := ds_ex c
    exact ⟨j, d⟩
  · rintro ⟨j, d⟩
    exact rt_mono d.1 (Nat.le_of_lt (ds_none nn d))
end
end DR

namespace DR
open PySem PySem.Spec PyProof.Rows L2
/-! ### the items of a dict whose keys are tuples -/
section
variable {X : Cx} {pins : List (Addr × Obj)} {σ : L2.St} {H : Hp} {s : Shared} {d : Addr} {o : Obj}
theorem frzTI {kvs : List (List Key × V)} (I : Inv X pins σ H s) (h : H d = some (.frz o (.dT kvs))) :
    (d == sysModules) = false ∧ s.heap.get? d = some o ∧ o.ExactDict ∧ ∃ (es : Array DictEntry) (ep : Nat), o.data = .dict es ep ∧ es.size = kvs.length ∧
      ∀ (i : Nat) (k : List Key) (v : V), kvs[i]? = some (k, v) → ∃ (en : DictEntry) (q : Addr), es[i]? = some en ∧ en.key = .ref q ∧ H q = some (.tup (k.map kV)) ∧ L2.RelV v en.val := by
  obtain ⟨hd, z, hs, xs, pr, o', es, ep, ho, hx, hdt, he, _⟩ := I.hok d _ h
  rw [hd] at ho
  cases ho
  refine ⟨hs, hd, hx, es, ep, hdt, ?_, fun i k v e => ?_⟩
  · have l1 : es.size = xs.length := size_of_entries he
    have l2 : kvs.length = xs.length := Paired.length pr
    omega
  · obtain ⟨b, hb, e1, e2, e3⟩ := paired_get pr e
    have q := entry_at he i
    rw [hb] at q
    exact ⟨_, b.2.1, q, rfl, e2, e3⟩
end
/-- the pairs of a key's own tuple and a value, each a new tuple -/
def Itit (d : Addr) (o : Obj) (kvs : List (List Key × V)) : It :=
  ⟨fun i H => H d = some (.frz o (.dT kvs)) ∧ i < kvs.length, fun i H x H' => ∃ T k v q, kvs[i]? = some (k, v) ∧ H q = some (.tup (k.map kV)) ∧ x = .ref T ∧ H T = none ∧ H' = upd H T (.tup [.ref q, v]), fun i H => H d = some (.frz o (.dT kvs)) ∧ kvs.length ≤ i⟩
section
variable {P : Program} {w : World} {K : PySem.W.Frag} {tg : Expr} {d : Addr} {o : Obj} {es : Array DictEntry} {ep : Nat}
theorem turn_itemsT {kvs : List (List Key × V)} {elts : List Expr} {kk : Nat} {tpos : Pos} (it : Addr) (hod : o.data = .dict es ep) :
    Turn P w K (.Tuple elts kk tpos) (Itit d o kvs) [it] it (fun i h => ∃ ok ov, IsItemIter h it d i kvs.length ep ok ov) where
  mem := by simp
  obj := fun i h st b hb => by
    have e : b = it := by simpa using hb
    subst e
    obtain ⟨ok, ov, e⟩ := st
    exact ⟨_, e, fun v z => nomatch z⟩
  keep := fun i h h' st k => let ⟨ok, ov, e⟩ := st; ⟨ok, ov, k it (by simp) _ e⟩
  item := by
    intro X hP hw hK hc i pins s σ H E I hf st hg
    subst hP hw hK
    obtain ⟨hd, hi⟩ := hg
    obtain ⟨hs, hgd, hx, es', ep', hdt, hsz, ent⟩ := frzTI I hd
    obtain ⟨rfl, rfl⟩ := dict_ep hod hdt
    obtain ⟨⟨k, v⟩, hkv⟩ : ∃ p, kvs[i]? = some p := ⟨kvs[i], List.getElem?_eq_getElem hi⟩
    obtain ⟨en, q, hen, hkey, hq, ru⟩ := ent i k v hkv
    have hsl : i < es'.size := by omega
    have ee : es'[i] = en := by
      rw [Array.getElem?_eq_getElem hsl] at hen
      exact Option.some.inj hen
    obtain ⟨ok, ov, he⟩ := st
    rw [← hsz] at he
    have hlt : it < s.heap.objs.size := Heap.lt_size he
    refine wpAny_pyNext_items_item_raw he ⟨o, hgd, hx, hdt⟩ hsl fun h' ho hT hz hk => ?_
    rw [ee, hkey] at hT
    refine ⟨_, rfl, wpAny_letOwnedTupleGo_items (s := { s with heap := h' }) ho fun h'' he' sb => ?_⟩
    have hT2 : h''.get? s.heap.objs.size = some { cls := .type "tuple", data := .seq #[.ref q, en.val] } := (sb.2 _ (Nat.ne_of_gt hlt)).trans hT
    have new : ObjOk X.prog X.w (upd H s.heap.objs.size (.tup [.ref q, v])) h'' s.heap.objs.size (.tup [.ref q, v]) :=
      ⟨by show 2 ≤ sizeLine; decide, [.ref q, en.val], .cons rfl (.cons ru .nil), ⟨_, hT2, rfl, _, rfl⟩⟩
    have I1 : Inv X pins σ (upd H s.heap.objs.size (.tup [.ref q, v])) { s with heap := h'' } :=
      I.turnedNew (t' := s.toks) (ch := [it]) (fun b ob hb e => (sb.2 b (by simpa using hb)).trans (hk b ob (by simpa using hb) e)) hf (Nat.le_refl _) new
    refine ⟨.ref s.heap.objs.size, _, I1, rfl, ⟨_, k, v, q, hkv, hq, rfl, I.hok.fresh (Nat.le_refl _), rfl⟩, ⟨es'[i].key, es'[i].val, ?_⟩, fun b hb => ?_⟩
    · rw [← hsz]; exact he'
    · have e : b = it := by simpa using hb
      rw [e, upd_ne (Nat.ne_of_lt hlt)]
      exact (hf it (by simp)).1
  done := by
    intro X hP hw hK hc i pins s σ H E I hf st hg
    subst hP hw hK
    obtain ⟨hd, hi⟩ := hg
    obtain ⟨f0, f1, f2, f3, f4, f5⟩ := hf it (by simp)
    obtain ⟨hs, hgd, hx, es', ep', hdt, hsz, ent⟩ := frzTI I hd
    obtain ⟨rfl, rfl⟩ := dict_ep hod hdt
    obtain ⟨ok, ov, he⟩ := st
    rw [← hsz] at he
    exact wpAny_pyNext_items_end_raw (I.ok.hd hc) he ⟨o, hgd, hx, hdt⟩ (by omega) fun h' eb => ⟨rfl, I.turned (t' := s.toks) (fun b ob hb e => eb b ob hb e) f0 f1 f3 f4 f5⟩
  self := fun A i s Q E st h => let ⟨_, _, e⟩ := st; PySem.W.kcp_self e h
end
/-- d.items(), the keys of d tuples -/
def iItemsT (td : TE) : TI := fun σ H R => td σ H fun x H1 => ∃ d o kvs, x = .ref d ∧ H1 d = some (.frz o (.dT kvs)) ∧ R (Itit d o kvs) H1
theorem pi_itemsT {X : Cx} {e : Expr} {td : TE} {apos cpos : Pos} {elts : List Expr} {kk : Nat} {tpos : Pos} (he : PE X e td) (hbase : attributeBase e "items" X.env (eval e X.env) = eval e X.env := by rfl) (hline : (apos.endLine == cpos.line) = true := by rfl) :
    PI X (.Tuple elts kk tpos) (.Call (.Attribute e "items" apos) [] [] cpos) (iItemsT td) := by
  refine ⟨fun pins s σ H R I h => ?_⟩
  refine wpAny_Call_method (T := "dict") (id := "dict.items") hbase rfl hline PySem.F.plainAttrs_dict PySem.F.slot_dict_items PySem.F.type_dict_items (thn (he.run pins s σ H _ I h) fun u s1 ⟨x, H1, I1, rx, d, o, kvs, ex, hd, q⟩ => ?_)
  subst ex
  obtain rfl : u = Value.ref d := rx
  obtain ⟨hs, hgd, hx, es, ep, hdt, hsz, ent⟩ := frzTI I1 hd
  have hm : s1.heap.DictRaw d es ep := ⟨o, hgd, hx, hdt⟩
  refine ⟨hm.typeIs, fun b e => ?_, ?_⟩
  · cases e
    exact ⟨o, hgd, hx.2.1⟩
  have I2 : Inv X pins σ H1 { s1 with heap := s1.heap.push { cls := .type "dict_items", data := .fields #[.ref d] } } := I1.kept (t' := s1.toks) fun b ob q => Heap.get?_push_of_some _ q
  have fin : wpAny (model X.prog X.w) X.A (pyIter (.ref s1.heap.objs.size)) (PIE X pins σ (.Tuple elts kk tpos) R) X.xe { s1 with heap := s1.heap.push { cls := .type "dict_items", data := .fields #[.ref d] } } := by
    refine wpAny_pyIter_items_raw (d := d) ⟨_, Heap.get?_push_size _ rfl, rfl, rfl⟩ (hm.push _) (pi_one (tk := s1.toks) I2 _ (turn_itemsT _ hdt) ⟨.none, .none, ?_⟩ q)
    rw [← hsz]
    exact Heap.get?_push_size _ rfl
  show wpAny _ _ (callWith cpos (.builtin "dict.items") [.ref d] [] []) _ X.xe s1
  exact method_meetsIn PySem.F.slot_dict_items PySem.F.entry_dict_items rfl (PySem.evalArgs_none ⟨rfl, hm.typeIs, PySem.F.args_dict_items_1 _, _, meets_dict_items_raw d hs, ⟨⟨es, ep, hm⟩, fin⟩⟩)
/-- d.items() of a dict that nobody changes from here on -/
def iItemsTF (td : TE) : TI := fun σ H R => td σ H fun x H1 => ∃ d kvs, x = .ref d ∧ H1 d = some (.dT kvs) ∧ ∀ o, R (Itit d o kvs) (upd H1 d (.frz o (.dT kvs)))
theorem pi_itemsTF {X : Cx} {e : Expr} {td : TE} {apos cpos : Pos} {elts : List Expr} {kk : Nat} {tpos : Pos} (he : PE X e td) (hbase : attributeBase e "items" X.env (eval e X.env) = eval e X.env := by rfl) (hline : (apos.endLine == cpos.line) = true := by rfl) :
    PI X (.Tuple elts kk tpos) (.Call (.Attribute e "items" apos) [] [] cpos) (iItemsTF td) := by
  refine ⟨fun pins s σ H R I h => ?_⟩
  refine wpAny_Call_method (T := "dict") (id := "dict.items") hbase rfl hline PySem.F.plainAttrs_dict PySem.F.slot_dict_items PySem.F.type_dict_items (thn (he.run pins s σ H _ I h) fun u s1 ⟨x, H0, I0, rx, d, kvs, ex, hd0, q⟩ => ?_)
  subst ex
  obtain ⟨o, I1⟩ := I0.lock hd0 trivial
  have hd : upd H0 d (.frz o (.dT kvs)) d = some (.frz o (.dT kvs)) := upd_same
  have q := q o
  generalize upd H0 d (.frz o (.dT kvs)) = H1 at I1 hd q
  obtain rfl : u = Value.ref d := rx
  obtain ⟨hs, hgd, hx, es, ep, hdt, hsz, ent⟩ := frzTI I1 hd
  have hm : s1.heap.DictRaw d es ep := ⟨o, hgd, hx, hdt⟩
  refine ⟨hm.typeIs, fun b e => ?_, ?_⟩
  · cases e
    exact ⟨o, hgd, hx.2.1⟩
  have I2 : Inv X pins σ H1 { s1 with heap := s1.heap.push { cls := .type "dict_items", data := .fields #[.ref d] } } := I1.kept (t' := s1.toks) fun b ob q => Heap.get?_push_of_some _ q
  have fin : wpAny (model X.prog X.w) X.A (pyIter (.ref s1.heap.objs.size)) (PIE X pins σ (.Tuple elts kk tpos) R) X.xe { s1 with heap := s1.heap.push { cls := .type "dict_items", data := .fields #[.ref d] } } := by
    refine wpAny_pyIter_items_raw (d := d) ⟨_, Heap.get?_push_size _ rfl, rfl, rfl⟩ (hm.push _) (pi_one (tk := s1.toks) I2 _ (turn_itemsT _ hdt) ⟨.none, .none, ?_⟩ q)
    rw [← hsz]
    exact Heap.get?_push_size _ rfl
  show wpAny _ _ (callWith cpos (.builtin "dict.items") [.ref d] [] []) _ X.xe s1
  exact method_meetsIn PySem.F.slot_dict_items PySem.F.entry_dict_items rfl (PySem.evalArgs_none ⟨rfl, hm.typeIs, PySem.F.args_dict_items_1 _, _, meets_dict_items_raw d hs, ⟨⟨es, ep, hm⟩, fin⟩⟩)
def iItemsF (td : TE) : TI := fun σ H R => td σ H fun x H1 => ∃ d kvs, x = .ref d ∧ H1 d = some (.dK kvs) ∧ ∀ o, R (Iti d o kvs) (upd H1 d (.frz o (.dK kvs)))
theorem pi_itemsF {X : Cx} {e : Expr} {td : TE} {apos cpos : Pos} {elts : List Expr} {kk : Nat} {tpos : Pos} (he : PE X e td) (hbase : attributeBase e "items" X.env (eval e X.env) = eval e X.env := by rfl) (hline : (apos.endLine == cpos.line) = true := by rfl) :
    PI X (.Tuple elts kk tpos) (.Call (.Attribute e "items" apos) [] [] cpos) (iItemsF td) := by
  refine ⟨fun pins s σ H R I h => ?_⟩
  refine wpAny_Call_method (T := "dict") (id := "dict.items") hbase rfl hline PySem.F.plainAttrs_dict PySem.F.slot_dict_items PySem.F.type_dict_items (thn (he.run pins s σ H _ I h) fun u s1 ⟨x, H0, I0, rx, d, kvs, ex, hd0, q⟩ => ?_)
  subst ex
  obtain ⟨o, I1⟩ := I0.lock hd0 trivial
  have hd : upd H0 d (.frz o (.dK kvs)) d = some (.frz o (.dK kvs)) := upd_same
  have q := q o
  generalize upd H0 d (.frz o (.dK kvs)) = H1 at I1 hd q
  obtain rfl : u = Value.ref d := rx
  obtain ⟨hs, hgd, hx, es, ep, vs, hdt, hsz, kv, hm⟩ := I1.frzK hd
  have hl : kvs.length = vs.length := Paired.length kv
  refine ⟨hm.dictOf.typeIs, hm.dictOf.mapOf.noDict, ?_⟩
  have I2 : Inv X pins σ H1 { s1 with heap := s1.heap.push { cls := .type "dict_items", data := .fields #[.ref d] } } := I1.kept (t' := s1.toks) fun b ob q => Heap.get?_push_of_some _ q
  have fin : wpAny (model X.prog X.w) X.A (pyIter (.ref s1.heap.objs.size)) (PIE X pins σ (.Tuple elts kk tpos) R) X.xe { s1 with heap := s1.heap.push { cls := .type "dict_items", data := .fields #[.ref d] } } := by
    refine wpAny_pyIter_items (d := d) (knd := mixKind X.prog X.w) ⟨_, Heap.get?_push_size _ rfl, rfl, rfl⟩ (hm.push _) (pi_one (tk := s1.toks) I2 _ (turn_items _ hdt) ⟨.none, .none, ?_⟩ q)
    rw [hl]
    exact Heap.get?_push_size _ rfl
  show wpAny _ _ (callWith cpos (.builtin "dict.items") [.ref d] [] []) _ X.xe s1
  exact method_meetsIn PySem.F.slot_dict_items PySem.F.entry_dict_items rfl (PySem.evalArgs_none ⟨rfl, hm.dictOf.typeIs, PySem.F.args_dict_items_1 _, _, meets_dict_items (mixKind X.prog X.w) d hs, ⟨vs, hm.dictOf⟩, fin⟩)
theorem walk_itemsT {d : Addr} {o : Obj} {kvs : List (List Key × V)} : Walk (Itit d o kvs) kvs.length (fun H => H d = some (.frz o (.dT kvs))) (fun i H x H' => ∃ T k v q, kvs[i]? = some (k, v) ∧ H q = some (.tup (k.map kV)) ∧ x = .ref T ∧ H T = none ∧ H' = upd H T (.tup [.ref q, v])) :=
  ⟨fun _ _ hi q => ⟨q, hi⟩, fun _ q => ⟨q, Nat.le_refl _⟩, fun _ _ _ _ _ _ y => y⟩
end DR

namespace DR
open PySem PySem.Spec PyProof.Rows L2
/-! ### rows walked -/
def SqK (K : PySem.W.Frag) : Bool → Hp → Addr → List V → Prop
  | true => SqL K
  | false => SqT K
theorem sqK_same {K : PySem.W.Frag} {H H' : Hp} {a : Addr} {xs : List V} (e : Same H H') : ∀ {b : Bool}, SqK K b H a xs → SqK K b H' a xs
  | true, h => sqL_same e h
  | false, h => sqT_same e h
theorem sqK_of {K : PySem.W.Frag} {H : Hp} {a : Addr} {xs : List V} (h : SqL K H a xs ∨ SqT K H a xs) : ∃ b, SqK K b H a xs := h.elim (fun h => ⟨true, h⟩) fun h => ⟨false, h⟩
def iSeqB (K : PySem.W.Frag) (tl : TE) : TI := fun σ H R => tl σ H fun x H1 => ∃ a xs b, x = .ref a ∧ SqK K b H1 a xs ∧ ∀ J G, Walk J xs.length G (YAt xs) → (∀ H4, SqK K b H4 a xs → G H4) → R J H1
theorem pi_seqB {X : Cx} {tg l : Expr} {tl : TE} (hl : PE X l tl) : PI X tg l (iSeqB X.K tl) := by
  refine ⟨fun pins s σ H R I h => ?_⟩
  refine thn (hl.run pins s σ H _ I h) fun v s1 ⟨x, H1, I1, r1, q1⟩ => ?_
  obtain ⟨a, xs, b, e, hq, q⟩ := q1
  subst e
  cases r1
  have fp : ∀ b ∈ [s1.heap.objs.size], FpOk X pins H1 b := fun b hb => by
    have e : b = s1.heap.objs.size := by simpa using hb
    subst e
    exact I1.fpOk (Nat.le_refl _) (I1.hok.fresh (Nat.le_refl _))
  cases b with
  | true =>
    obtain ⟨its, rv, p, hz⟩ := I1.list hq
    refine wpAny_pyIter_list p.isList ?_
    exact ⟨s1.heap.objs.size, [s1.heap.objs.size], _, _, H1, rfl, I1.kept (t' := s1.toks) fun b o e => Heap.get?_push_of_some _ e, turn_list a _, ⟨_, Heap.get?_push_size _ rfl, rfl, rfl⟩, fp, q _ (fun H4 => SqL X.K H4 a xs) walk_list fun H4 e => e⟩
  | false =>
    obtain ⟨its, rv, p, hz⟩ := I1.tuple hq
    refine wpAny_pyIter_tuple (show s1.heap.IsTuple a its.toArray from p) ?_
    exact ⟨s1.heap.objs.size, [s1.heap.objs.size], _, _, H1, rfl, I1.kept (t' := s1.toks) fun b o e => Heap.get?_push_of_some _ e, turn_tuple a _, ⟨_, Heap.get?_push_size _ rfl, rfl, rfl⟩, fp, q _ (fun H4 => SqT X.K H4 a xs) walk_tup fun H4 e => e⟩
section
variable {X : Cx} {CX : CXT} {k : Nat} {C : Addr} {ps : List Str} {sp : Sp} {E : XK} {m : Str} {p pos apos : Pos} {e o : Expr} {es : List Expr} {t : TA} {ta : TE}
theorem pe_methH {pl : Sem Bool} (M : HasM X.prog X.w X.K X.mg X.base CX k C m ps sp) (he : PE X o ta) (hr : Room k X.A) (hx : Passes CX X E) (ha : PA X (e :: es) t)
    (hst : starEach (e :: es) X.env = (false, eval e X.env) :: starEach es X.env := by rfl) (hpl : (backTo pos (starEach es X.env)).any (·.1) = false := by rfl)
    (ht : eval (.Call (.Attribute o m apos) (e :: es) [] pos) X.env = (do
      let ov ← eval o X.env
      standAt apos.atName
      let (f, first) ← holding [ov] (getMethod ov m pl)
      callWith pos f first (backTo pos (starEach (e :: es) X.env)) (backToKw pos (keywordEach [] X.env))) := by rfl) : PE X (.Call (.Attribute o m apos) (e :: es) [] pos) (tMeth C m sp [] E ta t) := by
  obtain ⟨⟨f, fd, a, b, c⟩, d⟩ := M
  exact pe_meth he d a c hr b .nil hx ha hst hpl ht
theorem pe_methH0 {pl : Sem Bool} (M : HasM X.prog X.w X.K X.mg X.base CX k C m ps sp) (he : PE X o ta) (hr : Room k X.A) (hx : Passes CX X E)
    (ht : eval (.Call (.Attribute o m apos) [] [] pos) X.env = (do
      let ov ← eval o X.env
      standAt apos.atName
      let (f, first) ← holding [ov] (getMethod ov m pl)
      callWith pos f first (backTo pos (starEach [] X.env)) (backToKw pos (keywordEach [] X.env))) := by rfl) : PE X (.Call (.Attribute o m apos) [] [] pos) (tMeth C m sp [] E ta tNil) := by
  obtain ⟨⟨f, fd, a, b, c⟩, d⟩ := M
  exact pe_meth0 he d a c hr b .nil hx ht
end
/-! ### roots looked at -/
/-- a told name -/
def toldD (ms : MsT) (d : PyData) : Bool := isNm d && (match d with
  | .str z => ms.any fun m => decide (m.1 = z)
  | _ => false)
def spChkR (K : PySem.W.Frag) (C CN : Addr) : Sp := fun vs H Q E => ∃ (x : Addr) (qs : List Pk) (ms : MsT) (ns : List Str) (v : V) (d : PyData), vs = [.ref x, v] ∧ UnG H C x qs ms ns ∧
  ((∃ d, Th K H v d ∧ items d = none ∧ ErrSame E H CN [("name", .non)]) ∨
   (∃ (b : Addr) (xs : List V) (ds : List PyData), v = .ref b ∧ (SqL K H b xs ∨ SqT K H b xs) ∧ PySem.W.EachIs (Th K H) xs ds ∧ (∀ d ∈ ds, shortS d) ∧
    (∀ i y d, xs[i]? = some y → ds[i]? = some d → (∀ e ∈ ds.take i, toldD ms e = true) → toldD ms d = false → ErrSame E H CN [("name", y)]) ∧
    ((∀ d ∈ ds, toldD ms d = true) → ∀ H', Same H H' → Q .non H')))
abbrev sChkR : Stmt := topS 35
theorem scChkR : FnScope ["unit", "roots", "told", "name"] ["unit", "roots"] (defScope sChkR) := ⟨rfl, rfl, rfl, by decide +kernel, rfl, by decide +kernel, by decide +kernel⟩
theorem md_val {H : Hp} {z : Str} : ∀ {md : List (Key × V)} {ms : MsT}, PySem.W.EachIs (MdR H) md ms → ((valV md (.inr z)).isSome = ms.any fun m => decide (m.1 = z))
  | _, _, .nil => rfl
  | kv :: md, m :: ms, .cons h t => by
    obtain ⟨h1, _⟩ := h
    have ih := md_val (z := z) t
    unfold valV at ih ⊢
    rw [List.any_cons]
    by_cases c : m.1 = z
    · rw [List.find?_cons_of_pos (by simp [h1, c])]
      simp [c]
    · rw [List.find?_cons_of_neg (by simp [h1, c]), ih]
      simp [c]
section
variable {P : Program} {w : World} {K : PySem.W.Frag} {mg : Str → Option Value} {base : Heap}
theorem ok_chkR {f C CN : Addr} {fd : FuncData} (F : Fun K "check_roots" "check_roots" sChkR f fd) (T : Bi mg) (S : Err P w K mg base "NoName" CN "name") (G1 : Has P w K mg base CX0 4 "is_row" ["thing"] (spIsRowA K)) (G2 : Has P w K mg base CX0 4 "is_name" ["thing"] (spIsName K)) (M : HasM P w K mg base CX0 4 C "told" ["self"] (spUTold C)) :
    FnOk P w K mg base (L2.CX P w) 5 f fd ["unit", "roots"] (spChkR K C CN) := by
  refine F.okX scChkR (fun vs H Q E h => ?_) (fun cdv A outer s H vs Q E hr h => ?_)
  · obtain ⟨x, qs, ms, ns, v, d, rfl, _⟩ := h
    rfl
  · obtain ⟨x, qs, ms, ns, v, d, rfl, un, h⟩ := h
    have hu := hu_of hr
    refine ⟨_, (pss_cons (ps_if (pt_not (pt_val (pe_callH G1 hr (by rfl) pass0 (pa_cons (pv 1) pa_nil)))) (pss_one (ps_err rfl (takes_of rfl rfl rfl rfl) S hr (by decide) pe_non)) pss_nil)
      (pss_cons (ps_set (i := 2) scChkR.nd rfl (.inl rfl) (pe_methH0 M (pv 0) hr pass0))
      (pss_one (ps_for (passes_of rfl) rfl (pi_seqB (pv 1)) (pg_name (i := 3) scChkR.nd rfl (.inl rfl)) (pss_one (ps_if (PW.pt (pw_or (pt_not (pt_val (pe_callH G2 hr (by rfl) pass0 (pa_cons (pv 3) pa_nil)))) (pw_or1 (pt_cmp (pc_dnotin hu (pv 3) (pv 2)) (by rfl))))) (pss_one (ps_err rfl (takes_of rfl rfl rfl rfl) S hr (by decide) (pv 3))) pss_nil)))))), ?_⟩
    rcases h with ⟨d, th, nd, qe⟩ | ⟨b, xs, ds, rfl, hb, hds, sh, qe, q⟩
    · refine ⟨_, rfl, v, d, rfl, .inl ⟨nd, th⟩, fun H1 s1 => ⟨_, rfl, ?_⟩⟩
      have : isR d = false := by cases d <;> first | rfl | cases nd
      rw [this]
      exact iteT (err_go fun dx hdx => qe _ dx s1 hdx)
    · refine ⟨_, rfl, .ref b, .list ds, rfl, .inr ⟨b, xs, ds, rfl, rfl, hb, hds⟩, fun H1 s1 => ⟨_, rfl, iteF ?_⟩⟩
      obtain ⟨_, _, _, dx, _, _, _, _, _, _, _, hx1, _⟩ := id (unG_s s1 un)
      refine ⟨_, rfl, x, dx, _, rfl, hx1, rfl, x, qs, ms, ns, rfl, unG_s s1 un, fun D md H2 s2 nD hD hmd => ?_⟩
      have s12 := s1.trans s2
      obtain ⟨bb, hbb⟩ := sqK_of hb
      have lx : xs.length = ds.length := hds.length
      refine ⟨_, rfl, b, xs, bb, rfl, sqK_same s12 hbb, fun J Gd W hG => ?_⟩
      refine for_it W (fun i σ H4 => ∃ (w3 : Option V), σ = [some (.ref x), some (.ref b), some (.ref D), w3] ∧ Same H2 H4 ∧ ∀ e ∈ ds.take i, toldD ms e = true)
        ⟨none, rfl, Same.refl _, fun e he => by cases he⟩ (fun i σ H4 _ ⟨_, _, s4, _⟩ => hG H4 (sqK_same (s12.trans s4) hbb)) ?_ ?_
      · rintro i y σ H4' H4 hi ⟨w3, rfl, s4, al⟩ ⟨rfl, hy⟩
        obtain ⟨d, hd, th⟩ := eachs_get hds hy
        have th4 := th_same (s12.trans s4) th
        refine ⟨_, rfl, y, d, rfl, th4, sh d (List.mem_of_getElem? hd), fun H6 s6 => ⟨_, rfl, ?_⟩⟩
        have s06 := (s12.trans s4).trans s6
        cases ek : isNm d with
        | false =>
          have bad : toldD ms d = false := by unfold toldD; rw [ek]; rfl
          exact iteT (iteT ⟨_, rfl, err_go fun dx hdx => qe i y d hy hd al bad _ dx s06 hdx⟩)
        | true =>
          obtain ⟨z, rfl, hz⟩ := str_of ek
          have ey : y = .str z := by
            cases th with
            | dat h => cases h; rfl
          subst ey
          have tz : toldD ms (.str z) = ms.any fun m => decide (m.1 = z) := by unfold toldD; rw [ek]; rfl
          have vz := md_val (z := z) hmd
          have hD6 := s6 _ _ (s4 _ _ hD)
          refine iteF ⟨_, rfl, _, rfl, D, _, rfl, DGet.k (k := .inr z) hD6, ?_⟩
          cases ev : valV md (.inr z) with
          | none =>
            rw [ev] at vz
            exact ⟨_, rfl, iteT ⟨_, rfl, err_go fun dx hdx => qe i _ _ hy hd al (by rw [tz, ← vz]; rfl) _ dx s06 hdx⟩⟩
          | some v =>
            rw [ev] at vz
            refine ⟨_, rfl, iteF ⟨_, rfl, s4.trans s6, fun e he => ?_⟩⟩
            rw [List.take_add_one, hd] at he
            rcases List.mem_append.mp he with he | he
            · exact al e he
            · have he : e ∈ [PyData.str z] := he
              rw [List.mem_singleton.mp he, tz, ← vz]
              rfl
      · rintro σ H4 ⟨w3, rfl, s4, al⟩
        rw [lx, List.take_length] at al
        exact q al H4 (s12.trans s4)
end
end DR

namespace DR
open PySem PySem.Spec PyProof.Rows L2
/-! ### words and kinds of a list of pieces -/
def spWordsL (K : PySem.W.Frag) : Sp := fun vs H Q _ => ∃ (a : Addr) (xs : List V) (qs : List Pk), vs = [.ref a] ∧ H a = some (.lst xs) ∧ PySem.W.EachIs (PieceG H) xs qs ∧ PkOk qs ∧
  ∀ D ks H', Same H H' → H D = none → H' D = some (.dT ks) → PySem.W.EachIs (AdrV H') ks (adrs qs) → Q (.ref D) H'
def spKindsL (K : PySem.W.Frag) : Sp := fun vs H Q _ => ∃ (a : Addr) (xs : List V) (qs : List Pk), vs = [.ref a] ∧ H a = some (.lst xs) ∧ PySem.W.EachIs (PieceG H) xs qs ∧ PkOk qs ∧
  ∀ D H', Same H H' → H D = none → H' D = some (.dK (kindD qs)) → Q (.ref D) H'
section
variable {P : Program} {w : World} {K : PySem.W.Frag} {mg : Str → Option Value} {base : Heap}
theorem ok_wordsL {f : Addr} {fd : FuncData} (F : Fun K "words_of" "words_of" sWords f fd) (T : Bi mg) : FnOk P w K mg base CX0 1 f fd ["pieces"] (spWordsL K) := by
  refine F.ok scWords (fun vs H Q E h => ?_) (fun cdv A outer s H vs Q E hr h => ?_)
  · obtain ⟨a, xs, qs, rfl, _⟩ := h
    rfl
  · obtain ⟨a, xs, qs, rfl, ha, hxs, ok, q⟩ := h
    have hu := hu_of hr
    refine ⟨_, (pss_one (ps_ret (pe_dt2 (own := [("p", 1), ("_", 2), ("words", 3), ("k", 4), ("word", 5)]) (vs1 := [4, 5]) (g := gTup K 3 (gCons (gName 1) (gCons (gName 2) (gCons (gName 3) gNil)))) (g1 := gTup K 2 (gCons (gName 4) (gCons (gName 5) gNil))) (tt := tYes) (tt1 := tYes) (wi1 := iEnumT K (tCons (tVar 3) tNil)) (tk := tTup (tCons (tVar 1) (tCons (tVar 4) tNil))) (tv := tVar 5) hu rfl scWords.nd (pi_list (pv 0)) (blkOk_by (N := ["pieces", "p", "_", "words", "k", "word"]) (sc := defScope sWords) (by decide +kernel)) (by decide +kernel)
      (fun _ _ _ _ _ => pg_tup rfl (pgs_cons (pg_name (i := 1) scWords.nd rfl (.inl rfl)) (pgs_cons (pg_name (i := 2) scWords.nd rfl (.inl rfl)) (pgs_cons (pg_name (i := 3) scWords.nd rfl (.inl rfl)) pgs_nil)))) (fun _ _ _ _ _ => pts_nil)
      (fun _ _ _ _ _ => pi_enumT (by rfl) T.enumerate (pa_cons (pv 3) pa_nil))
      (fun _ _ _ _ _ => pg_tup rfl (pgs_cons (pg_name (i := 4) scWords.nd rfl (.inl rfl)) (pgs_cons (pg_name (i := 5) scWords.nd rfl (.inl rfl)) pgs_nil))) (fun _ _ _ _ _ => pts_nil)
      (fun _ _ _ _ _ => pe_tup (pa_cons (pv 1) (pa_cons (pv 4) pa_nil))) (fun _ _ _ _ _ => pv 5)))), ?_⟩
    have lx : xs.length = qs.length := hxs.length
    have few := ok.few
    refine ⟨_, rfl, a, rfl, ⟨xs, SqL.of ha⟩, fun D hD => ?_⟩
    refine wk_it (walk_list (xs := xs)) (fun i H4 => (∀ c o, c ≠ D → H c = some o → H4 c = some o) ∧ ∃ ks, H4 D = some (.dT ks) ∧ PySem.W.EachIs (AdrV H4) ks (adrs (qs.take i)))
      ⟨fun c o hc e => by rw [upd_ne hc]; exact e, [], upd_same, .nil⟩ (fun i H4 _ ⟨kp, _⟩ => SqL.of (kp _ _ (ne_of_none ha hD) ha)) ?_ ?_
    · rintro i x H4 H4' hi ⟨kp, ks, hD4, hks⟩ ⟨rfl, hx⟩
      obtain ⟨pc, hpc, hp⟩ := eachs_get hxs hx
      have i2 : i < qs.length := (List.getElem?_eq_some_iff.mp hpc).1
      have pfew := ok.wd pc (List.mem_of_getElem? hpc)
      have s4 : Same H H4' := fun c o e => kp c o (ne_of_none e hD) e
      obtain ⟨t, b, ws, rfl, ht, hb, hws⟩ := pieceG_s (TupS.of s4) hp
      have lw : ws.length = pc.2.2.length := hws.length
      have nin : pc.1 ∉ (qs.take i).map (·.1) := by
        rw [List.map_take]
        exact take_not ok.nod (by rw [List.getElem?_map, hpc]; rfl)
      refine ⟨t, _, rfl, SqT.of ht, rfl, _, _, rfl, _, _, rfl, _, _, rfl, rfl, rfl, yes_go ?_⟩
      refine ⟨_, rfl, b, ws, rfl, SqT.of hb, ?_⟩
      refine wk_it walk_enumT (fun j H5 => (∀ c o, c ≠ D → H4' c = some o → H5 c = some o) ∧ ∃ ks', H5 D = some (.dT ks') ∧ PySem.W.EachIs (AdrV H5) ks' (adrs (qs.take i) ++ (adrsP pc).take j))
        ⟨fun _ _ _ e => e, ks, hD4, by rw [List.take_zero, List.append_nil]; exact hks⟩ (fun j H5 _ ⟨kp5, _⟩ => SqT.of (kp5 _ _ (ne_of hb hD4 (by intro z; cases z)) hb)) ?_ ?_
      · rintro j y H5 H5' hj ⟨kp5, ks', hD5, hks5⟩ ⟨TT, y1, y2, rfl, hT, rfl, hy1, hy2⟩
        cases hy1
        have hy2 : ws[j]? = some y2 := hy2
        obtain ⟨wd, hwd, hsum⟩ := eachs_get hws hy2
        have j2 : j < pc.2.2.length := (List.getElem?_eq_some_iff.mp hwd).1
        have sT := same_new (o := .tup [V.int (j : Nat), y2]) hT
        have hT6 : upd H5 TT (.tup [V.int (j : Nat), y2]) TT = some (.tup [V.int (j : Nat), y2]) := upd_same
        generalize upd H5 TT (.tup [V.int (j : Nat), y2]) = H6 at sT hT6 ⊢
        have ts : TupS H4' H6 := fun c l e => sT _ _ (kp5 c _ (ne_of e hD4 (by intro z; cases z)) e)
        have lks : ks'.length ≤ 110 := by
          rw [hks5.length, List.length_append, List.length_take]
          have b := adrs_le (n := 10) (qs.take i) fun q hq => ok.wd q (List.mem_of_mem_take hq)
          rw [List.length_take] at b
          omega
        have kin : adrK (pc.1, j, wd) ∉ ks'.map (·.1) := by
          rw [adrV_keys hks5, List.mem_map]
          rintro ⟨x, hx, e⟩
          have e1 : x.1 = pc.1 := by
            have := congrArg (fun z : List Key => z[0]?) e
            simpa [adrK] using this
          have e2 : x.2.1 = j := by
            have e0 := congrArg (fun z : List Key => z[1]?) e
            have e0 : ((x.2.1 : Nat) : Int) = (j : Int) := by simpa [adrK] using e0
            omega
          rcases List.mem_append.mp hx with hx | hx
          · exact nin (e1 ▸ adrs_nm hx)
          · have := adrsP_take hx
            omega
        refine ⟨TT, _, rfl, SqT.of hT6, rfl, _, _, rfl, _, _, rfl, rfl, rfl, yes_go ?_⟩
        refine ⟨_, rfl, _, rfl, (by show 2 ≤ sizeLine; decide), fun p7 n7 => ⟨_, rfl, _, ⟨ks', adrK (pc.1, j, wd), p7, ?_, rfl, upd_same, small1000 (by omega), rfl⟩, ?_⟩⟩
        · have s7 := same_new (o := .tup [V.str pc.1, V.int (j : Nat)]) n7
          exact s7 _ _ (sT _ _ hD5)
        · have s7 := same_new (o := .tup [V.str pc.1, V.int (j : Nat)]) n7
          have hD7 := s7 _ _ (sT _ _ hD5)
          rw [putK_new y2 kin]
          have ts8 : TupS _ (upd (upd H6 p7 (.tup [V.str pc.1, V.int (j : Nat)])) D (.dT (ks' ++ [(adrK (pc.1, j, wd), y2)]))) := TupS.put hD7 (by intro xs z; cases z)
          have all : TupS H5 (upd (upd H6 p7 (.tup [V.str pc.1, V.int (j : Nat)])) D (.dT (ks' ++ [(adrK (pc.1, j, wd), y2)]))) := (TupS.of (sT.trans s7)).trans ts8
          refine ⟨fun c o hc e => by rw [upd_ne hc]; exact s7 _ _ (sT _ _ (kp5 c o hc e)), _, upd_same, ?_⟩
          rw [List.take_add_one, adrsP_at hwd, ← List.append_assoc]
          exact eachs_snoc (R := AdrV _) ⟨rfl, sumT_s (ts.trans ((TupS.of s7).trans ts8)) hsum⟩ (eachs_imp (fun _ _ => adrV_s all) hks5)
      · rintro H5 ⟨kp5, ks', hD5, hks5⟩
        refine ⟨fun c o hc e => kp5 c o hc (kp c o hc e), ks', hD5, ?_⟩
        have le : (adrsP pc).length = ws.length := by rw [adrsP_len, lw]
        rw [List.take_of_length_le (Nat.le_of_eq le)] at hks5
        have e : adrs (qs.take (i + 1)) = adrs (qs.take i) ++ adrsP pc := by
          unfold adrs
          rw [List.take_add_one, hpc, List.flatMap_append]
          simp
        rw [e]
        exact hks5
    · rintro H4 ⟨kp, ks, hD4, hks⟩
      rw [lx, List.take_length] at hks
      exact q D ks H4 (fun c o e => kp c o (ne_of_none e hD) e) hD hD4 hks
theorem ok_kindsL {f : Addr} {fd : FuncData} (F : Fun K "kinds_of" "kinds_of" sKinds f fd) (T : Bi mg) : FnOk P w K mg base CX0 1 f fd ["pieces"] (spKindsL K) := by
  refine F.ok scKinds (fun vs H Q E h => ?_) (fun cdv A outer s H vs Q E hr h => ?_)
  · obtain ⟨a, xs, qs, rfl, _⟩ := h
    rfl
  · obtain ⟨a, xs, qs, rfl, ha, hxs, ok, q⟩ := h
    have hu := hu_of hr
    refine ⟨_, (pss_one (ps_ret (pe_dc (own := [("p", 1), ("kind", 2), ("_", 3)]) (g := gTup K 3 (gCons (gName 1) (gCons (gName 2) (gCons (gName 3) gNil)))) (tt := tYes) (tk := tVar 1) (tv := tVar 2) rfl scKinds.nd (pi_list (pv 0)) (blkOk_by (N := ["pieces", "p", "kind", "_"]) (sc := defScope sKinds) (by decide +kernel))
      (fun _ _ _ _ _ => pg_tup rfl (pgs_cons (pg_name (i := 1) scKinds.nd rfl (.inl rfl)) (pgs_cons (pg_name (i := 2) scKinds.nd rfl (.inl rfl)) (pgs_cons (pg_name (i := 3) scKinds.nd rfl (.inl rfl)) pgs_nil)))) (fun _ _ _ _ _ => pts_nil) (fun _ _ _ _ _ => pv 1) (fun _ _ _ _ _ => pv 2)))), ?_⟩
    have lx : xs.length = qs.length := hxs.length
    have few := ok.few
    refine ⟨_, rfl, a, rfl, ⟨xs, SqL.of ha⟩, fun D hD => ?_⟩
    refine dc_it (walk_list (xs := xs)) (fun i H4 => (∀ c o, c ≠ D → H c = some o → H4 c = some o) ∧ H4 D = some (.dK (kindD (qs.take i))))
      ⟨fun c o hc e => by rw [upd_ne hc]; exact e, upd_same⟩ (fun i H4 _ ⟨kp, _⟩ => SqL.of (kp _ _ (ne_of_none ha hD) ha)) ?_ ?_
    · rintro i x H4 H4' hi ⟨kp, hD4⟩ ⟨rfl, hx⟩
      obtain ⟨pc, hpc, hp⟩ := eachs_get hxs hx
      have i2 : i < qs.length := (List.getElem?_eq_some_iff.mp hpc).1
      have s4 : Same H H4' := fun c o e => kp c o (ne_of_none e hD) e
      obtain ⟨t, b, ws, rfl, ht, hb, hws⟩ := pieceG_s (TupS.of s4) hp
      have nin : pc.1 ∉ (qs.take i).map (·.1) := by
        rw [List.map_take]
        exact take_not ok.nod (by rw [List.getElem?_map, hpc]; rfl)
      refine ⟨t, _, rfl, SqT.of ht, rfl, _, _, rfl, _, _, rfl, _, _, rfl, rfl, rfl, yes_go ?_⟩
      refine ⟨_, rfl, _, rfl, _, .inr pc.1, rfl, hD4, small1000 (by unfold kindD; rw [List.length_map, List.length_take]; omega), fun c o hc e => by rw [upd_ne hc]; exact kp c o hc e, ?_⟩
      rw [upd_same, kind_put _ nin, List.take_add_one, hpc]
      rfl
    · rintro H4 ⟨kp, hD4⟩
      rw [lx, List.take_length] at hD4
      exact q D H4 (fun c o e => kp c o (ne_of_none e hD) e) hD hD4
end
end DR

namespace DR
open PySem PySem.Spec PyProof.Rows L2
/-! ### all but lists stays -/
def ExtL (H H' : Hp) : Prop := ∀ b o, H b = some o → (∀ xs, o ≠ .lst xs) → H' b = some o
theorem ExtL.of {H H' : Hp} (e : Same H H') : ExtL H H' := fun b o h _ => e b o h
theorem ExtL.trans {H H1 H2 : Hp} (a : ExtL H H1) (b : ExtL H1 H2) : ExtL H H2 := fun c o h n => b c o (a c o h n) n
theorem ExtL.put {H : Hp} {F : Addr} {ys : List V} {o : HO} (h : H F = some (.lst ys)) : ExtL H (upd H F o) := fun b x e n => by
  rw [upd_ne (fun z => by rw [z, h] at e; exact n _ (Option.some.inj e).symm)]
  exact e
theorem ExtL.tup {H H' : Hp} (e : ExtL H H') : TupS H H' := fun b xs h => e _ _ h (by intro x z; cases z)
/-! ### what leads where, piece by piece -/
abbrev Lead := (Str × Nat) × Str
def LedR (H : Hp) (v : V) (e : Lead) : Prop := ∃ t a, v = .ref t ∧ H t = some (.tup [.ref a, .str e.2]) ∧ H a = some (.tup [.str e.1.1, .int (e.1.2 : Nat)])
theorem ledR_t {H H' : Hp} (ts : TupS H H') {v : V} {e : Lead} (h : LedR H v e) : LedR H' v e := by
  obtain ⟨t, a, h1, h2, h3⟩ := h
  exact ⟨t, a, h1, ts _ _ h2, ts _ _ h3⟩
def LdV (H : Hp) (kv : Key × V) (pe : Str × List Lead) : Prop := kv.1 = .inr pe.1 ∧ ∃ l vs, kv.2 = .ref l ∧ H l = some (.lst vs) ∧ PySem.W.EachIs (LedR H) vs pe.2
structure Lds (F : Addr) (ld : List (Key × V)) (qs : List Pk) (c : Str → List Lead) (H : Hp) : Prop where
  dic : H F = some (.dK ld)
  each : PySem.W.EachIs (fun kv (q : Pk) => LdV H kv (q.1, c q.1)) ld qs
  dist : (ld.map (·.2)).Nodup
theorem nod_inj {α β : Type} {f : α → β} : ∀ {l : List α}, (l.map f).Nodup → ∀ {a b : α}, a ∈ l → b ∈ l → f a = f b → a = b
  | [], _, a, b, ha, _, _ => nomatch ha
  | x :: l, nd, a, b, ha, hb, e => by
    rw [List.map_cons, List.nodup_cons] at nd
    rcases List.mem_cons.mp ha with ha1 | ha1 <;> rcases List.mem_cons.mp hb with hb1 | hb1
    · rw [ha1, hb1]
    · exact absurd (List.mem_map.mpr ⟨b, hb1, by rw [← e, ha1]⟩) nd.1
    · exact absurd (List.mem_map.mpr ⟨a, ha1, by rw [e, hb1]⟩) nd.1
    · exact nod_inj nd.2 ha1 hb1 e
theorem ld_keys {H : Hp} {c : Str → List Lead} : ∀ {ld : List (Key × V)} {qs : List Pk}, PySem.W.EachIs (fun kv (q : Pk) => LdV H kv (q.1, c q.1)) ld qs → ld.map (·.1) = qs.map fun q => (.inr q.1 : Key)
  | _, _, .nil => rfl
  | _, _, .cons h t => by rw [List.map_cons, List.map_cons, ld_keys t, h.1]
theorem inrq_nod {qs : List Pk} (h : (qs.map (·.1)).Nodup) : (qs.map fun q => (.inr q.1 : Key)).Nodup := by
  have e : (qs.map fun q => (.inr q.1 : Key)) = (qs.map (·.1)).map (Sum.inr : Str → Key) := by rw [List.map_map]; rfl
  rw [e]
  exact List.pairwise_map.mpr (h.imp fun hne e => hne (Sum.inr.inj e))
theorem ld_put {H : Hp} {l : Addr} {vs : List V} {v : V} {e : Lead} {p : Str} {c : Str → List Lead} (hl : H l = some (.lst vs)) (hv : LedR H v e) : ∀ {ld : List (Key × V)} {qs : List Pk}, PySem.W.EachIs (fun kv (q : Pk) => LdV H kv (q.1, c q.1)) ld qs → (∀ kv ∈ ld, kv.2 = .ref l → kv.1 = .inr p) → (∀ kv ∈ ld, kv.1 = .inr p → kv.2 = .ref l) →
    PySem.W.EachIs (fun kv (q : Pk) => LdV (upd H l (.lst (vs ++ [v]))) kv (q.1, if q.1 = p then c q.1 ++ [e] else c q.1)) ld qs
  | _, _, .nil, _, _ => .nil
  | kv :: ld, q :: qs, .cons h t, a, b => by
    have ts : TupS H (upd H l (.lst (vs ++ [v]))) := (ExtL.put hl).tup
    refine .cons ?_ (ld_put hl hv t (fun kv hk => a kv (List.mem_cons_of_mem _ hk)) (fun kv hk => b kv (List.mem_cons_of_mem _ hk)))
    obtain ⟨h1, l', vs', h2, h3, h4⟩ := h
    refine ⟨h1, l', ?_⟩
    by_cases z : q.1 = p
    · have e2 := b kv (List.mem_cons_self ..) (by rw [h1]; exact congrArg Sum.inr z)
      rw [h2] at e2
      obtain rfl : l' = l := by injection e2
      rw [hl] at h3
      obtain rfl : vs = vs' := by
        injection h3 with h3
        injection h3
      refine ⟨vs ++ [v], h2, upd_same, ?_⟩
      show PySem.W.EachIs _ _ (if q.1 = p then c q.1 ++ [e] else c q.1)
      rw [if_pos z]
      exact eachs_snoc (R := LedR _) (ledR_t ts hv) (eachs_imp (fun _ _ => ledR_t ts) h4)
    · have ne : l' ≠ l := fun y => z (Sum.inr.inj (h1.symm.trans (a kv (List.mem_cons_self ..) (by rw [h2, y]))))
      refine ⟨vs', h2, by rw [upd_ne ne]; exact h3, ?_⟩
      show PySem.W.EachIs _ _ (if q.1 = p then c q.1 ++ [e] else c q.1)
      rw [if_neg z]
      exact eachs_imp (fun _ _ => ledR_t ts) h4
theorem Lds.put {F : Addr} {ld : List (Key × V)} {qs : List Pk} {c : Str → List Lead} {H : Hp} (h : Lds F ld qs c H) (nod : (qs.map (·.1)).Nodup) {p : Str} (hp : p ∈ qs.map (·.1)) : ∃ l vs, valV ld (.inr p) = some (.ref l) ∧ H l = some (.lst vs) ∧ vs.length = (c p).length ∧ PySem.W.EachIs (LedR H) vs (c p) ∧
    ∀ v e, LedR H v e → Lds F ld qs (fun x => if x = p then c x ++ [e] else c x) (upd H l (.lst (vs ++ [v]))) := by
  obtain ⟨q, hq, rfl⟩ := List.mem_map.mp hp
  obtain ⟨i, hi⟩ := List.mem_iff_getElem?.mp hq
  obtain ⟨kv, hkv, h1, l, vs, h2, h3, h4⟩ : ∃ kv, ld[i]? = some kv ∧ LdV H kv (q.1, c q.1) := by
    have : ∀ {ld : List (Key × V)} {qs : List Pk}, PySem.W.EachIs (fun kv (q : Pk) => LdV H kv (q.1, c q.1)) ld qs → ∀ {i : Nat}, qs[i]? = some q → ∃ kv, ld[i]? = some kv ∧ LdV H kv (q.1, c q.1) := by
      intro ld qs h
      induction h with
      | nil => intro i e; cases e
      | cons h t ih =>
        intro i e
        cases i with
        | zero => obtain rfl := Option.some.inj e; exact ⟨_, rfl, h⟩
        | succ i => exact ih e
    exact this h.each hi
  have hm := List.mem_of_getElem? hkv
  have nk : (ld.map (·.1)).Nodup := by
    rw [ld_keys h.each]
    exact inrq_nod nod
  obtain ⟨k, u⟩ := kv
  have h1 : k = .inr q.1 := h1
  have h2 : u = .ref l := h2
  subst h1 h2
  refine ⟨l, vs, valK_at nk hkv, h3, h4.length, h4, fun v e hv => ⟨?_, ld_put h3 hv h.each (fun kv hk z => ?_) (fun kv hk z => ?_), h.dist⟩⟩
  · rw [upd_ne (fun z => by rw [← z, h.dic] at h3; cases h3)]
    exact h.dic
  · exact congrArg Prod.fst (nod_inj h.dist hk hm z)
  · exact congrArg Prod.snd (nod_inj nk hk hm z)
theorem Lds.same {F : Addr} {ld : List (Key × V)} {qs : List Pk} {c : Str → List Lead} {H H' : Hp} (h : Lds F ld qs c H) (s : Same H H') : Lds F ld qs c H' :=
  ⟨s _ _ h.dic, eachs_imp (fun _ _ ⟨a, l, vs, b, d, e⟩ => ⟨a, l, vs, b, s _ _ d, eachs_imp (fun _ _ => ledR_t (TupS.of s)) e⟩) h.each, h.dist⟩
/-- all leads, no more -/
def LedAll (qs : List Pk) (ms : MsT) (c : Str → List Lead) : Prop := ∀ p ∈ qs.map (·.1), ∀ e : Lead, e ∈ c p ↔ e.1.1 = p ∧ ∃ w, (homeQ qs p)[e.1.2]? = some w ∧ e.2 ∈ ledW ms w
theorem home_of {qs : List Pk} (nod : (qs.map (·.1)).Nodup) {q : Pk} (hq : q ∈ qs) : homeQ qs q.1 = q.2.2 := by
  unfold homeQ
  rw [find_uniq (f := fun q : Pk => q.1) (List.pairwise_map.mp nod) hq]
  rfl
theorem adr_home {qs : List Pk} (nod : (qs.map (·.1)).Nodup) {p : Str} {k : Nat} {w : Int × Mul} : (p, k, w) ∈ adrs qs ↔ p ∈ qs.map (·.1) ∧ (homeQ qs p)[k]? = some w := by
  constructor
  · intro h
    obtain ⟨q, hq, ha⟩ := List.mem_flatMap.mp h
    have e := adrsP_nm ha
    have e : p = q.1 := e
    subst e
    refine ⟨List.mem_map.mpr ⟨q, hq, rfl⟩, ?_⟩
    rw [home_of nod hq]
    unfold adrsP at ha
    obtain ⟨wk, hm, e2⟩ := List.mem_map.mp ha
    obtain ⟨_, e2⟩ := Prod.mk.inj e2
    obtain ⟨e3, e4⟩ := Prod.mk.inj e2
    obtain ⟨w', k'⟩ := wk
    have e3 : k' = k := e3
    have e4 : w' = w := e4
    subst e3 e4
    exact List.mem_zipIdx_iff_getElem?.mp hm
  · rintro ⟨hp, hk⟩
    obtain ⟨q, hq, rfl⟩ := List.mem_map.mp hp
    rw [home_of nod hq] at hk
    exact List.mem_flatMap.mpr ⟨q, hq, List.mem_of_getElem? (adrsP_at hk)⟩
end DR

namespace DR
open PySem PySem.Spec PyProof.Rows L2
theorem ps_setDc {X : Cx} {i : Nat} {y : Str} {py : Pos} {kx vx tg iter : Expr} {ifs : List Expr} {scope : Scope} {own : List (Str × Nat)} {pos spos : Pos} {wi : TI} {g : TG} {tt : TT} {tk tv : TE} (calm : X.calm = true) (nd : X.N.Nodup) (slot : X.N[i]? = some y) (isLoc : X.env.scope.names.lookup y = some .local)
    (sw : swapsWith (.DictComp kx vx [⟨tg, iter, ifs, 0⟩] scope pos) (some (.Name y py)) spos.line X.env = pure true) (hi : PI X tg iter wi) (ok : BlkOk X.N X.env.scope scope own)
    (p1 : ∀ (s : Shared) (H : Hp) (C : Addr) (cl : List (Str × Addr)) (fp : List Addr), PG (X.blk s H scope (compEnvC scope cl C X.env) fp) tg g)
    (p2 : ∀ (s : Shared) (H : Hp) (C : Addr) (cl : List (Str × Addr)) (fp : List Addr), PTs (X.blk s H scope (compEnvC scope cl C X.env) fp) ifs tt)
    (p3 : ∀ (s : Shared) (H : Hp) (C : Addr) (cl : List (Str × Addr)) (fp : List Addr), PE (X.blk s H scope (compEnvC scope cl C X.env) fp) kx tk)
    (p4 : ∀ (s : Shared) (H : Hp) (C : Addr) (cl : List (Str × Addr)) (fp : List Addr), PE (X.blk s H scope (compEnvC scope cl C X.env) fp) vx tv) (fold : ∀ x, foldedSetIterable iter X.env x = pure x := by intro _; rfl) :
    PS X (.Assign [.Name y py] (.DictComp kx vx [⟨tg, iter, ifs, 0⟩] scope pos) spos) (tAsg (tDc wi g tt tk tv (own.map (·.2))) (gName i)) := by
  constructor
  intro pins s σ H D I want
  rw [exec_Assign_Name_used _ _ _ _ sw]
  refine wpAny_bind (wpAny_standAt (wpAny_bind ?_))
  show wpAny _ X.A (do let _ ← comprehension (.DictComp kx vx [⟨tg, iter, ifs, 0⟩] scope pos) scope X.env (firstIterPos [⟨tg, iter, ifs, 0⟩] pos) newDict false (eval iter X.env) (some (assign (.Name y py) X.env))) _ _ s
  have want' : tDc wi g tt tk tv (own.map (·.2)) σ H (fun x H1 => gName i x σ H1 D.nx) := want
  refine wpAny_bind (thn (dc_core (Qf := fun _ s' => SP X pins D .next s') calm nd I hi ok p1 p2 p3 p4 fold want' fun L C s' m H' I' q hn ff => ?_) fun _ s' hq => wpAny_pure (wpAny_pure hq))
  show wpAny _ _ (assign (.Name y py) X.env (.ref L)) _ _ _
  refine wpAny_assign_Name (store_ok2 (v := V.ref L) I' nd slot (.inl isLoc) rfl (fun s2 I2 there => ?_) (.inr isLoc))
  obtain ⟨a, sb, ha⟩ := there
  have ⟨u0, u1, u2, u3, u4, u5⟩ := ff
  have apart : C ≠ a := by
    rcases ha with z | z
    · exact fun e => u1 (e.trans z)
    · exact fun e => u4 y a z e.symm
  exact ⟨m, hn.sameBut sb apart, fun h3 sb3 => ⟨_, H', I2.turned (t' := s2.toks) (fun b o hb e => (sb3.2 b hb).trans e) u0 u1 u3 u4 u5, q⟩⟩
theorem md_look {H : Hp} {z : Str} : ∀ {md : List (Key × V)} {ms : MsT}, PySem.W.EachIs (MdR H) md ms → (valV md (.inr z) = none ∧ (ms.find? fun m => decide (m.1 = z)) = none) ∨ ∃ m t, (ms.find? fun m => decide (m.1 = z)) = some m ∧ valV md (.inr z) = some (.ref t) ∧ H t = some (.tup [.str m.2.1, .int m.2.2])
  | _, _, .nil => .inl ⟨rfl, rfl⟩
  | kv :: md, m :: ms, .cons h t => by
    obtain ⟨h1, t1, h2, h3⟩ := h
    have ih := md_look (z := z) t
    unfold valV at ih ⊢
    by_cases c : m.1 = z
    · refine .inr ⟨m, t1, List.find?_cons_of_pos (by simp [c]), ?_, h3⟩
      rw [List.find?_cons_of_pos (by simp [h1, c])]
      exact congrArg some h2
    · rw [List.find?_cons_of_neg (by simp [h1, c]), List.find?_cons_of_neg (by simp [c])]
      exact ih
theorem md_int {H : Hp} {n : Int} : ∀ {md : List (Key × V)} {ms : MsT}, PySem.W.EachIs (MdR H) md ms → valV md (.inl n) = none
  | _, _, .nil => rfl
  | kv :: md, m :: ms, .cons h t => by
    have ih := md_int (n := n) t
    unfold valV at ih ⊢
    rw [List.find?_cons_of_neg (by simp [h.1])]
    exact ih
def PjI (qs : List Pk) (ms : MsT) (i : Nat) (a : Adr) (us : Mul) (c : Str → List Lead) : Prop := ∀ p (e : Lead), e ∈ c p ↔ (e.1.1 = p ∧ ∃ w, (p, e.1.2, w) ∈ (adrs qs).take i ∧ e.2 ∈ ledW ms w) ∨ (p = a.1 ∧ e.1 = (a.1, a.2.1) ∧ e.2 ∈ us.filterMap fun q => ledU ms q.1)
def PiI (qs : List Pk) (ms : MsT) (i : Nat) (c : Str → List Lead) : Prop := ∀ p (e : Lead), e ∈ c p ↔ (e.1.1 = p ∧ ∃ w, (p, e.1.2, w) ∈ (adrs qs).take i ∧ e.2 ∈ ledW ms w)
section
variable {qs : List Pk} {ms : MsT} {i : Nat} {a : Adr} {us : Mul} {c : Str → List Lead}
theorem PiI.start (h : PiI qs ms i c) : PjI qs ms i a [] c := fun p e => by
  rw [h p e]
  constructor
  · exact .inl
  · rintro (h | ⟨_, _, h⟩)
    · exact h
    · cases h
theorem PjI.skip {u : List Key × Int} (h : PjI qs ms i a us c) (n : ledU ms u.1 = none) : PjI qs ms i a (us ++ [u]) c := fun p e => by
  rw [h p e, List.filterMap_append]
  have : [u].filterMap (fun q => ledU ms q.1) = [] := by simp [n]
  rw [this, List.append_nil]
theorem PjI.add {u : List Key × Int} {z : Str} (h : PjI qs ms i a us c) (n : ledU ms u.1 = some z) : PjI qs ms i a (us ++ [u]) (fun x => if x = a.1 then c x ++ [((a.1, a.2.1), z)] else c x) := fun p e => by
  have : [u].filterMap (fun q => ledU ms q.1) = [z] := by simp [n]
  rw [List.filterMap_append, this]
  show e ∈ (if p = a.1 then c p ++ [((a.1, a.2.1), z)] else c p) ↔ _
  by_cases k : p = a.1
  · rw [if_pos k, List.mem_append, List.mem_singleton, h p e, List.mem_append, List.mem_singleton]
    constructor
    · rintro ((h | ⟨h1, h2, h3⟩) | rfl)
      · exact .inl h
      · exact .inr ⟨h1, h2, .inl h3⟩
      · exact .inr ⟨k, rfl, .inr rfl⟩
    · rintro (h | ⟨h1, h2, h3 | h3⟩)
      · exact .inl (.inl h)
      · exact .inl (.inr ⟨h1, h2, h3⟩)
      · exact .inr (Prod.ext h2 h3)
  · rw [if_neg k, h p e]
    constructor
    · rintro (h | ⟨h1, _⟩)
      · exact .inl h
      · exact absurd h1 k
    · rintro (h | ⟨h1, _⟩)
      · exact .inl h
      · exact absurd h1 k
theorem PjI.done (h : PjI qs ms i a a.2.2.2 c) (ha : (adrs qs)[i]? = some a) : PiI qs ms (i + 1) c := fun p e => by
  rw [h p e, List.take_add_one, ha]
  constructor
  · rintro (⟨h1, w, h2, h3⟩ | ⟨h1, h2, h3⟩)
    · exact ⟨h1, w, List.mem_append_left _ h2, h3⟩
    · refine ⟨by rw [h2, h1], a.2.2, List.mem_append_right _ ?_, h3⟩
      have : (p, e.1.2, a.2.2) = a := by rw [h2, h1]
      rw [this]
      exact List.mem_singleton.mpr rfl
  · rintro ⟨h1, w, h2, h3⟩
    rcases List.mem_append.mp h2 with h2 | h2
    · exact .inl ⟨h1, w, h2, h3⟩
    · have h2 : (p, e.1.2, w) ∈ [a] := h2
      have h2 := List.mem_singleton.mp h2
      refine .inr ⟨by rw [← h2], ?_, ?_⟩
      · rw [← h2]
        exact Prod.ext h1 rfl
      · rw [← h2]
        exact h3
theorem PiI.all (h : PiI qs ms (adrs qs).length c) (nod : (qs.map (·.1)).Nodup) : LedAll qs ms c := fun p hp e => by
  rw [h p e, List.take_length]
  constructor
  · rintro ⟨h1, w, h2, h3⟩
    exact ⟨h1, w, ((adr_home nod).mp h2).2, h3⟩
  · rintro ⟨h1, w, h2, h3⟩
    exact ⟨h1, w, (adr_home nod).mpr ⟨hp, h2⟩, h3⟩
end
structure SmU (qs : List Pk) : Prop where
  few : (adrs qs).length ≤ 60
  mul : ∀ a ∈ adrs qs, a.2.2.2.length ≤ 10
def spLeads (C : Addr) : Sp := fun vs H Q _ => ∃ (x : Addr) (qs : List Pk) (ms : MsT) (ns : List Str), vs = [.ref x] ∧ UnG H C x qs ms ns ∧ SmU qs ∧ ∀ F ld c H', Same H H' → Lds F ld qs c H' → LedAll qs ms c → Q (.ref F) H'
abbrev sLeads : Stmt := topS 36
abbrev NLe : List Str := ["unit", "told", "p", "_", "found", "k", "word", "kind", "of"]
theorem scLeads : FnScope NLe ["unit"] (defScope sLeads) := ⟨rfl, rfl, rfl, by decide +kernel, rfl, by decide +kernel, by decide +kernel⟩
abbrev lE (i : Nat) : Stmt := (defBody sLeads).getD i (.Pass ⟨0, 0, 0, 0⟩)
section
variable {P : Program} {w : World} {K : PySem.W.Frag} {mg : Str → Option Value} {base : Heap} {C f : Addr} {cdv : Value} {A : Around} {outer : List Env} {s : Shared} {H0 : Hp} {E : XK}
abbrev XLe (P : Program) (w : World) (K : PySem.W.Frag) (mg : Str → Option Value) (base : Heap) (f : Addr) (cdv : Value) (A : Around) (outer : List Env) (s : Shared) (H : Hp) (E : XK) : Cx := (cxOf CX0 P w K mg base NLe "leads_of" (defScope sLeads) f cdv A outer s H E).nox
abbrev sgE (x D : Addr) (o2 o3 o4 o5 o6 o7 o8 : Option V) : L2.St := [some (.ref x), some (.ref D), o2, o3, o4, o5, o6, o7, o8]
theorem lds1 (MP : HasM P w K mg base CX0 1 C "pieces" ["self"] (spUPieces C)) (hr : Room 1 (XLe P w K mg base f cdv A outer s H0 E).A) : ∃ t, PS (XLe P w K mg base f cdv A outer s H0 E) (lE 1) t ∧ ∀ (D : Ends) (H : Hp) (x T : Addr) (qs : List Pk) (ms : MsT) (ns : List Str), UnG H C x qs ms ns →
      (∀ H' F ld, Same H H' → Lds F ld qs (fun _ => []) H' → (∀ kv ∈ ld, ∀ l, kv.2 = .ref l → H l = none) → D.nx (sgE x T none none (some (.ref F)) none none none none) H') → t D (sgE x T none none none none none none none) H := by
  refine ⟨_, (ps_setDc (i := 4) (own := [("p", 2), ("_", 3)]) (g := gTup K 3 (gCons (gName 2) (gCons (gName 3) (gCons (gName 3) gNil)))) (tt := tYes) (tk := tVar 2) (tv := tLst tNil) rfl scLeads.nd rfl rfl (sw_dt rfl rfl rfl (by decide +kernel)) (pi_list (pe_methH0 MP (pv 0) hr pass0)) (blkOk_by (N := NLe) (sc := defScope sLeads) (by decide +kernel))
      (fun _ _ _ _ _ => pg_tup rfl (pgs_cons (pg_name (i := 2) scLeads.nd rfl (.inl rfl)) (pgs_cons (pg_name (i := 3) scLeads.nd rfl (.inl rfl)) (pgs_cons (pg_name (i := 3) scLeads.nd rfl (.inl rfl)) pgs_nil)))) (fun _ _ _ _ _ => pts_nil) (fun _ _ _ _ _ => pv 2) (fun _ _ _ _ _ => pe_lst pa_nil)), ?_⟩
  intro D H x T qs ms ns un q
  obtain ⟨ok, _, _, dx, _, _, _, _, _, _, _, hx, _⟩ := id un
  refine ⟨_, rfl, x, dx, _, rfl, hx, rfl, x, qs, ms, ns, rfl, un, fun d ys H1 s1 nd hd hys => ?_⟩
  have ly : ys.length = qs.length := hys.length
  have few := ok.few
  refine ⟨d, rfl, ⟨ys, SqL.of hd⟩, fun F hF => ?_⟩
  refine dc_it (walk_list (xs := ys)) (fun i H4 => (∀ c o, c ≠ F → H1 c = some o → H4 c = some o) ∧ ∃ ld, Lds F ld (qs.take i) (fun _ => []) H4 ∧ ∀ kv ∈ ld, ∀ l, kv.2 = .ref l → H l = none)
    ⟨fun c o hc e => by rw [upd_ne hc]; exact e, [], ⟨upd_same, .nil, List.nodup_nil⟩, fun kv hk => by cases hk⟩ (fun i H4 _ ⟨kp, _⟩ => SqL.of (kp _ _ (ne_of_none hd hF) hd)) ?_ ?_
  · rintro i y H4 H4' hi ⟨kp, ld, L, new⟩ ⟨rfl, hy⟩
    obtain ⟨pc, hpc, hp⟩ := eachs_get hys hy
    have i2 : i < qs.length := (List.getElem?_eq_some_iff.mp hpc).1
    have s4 : Same H1 H4' := fun c o e => kp c o (ne_of_none e hF) e
    obtain ⟨t, b, ws, rfl, ht, hb, hws⟩ := pieceG_s (TupS.of s4) hp
    have nin : (.inr pc.1 : Key) ∉ ld.map (·.1) := by
      rw [ld_keys (c := fun _ => []) L.each]
      intro m
      obtain ⟨q', hq', e⟩ := List.mem_map.mp m
      have : pc.1 ∉ (qs.take i).map (·.1) := by
        rw [List.map_take]
        exact take_not ok.nod (by rw [List.getElem?_map, hpc]; rfl)
      exact this (List.mem_map.mpr ⟨q', hq', Sum.inr.inj e⟩)
    have lld : ld.length ≤ i := by
      rw [L.each.length, List.length_take]
      omega
    refine ⟨t, _, rfl, SqT.of ht, rfl, _, _, rfl, _, _, rfl, _, _, rfl, rfl, rfl, yes_go ?_⟩
    refine ⟨_, rfl, (by show 0 ≤ sizeLine; decide), fun l nl => ?_⟩
    have kl := same_new (o := .lst []) nl
    have gl : upd H4' l (.lst []) l = some (.lst []) := upd_same
    have L1 := L.same kl
    have ln : H l = none := none_of (s1.trans s4) nl
    have ldn : ∀ kv ∈ ld, kv.2 ≠ .ref l := fun kv hk z => by
      obtain ⟨j, hj⟩ := List.mem_iff_getElem?.mp hk
      obtain ⟨_, _, _, l', vs, h2, h3, _⟩ := eachs_get L.each hj
      rw [h2] at z
      obtain rfl : l' = l := by injection z
      rw [nl] at h3
      cases h3
    generalize upd H4' l (.lst []) = H5 at kl gl L1 ⊢
    have lF : l ≠ F := fun z => by
      have := L1.dic
      rw [← z, gl] at this
      cases this
    refine ⟨ld, .inr pc.1, rfl, L1.dic, small1000 (by omega), fun c o hc e => by rw [upd_ne hc]; exact kl _ _ (kp c o hc e), ?_⟩
    rw [putS_new nin]
    have ts : TupS H5 (upd H5 F (.dK (ld ++ [(.inr pc.1, .ref l)]))) := TupS.put L1.dic (by intro xs z; cases z)
    refine ⟨_, ⟨upd_same, ?_, ?_⟩, fun kv hk l2 z => ?_⟩
    · rw [List.take_add_one, hpc]
      refine eachs_snoc (R := fun kv (q : Pk) => LdV _ kv (q.1, [])) ⟨rfl, l, [], rfl, by rw [upd_ne lF]; exact gl, .nil⟩ (eachs_imp (fun kv q hh => ?_) L1.each)
      obtain ⟨h1, l', vs, h2, h3, h4⟩ := hh
      refine ⟨h1, l', vs, h2, ?_, eachs_imp (fun _ _ => ledR_t ts) h4⟩
      rw [upd_ne (fun z => by rw [z, L1.dic] at h3; cases h3)]
      exact h3
    · rw [List.map_append]
      refine List.nodup_append.mpr ⟨L1.dist, by simp, fun a ha b hb z => ?_⟩
      have hb : b = .ref l := List.mem_singleton.mp hb
      obtain ⟨kv, hk, rfl⟩ := List.mem_map.mp ha
      exact ldn kv hk (z.trans hb)
    · rcases List.mem_append.mp hk with hk | hk
      · exact new kv hk l2 z
      · rw [List.mem_singleton.mp hk] at z
        obtain rfl : l = l2 := by injection z
        exact ln
  · rintro H4 ⟨kp, ld, L, new⟩
    rw [ly, List.take_length] at L
    exact q H4 F ld (s1.trans fun c o e => kp c o (ne_of_none e hF) e) L new
end
end DR

namespace DR
open PySem PySem.Spec PyProof.Rows L2
theorem ledU_p {ms : MsT} {z : Str} : ledU ms [.inr sPiece, .inr z] = some z := by unfold ledU; exact if_pos rfl
theorem ledU_n {ms : MsT} {k z : Str} (h : k ≠ sPiece) : ledU ms [.inr k, .inr z] = (ms.find? fun m => decide (m.1 = z)).map (·.2.1) := by unfold ledU; exact if_neg h
theorem ledU_i {ms : MsT} {k : Str} {n : Int} : ledU ms [.inr k, .inl n] = none := rfl
theorem valV_in {ld : List (Key × V)} {k : Key} {v : V} (h : valV ld k = some v) : ∃ kv ∈ ld, kv.2 = v := by
  unfold valV at h
  cases e : ld.find? (fun e => decide (e.1 = k)) with
  | none => rw [e] at h; cases h
  | some kv =>
    rw [e] at h
    exact ⟨kv, List.mem_of_find?_eq_some e, Option.some.inj h⟩
section
variable {P : Program} {w : World} {K : PySem.W.Frag} {mg : Str → Option Value} {base : Heap} {C f : Addr} {cdv : Value} {A : Around} {outer : List Env} {s : Shared} {H0 : Hp} {E : XK}
theorem lds2 (MP : HasM P w K mg base CX0 1 C "pieces" ["self"] (spUPieces C)) (G : Has P w K mg base CX0 1 "words_of" ["pieces"] (spWordsL K)) (hr : Room 1 (XLe P w K mg base f cdv A outer s H0 E).A) : ∃ t, PS (XLe P w K mg base f cdv A outer s H0 E) (lE 2) t ∧ ∀ (D : Ends) (Hs H : Hp) (x T F : Addr) (md ld : List (Key × V)) (qs : List Pk) (ms : MsT) (ns : List Str), Same Hs H → UnG H C x qs ms ns → SmU qs → H T = some (.dK md) → PySem.W.EachIs (MdR H) md ms → Lds F ld qs (fun _ => []) H → (∀ kv ∈ ld, ∀ l, kv.2 = .ref l → Hs l = none) →
      (∀ H' c o2 o3 o5 o6 o7 o8, Same Hs H' → Lds F ld qs c H' → LedAll qs ms c → D.nx (sgE x T o2 o3 (some (.ref F)) o5 o6 o7 o8) H') → t D (sgE x T none none (some (.ref F)) none none none none) H := by
  have hu := hu_of hr
  refine ⟨_, (ps_for PassesOwn.never rfl (pi_itemsTF (pe_callH G hr (by rfl) pass0 (pa_cons (pe_methH0 MP (pv 0) hr pass0) pa_nil))) (pg_tup rfl (pgs_cons (pg_tup rfl (pgs_cons (pg_name (i := 2) scLeads.nd rfl (.inl rfl)) (pgs_cons (pg_name (i := 5) scLeads.nd rfl (.inl rfl)) pgs_nil))) (pgs_cons (pg_name (i := 6) scLeads.nd rfl (.inl rfl)) pgs_nil)))
    (pss_one (ps_for PassesOwn.never rfl (pi_tup (pe_ix ix_tup (pv 6) pe_int (fun _ _ => rfl))) (pg_tup rfl (pgs_cons (pg_tup rfl (pgs_cons (pg_name (i := 7) scLeads.nd rfl (.inl rfl)) (pgs_cons (pg_name (i := 8) scLeads.nd rfl (.inl rfl)) pgs_nil))) (pgs_cons (pg_name (i := 3) scLeads.nd rfl (.inl rfl)) pgs_nil)))
      (pss_one (ps_if (pt_cmpR op_eq (pv 7) pe_str (nomark _)) (pss_one (ps_expr (pe_bm PySem.F.plainAttrs_list PySem.F.slot_list_append PySem.F.type_list_append mt_append (pe_dget hu (pv 4) (pv 2) (fun _ _ => rfl)) (pa_cons (pe_tup (pa_cons (pe_tup (pa_cons (pv 2) (pa_cons (pv 5) pa_nil))) (pa_cons (pv 8) pa_nil))) pa_nil))))
        (pss_one (ps_if (pt_cmp (pc_din hu (pv 8) (pv 1)) (by rfl)) (pss_one (ps_expr (pe_bm PySem.F.plainAttrs_list PySem.F.slot_list_append PySem.F.type_list_append mt_append (pe_dget hu (pv 4) (pv 2) (fun _ _ => rfl)) (pa_cons (pe_tup (pa_cons (pe_tup (pa_cons (pv 2) (pa_cons (pv 5) pa_nil))) (pa_cons (pe_ix ix_tup (pe_dget hu (pv 1) (pv 8) (fun _ _ => rfl)) pe_int (fun _ _ => rfl)) pa_nil))) pa_nil)))) pss_nil))))))), ?_⟩
  intro D Hs H x T F md ld qs ms ns sH un sm hT hmd L new q
  obtain ⟨ok, _, _, dx, _, _, _, _, _, _, _, hx, _⟩ := id un
  refine ⟨_, rfl, x, dx, _, rfl, hx, rfl, x, qs, ms, ns, rfl, un, fun d ys H1 s1 nd hd hys => ?_⟩
  refine ⟨d, ys, qs, rfl, hd, hys, ok, fun W ks H2 s2 nW hW hks => ⟨W, ks, rfl, hW, fun o => ?_⟩⟩
  have lk : ks.length = (adrs qs).length := hks.length
  have few := sm.few
  have s12 := s1.trans s2
  have WF : W ≠ F := fun z => by
    have := s1 _ _ L.dic
    rw [← z, nW] at this
    cases this
  have WT : W ≠ T := fun z => by
    have := s1 _ _ hT
    rw [← z, nW] at this
    cases this
  have WHs : Hs W = none := none_of (sH.trans s1) nW
  have L2' := L.same s12
  have hT2 := s12 _ _ hT
  have hmd2 := eachs_imp (fun _ _ => mdR_s (TupS.of s12)) hmd
  have ts0 : TupS H2 (upd H2 W (.frz o (.dT ks))) := TupS.put hW (by intro xs z; cases z)
  have hW3 : upd H2 W (.frz o (.dT ks)) W = some (.frz o (.dT ks)) := upd_same
  have sS : Same Hs (upd H2 W (.frz o (.dT ks))) := fun b x e => by
    rw [upd_ne (fun z => by rw [z, WHs] at e; cases e)]
    exact s12 _ _ (sH _ _ e)
  have L3 : Lds F ld qs (fun _ => []) (upd H2 W (.frz o (.dT ks))) := by
    refine ⟨by rw [upd_ne WF.symm]; exact L2'.dic, eachs_imp (fun kv q hh => ?_) L2'.each, L2'.dist⟩
    obtain ⟨h1, l', vs, h2, h3, h4⟩ := hh
    refine ⟨h1, l', vs, h2, ?_, eachs_imp (fun _ _ => ledR_t ts0) h4⟩
    rw [upd_ne (fun z => by rw [z, hW] at h3; cases h3)]
    exact h3
  have hT3 : upd H2 W (.frz o (.dT ks)) T = some (.dK md) := by rw [upd_ne WT.symm]; exact hT2
  have hmd3 := eachs_imp (fun _ _ => mdR_s ts0) hmd2
  have hks3 := eachs_imp (fun _ _ => adrV_s ts0) hks
  generalize upd H2 W (.frz o (.dT ks)) = H3 at hW3 sS L3 hT3 hmd3 hks3 ⊢
  refine for_it walk_itemsT (fun i σ H4 => ∃ (o2 o3 o5 o6 o7 o8 : Option V) (c : Str → List Lead), σ = sgE x T o2 o3 (some (.ref F)) o5 o6 o7 o8 ∧ Same Hs H4 ∧ ExtL H3 H4 ∧ Lds F ld qs c H4 ∧ PiI qs ms i c ∧ ∀ p, (c p).length ≤ 10 * i)
    ⟨_, _, _, _, _, _, _, rfl, sS, .of (Same.refl _), L3, fun p e => ⟨fun h => (by cases h), fun ⟨_, w, h, _⟩ => (by rw [List.take_zero] at h; cases h)⟩, fun p => Nat.zero_le _⟩ (fun i σ H4 _ ⟨_, _, _, _, _, _, _, _, _, e4, _⟩ => e4 _ _ hW3 (by intro xs z; cases z)) ?_ ?_
  · rintro i y σ H4 H4' hi ⟨o2, o3, o5, o6, o7, o8, c, rfl, sj, ej, Lj, pi, bj⟩ ⟨TT, k, v, kq, hk, hq, rfl, nT, rfl⟩
    obtain ⟨⟨p, n, wd⟩, ha, ek, hsum⟩ := eachs_get hks3 hk
    have ek : k = [.inr p, .inl ((n : Nat) : Int)] := ek
    subst ek
    have hsum : SumP H3 v wd := hsum
    have i2 : i < (adrs qs).length := (List.getElem?_eq_some_iff.mp ha).1
    have sT := same_new (o := .tup [.ref kq, v]) nT
    have gT : upd H4 TT (.tup [.ref kq, v]) TT = some (.tup [.ref kq, v]) := upd_same
    have Lj' := Lj.same sT
    generalize upd H4 TT (.tup [.ref kq, v]) = H5 at sT gT Lj' ⊢
    have e5 : ExtL H3 H5 := ej.trans (.of sT)
    have s5 := sj.trans sT
    obtain ⟨c1, c2, us, rfl, hc1, hc2, hus⟩ := sumT_s e5.tup hsum
    have hp : p ∈ qs.map (·.1) := adrs_nm (List.mem_of_getElem? ha)
    have lu : us.length = wd.2.length := hus.length
    have mu : wd.2.length ≤ 10 := sm.mul _ (List.mem_of_getElem? ha)
    have nm : ∀ u ∈ wd.2.map (·.1), NmU u := by
      obtain ⟨q1, hq1, hm1⟩ := List.mem_flatMap.mp (List.mem_of_getElem? ha)
      unfold adrsP at hm1
      obtain ⟨wk, hwk, e⟩ := List.mem_map.mp hm1
      have hw : wk.1 ∈ q1.2.2 := (List.mem_zipIdx hwk).2.2 ▸ List.getElem_mem _
      have e : wk.1 = wd := congrArg (fun z : Adr => z.2.2) e
      exact ok.nm q1 hq1 wd (e ▸ hw)
    refine ⟨TT, _, rfl, SqT.of gT, rfl, _, _, rfl, ⟨kq, _, rfl, SqT.of (sT _ _ hq), rfl, _, _, rfl, _, _, rfl, rfl, _, _, rfl, rfl, ?_⟩⟩
    refine ⟨_, rfl, c1, _, _, _, rfl, rfl, SqT.of hc1, at_of (i := 1) rfl, c2, rfl, ⟨us, SqT.of hc2⟩, ?_⟩
    refine for_it walk_tup (fun j σ Hj => ∃ (o3 o7 o8 : Option V) (c : Str → List Lead), σ = sgE x T (some (.str p)) o3 (some (.ref F)) (some (.int (n : Nat))) (some (.ref c1)) o7 o8 ∧ Same Hs Hj ∧ ExtL H5 Hj ∧ Lds F ld qs c Hj ∧ PjI qs ms i (p, n, wd) (wd.2.take j) c ∧ ∀ p, (c p).length ≤ 10 * i + j)
      ⟨_, _, _, c, rfl, s5, .of (Same.refl _), Lj', pi.start, bj⟩ (fun j σ Hj _ ⟨_, _, _, _, _, _, ej5, _⟩ => SqT.of (ej5 _ _ hc2 (by intro xs z; cases z))) ?_ ?_
    · rintro j y σ Hj Hj' hj ⟨o3, o7, o8, cj, rfl, sj5, ej5, L5, pj, b5⟩ ⟨rfl, hy⟩
      obtain ⟨u, mm, cc, ee, hum, rfl, hcc, hee⟩ := part_get hus hy
      obtain ⟨kd, ob, rfl, hkd, hin⟩ := nm u (List.mem_map.mpr ⟨_, List.mem_of_getElem? hum, rfl⟩)
      have j2 : j < wd.2.length := (List.getElem?_eq_some_iff.mp hum).1
      have et : wd.2.take (j + 1) = wd.2.take j ++ [([.inr kd, ob], mm)] := by rw [List.take_add_one, hum]; rfl
      refine ⟨cc, _, rfl, SqT.of (ej5.tup _ _ hcc), rfl, _, _, rfl, ⟨ee, _, rfl, SqT.of (ej5.tup _ _ hee), rfl, _, _, rfl, _, _, rfl, rfl, _, _, rfl, rfl, ?_⟩⟩
      obtain ⟨l, vs, ev, hl, lv, _, _⟩ := L5.put ok.nod hp
      have gl : DGet Hj' F (.str p) (some (.ref l)) := by
        have := DGet.k (k := .inr p) L5.dic
        rw [ev] at this
        exact this
      obtain ⟨kv, hkm, ekv⟩ := valV_in ev
      have ln := new kv hkm l ekv
      have bl := b5 p
      have sml : vs.length < sizeLine := small1000 (by omega)
      have fin : ∀ (z : Str), ledU ms [.inr kd, ob] = some z → ∀ (H6 : Hp) (a t : Addr), Same Hj' H6 → H6 a = some (.tup [.str p, .int (n : Nat)]) → H6 t = none → ∃ (d : Addr) (xs : List V) (v : V), V.ref l = .ref d ∧ [V.ref t] = [v] ∧ upd H6 t (.tup [.ref a, .str z]) d = some (.lst xs) ∧ xs.length < sizeLine ∧ ∃ (o3 o7 o8 : Option V) (c : Str → List Lead), sgE x T (some (.str p)) (some (.int mm)) (some (.ref F)) (some (.int (n : Nat))) (some (.ref c1)) (some (.str kd)) (some (kV ob)) = sgE x T (some (.str p)) o3 (some (.ref F)) (some (.int (n : Nat))) (some (.ref c1)) o7 o8 ∧ Same Hs (upd (upd H6 t (.tup [.ref a, .str z])) d (.lst (xs ++ [v]))) ∧ ExtL H5 (upd (upd H6 t (.tup [.ref a, .str z])) d (.lst (xs ++ [v]))) ∧ Lds F ld qs c (upd (upd H6 t (.tup [.ref a, .str z])) d (.lst (xs ++ [v]))) ∧ PjI qs ms i (p, n, wd) (wd.2.take (j + 1)) c ∧ ∀ p, (c p).length ≤ 10 * i + (j + 1) := by
        intro z hz H6 a t s6 ha6 nt
        have s7 := same_new (o := .tup [.ref a, .str z]) nt
        have gt : upd H6 t (.tup [.ref a, .str z]) t = some (.tup [.ref a, .str z]) := upd_same
        generalize upd H6 t (.tup [.ref a, .str z]) = H7 at s7 gt ⊢
        have s67 := s6.trans s7
        obtain ⟨l', vs', ev', hl', _, _, put⟩ := (L5.same s67).put ok.nod hp
        obtain rfl : l' = l := by
          have := ev'.symm.trans ev
          injection this with this
          injection this
        have h7 := s67 _ _ hl
        obtain rfl : vs' = vs := by
          rw [h7] at hl'
          injection hl' with hl'
          injection hl' with hl'
          exact hl'.symm
        refine ⟨l', vs', .ref t, rfl, rfl, h7, sml, _, _, _, _, rfl, fun b o e => ?_, (ej5.trans (.of s67)).trans (.put h7), put (.ref t) ((p, n), z) ⟨t, a, rfl, gt, s7 _ _ ha6⟩, by rw [et]; exact pj.add hz, fun p' => ?_⟩
        · rw [upd_ne (fun y => by rw [y, ln] at e; cases e)]
          exact s67 _ _ (sj5 _ _ e)
        · have := b5 p'
          show (if p' = p then cj p' ++ [((p, n), z)] else cj p').length ≤ _
          split
          · rw [List.length_append, List.length_singleton]
            omega
          · omega
      refine ⟨_, rfl, rfl, _, rfl, ?_⟩
      by_cases k1 : kd = sPiece
      · subst k1
        obtain ⟨z, rfl⟩ : ∃ z, ob = .inr z := by
          cases ob with
          | inl m => exact absurd (hin.mp ⟨m, rfl⟩) (by decide +kernel)
          | inr z => exact ⟨z, rfl⟩
        rw [show decide (kV (.inr sPiece) = V.str "piece") = true from by decide +kernel]
        refine iteT ⟨_, rfl, _, rfl, F, _, rfl, gl, .inl ⟨rfl, vs, SqL.of hl⟩, _, rfl, _, rfl, (by show 2 ≤ sizeLine; decide), fun a na => ⟨_, rfl, (by show 2 ≤ sizeLine; decide), fun t nt => ?_⟩⟩
        exact fin z ledU_p _ a t (same_new na) upd_same nt
      · rw [show decide (kV (.inr kd) = V.str "piece") = false from decide_eq_false fun z => k1 (by injection z)]
        have skip : ledU ms [.inr kd, ob] = none → ∃ (o3 o7 o8 : Option V) (c : Str → List Lead), sgE x T (some (.str p)) (some (.int mm)) (some (.ref F)) (some (.int (n : Nat))) (some (.ref c1)) (some (.str kd)) (some (kV ob)) = sgE x T (some (.str p)) o3 (some (.ref F)) (some (.int (n : Nat))) (some (.ref c1)) o7 o8 ∧ Same Hs Hj' ∧ ExtL H5 Hj' ∧ Lds F ld qs c Hj' ∧ PjI qs ms i (p, n, wd) (wd.2.take (j + 1)) c ∧ ∀ p, (c p).length ≤ 10 * i + (j + 1) := fun e => by
          refine ⟨_, _, _, cj, rfl, sj5, ej5, L5, by rw [et]; exact pj.skip e, fun p' => ?_⟩
          have := b5 p'
          omega
        have hTj : Hj' T = some (.dK md) := (e5.trans ej5) _ _ hT3 (by intro xs z; cases z)
        have hmdj : PySem.W.EachIs (MdR Hj') md ms := eachs_imp (fun _ _ => mdR_s (e5.trans ej5).tup) hmd3
        refine iteF ⟨_, rfl, _, rfl, T, _, rfl, DGet.k (k := ob) hTj, ?_⟩
        cases ob with
        | inl m =>
          rw [md_int hmdj]
          exact ⟨_, rfl, iteF (skip rfl)⟩
        | inr z =>
          have eU : ledU ms [.inr kd, .inr z] = (ms.find? fun m => decide (m.1 = z)).map (·.2.1) := ledU_n k1
          rcases md_look (z := z) hmdj with ⟨e1, e2⟩ | ⟨m, t0, e1, e2, ht0⟩
          · rw [e1]
            exact ⟨_, rfl, iteF (skip (by rw [eU, e2]; rfl))⟩
          · rw [e2]
            refine ⟨_, rfl, iteT ⟨_, rfl, _, rfl, F, _, rfl, gl, .inl ⟨rfl, vs, SqL.of hl⟩, _, rfl, _, rfl, (by show 2 ≤ sizeLine; decide), fun a na => ⟨_, rfl, _, rfl, T, .ref t0, rfl, ?_, t0, _, _, _, rfl, rfl, SqT.of (same_new na _ _ ht0), at_of (i := 0) rfl, (by show 2 ≤ sizeLine; decide), fun t nt => ?_⟩⟩⟩
            · have := DGet.k (k := .inr z) (same_new (o := .tup [V.str p, V.int (n : Nat)]) na _ _ hTj)
              rw [e2] at this
              exact this
            · exact fin m.2.1 (by rw [eU, e1]; rfl) _ a t (same_new na) upd_same nt
    · rintro σ Hj ⟨o3, o7, o8, cj, rfl, sj5, ej5, L5, pj, b5⟩
      rw [lu, List.take_length] at pj
      refine ⟨_, _, _, _, _, _, cj, rfl, sj5, e5.trans ej5, L5, pj.done ha, fun z => ?_⟩
      have := b5 z
      omega
  · rintro σ H4 ⟨o2, o3, o5, o6, o7, o8, c, rfl, sj, ej, Lj, pi, bj⟩
    rw [lk] at pi
    exact q H4 c _ _ _ _ _ _ sj Lj (pi.all ok.nod)
end
end DR

namespace DR
open PySem PySem.Spec PyProof.Rows L2
section
variable {P : Program} {w : World} {K : PySem.W.Frag} {mg : Str → Option Value} {base : Heap}
theorem ok_leads {f C : Addr} {fd : FuncData} (F : Fun K "leads_of" "leads_of" sLeads f fd) (MT : HasM P w K mg base CX0 1 C "told" ["self"] (spUTold C)) (MP : HasM P w K mg base CX0 1 C "pieces" ["self"] (spUPieces C)) (G : Has P w K mg base CX0 1 "words_of" ["pieces"] (spWordsL K)) :
    FnOk P w K mg base CX0 2 f fd ["unit"] (spLeads C) := by
  refine F.ok scLeads (fun vs H Q E h => ?_) (fun cdv A outer s H vs Q E hr h => ?_)
  · obtain ⟨x, qs, ms, ns, rfl, _⟩ := h
    rfl
  · obtain ⟨x, qs, ms, ns, rfl, un, sm, q⟩ := h
    obtain ⟨t1, h1, q1⟩ := lds1 (f := f) (cdv := cdv) (A := A) (outer := outer) (s := s) (H0 := H) (E := E) MP hr
    obtain ⟨t2, h2, q2⟩ := lds2 (f := f) (cdv := cdv) (A := A) (outer := outer) (s := s) (H0 := H) (E := E) MP G hr
    refine ⟨_, (pss_cons (ps_set (i := 1) scLeads.nd rfl (.inl rfl) (pe_methH0 MT (pv 0) hr pass0)) (pss_cons h1 (pss_cons h2 (pss_one (ps_ret (pv 4)))))), ?_⟩
    obtain ⟨_, _, _, dx, _, _, _, _, _, _, _, hx, _⟩ := id un
    refine ⟨_, rfl, x, dx, _, rfl, hx, rfl, x, qs, ms, ns, rfl, un, fun T md H1 s1 nT hT hmd => ?_⟩
    refine q1 _ H1 x T qs ms ns (unG_s s1 un) fun H2 F0 ld s2 L new => ?_
    refine q2 _ H1 H2 x T F0 md ld qs ms ns s2 (unG_s (s1.trans s2) un) sm (s2 _ _ hT) (eachs_imp (fun _ _ => mdR_s (TupS.of s2)) hmd) L new fun H3 c o2 o3 o5 o6 o7 o8 s3 L3 all => ?_
    exact ⟨_, rfl, q F0 ld c H3 (s1.trans s3) L3 all⟩
end
end DR

namespace DR
open PySem PySem.Spec PyProof.Rows L2
/-! ### ways_from -/
def AdY (H : Hp) (v : V) (a : Str × Nat) : Prop := ∃ r, v = .ref r ∧ H r = some (.tup [.str a.1, .int (a.2 : Nat)])
theorem adTt {H H' : Hp} (ts : TupS H H') {v : V} {a : Str × Nat} (h : AdY H v a) : AdY H' v a := by
  obtain ⟨r, h1, h2⟩ := h
  exact ⟨r, h1, ts _ _ h2⟩
def WyR (H : Hp) (kv : Key × V) (f : Str × List (Str × Nat)) : Prop := kv.1 = .inr f.1 ∧ ∃ l vs, kv.2 = .ref l ∧ H l = some (.lst vs) ∧ PySem.W.EachIs (AdY H) vs f.2
theorem wyR_s {H H' : Hp} (e : Same H H') {kv : Key × V} {f : Str × List (Str × Nat)} (h : WyR H kv f) : WyR H' kv f := by
  obtain ⟨h1, l, vs, h2, h3, h4⟩ := h
  exact ⟨h1, l, vs, h2, e _ _ h3, eachs_imp (fun _ _ => adTt (TupS.of e)) h4⟩
theorem wyR_put {H : Hp} {F : Addr} {kvs kvs' : List (Key × V)} (hF : H F = some (.dK kvs)) {kv : Key × V} {f : Str × List (Str × Nat)} (h : WyR H kv f) : WyR (upd H F (.dK kvs')) kv f := by
  obtain ⟨h1, l, vs, h2, h3, h4⟩ := h
  have ts : TupS H (upd H F (.dK kvs')) := TupS.put hF (by intro xs z; cases z)
  exact ⟨h1, l, vs, h2, by rw [upd_ne (fun z => by rw [z, hF] at h3; cases h3)]; exact h3, eachs_imp (fun _ _ => adTt ts) h4⟩
structure Wys (F : Addr) (kvs : List (Key × V)) (fs : FsT) (Hs H : Hp) : Prop where
  dic : H F = some (.dK kvs)
  each : PySem.W.EachIs (WyR H) kvs fs
  new : ∀ kv ∈ kvs, ∀ l, kv.2 = .ref l → Hs l = none
theorem Wys.same {F : Addr} {kvs : List (Key × V)} {fs : FsT} {Hs H H' : Hp} (h : Wys F kvs fs Hs H) (e : Same H H') : Wys F kvs fs Hs H' :=
  ⟨e _ _ h.dic, eachs_imp (fun _ _ => wyR_s e) h.each, h.new⟩
theorem wy_keys {H : Hp} : ∀ {kvs : List (Key × V)} {fs : FsT}, PySem.W.EachIs (WyR H) kvs fs → kvs.map (·.1) = fs.map fun f => (.inr f.1 : Key)
  | _, _, .nil => rfl
  | _, _, .cons h t => by rw [List.map_cons, List.map_cons, wy_keys t, (show _ = _ from h.1)]
theorem wy_in {H : Hp} {kvs : List (Key × V)} {fs : FsT} (h : PySem.W.EachIs (WyR H) kvs fs) {p : Str} : (.inr p : Key) ∈ kvs.map (·.1) ↔ p ∈ fs.map (·.1) := by
  rw [wy_keys h]
  constructor
  · intro m
    obtain ⟨f, hf, e⟩ := List.mem_map.mp m
    exact List.mem_map.mpr ⟨f, hf, Sum.inr.inj e⟩
  · intro m
    obtain ⟨f, hf, e⟩ := List.mem_map.mp m
    exact List.mem_map.mpr ⟨f, hf, congrArg Sum.inr e⟩
theorem Wys.add {F l : Addr} {kvs : List (Key × V)} {fs : FsT} {Hs H : Hp} {p : Str} {vs : List V} {way : List (Str × Nat)} (h : Wys F kvs fs Hs H) (n : p ∉ fs.map (·.1)) (hl : H l = some (.lst vs)) (hw : PySem.W.EachIs (AdY H) vs way) (nl : Hs l = none) :
    putK kvs (.inr p) (.ref l) = kvs ++ [(.inr p, .ref l)] ∧ Wys F (kvs ++ [(.inr p, .ref l)]) (fs ++ [(p, way)]) Hs (upd H F (.dK (kvs ++ [(.inr p, .ref l)]))) := by
  refine ⟨putS_new fun m => n ((wy_in h.each).mp m), upd_same, eachs_snoc (R := WyR _) (wyR_put h.dic ⟨rfl, l, vs, rfl, hl, hw⟩) (eachs_imp (fun _ _ => wyR_put h.dic) h.each), fun kv hk l2 z => ?_⟩
  rcases List.mem_append.mp hk with hk | hk
  · exact h.new kv hk l2 z
  · rw [List.mem_singleton.mp hk] at z
    obtain rfl : l = l2 := by injection z
    exact nl
theorem putK_has {md : List (Key × V)} {k : Key} {v : V} (h : k ∈ md.map (·.1)) : putK md k v = md.map fun kv => if kv.1 = k then (kv.1, v) else kv := by
  unfold putK
  rw [if_pos]
  obtain ⟨kv, hm, e⟩ := List.mem_map.mp h
  exact List.any_eq_true.mpr ⟨kv, hm, by simp [e]⟩
theorem wy_again {H : Hp} {l : Addr} {k : Key} (hl : H l = some (.lst [])) : ∀ {kvs : List (Key × V)} {fs : FsT}, PySem.W.EachIs (WyR H) kvs fs → (∀ f ∈ fs, f.2 = []) → PySem.W.EachIs (WyR H) (kvs.map fun kv => if kv.1 = k then (kv.1, .ref l) else kv) fs
  | _, _, .nil, _ => .nil
  | kv :: kvs, f :: fs, .cons h t, a => by
    refine .cons ?_ (wy_again hl t fun f hf => a f (List.mem_cons_of_mem _ hf))
    show WyR H (if kv.1 = k then (kv.1, .ref l) else kv) f
    by_cases c : kv.1 = k
    · rw [if_pos c]
      refine ⟨h.1, l, [], rfl, hl, ?_⟩
      rw [a f (List.mem_cons_self ..)]
      exact .nil
    · rw [if_neg c]
      exact h
/-- the piece of a told name -/
def tgt (ms : MsT) (r : Str) : Option Str := (ms.find? fun m => decide (m.1 = r)).map (·.2.1)
abbrev sWays : Stmt := topS 37
abbrev NWy : List Str := ["unit", "roots", "told", "leads", "found", "looked", "newer", "p", "address", "q", "name"]
theorem scWays : FnScope NWy ["unit", "roots"] (defScope sWays) := ⟨rfl, rfl, rfl, by decide +kernel, rfl, by decide +kernel, by decide +kernel⟩
abbrev wY (i : Nat) : Stmt := (defBody sWays).getD i (.Pass ⟨0, 0, 0, 0⟩)
abbrev XWy (P : Program) (w : World) (K : PySem.W.Frag) (mg : Str → Option Value) (base : Heap) (f : Addr) (cdv : Value) (A : Around) (outer : List Env) (s : Shared) (H : Hp) (E : XK) : Cx := (cxOf CX0 P w K mg base NWy "ways_from" (defScope sWays) f cdv A outer s H E).nox
abbrev sgW (x b : Addr) (o2 o3 o4 o5 o6 o7 o8 o9 : Option V) : L2.St := [some (.ref x), some (.ref b), o2, o3, o4, o5, o6, o7, o8, o9, none]
section
variable {P : Program} {w : World} {K : PySem.W.Frag} {mg : Str → Option Value} {base : Heap} {C f : Addr} {cdv : Value} {A : Around} {outer : List Env} {s : Shared} {H0 : Hp} {E : XK}
theorem wy2 (hr : Room 2 (XWy P w K mg base f cdv A outer s H0 E).A) : ∃ t, PS (XWy P w K mg base f cdv A outer s H0 E) (wY 2) t ∧ ∀ (D : Ends) (Hs H : Hp) (x b T : Addr) (md : List (Key × V)) (ms : MsT) (rs : List Str) (o3 : Option V), Same Hs H → (SqL K H b (rs.map V.str) ∨ SqT K H b (rs.map V.str)) → rs.length ≤ 100 → H T = some (.dK md) → PySem.W.EachIs (MdR H) md ms → (∀ r ∈ rs, (tgt ms r).isSome = true) →
      (∀ H' F kvs fs, H F = none → Same H H' → Wys F kvs fs Hs H' → (fs.map (·.1)).Nodup → (∀ f ∈ fs, f.2 = []) → (∀ p, p ∈ fs.map (·.1) ↔ p ∈ rs.filterMap (tgt ms)) → kvs.length ≤ 100 → D.nx (sgW x b (some (.ref T)) o3 (some (.ref F)) none none none none none) H') → t D (sgW x b (some (.ref T)) o3 none none none none none none) H := by
  have hu := hu_of hr
  refine ⟨_, (ps_setDc (i := 4) (own := [("name", 10)]) (g := gName 10) (tt := tYes) (tk := tOp (rIxT K) (tDGet (tVar 2) (tVar 10)) (tC (.int 0))) (tv := tLst tNil) rfl scWays.nd rfl rfl (sw_dt rfl rfl rfl (by decide +kernel)) (pi_seqB (pv 1)) (blkOk_by (N := NWy) (sc := defScope sWays) (by decide +kernel))
      (fun _ _ _ _ _ => pg_name (i := 10) scWays.nd rfl (.inl rfl)) (fun _ _ _ _ _ => pts_nil) (fun _ _ _ _ _ => pe_ix ix_tup (pe_dget hu (pv 2) (pv 10) (fun _ _ => rfl)) pe_int (fun _ _ => rfl)) (fun _ _ _ _ _ => pe_lst pa_nil)), ?_⟩
  intro D Hs H x b T md ms rs o3 sH hb few hT hmd al q
  obtain ⟨bb, hbb⟩ := sqK_of hb
  refine ⟨_, rfl, b, _, bb, rfl, hbb, fun J Gd W hG => fun F hF => ?_⟩
  refine dc_it W (fun i H4 => (∀ c o, c ≠ F → H c = some o → H4 c = some o) ∧ ∃ kvs fs, Wys F kvs fs Hs H4 ∧ (fs.map (·.1)).Nodup ∧ (∀ f ∈ fs, f.2 = []) ∧ (∀ p, p ∈ fs.map (·.1) ↔ p ∈ (rs.take i).filterMap (tgt ms)) ∧ kvs.length ≤ i)
    ⟨fun c o hc e => by rw [upd_ne hc]; exact e, [], [], ⟨upd_same, .nil, fun kv hk => (by cases hk)⟩, List.nodup_nil, (fun f hf => (by cases hf)), (fun p => (by simp)), Nat.zero_le _⟩ (fun i H4 _ ⟨kp, _⟩ => hG H4 (sqK_same (fun c o e => kp c o (ne_of_none e hF) e) hbb)) ?_ ?_
  · rintro i y H4 H4' hi ⟨kp, kvs, fs, Wy, nd, emp, mem, lk⟩ ⟨rfl, hy⟩
    rw [List.length_map] at hi
    have s4 : Same H H4' := fun c o e => kp c o (ne_of_none e hF) e
    have hr1 := List.getElem?_eq_getElem hi
    generalize rs[i] = r at hr1
    obtain rfl : y = .str r := by
      rw [List.getElem?_map, hr1] at hy
      exact (Option.some.inj hy).symm
    have isr := al r (List.mem_of_getElem? hr1)
    rcases md_look (z := r) (eachs_imp (fun _ _ => mdR_s (TupS.of s4)) hmd) with ⟨_, e2⟩ | ⟨m, t0, e1, e2, ht0⟩
    · unfold tgt at isr
      rw [e2] at isr
      cases isr
    · have et : tgt ms r = some m.2.1 := by unfold tgt; rw [e1]; rfl
      refine ⟨rfl, yes_go ?_⟩
      have gd : DGet H4' T (.str r) (some (.ref t0)) := by
        have := DGet.k (k := .inr r) (s4 _ _ hT)
        rw [e2] at this
        exact this
      refine ⟨_, rfl, _, rfl, T, _, rfl, gd, t0, _, _, _, rfl, rfl, SqT.of ht0, at_of (i := 0) rfl, (by show 0 ≤ sizeLine; decide), fun l nl => ?_⟩
      have kl := same_new (o := .lst []) nl
      have gl : upd H4' l (.lst []) l = some (.lst []) := upd_same
      have W1 := Wy.same kl
      have ln : Hs l = none := none_of (sH.trans s4) nl
      generalize upd H4' l (.lst []) = H5 at kl gl W1 ⊢
      have tk : ∀ p, p ∈ (rs.take (i + 1)).filterMap (tgt ms) ↔ (p ∈ (rs.take i).filterMap (tgt ms) ∨ p = m.2.1) := fun p => by
        rw [List.take_add_one, hr1, List.filterMap_append, List.mem_append]
        have : (some r).toList.filterMap (tgt ms) = [m.2.1] := by simp [et]
        rw [this, List.mem_singleton]
      refine ⟨kvs, .inr m.2.1, rfl, W1.dic, small1000 (by omega), fun c o hc e => by rw [upd_ne hc]; exact kl _ _ (kp c o hc e), ?_⟩
      by_cases k : m.2.1 ∈ fs.map (·.1)
      · have hk : (.inr m.2.1 : Key) ∈ kvs.map (·.1) := (wy_in W1.each).mpr k
        rw [putK_has hk]
        refine ⟨_, fs, ⟨upd_same, eachs_imp (fun _ _ => wyR_put W1.dic) (wy_again gl W1.each emp), fun kv hk2 l2 z => ?_⟩, nd, emp, fun p => ?_, by rw [List.length_map]; omega⟩
        · obtain ⟨kv0, hk0, rfl⟩ := List.mem_map.mp hk2
          have z : (if kv0.1 = .inr m.2.1 then (kv0.1, .ref l) else kv0).2 = V.ref l2 := z
          by_cases c : kv0.1 = .inr m.2.1
          · rw [if_pos c] at z
            obtain rfl : l = l2 := by injection z
            exact ln
          · rw [if_neg c] at z
            exact W1.new kv0 hk0 l2 z
        · rw [tk, mem]
          constructor
          · exact .inl
          · rintro (h | rfl)
            · exact h
            · exact (mem _).mp k
      · obtain ⟨ep, W2⟩ := W1.add k gl .nil ln
        rw [ep]
        refine ⟨_, _, W2, ?_, fun f hf => ?_, fun p => ?_, by rw [List.length_append, List.length_singleton]; omega⟩
        · rw [List.map_append]
          refine List.nodup_append.mpr ⟨nd, by simp, fun a ha b hb z => ?_⟩
          have hb : b = m.2.1 := List.mem_singleton.mp hb
          rw [z, hb] at ha
          exact k ha
        · rcases List.mem_append.mp hf with hf | hf
          · exact emp f hf
          · rw [List.mem_singleton.mp hf]
        · rw [tk, List.map_append, List.mem_append, mem]
          show _ ∨ p ∈ [m.2.1] ↔ _
          rw [List.mem_singleton]
  · rintro H4 ⟨kp, kvs, fs, Wy, nd, emp, mem, lk⟩
    rw [List.length_map] at lk
    have mem2 : ∀ p, p ∈ fs.map (·.1) ↔ p ∈ rs.filterMap (tgt ms) := fun p => by
      rw [mem p, List.length_map, List.take_length]
    exact q H4 F kvs fs hF (fun c o e => kp c o (ne_of_none e hF) e) Wy nd emp mem2 (by omega)
end
end DR

namespace DR
open PySem PySem.Spec PyProof.Rows L2
theorem wy_look {H : Hp} {p : Str} : ∀ {kvs : List (Key × V)} {fs : FsT}, PySem.W.EachIs (WyR H) kvs fs → (p ∉ fs.map (·.1) ∧ valV kvs (.inr p) = none) ∨ ∃ way l vs, (p, way) ∈ fs ∧ valV kvs (.inr p) = some (.ref l) ∧ H l = some (.lst vs) ∧ PySem.W.EachIs (AdY H) vs way
  | _, _, .nil => .inl ⟨(fun h => (by cases h)), rfl⟩
  | kv :: kvs, f :: fs, .cons h t => by
    obtain ⟨h1, l, vs, h2, h3, h4⟩ := h
    have ih := wy_look (p := p) t
    unfold valV at ih ⊢
    by_cases c : f.1 = p
    · refine .inr ⟨f.2, l, vs, ?_, ?_, h3, h4⟩
      · rw [← c]
        exact List.mem_cons_self ..
      · rw [List.find?_cons_of_pos (by simp [h1, c])]
        exact congrArg some h2
    · rw [List.find?_cons_of_neg (by simp [h1, c])]
      rcases ih with ⟨i1, i2⟩ | ⟨way, l, vs, i1, i2⟩
      · refine .inl ⟨fun m => ?_, i2⟩
        rcases List.mem_cons.mp m with m | m
        · exact c m.symm
        · exact i1 m
      · exact .inr ⟨way, l, vs, List.mem_cons_of_mem _ i1, i2⟩
theorem wo_put {H : Hp} {N F : Addr} {o : HO} (h : F ≠ N) : wo (upd H F o) N = upd (wo H N) F o := by
  funext b
  by_cases c : b = N
  · rw [c]
    unfold wo
    rw [if_pos rfl, upd_ne (Ne.symm h)]
    show none = (if N = N then none else H N)
    rw [if_pos rfl]
  · rw [wo_ne c]
    by_cases d : b = F
    · rw [d, upd_same, upd_same]
    · rw [upd_ne d, upd_ne d, wo_ne c]
theorem wo_fresh {H : Hp} {N : Addr} {o : HO} (h : H N = none) : Same H (wo (upd H N o) N) := fun b x e => by
  have : b ≠ N := fun z => by rw [z, h] at e; cases e
  rw [wo_ne this, upd_ne this]
  exact e
/-- what stands within a round -/
structure Rnd (F N : Addr) (kvs : List (Key × V)) (fs : FsT) (newer : List Str) (Hs Hr Hj : Hp) : Prop where
  kp : ∀ b o, b ≠ F → Hr b = some o → Hj b = some o
  nw : Hj N = some (.lst (newer.map V.str))
  wy : Wys F kvs fs Hs (wo Hj N)
theorem Rnd.same {F N : Addr} {kvs : List (Key × V)} {fs : FsT} {newer : List Str} {Hs Hr Hj H' : Hp} (h : Rnd F N kvs fs newer Hs Hr Hj) (e : Same Hj H') : Rnd F N kvs fs newer Hs Hr H' :=
  ⟨fun b o hb x => e _ _ (h.kp b o hb x), e _ _ h.nw, h.wy.same fun b o x => by
    have : b ≠ N := fun z => by rw [z] at x; unfold wo at x; rw [if_pos rfl] at x; cases x
    rw [wo_ne this] at x ⊢
    exact e _ _ x⟩
abbrev wB (i : Nat) : Stmt := match wY 4 with
  | .While _ b _ _ => b.getD i (.Pass ⟨0, 0, 0, 0⟩)
  | _ => .Pass ⟨0, 0, 0, 0⟩
section
variable {P : Program} {w : World} {K : PySem.W.Frag} {mg : Str → Option Value} {base : Heap} {C f : Addr} {cdv : Value} {A : Around} {outer : List Env} {s : Shared} {H0 : Hp} {E : XK}
theorem wr1 (hr : Room 2 (XWy P w K mg base f cdv A outer s H0 E).A) : ∃ t, PS (XWy P w K mg base f cdv A outer s H0 E) (wB 1) t ∧ ∀ (D : Ends) (Hs Hr H : Hp) (x b T Le F Lk N : Addr) (ld kvs : List (Key × V)) (qs : List Pk) (ms : MsT) (S : List Str) (c : Str → List Lead) (t0 : Nat) (lk : List Str) (fs : FsT), Rnd F N kvs fs [] Hs Hr H → Hr N = none → (∃ k0, Hr F = some (.dK k0)) → Same Hs Hr → Hs F = none → Lds Le ld qs c Hr → Le ≠ F → LedAll qs ms c → Hr Lk = some (.lst (lk.map V.str)) → Lk ≠ F → Bfs qs ms S t0 fs lk → (qs.map (·.1)).Nodup → Among qs ms S (qs.map (·.1)) → qs.length ≤ 10 →
      (∀ H' kvs fs newer o7 o8 o9, Rnd F N kvs fs newer Hs Hr H' → Bfs qs ms S (t0 + 1) fs newer → D.nx (sgW x b (some (.ref T)) (some (.ref Le)) (some (.ref F)) (some (.ref Lk)) (some (.ref N)) o7 o8 o9) H') → ∀ (o7 o8 o9 : Option V), t D (sgW x b (some (.ref T)) (some (.ref Le)) (some (.ref F)) (some (.ref Lk)) (some (.ref N)) o7 o8 o9) H := by
  have hu := hu_of hr
  refine ⟨_, (ps_for PassesOwn.never rfl (pi_list (pv 5)) (pg_name (i := 7) scWays.nd rfl (.inl rfl)) (pss_one (ps_for PassesOwn.never rfl (pi_list (pe_dget hu (pv 3) (pv 7) (fun _ _ => rfl))) (pg_tup rfl (pgs_cons (pg_name (i := 8) scWays.nd rfl (.inl rfl)) (pgs_cons (pg_name (i := 9) scWays.nd rfl (.inl rfl)) pgs_nil)))
    (pss_one (ps_if (pt_cmp (pc_dnotin hu (pv 9) (pv 4)) (by rfl)) (pss_cons (ps_dput hu (pv 4) (pv 9) (pe_op op_cat (pe_dget hu (pv 4) (pv 7) (fun _ _ => rfl)) (pe_lst (pa_cons (pv 8) pa_nil))) rfl) (pss_one (ps_expr (pe_bm PySem.F.plainAttrs_list PySem.F.slot_list_append PySem.F.type_list_append mt_append (pv 6) (pa_cons (pv 9) pa_nil))))) pss_nil))))), ?_⟩
  intro D Hs Hr H x b T Le F Lk N ld kvs qs ms S c t0 lk fs R nN ⟨k0, hF⟩ sHs nF L LeF all hLk LkF B nod am few q o7 o8 o9
  refine ⟨_, rfl, Lk, rfl, ⟨_, SqL.of (R.kp _ _ LkF hLk)⟩, ?_⟩
  refine for_it (walk_list (xs := lk.map V.str)) (fun i σ Hj => ∃ (kvs : List (Key × V)) (fs : FsT) (newer : List Str) (o7 o8 o9 : Option V), σ = sgW x b (some (.ref T)) (some (.ref Le)) (some (.ref F)) (some (.ref Lk)) (some (.ref N)) o7 o8 o9 ∧ Rnd F N kvs fs newer Hs Hr Hj ∧ BfsI qs ms S t0 lk (fun p q => p ∈ lk.take i ∧ Led qs ms p q) fs newer)
    ⟨_, _, _, _, _, _, rfl, R, B.start.done fun p q h => (by have := h.1; rw [List.take_zero] at this; cases this)⟩ (fun i σ Hj _ ⟨_, _, _, _, _, _, _, R, _⟩ => SqL.of (R.kp _ _ LkF hLk)) ?_ ?_
  · rintro i y σ Hj Hj' hi ⟨kvs, fs, newer, o7, o8, o9, rfl, R, I⟩ ⟨rfl, hy⟩
    rw [List.length_map] at hi
    have hp := List.getElem?_eq_getElem hi
    generalize lk[i] = p at hp
    obtain rfl : y = .str p := by
      rw [List.getElem?_map, hp] at hy
      exact (Option.some.inj hy).symm
    have dp := (B.lk p).mp (List.mem_of_getElem? hp)
    have hpn : p ∈ qs.map (·.1) := am.rt dp.1
    have tk : lk.take (i + 1) = lk.take i ++ [p] := by rw [List.take_add_one, hp]; rfl
    obtain ⟨l, vs, ev, hl, lv, hvs, _⟩ := L.put nod hpn
    have gl : DGet Hj' Le (.str p) (some (.ref l)) := by
      have := DGet.k (k := .inr p) (R.kp _ _ LeF L.dic)
      rw [ev] at this
      exact this
    have lF : l ≠ F := fun z => by rw [z, hF] at hl; cases hl
    have NF : N ≠ F := fun z => by rw [z, hF] at nN; cases nN
    have tsr : ∀ {Hj : Hp} {kvs fs newer}, Rnd F N kvs fs newer Hs Hr Hj → TupS Hr Hj := fun R b xs e => R.kp b _ (fun z => by rw [z, hF] at e; cases e) e
    refine ⟨_, rfl, _, rfl, Le, _, rfl, gl, l, rfl, ⟨vs, SqL.of (R.kp _ _ lF hl)⟩, ?_⟩
    refine for_it (walk_list (xs := vs)) (fun j σ Hj => ∃ (kvs : List (Key × V)) (fs : FsT) (newer : List Str) (o8 o9 : Option V), σ = sgW x b (some (.ref T)) (some (.ref Le)) (some (.ref F)) (some (.ref Lk)) (some (.ref N)) (some (.str p)) o8 o9 ∧ Rnd F N kvs fs newer Hs Hr Hj ∧ BfsI qs ms S t0 lk (fun p' q' => (p' ∈ lk.take i ∧ Led qs ms p' q') ∨ (p' = p ∧ q' ∈ ((c p).take j).map (·.2))) fs newer)
      ⟨_, _, _, _, _, rfl, R, I.done fun p' q' h => .inl (h.elim id fun h => by have := h.2; rw [List.take_zero] at this; cases this)⟩ (fun j σ Hj _ ⟨_, _, _, _, _, _, R, _⟩ => SqL.of (R.kp _ _ lF hl)) ?_ ?_
    · rintro j y σ Hk Hk' hj ⟨kvs, fs, newer, o8, o9, rfl, R, I⟩ ⟨rfl, hy⟩
      obtain ⟨e, he, hled⟩ := eachs_get hvs hy
      obtain ⟨t, a, rfl, ht, ha⟩ := ledR_t (tsr R) hled
      obtain ⟨e1, w', e2, e3⟩ := (all p hpn e).mp (List.mem_of_getElem? he)
      have tj : (c p).take (j + 1) = (c p).take j ++ [e] := by rw [List.take_add_one, he]; rfl
      have lkv : kvs.length = fs.length := R.wy.each.length
      have lfs : fs.length ≤ 10 := by
        have := sub_len (fs.map (·.1)) (qs.map (·.1)) I.nod fun z hz => am.rt (I.top z hz)
        rw [List.length_map, List.length_map] at this
        omega
      have lnw : newer.length ≤ 10 := by
        have := sub_len newer (fs.map (·.1)) I.nnod fun z hz => ((I.nw z).mp hz).1
        rw [List.length_map] at this
        omega
      have hFk := wo_same _ _ R.wy.dic
      obtain ⟨⟨p1, k1⟩, z⟩ := e
      have e1 : p1 = p := e1
      subst e1
      refine ⟨t, _, rfl, SqT.of ht, rfl, _, _, rfl, _, _, rfl, rfl, ?_⟩
      refine ⟨_, rfl, _, rfl, F, _, rfl, DGet.k (k := .inr z) hFk, ?_⟩
      rcases wy_look (p := z) R.wy.each with ⟨zn, ez⟩ | ⟨wz, lz, vz, zm, ez, _⟩
      · rw [ez]
        refine ⟨_, rfl, iteT ?_⟩
        have pin : p1 ∈ fs.map (·.1) := I.dom p1 dp.1
        rcases wy_look (p := p1) R.wy.each with ⟨pn, _⟩ | ⟨way, l1, vs1, pm, ep, hl1, hv1⟩
        · exact absurd pin pn
        have gp : DGet Hk' F (.str p1) (some (.ref l1)) := by
          have := DGet.k (k := .inr p1) hFk
          rw [ep] at this
          exact this
        have lway : vs1.length = way.length := hv1.length
        have wlt := am.lt (I.way _ pm).2
        rw [List.length_map] at wlt
        have wlt : way.length < qs.length := wlt
        refine ⟨_, rfl, _, rfl, F, _, rfl, gp, _, rfl, (by show 1 ≤ sizeLine; decide), fun l3 n3 => ?_⟩
        have k3 := same_new (o := .lst [.ref a]) n3
        have g3 : upd Hk' l3 (.lst [.ref a]) l3 = some (.lst [.ref a]) := upd_same
        have R3 := R.same k3
        have hN3 := R3.nw
        generalize upd Hk' l3 (.lst [.ref a]) = H3 at k3 g3 R3 hN3 ⊢
        refine ⟨l1, l3, vs1, [.ref a], rfl, rfl, k3 _ _ (wo_same _ _ hl1), g3, Nat.le_of_lt (small1000 (by simp; omega)), fun l4 n4 => ?_⟩
        have k4 := same_new (o := .lst (vs1 ++ [.ref a])) n4
        have g4 : upd H3 l4 (.lst (vs1 ++ [.ref a])) l4 = some (.lst (vs1 ++ [.ref a])) := upd_same
        have R4 := R3.same k4
        have k34 := k3.trans k4
        have n4N : l4 ≠ N := fun z => by rw [z, hN3] at n4; cases n4
        have l4s : Hs l4 = none := by
          cases e : Hs l4 with
          | none => rfl
          | some o =>
            have h1 := sHs _ _ e
            have h2 := R3.kp _ _ (fun z => by rw [z, nF] at e; cases e) h1
            rw [n4] at h2
            cases h2
        generalize upd H3 l4 (.lst (vs1 ++ [.ref a])) = H4 at k4 g4 R4 k34 ⊢
        have hN4 := R4.nw
        have tsw : ∀ {b ys}, H4 b = some (.tup ys) → wo H4 N b = some (.tup ys) := fun {b ys} e => by
          rw [wo_ne fun z => by rw [z, hN4] at e; cases e]
          exact e
        have hv4 : PySem.W.EachIs (AdY (wo H4 N)) (vs1 ++ [.ref a]) (way ++ [(p1, k1)]) := eachs_snoc (R := AdY _) ⟨a, rfl, tsw (k34 _ _ ha)⟩ (eachs_imp (fun _ _ h => by
          obtain ⟨r, h1, h2⟩ := h
          exact ⟨r, h1, tsw (k34 _ _ (wo_same _ _ h2))⟩) hv1)
        obtain ⟨epk, W5⟩ := R4.wy.add zn (by rw [wo_ne n4N]; exact g4) hv4 l4s
        have hF4 := wo_same _ _ R4.wy.dic
        refine ⟨_, rfl, _, rfl, F, _, rfl, DPut.k (k := .inr z) hF4 (small1000 (by omega)), ?_⟩
        rw [epk]
        rw [← wo_put NF.symm] at W5
        have hN5 : upd H4 F (.dK (kvs ++ [(.inr z, .ref l4)])) N = some (.lst (newer.map V.str)) := by rw [upd_ne NF]; exact hN4
        refine ⟨_, rfl, .inl ⟨rfl, _, SqL.of hN5⟩, _, rfl, N, _, _, rfl, rfl, hN5, small1000 (by rw [List.length_map]; omega), ?_⟩
        refine ⟨_, _, newer ++ [z], _, _, rfl, ⟨fun b o hb e => ?_, by rw [upd_same, List.map_append]; rfl, by rw [wo_self]; exact W5⟩, I.add dp pm e2 e3 zn fun p' q' h => ?_⟩
        · rw [upd_ne (fun y => by rw [y, nN] at e; cases e), upd_ne hb]
          exact R4.kp b o hb e
        · rcases h with h | ⟨h1, h2⟩
          · exact .inl (.inl h)
          · rw [tj, List.map_append] at h2
            rcases List.mem_append.mp h2 with h2 | h2
            · exact .inl (.inr ⟨h1, h2⟩)
            · exact .inr (List.mem_singleton.mp h2)
      · rw [ez]
        refine ⟨_, rfl, iteF ⟨_, _, _, _, _, rfl, R, I.done fun p' q' h => ?_⟩⟩
        rcases h with h | ⟨h1, h2⟩
        · exact .inl (.inl h)
        · rw [tj, List.map_append] at h2
          rcases List.mem_append.mp h2 with h2 | h2
          · exact .inl (.inr ⟨h1, h2⟩)
          · have : q' = z := List.mem_singleton.mp h2
            rw [this]
            exact .inr (List.mem_map.mpr ⟨_, zm, rfl⟩)
    · rintro σ Hk ⟨kvs, fs, newer, o8, o9, rfl, R, I⟩
      rw [lv, List.take_length] at I
      refine ⟨_, _, _, _, _, _, rfl, R, I.done fun p' q' h => .inl ?_⟩
      obtain ⟨h1, h2⟩ := h
      rw [tk] at h1
      rcases List.mem_append.mp h1 with h1 | h1
      · exact .inl ⟨h1, h2⟩
      · obtain rfl : p' = p := List.mem_singleton.mp h1
        obtain ⟨k, w', g1, g2⟩ := h2
        exact .inr ⟨rfl, List.mem_map.mpr ⟨((p', k), q'), (all p' hpn _).mpr ⟨rfl, w', g1, g2⟩, rfl⟩⟩
  · rintro σ Hj ⟨kvs, fs, newer, o7, o8, o9, rfl, R, I⟩
    rw [List.length_map, List.take_length] at I
    exact q Hj kvs fs newer _ _ _ R (I.next fun p q d l => ⟨(B.lk p).mpr d, l⟩)
end
end DR

namespace DR
open PySem PySem.Spec PyProof.Rows L2
theorem Lds.kp {F0 F : Addr} {ld k0 : List (Key × V)} {qs : List Pk} {c : Str → List Lead} {H H' : Hp} (h : Lds F0 ld qs c H) (k : ∀ b o, b ≠ F → H b = some o → H' b = some o) (n : F0 ≠ F) (hF : H F = some (.dK k0)) : Lds F0 ld qs c H' := by
  have ts : TupS H H' := fun b xs e => k b _ (fun z => by rw [z, hF] at e; cases e) e
  exact ⟨k _ _ n h.dic, eachs_imp (fun _ _ ⟨a, l, vs, b, d, e⟩ => ⟨a, l, vs, b, k _ _ (fun z => by rw [z, hF] at d; cases d) d, eachs_imp (fun _ _ => ledR_t ts) e⟩) h.each, h.dist⟩
/-- what is found at the end -/
structure Fnd (qs : List Pk) (ms : MsT) (S : List Str) (fs : FsT) : Prop where
  nod : (fs.map (·.1)).Nodup
  way : ∀ f ∈ fs, VW qs ms S f.2 f.1 ∧ Ds qs ms S f.2.length f.1
  dom : ∀ p, p ∈ fs.map (·.1) ↔ Rch qs ms S p
abbrev rootsOf (ms : MsT) (rs : List Str) : List Str := rs.filterMap (tgt ms)
/-- roots that are right, in a unit in which all leads somewhere -/
structure RtOk (qs : List Pk) (ms : MsT) (rs : List Str) : Prop where
  few : rs.length ≤ 100
  told : ∀ r ∈ rs, (tgt ms r).isSome = true
  am : Among qs ms (rootsOf ms rs) (qs.map (·.1))
  sm : SmU qs
def spWays (K : PySem.W.Frag) (C : Addr) : Sp := fun vs H Q _ => ∃ (x b : Addr) (qs : List Pk) (ms : MsT) (ns rs : List Str), vs = [.ref x, .ref b] ∧ UnG H C x qs ms ns ∧ (SqL K H b (rs.map V.str) ∨ SqT K H b (rs.map V.str)) ∧ RtOk qs ms rs ∧
  ∀ F kvs fs H', Same H H' → H F = none → Wys F kvs fs H H' → Fnd qs ms (rootsOf ms rs) fs → Q (.ref F) H'
section
variable {P : Program} {w : World} {K : PySem.W.Frag} {mg : Str → Option Value} {base : Heap}
theorem ok_ways {f C : Addr} {fd : FuncData} (F : Fun K "ways_from" "ways_from" sWays f fd) (T : Bi mg) (MT : HasM P w K mg base CX0 1 C "told" ["self"] (spUTold C)) (G : Has P w K mg base CX0 2 "leads_of" ["unit"] (spLeads C)) :
    FnOk P w K mg base CX0 3 f fd ["unit", "roots"] (spWays K C) := by
  refine F.ok scWays (fun vs H Q E h => ?_) (fun cdv A outer s H vs Q E hr h => ?_)
  · obtain ⟨x, b, qs, ms, ns, rs, rfl, _⟩ := h
    rfl
  · obtain ⟨x, b, qs, ms, ns, rs, rfl, un, hb, ro, q⟩ := h
    obtain ⟨t2, h2, q2⟩ := wy2 (f := f) (cdv := cdv) (A := A) (outer := outer) (s := s) (H0 := H) (E := E) (K := K) (mg := mg) (base := base) (P := P) (w := w) hr
    obtain ⟨t4, h4, q4⟩ := wr1 (f := f) (cdv := cdv) (A := A) (outer := outer) (s := s) (H0 := H) (E := E) (K := K) (mg := mg) (base := base) (P := P) (w := w) hr
    refine ⟨_, (pss_cons (ps_set (i := 2) scWays.nd rfl (.inr rfl) (pe_methH0 MT (pv 0) (hr.mono (by decide)) pass0)) (pss_cons (ps_set (i := 3) scWays.nd rfl (.inl rfl) (pe_callH G hr (by rfl) pass0 (pa_cons (pv 0) pa_nil))) (pss_cons h2 (pss_cons (ps_set (i := 5) scWays.nd rfl (.inl rfl) (pe_callTy (call_listD rfl) (by rfl) T.list (by decide +kernel) (pa_cons (pv 4) pa_nil)))
      (pss_cons (ps_while PassesOwn.never (pt_truth (pv 5) (by intro _; rfl)) (pss_cons (ps_set (i := 6) scWays.nd rfl (.inl rfl) (pe_lst pa_nil)) (pss_cons h4 (pss_one (ps_set (i := 5) scWays.nd rfl (.inl rfl) (pv 6)))))) (pss_one (ps_ret (pv 4)))))))), ?_⟩
    obtain ⟨ok, _, _, dx, _, _, _, _, _, _, _, hx, _⟩ := id un
    have qfew := ok.few
    refine ⟨_, rfl, x, dx, _, rfl, hx, rfl, x, qs, ms, ns, rfl, un, fun T0 md H1 s1 nT hT hmd => ?_⟩
    refine ⟨_, rfl, x, qs, ms, ns, rfl, unG_s s1 un, ro.sm, fun Le ld c H2 s2 L all => ?_⟩
    have s12 := s1.trans s2
    have hb2 : SqL K H2 b (rs.map V.str) ∨ SqT K H2 b (rs.map V.str) := hb.imp (sqL_same s12) (sqT_same s12)
    refine q2 _ H H2 x b T0 md ms rs _ s12 hb2 ro.few (s2 _ _ hT) (eachs_imp (fun _ _ => mdR_s (TupS.of s2)) hmd) ro.told fun H3 F0 kvs fs nF2 s3 W3 nd emp mem lk => ?_
    have nF : H F0 = none := none_of s12 nF2
    have LeF : Le ≠ F0 := ne_of_none L.dic nF2
    refine ⟨_, rfl, F0, kvs, rfl, .inl W3.dic, fun Lk nLk => ?_⟩
    have sl := same_new (o := .lst (kvs.map fun kv => kV kv.1)) nLk
    have gl : upd H3 Lk (.lst (kvs.map fun kv => kV kv.1)) Lk = some (.lst (kvs.map fun kv => kV kv.1)) := upd_same
    have W4 := W3.same sl
    have s34 := s3.trans sl
    generalize upd H3 Lk (.lst (kvs.map fun kv => kV kv.1)) = H4 at sl gl W4 s34 ⊢
    have ekv : (kvs.map fun kv => kV kv.1) = (fs.map (·.1)).map V.str := by
      have e : ∀ {kvs : List (Key × V)} {fs : FsT}, PySem.W.EachIs (WyR H4) kvs fs → (kvs.map fun kv => kV kv.1) = (fs.map (·.1)).map V.str := by
        intro kvs fs h
        induction h with
        | nil => rfl
        | cons h t ih =>
          rw [List.map_cons, List.map_cons, List.map_cons, ih, (show _ = _ from h.1)]
          rfl
      exact e W4.each
    rw [ekv] at gl
    have B0 : Bfs qs ms (rootsOf ms rs) 0 fs (fs.map (·.1)) := by
      have d0 : ∀ p, p ∈ fs.map (·.1) → Ds qs ms (rootsOf ms rs) 0 p := fun p hp => ⟨(mem p).mp hp, fun j hj => absurd hj (Nat.not_lt_zero _)⟩
      refine ⟨nd, fun f hf => ?_, mem, fun p => ⟨d0 p, fun d => (mem p).mpr d.1⟩, nd⟩
      have hp : f.1 ∈ fs.map (·.1) := List.mem_map.mpr ⟨f, hf, rfl⟩
      rw [emp f hf]
      exact ⟨(mem _).mp hp, d0 _ hp⟩
    let Wh : Nat → L2.St → Hp → Prop := fun m σ H' => ∃ (t : Nat) (lk : List Str) (Lk : Addr) (fs : FsT) (kvs : List (Key × V)) (o6 o7 o8 o9 : Option V), m = qs.length + 1 - t ∧ σ = sgW x b (some (.ref T0)) (some (.ref Le)) (some (.ref F0)) (some (.ref Lk)) o6 o7 o8 o9 ∧ Same H H' ∧ Wys F0 kvs fs H H' ∧ H' Lk = some (.lst (lk.map V.str)) ∧ Bfs qs ms (rootsOf ms rs) t fs lk ∧ Lds Le ld qs c H'
    refine ⟨Wh, ⟨_, 0, _, Lk, fs, kvs, _, _, _, _, rfl, rfl, s12.trans s34, W4, gl, B0, L.same s34⟩, ?_⟩
    rintro m σ Ha ⟨t, lk, Lk, fs, kvs, o6, o7, o8, o9, rfl, rfl, sa, Wa, hLk, B, La⟩
    refine ⟨_, rfl, _, .inl ⟨_, SqL.of hLk, rfl⟩, ?_⟩
    cases lk with
    | nil =>
      refine iteF ⟨_, rfl, q F0 kvs fs Ha sa nF Wa ⟨B.nod, B.way, B.all⟩⟩
    | cons p lk =>
      have tl := ro.am.lt ((B.lk p).mp (List.mem_cons_self ..))
      rw [List.length_map] at tl
      refine iteT ⟨Wh (qs.length + 1 - (t + 1)), fun σ' H' h => ⟨_, by omega, h⟩, ?_⟩
      refine ⟨(by show 0 ≤ sizeLine; decide), fun N nN => ?_⟩
      have LkF : Lk ≠ F0 := fun z => by rw [z, Wa.dic] at hLk; cases hLk
      refine q4 _ H Ha _ x b T0 Le F0 Lk N ld kvs qs ms (rootsOf ms rs) c t (p :: lk) fs ⟨fun b o _ e => same_new nN _ _ e, upd_same, Wa.same (wo_fresh nN)⟩ nN ⟨_, Wa.dic⟩ sa nF La LeF all hLk LkF B ok.nod ro.am ok.few (fun H5 kvs5 fs5 newer o7 o8 o9 R5 B5 => ?_) _ _ _
      have s5 : Same H H5 := fun b o e => R5.kp _ _ (fun z => by rw [z, nF] at e; cases e) (sa _ _ e)
      exact ⟨_, rfl, t + 1, newer, N, fs5, kvs5, _, _, _, _, rfl, rfl, s5, R5.wy.same wo_same, R5.nw, B5, La.kp R5.kp LeF Wa.dic⟩
end
end DR

namespace DR
open PySem PySem.Spec PyProof.Rows L2
/-! ### reached -/
/-- roots that are refused -/
def ChkBad (K : PySem.W.Frag) (CN : Addr) (H : Hp) (E : XK) (ms : MsT) (v : V) : Prop := (∃ d, Th K H v d ∧ items d = none ∧ ErrSame E H CN [("name", .non)]) ∨
  ∃ (b : Addr) (xs : List V) (ds : List PyData) (i : Nat) (y : V) (d : PyData), v = .ref b ∧ (SqL K H b xs ∨ SqT K H b xs) ∧ PySem.W.EachIs (Th K H) xs ds ∧ (∀ d ∈ ds, shortS d) ∧ xs[i]? = some y ∧ ds[i]? = some d ∧ (∀ e ∈ ds.take i, toldD ms e = true) ∧ toldD ms d = false ∧ ErrSame E H CN [("name", y)]
theorem errSame_s {E : XK} {H H' : Hp} {C : Addr} {fs : List (Str × V)} (e : Same H H') (h : ErrSame E H C fs) : ErrSame E H' C fs := fun H2 dx s hd => h H2 dx (e.trans s) hd
section
variable {K : PySem.W.Frag} {C CN x : Addr} {H : Hp} {E : XK} {Q : VK} {qs : List Pk} {ms : MsT} {ns : List Str} {v : V}
theorem ChkBad.same {H' : Hp} (e : Same H H') (h : ChkBad K CN H E ms v) : ChkBad K CN H' E ms v := by
  rcases h with ⟨d, h1, h2, h3⟩ | ⟨b, xs, ds, i, y, d, h1, h2, h3, h4, h5, h6, h7, h8, h9⟩
  · exact .inl ⟨d, th_same e h1, h2, errSame_s e h3⟩
  · exact .inr ⟨b, xs, ds, i, y, d, h1, h2.imp (sqL_same e) (sqT_same e), eachs_imp (fun _ _ => th_same e) h3, h4, h5, h6, h7, h8, errSame_s e h9⟩
theorem chk_bad {R : Hp → Prop} (h : ChkBad K CN H E ms v) : ((∃ d, Th K H v d ∧ items d = none ∧ ErrSame E H CN [("name", .non)]) ∨
   (∃ (b : Addr) (xs : List V) (ds : List PyData), v = .ref b ∧ (SqL K H b xs ∨ SqT K H b xs) ∧ PySem.W.EachIs (Th K H) xs ds ∧ (∀ d ∈ ds, shortS d) ∧
    (∀ i y d, xs[i]? = some y → ds[i]? = some d → (∀ e ∈ ds.take i, toldD ms e = true) → toldD ms d = false → ErrSame E H CN [("name", y)]) ∧
    ((∀ d ∈ ds, toldD ms d = true) → ∀ H', Same H H' → R H'))) := by
  rcases h with h | ⟨b, xs, ds, i, y, d, rfl, hb, hds, sh, hy, hd, al, bad, err⟩
  · exact .inl h
  · refine .inr ⟨b, xs, ds, rfl, hb, hds, sh, fun i' y' d' hy' hd' al' bad' => ?_, fun all => ?_⟩
    · have e : i' = i := by
        rcases Nat.lt_trichotomy i' i with l | e | l
        · have := al d' (List.mem_of_getElem? (by rw [List.getElem?_take_of_lt l]; exact hd'))
          rw [bad'] at this
          cases this
        · exact e
        · have := al' d (List.mem_of_getElem? (by rw [List.getElem?_take_of_lt l]; exact hd))
          rw [bad] at this
          cases this
      rw [e, hy] at hy'
      rw [← Option.some.inj hy']
      exact err
    · have := all d (List.mem_of_getElem? hd)
      rw [bad] at this
      cases this
theorem ths_str : ∀ (rs : List Str), PySem.W.EachIs (Th K H) (rs.map V.str) (rs.map PyData.str)
  | [] => .nil
  | r :: rs => .cons (.dat (.str r)) (ths_str rs)
theorem chk_good {R : Hp → Prop} {b0 : Addr} {rs : List Str} (hb : SqL K H b0 (rs.map V.str) ∨ SqT K H b0 (rs.map V.str)) (al : ∀ r ∈ rs, toldD ms (.str r) = true ∧ shortS (.str r)) (q : ∀ H', Same H H' → R H') : ((∃ d, Th K H (.ref b0) d ∧ items d = none ∧ ErrSame E H CN [("name", .non)]) ∨
   (∃ (b : Addr) (xs : List V) (ds : List PyData), (V.ref b0) = .ref b ∧ (SqL K H b xs ∨ SqT K H b xs) ∧ PySem.W.EachIs (Th K H) xs ds ∧ (∀ d ∈ ds, shortS d) ∧
    (∀ i y d, xs[i]? = some y → ds[i]? = some d → (∀ e ∈ ds.take i, toldD ms e = true) → toldD ms d = false → ErrSame E H CN [("name", y)]) ∧
    ((∀ d ∈ ds, toldD ms d = true) → ∀ H', Same H H' → R H'))) := by
  have al2 : ∀ d ∈ rs.map PyData.str, toldD ms d = true ∧ shortS d := fun d hd => by
    obtain ⟨r, hr, rfl⟩ := List.mem_map.mp hd
    exact al r hr
  refine .inr ⟨b0, _, rs.map PyData.str, rfl, hb, ths_str rs, fun d hd => (al2 d hd).2, fun i y d hy hd _ bad => ?_, fun _ => q⟩
  have := (al2 d (List.mem_of_getElem? hd)).1
  rw [bad] at this
  cases this
end
/-- roots that are right, as they are looked at -/
structure RootsR (qs : List Pk) (ms : MsT) (rs : List Str) : Prop where
  ok : RtOk qs ms rs
  nm : ∀ r ∈ rs, toldD ms (.str r) = true ∧ shortS (.str r)
/-- the pieces that are reached, in their order -/
def IsR (qs : List Pk) (ms : MsT) (S : List Str) (zs : List Str) : Prop := ∃ f : Str → Bool, (∀ p, f p = true ↔ Rch qs ms S p) ∧ zs = (qs.map (·.1)).filter f
theorem isR_one {qs : List Pk} {ms : MsT} {S zs zs' : List Str} (h : IsR qs ms S zs) (h' : IsR qs ms S zs') : zs = zs' := by
  obtain ⟨f, a, rfl⟩ := h
  obtain ⟨g, b, rfl⟩ := h'
  have : f = g := by
    funext p
    cases e : f p with
    | true => exact ((b p).mpr ((a p).mp e)).symm
    | false =>
      cases e' : g p with
      | false => rfl
      | true => rw [(a p).mpr ((b p).mp e')] at e; cases e
  rw [this]
def spReached (K : PySem.W.Frag) (C CN : Addr) : Sp := fun vs H Q E => ∃ (x : Addr) (qs : List Pk) (ms : MsT) (ns : List Str) (v : V), vs = [.ref x, v] ∧ UnG H C x qs ms ns ∧
  (ChkBad K CN H E ms v ∨ ∃ (b : Addr) (rs : List Str), v = .ref b ∧ (SqL K H b (rs.map V.str) ∨ SqT K H b (rs.map V.str)) ∧ RootsR qs ms rs ∧
    ∀ l zs H', Same H H' → H l = none → H' l = some (.lst (zs.map V.str)) → IsR qs ms (rootsOf ms rs) zs → Q (.ref l) H')
abbrev sReached : Stmt := topS 38
abbrev NRc : List Str := ["unit", "roots", "found", "p", "_"]
theorem scReached : FnScope NRc ["unit", "roots"] (defScope sReached) := ⟨rfl, rfl, rfl, by decide +kernel, rfl, by decide +kernel, by decide +kernel⟩
section
variable {P : Program} {w : World} {K : PySem.W.Frag} {mg : Str → Option Value} {base : Heap}
theorem ok_reached {f C CN : Addr} {fd : FuncData} (F : Fun K "reached" "reached" sReached f fd) (G1 : Has P w K mg base (L2.CX P w) 5 "check_roots" ["unit", "roots"] (spChkR K C CN)) (G2 : Has P w K mg base CX0 3 "ways_from" ["unit", "roots"] (spWays K C)) (MP : HasM P w K mg base CX0 1 C "pieces" ["self"] (spUPieces C)) :
    FnOk P w K mg base (L2.CX P w) 6 f fd ["unit", "roots"] (spReached K C CN) := by
  refine F.okX scReached (fun vs H Q E h => ?_) (fun cdv A outer s H vs Q E hr h => ?_)
  · obtain ⟨x, qs, ms, ns, v, rfl, _⟩ := h
    rfl
  · obtain ⟨x, qs, ms, ns, v, rfl, un, h⟩ := h
    have hu := hu_of hr
    refine ⟨_, (pss_cons (ps_expr (pe_callH G1 hr (by rfl) (passes_call (W := fun cls d _ H => E cls d H) (takes_of rfl rfl rfl rfl) (fun _ _ _ _ h => h)) (pa_cons (pv 0) (pa_cons (pv 1) pa_nil))))
      (pss_cons (ps_set (i := 2) scReached.nd rfl (.inr rfl) (pe_callH G2 (hr.mono (by decide)) (by rfl) pass0 (pa_cons (pv 0) (pa_cons (pv 1) pa_nil))))
      (pss_one (ps_ret (pe_lc (own := [("p", 3), ("_", 4)]) (g := gTup K 3 (gCons (gName 3) (gCons (gName 4) (gCons (gName 4) gNil)))) (tt := tB (tDIn (tVar 3) (tVar 2))) (te := tVar 3) rfl scReached.nd (pi_list (pe_methH0 MP (pv 0) (hr.mono (by decide)) pass0)) (blkOk_by (N := NRc) (sc := defScope sReached) (by decide +kernel)) (fun _ _ _ _ _ => (pg_tup rfl (pgs_cons (pg_name (i := 3) scReached.nd rfl (.inl rfl)) (pgs_cons (pg_name (i := 4) scReached.nd rfl (.inl rfl)) (pgs_cons (pg_name (i := 4) scReached.nd rfl (.inl rfl)) pgs_nil))))) (fun _ _ _ _ _ => pts_one (pt_cmp (pc_din hu (pv 3) (pv 2)) (by rfl))) (fun _ _ _ _ _ => (pv 3))))))), ?_⟩
    rcases h with bad | ⟨b, rs, rfl, hb, ro, q⟩
    · exact ⟨_, rfl, _, rfl, x, qs, ms, ns, v, .none, rfl, un, chk_bad bad⟩
    · refine ⟨_, rfl, _, rfl, x, qs, ms, ns, _, .none, rfl, un, chk_good hb ro.nm fun H1 s1 => ?_⟩
      refine ⟨_, rfl, _, rfl, x, b, qs, ms, ns, rs, rfl, unG_s s1 un, hb.imp (sqL_same s1) (sqT_same s1), ro.ok, fun F0 kvs fs H2 s2 nF W2 fnd => ?_⟩
      have un2 := unG_s (s1.trans s2) un
      obtain ⟨ok, _, _, dx, _, _, _, _, _, _, _, hx, _⟩ := id un2
      refine ⟨_, rfl, x, dx, _, rfl, hx, rfl, x, qs, ms, ns, rfl, un2, fun d ys H3 s3 nd hd hys => ?_⟩
      have ly : ys.length = qs.length := hys.length
      have qfew := ok.few
      refine ⟨d, rfl, ⟨ys, SqL.of hd⟩, fun N hN => ?_⟩
      have W3 := W2.same s3
      have vz : ∀ z, (valV kvs (.inr z)).isSome = true ↔ Rch qs ms (rootsOf ms rs) z := fun z => by
        rw [← fnd.dom]
        rcases wy_look (p := z) W3.each with ⟨n, e⟩ | ⟨way, l, vs, m, e, _⟩
        · rw [e]
          exact ⟨fun h => (by cases h), fun h => absurd h n⟩
        · rw [e]
          exact ⟨fun _ => List.mem_map.mpr ⟨_, m, rfl⟩, fun _ => rfl⟩
      refine lc_it (walk_list (xs := ys)) (fun i Hj => Same H3 Hj ∧ Hj N = some (.lst ((((qs.take i).map (·.1)).filter fun z => (valV kvs (.inr z)).isSome).map V.str)))
        ⟨same_new hN, upd_same⟩ (fun i Hj _ ⟨sj, _⟩ => SqL.of (sj _ _ hd)) ?_ ?_
      · rintro i u Hj Hj' hi ⟨sj, hNj⟩ ⟨rfl, hu'⟩
        obtain ⟨q1, hq1, hpc⟩ := eachs_get hys hu'
        obtain ⟨t, b1, ws, rfl, ht, hb1, hws⟩ := pieceG_s (TupS.of sj) hpc
        have i2 : i < qs.length := (List.getElem?_eq_some_iff.mp hq1).1
        have et : ((qs.take (i + 1)).map (·.1)).filter (fun z => (valV kvs (.inr z)).isSome) = ((qs.take i).map (·.1)).filter (fun z => (valV kvs (.inr z)).isSome) ++ [q1.1].filter fun z => (valV kvs (.inr z)).isSome := by
          rw [List.take_add_one, hq1, List.map_append, List.filter_append]
          rfl
        refine ⟨t, _, rfl, SqT.of ht, rfl, _, _, rfl, _, _, rfl, _, _, rfl, rfl, rfl, ?_⟩
        refine ⟨_, rfl, _, rfl, F0, _, rfl, DGet.k (k := .inr q1.1) (sj _ _ W3.dic), ?_⟩
        cases ev : (valV kvs (.inr q1.1)).isSome with
        | true =>
          refine ⟨_, rfl, iteT ⟨_, rfl, _, hNj, small1000 ?_, same_upd sj hN, ?_⟩⟩
          · rw [List.length_map]
            refine Nat.le_trans (List.length_filter_le ..) ?_
            rw [List.length_map, List.length_take]
            omega
          · have e1 : [q1.1].filter (fun z => (valV kvs (.inr z)).isSome) = [q1.1] := by rw [List.filter_cons_of_pos (by exact ev), List.filter_nil]
            rw [upd_same, et, e1, List.map_append]
            rfl
        | false =>
          refine ⟨_, rfl, iteF ⟨sj, ?_⟩⟩
          have e1 : [q1.1].filter (fun z => (valV kvs (.inr z)).isSome) = [] := by rw [List.filter_cons_of_neg (by rw [ev]; decide), List.filter_nil]
          rw [et, e1, List.append_nil]
          exact hNj
      · rintro Hj ⟨sj, hNj⟩
        rw [ly, List.take_length] at hNj
        exact q N _ Hj (((s1.trans s2).trans s3).trans sj) (none_of ((s1.trans s2).trans s3) hN) hNj ⟨_, vz, rfl⟩
end
end DR

namespace DR
open PySem PySem.Spec PyProof.Rows L2
/-! ### way_to -/
def pieceD (qs : List Pk) (d : PyData) : Bool := isNm d && (match d with
  | .str z => (valV (kindD qs) (.inr z)).isSome
  | _ => false)
def spChkP (K : PySem.W.Frag) (CP : Addr) : Sp := fun vs H Q E => ∃ (a : Addr) (xs : List V) (qs : List Pk) (v : V) (d : PyData), vs = [.ref a, v] ∧ H a = some (.lst xs) ∧ PySem.W.EachIs (PieceG H) xs qs ∧ PkOk qs ∧ Th K H v d ∧ shortS d ∧
  (pieceD qs d = false → ErrSame E H CP [("p", v)]) ∧ (pieceD qs d = true → ∀ H', Same H H' → Q .non H')
abbrev sChkP : Stmt := topS 28
theorem scChkP : FnScope ["pieces", "p"] ["pieces", "p"] (defScope sChkP) := ⟨rfl, rfl, rfl, by decide +kernel, rfl, by decide +kernel, by decide +kernel⟩
def spWayTo (K : PySem.W.Frag) (C CN CP : Addr) : Sp := fun vs H Q E => ∃ (x : Addr) (qs : List Pk) (ms : MsT) (ns : List Str) (v u : V), vs = [.ref x, v, u] ∧ UnG H C x qs ms ns ∧
  (ChkBad K CN H E ms v ∨ ∃ (b : Addr) (rs : List Str) (d : PyData), v = .ref b ∧ (SqL K H b (rs.map V.str) ∨ SqT K H b (rs.map V.str)) ∧ RootsR qs ms rs ∧ Th K H u d ∧ shortS d ∧ (pieceD qs d = false → ErrSame E H CP [("p", u)]) ∧
    ∀ z, d = .str z → pieceD qs d = true → (¬ Rch qs ms (rootsOf ms rs) z → ∀ H', Same H H' → Q .non H') ∧
      ∀ way l vs H', Same H H' → H l = none → H' l = some (.lst vs) → PySem.W.EachIs (AdY H') vs way → VW qs ms (rootsOf ms rs) way z → Ds qs ms (rootsOf ms rs) way.length z → Q (.ref l) H')
abbrev sWayTo : Stmt := topS 40
theorem scWayTo : FnScope ["unit", "roots", "p"] ["unit", "roots", "p"] (defScope sWayTo) := ⟨rfl, rfl, rfl, by decide +kernel, rfl, by decide +kernel, by decide +kernel⟩
section
variable {P : Program} {w : World} {K : PySem.W.Frag} {mg : Str → Option Value} {base : Heap}
theorem ok_chkP {f CP : Addr} {fd : FuncData} (F : Fun K "check_piece" "check_piece" sChkP f fd) (S : Err P w K mg base "NoPiece" CP "p") (G1 : Has P w K mg base CX0 4 "is_name" ["thing"] (spIsName K)) (G2 : Has P w K mg base CX0 4 "kinds_of" ["pieces"] (spKindsL K)) :
    FnOk P w K mg base (L2.CX P w) 5 f fd ["pieces", "p"] (spChkP K CP) := by
  refine F.okX scChkP (fun vs H Q E h => ?_) (fun cdv A outer s H vs Q E hr h => ?_)
  · obtain ⟨a, xs, qs, v, d, rfl, _⟩ := h
    rfl
  · obtain ⟨a, xs, qs, v, d, rfl, ha, hxs, ok, th, sh, qe, q⟩ := h
    have hu := hu_of hr
    refine ⟨_, (pss_one (ps_if (PW.pt (pw_or (pt_not (pt_val (pe_callH G1 hr (by rfl) pass0 (pa_cons (pv 1) pa_nil)))) (pw_or1 (pt_cmp (pc_dnotin hu (pv 1) (pe_callH G2 hr (by rfl) pass0 (pa_cons (pv 0) pa_nil))) (by rfl))))) (pss_one (ps_err rfl (takes_of rfl rfl rfl rfl) S hr (by decide) (pv 1))) pss_nil)), ?_⟩
    refine ⟨_, rfl, v, d, rfl, th, sh, fun H1 s1 => ⟨_, rfl, ?_⟩⟩
    cases ek : isNm d with
    | false =>
      exact iteT (iteT ⟨_, rfl, err_go fun dx hdx => qe (by unfold pieceD; rw [ek]; rfl) _ dx s1 hdx⟩)
    | true =>
      obtain ⟨z, rfl, hz⟩ := str_of ek
      have ey : v = .str z := by
        cases th with
        | dat h => cases h; rfl
      subst ey
      have tz : pieceD qs (.str z) = (valV (kindD qs) (.inr z)).isSome := by unfold pieceD; rw [ek]; rfl
      refine iteF ⟨_, rfl, _, rfl, a, xs, qs, rfl, s1 _ _ ha, eachs_imp (fun _ _ => pieceG_s (TupS.of s1)) hxs, ok, fun D H2 s2 nD hD => ?_⟩
      have s12 := s1.trans s2
      refine ⟨D, _, rfl, DGet.k (k := .inr z) hD, ?_⟩
      cases ev : valV (kindD qs) (.inr z) with
      | none =>
        exact ⟨_, rfl, iteT ⟨_, rfl, err_go fun dx hdx => qe (by rw [tz, ev]; rfl) _ dx s12 hdx⟩⟩
      | some u => exact ⟨_, rfl, iteF (q (by rw [tz, ev]; rfl) H2 s12)⟩
theorem ok_wayTo {f C CN CP : Addr} {fd : FuncData} (F : Fun K "way_to" "way_to" sWayTo f fd) (G1 : Has P w K mg base (L2.CX P w) 5 "check_roots" ["unit", "roots"] (spChkR K C CN)) (G2 : Has P w K mg base CX0 3 "ways_from" ["unit", "roots"] (spWays K C)) (G3 : Has P w K mg base (L2.CX P w) 5 "check_piece" ["pieces", "p"] (spChkP K CP)) (MP : HasM P w K mg base CX0 1 C "pieces" ["self"] (spUPieces C)) :
    FnOk P w K mg base (L2.CX P w) 6 f fd ["unit", "roots", "p"] (spWayTo K C CN CP) := by
  refine F.okX scWayTo (fun vs H Q E h => ?_) (fun cdv A outer s H vs Q E hr h => ?_)
  · obtain ⟨x, qs, ms, ns, v, u, rfl, _⟩ := h
    rfl
  · obtain ⟨x, qs, ms, ns, v, u, rfl, un, h⟩ := h
    have hu := hu_of hr
    refine ⟨_, (pss_cons (ps_expr (pe_callH G1 hr (by rfl) (passes_call (W := fun cls d _ H => E cls d H) (takes_of rfl rfl rfl rfl) (fun _ _ _ _ h => h)) (pa_cons (pv 0) (pa_cons (pv 1) pa_nil))))
      (pss_cons (ps_expr (pe_callH G3 hr (by rfl) (passes_call (W := fun cls d _ H => E cls d H) (takes_of rfl rfl rfl rfl) (fun _ _ _ _ h => h)) (pa_cons (pe_methH0 MP (pv 0) (hr.mono (by decide)) pass0) (pa_cons (pv 2) pa_nil))))
      (pss_one (ps_ret (pe_dget1 hu (pe_callH G2 (hr.mono (by decide)) (by rfl) pass0 (pa_cons (pv 0) (pa_cons (pv 1) pa_nil))) (pv 2) ⟨rfl, rfl, rfl, rfl⟩))))), ?_⟩
    rcases h with bad | ⟨b, rs, d, rfl, hb, ro, th, sh, qe, q⟩
    · exact ⟨_, rfl, _, rfl, x, qs, ms, ns, v, .none, rfl, un, chk_bad bad⟩
    · refine ⟨_, rfl, _, rfl, x, qs, ms, ns, _, .none, rfl, un, chk_good hb ro.nm fun H1 s1 => ?_⟩
      have un1 := unG_s s1 un
      obtain ⟨ok, _, _, dx, _, _, _, _, _, _, _, hx, _⟩ := id un1
      refine ⟨_, rfl, x, dx, _, rfl, hx, rfl, x, qs, ms, ns, rfl, un1, fun e ys H2 s2 ne he hys => ?_⟩
      have s12 := s1.trans s2
      refine ⟨_, rfl, e, ys, qs, u, d, rfl, he, hys, ok, th_same s12 th, sh, fun bad => errSame_s s12 (qe bad), fun good H3 s3 => ?_⟩
      have s13 := s12.trans s3
      obtain ⟨z, rfl, hz⟩ : ∃ z, d = .str z ∧ isNmS z = true := by
        have : isNm d = true := by
          unfold pieceD at good
          rw [Bool.and_eq_true] at good
          exact good.1
        exact str_of this
      obtain ⟨q1, q2⟩ := q z rfl good
      have ey : u = .str z := by
        cases th with
        | dat h => cases h; rfl
      subst ey
      refine ⟨_, rfl, _, rfl, x, b, qs, ms, ns, rs, rfl, unG_s s13 un, hb.imp (sqL_same s13) (sqT_same s13), ro.ok, fun F0 kvs fs H4 s4 nF W4 fnd => ?_⟩
      refine ⟨F0, rfl, .inl ⟨kvs, .inl W4.dic⟩, _, rfl, _, DGet.k (k := .inr z) W4.dic, ?_⟩
      have s14 := s13.trans s4
      rcases wy_look (p := z) W4.each with ⟨n, ev⟩ | ⟨way, l, vs, m, ev, hl, hv⟩
      · rw [ev]
        exact q1 (fun c => n ((fnd.dom z).mpr c)) H4 s14
      · rw [ev]
        obtain ⟨kv, hkm, ekv⟩ := valV_in ev
        have ln : H l = none := none_of s13 (W4.new kv hkm l ekv)
        obtain ⟨v1, v2⟩ := fnd.way _ m
        exact q2 way l vs H4 s14 ln hl hv v1 v2
end
end DR

namespace DR
open PySem PySem.Spec PyProof.Rows L2
/-! ### units made of what is right (as in law_k12's texts) -/
def adE (z : Str) (n : Int) : PyData := .tuple [.str z, .int n]
theorem ok_adE {z : Str} {n : Int} (h : NmOk z) : okAd (adE z n) := fun x y e => by
  have e := Option.some.inj (show some [PyData.str z, .int n] = some [x, y] from e)
  obtain rfl := (List.cons.inj e).1
  exact h.sh
theorem rd_adE {z : Str} {n : Int} (h : isNmS z = true) : readAdr (adE z n) = some (z, n) := by
  show (if isNmS z = true then _ else _) = _
  rw [if_pos h]
theorem tellR_uniq {qs : List Pk} : ∀ {es : List (PyData × PyData)} {ms ms' : MsT}, PySem.W.EachIs (TellR qs) es ms → PySem.W.EachIs (TellR qs) es ms' → ms' = ms
  | _, _, _, .nil, .nil => rfl
  | _, _, _, .cons h t, .cons h' t' => by
    have h : tellE qs _ = some _ := h
    have h' : tellE qs _ = some _ := h'
    rw [h] at h'
    rw [← Option.some.inj h', tellR_uniq t t']
theorem ents_of {K : PySem.W.Frag} {H : Hp} {g : (Str × (Str × Int)) → PyData} {kvs : List (Key × V)} {ms : MsT} (h : PySem.W.EachIs (fun kv m => kv.1 = (.inr m.1 : Key) ∧ Dp K H kv.2 (g m)) kvs ms) (sh : ∀ m ∈ ms, m.1.length ≤ 1000 ∧ okAd (g m)) :
    Ents K H (kvs.map fun kv => kV kv.1) (kvs.map fun kv => kv.2) (ms.map fun m => (.str m.1, g m)) := by
  have l := h.length
  refine ⟨by rw [List.length_map, List.length_map], by rw [List.length_map, List.length_map, l], fun i y v e h1 h2 h3 => ?_⟩
  rw [List.getElem?_map] at h1 h2 h3
  cases ek : kvs[i]? with
  | none => rw [ek] at h1; cases h1
  | some kv =>
    obtain ⟨m, hm, e1, e2⟩ := eachs_get h ek
    rw [ek] at h1 h2
    rw [hm] at h3
    obtain rfl := Option.some.inj h1
    obtain rfl := Option.some.inj h2
    obtain rfl := Option.some.inj h3
    obtain ⟨s1, s2⟩ := sh m (List.mem_of_getElem? hm)
    show TEnt K H (kV kv.1) kv.2 (.str m.1, g m)
    rw [e1]
    exact ⟨.str _, s1, e2, s2⟩
section
variable {K : PySem.W.Frag} {P : Program} {w : World} {C CB CT CW : Addr} {H : Hp} {v tv : V} {d : PyData} {Q : VK} {E : XK} {x dx : Addr}
theorem unit_go {qs : List Pk} {ms : MsT} {D : Addr} {u : HO} {ys ws : List V} {es : List (PyData × PyData)} (th : ThE K H v d) (hd : HdOk d qs) (fn : (namesQ qs).length < 64) (fm : ∀ a ∈ adrs qs, a.2.2.2.length ≤ 1000) (bw : badU qs = none) (hD : H D = some u) (tu : TU P w K D u ys ws) (en : Ents K H ys ws es) (few : ys.length ≤ 100)
    (tl : PySem.W.EachIs (TellR qs) es ms) (nod : (ms.map (·.1)).Nodup) (hx : H x = none) (hdx : H dx = none) (hne : dx ≠ x) (q : ∀ H2 ns, Same H H2 → UnG H2 C x qs ms ns → NewM H H2 C x → Q .non H2) :
    spUnit K P w C CB CT CW (.ref x :: ([v, .ref D] ++ [])) (upd (upd H dx (.own x)) x (.ins C dx [])) Q E := by
  refine unit_any th hd fn fm hx hdx hne fun H1 s1 hx1 => .inr (.inr ⟨D, u, ys, ws, es, rfl, (fun z => by rw [z, hx] at hD; cases hD), s1 _ _ hD, tu, ⟨en.lv, en.le, fun i y v e a b c => (let t := en.at_ i y v e a b c; ⟨dp_same s1 t.key, t.sh, dp_same s1 t.val, t.ok⟩)⟩, few, fun i ms' hm => ?_, fun i y e ms' hyi hei hms nei => ?_, fun ms' hms => ⟨fun a ea => ?_, fun _ H' ns kp un nm => ?_⟩⟩)
  · rw [tellR_uniq (each_take i tl) hm, List.map_take]
    exact nod.sublist (List.take_sublist _ _)
  · obtain ⟨m, _, r⟩ := eachs_get tl hei
    have r : tellE qs e = some m := r
    rw [nei] at r
    cases r
  · rw [bw] at ea
    cases ea
  · rw [tellR_uniq tl hms] at un
    refine q H' ns (fun b o e => kp b o (ne_of_none e hx) (s1 _ _ e)) un fun dx' p d' m l e => ?_
    exact none_of s1 (nm dx' p d' m l e)
/-- made of pieces alone -/
theorem unit_non {qs : List Pk} (th : ThE K H v d) (hd : HdOk d qs) (fn : (namesQ qs).length < 64) (fm : ∀ a ∈ adrs qs, a.2.2.2.length ≤ 1000) (bw : badU qs = none) (hx : H x = none) (hdx : H dx = none) (hne : dx ≠ x) (q : ∀ H2 ns, Same H H2 → UnG H2 C x qs [] ns → Q .non H2) :
    spUnit K P w C CB CT CW (.ref x :: ([v, .non] ++ [])) (upd (upd H dx (.own x)) x (.ins C dx [])) Q E :=
  unit_any th hd fn fm hx hdx hne fun H1 s1 hx1 => .inl ⟨rfl, fun a ea => (by rw [bw] at ea; cases ea), fun _ H' ns kp un nm => q H' ns (fun b o e => kp b o (ne_of_none e hx) (s1 _ _ e)) un⟩
end
theorem rd_adL {z : Str} {n : Int} (h : isNmS z = true) : readAdr (.list [.str z, .int n]) = some (z, n) := by
  show (if isNmS z = true then _ else _) = _
  rw [if_pos h]
/-- what stands told, in pieces that are there -/
structure MAt (qs : List Pk) (m : Str × (Str × Int)) : Prop where
  k : NmOk m.1
  p : NmOk m.2.1
  at_ : (wordOf qs (keyA m.2)).isSome = true
theorem tell_of {qs : List Pk} {m : Str × (Str × Int)} {vd : PyData} (h : MAt qs m) (r : readAdr vd = some m.2) : TellR qs (.str m.1, vd) m := by
  show tellE qs (.str m.1, vd) = some m
  rw [tell_yes h.k.nm r, if_pos h.at_]
theorem tells_of {qs : List Pk} {g : (Str × (Str × Int)) → PyData} : ∀ {ms : MsT}, (∀ m ∈ ms, MAt qs m ∧ readAdr (g m) = some m.2) → PySem.W.EachIs (TellR qs) (ms.map fun m => (.str m.1, g m)) ms
  | [], _ => .nil
  | m :: ms, h => .cons (tell_of (h m (List.mem_cons_self ..)).1 (h m (List.mem_cons_self ..)).2) (tells_of fun m' hm => h m' (List.mem_cons_of_mem _ hm))
theorem ok_pair {d : PyData} {z : Str} {n : Int} (e : items d = some [.str z, .int n]) (h : NmOk z) : okAd d := fun x y e' => by
  rw [e] at e'
  obtain rfl := (List.cons.inj (Option.some.inj e')).1
  exact h.sh
theorem sameU_refl {qs : List Pk} {ms : MsT} (nm : NmQ qs) (nd : (ms.map (·.1)).Nodup) : sameU qs ms qs ms = true := by
  unfold sameU
  rw [SeqAt.eqv_refl_plain _ (parts_plain nm), eqE_refl _ (msD_nodup nd) msD_plain]
  simp
theorem inr_nod {ms : MsT} (h : (ms.map (·.1)).Nodup) : (ms.map fun m => (.inr m.1 : Key)).Nodup := by
  have e : (ms.map fun m => (.inr m.1 : Key)) = (ms.map (·.1)).map (Sum.inr : Str → Key) := by rw [List.map_map]; rfl
  rw [e]
  exact List.pairwise_map.mpr (h.imp fun hne e => hne (Sum.inr.inj e))
theorem mem_adrs {qs : List Pk} {a : Adr} (h : a ∈ adrs qs) : ∃ q ∈ qs, a.1 = q.1 ∧ q.2.2[a.2.1]? = some a.2.2 := by
  obtain ⟨q, hq, ha⟩ := List.mem_flatMap.mp h
  refine ⟨q, hq, adrsP_nm ha, ?_⟩
  obtain ⟨i, hi, e⟩ := List.mem_iff_getElem.mp ha
  have hi2 := hi
  rw [adrsP_len] at hi2
  have e3 := adrsP_at (q := q) (List.getElem?_eq_getElem hi2)
  rw [List.getElem?_eq_getElem hi, e] at e3
  rw [Option.some.inj e3]
  exact List.getElem?_eq_getElem hi2
theorem word_some {qs : List Pk} {q : Pk} {j : Nat} (hq : q ∈ qs) (hj : j < q.2.2.length) : (wordOf qs (keyA (q.1, (j : Int)))).isSome = true := by
  unfold wordOf
  rw [Option.isSome_map, List.find?_isSome]
  exact ⟨(q.1, j, q.2.2[j]), List.mem_flatMap.mpr ⟨q, hq, List.mem_of_getElem? (adrsP_at (List.getElem?_eq_getElem hj))⟩, by simp [adrK, keyA]⟩
end DR

namespace DR
open PySem PySem.Spec PyProof.Rows L2
/-- what makes a unit -/
structure UQ (qs : List Pk) (ms : MsT) : Prop where
  pcd : ∀ q ∈ qs, PcD (pkD q) q
  few : qs.length ≤ 10
  len : ∀ q ∈ qs, q.2.2.length ≤ 10
  nod : (qs.map (·.1)).Nodup
  names : (namesQ qs).length < 64
  mul : ∀ a ∈ adrs qs, a.2.2.2.length ≤ 1000
  bw : badU qs = none
  mat : ∀ m ∈ ms, MAt qs m
  mnod : (ms.map (·.1)).Nodup
  mfew : ms.length ≤ 100
theorem pcd_all {qs : List Pk} : ∀ {rs : List Pk}, (∀ q ∈ rs, PcD (pkD q) q) → PySem.W.EachIs PcD (rs.map pkD) rs
  | [], _ => .nil
  | r :: rs, h => .cons (h r (List.mem_cons_self ..)) (pcd_all (qs := qs) fun q hq => h q (List.mem_cons_of_mem _ hq))
theorem uq_go {K : PySem.W.Frag} {P : Program} {w : World} {C CB CT CW : Addr} {qs : List Pk} {ms : MsT} {H : Hp} {v : V} {d : PyData} {ds : List PyData} {D x dx : Addr} {kvs : List (Key × V)} {Q : VK} {E : XK} (u : UQ qs ms) (th : ThE K H v d) (ei : items d = some ds) (hds : PySem.W.EachIs PcD ds qs) (hD : H D = some (.dK kvs)) (hmd : PySem.W.EachIs (MdR H) kvs ms) (hx : H x = none) (hdx : H dx = none) (hne : dx ≠ x)
    (q : ∀ H2 ns, Same H H2 → UnG H2 C x qs ms ns → Q .non H2) : spUnit K P w C CB CT CW (.ref x :: ([v, .ref D] ++ [])) (upd (upd H dx (.own x)) x (.ins C dx [])) Q E := by
  have lk : kvs.length = ms.length := hmd.length
  have mf := u.mfew
  have nod : (kvs.map (·.1)).Nodup := by
    rw [md_keys hmd]
    exact inr_nod u.mnod
  have en : Ents K H (kvs.map fun kv => kV kv.1) (kvs.map fun kv => kv.2) (ms.map fun m => (.str m.1, adE m.2.1 m.2.2)) := ents_of (g := fun m => adE m.2.1 m.2.2) (eachs_imp (fun kv m hh => by
    obtain ⟨h1, t, h2, h3⟩ := hh
    refine ⟨h1, ?_⟩
    rw [h2]
    exact .tup (SqT.of h3) (.cons (.str _) (.cons (.int _) .nil))) hmd) fun m hm => ⟨(u.mat m hm).k.sh, ok_pair rfl (u.mat m hm).p⟩
  exact unit_go th ⟨⟨ds, ei, hds⟩, u.few, u.len, u.nod⟩ u.names u.mul u.bw hD (tu_dK nod) en (by rw [List.length_map]; omega) (tells_of fun m hm => ⟨u.mat m hm, rd_adE (u.mat m hm).p.nm⟩) u.mnod hx hdx hne fun H2 ns s2 un _ => q H2 ns s2 un
theorem fm_filter {α β : Type} (f : α → Bool) (g : α → List β) : ∀ (l : List α), ((l.filter f).flatMap g).Sublist (l.flatMap g)
  | [] => .slnil
  | a :: l => by
    cases e : f a with
    | true =>
      rw [List.filter_cons_of_pos e, List.flatMap_cons, List.flatMap_cons]
      exact List.Sublist.append (List.Sublist.refl _) (fm_filter f g l)
    | false =>
      rw [List.filter_cons_of_neg (by rw [e]; decide), List.flatMap_cons]
      exact (fm_filter f g l).trans (List.sublist_append_right _ _)
theorem fm_sub {α β : Type} (g : α → List β) {l l' : List α} (h : l.Sublist l') : (l.flatMap g).Sublist (l'.flatMap g) := by
  induction h with
  | slnil => exact .slnil
  | cons a _ ih =>
    rw [List.flatMap_cons]
    exact ih.trans (List.sublist_append_right _ _)
  | cons_cons a _ ih =>
    rw [List.flatMap_cons, List.flatMap_cons]
    exact List.Sublist.append (List.Sublist.refl _) ih
abbrev ftQ (f : Str → Bool) (qs : List Pk) : List Pk := qs.filter fun q => f q.1
abbrev ftM (f : Str → Bool) (ms : MsT) : MsT := ms.filter fun m => f m.2.1
theorem kind_in {qs : List Pk} {o : Key} : (valV (kindD qs) o).isSome = true ↔ ∃ q ∈ qs, o = .inr q.1 := by
  unfold valV kindD
  rw [Option.isSome_map, List.find?_isSome]
  constructor
  · rintro ⟨e, he, c⟩
    obtain ⟨q, hq, rfl⟩ := List.mem_map.mp he
    exact ⟨q, hq, (of_decide_eq_true c).symm⟩
  · rintro ⟨q, hq, rfl⟩
    exact ⟨_, List.mem_map.mpr ⟨q, hq, rfl⟩, by simp⟩
theorem UQ.filter {qs : List Pk} {ms : MsT} (u : UQ qs ms) {f : Str → Bool} (cl : ∀ q ∈ qs, f q.1 = true → ∀ p, Led qs ms q.1 p → f p = true) : UQ (ftQ f qs) (ftM f ms) := by
  have sub : (ftQ f qs).Sublist qs := List.filter_sublist
  have subA : (adrs (ftQ f qs)).Sublist (adrs qs) := fm_filter _ _ _
  have subM : (ftM f ms).Sublist ms := List.filter_sublist
  refine ⟨fun q hq => u.pcd q (sub.mem hq), Nat.le_trans sub.length_le u.few, fun q hq => u.len q (sub.mem hq), u.nod.sublist (sub.map _), Nat.lt_of_le_of_lt (fm_sub _ subA).length_le u.names, fun a ha => u.mul a (subA.mem ha), ?_, fun m hm => ?_, u.mnod.sublist (subM.map _), Nat.le_trans subM.length_le u.mfew⟩
  · unfold badU
    rw [List.find?_eq_none]
    intro a ha c
    have h0 := u.bw
    unfold badU at h0
    rw [List.find?_eq_none] at h0
    have h1 := h0 a (subA.mem ha)
    have h1 : ofW qs a.2.2 = true := by
      cases e : ofW qs a.2.2 with
      | true => rfl
      | false => rw [e] at h1; exact absurd rfl h1
    have h2 : ofW (ftQ f qs) a.2.2 = true := by
      obtain ⟨q, hq, e1, e2⟩ := mem_adrs ha
      obtain ⟨hq1, fq⟩ := List.mem_filter.mp hq
      unfold ofW at h1 ⊢
      rw [List.all_eq_true] at h1 ⊢
      intro x hx
      have h3 := h1 x hx
      unfold ofU at h3 ⊢
      split at h3
      · rename_i k o ek
        rw [Bool.or_eq_true] at h3 ⊢
        rcases h3 with h3 | h3
        · exact .inl h3
        · rw [Bool.and_eq_true] at h3 ⊢
          refine .inr ⟨h3.1, ?_⟩
          obtain ⟨q2, hq2, rfl⟩ := kind_in.mp h3.2
          have k1 : k = sPiece := of_decide_eq_true h3.1
          refine kind_in.mpr ⟨q2, List.mem_filter.mpr ⟨hq2, cl q hq1 fq q2.1 ⟨a.2.1, a.2.2, by rw [home_of u.nod hq1]; exact e2, ?_⟩⟩, rfl⟩
          unfold ledW
          refine List.mem_filterMap.mpr ⟨x, hx, ?_⟩
          rw [ek, k1]
          exact ledU_p
      · cases h3
    rw [h2] at c
    cases c
  · obtain ⟨hm1, fm⟩ := List.mem_filter.mp hm
    have m0 := u.mat m hm1
    refine ⟨m0.k, m0.p, ?_⟩
    have h1 := m0.at_
    unfold wordOf at h1 ⊢
    rw [Option.isSome_map, List.find?_isSome] at h1 ⊢
    obtain ⟨a, ha, e⟩ := h1
    refine ⟨a, ?_, e⟩
    have e0 := congrArg (fun z : List Key => z[0]?) (of_decide_eq_true e)
    have e0 : a.1 = m.2.1 := by simpa [adrK, keyA] using e0
    obtain ⟨q, hq, e1, e2⟩ := mem_adrs ha
    refine List.mem_flatMap.mpr ⟨q, List.mem_filter.mpr ⟨hq, by rw [← e1, e0]; exact fm⟩, ?_⟩
    have := List.mem_of_getElem? (adrsP_at e2)
    rw [← e1] at this
    exact this
end DR

namespace DR
open PySem PySem.Spec PyProof.Rows L2
/-! ### struck -/
theorem any_str {n : Str} : ∀ {zs : List Str}, ((zs.map PyData.str).any fun z => PyData.eqv z (.str n)) = decide (n ∈ zs)
  | [] => rfl
  | z :: zs => by
    rw [List.map_cons, List.any_cons, any_str]
    have e1 : PyData.eqv (.str z) (.str n) = decide (z = n) := by
      by_cases c : z = n
      · subst c
        simp [PyData.eqv]
      · simp [PyData.eqv, c]
    rw [e1]
    by_cases c : z = n
    · simp [c]
    · have : n ≠ z := fun y => c y.symm
      simp [c, this]
theorem strs_dp {K : PySem.W.Frag} {H : Hp} : ∀ (zs : List Str), DpAll K H (zs.map V.str) (zs.map PyData.str)
  | [] => .nil
  | z :: zs => .cons (.str z) (strs_dp zs)
theorem strs_plain : ∀ (zs : List Str), PyData.plainAll (zs.map PyData.str) = true
  | [] => rfl
  | z :: zs => by
    rw [List.map_cons]
    simp only [PyData.plainAll, Bool.and_eq_true]
    exact ⟨rfl, strs_plain zs⟩
theorem in_go {K : PySem.W.Frag} {H : Hp} {l : Addr} {zs : List Str} {n : Str} {Q : VK} (hl : H l = some (.lst (zs.map V.str))) (q : Q (.bl (decide (n ∈ zs))) H) : rInP K (.str n) (.ref l) H Q := by
  refine ⟨.str n, zs.map PyData.str, .str n, .lst (SqL.of hl) (strs_dp zs), rfl, strs_plain zs, (by simp [PyData.depth]), ?_⟩
  rw [any_str]
  exact q
def spStruck (K : PySem.W.Frag) (C CN : Addr) : Sp := fun vs H Q E => ∃ (x : Addr) (qs : List Pk) (ms : MsT) (ns : List Str) (v : V), vs = [.ref x, v] ∧ UnG H C x qs ms ns ∧
  (ChkBad K CN H E ms v ∨ ∃ (b : Addr) (rs : List Str), v = .ref b ∧ (SqL K H b (rs.map V.str) ∨ SqT K H b (rs.map V.str)) ∧ RootsR qs ms rs ∧ UQ qs ms ∧
    ∀ f y ns' H', (∀ p, f p = true ↔ Rch qs ms (rootsOf ms rs) p) → Same H H' → UnG H' C y (ftQ f qs) (ftM f ms) ns' → Q (.ref y) H')
abbrev sStruck : Stmt := topS 39
abbrev NSt : List Str := ["unit", "roots", "names", "told", "piece", "name", "address"]
theorem scStruck : FnScope NSt ["unit", "roots"] (defScope sStruck) := ⟨rfl, rfl, rfl, by decide +kernel, rfl, by decide +kernel, by decide +kernel⟩
abbrev tAd0 (K : PySem.W.Frag) (i : Nat) : TT := tTest (tOp (rInP K) (tOp (rIxT K) (tVar i) (tC (.int 0))) (tVar 2))
section
variable {P : Program} {w : World} {K : PySem.W.Frag} {mg : Str → Option Value} {base : Heap}
theorem ok_struck {f C CB CT CW CN : Addr} {fd : FuncData} (F : Fun K "struck" "struck" sStruck f fd) (G1 : Has P w K mg base (L2.CX P w) 6 "reached" ["unit", "roots"] (spReached K C CN)) (MT : HasM P w K mg base CX0 1 C "told" ["self"] (spUTold C)) (MP : HasM P w K mg base CX0 1 C "pieces" ["self"] (spUPieces C)) (MU : MkU P w K mg base C CB CT CW) :
    FnOk P w K mg base (L2.CX P w) 9 f fd ["unit", "roots"] (spStruck K C CN) := by
  refine F.okX scStruck (fun vs H Q E h => ?_) (fun cdv A outer s H vs Q E hr h => ?_)
  · obtain ⟨x, qs, ms, ns, v, rfl, _⟩ := h
    rfl
  · obtain ⟨x, qs, ms, ns, v, rfl, un, h⟩ := h
    have hu := hu_of hr
    refine ⟨_, (pss_cons (ps_set (i := 2) scStruck.nd rfl (.inr rfl) (pe_callH G1 (hr.mono (by decide)) (by rfl) (passes_call (W := fun cls d _ H => E cls d H) (takes_of rfl rfl rfl rfl) (fun _ _ _ _ h => h)) (pa_cons (pv 0) (pa_cons (pv 1) pa_nil))))
      (pss_cons (ps_setDc (i := 3) (own := [("name", 5), ("address", 6)]) (g := gTup K 2 (gCons (gName 5) (gCons (gName 6) gNil))) (tt := tAd0 K 6) (tk := tVar 5) (tv := tVar 6) rfl scStruck.nd rfl rfl (sw_dt rfl rfl rfl (by decide +kernel)) (pi_itemsF (pe_methH0 MT (pv 0) (hr.mono (by decide)) pass0)) (blkOk_by (N := NSt) (sc := defScope sStruck) (by decide +kernel))
        (fun _ _ _ _ _ => pg_tup rfl (pgs_cons (pg_name (i := 5) scStruck.nd rfl (.inl rfl)) (pgs_cons (pg_name (i := 6) scStruck.nd rfl (.inl rfl)) pgs_nil))) (fun _ _ _ _ _ => pts_one (pt_cmpR (op_inP hr) (pe_ix ix_tup (pv 6) pe_int (fun _ _ => rfl)) (pv 2) (by rfl))) (fun _ _ _ _ _ => pv 5) (fun _ _ _ _ _ => pv 6))
      (pss_one (ps_ret (pe_makeU MU hr (by rfl) passN (pa_cons (pe_lc (own := [("piece", 4)]) (g := gName 4) (tt := tAd0 K 4) (te := tVar 4) rfl scStruck.nd (pi_list (pe_methH0 MP (pv 0) (hr.mono (by decide)) pass0)) (blkOk_by (N := NSt) (sc := defScope sStruck) (by decide +kernel)) (fun _ _ _ _ _ => pg_name (i := 4) scStruck.nd rfl (.inl rfl)) (fun _ _ _ _ _ => pts_one (pt_cmpR (op_inP hr) (pe_ix ix_tup (pv 4) pe_int (fun _ _ => rfl)) (pv 2) (by rfl))) (fun _ _ _ _ _ => pv 4)) (pa_cons (pv 3) pa_nil))))))), ?_⟩
    rcases h with bad | ⟨b, rs, rfl, hb, ro, uq, q⟩
    · exact ⟨_, rfl, _, rfl, x, qs, ms, ns, v, rfl, un, .inl bad⟩
    · refine ⟨_, rfl, _, rfl, x, qs, ms, ns, _, rfl, un, .inr ⟨b, rs, rfl, hb, ro, fun l zs H1 s1 nl hl isr => ?_⟩⟩
      obtain ⟨f, hf, rfl⟩ := isr
      have un1 := unG_s s1 un
      obtain ⟨ok, _, _, dx, _, _, _, _, _, _, _, hx, _⟩ := id un1
      have qfew := ok.few
      have mfew := uq.mfew
      have inN : ∀ {z : Str}, z ∈ qs.map (·.1) → decide (z ∈ (qs.map (·.1)).filter f) = f z := fun {z} hz => by
        cases e : f z with
        | true => exact decide_eq_true (List.mem_filter.mpr ⟨hz, e⟩)
        | false => exact decide_eq_false fun m => by rw [(List.mem_filter.mp m).2] at e; cases e
      have mN : ∀ m ∈ ms, m.2.1 ∈ qs.map (·.1) := fun m hm => by
        have h1 := (uq.mat m hm).at_
        unfold wordOf at h1
        rw [Option.isSome_map, List.find?_isSome] at h1
        obtain ⟨a, ha, e⟩ := h1
        have e0 := congrArg (fun z : List Key => z[0]?) (of_decide_eq_true e)
        have e0 : a.1 = m.2.1 := by simpa [adrK, keyA] using e0
        rw [← e0]
        exact adrs_nm ha
      refine ⟨_, rfl, x, dx, _, rfl, hx, rfl, x, qs, ms, ns, rfl, un1, fun D md H2 s2 nD hD hmd => ⟨D, md, rfl, hD, fun o => ?_⟩⟩
      have s12 := s1.trans s2
      have lmd : md.length = ms.length := hmd.length
      have ts0 : TupS H2 (upd H2 D (.frz o (.dK md))) := TupS.put hD (by intro xs z; cases z)
      have sf : Same H1 (upd H2 D (.frz o (.dK md))) := fun b x e => by
        rw [upd_ne (fun z => by rw [z, nD] at e; cases e)]
        exact s2 _ _ e
      have hDf : upd H2 D (.frz o (.dK md)) D = some (.frz o (.dK md)) := upd_same
      have hmdf := eachs_imp (fun _ _ => mdR_s ts0) hmd
      generalize upd H2 D (.frz o (.dK md)) = H3 at sf hDf hmdf ⊢
      refine fun F0 hF0 => ?_
      refine dc_it walk_items (fun i H4 => (∀ c o, c ≠ F0 → H3 c = some o → H4 c = some o) ∧ ∃ kd, H4 F0 = some (.dK kd) ∧ PySem.W.EachIs (MdR H4) kd (ftM f (ms.take i)))
        ⟨fun c o hc e => by rw [upd_ne hc]; exact e, [], upd_same, .nil⟩ (fun i H4 _ ⟨kp, _⟩ => kp _ _ (ne_of_none hDf hF0) hDf) ?_ ?_
      · rintro i y H4 H4' hi ⟨kp, kd, hF4, hkd⟩ ⟨T, k, u, rfl, nT, rfl, hk, hv⟩
        have hi : i < md.length := hi
        have hmi := List.getElem?_eq_getElem hi
        generalize md[i] = kv at hmi
        have hk : (md[i]?.map fun kv => kV kv.1) = some k := hk
        have hv : md[i]?.map Prod.snd = some u := hv
        rw [hmi] at hk hv
        obtain rfl := Option.some.inj hk
        obtain rfl := Option.some.inj hv
        obtain ⟨m, hm, e1, t, e2, ht⟩ := eachs_get hmdf hmi
        obtain ⟨kk, vv⟩ := kv
        have e1 : kk = .inr m.1 := e1
        have e2 : vv = .ref t := e2
        subst e1 e2
        have sT := same_new (o := .tup [kV (.inr m.1), .ref t]) nT
        have gT : upd H4 T (.tup [kV (.inr m.1), .ref t]) T = some (.tup [kV (.inr m.1), .ref t]) := upd_same
        have s34 : Same H3 H4 := fun c o e => kp c o (ne_of_none e hF0) e
        have hF5 := sT _ _ hF4
        have hkd5 := eachs_imp (fun _ _ => mdR_s (TupS.of sT)) hkd
        show gTup K 2 _ _ _ (upd H4 T (.tup [kV (.inr m.1), .ref t])) _
        generalize upd H4 T (.tup [kV (.inr m.1), .ref t]) = H5 at sT gT hF5 hkd5 ⊢
        have s35 := s34.trans sT
        have m0 := List.mem_of_getElem? hm
        have eM : ftM f (ms.take (i + 1)) = ftM f (ms.take i) ++ [m].filter fun m => f m.2.1 := by
          unfold ftM
          rw [List.take_add_one, hm, List.filter_append]
          rfl
        refine ⟨T, _, rfl, SqT.of gT, rfl, _, _, rfl, _, _, rfl, rfl, rfl, ?_⟩
        refine ⟨_, rfl, t, _, _, _, rfl, rfl, SqT.of (s35 _ _ ht), at_of (i := 0) rfl, _, rfl, ?_⟩
        refine in_go (s35 _ _ (sf _ _ hl)) ?_
        rw [inN (mN m m0)]
        cases ef : f m.2.1 with
        | true =>
          refine ⟨_, rfl, iteT ⟨_, rfl, _, rfl, kd, .inr m.1, rfl, hF5, small1000 ?_, fun c o hc e => by rw [upd_ne hc]; exact sT _ _ (kp c o hc e), _, upd_same, ?_⟩⟩
          · have l1 := hkd5.length
            have l2 : (ftM f (ms.take i)).length ≤ (ms.take i).length := List.length_filter_le ..
            rw [List.length_take] at l2
            omega
          · have nin : (.inr m.1 : Key) ∉ kd.map (·.1) := by
              rw [md_keys hkd5]
              intro z
              obtain ⟨m', hm', e⟩ := List.mem_map.mp z
              have : m.1 ∉ (ms.take i).map (·.1) := by
                rw [List.map_take]
                exact take_not uq.mnod (by rw [List.getElem?_map, hm]; rfl)
              exact this (List.mem_map.mpr ⟨m', (List.mem_filter.mp hm').1, Sum.inr.inj e⟩)
            rw [putS_new nin]
            have ts : TupS H5 (upd H5 F0 (.dK (kd ++ [(.inr m.1, .ref t)]))) := TupS.put hF5 (by intro xs z; cases z)
            have e1 : [m].filter (fun m => f m.2.1) = [m] := by rw [List.filter_cons_of_pos (by exact ef), List.filter_nil]
            rw [eM, e1]
            exact eachs_snoc (R := MdR _) ⟨rfl, t, rfl, ts _ _ (s35 _ _ ht)⟩ (eachs_imp (fun _ _ => mdR_s ts) hkd5)
        | false =>
          refine ⟨_, rfl, iteF ⟨fun c o hc e => sT _ _ (kp c o hc e), kd, hF5, ?_⟩⟩
          have e1 : [m].filter (fun m => f m.2.1) = [] := by rw [List.filter_cons_of_neg (by rw [ef]; decide), List.filter_nil]
          rw [eM, e1, List.append_nil]
          exact hkd5
      · rintro H4 ⟨kp, kd, hF4, hkd⟩
        rw [lmd, List.take_length] at hkd
        have s04 : Same H H4 := (s1.trans sf).trans fun c o e => kp c o (ne_of_none e hF0) e
        have un4 := unG_s s04 un
        have hl4 : H4 l = some (.lst (((qs.map (·.1)).filter f).map V.str)) := kp _ _ (ne_of_none (sf _ _ hl) hF0) (sf _ _ hl)
        obtain ⟨_, _, _, dx4, _, _, _, _, _, _, _, hx4, _⟩ := id un4
        refine ⟨_, rfl, x, dx4, _, rfl, hx4, rfl, x, qs, ms, ns, rfl, un4, fun e ys H5 s5 ne he hys => ?_⟩
        have ly : ys.length = qs.length := hys.length
        refine ⟨e, rfl, ⟨ys, SqL.of he⟩, fun N hN => ?_⟩
        refine lc_it (walk_list (xs := ys)) (fun i Hj => Same H5 Hj ∧ ∃ vs, Hj N = some (.lst vs) ∧ PySem.W.EachIs (PieceG Hj) vs (ftQ f (qs.take i)))
          ⟨same_new hN, [], upd_same, .nil⟩ (fun i Hj _ ⟨sj, _⟩ => SqL.of (sj _ _ he)) ?_ ?_
        · rintro i u Hj Hj' hi ⟨sj, vs, hNj, hvs⟩ ⟨rfl, hu'⟩
          obtain ⟨q1, hq1, hpc⟩ := eachs_get hys hu'
          have hpj := pieceG_s (TupS.of sj) hpc
          obtain ⟨t, b1, ws, rfl, ht, hb1, hws⟩ := id hpj
          have i2 : i < qs.length := (List.getElem?_eq_some_iff.mp hq1).1
          have eQ : ftQ f (qs.take (i + 1)) = ftQ f (qs.take i) ++ [q1].filter fun q => f q.1 := by
            unfold ftQ
            rw [List.take_add_one, hq1, List.filter_append]
            rfl
          refine ⟨rfl, ?_⟩
          refine ⟨_, rfl, t, _, _, _, rfl, rfl, SqT.of ht, at_of (i := 0) rfl, _, rfl, ?_⟩
          refine in_go (sj _ _ (s5 _ _ hl4)) ?_
          rw [inN (List.mem_map.mpr ⟨q1, List.mem_of_getElem? hq1, rfl⟩)]
          cases ef : f q1.1 with
          | true =>
            refine ⟨_, rfl, iteT ⟨_, rfl, vs, hNj, small1000 ?_, same_upd sj hN, _, upd_same, ?_⟩⟩
            · have l1 := hvs.length
              have l2 : (ftQ f (qs.take i)).length ≤ (qs.take i).length := List.length_filter_le ..
              rw [List.length_take] at l2
              omega
            · have ts : TupS Hj' (upd Hj' N (.lst (vs ++ [.ref t]))) := TupS.put hNj (by intro xs z; cases z)
              have e1 : [q1].filter (fun q => f q.1) = [q1] := by rw [List.filter_cons_of_pos (by exact ef), List.filter_nil]
              rw [eQ, e1]
              exact eachs_snoc (R := PieceG _) (pieceG_s ts hpj) (eachs_imp (fun _ _ => pieceG_s ts) hvs)
          | false =>
            have e1 : [q1].filter (fun q => f q.1) = [] := by rw [List.filter_cons_of_neg (by rw [ef]; decide), List.filter_nil]
            refine ⟨_, rfl, iteF ⟨sj, vs, hNj, ?_⟩⟩
            rw [eQ, e1, List.append_nil]
            exact hvs
        · rintro Hj ⟨sj, vs, hNj, hvs⟩
          rw [ly, List.take_length] at hvs
          have cl : ∀ q ∈ qs, f q.1 = true → ∀ p, Led qs ms q.1 p → f p = true := fun q1 hq1 fq p l => by
            obtain ⟨t, d⟩ := (hf q1.1).mp fq
            obtain ⟨j, _, d2⟩ := ds_ex (t := t + 1) (p := p) (.inr ⟨q1.1, d.1, l⟩)
            exact (hf p).mpr ⟨j, d2⟩
          have uf := uq.filter cl
          have s5j := s5.trans sj
          refine ⟨_, rfl, fun y dy hy hdy hne => uq_go uf (thE_of (.dat (.lst (SqL.of hNj) (pieces_dp hvs)))) rfl (pcd_all (qs := qs) uf.pcd) (s5j _ _ hF4) (eachs_imp (fun _ _ => mdR_s (TupS.of s5j)) hkd) hy hdy hne fun H6 ns6 s6 un6 => ⟨rfl, ?_⟩⟩
          exact q f y ns6 H6 hf ((s04.trans s5j).trans s6) un6
end
end DR

namespace DR
open PySem PySem.Spec PyProof.Rows L2
abbrev sLCell : Stmt := topS 42
abbrev sLRow : Stmt := topS 43
theorem scLCell : FnScope ["script", "k"] ["script", "k"] (defScope sLCell) := ⟨rfl, rfl, rfl, by decide +kernel, rfl, by decide +kernel, by decide +kernel⟩
theorem scLRow : FnScope ["cell", "sizes", "out", "size", "seed", "k", "mixed"] ["cell", "sizes"] (defScope sLRow) := ⟨rfl, rfl, rfl, by decide +kernel, rfl, by decide +kernel, by decide +kernel⟩
def spLCell (K : PySem.W.Frag) : Sp := fun vs H Q _ => ∃ (l : Addr) (ns : List Int) (j : Nat), vs = [.ref l, .int (j : Int)] ∧ SqL K H l (ns.map V.int) ∧ ∀ n : Int, Q (.int n) H
/-- drawn: one number below each of the sizes -/
def Drawn (sz out : List Int) : Prop := out.length = sz.length ∧ ∀ (i : Nat) (z : Int), sz[i]? = some z → ∃ d : Int, out[i]? = some d ∧ 0 ≤ d ∧ d < z
def SizesOk (sz : List Int) : Prop := sz.length ≤ 900 ∧ ∀ z ∈ sz, 0 < z ∧ z < 1000
def spLRow (K : PySem.W.Frag) : Sp := fun vs H Q _ => ∃ (n : Int) (l : Addr) (sz : List Int), vs = [.int n, .ref l] ∧ SqL K H l (sz.map V.int) ∧ SizesOk sz ∧ ∀ H' p out, Same H H' → H p = none → H' p = some (.lst (out.map V.int)) → Drawn sz out → Q (.ref p) H'
theorem drawn_step {sz out : List Int} {i : Nat} {z d : Int} (h : Drawn (sz.take i) out) (hz : sz[i]? = some z) (h0 : 0 ≤ d) (h1 : d < z) : Drawn (sz.take (i + 1)) (out ++ [d]) := by
  have hi : i < sz.length := (List.getElem?_eq_some_iff.mp hz).1
  have e : sz.take (i + 1) = sz.take i ++ [z] := by
    rw [List.take_add_one, hz]
    rfl
  rw [e]
  obtain ⟨h2, h3⟩ := h
  refine ⟨by rw [List.length_append, List.length_append, h2]; rfl, fun j y hy => ?_⟩
  by_cases c : j < (sz.take i).length
  · rw [List.getElem?_append_left c] at hy
    rw [List.getElem?_append_left (by omega)]
    exact h3 j y hy
  · rw [List.getElem?_append_right (by omega)] at hy
    rw [List.getElem?_append_right (by omega), h2]
    cases hj : j - (sz.take i).length with
    | zero =>
      rw [hj] at hy
      cases hy
      exact ⟨d, rfl, h0, h1⟩
    | succ m =>
      rw [hj] at hy
      cases hy
section
variable {P : Program} {w : World} {K : PySem.W.Frag} {mg : Str → Option Value} {base : Heap}
theorem ok_lcell {f : Addr} {fd : FuncData} (F : Fun K "_law_cell" "_law_cell" sLCell f fd) (T : Bi mg) : FnOk P w K mg base CX0 1 f fd ["script", "k"] (spLCell K) := by
  refine F.ok scLCell (fun vs H Q E h => ?_) (fun cdv A outer s H vs Q E hr h => ?_)
  · obtain ⟨l, ns, j, rfl, _⟩ := h
    rfl
  · obtain ⟨l, ns, j, rfl, hs, q⟩ := h
    refine ⟨_, (pss_one (ps_ret (pe_ifExp (pt_cmpR op_lt (pv 1) (pe_callB call_len_seq (by rfl) T.len (by decide +kernel) (pa_cons (pv 0) pa_nil)) (nomark _)) (pe_ix ix_list (pv 0) (pv 1) (fun _ _ => rfl)) pe_int))), ?_⟩
    refine ⟨_, rfl, _, rfl, l, _, rfl, .inl hs, _, _, rfl, rfl, _, rfl, ?_⟩
    by_cases hj : j < ns.length
    · have e : decide ((j : Int) < ((ns.map V.int).length : Int)) = true := by
        rw [List.length_map]
        exact decide_eq_true (by omega)
      rw [e]
      exact iteT ⟨_, rfl, _, rfl, l, _, _, .int ns[j], rfl, rfl, hs, at_of (by rw [List.getElem?_map, List.getElem?_eq_getElem hj]; rfl), q _⟩
    · have e : decide ((j : Int) < ((ns.map V.int).length : Int)) = false := by
        rw [List.length_map]
        exact decide_eq_false (by omega)
      rw [e]
      exact iteF (q 0)
theorem pw5 {b z : Int} (h0 : 0 ≤ b) (h1 : b < 2147483647) (h2 : 0 ≤ z) (h3 : z ≤ 100001) : CPow (b + 7919 * z + 104729) 5 := ⟨by decide, by decide, by omega⟩
theorem ok_lrow {f : Addr} {fd : FuncData} (F : Fun K "_law_row" "_law_row" sLRow f fd) (T : Bi mg) : FnOk P w K mg base CX0 1 f fd ["cell", "sizes"] (spLRow K) := by
  refine F.ok scLRow (fun vs H Q E h => ?_) (fun cdv A outer s H vs Q E hr h => ?_)
  · obtain ⟨n, l, sz, rfl, _⟩ := h
    rfl
  · obtain ⟨n, l, sz, rfl, hs, ⟨hl, hz⟩, q⟩ := h
    refine ⟨_, (pss_cons (ps_set (i := 2) scLRow.nd rfl (.inl rfl) (pe_lst pa_nil))
      (pss_cons (ps_if (pt_cmpR op_ge (pv 0) (pe_op op_pow pe_int pe_int) (nomark _)) (pss_cons (ps_for PassesOwn.never rfl (pi_list (pv 1)) (pg_name (i := 3) scLRow.nd rfl (.inl rfl)) (pss_cons (ps_expr (pe_bm PySem.F.plainAttrs_list PySem.F.slot_list_append PySem.F.type_list_append mt_append (pv 2) (pa_cons (pe_op op_mod (pe_callTy call_int1 (by rfl) T.int (by decide +kernel) (pa_cons (pv 0) pa_nil)) (pv 3)) pa_nil)))
        (pss_one (ps_set (i := 0) scLRow.nd rfl (.inl rfl) (pe_op op_fdivN (pv 0) (pv 3))))))
        (pss_one (ps_ret (pv 2)))) pss_nil)
      (pss_cons (ps_set (i := 4) scLRow.nd rfl (.inl rfl) (pe_op op_mod (pe_callTy call_int1 (by rfl) T.int (by decide +kernel) (pa_cons (pv 0) pa_nil)) pe_int))
      (pss_cons (ps_for PassesOwn.never rfl (pi_range1 (by rfl) T.range (pa_cons (pe_callB call_len_seq (by rfl) T.len (by decide +kernel) (pa_cons (pv 1) pa_nil)) pa_nil)) (pg_name (i := 5) scLRow.nd rfl (.inl rfl)) (pss_cons (ps_set (i := 6) scLRow.nd rfl (.inl rfl) (pe_op op_add (pe_op op_mod (pe_callTy call_int1 (by rfl) T.int (by decide +kernel) (pa_cons (pe_op op_pow (pe_op op_add (pe_op op_add (pv 4) (pe_op op_mul pe_int (pv 5))) pe_int) pe_int) pa_nil)) pe_int) (pv 5)))
        (pss_one (ps_expr (pe_bm PySem.F.plainAttrs_list PySem.F.slot_list_append PySem.F.type_list_append mt_append (pv 2) (pa_cons (pe_op op_mod (pe_callTy call_int1 (by rfl) T.int (by decide +kernel) (pa_cons (pe_op op_mod (pe_callTy call_int1 (by rfl) T.int (by decide +kernel) (pa_cons (pe_op op_mul (pv 6) pe_int) pa_nil)) pe_int) pa_nil)) (pe_ix ix_list (pv 1) (pv 5) (fun _ _ => rfl))) pa_nil))))))
      (pss_one (ps_ret (pv 2))))))), ?_⟩
    refine ⟨Nat.zero_le _, fun p hp => ?_⟩
    have s1 := same_new (o := .lst []) hp
    have hpl : p ≠ l ∨ True := .inr trivial
    refine ⟨_, rfl, _, _, rfl, rfl, ⟨by decide, by decide, by decide⟩, _, _, rfl, rfl, _, rfl, ?_⟩
    have szat : ∀ {i : Nat} {v : V}, (sz.map V.int)[i]? = some v → ∃ z, sz[i]? = some z ∧ v = .int z ∧ 0 < z ∧ z < 1000 := by
      intro i v hv
      rw [List.getElem?_map] at hv
      cases e : sz[i]? with
      | none => rw [e] at hv; cases hv
      | some z =>
        rw [e] at hv
        have := hz z (List.mem_of_getElem? e)
        exact ⟨z, rfl, (Option.some.inj hv).symm, this⟩
    have kpS : ∀ {H4 : Hp}, (∀ b o, b ≠ p → H b = some o → H4 b = some o) → Same H H4 := fun kp b o e => kp b o (ne_of_none e hp) e
    refine ite2 (fun c => ?_) (fun c => ?_)
    · refine ⟨_, rfl, l, rfl, ⟨_, sqL_same s1 hs⟩, ?_⟩
      refine for_it walk_list (fun i σ H4 => ∃ (n' : Int) (u : Option V) (out : List Int), σ = [some (.int n'), some (.ref l), some (.ref p), u, none, none, none] ∧ (∀ b o, b ≠ p → H b = some o → H4 b = some o) ∧ H4 p = some (.lst (out.map V.int)) ∧ Drawn (sz.take i) out)
        ⟨n, none, [], rfl, fun b o hb e => by rw [upd_ne hb]; exact e, upd_same, ⟨rfl, fun i z h => by simp at h⟩⟩ (fun i σ H4 _ ⟨_, _, _, _, kp, _⟩ => sqL_same (kpS kp) hs) ?_ ?_
      · rintro i y σ H4 H4' hi ⟨n', u, out, rfl, kp, h4, hd⟩ ⟨rfl, hy⟩
        obtain ⟨z, ez, rfl, z0, z1⟩ := szat hy
        have hlt : i < sz.length := (List.getElem?_eq_some_iff.mp ez).1
        have ol : out.length = i := by
          rw [hd.1, List.length_take]
          omega
        refine ⟨_, rfl, .inl ⟨rfl, _, SqL.of h4⟩, _, rfl, .inl ⟨_, rfl, _, rfl, _, _, rfl, rfl, z0, p, _, _, rfl, rfl, h4, ?_, ?_⟩⟩
        · rw [List.length_map]
          exact small1000 (by omega)
        refine ⟨_, rfl, _, rfl, _, _, rfl, rfl, ⟨by omega, by omega⟩, _, _, _, rfl, fun b o hb e => ?_, ?_, drawn_step (d := n' % z) hd ez (Int.emod_nonneg _ (by omega)) (Int.emod_lt_of_pos _ z0)⟩
        · rw [upd_ne hb]
          exact kp b o hb e
        · rw [upd_same, List.map_append]
          rfl
      · rintro σ H4 ⟨n', u, out, rfl, kp, h4, hd⟩
        rw [List.length_map, List.take_length] at hd
        exact ⟨_, rfl, q H4 p out (kpS kp) hp h4 hd⟩
    · refine ⟨_, rfl, .inl ⟨_, rfl, _, _, rfl, rfl, (by show (0 : Int) < 2147483647; decide), ?_⟩⟩
      refine ⟨_, rfl, l, _, rfl, .inl (sqL_same s1 hs), ?_⟩
      have es : ((sz.map V.int).length : Int).toNat = sz.length := by
        rw [List.length_map]
        exact Int.toNat_natCast _
      refine ⟨_, rfl, ?_, ?_, ?_⟩
      · omega
      · rw [List.length_map]
        omega
      rw [es]
      have m0 : 0 ≤ n % 2147483647 := Int.emod_nonneg _ (by decide)
      have m1 : n % 2147483647 < 2147483647 := Int.emod_lt_of_pos _ (by decide)
      refine for_it walk_range (fun i σ H4 => ∃ (u v : Option V) (out : List Int), σ = [some (.int n), some (.ref l), some (.ref p), none, some (.int (n % 2147483647)), u, v] ∧ (∀ b o, b ≠ p → H b = some o → H4 b = some o) ∧ H4 p = some (.lst (out.map V.int)) ∧ Drawn (sz.take i) out)
        ⟨none, none, [], rfl, fun b o hb e => by rw [upd_ne hb]; exact e, upd_same, ⟨rfl, fun i z h => by simp at h⟩⟩ (fun _ _ _ _ _ => trivial) ?_ ?_
      · rintro i y σ H4 H4' hi ⟨u, v, out, rfl, kp, h4, hd⟩ ⟨rfl, rfl⟩
        have hz1 : (sz.map V.int)[i]? = some (.int sz[i]) := by
          rw [List.getElem?_map, List.getElem?_eq_getElem hi]
          rfl
        obtain ⟨z0, z1⟩ := hz sz[i] (List.getElem_mem hi)
        have ol : out.length = i := by
          rw [hd.1, List.length_take]
          omega
        refine ⟨_, rfl, _, rfl, _, _, rfl, rfl, .inl ⟨by decide, by decide⟩, _, _, rfl, rfl, _, _, rfl, rfl, _, _, rfl, rfl, pw5 m0 m1 (by omega) (by omega), .inl ⟨_, rfl, _, _, rfl, rfl, (by show (0 : Int) < 2147483647; decide), _, rfl, _, _, rfl, rfl, ?_⟩⟩
        refine ⟨_, rfl, .inl ⟨rfl, _, SqL.of h4⟩, _, rfl, _, _, rfl, rfl, .inr ⟨by decide, by decide⟩, .inl ⟨_, rfl, _, _, rfl, rfl, (by show (0 : Int) < 2147483629; decide), .inl ⟨_, rfl, _, rfl, _, rfl, l, _, _, .int sz[i], rfl, congrArg V.int (Int.zero_add _), sqL_same (kpS kp) hs, at_of hz1, _, _, rfl, rfl, z0, p, _, _, rfl, rfl, h4, ?_, _, _, _, rfl, fun b o hb e => ?_, ?_, drawn_step (d := ((n % 2147483647 + 7919 * (0 + (i : Int)) + 104729) ^ (5 : Int).toNat % 2147483647 + (0 + (i : Int))) * 40692 % 2147483629 % sz[i]) hd (List.getElem?_eq_getElem hi) (Int.emod_nonneg _ (by omega)) (Int.emod_lt_of_pos _ z0)⟩⟩⟩
        · rw [List.length_map]
          exact small1000 (by omega)
        · rw [upd_ne hb]
          exact kp b o hb e
        · rw [upd_same, List.map_append]
          rfl
      · rintro σ H4 ⟨u, v, out, rfl, kp, h4, hd⟩
        rw [List.take_length] at hd
        exact ⟨_, rfl, q H4 p out (kpS kp) hp h4 hd⟩
end
end DR

namespace DR
open PySem PySem.Spec PyProof.Rows L2
/-! ### _law_leads -/
def spLLeads : Sp := fun vs H Q _ => ∃ (v : V) (T : Addr) (w : Int × Mul) (md : List (Key × V)) (ms : MsT), vs = [v, .ref T] ∧ SumP H v w ∧ (∀ u ∈ w.2.map (·.1), NmU u) ∧ w.2.length ≤ 100 ∧ H T = some (.dK md) ∧ PySem.W.EachIs (MdR H) md ms ∧ ∀ l H', Same H H' → H l = none → H' l = some (.lst ((ledW ms w).map V.str)) → Q (.ref l) H'
abbrev sLLeads : Stmt := topS 47
abbrev NLl : List Str := ["word", "told", "found", "unknown", "many"]
theorem scLLeads : FnScope NLl ["word", "told"] (defScope sLLeads) := ⟨rfl, rfl, rfl, by decide +kernel, rfl, by decide +kernel, by decide +kernel⟩
section
variable {P : Program} {w : World} {K : PySem.W.Frag} {mg : Str → Option Value} {base : Heap}
theorem ok_lleads {f : Addr} {fd : FuncData} (F : Fun K "_law_leads" "_law_leads" sLLeads f fd) : FnOk P w K mg base CX0 1 f fd ["word", "told"] spLLeads := by
  refine F.ok scLLeads (fun vs H Q E h => ?_) (fun cdv A outer s H vs Q E hr h => ?_)
  · obtain ⟨v, T, wd, md, ms, rfl, _⟩ := h
    rfl
  · obtain ⟨v, T, wd, md, ms, rfl, hsum, nm, few, hT, hmd, q⟩ := h
    have hu := hu_of hr
    refine ⟨_, (pss_cons (ps_set (i := 2) scLLeads.nd rfl (.inl rfl) (pe_lst pa_nil))
      (pss_cons (ps_for PassesOwn.never rfl (pi_tup (pe_ix ix_tup (pv 0) pe_int (fun _ _ => rfl))) (pg_tup rfl (pgs_cons (pg_name (i := 3) scLLeads.nd rfl (.inl rfl)) (pgs_cons (pg_name (i := 4) scLLeads.nd rfl (.inl rfl)) pgs_nil)))
        (pss_one (ps_if (pt_cmpR op_eq (pe_ix ix_tup (pv 3) pe_int (fun _ _ => rfl)) pe_str (nomark _)) (pss_one (ps_expr (pe_bm PySem.F.plainAttrs_list PySem.F.slot_list_append PySem.F.type_list_append mt_append (pv 2) (pa_cons (pe_ix ix_tup (pv 3) pe_int (fun _ _ => rfl)) pa_nil))))
          (pss_one (ps_if (pt_cmp (pc_din hu (pe_ix ix_tup (pv 3) pe_int (fun _ _ => rfl)) (pv 1)) (by rfl)) (pss_one (ps_expr (pe_bm PySem.F.plainAttrs_list PySem.F.slot_list_append PySem.F.type_list_append mt_append (pv 2) (pa_cons (pe_ix ix_tup (pe_dget hu (pv 1) (pe_ix ix_tup (pv 3) pe_int (fun _ _ => rfl)) (fun _ _ => rfl)) pe_int (fun _ _ => rfl)) pa_nil)))) pss_nil)))))
      (pss_one (ps_ret (pv 2))))), ?_⟩
    refine ⟨(by show 0 ≤ sizeLine; decide), fun N hN => ?_⟩
    have s1 := same_new (o := .lst []) hN
    have g1 : upd H N (.lst []) N = some (.lst []) := upd_same
    generalize upd H N (.lst []) = H1 at s1 g1 ⊢
    obtain ⟨c1, c2, us, rfl, hc1, hc2, hus⟩ := hsum
    have lu : us.length = wd.2.length := hus.length
    refine ⟨_, rfl, c1, _, _, _, rfl, rfl, SqT.of (s1 _ _ hc1), at_of (i := 1) rfl, c2, rfl, ⟨us, SqT.of (s1 _ _ hc2)⟩, ?_⟩
    refine for_it walk_tup (fun j σ Hj => ∃ (o3 o4 : Option V), σ = [some (.ref c1), some (.ref T), some (.ref N), o3, o4] ∧ Same H Hj ∧ Hj N = some (.lst (((wd.2.take j).filterMap fun q => ledU ms q.1).map V.str)))
      ⟨_, _, rfl, s1, g1⟩ (fun j σ Hj _ ⟨_, _, _, sj, _⟩ => SqT.of (sj _ _ hc2)) ?_ ?_
    · rintro j y σ Hj Hj' hj ⟨o3, o4, rfl, sj, hNj⟩ ⟨rfl, hy⟩
      obtain ⟨u, mm, cc, ee, hum, rfl, hcc, hee⟩ := part_get hus hy
      obtain ⟨kd, ob, rfl, hkd, hin⟩ := nm u (List.mem_map.mpr ⟨_, List.mem_of_getElem? hum, rfl⟩)
      have j2 : j < wd.2.length := (List.getElem?_eq_some_iff.mp hum).1
      have et : (wd.2.take (j + 1)).filterMap (fun q => ledU ms q.1) = (wd.2.take j).filterMap (fun q => ledU ms q.1) ++ (ledU ms [.inr kd, ob]).toList := by
        rw [List.take_add_one, hum, List.filterMap_append]
        show _ ++ List.filterMap _ [([.inr kd, ob], mm)] = _
        cases e : ledU ms [.inr kd, ob] <;> simp [e]
      have l1 : ((wd.2.take j).filterMap fun q => ledU ms q.1).length ≤ 100 := by
        have := List.length_filterMap_le (fun q : List Key × Int => ledU ms q.1) (wd.2.take j)
        rw [List.length_take] at this
        omega
      have hTj := sj _ _ hT
      have he := sj _ _ hee
      have add : ∀ z, ledU ms [.inr kd, ob] = some z → ∃ (d : Addr) (xs : List V) (v : V), V.ref N = .ref d ∧ [V.str z] = [v] ∧ Hj' d = some (.lst xs) ∧ xs.length < sizeLine ∧ ∃ (o3 o4 : Option V), [some (V.ref c1), some (.ref T), some (.ref N), some (.ref ee), some (.int mm)] = [some (.ref c1), some (.ref T), some (.ref N), o3, o4] ∧ Same H (upd Hj' d (.lst (xs ++ [v]))) ∧ upd Hj' d (.lst (xs ++ [v])) N = some (.lst (((wd.2.take (j + 1)).filterMap fun q => ledU ms q.1).map V.str)) := fun z hz => by
        refine ⟨N, _, _, rfl, rfl, hNj, small1000 (by rw [List.length_map]; omega), _, _, rfl, same_upd sj hN, ?_⟩
        rw [upd_same, et, hz, List.map_append]
        rfl
      have skip : ledU ms [.inr kd, ob] = none → ∃ (o3 o4 : Option V), [some (V.ref c1), some (.ref T), some (.ref N), some (.ref ee), some (.int mm)] = [some (.ref c1), some (.ref T), some (.ref N), o3, o4] ∧ Same H Hj' ∧ Hj' N = some (.lst (((wd.2.take (j + 1)).filterMap fun q => ledU ms q.1).map V.str)) := fun e => by
        refine ⟨_, _, rfl, sj, ?_⟩
        rw [et, e]
        show _ = some (HO.lst ((_ ++ []).map V.str))
        rw [List.append_nil]
        exact hNj
      refine ⟨cc, _, rfl, SqT.of (sj _ _ hcc), rfl, _, _, rfl, _, _, rfl, rfl, ?_⟩
      refine ⟨_, rfl, ee, _, _, _, rfl, rfl, SqT.of he, at_of (i := 0) rfl, rfl, _, rfl, ?_⟩
      by_cases k1 : kd = sPiece
      · subst k1
        obtain ⟨z, rfl⟩ : ∃ z, ob = .inr z := by
          cases ob with
          | inl m => exact absurd (hin.mp ⟨m, rfl⟩) (by decide +kernel)
          | inr z => exact ⟨z, rfl⟩
        rw [show decide (kV (.inr sPiece) = V.str "piece") = true from by decide +kernel]
        exact iteT ⟨_, rfl, .inl ⟨rfl, _, SqL.of hNj⟩, _, rfl, ee, _, _, _, rfl, rfl, SqT.of he, at_of (i := 1) rfl, add z ledU_p⟩
      · rw [show decide (kV (.inr kd) = V.str "piece") = false from decide_eq_false fun z => k1 (by injection z)]
        have hmdj := eachs_imp (fun _ _ => mdR_s (TupS.of sj)) hmd
        refine iteF ⟨_, rfl, ee, _, _, _, rfl, rfl, SqT.of he, at_of (i := 1) rfl, _, rfl, T, _, rfl, DGet.k (k := ob) hTj, ?_⟩
        cases ob with
        | inl m =>
          rw [md_int hmdj]
          exact ⟨_, rfl, iteF (skip rfl)⟩
        | inr z =>
          have eU : ledU ms [.inr kd, .inr z] = (ms.find? fun m => decide (m.1 = z)).map (·.2.1) := ledU_n k1
          rcases md_look (z := z) hmdj with ⟨e1, e2⟩ | ⟨m, t0, e1, e2, ht0⟩
          · rw [e1]
            exact ⟨_, rfl, iteF (skip (by rw [eU, e2]; rfl))⟩
          · rw [e2]
            have gd : DGet Hj' T (.str z) (some (.ref t0)) := by
              have := DGet.k (k := .inr z) hTj
              rw [e2] at this
              exact this
            exact ⟨_, rfl, iteT ⟨_, rfl, .inl ⟨rfl, _, SqL.of hNj⟩, _, rfl, _, rfl, ee, _, _, _, rfl, rfl, SqT.of he, at_of (i := 1) rfl, T, _, rfl, gd, t0, _, _, _, rfl, rfl, SqT.of ht0, at_of (i := 0) rfl, add m.2.1 (by rw [eU, e1]; rfl)⟩⟩
    · rintro σ Hj ⟨o3, o4, rfl, sj, hNj⟩
      rw [lu, List.take_length] at hNj
      exact ⟨_, rfl, q N Hj sj hN hNj⟩
end
end DR

namespace DR
open PySem PySem.Spec PyProof.Rows L2
/-! ### distances by turns -/
abbrev DsT := List (Str × Nat)
def dsK (ds : DsT) : List (Key × V) := ds.map fun e => (.inr e.1, .int (e.2 : Nat))
theorem dsK_keys (ds : DsT) : (dsK ds).map (·.1) = ds.map fun e => (.inr e.1 : Key) := by
  unfold dsK
  rw [List.map_map]
  rfl
theorem dsK_in {ds : DsT} {z : Str} : (.inr z : Key) ∈ (dsK ds).map (·.1) ↔ z ∈ ds.map (·.1) := by
  rw [dsK_keys]
  constructor
  · intro m
    obtain ⟨e, he, c⟩ := List.mem_map.mp m
    exact List.mem_map.mpr ⟨e, he, Sum.inr.inj c⟩
  · intro m
    obtain ⟨e, he, c⟩ := List.mem_map.mp m
    exact List.mem_map.mpr ⟨e, he, congrArg Sum.inr c⟩
theorem dsK_val {z : Str} : ∀ {ds : DsT}, (z ∉ ds.map (·.1) ∧ valV (dsK ds) (.inr z) = none) ∨ ∃ i, (z, i) ∈ ds ∧ valV (dsK ds) (.inr z) = some (.int (i : Nat))
  | [] => .inl ⟨by simp, rfl⟩
  | e :: ds => by
    by_cases c : e.1 = z
    · refine .inr ⟨e.2, by rw [← c]; exact List.mem_cons_self .., ?_⟩
      unfold valV dsK
      rw [List.map_cons, List.find?_cons_of_pos (by simp [c])]
      rfl
    · have step : valV (dsK (e :: ds)) (.inr z) = valV (dsK ds) (.inr z) := by
        unfold valV dsK
        rw [List.map_cons, List.find?_cons_of_neg (by simp [c])]
      rw [step]
      rcases dsK_val (z := z) (ds := ds) with ⟨n, h⟩ | ⟨i, m, h⟩
      · refine .inl ⟨fun m => ?_, h⟩
        rw [List.map_cons] at m
        rcases List.mem_cons.mp m with m | m
        · exact c m.symm
        · exact n m
      · exact .inr ⟨i, List.mem_cons_of_mem _ m, h⟩
theorem dsK_put {ds : DsT} {z : Str} {i : Nat} (n : z ∉ ds.map (·.1)) : putK (dsK ds) (.inr z) (.int (i : Nat)) = dsK (ds ++ [(z, i)]) := by
  rw [putS_new fun m => n (dsK_in.mp m)]
  unfold dsK
  rw [List.map_append]
  rfl
theorem dsK_same {ds : DsT} {z : Str} {i : Nat} (nd : (ds.map (·.1)).Nodup) (m : (z, i) ∈ ds) : putK (dsK ds) (.inr z) (.int (i : Nat)) = dsK ds := by
  rw [putK_has (dsK_in.mpr (List.mem_map.mpr ⟨_, m, rfl⟩))]
  unfold dsK
  rw [List.map_map]
  refine List.map_congr_left fun e he => ?_
  show (if (.inr e.1 : Key) = .inr z then ((.inr e.1 : Key), V.int (i : Nat)) else (.inr e.1, .int (e.2 : Nat))) = _
  by_cases c : e.1 = z
  · have := nod_inj nd he m c
    subst this
    rw [if_pos rfl]
  · rw [if_neg fun y => c (Sum.inr.inj y)]
section
variable {qs : List Pk} {ms : MsT} {S : List Str} {t : Nat}
structure DsA (qs : List Pk) (ms : MsT) (S : List Str) (t : Nat) (ds : DsT) : Prop where
  nod : (ds.map (·.1)).Nodup
  val : ∀ e ∈ ds, Ds qs ms S e.2 e.1
  dom : ∀ p, p ∈ ds.map (·.1) ↔ Rt qs ms S t p
structure DsI (qs : List Pk) (ms : MsT) (S : List Str) (t : Nat) (Done : Str → Str → Prop) (ds : DsT) : Prop where
  nod : (ds.map (·.1)).Nodup
  val : ∀ e ∈ ds, Ds qs ms S e.2 e.1
  dom : ∀ p, Rt qs ms S t p → p ∈ ds.map (·.1)
  top : ∀ p ∈ ds.map (·.1), Rt qs ms S (t + 1) p
  dn : ∀ p q, Done p q → q ∈ ds.map (·.1)
variable {ds : DsT} {D D' : Str → Str → Prop}
theorem DsA.start (h : DsA qs ms S t ds) : DsI qs ms S t (fun _ _ => False) ds :=
  ⟨h.nod, h.val, fun p c => (h.dom p).mpr c, fun p c => .inl ((h.dom p).mp c), fun _ _ c => c.elim⟩
theorem DsI.done (h : DsI qs ms S t D ds) (e : ∀ p q, D' p q → D p q ∨ q ∈ ds.map (·.1)) : DsI qs ms S t D' ds :=
  ⟨h.nod, h.val, h.dom, h.top, fun p q c => (e p q c).elim (h.dn p q) id⟩
theorem DsI.add {p q : Str} (h : DsI qs ms S t D ds) (hp : Ds qs ms S t p) (l : Led qs ms p q) (n : q ∉ ds.map (·.1)) (e : ∀ p' q', D' p' q' → D p' q' ∨ q' = q) : DsI qs ms S t D' (ds ++ [(q, t + 1)]) := by
  have dq : Ds qs ms S (t + 1) q := ds_step hp.1 l fun z => n (h.dom q z)
  have mm : ∀ x, x ∈ (ds ++ [(q, t + 1)]).map (·.1) ↔ (x ∈ ds.map (·.1) ∨ x = q) := fun x => by
    rw [List.map_append, List.mem_append]
    show _ ∨ x ∈ [q] ↔ _
    rw [List.mem_singleton]
  refine ⟨?_, fun f hf => ?_, fun x c => (mm x).mpr (.inl (h.dom x c)), fun x c => ?_, fun x y c => ?_⟩
  · rw [List.map_append]
    refine List.nodup_append.mpr ⟨h.nod, by simp, fun a ha b hb z => ?_⟩
    have hb : b = q := List.mem_singleton.mp hb
    rw [z, hb] at ha
    exact n ha
  · rcases List.mem_append.mp hf with hf | hf
    · exact h.val f hf
    · rw [List.mem_singleton.mp hf]
      exact dq
  · rcases (mm x).mp c with c | rfl
    · exact h.top x c
    · exact dq.1
  · rcases e x y c with c | rfl
    · exact (mm y).mpr (.inl (h.dn x y c))
    · exact (mm y).mpr (.inr rfl)
theorem DsI.next (h : DsI qs ms S t D ds) (e : ∀ p q, Ds qs ms S t p → Led qs ms p q → D p q) : DsA qs ms S (t + 1) ds := by
  refine ⟨h.nod, h.val, fun p => ⟨h.top p, fun c => ?_⟩⟩
  rcases c with c | ⟨p', c, l⟩
  · exact h.dom p c
  · obtain ⟨j, hj, d⟩ := ds_ex c
    rcases Nat.lt_or_eq_of_le hj with lt | rfl
    · exact h.dom p (rt_mono (t := j + 1) (.inr ⟨p', d.1, l⟩) lt)
    · exact h.dn p' p (e p' p d l)
/-- the value at a piece -/
theorem DsI.at_ {p : Str} (h : DsI qs ms S t D ds) : Ds qs ms S t p ↔ valV (dsK ds) (.inr p) = some (.int (t : Nat)) := by
  constructor
  · intro d
    rcases dsK_val (z := p) (ds := ds) with ⟨n, _⟩ | ⟨i, m, e⟩
    · exact absurd (h.dom p d.1) n
    · have : i = t := ds_eq (h.val _ m) d
      rw [e, this]
  · intro e
    rcases dsK_val (z := p) (ds := ds) with ⟨_, e'⟩ | ⟨i, m, e'⟩
    · rw [e'] at e; cases e
    · rw [e'] at e
      have : (i : Int) = (t : Int) := by
        injection e with e
        injection e
      have : i = t := by omega
      rw [← this]
      exact h.val _ m
/-- all distances -/
structure DsF (qs : List Pk) (ms : MsT) (S : List Str) (ds : DsT) : Prop where
  nod : (ds.map (·.1)).Nodup
  val : ∀ e ∈ ds, Ds qs ms S e.2 e.1
  dom : ∀ p, p ∈ ds.map (·.1) ↔ Rch qs ms S p
theorem DsA.all {ns : List Str} (h : DsA qs ms S ns.length ds) (am : Among qs ms S ns) : DsF qs ms S ds :=
  ⟨h.nod, h.val, fun p => by
    rw [h.dom]
    constructor
    · intro c
      obtain ⟨j, _, d⟩ := ds_ex c
      exact ⟨j, d⟩
    · rintro ⟨j, d⟩
      exact rt_mono d.1 (Nat.le_of_lt (am.lt d))⟩
end
theorem merge_ds : ∀ {zs : List Str} {ds : DsT}, (ds.map (·.1)).Nodup → (∀ e ∈ ds, e.2 = 0) → ∃ ds', mergeK (dsK ds) (zs.map fun z => ((.inr z : Key), V.int (0 : Nat))) = dsK ds' ∧ (List.map (fun e : Str × Nat => e.1) ds').Nodup ∧ (∀ e ∈ ds', e.2 = 0) ∧ ∀ p, p ∈ List.map (fun e : Str × Nat => e.1) ds' ↔ (p ∈ ds.map (·.1) ∨ p ∈ zs)
  | [], ds, nd, z => ⟨ds, rfl, nd, z, fun p => by simp⟩
  | x :: zs, ds, nd, z => by
    show ∃ ds', mergeK (putK (dsK ds) (.inr x) (.int (0 : Nat))) _ = dsK ds' ∧ _
    by_cases c : x ∈ ds.map (·.1)
    · obtain ⟨e, he, rfl⟩ := List.mem_map.mp c
      have e0 := z e he
      have : (e.1, 0) ∈ ds := by rw [← e0]; exact he
      rw [dsK_same nd this]
      obtain ⟨ds', h1, h2, h3, h4⟩ := merge_ds (zs := zs) nd z
      refine ⟨ds', h1, h2, h3, fun p => ?_⟩
      rw [h4, List.mem_cons]
      constructor
      · rintro (h | h)
        · exact .inl h
        · exact .inr (.inr h)
      · rintro (h | rfl | h)
        · exact .inl h
        · exact .inl c
        · exact .inr h
    · rw [dsK_put c]
      have nd2 : (List.map (fun e : Str × Nat => e.1) (ds ++ [(x, 0)])).Nodup := by
        rw [List.map_append]
        refine List.nodup_append.mpr ⟨nd, by simp, fun a ha b hb y => ?_⟩
        have hb : b = x := List.mem_singleton.mp hb
        rw [y, hb] at ha
        exact c ha
      obtain ⟨ds', h1, h2, h3, h4⟩ := merge_ds (zs := zs) nd2 fun e he => by
        rcases List.mem_append.mp he with he | he
        · exact z e he
        · rw [List.mem_singleton.mp he]
      refine ⟨ds', h1, h2, h3, fun p => ?_⟩
      rw [h4, List.map_append, List.mem_append, List.mem_cons]
      show (_ ∨ p ∈ [x]) ∨ _ ↔ _
      rw [List.mem_singleton, or_assoc]
end DR

namespace DR
open PySem PySem.Spec PyProof.Rows L2
theorem merge_nod : ∀ {kvs acc : List (Key × V)}, ((acc ++ kvs).map (·.1)).Nodup → mergeK acc kvs = acc ++ kvs
  | [], acc, _ => by rw [List.append_nil]; rfl
  | p :: kvs, acc, h => by
    have h1 : p.1 ∉ acc.map (·.1) := fun hm => by
      rw [List.map_append, List.map_cons] at h
      exact (List.nodup_append.mp h).2.2 p.1 hm p.1 (List.mem_cons_self ..) rfl
    show mergeK (putK acc p.1 p.2) kvs = _
    rw [putS_new h1, merge_nod (by rw [List.append_assoc]; exact h), List.append_assoc]
    rfl
def PrT (H : Hp) (p : Addr) (kv : Key × V) : Prop := H p = some (.tup [kV kv.1, kv.2])
theorem prT_t {H H' : Hp} (e : TupS H H') {p : Addr} {kv : Key × V} (h : PrT H p kv) : PrT H' p kv := e _ _ h
theorem pair_of {K : PySem.W.Frag} {H : Hp} : ∀ {ps : List Addr} {kvs : List (Key × V)}, PySem.W.EachIs (PrT H) ps kvs → Paired (fun p kv => SqT K H p [kV kv.1, kv.2]) ps kvs
  | _, _, .nil => .nil
  | _, _, .cons h t => .cons (SqT.of h) (pair_of t)
abbrev rDictP (K : PySem.W.Frag) : List V → Hp → VK → Prop := fun xs H Q => ∃ (a : Addr) (ps : List Addr) (kvs : List (Key × V)), xs = [.ref a] ∧ SqL K H a (ps.map V.ref) ∧ Paired (fun p kv => SqT K H p [kV kv.1, kv.2]) ps kvs ∧ ∀ p, H p = none → Q (.ref p) (upd H p (.dK (mergeK [] kvs)))
theorem cr_dictP {X : Cx} (hcalm : X.calm = true) : CallR X (.type "dict") (rDictP X.K) := call_dictP hcalm
theorem dictP_go {K : PySem.W.Frag} {H : Hp} {N : Addr} {ps : List Addr} {kvs : List (Key × V)} {Q : VK} (hN : H N = some (.lst (ps.map V.ref))) (hp : PySem.W.EachIs (PrT H) ps kvs) (nod : (kvs.map (·.1)).Nodup) (q : ∀ Sp, H Sp = none → Q (.ref Sp) (upd H Sp (.dK kvs))) : rDictP K [.ref N] H Q := by
  refine ⟨N, ps, kvs, rfl, SqL.of hN, pair_of hp, fun Sp hS => ?_⟩
  rw [merge_nod (acc := []) nod]
  exact q Sp hS
/-! ### _law_distances -/
/-- a piece as the law holds it: its words in a list -/
def PieceL (H : Hp) (v : V) (q : Pk) : Prop := ∃ a b ws, v = .ref a ∧ H a = some (.tup [.str q.1, .str q.2.1, .ref b]) ∧ H b = some (.lst ws) ∧ PySem.W.EachIs (SumP H) ws q.2.2
theorem pieceL_s {H H' : Hp} (e : Same H H') {v : V} {q : Pk} (h : PieceL H v q) : PieceL H' v q := by
  obtain ⟨a, b, ws, h1, h2, h3, h4⟩ := h
  exact ⟨a, b, ws, h1, e _ _ h2, e _ _ h3, eachs_imp (fun _ _ => sumT_s (TupS.of e)) h4⟩
structure LwU (H : Hp) (PL T : Addr) (xs : List V) (md : List (Key × V)) (qs : List Pk) (ms : MsT) : Prop where
  pl : H PL = some (.lst xs)
  each : PySem.W.EachIs (PieceL H) xs qs
  td : H T = some (.dK md)
  mds : PySem.W.EachIs (MdR H) md ms
theorem LwU.same {H H' : Hp} {PL T : Addr} {xs : List V} {md : List (Key × V)} {qs : List Pk} {ms : MsT} (h : LwU H PL T xs md qs ms) (e : Same H H') : LwU H' PL T xs md qs ms :=
  ⟨e _ _ h.pl, eachs_imp (fun _ _ => pieceL_s e) h.each, e _ _ h.td, eachs_imp (fun _ _ => mdR_s (TupS.of e)) h.mds⟩
/-- pieces with names that are told apart, of few words -/
structure LwQ (qs : List Pk) : Prop where
  nod : (qs.map (·.1)).Nodup
  few : qs.length ≤ 20
  nm : ∀ q ∈ qs, ∀ w ∈ q.2.2, (∀ u ∈ w.2.map (·.1), NmU u) ∧ w.2.length ≤ 100
  wd : ∀ q ∈ qs, q.2.2.length ≤ 100
def spDist : Sp := fun vs H Q _ => ∃ (PL T RL : Addr) (xs : List V) (md : List (Key × V)) (qs : List Pk) (ms : MsT) (rs : List Str), vs = [.ref PL, .ref T, .ref RL] ∧ LwU H PL T xs md qs ms ∧ H RL = some (.lst (rs.map V.str)) ∧ LwQ qs ∧ RtOk qs ms rs ∧
  ∀ D ds H', Same H H' → H D = none → H' D = some (.dK (dsK ds)) → DsF qs ms (rootsOf ms rs) ds → Q (.ref D) H'
abbrev sDist : Stmt := topS 48
abbrev NDi : List Str := ["pieces", "told", "roots", "found", "turn", "p", "kind", "words", "word", "q", "name"]
theorem scDist : FnScope NDi ["pieces", "told", "roots"] (defScope sDist) := ⟨rfl, rfl, rfl, by decide +kernel, rfl, by decide +kernel, by decide +kernel⟩
abbrev dI (i : Nat) : Stmt := (defBody sDist).getD i (.Pass ⟨0, 0, 0, 0⟩)
abbrev XDi (P : Program) (w : World) (K : PySem.W.Frag) (mg : Str → Option Value) (base : Heap) (f : Addr) (cdv : Value) (A : Around) (outer : List Env) (s : Shared) (H : Hp) (E : XK) : Cx := (cxOf CX0 P w K mg base NDi "_law_distances" (defScope sDist) f cdv A outer s H E).nox
abbrev sgD (PL T RL : Addr) (o3 o4 o5 o6 o7 o8 o9 : Option V) : L2.St := [some (.ref PL), some (.ref T), some (.ref RL), o3, o4, o5, o6, o7, o8, o9, none]
section
variable {P : Program} {w : World} {K : PySem.W.Frag} {mg : Str → Option Value} {base : Heap} {f : Addr} {cdv : Value} {A : Around} {outer : List Env} {s : Shared} {H0 : Hp} {E : XK}
theorem di0 (T : Bi mg) (hr : Room 1 (XDi P w K mg base f cdv A outer s H0 E).A) : ∃ t, PS (XDi P w K mg base f cdv A outer s H0 E) (dI 0) t ∧ ∀ (D : Ends) (H : Hp) (PL T RL : Addr) (md : List (Key × V)) (ms : MsT) (rs : List Str), H T = some (.dK md) → PySem.W.EachIs (MdR H) md ms → H RL = some (.lst (rs.map V.str)) → rs.length ≤ 100 → (∀ r ∈ rs, (tgt ms r).isSome = true) →
      (∀ H' F ds, Same H H' → H F = none → H' F = some (.dK (dsK ds)) → (ds.map (·.1)).Nodup → (∀ e ∈ ds, e.2 = 0) → (∀ p, p ∈ ds.map (·.1) ↔ p ∈ rootsOf ms rs) → D.nx (sgD PL T RL (some (.ref F)) none none none none none none) H') → t D (sgD PL T RL none none none none none none none) H := by
  have hu := hu_of hr
  refine ⟨_, (ps_set (i := 3) scDist.nd rfl (.inl rfl) (pe_callTy (cr_dictP rfl) (by rfl) T.dict (by decide +kernel) (pa_cons (pe_lc (own := [("name", 10)]) (g := gName 10) (tt := tYes) (te := tTup (tCons (tOp (rIxT K) (tDGet (tVar 1) (tVar 10)) (tC (.int 0))) (tCons (tC (.int 0)) tNil))) rfl scDist.nd (pi_list (pv 2)) (blkOk_by (N := NDi) (sc := defScope sDist) (by decide +kernel)) (fun _ _ _ _ _ => pg_name (i := 10) scDist.nd rfl (.inl rfl)) (fun _ _ _ _ _ => pts_nil) (fun _ _ _ _ _ => (pe_tup (pa_cons (pe_ix ix_tup (pe_dget hu (pv 1) (pv 10) (fun _ _ => rfl)) pe_int (fun _ _ => rfl)) (pa_cons pe_int pa_nil))))) pa_nil))), ?_⟩
  intro D H PL T RL md ms rs hT hmd hRL few al q
  refine ⟨_, rfl, RL, rfl, ⟨_, SqL.of hRL⟩, fun N hN => ?_⟩
  refine lc_it (walk_list (xs := rs.map V.str)) (fun i H1 => Same H H1 ∧ ∃ (ps : List Addr), H1 N = some (.lst (ps.map V.ref)) ∧ ps.length ≤ i ∧ PySem.W.EachIs (PrT H1) ps ((rootsOf ms (rs.take i)).map fun z => ((.inr z : Key), V.int (0 : Nat))))
    ⟨same_new hN, [], upd_same, Nat.le_refl _, .nil⟩ (fun i H1 _ ⟨s1, _⟩ => SqL.of (s1 _ _ hRL)) ?_ ?_
  · rintro i y H1' H1 hi ⟨s1, ps, hN1, lps, hps⟩ ⟨rfl, hy⟩
    rw [List.length_map] at hi
    have hr1 := List.getElem?_eq_getElem hi
    generalize rs[i] = r at hr1
    obtain rfl : y = .str r := by
      rw [List.getElem?_map, hr1] at hy
      exact (Option.some.inj hy).symm
    have isr := al r (List.mem_of_getElem? hr1)
    rcases md_look (z := r) (eachs_imp (fun _ _ => mdR_s (TupS.of s1)) hmd) with ⟨_, e2⟩ | ⟨m, t0, e1, e2, ht0⟩
    · unfold tgt at isr
      rw [e2] at isr
      cases isr
    · have et : tgt ms r = some m.2.1 := by unfold tgt; rw [e1]; rfl
      have ek : rootsOf ms (rs.take (i + 1)) = rootsOf ms (rs.take i) ++ [m.2.1] := by
        unfold rootsOf
        rw [List.take_add_one, hr1, List.filterMap_append]
        simp [et]
      refine ⟨rfl, yes_go (iteT ?_)⟩
      have gd : DGet H1 T (.str r) (some (.ref t0)) := by
        have := DGet.k (k := .inr r) (s1 _ _ hT)
        rw [e2] at this
        exact this
      refine ⟨_, rfl, _, rfl, T, _, rfl, gd, t0, _, _, _, rfl, rfl, SqT.of ht0, at_of (i := 0) rfl, (by show 2 ≤ sizeLine; decide), fun u hu' => ?_⟩
      have ku := same_new (o := .tup [.str m.2.1, .int 0]) hu'
      have gu : upd H1 u (.tup [.str m.2.1, .int 0]) u = some (.tup [.str m.2.1, .int 0]) := upd_same
      generalize upd H1 u (.tup [.str m.2.1, .int 0]) = H3 at ku gu ⊢
      have hN3 := ku _ _ hN1
      have tsN : TupS H3 (upd H3 N (.lst (ps.map V.ref ++ [V.ref u]))) := TupS.put hN3 (by intro xs z; cases z)
      refine ⟨ps.map V.ref, hN3, small1000 (by rw [List.length_map]; omega), same_upd (s1.trans ku) hN, ps ++ [u], by rw [upd_same, List.map_append]; rfl, by rw [List.length_append, List.length_singleton]; omega, ?_⟩
      rw [ek, List.map_append]
      exact eachs_snoc (R := PrT _) (tsN _ _ gu) (eachs_imp (fun _ _ => prT_t ((TupS.of ku).trans tsN)) hps)
  · rintro H1 ⟨s1, ps, hN1, lps, hps⟩
    rw [List.length_map, List.take_length] at hps
    obtain ⟨ds, e1, nd, z0, mem⟩ := merge_ds (zs := rootsOf ms rs) (ds := []) (by simp) (fun e he => by cases he)
    refine ⟨N, ps, _, rfl, SqL.of hN1, pair_of hps, fun Dm hDm => ?_⟩
    have e1 : mergeK [] ((rootsOf ms rs).map fun z => ((.inr z : Key), V.int (0 : Nat))) = dsK ds := e1
    rw [e1]
    exact q _ Dm ds (s1.trans (same_new hDm)) (none_of s1 hDm) upd_same nd z0 fun p => by rw [mem p]; simp
end
end DR

namespace DR
open PySem PySem.Spec PyProof.Rows L2
/-- all but the dict F stays -/
def ButF (F : Addr) (H H' : Hp) : Prop := ∀ b o, b ≠ F → H b = some o → H' b = some o
theorem ButF.refl {F : Addr} {H : Hp} : ButF F H H := fun _ _ _ e => e
theorem ButF.put {F : Addr} {H H' : Hp} {o : HO} (h : ButF F H H') : ButF F H (upd H' F o) := fun b x hb e => by rw [upd_ne hb]; exact h b x hb e
theorem ButF.to {F : Addr} {Hs H H' : Hp} (n : Hs F = none) (s : Same Hs H) (h : ButF F H H') : Same Hs H' := fun b o e => h b o (fun z => by rw [z, n] at e; cases e) (s _ _ e)
section
variable {P : Program} {w : World} {K : PySem.W.Frag} {mg : Str → Option Value} {base : Heap} {f : Addr} {cdv : Value} {A : Around} {outer : List Env} {s : Shared} {H0 : Hp} {E : XK}
theorem di1 (T : Bi mg) (G : Has P w K mg base CX0 1 "_law_leads" ["word", "told"] spLLeads) (hr : Room 1 (XDi P w K mg base f cdv A outer s H0 E).A) : ∃ t, PS (XDi P w K mg base f cdv A outer s H0 E) (dI 1) t ∧ ∀ (D : Ends) (Hs H : Hp) (PL T RL F : Addr) (xs : List V) (md : List (Key × V)) (qs : List Pk) (ms : MsT) (rs : List Str) (ds : DsT), Same Hs H → Hs F = none → LwU Hs PL T xs md qs ms → LwQ qs → RtOk qs ms rs → H F = some (.dK (dsK ds)) → DsA qs ms (rootsOf ms rs) 0 ds →
      (∀ H' ds o4 o5 o6 o7 o8 o9, Same Hs H' → H' F = some (.dK (dsK ds)) → DsF qs ms (rootsOf ms rs) ds → D.nx (sgD PL T RL (some (.ref F)) o4 o5 o6 o7 o8 o9) H') → t D (sgD PL T RL (some (.ref F)) none none none none none none) H := by
  have hu := hu_of hr
  refine ⟨_, (ps_for PassesOwn.never rfl (pi_range1 (by rfl) T.range (pa_cons (pe_callB cr_lenV (by rfl) T.len (by decide +kernel) (pa_cons (pv 0) pa_nil)) pa_nil)) (pg_name (i := 4) scDist.nd rfl (.inl rfl)) (pss_one (ps_for PassesOwn.never rfl (pi_list (pv 0)) (pg_tup rfl (pgs_cons (pg_name (i := 5) scDist.nd rfl (.inl rfl)) (pgs_cons (pg_name (i := 6) scDist.nd rfl (.inl rfl)) (pgs_cons (pg_name (i := 7) scDist.nd rfl (.inl rfl)) pgs_nil))))
    (pss_one (ps_for PassesOwn.never rfl (pi_list (pe_ifExp (pt_cmpR op_eq (pe_dget2 hu (pv 3) (pv 5) (pe_un un_neg pe_int) ⟨rfl, rfl, rfl, rfl⟩) (pv 4) (nomark _)) (pv 7) (pe_lst pa_nil))) (pg_name (i := 8) scDist.nd rfl (.inl rfl)) (pss_one (ps_for PassesOwn.never rfl (pi_list (pe_callH G hr (by rfl) pass0 (pa_cons (pv 8) (pa_cons (pv 1) pa_nil)))) (pg_name (i := 9) scDist.nd rfl (.inl rfl))
      (pss_one (ps_dput hu (pv 3) (pv 9) (pe_dget2 hu (pv 3) (pv 9) (pe_op op_add (pv 4) pe_int) ⟨rfl, rfl, rfl, rfl⟩) rfl))))))))), ?_⟩
  intro D Hs H PL T RL F xs md qs ms rs ds sH nF lw lq ro hF A0 q
  have lx : xs.length = qs.length := lw.each.length
  have qfew := lq.few
  refine ⟨_, rfl, PL, xs, rfl, .inl (SqL.of (sH _ _ lw.pl)), ?_⟩
  refine ⟨_, rfl, by omega, by omega, ?_⟩
  have en : ((xs.length : Int)).toNat = (qs.map (·.1)).length := by rw [Int.toNat_natCast, lx, List.length_map]
  rw [en]
  refine for_it walk_range (fun t σ Hj => ∃ (ds : DsT) (o4 o5 o6 o7 o8 o9 : Option V), σ = sgD PL T RL (some (.ref F)) o4 o5 o6 o7 o8 o9 ∧ Same Hs Hj ∧ Hj F = some (.dK (dsK ds)) ∧ DsA qs ms (rootsOf ms rs) t ds)
    ⟨ds, _, _, _, _, _, _, rfl, sH, hF, A0⟩ (fun _ _ _ _ _ => trivial) ?_ ?_
  · rintro t y σ Ha Hb ht ⟨ds, o4, o5, o6, o7, o8, o9, rfl, sa, hFa, At⟩ ⟨rfl, rfl⟩
    have ez : (0 : Int) + (t : Int) = (t : Int) := by omega
    show tFor _ _ _ _ (sgD PL T RL (some (.ref F)) (some (.int (0 + (t : Int)))) o5 o6 o7 o8 o9) _
    rw [ez]
    have lwa := lw.same sa
    refine ⟨_, rfl, PL, rfl, ⟨_, SqL.of lwa.pl⟩, ?_⟩
    refine for_it (walk_list (xs := xs)) (fun i σ Hj => ∃ (ds : DsT) (o5 o6 o7 o8 o9 : Option V), σ = sgD PL T RL (some (.ref F)) (some (.int (t : Int))) o5 o6 o7 o8 o9 ∧ Same Hs Hj ∧ Hj F = some (.dK (dsK ds)) ∧ DsI qs ms (rootsOf ms rs) t (fun p' q' => p' ∈ (qs.take i).map (·.1) ∧ Ds qs ms (rootsOf ms rs) t p' ∧ Led qs ms p' q') ds)
      ⟨ds, _, _, _, _, _, rfl, sa, hFa, At.start.done fun p' q' h => by have := h.1; rw [List.take_zero] at this; cases this⟩ (fun i σ Hj _ ⟨_, _, _, _, _, _, _, sj, _⟩ => SqL.of (lw.same sj).pl) ?_ ?_
    · rintro i y σ Hj Hj' hi ⟨ds, o5, o6, o7, o8, o9, rfl, sj, hFj, I⟩ ⟨rfl, hy⟩
      obtain ⟨q1, hq1, hpc⟩ := eachs_get (lw.same sj).each hy
      obtain ⟨a, b, ws, rfl, ha, hb, hws⟩ := id hpc
      have qm := List.mem_of_getElem? hq1
      have lws : ws.length = q1.2.2.length := hws.length
      have etk : (qs.take (i + 1)).map (·.1) = (qs.take i).map (·.1) ++ [q1.1] := by rw [List.take_add_one, hq1, List.map_append]; rfl
      refine ⟨a, _, rfl, SqT.of ha, rfl, _, _, rfl, _, _, rfl, _, _, rfl, rfl, ?_⟩
      have scl : L2.scal ((valV (dsK ds) (.inr q1.1)).getD (V.int (-1))) (V.int (t : Int)) = true := by
        rcases dsK_val (z := q1.1) (ds := ds) with ⟨_, e⟩ | ⟨n, _, e⟩ <;> rw [e] <;> rfl
      refine ⟨_, rfl, F, rfl, .inl ⟨_, .inl hFj⟩, _, rfl, _, rfl, _, DGet.k (k := .inr q1.1) hFj, _, rfl, scl, _, rfl, ?_⟩
      by_cases dq : Ds qs ms (rootsOf ms rs) t q1.1
      · have ev := I.at_.mp dq
        rw [ev]
        rw [show decide ((some (V.int (t : Nat))).getD (V.int (-1)) = V.int (t : Int)) = true from decide_eq_true rfl]
        refine iteT ⟨_, rfl, b, rfl, ⟨ws, SqL.of hb⟩, ?_⟩
        refine for_it (walk_list (xs := ws)) (fun j σ Hk => ∃ (ds : DsT) (o8 o9 : Option V), σ = sgD PL T RL (some (.ref F)) (some (.int (t : Int))) (some (.str q1.1)) (some (.str q1.2.1)) (some (.ref b)) o8 o9 ∧ ButF F Hj' Hk ∧ Hk F = some (.dK (dsK ds)) ∧ DsI qs ms (rootsOf ms rs) t (fun p' q' => (p' ∈ (qs.take i).map (·.1) ∧ Ds qs ms (rootsOf ms rs) t p' ∧ Led qs ms p' q') ∨ (p' = q1.1 ∧ ∃ (k : Nat) (w' : Int × Mul), k < j ∧ q1.2.2[k]? = some w' ∧ q' ∈ ledW ms w')) ds)
          ⟨ds, _, _, rfl, .refl, hFj, I.done fun p' q' h => h.elim .inl fun ⟨_, k, _, h, _⟩ => absurd h (Nat.not_lt_zero _)⟩ (fun j σ Hk _ ⟨_, _, _, _, k, _⟩ => SqL.of (k _ _ (fun z => by rw [z, hFj] at hb; cases hb) hb)) ?_ ?_
        · rintro j u Hσ Hk Hk' hj ⟨ds, o8, o9, rfl, kk, hFk, I⟩ ⟨rfl, hu'⟩
          obtain ⟨w1, hw1, hsum⟩ := eachs_get hws hu'
          have tsk : TupS Hj' Hk' := fun b xs e => kk b _ (fun z => by rw [z, hFj] at e; cases e) e
          have sk := ButF.to nF sj kk
          have lwk := lw.same sk
          obtain ⟨nmw, lw100⟩ := lq.nm q1 qm w1 (List.mem_of_getElem? hw1)
          refine ⟨_, rfl, _, rfl, u, T, w1, md, ms, rfl, sumT_s tsk hsum, nmw, lw100, lwk.td, lwk.mds, fun l H6 s6 nl hl => ⟨l, rfl, ⟨_, SqL.of hl⟩, ?_⟩⟩
          have lF : l ≠ F := fun z => by rw [z, hFk] at nl; cases nl
          refine for_it (walk_list (xs := (ledW ms w1).map V.str)) (fun k σ Hm => ∃ (ds : DsT) (o9 : Option V), σ = sgD PL T RL (some (.ref F)) (some (.int (t : Int))) (some (.str q1.1)) (some (.str q1.2.1)) (some (.ref b)) (some u) o9 ∧ ButF F H6 Hm ∧ Hm F = some (.dK (dsK ds)) ∧ DsI qs ms (rootsOf ms rs) t (fun p' q' => ((p' ∈ (qs.take i).map (·.1) ∧ Ds qs ms (rootsOf ms rs) t p' ∧ Led qs ms p' q') ∨ (p' = q1.1 ∧ ∃ (k : Nat) (w' : Int × Mul), k < j ∧ q1.2.2[k]? = some w' ∧ q' ∈ ledW ms w')) ∨ (p' = q1.1 ∧ q' ∈ (ledW ms w1).take k)) ds)
            ⟨ds, _, rfl, .refl, s6 _ _ hFk, I.done fun p' q' h => h.elim .inl fun ⟨_, h⟩ => by rw [List.take_zero] at h; cases h⟩ (fun k σ Hm _ ⟨_, _, _, km, _⟩ => SqL.of (km _ _ lF hl)) ?_ ?_
          · rintro k y σ Hm Hm' hk ⟨ds, o9, rfl, km, hFm, I⟩ ⟨rfl, hy⟩
            rw [List.length_map] at hk
            have hz := List.getElem?_eq_getElem hk
            generalize (ledW ms w1)[k] = z at hz
            obtain rfl : y = .str z := by
              rw [List.getElem?_map, hz] at hy
              exact (Option.some.inj hy).symm
            have zt : (ledW ms w1).take (k + 1) = (ledW ms w1).take k ++ [z] := by rw [List.take_add_one, hz]; rfl
            have lds : ds.length ≤ 20 := by
              have := sub_len (ds.map (·.1)) (qs.map (·.1)) I.nod fun z hz => ro.am.rt (I.top z hz)
              rw [List.length_map, List.length_map] at this
              omega
            have ll : (dsK ds).length ≤ 20 := by unfold dsK; rw [List.length_map]; exact lds
            refine ⟨_, rfl, F, rfl, .inl ⟨_, .inl hFm⟩, _, rfl, _, rfl, _, _, rfl, rfl, _, DGet.k (k := .inr z) hFm, _, rfl, _, rfl, F, _, rfl, DPut.k (k := .inr z) hFm (small1000 (by omega)), ?_⟩
            rcases dsK_val (z := z) (ds := ds) with ⟨zn, ev⟩ | ⟨n, zm, ev⟩
            · rw [ev]
              have ep : putK (dsK ds) (.inr z) ((none : Option V).getD (V.int ((t : Int) + 1))) = dsK (ds ++ [(z, t + 1)]) := by
                rw [← dsK_put zn]
                rfl
              refine ⟨ds ++ [(z, t + 1)], _, rfl, km.put, ?_, I.add dq ⟨j, w1, by rw [home_of lq.nod qm]; exact hw1, List.mem_of_getElem? hz⟩ zn fun p' q' h => ?_⟩
              · rw [upd_same]
                exact congrArg (fun z => some (HO.dK z)) ep
              · rcases h with h | ⟨h1, h2⟩
                · exact .inl (.inl h)
                · rw [zt] at h2
                  rcases List.mem_append.mp h2 with h2 | h2
                  · exact .inl (.inr ⟨h1, h2⟩)
                  · exact .inr (List.mem_singleton.mp h2)
            · rw [ev]
              have ep : putK (dsK ds) (.inr z) ((some (V.int (n : Nat))).getD (V.int ((t : Int) + 1))) = dsK ds := dsK_same I.nod zm
              refine ⟨ds, _, rfl, km.put, ?_, I.done fun p' q' h => ?_⟩
              · rw [upd_same]
                exact congrArg (fun z => some (HO.dK z)) ep
              · rcases h with h | ⟨h1, h2⟩
                · exact .inl (.inl h)
                · rw [zt] at h2
                  rcases List.mem_append.mp h2 with h2 | h2
                  · exact .inl (.inr ⟨h1, h2⟩)
                  · rw [List.mem_singleton.mp h2]
                    exact .inr (List.mem_map.mpr ⟨_, zm, rfl⟩)
          · rintro σ Hm ⟨ds, o9, rfl, km, hFm, I⟩
            rw [List.length_map, List.take_length] at I
            refine ⟨ds, _, _, rfl, fun b' o hb' e => km _ _ hb' (s6 _ _ (kk _ _ hb' e)), hFm, I.done fun p' q' h => ?_⟩
            rcases h with h | ⟨h1, k, w', h2, h3, h4⟩
            · exact .inl (.inl (.inl h))
            · rcases Nat.lt_or_eq_of_le (Nat.le_of_lt_succ h2) with lt | rfl
              · exact .inl (.inl (.inr ⟨h1, k, w', lt, h3, h4⟩))
              · rw [hw1] at h3
                obtain rfl := Option.some.inj h3
                exact .inl (.inr ⟨h1, h4⟩)
        · rintro σ Hk ⟨ds, o8, o9, rfl, kk, hFk, I⟩
          refine ⟨ds, _, _, _, _, _, rfl, ButF.to nF sj kk, hFk, I.done fun p' q' h => ?_⟩
          obtain ⟨h1, h2, h3⟩ := h
          rw [etk] at h1
          rcases List.mem_append.mp h1 with h1 | h1
          · exact .inl (.inl ⟨h1, h2, h3⟩)
          · obtain rfl : p' = q1.1 := List.mem_singleton.mp h1
            obtain ⟨k, w', g1, g2⟩ := h3
            rw [home_of lq.nod qm] at g1
            have := (List.getElem?_eq_some_iff.mp g1).1
            exact .inl (.inr ⟨rfl, k, w', by omega, g1, g2⟩)
      · have ev : ¬ valV (dsK ds) (.inr q1.1) = some (.int (t : Nat)) := fun e => dq (I.at_.mpr e)
        have e2 : decide ((valV (dsK ds) (.inr q1.1)).getD (V.int (-1)) = V.int (t : Int)) = false := by
          refine decide_eq_false fun e => ?_
          cases e3 : valV (dsK ds) (.inr q1.1) with
          | none =>
            rw [e3] at e
            have : (-1 : Int) = (t : Int) := by injection e
            omega
          | some u =>
            rw [e3] at e
            have e : u = V.int (t : Int) := e
            exact ev (by rw [e3, e])
        rw [e2]
        refine iteF ⟨(by show 0 ≤ sizeLine; decide), fun l nl => ⟨l, rfl, ⟨[], SqL.of upd_same⟩, ?_⟩⟩
        have kl := same_new (o := .lst []) nl
        refine for_it (walk_list (xs := [])) (fun _ σ Hk => σ = sgD PL T RL (some (.ref F)) (some (.int (t : Int))) (some (.str q1.1)) (some (.str q1.2.1)) (some (.ref b)) o8 o9 ∧ Hk = upd Hj' l (.lst []))
          ⟨rfl, rfl⟩ (fun i σ Hk _ ⟨_, e⟩ => by rw [e]; exact SqL.of upd_same) (fun i x σ H4 H5 hi => absurd hi (Nat.not_lt_zero _)) ?_
        rintro σ Hk ⟨rfl, rfl⟩
        refine ⟨ds, _, _, _, _, _, rfl, sj.trans kl, kl _ _ hFj, I.done fun p' q' h => ?_⟩
        obtain ⟨h1, h2, h3⟩ := h
        rw [etk] at h1
        rcases List.mem_append.mp h1 with h1 | h1
        · exact .inl ⟨h1, h2, h3⟩
        · rw [List.mem_singleton.mp h1] at h2
          exact absurd h2 dq
    · rintro σ Hj ⟨ds, o5, o6, o7, o8, o9, rfl, sj, hFj, I⟩
      rw [lx, List.take_length] at I
      refine ⟨ds, _, _, _, _, _, _, rfl, sj, hFj, I.next fun p' q' d l => ⟨ro.am.rt d.1, d, l⟩⟩
  · rintro σ Ha ⟨ds, o4, o5, o6, o7, o8, o9, rfl, sa, hFa, At⟩
    exact q Ha ds _ _ _ _ _ _ sa hFa (At.all ro.am)
end
end DR

namespace DR
open PySem PySem.Spec PyProof.Rows L2
section
variable {P : Program} {w : World} {K : PySem.W.Frag} {mg : Str → Option Value} {base : Heap}
theorem ok_dist {f : Addr} {fd : FuncData} (F : Fun K "_law_distances" "_law_distances" sDist f fd) (T : Bi mg) (G : Has P w K mg base CX0 1 "_law_leads" ["word", "told"] spLLeads) : FnOk P w K mg base CX0 2 f fd ["pieces", "told", "roots"] spDist := by
  refine F.ok scDist (fun vs H Q E h => ?_) (fun cdv A outer s H vs Q E hr h => ?_)
  · obtain ⟨PL, T0, RL, xs, md, qs, ms, rs, rfl, _⟩ := h
    rfl
  · obtain ⟨PL, T0, RL, xs, md, qs, ms, rs, rfl, lw, hRL, lq, ro, q⟩ := h
    obtain ⟨t0, h0, q0⟩ := di0 (f := f) (cdv := cdv) (A := A) (outer := outer) (s := s) (H0 := H) (E := E) (K := K) (P := P) (w := w) (base := base) T hr
    obtain ⟨t1, h1, q1⟩ := di1 (f := f) (cdv := cdv) (A := A) (outer := outer) (s := s) (H0 := H) (E := E) T G hr
    refine ⟨_, pss_cons h0 (pss_cons h1 (pss_one (ps_ret (pv 3)))), ?_⟩
    refine q0 _ H PL T0 RL md ms rs lw.td lw.mds hRL ro.few ro.told fun H1 F0 ds s1 nF hF nd z0 mem => ?_
    have A0 : DsA qs ms (rootsOf ms rs) 0 ds := ⟨nd, fun e he => by
      rw [z0 e he]
      exact ⟨(mem e.1).mp (List.mem_map.mpr ⟨e, he, rfl⟩), fun j hj => absurd hj (Nat.not_lt_zero _)⟩, mem⟩
    refine q1 _ H H1 PL T0 RL F0 xs md qs ms rs ds s1 nF lw lq ro hF A0 fun H2 ds2 o4 o5 o6 o7 o8 o9 s2 hF2 fin => ?_
    exact ⟨_, rfl, q F0 ds2 H2 s2 nF hF2 fin⟩
end
end DR

namespace DR
open PySem PySem.Spec PyProof.Rows L2
/-! ### _law_met -/
abbrev sMet : Stmt := topS 46
theorem scMet : FnScope ["ask", "e"] ["ask"] (defScope sMet) := ⟨rfl, rfl, rfl, by decide +kernel, rfl, by decide +kernel, by decide +kernel⟩
def Met1 (z : Str) (v : V) (H : Hp) (Q : VK) : Prop := ∀ p, H p = none → Q (.ref p) (upd H p (.tup [.str z, v]))
/-- what the errors come to -/
inductive MetE (CN CP : Addr) (Q : VK) : Value → Option Addr → Hp → Prop
  | name {dd : Addr} {v : V} {H : Hp} : H dd = some (.xd [("name", v)]) → Met1 "name" v H Q → MetE CN CP Q (.ref CN) (some dd) H
  | piece {dd : Addr} {v : V} {H : Hp} : H dd = some (.xd [("p", v)]) → Met1 "piece" v H Q → MetE CN CP Q (.ref CP) (some dd) H
def TMet (CN CP : Addr) : (XK → Hp → VK → Prop) → Hp → VK → Prop := fun tl H Q => tl (MetE CN CP Q) H fun v H1 => 2 ≤ sizeLine ∧ ∀ p, H1 p = none → Q (.ref p) (upd H1 p (.tup [.str "told", v]))
theorem takes_len {X : Cx} {W W' : WX} (tk : Takes X W) (h : ∀ cls d σ H, σ.length = X.N.length → W' cls d σ H → W cls d σ H) : Takes X W' := fun u s' x => by
  obtain ⟨a, B, sI, pins, σ, H, cls, d, e, I, r1, r2, r3, r4, r5, r6, w⟩ := x
  exact tk u s' ⟨a, B, sI, pins, σ, H, cls, d, e, I, r1, r2, r3, r4, r5, r6, h cls d σ H I.len w⟩
theorem set_one {σ : L2.St} {v : V} (h : σ.length = 2) : (σ.set 1 (some v))[1]? = some (some v) := by
  rw [List.getElem?_set_self (by omega)]
structure ErrM (K : PySem.W.Frag) (mg : Str → Option Value) (CN CP : Addr) : Prop where
  mN : mg "NoName" = some (.ref CN)
  mP : mg "NoPiece" = some (.ref CP)
  tN : PySem.W.exmOne K (.ref CN) (.ref CN) = some true
  tP : PySem.W.exmOne K (.ref CP) (.ref CP) = some true
  oPN : PySem.W.exmOne K (.ref CP) (.ref CN) = some false
  xN : XfC K CN
  xP : XfC K CP
  nN : PySem.W.findIn K (.ref CN) "name" = some none
  nP : PySem.W.findIn K (.ref CP) "p" = some none
theorem met_gives {X : Cx} {g CN CP : Addr} {cdg : Value} {q : Str} (M : ErrM X.K X.mg CN CP) :
    LamX.GivesTo X ["ask", "e"] "_law_met" (defScope sMet) g cdg (defBody sMet) "ask" q (TMet CN CP) := by
  intro f c' s H Q tl act hc h
  refine ⟨_, pss_one (ps_tryN (X := (cxOf CX0 X.prog X.w X.K X.mg X.base ["ask", "e"] "_law_met" (defScope sMet) g cdg X.A X.stack s H E0).nox) (out := fun _ _ _ _ => False)
      (tb := fun W D σ H => ∃ Ech : XK, (∀ cls d σ' H', σ'.length = 2 → Ech cls d H' → W cls d σ' H') ∧ σ[0]? = some (some (.ref f)) ∧ H c' = some (LamX.CodeO c' q) ∧ tl Ech H fun v H1 => 2 ≤ sizeLine ∧ ∀ p, H1 p = none → D.rt (.ref p) (upd H1 p (.tup [.str "told", v])))
      rfl rfl scMet.nd LamX.takes0 (fun W pn xe tk _ => ?_)
      (.more (i := 1) (c := .ref CN) rfl rfl ⟨rfl, by decide, .inl M.mN⟩ (fun e oe cls d pn hz hf => pss_one (ps_ret (pe_tup (pa_cons pe_str (pa_cons (by exact pe_xf M.xN M.nN hz hf (pv 1)) pa_nil)))))
        (.more (i := 1) (c := .ref CP) rfl rfl ⟨rfl, by decide, .inl M.mP⟩ (fun e oe cls d pn hz hf => pss_one (ps_ret (pe_tup (pa_cons pe_str (pa_cons (by exact pe_xf M.xP M.nP hz hf (pv 1)) pa_nil))))) .none))), ?_⟩
  · refine ⟨fun pins s' σ H' D I h' => ?_⟩
    obtain ⟨Ech, hW, h1, h2, h3⟩ := h'
    exact (pss_one (ps_ret (pe_tup (pa_cons pe_str (pa_cons (act (fun cls d _ H => Ech cls d H) pn xe Ech _ _ (takes_len tk fun cls d σ H hl h => hW cls d σ H hl h) (fun _ _ _ _ h => h)) pa_nil))))).run pins s' σ H' D I ⟨h1, h2, h3⟩
  · refine ⟨MetE CN CP Q, fun cls d σ' H' hl hm => ?_, rfl, hc, h⟩
    cases hm with
    | @name dd v _ hd k =>
      refine ⟨true, M.tN, fun _ e he => ?_, fun z => Bool.noConfusion z⟩
      exact ⟨_, set_one hl, rfl, rfl, dd, _, v, rfl, hd, by simp [List.lookup], (by show 2 ≤ sizeLine; decide), k⟩
    | @piece dd v _ hd k =>
      refine ⟨false, M.oPN, fun z => Bool.noConfusion z, fun _ => ⟨true, M.tP, fun _ e he => ?_, fun z => Bool.noConfusion z⟩⟩
      exact ⟨_, set_one hl, rfl, rfl, dd, _, v, rfl, hd, by simp [List.lookup], (by show 2 ≤ sizeLine; decide), k⟩
/-- what is known of _law_met and the errors -/
structure Met (K : PySem.W.Frag) (mg : Str → Option Value) (CN CP : Addr) : Prop where
  ex : ∃ (g : Addr) (fd : FuncData), mg "_law_met" = some (.ref g) ∧ Fun K "_law_met" "_law_met" sMet g fd
  er : ErrM K mg CN CP
theorem pe_met {X : Cx} {T : List (Addr × Str)} {CN CP c P : Addr} {k : Nat} {params : Arguments} {body : Expr} {scope : Scope} {t : XK → TE} {p lpos pos : Pos} (M : Met X.K X.mg CN CP) (hg : Gl X "_law_met")
    (TB : LamX.TabB X.base X.mg c P) (hcode : X.env.code = .ref c) (hmT : (P, X.env.qual ++ "<lambda>") ∈ T) (hu : ∀ p ∈ T, p.1 = P → p.2 = X.env.qual ++ "<lambda>") (hr : Room (k + 2) X.A) (L : LamX.LamS X.env.scope scope) (hdef : defaultsOf params X.env = ([], []))
    (hbind : ∀ (q : Str) (cl : List (Str × Addr)) (pm cv ctv : Value), bindArgs (PySem.W.kla_fn "<lambda>" q params body scope cl pm cv ctv) ⟨[], []⟩ = pure [])
    (hbody : ∀ (A : Around) (outer : List Env) (s : Shared) (H : Hp) (E : XK) (f c' : Addr), Room k (A.deeper (LamX.lamEnv X scope s.heap.objs.size f c')) → PE (LamX.lamCx X A outer s H E scope f c') body (t E)) :
    PE X (.Call (.Name "_law_met" p) [.Lambda params body scope lpos] [] pos) (LamX.tLam T (TMet CN CP) t) := by
  obtain ⟨g, fd, hm, F⟩ := M.ex
  have hb := F.binds (ps := ["ask"]) fun _ _ _ _ _ _ us hl => match us, hl with | [_], _ => rfl
  obtain ⟨oc, od, kV, doc, pm, an, cdv, ct, osl, rfl, lk, hcd⟩ := F.ex
  exact LamX.pe_lamcall hg hm F.kp lk hcd hb scMet rfl (.inl rfl) (met_gives M.er) TB hcode hmT hu hr L hdef hbind hbody
end DR

namespace DR
open PySem PySem.Spec PyProof.Rows L2
/-! ### the errors' __init__ -/
abbrev sIniB : Stmt := inClass (topS 3) 0
abbrev sIniT : Stmt := inClass (topS 6) 0
abbrev sIniP : Stmt := inClass (topS 7) 0
abbrev sIniN : Stmt := inClass (topS 8) 0
abbrev sIniW : Stmt := inClass (topS 4) 0
theorem scIniB : FnScope ["self", "index"] ["self", "index"] (defScope sIniB) := ⟨rfl, rfl, rfl, by decide +kernel, rfl, by decide +kernel, by decide +kernel⟩
theorem scIniT : FnScope ["self", "name"] ["self", "name"] (defScope sIniT) := ⟨rfl, rfl, rfl, by decide +kernel, rfl, by decide +kernel, by decide +kernel⟩
theorem scIniP : FnScope ["self", "p"] ["self", "p"] (defScope sIniP) := ⟨rfl, rfl, rfl, by decide +kernel, rfl, by decide +kernel, by decide +kernel⟩
theorem scIniN : FnScope ["self", "name"] ["self", "name"] (defScope sIniN) := ⟨rfl, rfl, rfl, by decide +kernel, rfl, by decide +kernel, by decide +kernel⟩
theorem scIniW : FnScope ["self", "p", "k"] ["self", "p", "k"] (defScope sIniW) := ⟨rfl, rfl, rfl, by decide +kernel, rfl, by decide +kernel, by decide +kernel⟩
section
variable {P : Program} {w : World} {K : PySem.W.Frag} {mg : Str → Option Value} {base : Heap}
theorem ok_iniB {f C : Addr} {fd : FuncData} (F : Fun K "__init__" "BadPiece.__init__" sIniB f fd) (T : OexC K C) (no : PySem.W.findIn K (.ref C) "index" = some none) : FnOk P w K mg base CX0 1 f fd ["self", "index"] (spErrInit K C "index") := by
  refine F.ok scIniB (fun vs H Q E h => ?_) (fun cdv A outer s H vs Q E hr h => ?_)
  · obtain ⟨a, y, rfl, _⟩ := h
    rfl
  · obtain ⟨a, y, rfl, ha, q⟩ := h
    exact ⟨_, pss_one (ps_ost (pv 0) (pv 1)), _, rfl, _, rfl, a, C, rfl, T, no, .inl ⟨ha, q⟩⟩
theorem ok_iniT {f C : Addr} {fd : FuncData} (F : Fun K "__init__" "BadTold.__init__" sIniT f fd) (T : OexC K C) (no : PySem.W.findIn K (.ref C) "name" = some none) : FnOk P w K mg base CX0 1 f fd ["self", "name"] (spErrInit K C "name") := by
  refine F.ok scIniT (fun vs H Q E h => ?_) (fun cdv A outer s H vs Q E hr h => ?_)
  · obtain ⟨a, y, rfl, _⟩ := h
    rfl
  · obtain ⟨a, y, rfl, ha, q⟩ := h
    exact ⟨_, pss_one (ps_ost (pv 0) (pv 1)), _, rfl, _, rfl, a, C, rfl, T, no, .inl ⟨ha, q⟩⟩
theorem ok_iniP {f C : Addr} {fd : FuncData} (F : Fun K "__init__" "NoPiece.__init__" sIniP f fd) (T : OexC K C) (no : PySem.W.findIn K (.ref C) "p" = some none) : FnOk P w K mg base CX0 1 f fd ["self", "p"] (spErrInit K C "p") := by
  refine F.ok scIniP (fun vs H Q E h => ?_) (fun cdv A outer s H vs Q E hr h => ?_)
  · obtain ⟨a, y, rfl, _⟩ := h
    rfl
  · obtain ⟨a, y, rfl, ha, q⟩ := h
    exact ⟨_, pss_one (ps_ost (pv 0) (pv 1)), _, rfl, _, rfl, a, C, rfl, T, no, .inl ⟨ha, q⟩⟩
theorem ok_iniN {f C : Addr} {fd : FuncData} (F : Fun K "__init__" "NoName.__init__" sIniN f fd) (T : OexC K C) (no : PySem.W.findIn K (.ref C) "name" = some none) : FnOk P w K mg base CX0 1 f fd ["self", "name"] (spErrInit K C "name") := by
  refine F.ok scIniN (fun vs H Q E h => ?_) (fun cdv A outer s H vs Q E hr h => ?_)
  · obtain ⟨a, y, rfl, _⟩ := h
    rfl
  · obtain ⟨a, y, rfl, ha, q⟩ := h
    exact ⟨_, pss_one (ps_ost (pv 0) (pv 1)), _, rfl, _, rfl, a, C, rfl, T, no, .inl ⟨ha, q⟩⟩
theorem ok_iniW {f C : Addr} {fd : FuncData} (F : Fun K "__init__" "BadWord.__init__" sIniW f fd) (T : OexC K C) (no : PySem.W.findIn K (.ref C) "p" = some none) (no2 : PySem.W.findIn K (.ref C) "k" = some none) : FnOk P w K mg base CX0 1 f fd ["self", "p", "k"] (spErrInit2 K C "p" "k") := by
  refine F.ok scIniW (fun vs H Q E h => ?_) (fun cdv A outer s H vs Q E hr h => ?_)
  · obtain ⟨a, y, z, rfl, _⟩ := h
    rfl
  · obtain ⟨a, y, z, rfl, ha, q⟩ := h
    refine ⟨_, pss_one (ps_asg (pe_tup (pa_cons (pv 1) (pa_cons (pv 2) pa_nil))) (pg_tup rfl (pgs_cons (pg_ost (pv 0)) (pgs_cons (pg_ost (pv 0)) pgs_nil)))), ?_⟩
    refine ⟨_, rfl, _, rfl, (by show 2 ≤ sizeLine; decide), fun tp htp => ?_⟩
    have ha1 : upd H tp (.tup [y, z]) a = some (exo a C none) := (same_new htp) _ _ ha
    refine ⟨tp, _, rfl, SqT.of upd_same, rfl, _, _, rfl, _, rfl, a, C, rfl, T, no, .inl ⟨ha1, fun dx hdx hne => ?_⟩⟩
    refine ⟨_, _, rfl, _, rfl, a, C, rfl, T, no2, .inr ⟨dx, [("p", y)], upd_same, by rw [upd_ne hne, upd_same], (by show 1 ≤ 900; decide), rfl, q tp dx htp hdx hne⟩⟩
end
end DR

namespace DR
open PySem PySem.Spec PyProof.Rows L2
/-! ### _law_way_right -/
def HomR (H : Hp) (kv : Key × V) (q : Pk) : Prop := kv.1 = .inr q.1 ∧ ∃ b ws, kv.2 = .ref b ∧ H b = some (.lst ws) ∧ PySem.W.EachIs (SumP H) ws q.2.2
theorem homR_s {H H' : Hp} (e : Same H H') {kv : Key × V} {q : Pk} (h : HomR H kv q) : HomR H' kv q := by
  obtain ⟨h1, b, ws, h2, h3, h4⟩ := h
  exact ⟨h1, b, ws, h2, e _ _ h3, eachs_imp (fun _ _ => sumT_s (TupS.of e)) h4⟩
def spWayR (K : PySem.W.Frag) : Sp := fun vs H Q _ => ∃ (PL T RL l : Addr) (p : Str) (xs vw : List V) (md : List (Key × V)) (qs : List Pk) (ms : MsT) (rs : List Str) (way : List (Str × Nat)), vs = [.ref PL, .ref T, .ref RL, .str p, .ref l] ∧ LwU H PL T xs md qs ms ∧ H RL = some (.lst (rs.map V.str)) ∧ LwQ qs ∧ RtOk qs ms rs ∧ H l = some (.lst vw) ∧ PySem.W.EachIs (AdY H) vw way ∧ way.length ≤ 100 ∧ VW qs ms (rootsOf ms rs) way p ∧ ∀ H', Same H H' → Q (.bl true) H'
abbrev sWayR : Stmt := topS 49
abbrev NWr : List Str := ["pieces", "told", "roots", "p", "way", "here", "homes", "address", "name", "q", "kind", "words", "one"]
theorem scWayR : FnScope NWr ["pieces", "told", "roots", "p", "way"] (defScope sWayR) := ⟨rfl, rfl, rfl, by decide +kernel, rfl, by decide +kernel, by decide +kernel⟩
abbrev rB (i : Nat) : Stmt := (defBody sWayR).getD i (.Pass ⟨0, 0, 0, 0⟩)
abbrev XWr (P : Program) (w : World) (K : PySem.W.Frag) (mg : Str → Option Value) (base : Heap) (f : Addr) (cdv : Value) (A : Around) (outer : List Env) (s : Shared) (H : Hp) (E : XK) : Cx := (cxOf CX0 P w K mg base NWr "_law_way_right" (defScope sWayR) f cdv A outer s H E).nox
abbrev sgR (PL T RL l : Addr) (p : Str) (o5 o6 o7 : Option V) : L2.St := [some (.ref PL), some (.ref T), some (.ref RL), some (.str p), some (.ref l), o5, o6, o7, none, none, none, none, none]
section
variable {P : Program} {w : World} {K : PySem.W.Frag} {mg : Str → Option Value} {base : Heap} {f : Addr} {cdv : Value} {A : Around} {outer : List Env} {s : Shared} {H0 : Hp} {E : XK}
theorem wr_0 (hr : Room 2 (XWr P w K mg base f cdv A outer s H0 E).A) : ∃ t, PS (XWr P w K mg base f cdv A outer s H0 E) (rB 0) t ∧ ∀ (D : Ends) (H : Hp) (PL T RL l : Addr) (p : Str) (md : List (Key × V)) (ms : MsT) (rs : List Str), H T = some (.dK md) → PySem.W.EachIs (MdR H) md ms → H RL = some (.lst (rs.map V.str)) → rs.length ≤ 100 → (∀ r ∈ rs, (tgt ms r).isSome = true) →
      (∀ H' hl, Same H H' → H' hl = some (.lst ((rootsOf ms rs).map V.str)) → D.nx (sgR PL T RL l p (some (.ref hl)) none none) H') → t D (sgR PL T RL l p none none none) H := by
  have hu := hu_of hr
  refine ⟨_, (ps_setLc (i := 5) (own := [("name", 8)]) (g := gName 8) (tt := tYes) (te := tOp (rIxT K) (tDGet (tVar 1) (tVar 8)) (tC (.int 0))) rfl scWayR.nd rfl rfl (sw_true rfl rfl rfl (by decide +kernel)) (pi_list (pv 2)) (blkOk_by (N := NWr) (sc := defScope sWayR) (by decide +kernel)) (fun _ _ _ _ _ => pg_name (i := 8) scWayR.nd rfl (.inl rfl)) (fun _ _ _ _ _ => pts_nil) (fun _ _ _ _ _ => pe_ix ix_tup (pe_dget hu (pv 1) (pv 8) (fun _ _ => rfl)) pe_int (fun _ _ => rfl))), ?_⟩
  intro D H PL T RL l p md ms rs hT hmd hRL few al q
  refine ⟨_, rfl, RL, rfl, ⟨_, SqL.of hRL⟩, fun N hN => ?_⟩
  refine lc_it (walk_list (xs := rs.map V.str)) (fun i H1 => Same H H1 ∧ H1 N = some (.lst ((rootsOf ms (rs.take i)).map V.str)))
    ⟨same_new hN, upd_same⟩ (fun i H1 _ ⟨s1, _⟩ => SqL.of (s1 _ _ hRL)) ?_ ?_
  · rintro i y H1' H1 hi ⟨s1, hN1⟩ ⟨rfl, hy⟩
    rw [List.length_map] at hi
    have hr1 := List.getElem?_eq_getElem hi
    generalize rs[i] = r at hr1
    obtain rfl : y = .str r := by
      rw [List.getElem?_map, hr1] at hy
      exact (Option.some.inj hy).symm
    have isr := al r (List.mem_of_getElem? hr1)
    rcases md_look (z := r) (eachs_imp (fun _ _ => mdR_s (TupS.of s1)) hmd) with ⟨_, e2⟩ | ⟨m, t0, e1, e2, ht0⟩
    · unfold tgt at isr
      rw [e2] at isr
      cases isr
    · have et : tgt ms r = some m.2.1 := by unfold tgt; rw [e1]; rfl
      have ek : rootsOf ms (rs.take (i + 1)) = rootsOf ms (rs.take i) ++ [m.2.1] := by
        unfold rootsOf
        rw [List.take_add_one, hr1, List.filterMap_append]
        simp [et]
      have l1 : (rootsOf ms (rs.take i)).length ≤ 100 := by
        have := List.length_filterMap_le (tgt ms) (rs.take i)
        rw [List.length_take] at this
        unfold rootsOf
        omega
      refine ⟨rfl, yes_go (iteT ?_)⟩
      have gd : DGet H1 T (.str r) (some (.ref t0)) := by
        have := DGet.k (k := .inr r) (s1 _ _ hT)
        rw [e2] at this
        exact this
      refine ⟨_, rfl, _, rfl, T, _, rfl, gd, t0, _, _, _, rfl, rfl, SqT.of ht0, at_of (i := 0) rfl, _, hN1, small1000 (by rw [List.length_map]; omega), same_upd s1 hN, ?_⟩
      rw [upd_same, ek, List.map_append]
      rfl
  · rintro H1 ⟨s1, hN1⟩
    rw [List.length_map, List.take_length] at hN1
    exact q H1 N s1 hN1
theorem wr_1 (T : Bi mg) (hr : Room 2 (XWr P w K mg base f cdv A outer s H0 E).A) : ∃ t, PS (XWr P w K mg base f cdv A outer s H0 E) (rB 1) t ∧ ∀ (D : Ends) (H : Hp) (PL T RL l hl : Addr) (p : Str) (xs : List V) (qs : List Pk), H PL = some (.lst xs) → PySem.W.EachIs (PieceL H) xs qs → LwQ qs →
      (∀ H' hm kh, Same H H' → H' hm = some (.dK kh) → PySem.W.EachIs (HomR H') kh qs → D.nx (sgR PL T RL l p (some (.ref hl)) (some (.ref hm)) none) H') → t D (sgR PL T RL l p (some (.ref hl)) none none) H := by
  refine ⟨_, (ps_set (i := 6) scWayR.nd rfl (.inl rfl) (pe_callTy (cr_dictP rfl) (by rfl) T.dict (by decide +kernel) (pa_cons (pe_lc (own := [("q", 9), ("kind", 10), ("words", 11)]) (g := gTup K 3 (gCons (gName 9) (gCons (gName 10) (gCons (gName 11) gNil)))) (tt := tYes) (te := tTup (tCons (tVar 9) (tCons (tVar 11) tNil))) rfl scWayR.nd (pi_list (pv 0)) (blkOk_by (N := NWr) (sc := defScope sWayR) (by decide +kernel)) (fun _ _ _ _ _ => (pg_tup rfl (pgs_cons (pg_name (i := 9) scWayR.nd rfl (.inl rfl)) (pgs_cons (pg_name (i := 10) scWayR.nd rfl (.inl rfl)) (pgs_cons (pg_name (i := 11) scWayR.nd rfl (.inl rfl)) pgs_nil))))) (fun _ _ _ _ _ => pts_nil) (fun _ _ _ _ _ => (pe_tup (pa_cons (pv 9) (pa_cons (pv 11) pa_nil))))) pa_nil))), ?_⟩
  intro D H PL T RL l hl p xs qs hPL hxs lq q
  have lx : xs.length = qs.length := hxs.length
  have few := lq.few
  refine ⟨_, rfl, PL, rfl, ⟨_, SqL.of hPL⟩, fun N hN => ?_⟩
  refine lc_it (walk_list (xs := xs)) (fun i H1 => Same H H1 ∧ ∃ (ps : List Addr) (kh : List (Key × V)), H1 N = some (.lst (ps.map V.ref)) ∧ ps.length = i ∧ PySem.W.EachIs (PrT H1) ps kh ∧ PySem.W.EachIs (HomR H) kh (qs.take i))
    ⟨same_new hN, [], [], upd_same, rfl, .nil, .nil⟩ (fun i H1 _ ⟨s1, _⟩ => SqL.of (s1 _ _ hPL)) ?_ ?_
  · rintro i y H1' H1 hi ⟨s1, ps, kh, hN1, lps, hps, hkh⟩ ⟨rfl, hy⟩
    obtain ⟨q1, hq1, hpc⟩ := eachs_get hxs hy
    obtain ⟨a, b, ws, rfl, ha, hb, hws⟩ := id hpc
    have i2 : i < qs.length := (List.getElem?_eq_some_iff.mp hq1).1
    refine ⟨a, _, rfl, SqT.of (s1 _ _ ha), rfl, _, _, rfl, _, _, rfl, _, _, rfl, rfl, rfl, yes_go (iteT ?_)⟩
    refine ⟨_, rfl, _, rfl, (by show 2 ≤ sizeLine; decide), fun u hu' => ?_⟩
    have ku := same_new (o := .tup [.str q1.1, .ref b]) hu'
    have gu : upd H1 u (.tup [.str q1.1, .ref b]) u = some (.tup [.str q1.1, .ref b]) := upd_same
    generalize upd H1 u (.tup [.str q1.1, .ref b]) = H3 at ku gu ⊢
    have hN3 := ku _ _ hN1
    have tsN : TupS H3 (upd H3 N (.lst (ps.map V.ref ++ [V.ref u]))) := TupS.put hN3 (by intro xs z; cases z)
    refine ⟨ps.map V.ref, hN3, small1000 (by rw [List.length_map]; omega), same_upd (s1.trans ku) hN, ps ++ [u], kh ++ [(.inr q1.1, .ref b)], by rw [upd_same, List.map_append]; rfl, by simp [lps], ?_, ?_⟩
    · exact eachs_snoc (R := PrT _) (tsN _ _ gu) (eachs_imp (fun _ _ => prT_t ((TupS.of ku).trans tsN)) hps)
    · rw [List.take_add_one, hq1]
      exact eachs_snoc (R := HomR _) ⟨rfl, b, ws, rfl, hb, hws⟩ hkh
  · rintro H1 ⟨s1, ps, kh, hN1, lps, hps, hkh⟩
    rw [lx, List.take_length] at hkh
    have ek : kh.map (·.1) = qs.map fun q => (.inr q.1 : Key) := by
      have e : ∀ {kh : List (Key × V)} {qs : List Pk}, PySem.W.EachIs (HomR H) kh qs → kh.map (·.1) = qs.map fun q => (.inr q.1 : Key) := by
        intro kh qs h
        induction h with
        | nil => rfl
        | cons h t ih => rw [List.map_cons, List.map_cons, ih, (show _ = _ from h.1)]
      exact e hkh
    have nod : (kh.map (·.1)).Nodup := by
      rw [ek]
      exact inrq_nod lq.nod
    refine ⟨N, ps, kh, rfl, SqL.of hN1, pair_of hps, fun Dm hDm => ?_⟩
    rw [merge_nod (acc := []) (kvs := kh) nod]
    have km := same_new (o := .dK kh) hDm
    show D.nx _ (upd H1 Dm (.dK kh))
    exact q _ Dm kh (s1.trans km) upd_same (eachs_imp (fun _ _ => homR_s (s1.trans km)) hkh)
end
end DR

namespace DR
open PySem PySem.Spec PyProof.Rows L2
def adYD (a : Str × Nat) : PyData := .tuple [.str a.1, .int (a.2 : Nat)]
theorem adY_dp {K : PySem.W.Frag} {H : Hp} {v : V} {a : Str × Nat} (h : AdY H v a) : Dp K H v (adYD a) := by
  obtain ⟨r, rfl, hr⟩ := h
  exact .tup (SqT.of hr) (.cons (.str _) (.cons (.int _) .nil))
theorem adYs_dp {K : PySem.W.Frag} {H : Hp} : ∀ {vw : List V} {way : List (Str × Nat)}, PySem.W.EachIs (AdY H) vw way → DpAll K H vw (way.map adYD)
  | _, _, .nil => .nil
  | _, _, .cons h t => .cons (adY_dp h) (adYs_dp t)
theorem adY_s {H H' : Hp} (e : Same H H') {v : V} {a : Str × Nat} (h : AdY H v a) : AdY H' v a := adTt (TupS.of e) h
abbrev tOne (K : PySem.W.Frag) : TE := tAndV (tCB (rIsi K) (tCons (tVar 12) (tCons (tC (.ty "tuple")) tNil))) (tOp rEq (tCB (rLenV K) (tCons (tVar 12) tNil)) (tC (.int 2)))
section
variable {P : Program} {w : World} {K : PySem.W.Frag} {mg : Str → Option Value} {base : Heap} {f : Addr} {cdv : Value} {A : Around} {outer : List Env} {s : Shared} {H0 : Hp} {E : XK}
theorem wr_2 (T : Bi mg) (hr : Room 2 (XWr P w K mg base f cdv A outer s H0 E).A) : ∃ t, PS (XWr P w K mg base f cdv A outer s H0 E) (rB 2) t ∧ ∀ (D : Ends) (H : Hp) (PL T RL l hl hm : Addr) (p : Str) (vw : List V) (way : List (Str × Nat)), H l = some (.lst vw) → PySem.W.EachIs (AdY H) vw way → way.length ≤ 100 →
      (∀ H', Same H H' → D.nx (sgR PL T RL l p (some (.ref hl)) (some (.ref hm)) none) H') → t D (sgR PL T RL l p (some (.ref hl)) (some (.ref hm)) none) H := by
  refine ⟨_, (ps_if (PW.pt (pw_or (pt_not (pt_val (pe_callB call_isi (by rfl) T.isinstance (by decide +kernel) (pa_cons (pv 4) (pa_cons (pe_bltn (v := .ty "list") (by rfl) T.list (by decide +kernel) rfl) pa_nil))))) (pw_or1 (pt_not (pt_val (pe_callB (cr_all rfl) (by rfl) T.all (by decide +kernel) (pa_cons (pe_lc (own := [("one", 12)]) (g := gName 12) (tt := tYes) (te := tOne K) rfl scWayR.nd (pi_list (pv 4)) (blkOk_by (N := NWr) (sc := defScope sWayR) (by decide +kernel)) (fun _ _ _ _ _ => pg_name (i := 12) scWayR.nd rfl (.inl rfl)) (fun _ _ _ _ _ => pts_nil) (fun _ _ _ _ _ => (pe_and (pe_callB call_isi (by rfl) T.isinstance (by decide +kernel) (pa_cons (pv 12) (pa_cons (pe_bltn (v := .ty "tuple") (by rfl) T.tuple (by decide +kernel) rfl) pa_nil))) (pe_one (pe_cmpR op_eq (pe_callB cr_lenV (by rfl) T.len (by decide +kernel) (pa_cons (pv 12) pa_nil)) pe_int (nomark _)))))) pa_nil))))))) (pss_one (ps_ret pe_bl)) pss_nil), ?_⟩
  intro D H PL T0 RL l hl hm p vw way hw hv few q
  have lv : vw.length = way.length := hv.length
  refine ⟨_, rfl, .ref l, _, _, _, true, rfl, .ty "list", th_ty (.dat (.lst (SqL.of hw) (adYs_dp hv))), kit_ty (show kitB "list" "list" = some true by decide +kernel), _, rfl, iteF ?_⟩
  refine ⟨_, rfl, l, rfl, ⟨_, SqL.of hw⟩, fun N hN => ?_⟩
  refine lc_it (walk_list (xs := vw)) (fun i H1 => Same H H1 ∧ H1 N = some (.lst ((List.replicate i true).map V.bl)))
    ⟨same_new hN, upd_same⟩ (fun i H1 _ ⟨s1, _⟩ => SqL.of (s1 _ _ hw)) ?_ ?_
  · rintro i y H1' H1 hi ⟨s1, hN1⟩ ⟨rfl, hy⟩
    obtain ⟨a, ha, hd⟩ := eachs_get hv hy
    have hd1 := adY_s s1 hd
    obtain ⟨r, rfl, hr1⟩ := id hd1
    refine ⟨rfl, yes_go (iteT ?_)⟩
    refine ⟨_, rfl, .ref r, _, _, _, true, rfl, .ty "tuple", th_ty (.dat (adY_dp hd1)), kit_ty (show kitB "tuple" "tuple" = some true by decide +kernel), _, rfl, iteT ?_⟩
    refine ⟨_, rfl, r, _, rfl, .inr (SqT.of hr1), rfl, _, hN1, small1000 (by rw [List.length_map, List.length_replicate]; omega), same_upd s1 hN, ?_⟩
    rw [upd_same, List.replicate_succ', List.map_append]
    rfl
  · rintro H1 ⟨s1, hN1⟩
    refine ⟨N, _, rfl, SqL.of hN1, ?_⟩
    have e1 : (List.replicate vw.length true).all id = true := by simp
    rw [e1]
    exact ⟨_, rfl, iteF (q H1 s1)⟩
end
end DR

namespace DR
open PySem PySem.Spec PyProof.Rows L2
def rNotInP (K : PySem.W.Frag) : R2 := fun x y H Q => ∃ d ds, Dp K H x d ∧ Dp K H y (.list ds) ∧ d.plain = true ∧ PyData.plainAll ds = true ∧ d.depth ≤ 60 ∧ Q (.bl (!ds.any fun z => PyData.eqv z d)) H
theorem op_notInP {X : Cx} {k : Nat} (hr : Room k X.A) : OpR X (compareOp .NotIn) (rNotInP X.K) := by
  intro pins s σ H x y v u Q I rx ry h
  obtain ⟨d, ds, hd, he, sd, se, dp, q⟩ := h
  obtain ⟨as, r1⟩ := Dp.reads I d x v hd rx
  obtain ⟨bs, r2⟩ := Dp.reads I (.list ds) y u he ry
  have hu := hr.units
  exact SeqAt.notIn_list_data r2 r1 se sd (by
    have := Nat.min_le_right (PyData.depthAll ds) d.depth
    omega) ⟨.bl _, H, I, rfl, q⟩
theorem notin_go {K : PySem.W.Frag} {H : Hp} {l : Addr} {zs : List Str} {n : Str} {Q : VK} (hl : H l = some (.lst (zs.map V.str))) (q : Q (.bl (!decide (n ∈ zs))) H) : rNotInP K (.str n) (.ref l) H Q := by
  refine ⟨.str n, zs.map PyData.str, .str n, .lst (SqL.of hl) (strs_dp zs), rfl, strs_plain zs, (by simp [PyData.depth]), ?_⟩
  rw [any_str]
  exact q
theorem hom_look {H : Hp} {q : Pk} : ∀ {kh : List (Key × V)} {qs : List Pk}, PySem.W.EachIs (HomR H) kh qs → (qs.map (·.1)).Nodup → q ∈ qs → ∃ b ws, valV kh (.inr q.1) = some (.ref b) ∧ H b = some (.lst ws) ∧ PySem.W.EachIs (SumP H) ws q.2.2
  | _, _, .nil, _, h => nomatch h
  | kv :: kh, q0 :: qs, .cons h t, nd, hq => by
    obtain ⟨h1, b, ws, h2, h3, h4⟩ := h
    rw [List.map_cons, List.nodup_cons] at nd
    unfold valV
    rcases List.mem_cons.mp hq with hq1 | hq1
    · subst hq1
      refine ⟨b, ws, ?_, h3, h4⟩
      rw [List.find?_cons_of_pos (by simp [h1])]
      exact congrArg some h2
    · have ne : q0.1 ≠ q.1 := fun z => nd.1 (List.mem_map.mpr ⟨q, hq1, z.symm⟩)
      rw [List.find?_cons_of_neg (by simp [h1, ne])]
      exact hom_look t nd.2 hq1
theorem home_in {qs : List Pk} {p : Str} {k : Nat} {w : Int × Mul} (h : (homeQ qs p)[k]? = some w) : ∃ q ∈ qs, q.1 = p ∧ q.2.2[k]? = some w := by
  unfold homeQ at h
  cases e : qs.find? (fun q => decide (q.1 = p)) with
  | none => rw [e] at h; cases h
  | some q =>
    rw [e] at h
    exact ⟨q, List.mem_of_find?_eq_some e, (by have := List.find?_some e; simpa using this), h⟩
section
variable {P : Program} {w : World} {K : PySem.W.Frag} {mg : Str → Option Value} {base : Heap} {f : Addr} {cdv : Value} {A : Around} {outer : List Env} {s : Shared} {H0 : Hp} {E : XK}
theorem wr_3 (T : Bi mg) (G : Has P w K mg base CX0 1 "_law_leads" ["word", "told"] spLLeads) (hr : Room 2 (XWr P w K mg base f cdv A outer s H0 E).A) : ∃ t, PS (XWr P w K mg base f cdv A outer s H0 E) (rB 3) t ∧ ∀ (D : Ends) (H : Hp) (PL T RL l hl hm : Addr) (p : Str) (xs vw : List V) (md kh : List (Key × V)) (qs : List Pk) (ms : MsT) (zs : List Str) (way : List (Str × Nat)), LwU H PL T xs md qs ms → LwQ qs → H l = some (.lst vw) → PySem.W.EachIs (AdY H) vw way → H hl = some (.lst (zs.map V.str)) → H hm = some (.dK kh) → PySem.W.EachIs (HomR H) kh qs → VW qs ms zs way p →
      (∀ (H' : Hp) (hl : Addr) (zs : List Str) (o7 : Option V), Same H H' → H' hl = some (.lst (zs.map V.str)) → p ∈ zs → D.nx (sgR PL T RL l p (some (.ref hl)) (some (.ref hm)) o7) H') → t D (sgR PL T RL l p (some (.ref hl)) (some (.ref hm)) none) H := by
  have hu := hu_of hr
  refine ⟨_, (ps_for PassesOwn.never rfl (pi_list (pv 4)) (pg_name (i := 7) scWayR.nd rfl (.inl rfl)) (pss_cons (ps_if (PW.pt (pw_or (pt_cmpR (op_notInP hr) (pe_ix ix_tup (pv 7) pe_int (fun _ _ => rfl)) (pv 5) (by rfl)) (pw_or1 (pt_not (pt_chain op_le op_lt pe_int (pe_ix ix_tup (pv 7) pe_int (fun _ _ => rfl)) (pe_callB cr_lenV (by rfl) T.len (by decide +kernel) (pa_cons (pe_dget hu (pv 6) (pe_ix ix_tup (pv 7) pe_int (fun _ _ => rfl)) (fun _ _ => rfl)) pa_nil))))))) (pss_one (ps_ret pe_bl)) pss_nil)
    (pss_one (ps_set (i := 5) scWayR.nd rfl (.inl rfl) (pe_callH G (hr.mono (by decide)) (by rfl) pass0 (pa_cons (pe_ix ix_list (pe_dget hu (pv 6) (pe_ix ix_tup (pv 7) pe_int (fun _ _ => rfl)) (fun _ _ => rfl)) (pe_ix ix_tup (pv 7) pe_int (fun _ _ => rfl)) (fun _ _ => rfl)) (pa_cons (pv 1) pa_nil))))))), ?_⟩
  intro D H PL T0 RL l hl hm p xs vw md kh qs ms zs way lw lq hw hv hh hk hkh vwy q
  have lv : vw.length = way.length := hv.length
  refine ⟨_, rfl, l, rfl, ⟨_, SqL.of hw⟩, ?_⟩
  refine for_it (walk_list (xs := vw)) (fun i σ Hj => ∃ (hl : Addr) (zs : List Str) (o7 : Option V), σ = sgR PL T0 RL l p (some (.ref hl)) (some (.ref hm)) o7 ∧ Same H Hj ∧ Hj hl = some (.lst (zs.map V.str)) ∧ VW qs ms zs (way.drop i) p)
    ⟨hl, zs, _, rfl, Same.refl _, hh, vwy⟩ (fun i σ Hj _ ⟨_, _, _, _, sj, _⟩ => SqL.of (sj _ _ hw)) ?_ ?_
  · rintro i y σ Hj Hj' hi ⟨hl, zs, o7, rfl, sj, hhj, v⟩ ⟨rfl, hy⟩
    obtain ⟨a, ha, hd⟩ := eachs_get hv hy
    obtain ⟨r, rfl, hr1⟩ := adY_s sj hd
    have i2 : i < way.length := (List.getElem?_eq_some_iff.mp ha).1
    have ed : way.drop i = a :: way.drop (i + 1) := by
      rw [List.drop_eq_getElem_cons i2, (List.getElem?_eq_some_iff.mp ha).2]
    rw [ed] at v
    obtain ⟨v1, w1, v2, v3⟩ := v
    obtain ⟨q1, qm, e1, e2⟩ := home_in v2
    obtain ⟨b, ws, ev, hb, hws⟩ := hom_look hkh lq.nod qm
    rw [e1] at ev
    have gd : DGet Hj' hm (.str a.1) (some (.ref b)) := by
      have := DGet.k (k := .inr a.1) (sj _ _ hk)
      rw [ev] at this
      exact this
    have lws : ws.length = q1.2.2.length := hws.length
    have k2 : a.2 < q1.2.2.length := (List.getElem?_eq_some_iff.mp e2).1
    have kw : a.2 < ws.length := by omega
    have hx := List.getElem?_eq_getElem kw
    generalize ws[a.2] = u at hx
    obtain ⟨w2, hw2, hsum⟩ := eachs_get hws hx
    have : w2 = w1 := by
      rw [e2] at hw2
      exact (Option.some.inj hw2).symm
    subst this
    have lwj := lw.same sj
    obtain ⟨nmw, l100⟩ := lq.nm q1 qm w2 (List.mem_of_getElem? e2)
    refine ⟨_, rfl, r, _, _, _, rfl, rfl, SqT.of hr1, at_of (i := 0) rfl, _, rfl, ?_⟩
    refine notin_go hhj ?_
    rw [decide_eq_true v1]
    refine ⟨_, rfl, iteF ?_⟩
    refine ⟨_, rfl, r, _, _, _, rfl, rfl, SqT.of hr1, at_of (i := 1) rfl, _, _, rfl, rfl, _, rfl, ?_⟩
    rw [show decide ((0 : Int) ≤ ((a.2 : Nat) : Int)) = true from decide_eq_true (by omega)]
    refine iteT ⟨_, rfl, _, rfl, r, _, _, _, rfl, rfl, SqT.of hr1, at_of (i := 0) rfl, hm, _, rfl, gd, b, ws, rfl, .inl (SqL.of (sj _ _ hb)), _, _, rfl, rfl, _, rfl, ?_⟩
    rw [show decide (((a.2 : Nat) : Int) < ((ws.length : Nat) : Int)) = true from decide_eq_true (by omega)]
    refine iteF ⟨_, rfl, _, rfl, r, _, _, _, rfl, rfl, SqT.of hr1, at_of (i := 0) rfl, hm, _, rfl, gd, _, rfl, r, _, _, _, rfl, rfl, SqT.of hr1, at_of (i := 1) rfl, b, ws, _, u, rfl, rfl, SqL.of (sj _ _ hb), at_of hx, _, rfl, u, T0, w2, md, ms, rfl, sumT_s (TupS.of sj) hsum, nmw, l100, lwj.td, lwj.mds, fun hl2 H2 s2 _ h2 => ?_⟩
    exact ⟨hl2, ledW ms w2, _, rfl, sj.trans s2, h2, v3⟩
  · rintro σ Hj ⟨hl, zs, o7, rfl, sj, hhj, v⟩
    rw [lv, List.drop_length] at v
    exact q Hj hl zs _ sj hhj v
end
end DR

namespace DR
open PySem PySem.Spec PyProof.Rows L2
section
variable {P : Program} {w : World} {K : PySem.W.Frag} {mg : Str → Option Value} {base : Heap}
theorem ok_wayR {f : Addr} {fd : FuncData} (F : Fun K "_law_way_right" "_law_way_right" sWayR f fd) (T : Bi mg) (G : Has P w K mg base CX0 1 "_law_leads" ["word", "told"] spLLeads) : FnOk P w K mg base CX0 3 f fd ["pieces", "told", "roots", "p", "way"] (spWayR K) := by
  refine F.ok scWayR (fun vs H Q E h => ?_) (fun cdv A outer s H vs Q E hr h => ?_)
  · obtain ⟨PL, T0, RL, l, p, xs, vw, md, qs, ms, rs, way, rfl, _⟩ := h
    rfl
  · obtain ⟨PL, T0, RL, l, p, xs, vw, md, qs, ms, rs, way, rfl, lw, hRL, lq, ro, hw, hv, few, v, q⟩ := h
    obtain ⟨t0, h0, q0⟩ := wr_0 (f := f) (cdv := cdv) (A := A) (outer := outer) (s := s) (H0 := H) (E := E) (K := K) (P := P) (w := w) (base := base) (mg := mg) hr
    obtain ⟨t1, h1, q1⟩ := wr_1 (f := f) (cdv := cdv) (A := A) (outer := outer) (s := s) (H0 := H) (E := E) (K := K) (P := P) (w := w) (base := base) T hr
    obtain ⟨t2, h2, q2⟩ := wr_2 (f := f) (cdv := cdv) (A := A) (outer := outer) (s := s) (H0 := H) (E := E) (K := K) (P := P) (w := w) (base := base) T hr
    obtain ⟨t3, h3, q3⟩ := wr_3 (f := f) (cdv := cdv) (A := A) (outer := outer) (s := s) (H0 := H) (E := E) (K := K) T G hr
    refine ⟨_, pss_cons h0 (pss_cons h1 (pss_cons h2 (pss_cons h3 (pss_one (ps_ret (pe_cmpR (op_inP hr) (pv 3) (pv 5) (by rfl))))))), ?_⟩
    refine q0 _ H PL T0 RL l p md ms rs lw.td lw.mds hRL ro.few ro.told fun H1 hl s1 hh => ?_
    have lw1 := lw.same s1
    refine q1 _ H1 PL T0 RL l hl p xs qs lw1.pl lw1.each lq fun H2 hm kh s2 hk hkh => ?_
    have s12 := s1.trans s2
    have hv2 := eachs_imp (fun _ _ => adY_s s12) hv
    refine q2 _ H2 PL T0 RL l hl hm p vw way (s12 _ _ hw) hv2 few fun H3 s3 => ?_
    have s13 := s12.trans s3
    refine q3 _ H3 PL T0 RL l hl hm p xs vw md kh qs ms (rootsOf ms rs) way (lw.same s13) lq (s13 _ _ hw) (eachs_imp (fun _ _ => adY_s s3) hv2) (s3 _ _ (s2 _ _ hh)) (s3 _ _ hk) (eachs_imp (fun _ _ => homR_s s3) hkh) v fun H4 hl4 zs o7 s4 h4 pz => ?_
    refine ⟨_, rfl, _, rfl, in_go h4 ?_⟩
    rw [decide_eq_true pz]
    exact q H4 (s13.trans s4)
end
end DR

namespace DR
open PySem PySem.Spec PyProof.Rows L2
/-! ### _law_ways_right -/
def spWaysR (K : PySem.W.Frag) (C : Addr) : Sp := fun vs H Q _ => ∃ (x PL T RL DL : Addr) (xs : List V) (md : List (Key × V)) (qs : List Pk) (ms : MsT) (ns rs : List Str) (ds : DsT), vs = [.ref x, .ref PL, .ref T, .ref RL, .ref DL] ∧ UnG H C x qs ms ns ∧ LwU H PL T xs md qs ms ∧ H RL = some (.lst (rs.map V.str)) ∧ LwQ qs ∧ RootsR qs ms rs ∧ H DL = some (.dK (dsK ds)) ∧ DsF qs ms (rootsOf ms rs) ds ∧ (∀ q ∈ qs, pieceD qs (.str q.1) = true ∧ shortS (.str q.1)) ∧ ∀ H', Same H H' → Q (.bl true) H'
abbrev sWaysR : Stmt := topS 51
abbrev NWs : List Str := ["unit", "pieces", "told", "roots", "due", "p", "kind", "words", "way"]
theorem scWaysR : FnScope NWs ["unit", "pieces", "told", "roots", "due"] (defScope sWaysR) := ⟨rfl, rfl, rfl, by decide +kernel, rfl, by decide +kernel, by decide +kernel⟩
section
variable {P : Program} {w : World} {K : PySem.W.Frag} {mg : Str → Option Value} {base : Heap}
theorem ok_waysR {f C CN CP : Addr} {fd : FuncData} (F : Fun K "_law_ways_right" "_law_ways_right" sWaysR f fd) (T : Bi mg) (GW : Has P w K mg base (L2.CX P w) 6 "way_to" ["unit", "roots", "p"] (spWayTo K C CN CP)) (GR : Has P w K mg base CX0 3 "_law_way_right" ["pieces", "told", "roots", "p", "way"] (spWayR K)) :
    FnOk P w K mg base CX0 7 f fd ["unit", "pieces", "told", "roots", "due"] (spWaysR K C) := by
  refine F.ok scWaysR (fun vs H Q E h => ?_) (fun cdv A outer s H vs Q E hr h => ?_)
  · obtain ⟨x, PL, T0, RL, DL, xs, md, qs, ms, ns, rs, ds, rfl, _⟩ := h
    rfl
  · obtain ⟨x, PL, T0, RL, DL, xs, md, qs, ms, ns, rs, ds, rfl, un, lw, hRL, lq, ro, hD, df, pok, q⟩ := h
    have hu := hu_of hr
    refine ⟨_, pss_cons (ps_for PassesOwn.never rfl (pi_list (pv 1)) (pg_tup rfl (pgs_cons (pg_name (i := 5) scWaysR.nd rfl (.inl rfl)) (pgs_cons (pg_name (i := 6) scWaysR.nd rfl (.inl rfl)) (pgs_cons (pg_name (i := 7) scWaysR.nd rfl (.inl rfl)) pgs_nil))))
      (pss_cons (ps_set (i := 8) scWaysR.nd rfl (.inl rfl) (pe_callH GW hr (by rfl) passN (pa_cons (pv 0) (pa_cons (pv 3) (pa_cons (pv 5) pa_nil)))))
      (pss_cons (ps_if (pt_cmpR op_ne (pe_cmpR op_isN (pv 8) pe_non (nomark _)) (pe_cmp (pc_dnotin hu (pv 5) (pv 4)) (by rfl)) (nomark _)) (pss_one (ps_ret pe_bl)) pss_nil)
      (pss_one (ps_if (pt_cmpR op_notN (pv 8) pe_non (nomark _))
        (pss_cons (ps_if (PW.pt (pw_or (pt_cmpR op_ne (pe_callB cr_lenV (by rfl) T.len (by decide +kernel) (pa_cons (pv 8) pa_nil)) (pe_dget hu (pv 4) (pv 5) (fun _ _ => rfl)) (nomark _)) (pw_or1 (pt_not (pt_val (pe_callH GR (hr.mono (by decide)) (by rfl) pass0 (pa_cons (pv 1) (pa_cons (pv 2) (pa_cons (pv 3) (pa_cons (pv 5) (pa_cons (pv 8) pa_nil)))))))))) ) (pss_one (ps_ret pe_bl)) pss_nil)
        (pss_cons (ps_expr (pe_bm PySem.F.plainAttrs_list PySem.F.slot_list_append PySem.F.type_list_append mt_append (pv 8) (pa_cons pe_str pa_nil)))
        (pss_one (ps_if (pt_cmpR op_ne (pe_callB cr_lenV (by rfl) T.len (by decide +kernel) (pa_cons (pe_callH GW hr (by rfl) passN (pa_cons (pv 0) (pa_cons (pv 3) (pa_cons (pv 5) pa_nil)))) pa_nil)) (pe_dget hu (pv 4) (pv 5) (fun _ _ => rfl)) (nomark _)) (pss_one (ps_ret pe_bl)) pss_nil)))) pss_nil))))) (pss_one (ps_ret pe_bl)), ?_⟩
    have lx : xs.length = qs.length := lw.each.length
    have qfew := lq.few
    refine ⟨_, rfl, PL, rfl, ⟨_, SqL.of lw.pl⟩, ?_⟩
    refine for_it (walk_list (xs := xs)) (fun i σ Hj => ∃ (o5 o6 o7 o8 : Option V), σ = [some (.ref x), some (.ref PL), some (.ref T0), some (.ref RL), some (.ref DL), o5, o6, o7, o8] ∧ Same H Hj)
      ⟨_, _, _, _, rfl, Same.refl _⟩ (fun i σ Hj _ ⟨_, _, _, _, _, sj⟩ => SqL.of (sj _ _ lw.pl)) ?_ ?_
    · rintro i y σ Hj Hj' hi ⟨o5, o6, o7, o8, rfl, sj⟩ ⟨rfl, hy⟩
      obtain ⟨q1, hq1, hpc⟩ := eachs_get (lw.same sj).each hy
      obtain ⟨a, b, ws, rfl, ha, hb, hws⟩ := id hpc
      have qm := List.mem_of_getElem? hq1
      obtain ⟨pk, sh⟩ := pok q1 qm
      refine ⟨a, _, rfl, SqT.of ha, rfl, _, _, rfl, _, _, rfl, _, _, rfl, rfl, ?_⟩
      refine ⟨_, rfl, _, rfl, _, rfl, x, qs, ms, ns, .ref RL, .str q1.1, rfl, unG_s sj un, .inr ⟨RL, rs, .str q1.1, rfl, .inl (SqL.of (sj _ _ hRL)), ro, .dat (.str _), sh, fun bad => absurd pk (by rw [bad]; decide), fun z ez _ => ?_⟩⟩
      obtain rfl : q1.1 = z := by injection ez
      refine ⟨fun nr H1 s1 => ?_, fun way l vs H1 s1 nl hl hv vwy dw => ?_⟩
      · have hD1 := s1 _ _ (sj _ _ hD)
        have ev : valV (dsK ds) (.inr q1.1) = none := by
          rcases dsK_val (z := q1.1) (ds := ds) with ⟨_, e⟩ | ⟨n, m, _⟩
          · exact e
          · exact absurd ((df.dom _).mp (List.mem_map.mpr ⟨_, m, rfl⟩)) nr
        refine ⟨_, rfl, rfl, _, rfl, _, rfl, DL, _, rfl, DGet.k (k := .inr q1.1) hD1, ?_⟩
        rw [ev]
        refine ⟨rfl, false, by simp, iteF ?_⟩
        refine ⟨_, rfl, rfl, false, by simp, iteF ⟨_, _, _, _, rfl, sj.trans s1⟩⟩
      · have s01 := sj.trans s1
        have nH : H l = none := none_of sj nl
        have hD1 := s01 _ _ hD
        obtain ⟨n, nm, ev⟩ : ∃ n, (q1.1, n) ∈ ds ∧ valV (dsK ds) (.inr q1.1) = some (.int (n : Nat)) := by
          rcases dsK_val (z := q1.1) (ds := ds) with ⟨no, _⟩ | h
          · exact absurd ((df.dom _).mpr ⟨_, dw⟩) no
          · exact h
        have en : way.length = n := ds_eq dw (df.val _ nm)
        have lvs : vs.length = way.length := hv.length
        have wlt := ro.ok.am.lt dw
        rw [List.length_map] at wlt
        refine ⟨_, rfl, rfl, _, rfl, _, rfl, DL, _, rfl, DGet.k (k := .inr q1.1) hD1, ?_⟩
        rw [ev]
        refine ⟨rfl, false, by simp, iteF ?_⟩
        refine ⟨_, rfl, rfl, true, by simp, iteT ?_⟩
        have gd : ∀ {Hq : Hp}, Same H Hq → DGet Hq DL (.str q1.1) (some (.int (n : Nat))) := fun sq => by
          have := DGet.k (k := .inr q1.1) (sq _ _ hD)
          rw [ev] at this
          exact this
        refine ⟨_, rfl, l, vs, rfl, .inl (SqL.of hl), _, rfl, _, rfl, DL, _, rfl, gd s01, rfl, false, by rw [lvs, en]; simp, iteF ?_⟩
        refine ⟨_, rfl, _, rfl, _, rfl, _, rfl, _, rfl, PL, T0, RL, l, q1.1, xs, vs, md, qs, ms, rs, way, rfl, lw.same s01, s01 _ _ hRL, lq, ro.ok, hl, hv, by omega, vwy, fun H2 s2 => ⟨_, rfl, iteF ?_⟩⟩
        have s02 := s01.trans s2
        have hl2 := s2 _ _ hl
        refine ⟨_, rfl, .inl ⟨rfl, _, SqL.of hl2⟩, l, _, _, rfl, rfl, hl2, small1000 (by omega), ?_⟩
        have s03 : Same H (upd H2 l (.lst (vs ++ [.str "more"]))) := same_upd s02 nH
        generalize upd H2 l (.lst (vs ++ [.str "more"])) = H3 at s03 ⊢
        refine ⟨_, rfl, _, rfl, _, rfl, x, qs, ms, ns, .ref RL, .str q1.1, rfl, unG_s s03 un, .inr ⟨RL, rs, .str q1.1, rfl, .inl (SqL.of (s03 _ _ hRL)), ro, .dat (.str _), sh, fun bad => absurd pk (by rw [bad]; decide), fun z ez _ => ?_⟩⟩
        obtain rfl : q1.1 = z := by injection ez
        refine ⟨fun nr => absurd ⟨_, dw⟩ nr, fun way2 l2 vs2 H4 s4 nl2 hl4 hv4 vw4 dw4 => ?_⟩
        have e2 : way2.length = n := ds_eq dw4 (df.val _ nm)
        have lvs2 : vs2.length = way2.length := hv4.length
        have s04 := s03.trans s4
        exact ⟨l2, vs2, rfl, .inl (SqL.of hl4), _, rfl, _, rfl, DL, _, rfl, gd s04, rfl, false, by rw [lvs2, e2]; simp, iteF ⟨_, _, _, _, rfl, s04⟩⟩
    · rintro σ Hj ⟨o5, o6, o7, o8, rfl, sj⟩
      exact q Hj sj
end
end DR

namespace DR
open PySem PySem.Spec PyProof.Rows L2
/-! ### sorting of triples: the rank, the name, the unknown -/
def TripK (H : Hp) (y : V) (u : List Key) : Prop := ∃ c b k o, y = .ref c ∧ H c = some (.tup [.int ((rank k).getD 0), kV o, .ref b]) ∧ u = [.inr k, o] ∧ H b = some (.tup [.str k, kV o])
def encT (u : List Key) : PyData := match u with
  | [.inr k, o] => .tuple [.int ((rank k).getD 0), kD o, unkD [.inr k, o]]
  | _ => .none
def leT : List Key → List Key → Bool := PySem.W.dataLe false encT
theorem tripK_dp {K : PySem.W.Frag} {H : Hp} {y : V} {u : List Key} (h : TripK H y u) : Dp K H y (encT u) := by
  obtain ⟨c, b, k, o, rfl, hc, rfl, hb⟩ := h
  refine .tup (SqT.of hc) (.cons (.int _) (.cons ?_ (.cons (dp_unk ⟨b, rfl, hb⟩) .nil)))
  rw [← keyDat_kD]
  exact dp_key o
theorem tripK_s {H H' : Hp} (e : TupS H H') {y : V} {u : List Key} (h : TripK H y u) : TripK H' y u := by
  obtain ⟨c, b, k, o, h1, h2, h3, h4⟩ := h
  exact ⟨c, b, k, o, h1, e _ _ h2, h3, e _ _ h4⟩
theorem cmp_trip {u u' : List Key} (h : NmU u) (h' : NmU u') {xs ys : List PyData} (e : encT u = .tuple xs) (e' : encT u' = .tuple ys) : cmpL alikeP xs ys := by
  obtain ⟨k, o, rfl, n1, n2⟩ := id h
  obtain ⟨k', o', rfl, n1', n2'⟩ := id h'
  obtain rfl := PyData.tuple.inj e
  obtain rfl := PyData.tuple.inj e'
  have c := cmp_key h h' (keyD_is k o) (keyD_is k' o')
  refine ⟨c.1, fun e1 => ⟨(c.2 e1).1, fun e2 => ?_⟩⟩
  have e3 : PyData.eqv (keyD [.inr k, o]) (keyD [.inr k', o']) = true := by
    rw [keyD_is, keyD_is]
    simp only [PyData.eqv, PyData.eqvAll, Bool.and_eq_true] at e1 ⊢
    exact ⟨e1, e2, trivial⟩
  have e4 := key_same h h' e3
  rw [e4]
  exact ⟨alike_unkD h', fun _ => trivial⟩
theorem leT_is {a b : List Key} (ha : NmU a) (hb : NmU b) : leT a b = le2 a b := by
  show (!PySem.W.dataLt (encT b) (encT a)) = !PySem.W.dataLt (keyD b) (keyD a)
  obtain ⟨k, o, rfl, n1, n2⟩ := id ha
  obtain ⟨k', o', rfl, n1', n2'⟩ := id hb
  have c := cmp_key hb ha (keyD_is k' o') (keyD_is k o)
  rw [keyD_is, keyD_is]
  show (!PySem.W.dataLt (.tuple [.int ((rank k').getD 0), kD o', unkD [.inr k', o']]) (.tuple [.int ((rank k).getD 0), kD o, unkD [.inr k, o]])) = _
  rw [PySem.W.dataLt_tuple, PySem.W.dataLt_tuple]
  cases e1 : PyData.eqv (.int ((rank k').getD 0)) (.int ((rank k).getD 0)) with
  | false => rw [lt_no toks_alike c.1 e1, lt_no toks_alike c.1 e1]
  | true =>
    rw [lt_yes toks_alike c.1 e1, lt_yes toks_alike c.1 e1]
    have c2 := (c.2 e1).1
    cases e2 : PyData.eqv (kD o') (kD o) with
    | false => rw [lt_no toks_alike c2 e2, lt_no toks_alike c2 e2]
    | true =>
      have e3 : PyData.eqv (keyD [.inr k', o']) (keyD [.inr k, o]) = true := by
        rw [keyD_is, keyD_is]
        simp only [PyData.eqv, PyData.eqvAll, Bool.and_eq_true] at e1 ⊢
        exact ⟨e1, e2, trivial⟩
      have e4 := key_same hb ha e3
      injection e4 with e4 e5
      injection e5 with e5
      injection e4 with e4
      rw [e4, e5, lex_irrefl, lex_irrefl]
theorem sort_leT {us : List (List Key)} (h : ∀ u ∈ us, NmU u) : us.mergeSort leT = us.mergeSort le2 := PySem.W.sort_congr fun a ha b hb => leT_is (h a ha) (h b hb)
theorem mix_encT {us : List (List Key)} (h : ∀ u ∈ us, NmU u) : Mix (us.map encT) (.type "int") := by
  refine ⟨fun d hd => ?_, fun xs ys hx hy => ?_, fun d hd => ?_⟩
  · obtain ⟨u, hu, rfl⟩ := List.mem_map.mp hd
    obtain ⟨k, o, rfl, _⟩ := h u hu
    exact ⟨_, _, rfl, rfl⟩
  · obtain ⟨u, hu, e⟩ := List.mem_map.mp hx
    obtain ⟨u', hu', e'⟩ := List.mem_map.mp hy
    exact cmp_R1 (cmp_trip (h u hu) (h u' hu') e e')
  · obtain ⟨u, hu, rfl⟩ := List.mem_map.mp hd
    have h2 := plain_unkD (h u hu)
    obtain ⟨k, o, rfl, _⟩ := h u hu
    have h3 := lay_kD o
    simp [encT, PyData.plain, PyData.plainAll, h2, h3]
theorem depth_encT {u : List Key} (h : NmU u) : (encT u).depth ≤ 5 := by
  obtain ⟨k, o, rfl, _⟩ := h
  cases o <;> simp [encT, unkD, keyDat, kD, PyData.depth, PyData.depthAll]
/-- sorted of such pairs -/
def rSortedT (K : PySem.W.Frag) : List V → Hp → VK → Prop := fun vs H Q => ∃ (a : Addr) (xs : List V) (us : List (List Key)), vs = [.ref a] ∧ SqL K H a xs ∧ PySem.W.EachIs (TripK H) xs us ∧ (∀ u ∈ us, NmU u) ∧
  ∀ (ys : List V) (p : Addr), PySem.W.EachIs (TripK H) ys (us.mergeSort le2) → H p = none → Q (.ref p) (upd H p (.lst ys))
theorem each_valsT {H : Hp} : ∀ {xs : List V} {its : List Value} {us : List (List Key)}, PySem.W.EachIs (TripK H) xs us → Vals xs its → PySem.W.EachIs (fun v u => ∃ y, L2.RelV y v ∧ TripK H y u) its us
  | _, _, _, .nil, .nil => .nil
  | _, _, _, .cons h t, .cons r rt => .cons ⟨_, r, h⟩ (each_valsT t rt)
theorem each_backT {H : Hp} : ∀ {its : List Value} {us : List (List Key)}, PySem.W.EachIs (fun v u => ∃ y, L2.RelV y v ∧ TripK H y u) its us → ∃ ys, Vals ys its ∧ PySem.W.EachIs (TripK H) ys us
  | _, _, .nil => ⟨[], .nil, .nil⟩
  | _, _, .cons ⟨y, r, h⟩ t => by
    obtain ⟨ys, r1, h1⟩ := each_backT t
    exact ⟨y :: ys, .cons r r1, .cons h h1⟩
theorem cr_sortedT {X : Cx} {k : Nat} (hr : Room k X.A) : CallR X (.builtin "sorted") (rSortedT X.K) := by
  intro pn s σ H vs ws Q I r h
  obtain ⟨a, xs, us, rfl, hs, he, nm, q⟩ := h
  obtain ⟨its, rv, hl, hz⟩ := I.list hs
  obtain ⟨u, rfl, ru⟩ := vals1 r
  obtain rfl : u = Value.ref a := ru
  have e := each_valsT he rv
  have er : PySem.W.EachIs (fun v u => ∃ as, Reads s.heap v (encT u) as) its us := eachs_imp (fun v u ⟨y, ry, hy⟩ => Dp.reads I (encT u) y v (tripK_dp hy) ry) e
  have lz : us.length ≤ sizeLine := by
    rw [← he.length]
    exact hz
  refine sorted_mix (bs := us) (enc := encT) (R := fun v u => ∃ y, L2.RelV y v ∧ TripK H y u) hl.isList e er (mix_encT nm) (by decide) lz (fun u hu => ?_) fun out hol ho => ?_
  · have h1 := depth_encT (nm u hu)
    have h2 := hr.units
    omega
  · rw [show us.mergeSort (PySem.W.dataLe false encT) = us.mergeSort le2 from sort_leT nm] at ho
    obtain ⟨ys, rv2, hy⟩ := each_backT ho
    obtain ⟨n, hn⟩ := sortedAll_at s.heap its out.toArray
    refine ⟨.ref (s.heap.objs.size + 1), upd H (s.heap.objs.size + 1) (.lst ys), I.laid (t' := s.toks) (fun b o e => sortedAll_old e) (Nat.le_succ _) ⟨?_, _, n, rv2, hn⟩, rfl, q ys _ hy (I.hok.fresh (Nat.le_succ _))⟩
    rw [hy.length, (List.mergeSort_perm _ _).length_eq]
    exact lz
end DR

namespace DR
open PySem PySem.Spec PyProof.Rows L2
/-! ### _law_summed -/
def PairN (H : Hp) (v : V) (q : Option (List Key) × Int) : Prop := ∃ c, v = .ref c ∧ ((q.1 = none ∧ H c = some (.tup [.non, .int q.2])) ∨ ∃ u e, q.1 = some u ∧ H c = some (.tup [.ref e, .int q.2]) ∧ H e = some (.tup (u.map kV)))
def stepN (n : Int) (q : Option (List Key) × Int) : Int := match q.1 with
  | none => n + q.2
  | some _ => n
def numS (ps : List (Option (List Key) × Int)) : Int := ps.foldl stepN 0
def mulS (ps : List (Option (List Key) × Int)) : Mul := ps.filterMap fun q => q.1.map fun u => (u, q.2)
def spSummed : Sp := fun vs H Q _ => ∃ (l : Addr) (xs : List V) (ps : List (Option (List Key) × Int)), vs = [.ref l] ∧ H l = some (.lst xs) ∧ PySem.W.EachIs (PairN H) xs ps ∧ (∀ u ∈ (mulS ps).map (·.1), NmU u) ∧ ps.length ≤ 100 ∧
  ∀ v' H', Same H H' → SumT H' v' (numS ps) (form (accAll (mulS ps))) → Q v' H'
abbrev sSummed : Stmt := topS 44
abbrev NSu : List Str := ["pairs", "number", "found", "unknown", "multiple", "order", "one"]
theorem scSummed : FnScope NSu ["pairs"] (defScope sSummed) := ⟨rfl, rfl, rfl, by decide +kernel, rfl, by decide +kernel, by decide +kernel⟩
theorem eachT_s {H H' : Hp} (e : TupS H H') {ys : List V} {us : List (List Key)} (h : PySem.W.EachIs (TripK H) ys us) : PySem.W.EachIs (TripK H') ys us := eachs_imp (fun _ _ => tripK_s e) h
abbrev tTrip (K : PySem.W.Frag) : TE := tTup (tCons (tBM K "list" (rIndex K) (tLst (tCons (tC (.str "piece")) (tCons (tC (.str "name")) (tCons (tC (.str "in")) tNil)))) (tCons (tOp (rIxT K) (tVar 6) (tC (.int 0))) tNil)) (tCons (tOp (rIxT K) (tVar 6) (tC (.int 1))) (tCons (tVar 6) tNil)))
abbrev tOut (K : PySem.W.Frag) : TE := tTup (tCons (tOp (rIxT K) (tVar 6) (tC (.int 2))) (tCons (tDGet (tVar 2) (tOp (rIxT K) (tVar 6) (tC (.int 2)))) tNil))
section
variable {P : Program} {w : World} {K : PySem.W.Frag} {mg : Str → Option Value} {base : Heap}
theorem ok_summed {f : Addr} {fd : FuncData} (F : Fun K "_law_summed" "_law_summed" sSummed f fd) (T : Bi mg) : FnOk P w K mg base CX0 2 f fd ["pairs"] spSummed := by
  refine F.ok scSummed (fun vs H Q E h => ?_) (fun cdv A outer s H vs Q E hr h => ?_)
  · obtain ⟨l, xs, ps, rfl, _⟩ := h
    rfl
  · obtain ⟨l, xs, ps, rfl, hs, hxs, nm, few, q⟩ := h
    have hu := hu_of hr
    refine ⟨_, (pss_cons (ps_asg (pe_tup (pa_cons pe_int (pa_cons pe_dnewT pa_nil))) (pg_tup rfl (pgs_cons (pg_name (i := 1) scSummed.nd rfl (.inl rfl)) (pgs_cons (pg_name (i := 2) scSummed.nd rfl (.inr rfl)) pgs_nil))))
      (pss_cons (ps_for PassesOwn.never rfl (pi_list (pv 0)) (pg_tup rfl (pgs_cons (pg_name (i := 3) scSummed.nd rfl (.inl rfl)) (pgs_cons (pg_name (i := 4) scSummed.nd rfl (.inl rfl)) pgs_nil)))
        (pss_one (ps_if (pt_cmpR op_isN (pv 3) pe_non (nomark _)) (pss_one (ps_set (i := 1) scSummed.nd rfl (.inl rfl) (pe_op op_add (pv 1) (pv 4)))) (pss_one (ps_dput hu (pv 2) (pv 3) (pe_op op_add (pe_dget2 hu (pv 2) (pv 3) pe_int ⟨rfl, rfl, rfl, rfl⟩) (pv 4)) rfl)))))
      (pss_cons (ps_set (i := 5) scSummed.nd rfl (.inl rfl) (pe_callB (cr_sortedT hr) (by rfl) T.sorted (by decide +kernel) (pa_cons (pe_lock (pe_lc (own := [("one", 6)]) (g := gName 6) (tt := tTest (tOp rNe (tDGet (tVar 2) (tVar 6)) (tC (.int 0)))) (te := tTrip K) rfl scSummed.nd (pi_keys (pv 2)) (blkOk_by (N := NSu) (sc := defScope sSummed) (by decide +kernel)) (fun _ _ _ _ _ => pg_name (i := 6) scSummed.nd rfl (.inl rfl))
          (fun _ _ _ _ _ => pts_one (pt_cmpR op_ne (pe_dget hu (pv 2) (pv 6) (fun _ _ => rfl)) pe_int (nomark _))) (fun _ _ _ _ _ => (pe_tup (pa_cons (pe_bm PySem.F.plainAttrs_list PySem.F.slot_list_index PySem.F.type_list_index mt_index (pe_lst (pa_cons pe_str (pa_cons pe_str (pa_cons pe_str pa_nil)))) (pa_cons (pe_ix ix_tup (pv 6) pe_int (fun _ _ => rfl)) pa_nil)) (pa_cons (pe_ix ix_tup (pv 6) pe_int (fun _ _ => rfl)) (pa_cons (pv 6) pa_nil))))))) pa_nil)))
      (pss_one (ps_ret (pe_tup (pa_cons (pv 1) (pa_cons (pe_callTy call_tuple_of (by rfl) T.tuple (by decide +kernel) (pa_cons (pe_lc (own := [("one", 6)]) (g := gName 6) (tt := tYes) (te := tOut K) rfl scSummed.nd (pi_list (pv 5)) (blkOk_by (N := NSu) (sc := defScope sSummed) (by decide +kernel))
          (fun _ _ _ _ _ => pg_name (i := 6) scSummed.nd rfl (.inl rfl)) (fun _ _ _ _ _ => pts_nil) (fun _ _ _ _ _ => (pe_tup (pa_cons (pe_ix ix_tup (pv 6) pe_int (fun _ _ => rfl)) (pa_cons (pe_dget hu (pv 2) (pe_ix ix_tup (pv 6) pe_int (fun _ _ => rfl)) (fun _ _ => rfl)) pa_nil))))) pa_nil)) pa_nil)))))))), ?_⟩
    refine fun d hD0 => ?_
    refine ⟨(by show 2 ≤ sizeLine; decide), fun t0 ht0 => ?_⟩
    have s0a : Same H (upd H d (.dT [])) := same_new hD0
    have s0b := same_new (o := .tup [.int 0, .ref d]) ht0
    have hd0 : upd (upd H d (.dT [])) t0 (.tup [.int 0, .ref d]) d = some (.dT []) := s0b _ _ upd_same
    have ht1 : upd (upd H d (.dT [])) t0 (.tup [.int 0, .ref d]) t0 = some (.tup [.int 0, .ref d]) := upd_same
    have s0 := s0a.trans s0b
    generalize upd (upd H d (.dT [])) t0 (.tup [.int 0, .ref d]) = Hz at s0 hd0 ht1 ⊢
    have lx : xs.length = ps.length := hxs.length
    refine ⟨t0, _, rfl, SqT.of ht1, rfl, _, _, rfl, _, _, rfl, rfl, ?_⟩
    refine ⟨_, rfl, l, rfl, ⟨_, SqL.of (s0 _ _ hs)⟩, ?_⟩
    refine for_it (walk_list (xs := xs)) (fun i σ H4 => ∃ (w1 w2 : Option V), σ = [some (.ref l), some (.int (numS (ps.take i))), some (.ref d), w1, w2, none, none] ∧ Same H H4 ∧ H4 d = some (.dT (vKv (accAll (mulS (ps.take i))))))
      ⟨none, none, rfl, s0, hd0⟩ (fun i σ H4 _ ⟨_, _, _, s4, _⟩ => SqL.of (s4 _ _ hs)) ?_ ?_
    · rintro i y σ H4 H4' hi ⟨w1, w2, rfl, s4, hD4⟩ ⟨rfl, hy⟩
      obtain ⟨q1, hq1, c, rfl, hc⟩ := eachs_get hxs hy
      obtain ⟨k1, m1⟩ := q1
      have hi2 : i < ps.length := (List.getElem?_eq_some_iff.mp hq1).1
      have al := accA_len (mulS (ps.take i))
      have al2 : (mulS (ps.take i)).length ≤ i := by
        have := List.length_filterMap_le (fun q : Option (List Key) × Int => q.1.map fun u => (u, q.2)) (ps.take i)
        rw [List.length_take] at this
        unfold mulS
        omega
      have et : ps.take (i + 1) = ps.take i ++ [(k1, m1)] := by rw [List.take_add_one, hq1]; rfl
      have en : numS (ps.take (i + 1)) = stepN (numS (ps.take i)) (k1, m1) := by
        rw [et]
        unfold numS
        rw [List.foldl_append]
        rfl
      have em : mulS (ps.take (i + 1)) = mulS (ps.take i) ++ (k1.map fun u => (u, m1)).toList := by
        unfold mulS
        rw [et, List.filterMap_append]
        cases k1 <;> simp
      rcases hc with ⟨e1, hc⟩ | ⟨u, e, e1, hc, he⟩
      · have e1 : k1 = none := e1
        subst e1
        refine ⟨c, _, rfl, SqT.of (s4 _ _ hc), rfl, _, _, rfl, _, _, rfl, rfl, ?_⟩
        refine ⟨_, rfl, rfl, true, by simp, iteT ⟨_, rfl, _, rfl, _, _, rfl, rfl, ?_⟩⟩
        refine ⟨some .non, some (.int m1), ?_, s4, ?_⟩
        · rw [en]
          rfl
        · rw [em]
          show _ = some (HO.dT (vKv (accAll (_ ++ []))))
          rw [List.append_nil]
          exact hD4
      · have e1 : k1 = some u := e1
        subst e1
        refine ⟨c, _, rfl, SqT.of (s4 _ _ hc), rfl, _, _, rfl, _, _, rfl, rfl, ?_⟩
        refine ⟨_, rfl, rfl, false, by simp, iteF ?_⟩
        refine ⟨_, rfl, d, rfl, .inr ⟨_, .inl hD4⟩, _, rfl, _, DGet.t hD4 (s4 _ _ he), _, rfl, getI (accAll (mulS (ps.take i))) u, m1, getD_val _ u, rfl, ?_⟩
        refine ⟨_, rfl, _, rfl, d, _, rfl, DPut.t hD4 (s4 _ _ he) (by
          rw [vKv_len]
          exact small1000 (by omega)), ?_⟩
        rw [put_vKv]
        refine ⟨some (.ref e), some (.int m1), ?_, fun b o eb => ?_, ?_⟩
        · rw [en]
          rfl
        · rw [upd_ne (ne_of_none eb hD0)]
          exact s4 _ _ eb
        · rw [upd_same, em]
          unfold accAll
          rw [List.foldl_append]
          rfl
    · rintro σ H0 ⟨w1, w2, rfl, sH, hd⟩
      rw [lx, List.take_length] at hd
      rw [lx, List.take_length]
      have al := accA_len (mulS ps)
      have al2 : (mulS ps).length ≤ ps.length := List.length_filterMap_le _ _
      have hn := accA_nm nm
      generalize accAll (mulS ps) = kvs at hd al hn q
      generalize hpz : ps = pz at q ⊢
      refine ⟨d, _, hd, trivial, fun od => ⟨_, rfl, d, od, rfl, .inr ⟨_, upd_same, fun D hD => ?_⟩⟩⟩
      have lenK : (vKv kvs).length = kvs.length := List.length_map _
      have hDd : D ≠ d := by
        intro z
        rw [z, upd_same] at hD
        cases hD
      have hDn : H0 D = none := by
        rw [upd_ne hDd] at hD
        exact hD
      refine lc_it walk_keysT (fun i H1 => (∀ b o, b ≠ D → upd H0 d (.frz od (.dT (vKv kvs))) b = some o → H1 b = some o) ∧ ∃ ys, H1 D = some (.lst ys) ∧ ys.length ≤ i ∧ PySem.W.EachIs (TripK H1) ys (((kvs.take i).map (·.1)).filter fun u => !decide (getI kvs u = 0)))
        ⟨fun b o hb e => by rw [upd_ne hb]; exact e, [], upd_same, Nat.le_refl _, .nil⟩ (fun i H1 _ ⟨kp, _⟩ => kp _ _ hDd.symm upd_same) ?_ ?_
      · rintro i x H1 H1' hi ⟨kp, ys, hD1, hlen, he⟩ ⟨rfl, k, v, qa, hk, rfl, hq⟩
        have hi' : i < kvs.length := by rw [lenK] at hi; exact hi
        obtain ⟨⟨k0, m⟩, hm⟩ : ∃ p, kvs[i]? = some p := ⟨kvs[i], List.getElem?_eq_getElem hi'⟩
        have hk2 : (k, v) = (k0, V.int m) := by
          unfold vKv at hk
          rw [List.getElem?_map, hm] at hk
          exact (Option.some.inj hk).symm
        cases hk2
        have hmem : k ∈ kvs.map (·.1) := List.mem_map.mpr ⟨_, List.mem_of_getElem? hm, rfl⟩
        have hd1 : H1' d = some (.frz od (.dT (vKv kvs))) := kp _ _ hDd.symm upd_same
        refine ⟨rfl, _, rfl, _, rfl, d, .int (getI kvs k), rfl, .inr ⟨vKv kvs, k, qa, .inr ⟨od, hd1⟩, rfl, hq, (valV_mem hmem).symm⟩, rfl, _, rfl, ?_⟩
        rw [eq_int]
        have tk : (kvs.take (i + 1)).map (·.1) = (kvs.take i).map (·.1) ++ [k] := by
          rw [List.take_add_one, hm]
          simp
        cases c : !decide (getI kvs k = 0) with
        | true =>
          obtain ⟨kk, o, rfl, hk1, _⟩ := hn k hmem
          have hq1 : H1' qa = some (.tup [.str kk, kV o]) := hq
          obtain ⟨jr, zr, ej, hz, hzj, hno⟩ := rank_at hk1
          refine iteT ⟨(by show 3 ≤ sizeLine; decide), fun p hp => ?_⟩
          have s2 := same_new (o := .lst [V.str sPiece, V.str sName, V.str sIn]) hp
          have hp1 : upd H1' p (.lst [V.str sPiece, V.str sName, V.str sIn]) p = some (.lst [V.str sPiece, V.str sName, V.str sIn]) := upd_same
          refine ⟨.inl ⟨rfl, _, SqL.of hp1⟩, _, rfl, qa, _, _, _, rfl, rfl, SqT.of (s2 _ _ hq1), at_of (i := 0) rfl, ?_⟩
          refine ⟨p, _, .str kk, jr, zr, rfl, rfl, SqL.of hp1, rfl, rfl, hz, hzj, hno, ?_⟩
          refine ⟨_, rfl, qa, _, _, _, rfl, rfl, SqT.of (s2 _ _ hq1), at_of (i := 1) rfl, _, rfl, (by show 3 ≤ sizeLine; decide), fun t ht => ?_⟩
          rw [← ej]
          have st := same_new (o := .tup [V.int ((rank kk).getD 0), kV o, V.ref qa]) ht
          have hD3 : upd (upd H1' p (.lst [V.str sPiece, V.str sName, V.str sIn])) t (.tup [V.int ((rank kk).getD 0), kV o, V.ref qa]) D = some (.lst ys) := st _ _ (s2 _ _ hD1)
          have ts : TupS H1' (upd (upd (upd H1' p (.lst [V.str sPiece, V.str sName, V.str sIn])) t (.tup [V.int ((rank kk).getD 0), kV o, V.ref qa])) D (.lst (ys ++ [.ref t]))) := (TupS.of (s2.trans st)).trans (TupS.put hD3 (by intro xs z; cases z))
          have ts2 : TupS (upd (upd H1' p (.lst [V.str sPiece, V.str sName, V.str sIn])) t (.tup [V.int ((rank kk).getD 0), kV o, V.ref qa])) (upd (upd (upd H1' p (.lst [V.str sPiece, V.str sName, V.str sIn])) t (.tup [V.int ((rank kk).getD 0), kV o, V.ref qa])) D (.lst (ys ++ [.ref t]))) := TupS.put hD3 (by intro xs z; cases z)
          refine ⟨ys, hD3, small1000 (by omega), fun b o' hb e => ?_, ys ++ [.ref t], upd_same, by simp; omega, ?_⟩
          · rw [upd_ne hb]
            exact st _ _ (s2 _ _ (kp b o' hb e))
          · rw [tk, List.filter_append]
            have z : [([.inr kk, o] : List Key)].filter (fun u => !decide (getI kvs u = 0)) = [[.inr kk, o]] := by simp [List.filter, c]
            rw [z]
            exact eachs_snoc ⟨t, qa, kk, o, rfl, ts2 _ _ upd_same, rfl, ts _ _ hq⟩ (eachT_s ts he)
        | false =>
          refine iteF ⟨kp, ys, hD1, by omega, ?_⟩
          rw [tk, List.filter_append]
          have z : [k].filter (fun u => !decide (getI kvs u = 0)) = [] := by simp [List.filter, c]
          rw [z, List.append_nil]
          exact he
      · rintro H1 ⟨kp, ys, hD1, hlen, he⟩
        have tl : (kvs.take (vKv kvs).length) = kvs := by rw [lenK]; exact List.take_length
        rw [tl] at he
        have hd1 : H1 d = some (.frz od (.dT (vKv kvs))) := kp _ _ hDd.symm upd_same
        have sm : Same H0 (upd H1 d (.dT (vKv kvs))) := fun b o e => by
          by_cases hb : b = d
          · rw [hb] at e ⊢
            rw [upd_same]
            exact hd.symm.trans e
          · rw [upd_ne hb]
            refine kp b o (ne_of_none e hDn) ?_
            rw [upd_ne hb]
            exact e
        have eD : (upd H1 d (.dT (vKv kvs))) D = some (.lst ys) := by
          rw [upd_ne hDd]
          exact hD1
        have he2 : PySem.W.EachIs (TripK (upd H1 d (.dT (vKv kvs)))) ys (keysN kvs) := eachT_s (TupS.put hd1 (by intro xs z; cases z)) he
        have hnK : ∀ u ∈ keysN kvs, NmU u := fun u hu => hn u (List.mem_filter.mp hu).1
        refine ⟨hd1, D, ys, keysN kvs, rfl, SqL.of eD, he2, hnK, fun zs p hz hp => ?_⟩
        generalize hH2 : upd H1 d (.dT (vKv kvs)) = H2 at sm eD he2 hp hz ⊢
        have h2d : H2 d = some (.dT (vKv kvs)) := by rw [← hH2, upd_same]
        have sm3 : Same H2 (upd H2 p (.lst zs)) := same_new hp
        have hz3 : PySem.W.EachIs (TripK (upd H2 p (.lst zs))) zs ((keysN kvs).mergeSort le2) := eachT_s (TupS.of sm3) hz
        have lz : zs.length = ((keysN kvs).mergeSort le2).length := hz.length
        have lz2 : zs.length ≤ 1000 := by
          rw [lz, (List.mergeSort_perm _ _).length_eq]
          unfold keysN
          refine Nat.le_trans (List.length_filter_le _ _) ?_
          rw [List.length_map]
          omega
        generalize hH3 : upd H2 p (.lst zs) = H3 at sm3 hz3 ⊢
        have h3d : H3 d = some (.dT (vKv kvs)) := sm3 _ _ h2d
        have h3p : H3 p = some (.lst zs) := by rw [← hH3, upd_same]
        refine ⟨_, rfl, _, rfl, p, rfl, ⟨_, SqL.of h3p⟩, fun D2 hD2 => ?_⟩
        have pD2 : p ≠ D2 := ne_of_none h3p hD2
        refine lc_it (walk_list (xs := zs)) (fun i H4 => (∀ b o, b ≠ D2 → H3 b = some o → H4 b = some o) ∧ ∃ ps, H4 D2 = some (.lst ps) ∧ ps.length = i ∧ PySem.W.EachIs (PartT H4) ps ((((keysN kvs).mergeSort le2).take i).map fun u => (u, getI kvs u)))
          ⟨fun b o hb e => by rw [upd_ne hb]; exact e, [], upd_same, rfl, .nil⟩ (fun i H4 _ ⟨kp, _⟩ => SqL.of (kp _ _ pD2 h3p)) ?_ ?_
        · rintro i x H4 H4' hi ⟨kp4, ps, h4D, hps, hdp⟩ ⟨rfl, hx⟩
          obtain ⟨u, hu1, c, a, kk, o, rfl, hc, rfl, ha⟩ := eachs_get hz3 hx
          have ha4 := kp4 _ _ (ne_of_none ha hD2) ha
          have hc4 := kp4 _ _ (ne_of_none hc hD2) hc
          have h4d := kp4 _ _ (ne_of_none h3d hD2) h3d
          have hmem : [.inr kk, o] ∈ kvs.map (·.1) := (List.mem_filter.mp (mem_sort (List.mem_of_getElem? hu1))).1
          refine ⟨rfl, yes_go (iteT ⟨_, rfl, c, _, _, _, rfl, rfl, SqT.of hc4, at_of (i := 2) rfl, _, rfl, _, rfl, c, _, _, _, rfl, rfl, SqT.of hc4, at_of (i := 2) rfl, d, .int (getI kvs [.inr kk, o]), rfl, .inr ⟨vKv kvs, [.inr kk, o], a, .inl h4d, rfl, ha4, (valV_mem hmem).symm⟩, (by show 2 ≤ sizeLine; decide), fun t ht => ⟨ps, ?_, small1000 (by omega), ?_, ps ++ [.ref t], upd_same, by simp; omega, ?_⟩⟩)⟩
          · rw [upd_ne (ne_of_none h4D ht)]
            exact h4D
          · intro b o' hb e
            rw [upd_ne hb, upd_ne (ne_of_none (kp4 b o' hb e) ht)]
            exact kp4 b o' hb e
          · have tD : t ≠ D2 := fun z => by rw [z, h4D] at ht; cases ht
            have ts : TupS H4' (upd (upd H4' t (.tup [.ref a, .int (getI kvs [.inr kk, o])])) D2 (.lst (ps ++ [.ref t]))) := (TupS.of (same_new ht)).trans (TupS.put (o := .lst ps) (by
              rw [upd_ne (ne_of_none h4D ht)]
              exact h4D) (by intro xs z; cases z))
            rw [List.take_add_one, hu1]
            simp only [Option.toList_some, List.map_append, List.map_cons, List.map_nil]
            refine eachs_snoc ⟨t, a, rfl, ?_, ts _ _ ha4⟩ (eachs_imp (fun _ _ => partT_s ts) hdp)
            rw [upd_ne tD, upd_same]
        · rintro H4 ⟨kp4, ps, h4D, hps, hdp⟩
          have tl2 : ((keysN kvs).mergeSort le2).take zs.length = (keysN kvs).mergeSort le2 := by rw [lz]; exact List.take_length
          rw [tl2] at hdp
          refine ⟨D2, ps, rfl, .inl ⟨SqL.of h4D, fun l' hl4 => ⟨(by show 2 ≤ sizeLine; decide), fun r hr5 => ?_⟩⟩⟩
          have s4 : Same H3 H4 := fun b o e => kp4 b o (ne_of_none e hD2) e
          have s5 := same_new (o := .tup ps) hl4
          have s6 := same_new (o := .tup [.int (numS pz), .ref l']) hr5
          refine q _ _ (((((sH.trans sm).trans sm3).trans s4).trans s5).trans s6) ?_
          have el : (upd (upd H4 l' (.tup ps)) r (.tup [.int (numS pz), .ref l'])) l' = some (.tup ps) := s6 _ _ upd_same
          exact ⟨r, l', ps, rfl, upd_same, el, eachs_imp (fun _ _ => partT_s (TupS.of (s5.trans s6))) hdp⟩
end
end DR

namespace DR
open PySem PySem.Spec PyProof.Rows L2
/-! ### two lists of pairs that hold the same things -/
/-- the same thing: a flat value, one object, or data that is alike -/
def SameV (K : PySem.W.Frag) (H : Hp) (v w : V) : Prop := (v = w ∧ (flatB v = true ∨ ∃ c, v = .ref c)) ∨ ∃ d, Dp K H v d ∧ Dp K H w d ∧ d.plain = true ∧ d.depth ≤ 8 ∧ PyData.eqv d d = true
def PairS (K : PySem.W.Frag) (H : Hp) (x y : V) : Prop := ∃ p q z v w, x = .ref p ∧ y = .ref q ∧ SqT K H p [.str z, v] ∧ SqT K H q [.str z, w] ∧ SameV K H v w
def rSameL (K : PySem.W.Frag) (b : Bool) : R2 := fun x y H Q => ∃ a c xs ys, x = .ref a ∧ y = .ref c ∧ SqL K H a xs ∧ SqL K H c ys ∧ PySem.W.EachIs (PairS K H) xs ys ∧ Q (.bl b) H
section
variable {X : Cx} {pins : List (Addr × Obj)} {σ : L2.St} {H : Hp} {s : Shared}
theorem same_run (I : Inv X pins σ H s) {A : Around} (hu : A.units + 20 < cLine) {v w : V} {u z : Value} (h : SameV X.K H v w) (rv : L2.RelV v u) (rw_ : L2.RelV w z) : SeqAt.EqAt A s u z true := by
  rcases h with ⟨rfl, hv⟩ | ⟨d, h1, h2, pl, dp, e⟩
  · rcases hv with hv | ⟨c, rfl⟩
    · exact eqAt_same rv rw_ hv
    · cases (show u = Value.ref c from rv)
      cases (show z = Value.ref c from rw_)
      exact SeqAt.EqAt.same _
  · obtain ⟨as, r1⟩ := Dp.reads I d v u h1 rv
    obtain ⟨bs, r2⟩ := Dp.reads I d w z h2 rw_
    have k := SeqAt.eqAt_plain d d A s u z as bs r1 r2 pl pl (by rw [Nat.min_self]; omega)
    rw [e] at k
    exact k
theorem pairS_run (I : Inv X pins σ H s) {A : Around} (hu : A.units + 22 < cLine) {x y : V} {u z : Value} (h : PairS X.K H x y) (rx : L2.RelV x u) (ry : L2.RelV y z) : SeqAt.EqAt A s u z true := by
  obtain ⟨p, q, t, v, w, rfl, rfl, hp, hq, hv⟩ := h
  cases (show u = Value.ref p from rx)
  cases (show z = Value.ref q from ry)
  by_cases e : p = q
  · subst e
    exact SeqAt.EqAt.same _
  · obtain ⟨us, r1, t1, _⟩ := I.tuple hp
    obtain ⟨ws, r2, t2, _⟩ := I.tuple hq
    refine SeqAt.EqAt.of_refs e ?_
    cases r1 with
    | cons a1 r1 => cases r1 with
    | cons a2 r1 => cases r1 with
    | nil => cases r2 with
    | cons b1 r2 => cases r2 with
    | cons b2 r2 => cases r2 with
    | nil =>
    refine SeqAt.RcAt.tuples (e := fun _ => true) t1 t2 (by omega) fun j h1 h2 => ?_
    match j, h1, h2 with
    | 0, _, _ => exact eqAt_same a1 b1 rfl
    | 1, _, _ => exact same_run I (A := A.in1) (by show A.units + 1 + 20 < cLine; omega) hv a2 b2
    | j + 2, h1, _ =>
      have z : j + 2 < 2 := h1
      omega
theorem pairs_run (I : Inv X pins σ H s) {A : Around} (hu : A.units + 22 < cLine) : ∀ {xs ys : List V}, PySem.W.EachIs (PairS X.K H) xs ys → ∀ {us ws : List Value}, Vals xs us → Vals ys ws → ∀ j (h1 : j < us.length) (h2 : j < ws.length), SeqAt.EqAt A s us[j] ws[j] true
  | _, _, .nil, _, _, r1, r2, j, h1, h2 => by
    cases r1
    exact absurd h1 (Nat.not_lt_zero j)
  | _, _, .cons h t, _, _, r1, r2, j, h1, h2 => by
    cases r1 with
    | cons a1 b1 => cases r2 with
      | cons a2 b2 => cases j with
        | zero => exact pairS_run I hu h a1 a2
        | succ j => exact pairs_run I hu t b1 b2 j (Nat.lt_of_succ_lt_succ h1) (Nat.lt_of_succ_lt_succ h2)
theorem all_true (n : Nat) : ((List.range n).all fun _ => true) = true := List.all_eq_true.mpr fun _ _ => rfl
end
theorem op_eqS {X : Cx} {k : Nat} (hr : Room k X.A) : OpR X (compareOp .Eq) (rSameL X.K true) := by
  intro pins s σ H x y v u Q I rx ry h
  obtain ⟨a, c, xs, ys, rfl, rfl, ha, hc, hp, q⟩ := h
  cases (show v = Value.ref a from rx)
  cases (show u = Value.ref c from ry)
  obtain ⟨us, r1, t1, _⟩ := I.list ha
  obtain ⟨ws, r2, t2, _⟩ := I.list hc
  have hu := hr.units
  have hsz : us.toArray.size = ws.toArray.size := by
    rw [List.size_toArray, List.size_toArray, ← r1.length, ← r2.length]
    exact hp.length
  have k := SeqAt.RcAt.lists (A := X.A) (e := fun _ => true) t1.isList t2.isList hsz (by omega) fun j h1 h2 => by
    have := pairs_run I (A := X.A.in1) (by show X.A.units + 1 + 22 < cLine; omega) hp r1 r2 j (by simpa using h1) (by simpa using h2)
    simpa using this
  rw [all_true] at k
  exact k X.prog X.w _ _ ⟨.bl true, H, I, rfl, q⟩
theorem op_neS {X : Cx} {k : Nat} (hr : Room k X.A) : OpR X (compareOp .NotEq) (rSameL X.K false) := by
  intro pins s σ H x y v u Q I rx ry h
  obtain ⟨a, c, xs, ys, rfl, rfl, ha, hc, hp, q⟩ := h
  cases (show v = Value.ref a from rx)
  cases (show u = Value.ref c from ry)
  obtain ⟨us, r1, t1, _⟩ := I.list ha
  obtain ⟨ws, r2, t2, _⟩ := I.list hc
  have hu := hr.units
  have hsz : us.toArray.size = ws.toArray.size := by
    rw [List.size_toArray, List.size_toArray, ← r1.length, ← r2.length]
    exact hp.length
  have k := SeqAt.RcNeAt.lists (A := X.A) (e := fun _ => true) t1.isList t2.isList hsz (by omega) fun j h1 h2 => by
    have := pairs_run I (A := X.A.in1) (by show X.A.units + 1 + 22 < cLine; omega) hp r1 r2 j (by simpa using h1) (by simpa using h2)
    simpa using this
  rw [all_true] at k
  exact k X.prog X.w _ _ ⟨.bl false, H, I, rfl, q⟩
end DR

namespace DR
open PySem PySem.Spec PyProof.Rows L2
/-! ### _law_odd_right -/
theorem ext_tup {H H' : Hp} (e : LamX.ExtN H H') : TupS H H' := fun b xs h => e _ _ h (by intro x z; cases z)
theorem unG_ext {H H' : Hp} (e : LamX.ExtN H H') {C x : Addr} {qs : List Pk} {ms : MsT} {ns : List Str} (h : UnG H C x qs ms ns) : UnG H' C x qs ms ns := by
  obtain ⟨ok, nd, wr, dx, p, d, m, l, xs, ks, md, h1, h2, h3, h4, h5, h6, h7, h8⟩ := h
  exact ⟨ok, nd, wr, dx, p, d, m, l, xs, ks, md, e _ _ h1 (by intro x z; cases z), e _ _ h2 (by intro x z; cases z), eachs_imp (fun _ _ => pieceG_s (ext_tup e)) h3, e _ _ h4 (by intro x z; cases z), eachs_imp (fun _ _ => adrV_s (ext_tup e)) h5, e _ _ h6 (by intro x z; cases z), eachs_imp (fun _ _ => mdR_s (ext_tup e)) h7, e _ _ h8 (by intro x z; cases z)⟩
variable {K : PySem.W.Frag} {T' : List (Addr × Str)} {C x L d0 : Addr} {xs : List V} {md : List (Key × V)} {qs : List Pk} {ms : MsT} {ns : List Str} in
/-! no tables: so that all stays -/
def nt (G : Hp) : Hp := fun b => match G b with
  | some (.tbl _) => none
  | o => o
theorem nt_has {G : Hp} {b : Addr} {o : HO} (h : G b = some o) (n : ∀ ps, o ≠ .tbl ps) : nt G b = some o := by
  unfold nt
  rw [h]
  cases o <;> first | rfl | exact absurd rfl (n _)
theorem nt_in {G : Hp} {b : Addr} {o : HO} (h : nt G b = some o) : G b = some o ∧ ∀ ps, o ≠ .tbl ps := by
  unfold nt at h
  cases e : G b with
  | none => rw [e] at h; cases h
  | some x =>
    rw [e] at h
    cases x <;> first | (cases h; done) | (obtain rfl := Option.some.inj h; exact ⟨rfl, by intro ps z; cases z⟩)
def NoT (G : Hp) : Prop := ∀ b ps, G b ≠ some (.tbl ps)
theorem nt_no {G : Hp} : NoT (nt G) := fun b ps e => (nt_in e).2 ps rfl
theorem nt_ext {G : Hp} : LamX.ExtN G (nt G) := fun b o e n => nt_has e n
theorem nt_sub {G : Hp} : Same (nt G) G := fun b o e => (nt_in e).1
theorem NoT.same {G H : Hp} (h : NoT G) (e : LamX.ExtN G H) : Same G H := fun b o z => e b o z fun ps y => h b ps (by rw [z, y])
theorem tabs_l {T : List (Addr × Str)} {H H' : Hp} (t : LamX.Tabs T H) (e : ExtL H H') : LamX.Tabs T H' := fun p hp => by
  obtain ⟨tb, h1, h2, h3⟩ := t p hp
  refine ⟨tb, e _ _ h1 (by intro x z; cases z), h2, fun p' cv' q' => ?_⟩
  obtain ⟨c0, z1, z2⟩ := h3 p' cv' q'
  exact ⟨c0, z1, e _ _ z2 (by intro x z; cases z)⟩
theorem err_met {CN CP : Addr} {H : Hp} {y : V} {Q : VK} (q : ∀ H' p, Same H H' → H' p = some (.tup [.str "name", y]) → Q (.ref p) H') : ErrSame (MetE CN CP Q) H CN [("name", y)] := fun H2 dx s hdx =>
  .name upd_same fun p hp => q _ p ((s.trans (same_new hdx)).trans (same_new hp)) upd_same
theorem err_metP {CN CP : Addr} {H : Hp} {y : V} {Q : VK} (q : ∀ H' p, Same H H' → H' p = some (.tup [.str "piece", y]) → Q (.ref p) H') : ErrSame (MetE CN CP Q) H CP [("p", y)] := fun H2 dx s hdx =>
  .piece upd_same fun p hp => q _ p ((s.trans (same_new hdx)).trans (same_new hp)) upd_same
abbrev sOdR : Stmt := topS 50
abbrev NOd : List Str := ["unit", "roots", "odd", "found"]
theorem scOdR : FnScope NOd ["unit", "roots", "odd"] (defScope sOdR) := ⟨rfl, rfl, rfl, by decide +kernel, rfl, by decide +kernel, by decide +kernel⟩
abbrev oB (i : Nat) : Stmt := (defBody sOdR).getD i (.Pass ⟨0, 0, 0, 0⟩)
abbrev qOdd : Str := (envOfC "_law_odd_right" (defScope sOdR) 0 0 .none).qual ++ "<lambda>"
abbrev XOd (P : Program) (w : World) (K : PySem.W.Frag) (mg : Str → Option Value) (base : Heap) (f c : Addr) (A : Around) (outer : List Env) (s : Shared) (H : Hp) (E : XK) : Cx := (cxOf CX0 P w K mg base NOd "_law_odd_right" (defScope sOdR) f (.ref c) A outer s H E).nox
/-- what stands: the unit, its roots, a thing that is no told name -/
structure OdF (K : PySem.W.Frag) (C x RL : Addr) (od : V) (d : PyData) (qs : List Pk) (ms : MsT) (ns rs : List Str) (H : Hp) : Prop where
  un : UnG H C x qs ms ns
  rl : H RL = some (.lst (rs.map V.str))
  ro : RootsR qs ms rs
  th : Th K H od d
  no : toldD ms d = false
  sh : shortS d
theorem OdF.ext {K : PySem.W.Frag} {C x RL : Addr} {od : V} {d : PyData} {qs : List Pk} {ms : MsT} {ns rs : List Str} {H H' : Hp} (h : OdF K C x RL od d qs ms ns rs H) (e : Same H H') : OdF K C x RL od d qs ms ns rs H' :=
  ⟨unG_s e h.un, e _ _ h.rl, h.ro, th_same e h.th, h.no, h.sh⟩
/-- rows with the odd thing in it are refused -/
theorem odd_bad {K : PySem.W.Frag} {C CN CP x RL b : Addr} {od : V} {d : PyData} {qs : List Pk} {ms : MsT} {ns rs ra : List Str} {xs : List V} {ds : List PyData} {H : Hp} {Q : VK} (h : OdF K C x RL od d qs ms ns rs H) (hb : H b = some (.lst (ra.map V.str ++ od :: xs))) (al : ∀ r ∈ ra, toldD ms (.str r) = true ∧ shortS (.str r)) (hx : PySem.W.EachIs (Th K H) xs ds) (sx : ∀ d ∈ ds, shortS d) (q : ∀ H' p, Same H H' → H' p = some (.tup [.str "name", od]) → Q (.ref p) H') : ChkBad K CN H (MetE CN CP Q) ms (.ref b) := by
  have l1 : (ra.map V.str).length = ra.length := List.length_map _
  have l2 : (ra.map PyData.str).length = ra.length := List.length_map _
  refine .inr ⟨b, _, ra.map PyData.str ++ d :: ds, ra.length, od, d, rfl, .inl (SqL.of hb), ?_, fun e he => ?_, ?_, ?_, fun e he => ?_, h.no, err_met q⟩
  · have app : ∀ (ra : List Str), PySem.W.EachIs (Th K H) (ra.map V.str ++ od :: xs) (ra.map PyData.str ++ d :: ds) := by
      intro ra
      induction ra with
      | nil => exact .cons h.th hx
      | cons r ra ih => exact .cons (.dat (.str r)) ih
    exact app ra
  · rcases List.mem_append.mp he with he | he
    · obtain ⟨r, hr, rfl⟩ := List.mem_map.mp he
      exact (al r hr).2
    · rcases List.mem_cons.mp he with rfl | he
      · exact h.sh
      · exact sx e he
  · rw [List.getElem?_append_right (by omega), l1, Nat.sub_self]
    rfl
  · rw [List.getElem?_append_right (by omega), l2, Nat.sub_self]
    rfl
  · rw [List.take_append_of_le_length (by omega), List.take_of_length_le (by omega)] at he
    obtain ⟨r, hr, rfl⟩ := List.mem_map.mp he
    exact (al r hr).1
/-- what is found so far -/
structure Fo (T' : List (Addr × Str)) (G : Hp) (F : Addr) (od : V) (ps : List Addr) (H : Hp) : Prop where
  same : Same G H
  tabs : LamX.Tabs T' H
  lst : H F = some (.lst (ps.map V.ref))
  all : ∀ p ∈ ps, H p = some (.tup [.str "name", od])
theorem Fo.ext {T' : List (Addr × Str)} {G H H' : Hp} {F : Addr} {od : V} {ps : List Addr} (h : Fo T' G F od ps H) (n : NoT G) (e : LamX.ExtN H H') (t : LamX.Tabs T' H') : Fo T' G F od ps H' :=
  ⟨fun b o x => e _ _ (h.same _ _ x) fun qs z => n b qs (by rw [x, z]), t, e _ _ h.lst (by intro x z; cases z), fun p hp => e _ _ (h.all p hp) (by intro x z; cases z)⟩
theorem Fo.add {T' : List (Addr × Str)} {G H : Hp} {F p : Addr} {od : V} {ps : List Addr} (h : Fo T' G F od ps H) (nF : G F = none) (hp : H p = some (.tup [.str "name", od])) : Fo T' G F od (ps ++ [p]) (upd H F (.lst (ps.map V.ref ++ [.ref p]))) := by
  have e := ExtL.put (o := .lst (ps.map V.ref ++ [.ref p])) h.lst
  refine ⟨same_upd h.same nF, tabs_l h.tabs e, by rw [upd_same, List.map_append]; rfl, fun p' hp' => ?_⟩
  rcases List.mem_append.mp hp' with hp' | hp'
  · exact e _ _ (h.all p' hp') (by intro x z; cases z)
  · rw [List.mem_singleton.mp hp']
    exact e _ _ hp (by intro x z; cases z)
section
variable {P : Program} {w : World} {K : PySem.W.Frag} {mg : Str → Option Value} {base : Heap} {f c C CN CP tw : Addr} {T' : List (Addr × Str)} {A : Around} {outer : List Env} {s : Shared} {H0 : Hp} {E : XK}
theorem od0 (M : Met K mg CN CP) (GR : Has P w K mg base (L2.CX P w) 6 "reached" ["unit", "roots"] (spReached K C CN)) (TB : LamX.TabB base mg c tw) (hmT : (tw, qOdd) ∈ T') (hu : ∀ p ∈ T', p.1 = tw → p.2 = qOdd) (hr : Room 12 (XOd P w K mg base f c A outer s H0 E).A) : ∃ t, PS (XOd P w K mg base f c A outer s H0 E) (oB 0) t ∧ ∀ (D : Ends) (H : Hp) (x RL : Addr) (od : V) (d : PyData) (qs : List Pk) (ms : MsT) (ns rs : List Str), OdF K C x RL od d qs ms ns rs H → LamX.Tabs T' H →
      (∀ H' F p1, LamX.ExtN H H' → LamX.Tabs T' H' → nt H F = none → H' F = some (.lst [.ref p1]) → H' p1 = some (.tup [.str "name", od]) → D.nx [some (.ref x), some (.ref RL), some od, some (.ref F)] H') → t D [some (.ref x), some (.ref RL), some od, none] H := by
  refine ⟨_, (ps_set (i := 3) scOdR.nd rfl (.inl rfl) (pe_lst (pa_cons (pe_met (k := 9) (t := fun E => tCall (spReached K C CN) [] E (tCons (tVar 0) (tCons (tOp rCat (tVar 1) (tLst (tCons (tVar 2) (tCons (tC (.int 7)) tNil)))) tNil))) M (by rfl) TB rfl hmT hu (hr.mono (by decide)) (LamX.lamS_by (show LamX.lamSB (defScope sOdR) _ = true by decide +kernel)) rfl (fun _ _ _ _ _ => rfl) fun A outer s H E f c' hr => (pe_callH GR (hr.mono (by decide)) (by rfl) (passes_call (W := fun cls d _ H => E cls d H) (takes_of rfl rfl rfl rfl) (fun _ _ _ _ h => h)) (pa_cons (pv 0) (pa_cons (pe_op op_cat (pv 1) (pe_lst (pa_cons (pv 2) (pa_cons pe_int pa_nil)))) pa_nil)))) pa_nil))), ?_⟩
  intro D H x RL od d qs ms ns rs h ht q
  refine ⟨ht, fun H1 e1 t1 => ?_⟩
  have h1 : OdF K C x RL od d qs ms ns rs H1 := ⟨unG_ext e1 h.un, e1 _ _ h.rl (by intro x z; cases z), h.ro, th_ext e1 h.th, h.no, h.sh⟩
  have few := h.ro.ok.few
  refine ⟨_, rfl, _, rfl, _, rfl, (by show 2 ≤ sizeLine; decide), fun l nl => ?_⟩
  have k1 := same_new (o := .lst [od, .int 7]) nl
  have g1 : upd H1 l (.lst [od, .int 7]) l = some (.lst [od, .int 7]) := upd_same
  have h2 := h1.ext k1
  generalize upd H1 l (.lst [od, .int 7]) = H2 at k1 g1 h2 ⊢
  refine ⟨RL, l, _, _, rfl, rfl, h2.rl, g1, Nat.le_of_lt (small1000 (by rw [List.length_map]; simp; omega)), fun l2 n2 => ?_⟩
  have k2 := same_new (o := .lst (rs.map V.str ++ [od, .int 7])) n2
  have g2 : upd H2 l2 (.lst (rs.map V.str ++ [od, .int 7])) l2 = some (.lst (rs.map V.str ++ [od, .int 7])) := upd_same
  have h3 := h2.ext k2
  generalize upd H2 l2 (.lst (rs.map V.str ++ [od, .int 7])) = H3 at k2 g2 h3 ⊢
  refine ⟨x, qs, ms, ns, .ref l2, rfl, h3.un, .inl (odd_bad h3 g2 h.ro.nm (.cons (.dat (.int 7)) .nil) (fun d hd => by rw [List.mem_singleton.mp hd]; trivial) fun H4 p s4 hp => ?_)⟩
  refine ⟨(by show 1 ≤ sizeLine; decide), fun F hF => ?_⟩
  have k5 := same_new (o := .lst [.ref p]) hF
  have sa : Same H1 (upd H4 F (.lst [.ref p])) := (k1.trans k2).trans (s4.trans k5)
  have nF : nt H F = none := by
    cases e : nt H F with
    | none => rfl
    | some o =>
      obtain ⟨e2, n⟩ := nt_in e
      have h5 := ((k1.trans k2).trans s4) _ _ (e1 _ _ e2 n)
      rw [hF] at h5
      cases h5
  exact q _ F p (e1.trans (.of sa)) (t1.ext sa) nF upd_same (k5 _ _ hp)
theorem od1 (M : Met K mg CN CP) (GS : Has P w K mg base (L2.CX P w) 9 "struck" ["unit", "roots"] (spStruck K C CN)) (TB : LamX.TabB base mg c tw) (hmT : (tw, qOdd) ∈ T') (hu : ∀ p ∈ T', p.1 = tw → p.2 = qOdd) (hr : Room 12 (XOd P w K mg base f c A outer s H0 E).A) : ∃ t, PS (XOd P w K mg base f c A outer s H0 E) (oB 1) t ∧ ∀ (D : Ends) (G H : Hp) (x RL F : Addr) (od : V) (d : PyData) (qs : List Pk) (ms : MsT) (ns rs : List Str) (ps : List Addr), NoT G → OdF K C x RL od d qs ms ns rs G → G F = none → Fo T' G F od ps H → ps.length ≤ 10 →
      (∀ H' p, Fo T' G F od (ps ++ [p]) H' → D.nx [some (.ref x), some (.ref RL), some od, some (.ref F)] H') → t D [some (.ref x), some (.ref RL), some od, some (.ref F)] H := by
  refine ⟨_, (ps_expr (pe_bm PySem.F.plainAttrs_list PySem.F.slot_list_append PySem.F.type_list_append mt_append (pv 3) (pa_cons (pe_met (k := 9) (t := fun E => tCall (spStruck K C CN) [] E (tCons (tVar 0) (tCons (tOp rCat (tLst (tCons (tVar 2) tNil)) (tVar 1)) tNil))) M (by rfl) TB rfl hmT hu (hr.mono (by decide)) (LamX.lamS_by (show LamX.lamSB (defScope sOdR) _ = true by decide +kernel)) rfl (fun _ _ _ _ _ => rfl) fun A outer s H E f c' hr => (pe_callH GS hr (by rfl) (passes_call (W := fun cls d _ H => E cls d H) (takes_of rfl rfl rfl rfl) (fun _ _ _ _ h => h)) (pa_cons (pv 0) (pa_cons (pe_op op_cat (pe_lst (pa_cons (pv 2) pa_nil)) (pv 1)) pa_nil)))) pa_nil))), ?_⟩
  intro D G H x RL F od d qs ms ns rs ps no h nF fo lp q
  refine ⟨_, rfl, .inl ⟨rfl, _, SqL.of fo.lst⟩, fo.tabs, fun H1 e1 t1 => ?_⟩
  have fo1 := fo.ext no e1 t1
  have h1 := h.ext fo1.same
  have few := h.ro.ok.few
  refine ⟨_, rfl, _, rfl, (by show 1 ≤ sizeLine; decide), fun l nl => ?_⟩
  have k1 := same_new (o := .lst [od]) nl
  have g1 : upd H1 l (.lst [od]) l = some (.lst [od]) := upd_same
  have h2 := h1.ext k1
  have fo2 := fo1.ext no (.of k1) (t1.ext k1)
  generalize upd H1 l (.lst [od]) = H2 at k1 g1 h2 fo2 ⊢
  refine ⟨_, rfl, l, RL, _, _, rfl, rfl, g1, h2.rl, Nat.le_of_lt (small1000 (by rw [List.length_map]; simp; omega)), fun l2 n2 => ?_⟩
  have k2 := same_new (o := .lst ([od] ++ rs.map V.str)) n2
  have g2 : upd H2 l2 (.lst ([od] ++ rs.map V.str)) l2 = some (.lst ([od] ++ rs.map V.str)) := upd_same
  have h3 := h2.ext k2
  have fo3 := fo2.ext no (.of k2) (fo2.tabs.ext k2)
  generalize upd H2 l2 (.lst ([od] ++ rs.map V.str)) = H3 at k2 g2 h3 fo3 ⊢
  refine ⟨x, qs, ms, ns, .ref l2, rfl, h3.un, .inl (odd_bad (ra := []) h3 g2 (fun r hr => by cases hr) (ths_str rs) (fun d hd => ?_) fun H4 p s4 hp => ?_)⟩
  · obtain ⟨r, hr, rfl⟩ := List.mem_map.mp hd
    exact (h.ro.nm r hr).2
  · have fo4 := fo3.ext no (.of s4) (fo3.tabs.ext s4)
    exact ⟨F, _, _, rfl, rfl, fo4.lst, small1000 (by rw [List.length_map]; omega), q _ p (fo4.add nF hp)⟩
theorem od2 (M : Met K mg CN CP) (GW : Has P w K mg base (L2.CX P w) 6 "way_to" ["unit", "roots", "p"] (spWayTo K C CN CP)) (TB : LamX.TabB base mg c tw) (hmT : (tw, qOdd) ∈ T') (hu : ∀ p ∈ T', p.1 = tw → p.2 = qOdd) (hr : Room 12 (XOd P w K mg base f c A outer s H0 E).A) : ∃ t, PS (XOd P w K mg base f c A outer s H0 E) (oB 2) t ∧ ∀ (D : Ends) (G H : Hp) (x RL F : Addr) (od : V) (d : PyData) (qs : List Pk) (ms : MsT) (ns rs : List Str) (ps : List Addr), NoT G → OdF K C x RL od d qs ms ns rs G → G F = none → Fo T' G F od ps H → ps.length ≤ 10 →
      (∀ H' p, Fo T' G F od (ps ++ [p]) H' → D.nx [some (.ref x), some (.ref RL), some od, some (.ref F)] H') → t D [some (.ref x), some (.ref RL), some od, some (.ref F)] H := by
  refine ⟨_, (ps_expr (pe_bm PySem.F.plainAttrs_list PySem.F.slot_list_append PySem.F.type_list_append mt_append (pv 3) (pa_cons (pe_met (k := 9) (t := fun E => tCall (spWayTo K C CN CP) [] E (tCons (tVar 0) (tCons (tLst (tCons (tVar 2) tNil)) (tCons (tVar 2) tNil)))) M (by rfl) TB rfl hmT hu (hr.mono (by decide)) (LamX.lamS_by (show LamX.lamSB (defScope sOdR) _ = true by decide +kernel)) rfl (fun _ _ _ _ _ => rfl) fun A outer s H E f c' hr => (pe_callH GW (hr.mono (by decide)) (by rfl) (passes_call (W := fun cls d _ H => E cls d H) (takes_of rfl rfl rfl rfl) (fun _ _ _ _ h => h)) (pa_cons (pv 0) (pa_cons (pe_lst (pa_cons (pv 2) pa_nil)) (pa_cons (pv 2) pa_nil))))) pa_nil))), ?_⟩
  intro D G H x RL F od d qs ms ns rs ps no h nF fo lp q
  refine ⟨_, rfl, .inl ⟨rfl, _, SqL.of fo.lst⟩, fo.tabs, fun H1 e1 t1 => ?_⟩
  have fo1 := fo.ext no e1 t1
  have h1 := h.ext fo1.same
  refine ⟨_, rfl, _, rfl, (by show 1 ≤ sizeLine; decide), fun l nl => ?_⟩
  have k1 := same_new (o := .lst [od]) nl
  have g1 : upd H1 l (.lst [od]) l = some (.lst [od]) := upd_same
  have h2 := h1.ext k1
  have fo2 := fo1.ext no (.of k1) (t1.ext k1)
  generalize upd H1 l (.lst [od]) = H2 at k1 g1 h2 fo2 ⊢
  refine ⟨_, rfl, x, qs, ms, ns, .ref l, od, rfl, h2.un, .inl (odd_bad (ra := []) (xs := []) (ds := []) h2 g1 (fun r hr => by cases hr) .nil (fun d hd => by cases hd) fun H4 p s4 hp => ?_)⟩
  have fo4 := fo2.ext no (.of s4) (fo2.tabs.ext s4)
  exact ⟨F, _, _, rfl, rfl, fo4.lst, small1000 (by rw [List.length_map]; omega), q _ p (fo4.add nF hp)⟩
end
end DR

namespace DR
open PySem PySem.Spec PyProof.Rows L2
theorem th_flat {K : PySem.W.Frag} {H : Hp} {v : V} {d : PyData} (h : Th K H v d) : flatB v = true ∨ ∃ c, v = .ref c := by
  cases h with
  | dat h => cases h <;> first | exact .inl rfl | exact .inr ⟨_, rfl⟩
  | dct h => exact .inr ⟨_, rfl⟩
theorem same_of {K : PySem.W.Frag} {H : Hp} {v : V} (h : flatB v = true ∨ ∃ c, v = .ref c) : SameV K H v v := .inl ⟨rfl, h⟩
section
variable {P : Program} {w : World} {K : PySem.W.Frag} {mg : Str → Option Value} {base : Heap} {f c C CN CP tw : Addr} {T' : List (Addr × Str)} {A : Around} {outer : List Env} {s : Shared} {H0 : Hp} {E : XK}
theorem od3 (hr : Room 12 (XOd P w K mg base f c A outer s H0 E).A) : ∃ t, PS (XOd P w K mg base f c A outer s H0 E) (oB 3) t ∧ ∀ (D : Ends) (G H : Hp) (x RL F : Addr) (od : V) (p1 p2 p3 : Addr), NoT G → (flatB od = true ∨ ∃ c, od = .ref c) → Fo T' G F od [p1, p2, p3] H →
      (∀ H', Same H H' → D.nx [some (.ref x), some (.ref RL), some od, some (.ref F)] H') → t D [some (.ref x), some (.ref RL), some od, some (.ref F)] H := by
  refine ⟨_, (ps_if (pt_cmpR (op_neS hr) (pv 3) (pe_op op_rep (pe_lst (pa_cons (pe_tup (pa_cons pe_str (pa_cons (pv 2) pa_nil))) pa_nil)) pe_int) (nomark _)) (pss_one (ps_ret pe_bl)) pss_nil), ?_⟩
  intro D G H x RL F od p1 p2 p3 no fl fo q
  refine ⟨_, rfl, _, rfl, (by show 2 ≤ sizeLine; decide), fun t nt => ?_⟩
  have k1 := same_new (o := .tup [.str "name", od]) nt
  have g1 : upd H t (.tup [.str "name", od]) t = some (.tup [.str "name", od]) := upd_same
  generalize upd H t (.tup [.str "name", od]) = H1 at k1 g1 ⊢
  refine ⟨(by show 1 ≤ sizeLine; decide), fun l nl => ?_⟩
  have k2 := same_new (o := .lst [.ref t]) nl
  have g2 : upd H1 l (.lst [.ref t]) l = some (.lst [.ref t]) := upd_same
  have g1' := k2 _ _ g1
  generalize upd H1 l (.lst [.ref t]) = H2 at k2 g2 g1' ⊢
  refine ⟨l, 3, _, rfl, rfl, g2, by decide, by decide, (by show 1 * 3 ≤ sizeLine; decide), fun r nr => ?_⟩
  have k3 := same_new (o := .lst [.ref t, .ref t, .ref t]) nr
  show rSameL K false _ _ (upd H2 r (.lst [.ref t, .ref t, .ref t])) _
  have g3 : upd H2 r (.lst [.ref t, .ref t, .ref t]) r = some (.lst [.ref t, .ref t, .ref t]) := upd_same
  have g1'' := k3 _ _ g1'
  generalize upd H2 r (.lst [.ref t, .ref t, .ref t]) = H3 at k3 g3 g1'' ⊢
  have s3 := (k1.trans k2).trans k3
  have pr : ∀ p, p ∈ [p1, p2, p3] → PairS K H3 (.ref p) (.ref t) := fun p hp => ⟨p, t, "name", od, od, rfl, rfl, SqT.of (s3 _ _ (fo.all p hp)), SqT.of g1'', same_of fl⟩
  exact ⟨F, r, _, _, rfl, rfl, SqL.of (s3 _ _ fo.lst), SqL.of g3, .cons (pr p1 (by simp)) (.cons (pr p2 (by simp)) (.cons (pr p3 (by simp)) .nil)), _, rfl, iteF (q H3 s3)⟩
end
end DR

namespace DR
open PySem PySem.Spec PyProof.Rows L2
section
variable {P : Program} {w : World} {K : PySem.W.Frag} {mg : Str → Option Value} {base : Heap} {f c C CN CP tw : Addr} {T' : List (Addr × Str)} {A : Around} {outer : List Env} {s : Shared} {H0 : Hp} {E : XK}
theorem od5 (M : Met K mg CN CP) (GS : Has P w K mg base (L2.CX P w) 9 "struck" ["unit", "roots"] (spStruck K C CN)) (TB : LamX.TabB base mg c tw) (hmT : (tw, qOdd) ∈ T') (hu : ∀ p ∈ T', p.1 = tw → p.2 = qOdd) (hr : Room 12 (XOd P w K mg base f c A outer s H0 E).A) : ∃ t, PS (XOd P w K mg base f c A outer s H0 E) (oB 5) t ∧ ∀ (D : Ends) (H : Hp) (x : Addr) (o1 o2 o3 : Option V) (qs : List Pk) (ms : MsT) (ns : List Str), UnG H C x qs ms ns → LamX.Tabs T' H →
      (∀ H' F p, nt H F = none → LamX.ExtN H H' → Fo T' (nt H) F .non [p] H' → D.nx [some (.ref x), o1, o2, some (.ref F)] H') → t D [some (.ref x), o1, o2, o3] H := by
  refine ⟨_, (ps_set (i := 3) scOdR.nd rfl (.inl rfl) (pe_lst (pa_cons (pe_met (k := 9) (t := fun E => tCall (spStruck K C CN) [] E (tCons (tVar 0) (tCons (tC .non) tNil))) M (by rfl) TB rfl hmT hu (hr.mono (by decide)) (LamX.lamS_by (show LamX.lamSB (defScope sOdR) _ = true by decide +kernel)) rfl (fun _ _ _ _ _ => rfl) fun A outer s H E f c' hr => (pe_callH GS hr (by rfl) (passes_call (W := fun cls d _ H => E cls d H) (takes_of rfl rfl rfl rfl) (fun _ _ _ _ h => h)) (pa_cons (pv 0) (pa_cons pe_non pa_nil)))) pa_nil))), ?_⟩
  intro D H x o1 o2 o3 qs ms ns un ht q
  refine ⟨ht, fun H1 e1 t1 => ?_⟩
  refine ⟨_, rfl, x, qs, ms, ns, .non, rfl, unG_ext e1 un, .inl (.inl ⟨.none, .dat .non, rfl, err_met fun H4 p s4 hp => ?_⟩)⟩
  refine ⟨(by show 1 ≤ sizeLine; decide), fun F hF => ?_⟩
  have k5 := same_new (o := .lst [.ref p]) hF
  have sa := s4.trans k5
  have nF : nt H F = none := by
    cases e : nt H F with
    | none => rfl
    | some o =>
      obtain ⟨e2, n⟩ := nt_in e
      have h5 := s4 _ _ (e1 _ _ e2 n)
      rw [hF] at h5
      cases h5
  refine q _ F p nF (e1.trans (.of sa)) ⟨fun b o e => ?_, t1.ext sa, upd_same, fun p' hp' => ?_⟩
  · obtain ⟨e2, n⟩ := nt_in e
    exact sa _ _ (e1 _ _ e2 n)
  · rw [List.mem_singleton.mp hp']
    exact k5 _ _ hp
theorem od6 (M : Met K mg CN CP) (GR : Has P w K mg base (L2.CX P w) 6 "reached" ["unit", "roots"] (spReached K C CN)) (TB : LamX.TabB base mg c tw) (hmT : (tw, qOdd) ∈ T') (hu : ∀ p ∈ T', p.1 = tw → p.2 = qOdd) (hr : Room 12 (XOd P w K mg base f c A outer s H0 E).A) : ∃ t, PS (XOd P w K mg base f c A outer s H0 E) (oB 6) t ∧ ∀ (D : Ends) (G H : Hp) (x F : Addr) (o1 o2 : Option V) (qs : List Pk) (ms : MsT) (ns : List Str) (ps : List Addr), NoT G → UnG G C x qs ms ns → G F = none → Fo T' G F .non ps H → ps.length ≤ 10 →
      (∀ H' p, Fo T' G F .non (ps ++ [p]) H' → D.nx [some (.ref x), o1, o2, some (.ref F)] H') → t D [some (.ref x), o1, o2, some (.ref F)] H := by
  refine ⟨_, (ps_expr (pe_bm PySem.F.plainAttrs_list PySem.F.slot_list_append PySem.F.type_list_append mt_append (pv 3) (pa_cons (pe_met (k := 9) (t := fun E => tCall (spReached K C CN) [] E (tCons (tVar 0) (tCons (tC (.str "a")) tNil))) M (by rfl) TB rfl hmT hu (hr.mono (by decide)) (LamX.lamS_by (show LamX.lamSB (defScope sOdR) _ = true by decide +kernel)) rfl (fun _ _ _ _ _ => rfl) fun A outer s H E f c' hr => (pe_callH GR (hr.mono (by decide)) (by rfl) (passes_call (W := fun cls d _ H => E cls d H) (takes_of rfl rfl rfl rfl) (fun _ _ _ _ h => h)) (pa_cons (pv 0) (pa_cons pe_str pa_nil)))) pa_nil))), ?_⟩
  intro D G H x F o1 o2 qs ms ns ps no un nF fo lp q
  refine ⟨_, rfl, .inl ⟨rfl, _, SqL.of fo.lst⟩, fo.tabs, fun H1 e1 t1 => ?_⟩
  have fo1 := fo.ext no e1 t1
  refine ⟨_, rfl, x, qs, ms, ns, .str "a", rfl, unG_s fo1.same un, .inl (.inl ⟨.str "a", .dat (.str _), rfl, err_met fun H4 p s4 hp => ?_⟩)⟩
  have fo4 := fo1.ext no (.of s4) (fo1.tabs.ext s4)
  exact ⟨F, _, _, rfl, rfl, fo4.lst, small1000 (by rw [List.length_map]; omega), q _ p (fo4.add nF hp)⟩
theorem od7 (hr : Room 12 (XOd P w K mg base f c A outer s H0 E).A) : ∃ t, PS (XOd P w K mg base f c A outer s H0 E) (oB 7) t ∧ ∀ (D : Ends) (G H : Hp) (x F : Addr) (o1 o2 : Option V) (p1 p2 : Addr), Fo T' G F .non [p1, p2] H →
      (∀ H', Same H H' → D.rt (.bl true) H') → t D [some (.ref x), o1, o2, some (.ref F)] H := by
  refine ⟨_, (ps_ret (pe_cmpR (op_eqS hr) (pv 3) (pe_op op_rep (pe_lst (pa_cons (pe_tup (pa_cons pe_str (pa_cons pe_non pa_nil))) pa_nil)) pe_int) (nomark _))), ?_⟩
  intro D G H x F o1 o2 p1 p2 fo q
  refine ⟨_, rfl, (by show 2 ≤ sizeLine; decide), fun t nt => ?_⟩
  have k1 := same_new (o := .tup [.str "name", .non]) nt
  have g1 : upd H t (.tup [.str "name", .non]) t = some (.tup [.str "name", .non]) := upd_same
  generalize upd H t (.tup [.str "name", .non]) = H1 at k1 g1 ⊢
  refine ⟨(by show 1 ≤ sizeLine; decide), fun l nl => ?_⟩
  have k2 := same_new (o := .lst [.ref t]) nl
  have g2 : upd H1 l (.lst [.ref t]) l = some (.lst [.ref t]) := upd_same
  have g1' := k2 _ _ g1
  generalize upd H1 l (.lst [.ref t]) = H2 at k2 g2 g1' ⊢
  refine ⟨l, 2, _, rfl, rfl, g2, by decide, by decide, (by show 1 * 2 ≤ sizeLine; decide), fun r nr => ?_⟩
  have k3 := same_new (o := .lst [.ref t, .ref t]) nr
  show rSameL K true _ _ (upd H2 r (.lst [.ref t, .ref t])) _
  have g3 : upd H2 r (.lst [.ref t, .ref t]) r = some (.lst [.ref t, .ref t]) := upd_same
  have g1'' := k3 _ _ g1'
  generalize upd H2 r (.lst [.ref t, .ref t]) = H3 at k3 g3 g1'' ⊢
  have s3 := (k1.trans k2).trans k3
  have pr : ∀ p, p ∈ [p1, p2] → PairS K H3 (.ref p) (.ref t) := fun p hp => ⟨p, t, "name", .non, .non, rfl, rfl, SqT.of (s3 _ _ (fo.all p hp)), SqT.of g1'', same_of (.inl rfl)⟩
  exact ⟨F, r, _, _, rfl, rfl, SqL.of (s3 _ _ fo.lst), SqL.of g3, .cons (pr p1 (by simp)) (.cons (pr p2 (by simp)) .nil), q H3 s3⟩
end
end DR

namespace DR
open PySem PySem.Spec PyProof.Rows L2
/-- two pairs that hold the same things -/
def rNePairS (K : PySem.W.Frag) : R2 := fun x y H Q => PairS K H x y ∧ Q (.bl false) H
theorem op_nePairS {X : Cx} {k : Nat} (hr : Room k X.A) : OpR X (compareOp .NotEq) (rNePairS X.K) := by
  intro pins s σ H x y v u Q I rx ry h
  obtain ⟨⟨p, q, z, a, b, rfl, rfl, hp, hq, hv⟩, qq⟩ := h
  cases (show v = Value.ref p from rx)
  cases (show u = Value.ref q from ry)
  obtain ⟨us, r1, t1, _⟩ := I.tuple hp
  obtain ⟨ws, r2, t2, _⟩ := I.tuple hq
  have hu := hr.units
  cases r1 with
  | cons a1 r1 => cases r1 with
  | cons a2 r1 => cases r1 with
  | nil => cases r2 with
  | cons b1 r2 => cases r2 with
  | cons b2 r2 => cases r2 with
  | nil =>
  have kk := SeqAt.RcNeAt.tuples (A := X.A) (e := fun _ => true) t1 t2 (by omega) fun j h1 h2 => by
    match j, h1, h2 with
    | 0, _, _ => exact eqAt_same a1 b1 rfl
    | 1, _, _ => exact same_run I (A := X.A.in1) (by show X.A.units + 1 + 20 < cLine; omega) hv a2 b2
    | j + 2, h1, _ =>
      have z : j + 2 < 2 := h1
      omega
  exact kk X.prog X.w _ _ ⟨.bl false, H, I, rfl, qq⟩
end DR

namespace DR
open PySem PySem.Spec PyProof.Rows L2
open AutoSeq1 (wpAny_loadPart')
/-! ### a dict is no text -/
section
variable {prog : Program} {w : World} {A : Around} {E : Value → Shared → Prop} {s : Shared}
theorem call_dict_ne_str {a : Addr} {z : Str} {u : Tok} {Q : Value → Shared → Prop} (ha : s.TypeIs (.ref a) "dict") (q : Q .notImplemented s) : wpAny (model prog w) A (call (.builtin "dict.__ne__") [.ref a, .str z u]) Q E s := by
  refine wpAny_call_entry PySem.F.slot_dict_ne ha PySem.F.entry_dict_ne ?_ (PySem.F.args_dict_ne_2 _ _)
  show wpAny _ _ (Builtin.Dict.dictSlotArgs "__ne__" ⟨[.ref a, .str z u], []⟩ >>= _) _ _ s
  refine wpAny_bind ?_
  unfold Builtin.Dict.dictSlotArgs
  refine wpAny_bind (wpAny_notOrdered_dict ha ?_)
  show wpAny _ _ (pure (Value.ref a, Value.str z u)) _ _ s
  refine wpAny_pure ?_
  refine wpAny_bind (wpAny_isInstance (T := "str") (typeIs_str s z u) PySem.F.sub_str_dict ?_)
  simp only [Bool.not_false, if_true]
  refine wpAny_bind (wpAny_rule ?_)
  exact wpAny_pure ⟨_, rfl, q⟩
theorem str_ne_declines_dict (b : Str) (u : Tok) (l : Addr) (c : Value) (es : Array DictEntry) (ep : Nat) (dd : Option Addr) (sl : Array (Option Value)) :
    Meets (Builtin.«str.__ne__» ⟨[.str b u, .ref l], []⟩) (fun _ R s => s.heap.get? l = some { cls := c, dict := dd, data := .dict es ep, slots := sl } ∧ R (.ok (.ret .notImplemented)) s) :=
  .of_wp fun prog w A R s h => by obtain ⟨hp, g, d, tk, os⟩ := s; obtain ⟨hl, h⟩ := h; wp_walk using wpAny_loadPart' hl, wpAny_load hl; exact ⟨_, rfl, h⟩
theorem rcNe_dict_str {a : Addr} {o : Obj} {es : Array DictEntry} {ep : Nat} (ho : s.heap.get? a = some o) (ex : o.ExactDict) (hd : o.data = .dict es ep) (z : Str) (u : Tok) (hu : A.units < cLine) : SeqAt.RcNeAt A s (.ref a) (.str z u) true := fun prog w E Q h => by
  obtain ⟨cls, dd, data, sl⟩ := o
  obtain ⟨h1, h2, h3⟩ := ex
  simp only at h1 hd
  subst h1 hd
  exact SeqAt.rc_ne_decline_or (k := false) ⟨_, ho, rfl⟩ (typeIs_str s z u) (by decide) F.sub_str_dict F.slot_dict_ne F.slot_str_ne_refl
    (fun _ hq => call_dict_ne_str ⟨_, ho, rfl⟩ hq)
    (fun _ hq => call_meets F.slot_str_ne_refl (typeIs_str s z u) F.entry_str_ne (F.args_str_ne_2 _ _) (str_ne_declines_dict z u a (.type "dict") es ep dd sl) ⟨ho, hq⟩)
    (fun _ hq => wpAny_of_eq (rfl : isSame (.ref a) (.str z u) = pure false) hq) (.inr hu) h
end
/-- != of a thing with a text -/
def rNeT (K : PySem.W.Frag) : R2 := fun x y H Q => ∃ d z, y = .str z ∧ Th K H x d ∧ (d.plain = true ∧ d.depth ≤ 60 ∨ d = .dict []) ∧ Q (.bl (!PyData.eqv d (.str z))) H
theorem dp_dict {K : PySem.W.Frag} {H : Hp} {v : V} {ps : List (PyData × PyData)} : ¬ Dp K H v (.dict ps) := fun h => by cases h
theorem op_neT {X : Cx} {k : Nat} (hr : Room k X.A) : OpR X (compareOp .NotEq) (rNeT X.K) := by
  intro pins s σ H x y v u Q I rx ry h
  obtain ⟨d, z, rfl, th, hp, q⟩ := h
  have hu := hr.units
  cases th with
  | dat hd =>
    rcases hp with ⟨p1, p2⟩ | rfl
    · exact op_neP hr pins s σ H x (.str z) v u Q I rx ry ⟨d, .str z, hd, .str z, p1, rfl, p2, q⟩
    · exact absurd hd dp_dict
  | @dct a kvs ha =>
    obtain rfl : v = Value.ref a := rx
    obtain ⟨n, rfl⟩ : ∃ n, u = Value.str z n := ry
    obtain ⟨_, ya, va, ra, da⟩ := (show ObjOk X.prog X.w H s.heap a (.dK kvs) from I.hok a _ ha)
    obtain ⟨o, es, ep, ho, ex, hd, _⟩ := da
    exact rcNe_dict_str ho ex hd z n (by omega) X.prog X.w _ _ ⟨.bl _, H, I, rfl, q⟩
section
variable {P : Program} {w : World} {K : PySem.W.Frag} {mg : Str → Option Value} {base : Heap} {f c C CN CP tw : Addr} {T' : List (Addr × Str)} {A : Around} {outer : List Env} {s : Shared} {H0 : Hp} {E : XK}
theorem od4 (M : Met K mg CN CP) (GW : Has P w K mg base (L2.CX P w) 6 "way_to" ["unit", "roots", "p"] (spWayTo K C CN CP)) (TB : LamX.TabB base mg c tw) (hmT : (tw, qOdd) ∈ T') (hu : ∀ p ∈ T', p.1 = tw → p.2 = qOdd) (hr : Room 12 (XOd P w K mg base f c A outer s H0 E).A) : ∃ t, PS (XOd P w K mg base f c A outer s H0 E) (oB 4) t ∧ ∀ (D : Ends) (H : Hp) (x RL F : Addr) (od : V) (d : PyData) (qs : List Pk) (ms : MsT) (ns rs : List Str), OdF K C x RL od d qs ms ns rs H → (d.plain = true ∧ d.depth ≤ 60 ∨ d = .dict []) → (d ≠ .str "pa" → pieceD qs d = false) → LamX.Tabs T' H →
      (∀ H', LamX.ExtN H H' → LamX.Tabs T' H' → D.nx [some (.ref x), some (.ref RL), some od, some (.ref F)] H') → t D [some (.ref x), some (.ref RL), some od, some (.ref F)] H := by
  refine ⟨_, (ps_if (PW.pt (pw_and (pt_cmpR (op_neT hr) (pv 2) pe_str (nomark _)) (pw_and1 (pt_cmpR (op_nePairS hr) (pe_met (k := 9) (t := fun E => tCall (spWayTo K C CN CP) [] E (tCons (tVar 0) (tCons (tVar 1) (tCons (tVar 2) tNil)))) M (by rfl) TB rfl hmT hu (hr.mono (by decide)) (LamX.lamS_by (show LamX.lamSB (defScope sOdR) _ = true by decide +kernel)) rfl (fun _ _ _ _ _ => rfl) fun A outer s H E f c' hr => (pe_callH GW (hr.mono (by decide)) (by rfl) (passes_call (W := fun cls d _ H => E cls d H) (takes_of rfl rfl rfl rfl) (fun _ _ _ _ h => h)) (pa_cons (pv 0) (pa_cons (pv 1) (pa_cons (pv 2) pa_nil))))) (pe_tup (pa_cons pe_str (pa_cons (pv 2) pa_nil))) (nomark _))))) (pss_one (ps_ret pe_bl)) pss_nil), ?_⟩
  intro D H x RL F od d qs ms ns rs h pl pd ht q
  refine ⟨_, rfl, d, "pa", rfl, h.th, pl, ?_⟩
  cases ee : PyData.eqv d (.str "pa") with
  | true =>
    exact ⟨false, rfl, iteF (iteF (q H (LamX.ExtN.refl _) ht))⟩
  | false =>
    have nd : d ≠ .str "pa" := by
      rintro rfl
      exact absurd ee (by decide +kernel)
    refine ⟨true, rfl, iteT ⟨ht, fun H1 e1 t1 => ?_⟩⟩
    have h1 : OdF K C x RL od d qs ms ns rs H1 := ⟨unG_ext e1 h.un, e1 _ _ h.rl (by intro x z; cases z), h.ro, th_ext e1 h.th, h.no, h.sh⟩
    refine ⟨_, rfl, _, rfl, _, rfl, x, qs, ms, ns, .ref RL, od, rfl, h1.un, .inr ⟨RL, rs, d, rfl, .inl (SqL.of h1.rl), h1.ro, h1.th, h1.sh, fun _ => err_metP fun H4 p s4 hp => ?_, fun z ez pz => ?_⟩⟩
    · refine ⟨_, rfl, (by show 2 ≤ sizeLine; decide), fun tt nt => ?_⟩
      have k1 := same_new (o := .tup [.str "piece", od]) nt
      refine ⟨⟨p, tt, "piece", od, od, rfl, rfl, SqT.of (k1 _ _ hp), SqT.of upd_same, same_of (th_flat h.th)⟩, ?_⟩
      have sa := s4.trans k1
      exact ⟨_, rfl, iteF (q _ (e1.trans (.of sa)) (t1.ext sa))⟩
    · rw [pd nd] at pz
      cases pz
end
end DR

namespace DR
open PySem PySem.Spec PyProof.Rows L2
def spOddR (K : PySem.W.Frag) (T' : List (Addr × Str)) (C : Addr) : Sp := fun vs H Q _ => ∃ (x RL : Addr) (od : V) (d : PyData) (qs : List Pk) (ms : MsT) (ns rs : List Str), vs = [.ref x, .ref RL, od] ∧ OdF K C x RL od d qs ms ns rs H ∧ (d.plain = true ∧ d.depth ≤ 60 ∨ d = .dict []) ∧ (d ≠ .str "pa" → pieceD qs d = false) ∧ LamX.Tabs T' H ∧
  ∀ H', LamX.ExtN H H' → LamX.Tabs T' H' → Q (.bl true) H'
theorem ok_oddR {P : Program} {w : World} {K : PySem.W.Frag} {mg : Str → Option Value} {base : Heap} {C CN CP f c tw : Addr} {fd : FuncData} {T' : List (Addr × Str)} (F : FunM K "_law_odd_right" "_law_odd_right" sOdR c f fd) (M : Met K mg CN CP) (GR : Has P w K mg base (L2.CX P w) 6 "reached" ["unit", "roots"] (spReached K C CN)) (GS : Has P w K mg base (L2.CX P w) 9 "struck" ["unit", "roots"] (spStruck K C CN)) (GW : Has P w K mg base (L2.CX P w) 6 "way_to" ["unit", "roots", "p"] (spWayTo K C CN CP)) (TB : LamX.TabB base mg c tw) (hmT : (tw, qOdd) ∈ T') (hu : ∀ p ∈ T', p.1 = tw → p.2 = qOdd) : FnOk P w K mg base CX0 13 f fd ["unit", "roots", "odd"] (spOddR K T' C) := by
  refine F.okC scOdR (fun vs H Q E h => ?_) (fun A outer s H vs Q E hr h => ?_)
  · obtain ⟨x, RL, od, d, qs, ms, ns, rs, rfl, _⟩ := h
    rfl
  · obtain ⟨x, RL, od, d, qs, ms, ns, rs, rfl, h, pl, pd, ht, q⟩ := h
    obtain ⟨t0, h0, q0⟩ := od0 (E := E) (A := A) (outer := outer) (s := s) (H0 := H) (f := f) (c := c) M GR TB hmT hu hr
    obtain ⟨t1, h1, q1⟩ := od1 (E := E) (A := A) (outer := outer) (s := s) (H0 := H) (f := f) (c := c) M GS TB hmT hu hr
    obtain ⟨t2, h2, q2⟩ := od2 (E := E) (A := A) (outer := outer) (s := s) (H0 := H) (f := f) (c := c) M GW TB hmT hu hr
    obtain ⟨t3, h3, q3⟩ := od3 (E := E) (A := A) (outer := outer) (s := s) (H0 := H) (f := f) (c := c) hr
    obtain ⟨t4, h4, q4⟩ := od4 (E := E) (A := A) (outer := outer) (s := s) (H0 := H) (f := f) (c := c) M GW TB hmT hu hr
    obtain ⟨t5, h5, q5⟩ := od5 (E := E) (A := A) (outer := outer) (s := s) (H0 := H) (f := f) (c := c) M GS TB hmT hu hr
    obtain ⟨t6, h6, q6⟩ := od6 (E := E) (A := A) (outer := outer) (s := s) (H0 := H) (f := f) (c := c) M GR TB hmT hu hr
    obtain ⟨t7, h7, q7⟩ := od7 (E := E) (A := A) (outer := outer) (s := s) (H0 := H) (f := f) (c := c) hr
    refine ⟨_, PSs.nox (pss_cons h0 (pss_cons h1 (pss_cons h2 (pss_cons h3 (pss_cons h4 (pss_cons h5 (pss_cons h6 (pss_one h7)))))))), ?_⟩
    refine q0 _ H x RL od d qs ms ns rs h ht fun H1 F1 p1 e1 t1 nF hF hp => ?_
    have hG : OdF K C x RL od d qs ms ns rs (nt H) := ⟨unG_ext nt_ext h.un, nt_has h.rl (by intro x z; cases z), h.ro, th_ext nt_ext h.th, h.no, h.sh⟩
    have f1 : Fo T' (nt H) F1 od [p1] H1 := ⟨fun b o e => by
      obtain ⟨e2, n⟩ := nt_in e
      exact e1 _ _ e2 n, t1, hF, fun p hp' => by rw [List.mem_singleton.mp hp']; exact hp⟩
    refine q1 _ (nt H) H1 x RL F1 od d qs ms ns rs [p1] nt_no hG nF f1 (by simp) fun H2 p2 f2 => ?_
    refine q2 _ (nt H) H2 x RL F1 od d qs ms ns rs [p1, p2] nt_no hG nF f2 (by simp) fun H3 p3 f3 => ?_
    refine q3 _ (nt H) H3 x RL F1 od p1 p2 p3 nt_no (th_flat h.th) f3 fun H4 s4 => ?_
    have f4 : Fo T' (nt H) F1 od [p1, p2, p3] H4 := f3.ext nt_no (.of s4) (f3.tabs.ext s4)
    refine q4 _ H4 x RL F1 od d qs ms ns rs (hG.ext f4.same) pl pd f4.tabs fun H5 e5 t5 => ?_
    have f5 := f4.ext nt_no e5 t5
    refine q5 _ H5 x _ _ _ qs ms ns (hG.ext f5.same).un t5 fun H6 F6 p6 nF6 e6 f6 => ?_
    have u6 : UnG (nt H5) C x qs ms ns := unG_ext nt_ext (hG.ext f5.same).un
    refine q6 _ (nt H5) H6 x F6 _ _ qs ms ns [p6] nt_no u6 nF6 f6 (by simp) fun H7 p7 f7 => ?_
    refine q7 _ (nt H5) H7 x F6 _ _ p6 p7 f7 fun H8 s8 => ?_
    have e8 : LamX.ExtN H H8 := fun b o e n => by
      have z1 := hG
      have z2 : nt H5 b = some o := nt_has (f5.same b o (nt_has e n)) n
      exact s8 _ _ (f7.same b o z2)
    exact q H8 e8 (f7.tabs.ext s8)
end DR

namespace DR
open PySem PySem.Spec PyProof.Rows L2
/-! ### what is drawn: mathematics -/
def nm6 : List Str := ["pa", "pb", "pc", "pd", "pe", "pf"]
def menu4 : List Str := ["a", "pb", "c", "pd"]
theorem nm6_ok : ∀ z ∈ nm6, NmOk z := fun z hz => by
  have h : ∀ z ∈ nm6, isNmS z = true ∧ z.length ≤ 1000 := by decide +kernel
  exact ⟨(h z hz).1, (h z hz).2⟩
theorem menu4_ok : ∀ z ∈ menu4, NmOk z := fun z hz => by
  have h : ∀ z ∈ menu4, isNmS z = true ∧ z.length ≤ 1000 := by decide +kernel
  exact ⟨(h z hz).1, (h z hz).2⟩
/-- an unknown that is drawn -/
def OkU (zs : List Str) (u : List Key) : Prop := (∃ z ∈ zs, u = [.inr sPiece, .inr z]) ∨ ∃ z ∈ menu4, u = [.inr sName, .inr z]
theorem OkU.uk {zs : List Str} (hz : ∀ z ∈ zs, z ∈ nm6) {u : List Key} (h : OkU zs u) : UkP u := by
  rcases h with ⟨z, m, rfl⟩ | ⟨z, m, rfl⟩
  · exact ⟨sPiece, z, .inl rfl, rfl, nm6_ok z (hz z m)⟩
  · exact ⟨sName, z, .inr rfl, rfl, menu4_ok z m⟩
def namesP (q : Pk) : List Str := q.2.2.flatMap namesW
theorem namesQ_eq (qs : List Pk) : namesQ qs = qs.flatMap namesP := by
  unfold namesQ adrs
  induction qs with
  | nil => rfl
  | cons q qs ih =>
    rw [List.flatMap_cons, List.flatMap_append, ih, List.flatMap_cons]
    congr 1
    unfold adrsP namesP
    rw [List.flatMap_map]
    have e : ∀ (l : List (Int × Mul)) (k : Nat), (l.zipIdx k).flatMap (fun wk => namesW wk.1) = l.flatMap namesW := by
      intro l
      induction l with
      | nil => intro k; rfl
      | cons a l ih => intro k; rw [List.zipIdx_cons, List.flatMap_cons, List.flatMap_cons, ih]
    exact e _ _
theorem abs_isU (v u : List Key) (m : Int) : (m * isU v u).natAbs ≤ m.natAbs := by
  unfold isU
  split
  · simp
  · simp
theorem lin_abs (v : List Key) (b : Nat) : ∀ l : Mul, (∀ q ∈ l, q.2.natAbs ≤ b) → (lin (isU v) l).natAbs ≤ l.length * b
  | [], _ => by simp [lin]
  | q :: l, h => by
    have ih := lin_abs v b l fun q' hq => h q' (List.mem_cons_of_mem _ hq)
    have h1 : q.2.natAbs ≤ b := h q (List.mem_cons_self ..)
    have h2 := abs_isU v q.1 q.2
    have h3 := Int.natAbs_add_le (q.2 * isU v q.1) (lin (isU v) l)
    have e : (q :: l).length * b = l.length * b + b := by
      rw [List.length_cons, Nat.add_mul, Nat.one_mul]
    rw [e]
    show (q.2 * isU v q.1 + lin (isU v) l).natAbs ≤ _
    omega
theorem wd_of {n : Int} {l : Mul} (uk : ∀ u ∈ l.map (·.1), UkP u) (few : l.length ≤ 5) (mu : ∀ q ∈ l, q.2.natAbs ≤ 2048) (nz : Sz n) : WdOk n (form (accAll l)) := by
  have nm : ∀ u ∈ l.map (·.1), NmU u := fun u hu => (uk u hu).nmu
  refine ⟨form_nod (acc_nod l), form_keys (plusA_keys l [] uk (fun u hu => by simp at hu)), form_form (acc_nod l) (accA_nm nm), ?_, fun q hq => ?_, nz⟩
  · have h1 := form_len (accAll l)
    have h2 := accA_len l
    omega
  · unfold form at hq
    obtain ⟨u, _, rfl⟩ := List.mem_map.mp hq
    show Sz (getI (accAll l) u)
    rw [getI_acc]
    have h3 := lin_abs u 2048 l mu
    refine Nat.lt_of_le_of_lt h3 (Nat.lt_of_le_of_lt (Nat.mul_le_mul_right _ few) (by decide))
theorem wd_small {l : Mul} (few : l.length ≤ 5) (mu : ∀ q ∈ l, q.2.natAbs ≤ 2048) : ∀ q ∈ form (accAll l), q.2.natAbs ≤ 10240 := fun q hq => by
  unfold form at hq
  obtain ⟨u, _, rfl⟩ := List.mem_map.mp hq
  show (getI (accAll l) u).natAbs ≤ 10240
  rw [getI_acc]
  have h3 := lin_abs u 2048 l mu
  exact Nat.le_trans h3 (Nat.le_trans (Nat.mul_le_mul_right _ few) (by decide))
/-- a word that is drawn -/
structure OwnU (zs : List Str) (w : Int × Mul) : Prop where
  ok : WdOk w.1 w.2
  uk : ∀ u ∈ w.2.map (·.1), OkU zs u
  few : w.2.length ≤ 2
  sm : ∀ q ∈ w.2, q.2.natAbs ≤ 10240
structure OwnP (zs : List Str) (q : Pk) : Prop where
  nm : q.1 ∈ zs
  kd : q.2.1 = "code" ∨ q.2.1 = "data"
  few : q.2.2.length ≤ 3
  wd : ∀ w ∈ q.2.2, OwnU zs w
theorem sz_small {n : Int} (h : n.natAbs ≤ 1000) : Sz n := Nat.lt_of_le_of_lt h (by decide)
theorem readAllS_sums : ∀ {ws : List (Int × Mul)}, (∀ w ∈ ws, WdOk w.1 w.2) → readAllS (ws.map fun w => sumD w.1 w.2) = some ws
  | [], _ => rfl
  | w :: ws, h => by
    show (readSum (sumD w.1 w.2)).bind _ = _
    rw [(h w (List.mem_cons_self ..)).rd]
    show (readAllS (ws.map fun w => sumD w.1 w.2)).map _ = _
    rw [readAllS_sums fun w' hw => h w' (List.mem_cons_of_mem _ hw)]
    rfl
theorem pcd_of {q : Pk} (nm : NmOk q.1) (kd : q.2.1 ∈ kinds2) (few : q.2.2.length ≤ 10) (wd : ∀ w ∈ q.2.2, WdOk w.1 w.2) : PcD (pkD q) q := by
  refine ⟨?_, fun p k ws e => ?_⟩
  · show (if isNmS q.1 = true ∧ q.2.1 ∈ kinds2 then (readAllS (q.2.2.map fun w => sumD w.1 w.2)).map fun l => (q.1, q.2.1, l) else none) = _
    rw [if_pos ⟨nm.nm, kd⟩, readAllS_sums wd]
    rfl
  · have e := Option.some.inj (show some [PyData.str q.1, .str q.2.1, .tuple (q.2.2.map fun w => sumD w.1 w.2)] = some [p, k, ws] from e)
    obtain ⟨rfl, e2⟩ := List.cons.inj e
    obtain ⟨_, e3⟩ := List.cons.inj e2
    obtain ⟨rfl, _⟩ := List.cons.inj e3
    refine ⟨nm.sh, fun wl e4 => ?_⟩
    obtain rfl := Option.some.inj (show some (q.2.2.map fun w => sumD w.1 w.2) = some wl from e4)
    refine ⟨by rw [List.length_map]; omega, fun w hw => ?_⟩
    obtain ⟨w', hw', rfl⟩ := List.mem_map.mp hw
    exact (wd w' hw').oks
theorem val_kind_in {qs : List Pk} {z : Str} (h : z ∈ qs.map (·.1)) : (valV (kindD qs) (.inr z)).isSome = true := by
  rw [kind_val, Option.isSome_map, List.find?_isSome]
  obtain ⟨q, hq, e⟩ := List.mem_map.mp h
  exact ⟨q, hq, by simp [e]⟩
theorem ofW_ok {zs : List Str} {qs : List Pk} (hz : ∀ z ∈ zs, z ∈ qs.map (·.1)) {w : Int × Mul} (h : ∀ u ∈ w.2.map (·.1), OkU zs u) : ofW qs w = true := by
  unfold ofW
  rw [List.all_eq_true]
  intro x hx
  rcases h x.1 (List.mem_map.mpr ⟨x, hx, rfl⟩) with ⟨z, m, e⟩ | ⟨z, m, e⟩
  · rw [e]
    show (decide (sPiece = sName) || (decide (sPiece = sPiece) && (valV (kindD qs) (.inr z)).isSome)) = true
    rw [val_kind_in (hz z m)]
    simp
  · rw [e]
    show (decide (sName = sName) || (decide (sName = sPiece) && (valV (kindD qs) (.inr z)).isSome)) = true
    simp
theorem namesP_len {q : Pk} (h : ∀ w ∈ q.2.2, w.2.length ≤ 2) : (namesP q).length ≤ 2 * q.2.2.length := by
  have go : ∀ (l : List (Int × Mul)), (∀ w ∈ l, w.2.length ≤ 2) → (l.flatMap namesW).length ≤ 2 * l.length := by
    intro l
    induction l with
    | nil => intro _; simp
    | cons w l ih =>
      intro h
      have h1 := ih fun w' hw => h w' (List.mem_cons_of_mem _ hw)
      have h2 : (namesW w).length ≤ w.2.length := List.length_filterMap_le _ _
      have h3 := h w (List.mem_cons_self ..)
      rw [List.flatMap_cons, List.length_append, List.length_cons]
      omega
  exact go _ h
theorem namesQ_len {n m : Nat} : ∀ {qs : List Pk}, (∀ q ∈ qs, q.2.2.length ≤ m) → (∀ q ∈ qs, ∀ w ∈ q.2.2, w.2.length ≤ 2) → qs.length ≤ n → (qs.flatMap namesP).length ≤ 2 * m * n
  | [], _, _, _ => Nat.zero_le _
  | q :: qs, h1, h2, h3 => by
    cases n with
    | zero => simp at h3
    | succ n =>
      have ih := namesQ_len (n := n) (m := m) (qs := qs) (fun q' hq => h1 q' (List.mem_cons_of_mem _ hq)) (fun q' hq => h2 q' (List.mem_cons_of_mem _ hq)) (by simpa using h3)
      have a := namesP_len (q := q) (h2 q (List.mem_cons_self ..))
      have b := h1 q (List.mem_cons_self ..)
      rw [List.flatMap_cons, List.length_append, Nat.mul_succ]
      omega
/-- names drawn -/
structure Nz6 (zs : List Str) : Prop where
  nm : ∀ z ∈ zs, z ∈ nm6
  nod : zs.Nodup
  pos : 0 < zs.length
  few : zs.length ≤ 6
theorem nz6_take {k : Nat} (h0 : 0 < k) (h6 : k ≤ 6) : Nz6 (nm6.take k) :=
  ⟨fun z hz => List.mem_of_mem_take hz, (show nm6.Nodup by decide +kernel).sublist (List.take_sublist _ _), by rw [List.length_take]; show 0 < min k 6; omega, by rw [List.length_take]; show min k 6 ≤ 6; omega⟩
/-- a unit that is drawn -/
structure Du (zs : List Str) (qs : List Pk) (ms : MsT) : Prop where
  nz : Nz6 zs
  nm : qs.map (·.1) = zs
  own : ∀ q ∈ qs, OwnP zs q
  mnod : (ms.map (·.1)).Nodup
  mnm : ∀ m ∈ ms, m.1 ∈ menu4
  mat : ∀ m ∈ ms, ∃ q ∈ qs, q.1 = m.2.1 ∧ 0 ≤ m.2.2 ∧ m.2.2 < (q.2.2.length : Int)
section
variable {zs : List Str} {qs : List Pk} {ms : MsT}
theorem Du.few (h : Du zs qs ms) : qs.length ≤ 6 := by
  have := h.nz.few
  rw [← h.nm, List.length_map] at this
  exact this
theorem Du.nod (h : Du zs qs ms) : (qs.map (·.1)).Nodup := by rw [h.nm]; exact h.nz.nod
theorem Du.nmu (h : Du zs qs ms) {q : Pk} (hq : q ∈ qs) {w : Int × Mul} (hw : w ∈ q.2.2) : ∀ u ∈ w.2.map (·.1), NmU u := fun u hu => (((h.own q hq).wd w hw).uk u hu |>.uk h.nz.nm).nmu
theorem Du.mfew (h : Du zs qs ms) : ms.length ≤ 4 := by
  have h1 := List.Nodup.length_le_of_subset h.mnod (l₂ := menu4) fun z hz => by
    obtain ⟨m, hm, rfl⟩ := List.mem_map.mp hz
    exact h.mnm m hm
  rw [List.length_map] at h1
  exact h1
theorem kd2 {q : Pk} (h : q.2.1 = "code" ∨ q.2.1 = "data") : q.2.1 ∈ kinds2 := by
  rcases h with e | e <;> rw [e] <;> decide +kernel
theorem Du.name (h : Du zs qs ms) {q : Pk} (hq : q ∈ qs) : NmOk q.1 := nm6_ok _ (h.nz.nm _ (h.own q hq).nm)
theorem Du.uq (h : Du zs qs ms) : UQ qs ms := by
  have few := h.few
  refine ⟨fun q hq => pcd_of (h.name hq) (kd2 (h.own q hq).kd) (Nat.le_trans (h.own q hq).few (by decide)) fun w hw => ((h.own q hq).wd w hw).ok, Nat.le_trans few (by decide), fun q hq => Nat.le_trans (h.own q hq).few (by decide), h.nod, ?_, fun a ha => ?_, ?_, fun m hm => ?_, h.mnod, Nat.le_trans h.mfew (by decide)⟩
  · rw [namesQ_eq]
    exact Nat.lt_of_le_of_lt (namesQ_len (m := 3) (n := 6) (fun q hq => (h.own q hq).few) (fun q hq w hw => ((h.own q hq).wd w hw).few) few) (by decide)
  · obtain ⟨q, hq, _, hw⟩ := mem_adrs ha
    exact Nat.le_trans ((h.own q hq).wd _ (List.mem_of_getElem? hw)).few (by decide)
  · unfold badU
    rw [List.find?_eq_none]
    intro a ha c
    obtain ⟨q, hq, _, hw⟩ := mem_adrs ha
    rw [ofW_ok (zs := zs) (fun z hz => by rw [h.nm]; exact hz) ((h.own q hq).wd _ (List.mem_of_getElem? hw)).uk] at c
    cases c
  · obtain ⟨q, hq, e, h0, h1⟩ := h.mat m hm
    refine ⟨menu4_ok _ (h.mnm m hm), by rw [← e]; exact h.name hq, ?_⟩
    have := word_some (j := m.2.2.toNat) hq (by omega)
    have e2 : (q.1, ((m.2.2.toNat : Nat) : Int)) = m.2 := by
      rw [Int.toNat_of_nonneg h0, e]
    rw [e2] at this
    exact this
theorem Du.lwq (h : Du zs qs ms) : LwQ qs :=
  ⟨h.nod, Nat.le_trans h.few (by decide), fun q hq w hw => ⟨h.nmu hq hw, Nat.le_trans ((h.own q hq).wd w hw).few (by decide)⟩, fun q hq => Nat.le_trans (h.own q hq).few (by decide)⟩
theorem adrs_few {n m : Nat} : ∀ {qs : List Pk}, (∀ q ∈ qs, q.2.2.length ≤ m) → qs.length ≤ n → (adrs qs).length ≤ m * n
  | [], _, _ => Nat.zero_le _
  | q :: qs, h1, h3 => by
    cases n with
    | zero => simp at h3
    | succ n =>
      have ih := adrs_few (n := n) (m := m) (qs := qs) (fun q' hq => h1 q' (List.mem_cons_of_mem _ hq)) (by simpa using h3)
      have b := h1 q (List.mem_cons_self ..)
      have e : adrs (q :: qs) = adrsP q ++ adrs qs := by simp [adrs]
      rw [e, List.length_append, adrsP_len, Nat.mul_succ]
      omega
theorem Du.smu (h : Du zs qs ms) : SmU qs := by
  refine ⟨Nat.le_trans (adrs_few (m := 3) (n := 6) (fun q hq => (h.own q hq).few) h.few) (by decide), fun a ha => ?_⟩
  obtain ⟨q, hq, _, hw⟩ := mem_adrs ha
  exact Nat.le_trans ((h.own q hq).wd _ (List.mem_of_getElem? hw)).few (by decide)
theorem Du.tgt (h : Du zs qs ms) {r p : Str} (e : tgt ms r = some p) : p ∈ zs := by
  unfold DR.tgt at e
  cases ef : ms.find? fun m => decide (m.1 = r) with
  | none => rw [ef] at e; cases e
  | some m =>
    rw [ef] at e
    obtain rfl := Option.some.inj e
    obtain ⟨q, hq, e2, _⟩ := h.mat m (List.mem_of_find?_eq_some ef)
    rw [← h.nm]
    exact List.mem_map.mpr ⟨q, hq, e2⟩
theorem Du.ledW (h : Du zs qs ms) {q : Pk} (hq : q ∈ qs) {w : Int × Mul} (hw : w ∈ q.2.2) {p : Str} (hp : p ∈ DR.ledW ms w) : p ∈ zs := by
  unfold DR.ledW at hp
  obtain ⟨x, hx, e⟩ := List.mem_filterMap.mp hp
  rcases ((h.own q hq).wd w hw).uk x.1 (List.mem_map.mpr ⟨x, hx, rfl⟩) with ⟨z, hz, eu⟩ | ⟨z, hz, eu⟩
  · rw [eu] at e
    have e2 : (if sPiece = sPiece then some z else (ms.find? fun m => decide (m.1 = z)).map (·.2.1)) = some p := e
    rw [if_pos rfl] at e2
    rw [← Option.some.inj e2]
    exact hz
  · rw [eu] at e
    have e2 : (if sName = sPiece then some z else (ms.find? fun m => decide (m.1 = z)).map (·.2.1)) = some p := e
    rw [if_neg (by decide +kernel)] at e2
    exact h.tgt (r := z) e2
theorem home_some {p : Str} {w : Int × Mul} {k : Nat} (hw : (homeQ qs p)[k]? = some w) : ∃ q ∈ qs, q.1 = p ∧ w ∈ q.2.2 := by
  unfold homeQ at hw
  cases ef : qs.find? fun q => decide (q.1 = p) with
  | none => rw [ef] at hw; simp at hw
  | some q =>
    rw [ef] at hw
    exact ⟨q, List.mem_of_find?_eq_some ef, of_decide_eq_true (List.find?_some (p := fun q : Pk => decide (q.1 = p)) ef), List.mem_of_getElem? hw⟩
theorem Du.among (h : Du zs qs ms) (rs : List Str) : Among qs ms (rootsOf ms rs) (qs.map (·.1)) := by
  refine ⟨fun p hp => ?_, fun p _ q hl => ?_⟩
  · obtain ⟨r, _, e⟩ := List.mem_filterMap.mp hp
    rw [h.nm]
    exact h.tgt e
  · obtain ⟨k, w, hw, hq⟩ := hl
    obtain ⟨q1, hq1, _, hw1⟩ := home_some hw
    rw [h.nm]
    exact h.ledW hq1 hw1 hq
theorem tgt_mem {r : Str} (hr : r ∈ ms.map (·.1)) : (DR.tgt ms r).isSome = true := by
  unfold DR.tgt
  rw [Option.isSome_map, List.find?_isSome]
  obtain ⟨m, hm, e⟩ := List.mem_map.mp hr
  exact ⟨m, hm, decide_eq_true e⟩
theorem Du.roots (h : Du zs qs ms) {rs : List Str} (few : rs.length ≤ 100) (hr : ∀ r ∈ rs, r ∈ ms.map (·.1)) : RootsR qs ms rs := by
  refine ⟨⟨few, fun r hr' => tgt_mem (hr r hr'), h.among rs, h.smu⟩, fun r hr' => ?_⟩
  obtain ⟨m, hm, rfl⟩ := List.mem_map.mp (hr r hr')
  have ok := menu4_ok _ (h.mnm m hm)
  refine ⟨?_, ok.sh⟩
  show (isNmS m.1 && ms.any fun m' => decide (m'.1 = m.1)) = true
  rw [ok.nm, Bool.true_and, List.any_eq_true]
  exact ⟨m, hm, decide_eq_true rfl⟩
theorem Du.pd (h : Du zs qs ms) : ∀ q ∈ qs, pieceD qs (.str q.1) = true ∧ shortS (.str q.1) := fun q hq => by
  have ok := h.name hq
  refine ⟨?_, ok.sh⟩
  show (isNmS q.1 && (valV (kindD qs) (.inr q.1)).isSome) = true
  rw [ok.nm, val_kind_in (List.mem_map.mpr ⟨q, hq, rfl⟩)]
  rfl
theorem Du.no_piece (h : Du zs qs ms) {d : PyData} (hd : ∀ z ∈ nm6, d ≠ .str z) : pieceD qs d = false := by
  cases e : pieceD qs d with
  | false => rfl
  | true =>
    unfold pieceD at e
    rw [Bool.and_eq_true] at e
    cases d with
    | str z =>
      obtain ⟨q, hq, eq⟩ := kind_in.mp (show (valV (kindD qs) (.inr z)).isSome = true from e.2)
      exact absurd (congrArg PyData.str (Sum.inr.inj eq)) (hd _ (h.nz.nm _ (h.own q hq).nm))
    | none => exact absurd (show false = true from e.2) (by decide)
    | bool _ => exact absurd (show false = true from e.2) (by decide)
    | int _ => exact absurd (show false = true from e.2) (by decide)
    | list _ => exact absurd (show false = true from e.2) (by decide)
    | tuple _ => exact absurd (show false = true from e.2) (by decide)
    | dict _ => exact absurd (show false = true from e.2) (by decide)
end
end DR

namespace DR
open PySem PySem.Spec PyProof.Rows L2
/-! ### _law_drawn_unit -/
abbrev sDu : Stmt := topS 45
abbrev NDu : List Str := ["draws", "many", "names", "known", "told", "pieces", "k", "own", "words", "j", "unknown", "more"]
theorem scDu : FnScope NDu ["draws"] (defScope sDu) := ⟨rfl, rfl, rfl, by decide +kernel, rfl, by decide +kernel, by decide +kernel⟩
def forB : Stmt → List Stmt
  | .For _ _ b _ _ => b
  | _ => []
abbrev oU (i : Nat) : Stmt := (defBody sDu).getD i (.Pass ⟨0, 0, 0, 0⟩)
abbrev oK (i : Nat) : Stmt := (forB (oU 2)).getD i (.Pass ⟨0, 0, 0, 0⟩)
abbrev oJ (i : Nat) : Stmt := (forB (oK 1)).getD i (.Pass ⟨0, 0, 0, 0⟩)
abbrev XDu (P : Program) (w : World) (K : PySem.W.Frag) (mg : Str → Option Value) (base : Heap) (f : Addr) (cdv : Value) (A : Around) (outer : List Env) (s : Shared) (H : Hp) (E : XK) : Cx := (cxOf CX0 P w K mg base NDu "_law_drawn_unit" (defScope sDu) f cdv A outer s H E).nox
abbrev sgU (L : Addr) (m : Nat) (NL KL Dd F : Addr) (o6 o7 o8 o9 o10 o11 : Option V) : L2.St := [some (.ref L), some (.int (m : Nat)), some (.ref NL), some (.ref KL), some (.ref Dd), some (.ref F), o6, o7, o8, o9, o10, o11]
/-- the draws of one piece -/
structure Own (os : List Int) : Prop where
  len : os.length = 16
  bd : ∀ d ∈ os, 0 ≤ d ∧ d < 60
theorem Own.at_ {os : List Int} (h : Own os) {n : Nat} (hn : n < 16) : ∃ d, os[n]? = some d ∧ 0 ≤ d ∧ d < 60 := by
  have hl := h.len
  have e := List.getElem?_eq_getElem (l := os) (i := n) (by omega)
  exact ⟨_, e, h.bd _ (List.mem_of_getElem? e)⟩
abbrev tOwn (K : PySem.W.Frag) (c : Int) : TE := tOp (rIxL K) (tVar 7) (tOp (rI0 fun i j => .int (i + j)) (tC (.int c)) (tOp (rI CMul fun i j => .int (i * j)) (tC (.int 4)) (tVar 9)))
theorem own_go {K : PySem.W.Frag} {σ : L2.St} {H : Hp} {Q : VK} {O : Addr} {os : List Int} {c d : Int} {j n : Nat} (h7 : σ[7]? = some (some (.ref O))) (h9 : σ[9]? = some (some (.int (j : Nat)))) (hO : H O = some (.lst (os.map V.int))) (hn : c + 4 * (j : Int) = (n : Nat)) (hd : os[n]? = some d) (q : Q (.int d) H) : tOwn K c σ H Q := by
  refine ⟨_, h7, _, h9, _, _, rfl, rfl, .inl ⟨by decide, by decide⟩, _, _, rfl, rfl, O, _, _, .int d, rfl, congrArg V.int hn, SqL.of hO, at_of (by rw [List.getElem?_map, hd]; rfl), q⟩
theorem nm_at {m : Nat} (h0 : 0 < m) (h6 : m ≤ 6) (d : Int) : ∃ z ∈ nm6.take m, atI (nm6.map V.str) (d % (m : Int)) = some (.str z) := by
  have h1 := Int.emod_nonneg d (show (m : Int) ≠ 0 by omega)
  have h2 := Int.emod_lt_of_pos d (show (0 : Int) < m by omega)
  obtain ⟨r, hr⟩ := Int.eq_ofNat_of_zero_le h1
  rw [hr] at h2 ⊢
  have l6 : nm6.length = 6 := rfl
  have hl : r < (nm6.take m).length := by rw [List.length_take, l6]; omega
  refine ⟨(nm6.take m)[r], List.getElem_mem hl, at_of ?_⟩
  rw [List.getElem?_map, List.getElem_take, List.getElem?_eq_getElem (by rw [l6]; omega)]
  rfl
theorem menu_at (d : Int) : ∃ z ∈ menu4, atI (menu4.map V.str) (d % 4) = some (.str z) := by
  have h1 := Int.emod_nonneg d (show (4 : Int) ≠ 0 by omega)
  have h2 := Int.emod_lt_of_pos d (show (0 : Int) < 4 by omega)
  obtain ⟨r, hr⟩ := Int.eq_ofNat_of_zero_le h1
  rw [hr] at h2 ⊢
  have l4 : menu4.length = 4 := rfl
  have hl : r < menu4.length := by rw [l4]; omega
  refine ⟨menu4[r], List.getElem_mem hl, at_of ?_⟩
  rw [List.getElem?_map, List.getElem?_eq_getElem hl]
  rfl
/-- an unknown, or None -/
def UnkD (zs : List Str) (H : Hp) (v : V) (k : Option (List Key)) : Prop := (k = none ∧ v = .non) ∨ ∃ u e, k = some u ∧ v = .ref e ∧ H e = some (.tup (u.map kV)) ∧ OkU zs u
theorem unkD_s {zs : List Str} {H H' : Hp} (e : Same H H') {v : V} {k : Option (List Key)} (h : UnkD zs H v k) : UnkD zs H' v k := by
  rcases h with h | ⟨u, a, h1, h2, h3, h4⟩
  · exact .inl h
  · exact .inr ⟨u, a, h1, h2, e _ _ h3, h4⟩
section
variable {P : Program} {w : World} {K : PySem.W.Frag} {mg : Str → Option Value} {base : Heap} {f : Addr} {cdv : Value} {A : Around} {outer : List Env} {s : Shared} {H0 : Hp} {E : XK} {kk : Nat}
theorem ju0 (hr : Room kk (XDu P w K mg base f cdv A outer s H0 E).A) : ∃ t, PS (XDu P w K mg base f cdv A outer s H0 E) (oJ 0) t ∧
    ∀ (D : Ends) (H : Hp) (L NL KL Dd F O : Addr) (m j : Nat) (os : List Int) (o6 o8 o10 o11 : Option V), H NL = some (.lst (nm6.map V.str)) → H KL = some (.lst (menu4.map V.str)) → H O = some (.lst (os.map V.int)) → Own os → 0 < m → m ≤ 6 → j < 3 →
      (∀ H' l e1 e2 z1 z2, Same H H' → H' l = some (.lst [.non, .ref e1, .ref e2]) → z1 ∈ nm6.take m → z2 ∈ menu4 → H' e1 = some (.tup [.str "piece", .str z1]) → H' e2 = some (.tup [.str "name", .str z2]) → D.nx (sgU L m NL KL Dd F o6 (some (.ref O)) o8 (some (.int (j : Nat))) (some (.ref l)) o11) H') → t D (sgU L m NL KL Dd F o6 (some (.ref O)) o8 (some (.int (j : Nat))) o10 o11) H := by
  refine ⟨_, (ps_set (i := 10) scDu.nd rfl (.inl rfl) (pe_lst (pa_cons pe_non (pa_cons (pe_tup (pa_cons pe_str (pa_cons (pe_ix ix_list (pv 2) (pe_op op_mod (pe_ix ix_list (pv 7) (pe_op op_add pe_int (pe_op op_mul pe_int (pv 9))) (fun _ _ => rfl)) (pv 1)) (fun _ _ => rfl)) pa_nil))) (pa_cons (pe_tup (pa_cons pe_str (pa_cons (pe_ix ix_list (pv 3) (pe_op op_mod (pe_ix ix_list (pv 7) (pe_op op_add pe_int (pe_op op_mul pe_int (pv 9))) (fun _ _ => rfl)) pe_int) (fun _ _ => rfl)) pa_nil))) pa_nil))))), ?_⟩
  intro D H L NL KL Dd F O m j os o6 o8 o10 o11 hN hK hO ow m0 m6 hj q
  obtain ⟨d1, hd1, _, _⟩ := ow.at_ (n := 2 + 4 * j) (by omega)
  obtain ⟨z1, hz1, az1⟩ := nm_at m0 m6 d1
  obtain ⟨z2, hz2, az2⟩ := menu_at d1
  refine ⟨_, rfl, own_go (j := j) (n := 2 + 4 * j) rfl rfl hO (by omega) hd1 ?_⟩
  refine ⟨_, rfl, _, _, rfl, rfl, (by show (0 : Int) < (m : Int); omega), NL, _, _, .str z1, rfl, rfl, SqL.of hN, az1, (by show 2 ≤ sizeLine; decide), fun e1 n1 => ?_⟩
  have k1 := same_new (o := .tup [V.str "piece", V.str z1]) n1
  have g1 : upd H e1 (.tup [V.str "piece", V.str z1]) e1 = some (.tup [V.str "piece", V.str z1]) := upd_same
  generalize upd H e1 (.tup [V.str "piece", V.str z1]) = H1 at k1 g1 ⊢
  refine ⟨_, rfl, own_go (j := j) (n := 2 + 4 * j) rfl rfl (k1 _ _ hO) (by omega) hd1 ?_⟩
  refine ⟨_, _, rfl, rfl, (by show (0 : Int) < 4; decide), KL, _, _, .str z2, rfl, rfl, SqL.of (k1 _ _ hK), az2, (by show 2 ≤ sizeLine; decide), fun e2 n2 => ?_⟩
  have k2 := same_new (o := .tup [V.str "name", V.str z2]) n2
  have g2 : upd H1 e2 (.tup [V.str "name", V.str z2]) e2 = some (.tup [V.str "name", V.str z2]) := upd_same
  generalize upd H1 e2 (.tup [V.str "name", V.str z2]) = H2 at k2 g2 ⊢
  refine ⟨(by show 3 ≤ sizeLine; decide), fun l nl => ?_⟩
  have k3 := same_new (o := .lst [V.non, V.ref e1, V.ref e2]) nl
  exact q _ l e1 e2 z1 z2 ((k1.trans k2).trans k3) upd_same hz1 hz2 (k3 _ _ (k2 _ _ g1)) (k3 _ _ g2)
theorem ju1 (hr : Room kk (XDu P w K mg base f cdv A outer s H0 E).A) : ∃ t, PS (XDu P w K mg base f cdv A outer s H0 E) (oJ 1) t ∧
    ∀ (D : Ends) (H : Hp) (L NL KL Dd F O l e1 e2 : Addr) (m j : Nat) (z1 z2 : Str) (os : List Int) (o6 o8 o11 : Option V), H l = some (.lst [.non, .ref e1, .ref e2]) → z1 ∈ nm6.take m → z2 ∈ menu4 → H e1 = some (.tup [.str "piece", .str z1]) → H e2 = some (.tup [.str "name", .str z2]) → H O = some (.lst (os.map V.int)) → Own os → j < 3 →
      (∀ v k, UnkD (nm6.take m) H v k → D.nx (sgU L m NL KL Dd F o6 (some (.ref O)) o8 (some (.int (j : Nat))) (some v) o11) H) → t D (sgU L m NL KL Dd F o6 (some (.ref O)) o8 (some (.int (j : Nat))) (some (.ref l)) o11) H := by
  refine ⟨_, (ps_set (i := 10) scDu.nd rfl (.inl rfl) (pe_ix ix_list (pv 10) (pe_op op_mod (pe_ix ix_list (pv 7) (pe_op op_add pe_int (pe_op op_mul pe_int (pv 9))) (fun _ _ => rfl)) pe_int) (fun _ _ => rfl))), ?_⟩
  intro D H L NL KL Dd F O l e1 e2 m j z1 z2 os o6 o8 o11 hl hz1 hz2 h1 h2 hO ow hj q
  obtain ⟨d1, hd1, _, _⟩ := ow.at_ (n := 1 + 4 * j) (by omega)
  have c0 := Int.emod_nonneg d1 (show (3 : Int) ≠ 0 by omega)
  have c1 := Int.emod_lt_of_pos d1 (show (0 : Int) < 3 by omega)
  refine ⟨_, rfl, own_go (j := j) (n := 1 + 4 * j) rfl rfl hO (by omega) hd1 ?_⟩
  have cs : d1 % 3 = 0 ∨ d1 % 3 = 1 ∨ d1 % 3 = 2 := by omega
  rcases cs with c | c | c
  · exact ⟨_, _, rfl, rfl, (by show (0 : Int) < 3; decide), l, _, _, .non, rfl, congrArg V.int c, SqL.of hl, rfl, q _ none (.inl ⟨rfl, rfl⟩)⟩
  · exact ⟨_, _, rfl, rfl, (by show (0 : Int) < 3; decide), l, _, _, .ref e1, rfl, congrArg V.int c, SqL.of hl, rfl, q _ (some [.inr sPiece, .inr z1]) (.inr ⟨_, e1, rfl, rfl, h1, .inl ⟨z1, hz1, rfl⟩⟩)⟩
  · exact ⟨_, _, rfl, rfl, (by show (0 : Int) < 3; decide), l, _, _, .ref e2, rfl, congrArg V.int c, SqL.of hl, rfl, q _ (some [.inr sName, .inr z2]) (.inr ⟨_, e2, rfl, rfl, h2, .inr ⟨z2, hz2, rfl⟩⟩)⟩
theorem ju2 (T : Bi mg) (hr : Room kk (XDu P w K mg base f cdv A outer s H0 E).A) : ∃ t, PS (XDu P w K mg base f cdv A outer s H0 E) (oJ 2) t ∧
    ∀ (D : Ends) (H : Hp) (L NL KL Dd F O : Addr) (m j : Nat) (os : List Int) (o6 o8 o10 o11 : Option V), H NL = some (.lst (nm6.map V.str)) → H O = some (.lst (os.map V.int)) → Own os → 0 < m → m ≤ 6 → j < 3 →
      (∀ H' v k, Same H H' → UnkD (nm6.take m) H' v k → D.nx (sgU L m NL KL Dd F o6 (some (.ref O)) o8 (some (.int (j : Nat))) o10 (some v)) H') → t D (sgU L m NL KL Dd F o6 (some (.ref O)) o8 (some (.int (j : Nat))) o10 o11) H := by
  refine ⟨_, (ps_set (i := 11) scDu.nd rfl (.inl rfl) (pe_ix ix_list (pe_lst (pa_cons pe_non (pa_cons (pe_tup (pa_cons pe_str (pa_cons (pe_ix ix_list (pv 2) (pe_op op_mod (pe_ix ix_list (pv 7) (pe_op op_add pe_int (pe_op op_mul pe_int (pv 9))) (fun _ _ => rfl)) (pv 1)) (fun _ _ => rfl)) pa_nil))) pa_nil))) (pe_callTy call_int1 (by rfl) T.int (by decide +kernel) (pa_cons (pe_cmpR op_eq (pe_op op_mod (pe_ix ix_list (pv 7) (pe_op op_add pe_int (pe_op op_mul pe_int (pv 9))) (fun _ _ => rfl)) pe_int) pe_int (nomark _)) pa_nil)) (fun _ _ => rfl))), ?_⟩
  intro D H L NL KL Dd F O m j os o6 o8 o10 o11 hN hO ow m0 m6 hj q
  obtain ⟨d1, hd1, _, _⟩ := ow.at_ (n := 4 + 4 * j) (by omega)
  obtain ⟨d2, hd2, _, _⟩ := ow.at_ (n := 3 + 4 * j) (by omega)
  obtain ⟨z1, hz1, az1⟩ := nm_at m0 m6 d1
  refine ⟨_, rfl, own_go (j := j) (n := 4 + 4 * j) rfl rfl hO (by omega) hd1 ?_⟩
  refine ⟨_, rfl, _, _, rfl, rfl, (by show (0 : Int) < (m : Int); omega), NL, _, _, .str z1, rfl, rfl, SqL.of hN, az1, (by show 2 ≤ sizeLine; decide), fun e1 n1 => ?_⟩
  have k1 := same_new (o := .tup [V.str "piece", V.str z1]) n1
  have g1 : upd H e1 (.tup [V.str "piece", V.str z1]) e1 = some (.tup [V.str "piece", V.str z1]) := upd_same
  generalize upd H e1 (.tup [V.str "piece", V.str z1]) = H1 at k1 g1 ⊢
  refine ⟨(by show 2 ≤ sizeLine; decide), fun l nl => ?_⟩
  have k2 := same_new (o := .lst [V.non, V.ref e1]) nl
  have g2 : upd H1 l (.lst [V.non, V.ref e1]) l = some (.lst [V.non, V.ref e1]) := upd_same
  generalize upd H1 l (.lst [V.non, V.ref e1]) = H2 at k2 g2 ⊢
  have S := k1.trans k2
  refine own_go (j := j) (n := 3 + 4 * j) rfl rfl (S _ _ hO) (by omega) hd2 ?_
  refine ⟨_, _, rfl, rfl, (by show (0 : Int) < 4; decide), rfl, .inr ⟨_, rfl, ?_⟩⟩
  show rIxL K (.ref l) (.int (if decide (V.int (d2 % 4) = V.int 0) = true then 1 else 0)) H2 _
  rw [eq_int]
  by_cases c : d2 % 4 = 0
  · rw [decide_eq_true c]
    exact ⟨l, _, _, .ref e1, rfl, rfl, SqL.of g2, rfl, q _ _ (some [.inr sPiece, .inr z1]) S (.inr ⟨_, e1, rfl, rfl, k2 _ _ g1, .inl ⟨z1, hz1, rfl⟩⟩)⟩
  · rw [decide_eq_false c]
    exact ⟨l, _, _, .non, rfl, rfl, SqL.of g2, rfl, q _ _ none S (.inl ⟨rfl, rfl⟩)⟩
end
end DR

namespace DR
open PySem PySem.Spec PyProof.Rows L2
/-- all stays but one -/
def Dr (p : Addr) (H H' : Hp) : Prop := ∀ b x, b ≠ p → H b = some x → H' b = some x
theorem Dr.of {p : Addr} {H H' : Hp} (e : Same H H') : Dr p H H' := fun b x _ h => e b x h
theorem Dr.trans {p : Addr} {H H1 H2 : Hp} (a : Dr p H H1) (b : Dr p H1 H2) : Dr p H H2 := fun c x hc h => b c x hc (a c x hc h)
theorem Dr.put {p : Addr} {H : Hp} {o : HO} : Dr p H (upd H p o) := fun c x hc h => by rw [upd_ne hc]; exact h
theorem Dr.lst {p : Addr} {H H' : Hp} {us : List V} (h : H p = some (.lst us)) (d : Dr p H H') : TupS H H' := fun b xs e => d b _ (fun z => by rw [z, h] at e; cases e) e
theorem Dr.new {p : Addr} {H H' : Hp} (h : H p = none) (d : Dr p H H') : Same H H' := fun b x e => d b x (ne_of_none e h) e
def mOpt (k : Option (List Key)) (m : Int) : Mul := (k.map fun u => (u, m)).toList
theorem mulS3 (k1 k2 : Option (List Key)) (m1 m2 n : Int) : mulS [(k1, m1), (k2, m2), (none, n)] = mOpt k1 m1 ++ mOpt k2 m2 := by
  cases k1 <;> cases k2 <;> rfl
theorem numS3 (k1 k2 : Option (List Key)) (m1 m2 n : Int) : (numS [(k1, m1), (k2, m2), (none, n)]).natAbs ≤ m1.natAbs + m2.natAbs + n.natAbs := by
  cases k1 <;> cases k2 <;> simp only [numS, stepN, List.foldl_cons, List.foldl_nil] <;> omega
theorem mOpt_mem {k : Option (List Key)} {m : Int} {q : List Key × Int} (h : q ∈ mOpt k m) : k = some q.1 ∧ q.2 = m := by
  cases k with
  | none => cases h
  | some u =>
    rw [List.mem_singleton.mp h]
    exact ⟨rfl, rfl⟩
theorem mOpt_len (k : Option (List Key)) (m : Int) : (mOpt k m).length ≤ 1 := by cases k <;> simp [mOpt]
theorem own_sum {zs : List Str} (hz : ∀ z ∈ zs, z ∈ nm6) {k1 k2 : Option (List Key)} {m1 m2 n : Int} (h1 : ∀ u, k1 = some u → OkU zs u) (h2 : ∀ u, k2 = some u → OkU zs u) (b1 : m1.natAbs ≤ 300) (b2 : m2.natAbs ≤ 300) (b3 : n.natAbs ≤ 300) :
    (∀ u ∈ (mulS [(k1, m1), (k2, m2), (none, n)]).map (·.1), NmU u) ∧ OwnU zs (numS [(k1, m1), (k2, m2), (none, n)], form (accAll (mulS [(k1, m1), (k2, m2), (none, n)]))) := by
  have nb := numS3 k1 k2 m1 m2 n
  rw [mulS3]
  have ok : ∀ q ∈ mOpt k1 m1 ++ mOpt k2 m2, OkU zs q.1 ∧ q.2.natAbs ≤ 2048 := fun q hq => by
    rcases List.mem_append.mp hq with hq | hq
    · obtain ⟨e1, e2⟩ := mOpt_mem hq
      exact ⟨h1 _ e1, by rw [e2]; omega⟩
    · obtain ⟨e1, e2⟩ := mOpt_mem hq
      exact ⟨h2 _ e1, by rw [e2]; omega⟩
  have few : (mOpt k1 m1 ++ mOpt k2 m2).length ≤ 2 := by
    have := mOpt_len k1 m1
    have := mOpt_len k2 m2
    rw [List.length_append]
    omega
  generalize mOpt k1 m1 ++ mOpt k2 m2 = ps at ok few ⊢
  have uk : ∀ u ∈ ps.map (·.1), UkP u := fun u hu => by
    obtain ⟨q, hq, rfl⟩ := List.mem_map.mp hu
    exact (ok q hq).1.uk hz
  have fl : (form (accAll ps)).length ≤ 2 := by
    have h1 := form_len (accAll ps)
    have h2 := accA_len ps
    omega
  refine ⟨fun u hu => (uk u hu).nmu, wd_of uk (by omega) (fun q hq => (ok q hq).2) (sz_small (by omega)), form_keys (plusA_keys ps [] (fun u hu => ?_) (fun u hu => by simp at hu)), fl, wd_small (by omega) fun q hq => (ok q hq).2⟩
  obtain ⟨q, hq, rfl⟩ := List.mem_map.mp hu
  exact (ok q hq).1
theorem pairN_of {zs : List Str} {H : Hp} {v : V} {k : Option (List Key)} {n : Int} {c : Addr} (h : UnkD zs H v k) (hc : H c = some (.tup [v, .int n])) : PairN H (.ref c) (k, n) := by
  rcases h with ⟨rfl, rfl⟩ | ⟨u, e, rfl, rfl, he, _⟩
  · exact ⟨c, rfl, .inl ⟨rfl, hc⟩⟩
  · exact ⟨c, rfl, .inr ⟨u, e, rfl, hc, he⟩⟩
section
variable {P : Program} {w : World} {K : PySem.W.Frag} {mg : Str → Option Value} {base : Heap} {f : Addr} {cdv : Value} {A : Around} {outer : List Env} {s : Shared} {H0 : Hp} {E : XK} {kk : Nat}
theorem ju3 (GS : Has P w K mg base CX0 kk "_law_summed" ["pairs"] spSummed) (hr : Room kk (XDu P w K mg base f cdv A outer s H0 E).A) : ∃ t, PS (XDu P w K mg base f cdv A outer s H0 E) (oJ 3) t ∧
    ∀ (D : Ends) (H : Hp) (L NL KL Dd F O W : Addr) (m j : Nat) (os : List Int) (us : List V) (v1 v2 : V) (k1 k2 : Option (List Key)) (o6 : Option V), UnkD (nm6.take m) H v1 k1 → UnkD (nm6.take m) H v2 k2 → H O = some (.lst (os.map V.int)) → Own os → j < 3 → H W = some (.lst us) → us.length ≤ 10 →
      (∀ H' v wd, Dr W H H' → H' W = some (.lst (us ++ [v])) → SumP H' v wd → OwnU (nm6.take m) wd → D.nx (sgU L m NL KL Dd F o6 (some (.ref O)) (some (.ref W)) (some (.int (j : Nat))) (some v1) (some v2)) H') → t D (sgU L m NL KL Dd F o6 (some (.ref O)) (some (.ref W)) (some (.int (j : Nat))) (some v1) (some v2)) H := by
  refine ⟨_, (ps_expr (pe_bm PySem.F.plainAttrs_list PySem.F.slot_list_append PySem.F.type_list_append mt_append (pv 8) (pa_cons (pe_callH GS hr (by rfl) pass0 (pa_cons (pe_lst (pa_cons (pe_tup (pa_cons (pv 10) (pa_cons (pe_op op_add pe_int (pe_op op_mod (pe_ix ix_list (pv 7) (pe_op op_add pe_int (pe_op op_mul pe_int (pv 9))) (fun _ _ => rfl)) pe_int)) pa_nil))) (pa_cons (pe_tup (pa_cons (pv 11) (pa_cons (pe_op op_sub pe_int pe_int) pa_nil))) (pa_cons (pe_tup (pa_cons pe_non (pa_cons (pe_op op_mod (pe_ix ix_list (pv 7) (pe_op op_add pe_int (pe_op op_mul pe_int (pv 9))) (fun _ _ => rfl)) pe_int) pa_nil))) pa_nil)))) pa_nil)) pa_nil))), ?_⟩
  intro D H L NL KL Dd F O W m j os us v1 v2 k1 k2 o6 hv1 hv2 hO ow hj hW lu q
  obtain ⟨d1, hd1, _, _⟩ := ow.at_ (n := 3 + 4 * j) (by omega)
  obtain ⟨d2, hd2, _, _⟩ := ow.at_ (n := 4 + 4 * j) (by omega)
  refine ⟨_, rfl, .inl ⟨rfl, _, SqL.of hW⟩, _, rfl, own_go (j := j) (n := 3 + 4 * j) rfl rfl hO (by omega) hd1 ?_⟩
  refine ⟨_, _, rfl, rfl, (by show (0 : Int) < 2; decide), _, _, rfl, rfl, (by show 2 ≤ sizeLine; decide), fun c1 n1 => ?_⟩
  have s1 := same_new (o := .tup [v1, V.int (1 + d1 % 2)]) n1
  have g1 : upd H c1 (.tup [v1, V.int (1 + d1 % 2)]) c1 = some (.tup [v1, V.int (1 + d1 % 2)]) := upd_same
  generalize upd H c1 (.tup [v1, V.int (1 + d1 % 2)]) = H1 at s1 g1 ⊢
  refine ⟨_, rfl, _, _, rfl, rfl, (by show 2 ≤ sizeLine; decide), fun c2 n2 => ?_⟩
  have s2 := same_new (o := .tup [v2, V.int (0 - 1)]) n2
  have g2 : upd H1 c2 (.tup [v2, V.int (0 - 1)]) c2 = some (.tup [v2, V.int (0 - 1)]) := upd_same
  generalize upd H1 c2 (.tup [v2, V.int (0 - 1)]) = H2 at s2 g2 ⊢
  refine own_go (j := j) (n := 4 + 4 * j) rfl rfl (s2 _ _ (s1 _ _ hO)) (by omega) hd2 ?_
  refine ⟨_, _, rfl, rfl, (by show (0 : Int) < 2; decide), (by show 2 ≤ sizeLine; decide), fun c3 n3 => ?_⟩
  have s3 := same_new (o := .tup [V.non, V.int (d2 % 2)]) n3
  have g3 : upd H2 c3 (.tup [V.non, V.int (d2 % 2)]) c3 = some (.tup [V.non, V.int (d2 % 2)]) := upd_same
  generalize upd H2 c3 (.tup [V.non, V.int (d2 % 2)]) = H3 at s3 g3 ⊢
  refine ⟨(by show 3 ≤ sizeLine; decide), fun l nl => ?_⟩
  have s4 := same_new (o := .lst [V.ref c1, V.ref c2, V.ref c3]) nl
  have g4 : upd H3 l (.lst [V.ref c1, V.ref c2, V.ref c3]) l = some (.lst [V.ref c1, V.ref c2, V.ref c3]) := upd_same
  generalize upd H3 l (.lst [V.ref c1, V.ref c2, V.ref c3]) = H4 at s4 g4 ⊢
  have s34 := s3.trans s4
  have s24 := s2.trans s34
  have S := s1.trans s24
  have hz : ∀ z ∈ nm6.take m, z ∈ nm6 := fun z hz => List.mem_of_mem_take hz
  have ok : ∀ {v : V} {k : Option (List Key)}, UnkD (nm6.take m) H v k → ∀ u, k = some u → OkU (nm6.take m) u := fun h u e => by
    rcases h with ⟨rfl, _⟩ | ⟨u', _, rfl, _, _, o⟩
    · cases e
    · rw [← Option.some.inj e]; exact o
  obtain ⟨nmu, ou⟩ := own_sum hz (ok hv1) (ok hv2) (m1 := 1 + d1 % 2) (m2 := 0 - 1) (n := d2 % 2) (by omega) (by decide) (by omega)
  refine ⟨l, _, [(k1, 1 + d1 % 2), (k2, 0 - 1), (none, d2 % 2)], rfl, g4, .cons (pairN_of (unkD_s S hv1) (s24 _ _ g1)) (.cons (pairN_of (unkD_s S hv2) (s34 _ _ g2)) (.cons (pairN_of (zs := nm6.take m) (.inl ⟨rfl, rfl⟩) (s4 _ _ g3)) .nil)), nmu, (by show 3 ≤ 100; decide), fun v' H5 s5 hv' => ?_⟩
  have hW5 := s5 _ _ (S _ _ hW)
  have tf : TupS H5 (upd H5 W (.lst (us ++ [v']))) := TupS.put hW5 (by intro xs z; cases z)
  exact ⟨W, us, v', rfl, rfl, hW5, small1000 (by omega), q _ v' _ ((Dr.of (S.trans s5)).trans Dr.put) upd_same (sumT_s tf hv') ou⟩
/-- the words of a piece -/
theorem ku1 (T : Bi mg) (GS : Has P w K mg base CX0 kk "_law_summed" ["pairs"] spSummed) (hr : Room kk (XDu P w K mg base f cdv A outer s H0 E).A) : ∃ t, PS (XDu P w K mg base f cdv A outer s H0 E) (oK 1) t ∧
    ∀ (D : Ends) (H : Hp) (L NL KL Dd F O W : Addr) (m : Nat) (os : List Int) (o6 o9 o10 o11 : Option V), H NL = some (.lst (nm6.map V.str)) → H KL = some (.lst (menu4.map V.str)) → H O = some (.lst (os.map V.int)) → NL ≠ W → KL ≠ W → O ≠ W → Own os → 0 < m → m ≤ 6 → H W = some (.lst []) →
      (∀ H' us ws o9' o10' o11', Dr W H H' → H' W = some (.lst us) → PySem.W.EachIs (SumP H') us ws → (∀ w ∈ ws, OwnU (nm6.take m) w) → ws.length ≤ 3 → D.nx (sgU L m NL KL Dd F o6 (some (.ref O)) (some (.ref W)) o9' o10' o11') H') → t D (sgU L m NL KL Dd F o6 (some (.ref O)) (some (.ref W)) o9 o10 o11) H := by
  obtain ⟨t0, h0, q0⟩ := ju0 (P := P) (w := w) (K := K) (mg := mg) (base := base) (f := f) (cdv := cdv) (A := A) (outer := outer) (s := s) (H0 := H0) (E := E) hr
  obtain ⟨t1, h1, q1⟩ := ju1 (P := P) (w := w) (K := K) (mg := mg) (base := base) (f := f) (cdv := cdv) (A := A) (outer := outer) (s := s) (H0 := H0) (E := E) hr
  obtain ⟨t2, h2, q2⟩ := ju2 (P := P) (w := w) (K := K) (mg := mg) (base := base) (f := f) (cdv := cdv) (A := A) (outer := outer) (s := s) (H0 := H0) (E := E) T hr
  obtain ⟨t3, h3, q3⟩ := ju3 (P := P) (w := w) (K := K) (mg := mg) (base := base) (f := f) (cdv := cdv) (A := A) (outer := outer) (s := s) (H0 := H0) (E := E) GS hr
  refine ⟨_, ps_for PassesOwn.never rfl (pi_range1 (by rfl) T.range (pa_cons (pe_op op_mod (pe_ix ix_list (pv 7) pe_int (fun _ _ => rfl)) pe_int) pa_nil)) (pg_name (i := 9) scDu.nd rfl (.inl rfl)) (pss_cons h0 (pss_cons h1 (pss_cons h2 (pss_one h3)))), ?_⟩
  intro D H L NL KL Dd F O W m os o6 o9 o10 o11 hN hK hO nN nK nO ow m0 m6 hW q
  obtain ⟨d0, hd0, b0, _⟩ := ow.at_ (n := 0) (by omega)
  have c0 := Int.emod_nonneg d0 (show (4 : Int) ≠ 0 by omega)
  have c1 := Int.emod_lt_of_pos d0 (show (0 : Int) < 4 by omega)
  refine ⟨_, rfl, O, _, _, .int d0, rfl, rfl, SqL.of hO, at_of (i := 0) (by rw [List.getElem?_map, hd0]; rfl), _, _, rfl, rfl, (by show (0 : Int) < 4; decide), _, rfl, by omega, by omega, ?_⟩
  refine for_it walk_range (fun j σ Hj => ∃ (o9 o10 o11 : Option V) (us : List V) (ws : List (Int × Mul)), σ = sgU L m NL KL Dd F o6 (some (.ref O)) (some (.ref W)) o9 o10 o11 ∧ Dr W H Hj ∧ Hj W = some (.lst us) ∧ PySem.W.EachIs (SumP Hj) us ws ∧ ws.length = j ∧ ∀ w ∈ ws, OwnU (nm6.take m) w)
    ⟨o9, o10, o11, [], [], rfl, fun b x _ e => e, hW, .nil, rfl, fun _ h => by cases h⟩ (fun _ _ _ _ _ => trivial) ?_ ?_
  · rintro j x σ Hj' Hj hj ⟨o9, o10, o11, us, ws, rfl, kp, hWj, hus, lj, hws⟩ ⟨rfl, rfl⟩
    have lu := hus.length
    have j3 : j < 3 := by omega
    have ej : (0 : Int) + (j : Int) = (j : Int) := Int.zero_add _
    have hNj := kp _ _ nN hN
    have hKj := kp _ _ nK hK
    have hOj := kp _ _ nO hO
    show t0 _ (sgU L m NL KL Dd F o6 (some (.ref O)) (some (.ref W)) (some (.int (0 + (j : Int)))) o10 o11) Hj
    rw [ej]
    refine q0 _ Hj L NL KL Dd F O m j os _ _ _ _ hNj hKj hOj ow m0 m6 j3 fun Ha l e1 e2 z1 z2 sa hl hz1 hz2 he1 he2 => ?_
    refine q1 _ Ha L NL KL Dd F O l e1 e2 m j z1 z2 os _ _ _ hl hz1 hz2 he1 he2 (sa _ _ hOj) ow j3 fun v1 k1 hv1 => ?_
    refine q2 _ Ha L NL KL Dd F O m j os _ _ _ _ (sa _ _ hNj) (sa _ _ hOj) ow m0 m6 j3 fun Hb v2 k2 sb hv2 => ?_
    have sab := sa.trans sb
    refine q3 _ Hb L NL KL Dd F O W m j os us v1 v2 k1 k2 _ (unkD_s sb hv1) hv2 (sab _ _ hOj) ow j3 (sab _ _ hWj) (by omega) fun Hc v wd kc hWc hs ho => ?_
    refine ⟨_, _, _, us ++ [v], ws ++ [wd], rfl, fun b x hb e => kc _ _ hb (sab _ _ (kp _ _ hb e)), hWc, eachs_snoc (R := SumP _) hs (eachs_imp (fun _ _ => sumT_s ((TupS.of sab).trans (kc.lst (sab _ _ hWj)))) hus), by simp [lj], fun w hw => ?_⟩
    rcases List.mem_append.mp hw with hw | hw
    · exact hws w hw
    · rw [List.mem_singleton.mp hw]
      exact ho
  · rintro σ Hj ⟨o9, o10, o11, us, ws, rfl, kp, hWj, hus, lj, hws⟩
    exact q Hj us ws o9 o10 o11 kp hWj hus hws (by omega)
end
end DR

namespace DR
open PySem PySem.Spec PyProof.Rows L2
theorem eqv_lnil {ds : List PyData} (h : ds ≠ []) : PyData.eqv (.list ds) (.list []) = false := by
  cases e : PyData.eqv (.list ds) (.list []) with
  | false => rfl
  | true =>
    cases ds with
    | nil => exact absurd rfl h
    | cons d ds => simp [PyData.eqv, PyData.eqvAll] at e
theorem cut_two {xs : List V} {a b : Nat} (h1 : a ≤ b) (h2 : b ≤ xs.length) : cutV xs (some (a : Int)) (some (b : Int)) = (xs.drop a).take (b - a) := by
  have e : ∀ (r d : Nat), r ≤ xs.length → HT.sIx xs.length d (some (r : Int)) = r := by
    intro r d hr
    have h := cut_to (xs := List.replicate xs.length V.non) (r := r) (by rw [List.length_replicate]; exact hr)
    have h := congrArg List.length h
    unfold HT.sIx
    simp only
    rw [if_neg (by omega)]
    omega
  unfold cutV
  rw [e a 0 (by omega), e b _ h2]
/-- what is drawn -/
structure Draws (dr : List Int) : Prop where
  len : 100 ≤ dr.length
  bd : ∀ (i : Nat) (d : Int), i < 100 → dr[i]? = some d → 0 ≤ d ∧ d < 60
theorem Draws.own {dr : List Int} (h : Draws dr) {k : Nat} (hk : k < 6) : Own ((dr.drop (2 + 16 * k)).take 16) := by
  have hl := h.len
  refine ⟨by rw [List.length_take, List.length_drop]; omega, fun d hd => ?_⟩
  obtain ⟨i, hi, e⟩ := List.mem_iff_getElem.mp hd
  rw [List.length_take, List.length_drop] at hi
  refine h.bd (2 + 16 * k + i) d (by omega) ?_
  have e2 := List.getElem?_eq_getElem (l := (dr.drop (2 + 16 * k)).take 16) (i := i) (by rw [List.length_take, List.length_drop]; omega)
  rw [e, List.getElem?_take, if_pos (by omega), List.getElem?_drop] at e2
  exact e2
/-- what is told, once more -/
theorem put_told {H : Hp} {n : Str} {a : Str × Int} {t : Addr} (ht : H t = some (.tup [.str a.1, .int a.2])) : ∀ {md : List (Key × V)} {ms : MsT}, PySem.W.EachIs (MdR H) md ms → (ms.map (·.1)).Nodup →
    ∃ ms', PySem.W.EachIs (MdR H) (putK md (.inr n) (.ref t)) ms' ∧ (ms'.map (·.1)).Nodup ∧ ∀ m ∈ ms', m ∈ ms ∨ m = (n, a) := by
  intro md ms h nod
  by_cases hn : n ∈ ms.map (·.1)
  · have e1 : putK md (.inr n) (.ref t) = md.map fun p => if p.1 = .inr n then (p.1, .ref t) else p := by
      unfold putK
      rw [if_pos]
      rw [List.any_eq_true]
      have : (.inr n : Key) ∈ md.map (·.1) := by
        rw [md_keys h]
        obtain ⟨m, hm, e⟩ := List.mem_map.mp hn
        exact List.mem_map.mpr ⟨m, hm, by rw [e]⟩
      obtain ⟨p, hp, e⟩ := List.mem_map.mp this
      exact ⟨p, hp, decide_eq_true e⟩
    refine ⟨ms.map fun m => if m.1 = n then (m.1, a) else m, ?_, ?_, fun m hm => ?_⟩
    · rw [e1]
      clear nod hn e1
      induction h with
      | nil => exact .nil
      | @cons p m md ms h tl ih =>
        obtain ⟨h1, h2⟩ := h
        refine .cons ?_ ih
        show MdR H (if p.1 = .inr n then (p.1, .ref t) else p) (if m.1 = n then (m.1, a) else m)
        by_cases c : m.1 = n
        · rw [if_pos (by rw [h1, c]), if_pos c]
          exact ⟨h1, t, rfl, ht⟩
        · rw [if_neg (fun z => c (Sum.inr.inj (h1.symm.trans z))), if_neg c]
          exact ⟨h1, h2⟩
    · rw [List.map_map]
      have : (ms.map ((·.1) ∘ fun m => if m.1 = n then (m.1, a) else m)) = ms.map (·.1) := List.map_congr_left fun m _ => by
        show (if m.1 = n then (m.1, a) else m).1 = m.1
        by_cases c : m.1 = n
        · rw [if_pos c]
        · rw [if_neg c]
      rw [this]
      exact nod
    · obtain ⟨m', hm', rfl⟩ := List.mem_map.mp hm
      by_cases c : m'.1 = n
      · rw [if_pos c]
        exact .inr (by rw [c])
      · rw [if_neg c]
        exact .inl hm'
  · refine ⟨ms ++ [(n, a)], ?_, ?_, fun m hm => ?_⟩
    · rw [putS_new]
      · exact eachs_snoc (R := MdR H) ⟨rfl, t, rfl, ht⟩ h
      · rw [md_keys h]
        intro c
        obtain ⟨m, hm, e⟩ := List.mem_map.mp c
        exact hn (List.mem_map.mpr ⟨m, hm, Sum.inr.inj e⟩)
    · rw [List.map_append]
      exact List.nodup_append.mpr ⟨nod, by simp, fun x hx y hy e => hn (by
        have hy : y = n := List.mem_singleton.mp hy
        rw [← hy, ← e]; exact hx)⟩
    · rcases List.mem_append.mp hm with hm | hm
      · exact .inl hm
      · exact .inr (List.mem_singleton.mp hm)
section
variable {P : Program} {w : World} {K : PySem.W.Frag} {mg : Str → Option Value} {base : Heap} {f : Addr} {cdv : Value} {A : Around} {outer : List Env} {s : Shared} {H0 : Hp} {E : XK} {kk : Nat}
theorem ku0 (hr : Room kk (XDu P w K mg base f cdv A outer s H0 E).A) : ∃ t, PS (XDu P w K mg base f cdv A outer s H0 E) (oK 0) t ∧
    ∀ (D : Ends) (H : Hp) (L NL KL Dd F : Addr) (m k : Nat) (dr : List Int) (o7 o8 o9 o10 o11 : Option V), H L = some (.lst (dr.map V.int)) → Draws dr → k < 6 →
      (∀ H' O W os, Same H H' → H' O = some (.lst (os.map V.int)) → Own os → H W = none → H' W = some (.lst []) → D.nx (sgU L m NL KL Dd F (some (.int (k : Nat))) (some (.ref O)) (some (.ref W)) o9 o10 o11) H') → t D (sgU L m NL KL Dd F (some (.int (k : Nat))) o7 o8 o9 o10 o11) H := by
  refine ⟨_, (ps_par (by rfl) scDu.nd (i := 7) (j := 8) rfl rfl (by decide) rfl rfl (pa_cons (pe_slice sl_list (pv 0) (po_some (pe_op op_add pe_int (pe_op op_mul pe_int (pv 6)))) (po_some (pe_op op_add pe_int (pe_op op_mul pe_int (pv 6))))) (pa_cons (pe_lst pa_nil) pa_nil)) (by rfl)), ?_⟩
  intro D H L NL KL Dd F m k dr o7 o8 o9 o10 o11 hL hd hk q
  have hl := hd.len
  refine ⟨_, rfl, _, rfl, _, _, rfl, rfl, .inl ⟨by decide, by decide⟩, _, _, rfl, rfl, _, rfl, _, rfl, _, _, rfl, rfl, .inl ⟨by decide, by decide⟩, _, _, rfl, rfl, _, rfl, L, _, rfl, SqL.of hL, fun O hO => ?_⟩
  have e1 : (2 : Int) + 16 * (k : Int) = ((2 + 16 * k : Nat) : Int) := by omega
  have e2 : (18 : Int) + 16 * (k : Int) = ((18 + 16 * k : Nat) : Int) := by omega
  have e3 : cutV (dr.map V.int) (some ((2 : Int) + 16 * (k : Int))) (some ((18 : Int) + 16 * (k : Int))) = ((dr.drop (2 + 16 * k)).take 16).map V.int := by
    rw [e1, e2, cut_two (by omega) (by rw [List.length_map]; omega), ← List.map_drop, ← List.map_take]
    congr 2
    omega
  rw [e3]
  have ow := hd.own hk
  generalize (dr.drop (2 + 16 * k)).take 16 = os at ow ⊢
  have s1 := same_new (o := .lst (os.map V.int)) hO
  have g1 : upd H O (.lst (os.map V.int)) O = some (.lst (os.map V.int)) := upd_same
  generalize upd H O (.lst (os.map V.int)) = H1 at s1 g1 ⊢
  refine ⟨(by show 0 ≤ sizeLine; decide), fun W hW => ?_⟩
  have s2 := same_new (o := .lst []) hW
  have g2 : upd H1 W (.lst []) W = some (.lst []) := upd_same
  have hW0 : H W = none := none_of s1 hW
  generalize upd H1 W (.lst []) = H2 at s2 g2 ⊢
  refine ⟨_, _, rfl, ?_⟩
  exact q _ O W os (s1.trans s2) (s2 _ _ g1) ow hW0 g2
theorem ku2 (hr : Room kk (XDu P w K mg base f cdv A outer s H0 E).A) : ∃ t, PS (XDu P w K mg base f cdv A outer s H0 E) (oK 2) t ∧
    ∀ (D : Ends) (H : Hp) (L NL KL Dd F O W : Addr) (m k : Nat) (os : List Int) (us vs : List V) (ws : List (Int × Mul)) (o9 o10 o11 : Option V), H NL = some (.lst (nm6.map V.str)) → H O = some (.lst (os.map V.int)) → Own os → k < m → m ≤ 6 → H W = some (.lst us) → PySem.W.EachIs (SumP H) us ws → H F = some (.lst vs) → vs.length ≤ 10 → W ≠ F →
      (∀ H' t z (kd : Str), Dr F H H' → H' F = some (.lst (vs ++ [.ref t])) → nm6[k]? = some z → (kd = "code" ∨ kd = "data") → H' t = some (.tup [.str z, .str kd, .ref W]) → H' W = some (.lst us) → PySem.W.EachIs (SumP H') us ws → D.nx (sgU L m NL KL Dd F (some (.int (k : Nat))) (some (.ref O)) (some (.ref W)) o9 o10 o11) H') → t D (sgU L m NL KL Dd F (some (.int (k : Nat))) (some (.ref O)) (some (.ref W)) o9 o10 o11) H := by
  refine ⟨_, (ps_expr (pe_bm PySem.F.plainAttrs_list PySem.F.slot_list_append PySem.F.type_list_append mt_append (pv 5) (pa_cons (pe_tup (pa_cons (pe_ix ix_list (pv 2) (pv 6) (fun _ _ => rfl)) (pa_cons (pe_ix ix_list (pe_lst (pa_cons pe_str (pa_cons pe_str (pa_cons pe_str pa_nil)))) (pe_op op_mod (pe_ix ix_list (pv 7) pe_int (fun _ _ => rfl)) pe_int) (fun _ _ => rfl)) (pa_cons (pv 8) pa_nil)))) pa_nil))), ?_⟩
  intro D H L NL KL Dd F O W m k os us vs ws o9 o10 o11 hN hO ow hk m6 hW hus hF lv WF q
  obtain ⟨d1, hd1, _, _⟩ := ow.at_ (n := 13) (by omega)
  have l6 : nm6.length = 6 := rfl
  obtain ⟨z, hz⟩ : ∃ z, nm6[k]? = some z := ⟨_, List.getElem?_eq_getElem (by rw [l6]; omega)⟩
  refine ⟨_, rfl, .inl ⟨rfl, _, SqL.of hF⟩, _, rfl, _, rfl, NL, _, _, .str z, rfl, rfl, SqL.of hN, at_of (by rw [List.getElem?_map, hz]; rfl), (by show 3 ≤ sizeLine; decide), fun l nl => ?_⟩
  have s1 := same_new (o := .lst [V.str "code", V.str "code", V.str "data"]) nl
  have g1 : upd H l (.lst [V.str "code", V.str "code", V.str "data"]) l = some (.lst [V.str "code", V.str "code", V.str "data"]) := upd_same
  generalize upd H l (.lst [V.str "code", V.str "code", V.str "data"]) = H1 at s1 g1 ⊢
  have c0 := Int.emod_nonneg d1 (show (3 : Int) ≠ 0 by omega)
  have c1 := Int.emod_lt_of_pos d1 (show (0 : Int) < 3 by omega)
  obtain ⟨kd, hkd, hat⟩ : ∃ kd : Str, (kd = "code" ∨ kd = "data") ∧ atI [V.str "code", V.str "code", V.str "data"] (d1 % 3) = some (.str kd) := by
    have cs : d1 % 3 = 0 ∨ d1 % 3 = 1 ∨ d1 % 3 = 2 := by omega
    rcases cs with c | c | c <;> rw [c]
    · exact ⟨_, .inl rfl, rfl⟩
    · exact ⟨_, .inl rfl, rfl⟩
    · exact ⟨_, .inr rfl, rfl⟩
  refine ⟨_, rfl, O, _, _, .int d1, rfl, rfl, SqL.of (s1 _ _ hO), at_of (i := 13) (by rw [List.getElem?_map, hd1]; rfl), _, _, rfl, rfl, (by show (0 : Int) < 3; decide), l, _, _, .str kd, rfl, rfl, SqL.of g1, hat, _, rfl, (by show 3 ≤ sizeLine; decide), fun t nt => ?_⟩
  have s2 := same_new (o := .tup [V.str z, V.str kd, V.ref W]) nt
  have g2 : upd H1 t (.tup [V.str z, V.str kd, V.ref W]) t = some (.tup [V.str z, V.str kd, V.ref W]) := upd_same
  generalize upd H1 t (.tup [V.str z, V.str kd, V.ref W]) = H2 at s2 g2 ⊢
  have S := s1.trans s2
  have hF2 := S _ _ hF
  have tf : TupS H2 (upd H2 F (.lst (vs ++ [.ref t]))) := TupS.put hF2 (by intro xs z; cases z)
  refine ⟨F, vs, .ref t, rfl, rfl, hF2, small1000 (by omega), q _ t z kd ((Dr.of S).trans Dr.put) upd_same hz hkd (tf _ _ g2) (by rw [upd_ne WF]; exact S _ _ hW) (eachs_imp (fun _ _ => sumT_s ((TupS.of S).trans tf)) hus)⟩
theorem ku3 (T : Bi mg) (hr : Room kk (XDu P w K mg base f cdv A outer s H0 E).A) : ∃ t, PS (XDu P w K mg base f cdv A outer s H0 E) (oK 3) t ∧
    ∀ (D : Ends) (H : Hp) (L NL KL Dd F O W : Addr) (m k : Nat) (zs : List Str) (os : List Int) (us : List V) (ws : List (Int × Mul)) (md : List (Key × V)) (ms : MsT) (z : Str) (o9 o10 o11 : Option V), H NL = some (.lst (nm6.map V.str)) → H KL = some (.lst (menu4.map V.str)) → H O = some (.lst (os.map V.int)) → Own os → nm6[k]? = some z → H W = some (.lst us) → PySem.W.EachIs (SumP H) us ws → (∀ w ∈ ws, ∀ u ∈ w.2.map (·.1), NmU u) → ws.length ≤ 3 → H Dd = some (.dK md) → md.length ≤ 10 → PySem.W.EachIs (MdR H) md ms → (ms.map (·.1)).Nodup →
      (∀ H' md' ms', Dr Dd H H' → H' Dd = some (.dK md') → PySem.W.EachIs (MdR H') md' ms' → (ms'.map (·.1)).Nodup → (∀ m ∈ ms', m ∈ ms ∨ (m.1 ∈ menu4 ∧ m.2.1 = z ∧ 0 ≤ m.2.2 ∧ m.2.2 < (ws.length : Int))) → D.nx (sgU L m NL KL Dd F (some (.int (k : Nat))) (some (.ref O)) (some (.ref W)) o9 o10 o11) H') → t D (sgU L m NL KL Dd F (some (.int (k : Nat))) (some (.ref O)) (some (.ref W)) o9 o10 o11) H := by
  refine ⟨_, (ps_if (PW.pt (pw_and (pt_cmpR (op_neP hr) (pv 8) (pe_lst pa_nil) (nomark _)) (pw_and1 (pt_cmpR op_gt (pe_op op_mod (pe_ix ix_list (pv 7) pe_int (fun _ _ => rfl)) pe_int) pe_int (nomark _))))) (pss_one (ps_dput (by have := hr.un; omega) (pv 4) (pe_ix ix_list (pv 3) (pe_op op_mod (pe_op op_fdivN (pe_ix ix_list (pv 7) pe_int (fun _ _ => rfl)) pe_int) pe_int) (fun _ _ => rfl)) (pe_tup (pa_cons (pe_ix ix_list (pv 2) (pv 6) (fun _ _ => rfl)) (pa_cons (pe_op op_mod (pe_ix ix_list (pv 7) pe_int (fun _ _ => rfl)) (pe_callB call_len_seq (by rfl) T.len (by decide +kernel) (pa_cons (pv 8) pa_nil))) pa_nil))) rfl)) pss_nil), ?_⟩
  intro D H L NL KL Dd F O W m k zs os us ws md ms z o9 o10 o11 hN hK hO ow hz hW hus nmu lw hD lmd hmd nod q
  obtain ⟨d14, hd14, _, _⟩ := ow.at_ (n := 14) (by omega)
  obtain ⟨d15, hd15, _, _⟩ := ow.at_ (n := 15) (by omega)
  have lus := hus.length
  refine ⟨_, rfl, (by show 0 ≤ sizeLine; decide), fun e3 n3 => ?_⟩
  have s1 := same_new (o := .lst []) n3
  have g1 : upd H e3 (.lst []) e3 = some (.lst []) := upd_same
  generalize upd H e3 (.lst []) = H1 at s1 g1 ⊢
  have dp := sums_dp (K := K) (eachs_imp (fun _ _ => sumT_s (TupS.of s1)) hus)
  have pl := sums_plain (ws := ws) nmu
  have stay : ∀ {H' : Hp}, Same H H' → D.nx (sgU L m NL KL Dd F (some (.int (k : Nat))) (some (.ref O)) (some (.ref W)) o9 o10 o11) H' := fun e => q _ md ms (Dr.of e) (e _ _ hD) (eachs_imp (fun _ _ => mdR_s (TupS.of e)) hmd) nod fun m hm => .inl hm
  refine ⟨_, _, .lst (SqL.of (s1 _ _ hW)) dp, .lst (SqL.of g1) .nil, (by simpa [PyData.plain] using pl), rfl, ?_, _, rfl, ?_⟩
  · have := (pk_plain (qs := [(z, "code", ws)]) (fun q hq => by rw [List.mem_singleton.mp hq]; exact nmu)).2
    simp only [List.map_cons, List.map_nil, PyData.depthAll, pkD, PyData.depth] at this ⊢
    omega
  by_cases wz : ws = []
  · rw [show (!PyData.eqv (.list (ws.map fun w => sumD w.1 w.2)) (.list [])) = false from by rw [wz]; rfl]
    exact iteF (iteF (stay s1))
  · rw [show (!PyData.eqv (.list (ws.map fun w => sumD w.1 w.2)) (.list [])) = true from by rw [eqv_lnil (by simpa using wz)]; rfl]
    have lw0 : 0 < ws.length := List.length_pos_iff.mpr wz
    refine iteT ⟨_, rfl, O, _, _, .int d14, rfl, rfl, SqL.of (s1 _ _ hO), at_of (i := 14) (by rw [List.getElem?_map, hd14]; rfl), _, _, rfl, rfl, (by show (0 : Int) < 3; decide), _, _, rfl, rfl, _, rfl, ?_⟩
    refine ite2 (fun c => ?_) (fun c => stay s1)
    obtain ⟨n, hn, an⟩ := menu_at (d14.fdiv 3)
    refine ⟨_, rfl, _, rfl, NL, _, _, .str z, rfl, rfl, SqL.of (s1 _ _ hN), at_of (by rw [List.getElem?_map, hz]; rfl), _, rfl, O, _, _, .int d15, rfl, rfl, SqL.of (s1 _ _ hO), at_of (i := 15) (by rw [List.getElem?_map, hd15]; rfl), _, rfl, W, us, rfl, .inl (SqL.of (s1 _ _ hW)), _, _, rfl, rfl, (by show (0 : Int) < (us.length : Int); omega), (by show 2 ≤ sizeLine; decide), fun t nt => ?_⟩
    have s2 := same_new (o := .tup [V.str z, V.int (d15 % (us.length : Int))]) nt
    have g2 : upd H1 t (.tup [V.str z, V.int (d15 % (us.length : Int))]) t = some (.tup [V.str z, V.int (d15 % (us.length : Int))]) := upd_same
    generalize upd H1 t (.tup [V.str z, V.int (d15 % (us.length : Int))]) = H2 at s2 g2 ⊢
    have S := s1.trans s2
    have hD2 := S _ _ hD
    have r0 := Int.emod_nonneg d15 (show (us.length : Int) ≠ 0 by omega)
    have r1 := Int.emod_lt_of_pos d15 (show (0 : Int) < (us.length : Int) by omega)
    refine ⟨_, rfl, _, rfl, _, rfl, O, _, _, .int d14, rfl, rfl, SqL.of (S _ _ hO), at_of (i := 14) (by rw [List.getElem?_map, hd14]; rfl), _, _, rfl, rfl, ⟨by decide, by decide⟩, _, _, rfl, rfl, (by show (0 : Int) < 4; decide), KL, _, _, .str n, rfl, rfl, SqL.of (S _ _ hK), an, Dd, _, rfl, DPut.k (k := .inr n) hD2 (small1000 (by omega)), ?_⟩
    have tf : TupS H2 (upd H2 Dd (.dK (putK md (.inr n) (.ref t)))) := TupS.put hD2 (by intro xs z; cases z)
    obtain ⟨ms', h1, h2, h3⟩ := put_told (a := (z, d15 % (us.length : Int))) (n := n) (H := upd H2 Dd (.dK (putK md (.inr n) (.ref t)))) (tf _ _ g2) (eachs_imp (fun _ _ => mdR_s ((TupS.of S).trans tf)) hmd) nod
    refine q _ _ ms' ((Dr.of S).trans Dr.put) upd_same h1 h2 fun m hm => ?_
    rcases h3 m hm with h | rfl
    · exact .inl h
    · exact .inr ⟨hn, rfl, r0, by show _ < _; rw [← lus]; exact r1⟩
end
end DR

namespace DR
open PySem PySem.Spec PyProof.Rows L2
/-- a heap without two -/
def hide (F Dd : Addr) (H : Hp) : Hp := fun b => if b = F ∨ b = Dd then none else H b
theorem hide_eq {F Dd b : Addr} {H : Hp} (h1 : b ≠ F) (h2 : b ≠ Dd) : hide F Dd H b = H b := if_neg (by rintro (e | e) <;> contradiction)
theorem hide_sub {F Dd : Addr} {H : Hp} : Same (hide F Dd H) H := fun b o e => by
  unfold hide at e
  by_cases c : b = F ∨ b = Dd
  · rw [if_pos c] at e; cases e
  · rw [if_neg c] at e; exact e
theorem hide_out {F Dd b : Addr} {H : Hp} {o : HO} (e : hide F Dd H b = some o) : b ≠ F ∧ b ≠ Dd := by
  unfold hide at e
  by_cases c : b = F ∨ b = Dd
  · rw [if_pos c] at e; cases e
  · exact ⟨fun z => c (.inl z), fun z => c (.inr z)⟩
def But2 (F Dd : Addr) (H H' : Hp) : Prop := ∀ b x, b ≠ F → b ≠ Dd → H b = some x → H' b = some x
theorem But2.hide {F Dd : Addr} {H H' : Hp} (h : But2 F Dd H H') : Same (hide F Dd H) (hide F Dd H') := fun b o e => by
  obtain ⟨h1, h2⟩ := hide_out e
  rw [hide_eq h1 h2] at e ⊢
  exact h b o h1 h2 e
theorem hide_tup {F Dd : Addr} {H : Hp} {us : List V} {md : List (Key × V)} (hF : H F = some (.lst us)) (hD : H Dd = some (.dK md)) : TupS H (hide F Dd H) := fun b xs e => by
  rw [hide_eq (fun z => by rw [z, hF] at e; cases e) (fun z => by rw [z, hD] at e; cases e)]
  exact e
def spDrawn (K : PySem.W.Frag) : Sp := fun vs H Q _ => ∃ (L : Addr) (dr : List Int), vs = [.ref L] ∧ H L = some (.lst (dr.map V.int)) ∧ Draws dr ∧
  ∀ H' t PL T xs md zs qs ms, Same H H' → H' t = some (.tup [.ref PL, .ref T]) → LwU H' PL T xs md qs ms → Du zs qs ms → Q (.ref t) H'
section
variable {P : Program} {w : World} {K : PySem.W.Frag} {mg : Str → Option Value} {base : Heap} {f : Addr} {cdv : Value} {A : Around} {outer : List Env} {s : Shared} {H0 : Hp} {E : XK} {kk : Nat}
theorem du2 (T : Bi mg) (GS : Has P w K mg base CX0 kk "_law_summed" ["pairs"] spSummed) (hr : Room kk (XDu P w K mg base f cdv A outer s H0 E).A) : ∃ t, PS (XDu P w K mg base f cdv A outer s H0 E) (oU 2) t ∧
    ∀ (D : Ends) (H : Hp) (L NL KL Dd F : Addr) (m : Nat) (dr : List Int) (o6 o7 o8 o9 o10 o11 : Option V), H L = some (.lst (dr.map V.int)) → Draws dr → H NL = some (.lst (nm6.map V.str)) → H KL = some (.lst (menu4.map V.str)) → H F = some (.lst []) → H Dd = some (.dK []) → L ≠ F → NL ≠ F → KL ≠ F → 0 < m → m ≤ 6 →
      (∀ H' xs qs md ms o6' o7' o8' o9' o10' o11', But2 F Dd H H' → LwU H' F Dd xs md qs ms → Du (nm6.take m) qs ms → D.nx (sgU L m NL KL Dd F o6' o7' o8' o9' o10' o11') H') → t D (sgU L m NL KL Dd F o6 o7 o8 o9 o10 o11) H := by
  obtain ⟨t0, h0, q0⟩ := ku0 (P := P) (w := w) (K := K) (mg := mg) (base := base) (f := f) (cdv := cdv) (A := A) (outer := outer) (s := s) (H0 := H0) (E := E) hr
  obtain ⟨t1, h1, q1⟩ := ku1 (P := P) (w := w) (K := K) (mg := mg) (base := base) (f := f) (cdv := cdv) (A := A) (outer := outer) (s := s) (H0 := H0) (E := E) T GS hr
  obtain ⟨t2, h2, q2⟩ := ku2 (P := P) (w := w) (K := K) (mg := mg) (base := base) (f := f) (cdv := cdv) (A := A) (outer := outer) (s := s) (H0 := H0) (E := E) hr
  obtain ⟨t3, h3, q3⟩ := ku3 (P := P) (w := w) (K := K) (mg := mg) (base := base) (f := f) (cdv := cdv) (A := A) (outer := outer) (s := s) (H0 := H0) (E := E) T hr
  refine ⟨_, ps_for PassesOwn.never rfl (pi_range1 (by rfl) T.range (pa_cons (pv 1) pa_nil)) (pg_name (i := 6) scDu.nd rfl (.inl rfl)) (pss_cons h0 (pss_cons h1 (pss_cons h2 (pss_one h3)))), ?_⟩
  intro D H L NL KL Dd F m dr o6 o7 o8 o9 o10 o11 hL hd hN hK hF hD LF NF KF m0 m6 q
  have nz := nz6_take m0 m6
  refine ⟨_, rfl, _, rfl, by omega, by omega, ?_⟩
  refine for_it walk_range (fun k σ Hj => ∃ (o6 o7 o8 o9 o10 o11 : Option V) (vs : List V) (qs : List Pk) (md : List (Key × V)) (ms : MsT), σ = sgU L m NL KL Dd F o6 o7 o8 o9 o10 o11 ∧ But2 F Dd H Hj ∧ Hj F = some (.lst vs) ∧ PySem.W.EachIs (PieceL (hide F Dd Hj)) vs qs ∧ qs.map (·.1) = nm6.take k ∧ (∀ q ∈ qs, OwnP (nm6.take m) q) ∧ Hj Dd = some (.dK md) ∧ PySem.W.EachIs (MdR Hj) md ms ∧ (ms.map (·.1)).Nodup ∧ (∀ m ∈ ms, m.1 ∈ menu4) ∧ ∀ m ∈ ms, ∃ q ∈ qs, q.1 = m.2.1 ∧ 0 ≤ m.2.2 ∧ m.2.2 < (q.2.2.length : Int))
    ⟨o6, o7, o8, o9, o10, o11, [], [], [], [], rfl, fun b x _ _ e => e, hF, .nil, rfl, fun _ h => (by cases h), hD, .nil, List.Pairwise.nil, fun _ h => (by cases h), fun _ h => (by cases h)⟩ (fun _ _ _ _ _ => trivial) ?_ ?_
  · rintro k x σ Hj' Hj hk ⟨o6, o7, o8, o9, o10, o11, vs, qs, md, ms, rfl, kp, hFj, hvs, hnm, hown, hDj, hmd, mnod, mnm, mat⟩ ⟨rfl, rfl⟩
    have km : k < m := by omega
    have ek : (0 : Int) + (k : Int) = (k : Int) := Int.zero_add _
    have lD : ∀ {b : Addr} {us : List V}, H b = some (.lst us) → b ≠ Dd := fun e z => by rw [z, hD] at e; cases e
    have hLj := kp _ _ LF (lD hL) hL
    have hNj := kp _ _ NF (lD hN) hN
    have hKj := kp _ _ KF (lD hK) hK
    have lv := hvs.length
    have l6 : nm6.length = 6 := rfl
    have lq : qs.length = k := by
      have := congrArg List.length hnm
      rw [List.length_map, List.length_take, l6] at this
      omega
    have lm : md.length ≤ 4 := by
      have h1 := sub_len (ms.map (·.1)) menu4 mnod fun z hz => by
        obtain ⟨m, hm, rfl⟩ := List.mem_map.mp hz
        exact mnm m hm
      rw [List.length_map] at h1
      rw [hmd.length]
      exact h1
    show t0 _ (sgU L m NL KL Dd F (some (.int (0 + (k : Int)))) o7 o8 o9 o10 o11) Hj
    rw [ek]
    refine q0 _ Hj L NL KL Dd F m k dr _ _ _ _ _ hLj hd (by omega) fun Ha O W os sa hO ow nW hW => ?_
    have hNa := sa _ _ hNj
    have hKa := sa _ _ hKj
    have NW : NL ≠ W := ne_of_none hNj nW
    have KW : KL ≠ W := ne_of_none hKj nW
    have FW : F ≠ W := ne_of_none hFj nW
    have DW : Dd ≠ W := ne_of_none hDj nW
    have OW : O ≠ W := fun z => by
      rw [z, hW] at hO
      have e := HO.lst.inj (Option.some.inj hO)
      have := congrArg List.length e
      rw [List.length_map, ow.len] at this
      cases this
    refine q1 _ Ha L NL KL Dd F O W m os _ _ _ _ hNa hKa hO NW KW OW ow m0 m6 hW fun Hb us ws o9' o10' o11' kb hWb hus hws lw => ?_
    have hNb := kb _ _ NW hNa
    have hKb := kb _ _ KW hKa
    have hOb := kb _ _ OW hO
    have hFb := kb _ _ FW (sa _ _ hFj)
    have hDb := kb _ _ DW (sa _ _ hDj)
    have OF : O ≠ F := fun z => by
      rw [z, sa _ _ hFj] at hO
      have e := HO.lst.inj (Option.some.inj hO)
      have := congrArg List.length e
      rw [List.length_map, ow.len] at this
      omega
    refine q2 _ Hb L NL KL Dd F O W m k os us vs ws _ _ _ hNb hOb ow km m6 hWb hus hFb (by omega) FW.symm fun Hc t z kd kc hFc hz hkd ht hWc husc => ?_
    have hNc := kc _ _ NF hNb
    have hKc := kc _ _ KF hKb
    have hOc := kc _ _ OF hOb
    have FD : F ≠ Dd := fun z => by rw [z, hD] at hF; cases hF
    have hDc := kc _ _ FD.symm hDb
    have tjb : TupS Hj Hb := (TupS.of sa).trans (kb.lst hW)
    have tjc : TupS Hj Hc := tjb.trans (kc.lst hFb)
    have nmu : ∀ w ∈ ws, ∀ u ∈ w.2.map (·.1), NmU u := fun w hw u hu => ((hws w hw).uk u hu |>.uk nz.nm).nmu
    refine q3 _ Hc L NL KL Dd F O W m k nm6 os us ws md ms z _ _ _ hNc hKc hOc ow hz hWc husc nmu lw hDc (by omega) (eachs_imp (fun _ _ => mdR_s tjc) hmd) mnod fun He md' ms' ke hDe hmd' mnod' mat' => ?_
    have bjc : But2 F Dd Hj Hc := fun b x h1 h2 e => kc _ _ h1 (kb _ _ (ne_of_none e nW) (sa _ _ e))
    have bje : But2 F Dd Hj He := fun b x h1 h2 e => ke _ _ h2 (bjc b x h1 h2 e)
    have bce : But2 F Dd Hc He := fun b x h1 h2 e => ke _ _ h2 e
    have th := hide_tup hFc hDc
    have pc : PieceL (hide F Dd Hc) (.ref t) (z, kd, ws) := ⟨t, W, us, rfl, th _ _ ht, by rw [hide_eq FW.symm DW.symm]; exact hWc, eachs_imp (fun _ _ => sumT_s th) husc⟩
    refine ⟨_, _, _, _, _, _, vs ++ [.ref t], qs ++ [(z, kd, ws)], md', ms', rfl, fun b x h1 h2 e => bje _ _ h1 h2 (kp _ _ h1 h2 e), ke _ _ FD hFc, eachs_snoc (R := PieceL _) (pieceL_s bce.hide pc) (eachs_imp (fun _ _ => pieceL_s bje.hide) hvs), ?_, fun q hq => ?_, hDe, hmd', mnod', fun m' hm' => ?_, fun m' hm' => ?_⟩
    · rw [List.map_append, hnm, List.take_add_one, hz]
      rfl
    · rcases List.mem_append.mp hq with hq | hq
      · exact hown q hq
      · rw [List.mem_singleton.mp hq]
        refine ⟨?_, hkd, lw, hws⟩
        have : (nm6.take m)[k]? = some z := by rw [List.getElem?_take, if_pos km, hz]
        exact List.mem_of_getElem? this
    · rcases mat' m' hm' with h | h
      · exact mnm _ h
      · exact h.1
    · rcases mat' m' hm' with h | ⟨_, h1, h2, h3⟩
      · obtain ⟨q, hq, r⟩ := mat _ h
        exact ⟨q, List.mem_append_left _ hq, r⟩
      · exact ⟨(z, kd, ws), List.mem_append_right _ (List.mem_singleton.mpr rfl), h1.symm, h2, h3⟩
  · rintro σ Hj ⟨o6, o7, o8, o9, o10, o11, vs, qs, md, ms, rfl, kp, hFj, hvs, hnm, hown, hDj, hmd, mnod, mnm, mat⟩
    have em : ((m : Int) - 0).toNat = m := by omega
    have hnm : qs.map (·.1) = nm6.take m := by
      rw [hnm]
      congr 1
    exact q Hj vs qs md ms o6 o7 o8 o9 o10 o11 kp ⟨hFj, eachs_imp (fun _ _ => pieceL_s hide_sub) hvs, hDj, hmd⟩ ⟨nz, hnm, hown, mnod, mnm, mat⟩
end
end DR

namespace DR
open PySem PySem.Spec PyProof.Rows L2
section
variable {P : Program} {w : World} {K : PySem.W.Frag} {mg : Str → Option Value} {base : Heap}
theorem ok_drawn {f : Addr} {fd : FuncData} (F : Fun K "_law_drawn_unit" "_law_drawn_unit" sDu f fd) (T : Bi mg) (GS : Has P w K mg base CX0 2 "_law_summed" ["pairs"] spSummed) : FnOk P w K mg base CX0 3 f fd ["draws"] (spDrawn K) := by
  refine F.ok scDu (fun vs H Q E h => ?_) (fun cdv A outer s H vs Q E hr h => ?_)
  · obtain ⟨L, dr, rfl, _⟩ := h
    rfl
  · obtain ⟨L, dr, rfl, hL, hd, q⟩ := h
    obtain ⟨t2, h2, q2⟩ := du2 (P := P) (w := w) (K := K) (mg := mg) (base := base) (f := f) (cdv := cdv) (A := A) (outer := outer) (s := s) (H0 := H) (E := E) T GS hr
    refine ⟨_, (pss_cons (ps_par3 (by rfl) scDu.nd (i := 1) (j := 2) (l := 3) rfl rfl rfl (by decide) (by decide) (by decide) rfl rfl rfl (pa_cons (pe_op op_add pe_int (pe_op op_mod (pe_ix ix_list (pv 0) pe_int (fun _ _ => rfl)) pe_int)) (pa_cons (pe_lst (pa_cons pe_str (pa_cons pe_str (pa_cons pe_str (pa_cons pe_str (pa_cons pe_str (pa_cons pe_str pa_nil))))))) (pa_cons (pe_lst (pa_cons pe_str (pa_cons pe_str (pa_cons pe_str (pa_cons pe_str pa_nil))))) pa_nil))) (by rfl))
      (pss_cons (ps_par (by rfl) scDu.nd (i := 4) (j := 5) rfl rfl (by decide) rfl rfl (pa_cons pe_dnewK (pa_cons (pe_lst pa_nil) pa_nil)) (by rfl))
      (pss_cons h2 (pss_one (ps_ret (pe_tup (pa_cons (pv 5) (pa_cons (pv 4) pa_nil)))))))), ?_⟩
    have hl := hd.len
    obtain ⟨d0, hd0⟩ : ∃ d, dr[0]? = some d := ⟨_, List.getElem?_eq_getElem (by omega)⟩
    have c0 := Int.emod_nonneg d0 (show (6 : Int) ≠ 0 by omega)
    have c1 := Int.emod_lt_of_pos d0 (show (0 : Int) < 6 by omega)
    obtain ⟨m, hm⟩ : ∃ m : Nat, 1 + d0 % 6 = (m : Int) := ⟨(1 + d0 % 6).toNat, by omega⟩
    refine ⟨_, rfl, L, _, _, .int d0, rfl, rfl, SqL.of hL, at_of (i := 0) (by rw [List.getElem?_map, hd0]; rfl), _, _, rfl, rfl, (by show (0 : Int) < 6; decide), _, _, rfl, rfl, (by show 6 ≤ sizeLine; decide), fun NL hN => ?_⟩
    have s1 := same_new (o := .lst [V.str "pa", V.str "pb", V.str "pc", V.str "pd", V.str "pe", V.str "pf"]) hN
    have g1 : upd H NL (.lst [V.str "pa", V.str "pb", V.str "pc", V.str "pd", V.str "pe", V.str "pf"]) NL = some (.lst (nm6.map V.str)) := upd_same
    generalize upd H NL (.lst [V.str "pa", V.str "pb", V.str "pc", V.str "pd", V.str "pe", V.str "pf"]) = H1 at s1 g1 ⊢
    refine ⟨(by show 4 ≤ sizeLine; decide), fun KL hK => ?_⟩
    have s2 := same_new (o := .lst [V.str "a", V.str "pb", V.str "c", V.str "pd"]) hK
    have g2 : upd H1 KL (.lst [V.str "a", V.str "pb", V.str "c", V.str "pd"]) KL = some (.lst (menu4.map V.str)) := upd_same
    generalize upd H1 KL (.lst [V.str "a", V.str "pb", V.str "c", V.str "pd"]) = H2 at s2 g2 ⊢
    refine ⟨_, _, _, rfl, ?_⟩
    refine fun Dd hD => ?_
    have s3 := same_new (o := .dK []) hD
    have g3 : upd H2 Dd (.dK []) Dd = some (.dK []) := upd_same
    have hD0 : H Dd = none := none_of (s1.trans s2) hD
    generalize upd H2 Dd (.dK []) = H3 at s3 g3 ⊢
    refine ⟨(by show 0 ≤ sizeLine; decide), fun F0 hF => ?_⟩
    have s4 := same_new (o := .lst []) hF
    have g4 : upd H3 F0 (.lst []) F0 = some (.lst []) := upd_same
    have g3' := s4 _ _ g3
    have S3 := (s1.trans s2).trans s3
    have hF0 : H F0 = none := none_of S3 hF
    have LF : L ≠ F0 := ne_of_none (S3 _ _ hL) hF
    have NF : NL ≠ F0 := ne_of_none (s3 _ _ (s2 _ _ g1)) hF
    have KF : KL ≠ F0 := ne_of_none (s3 _ _ g2) hF
    generalize upd H3 F0 (.lst []) = H4 at s4 g4 g3' ⊢
    have S := S3.trans s4
    refine ⟨_, _, rfl, ?_⟩
    show t2 _ (([some (.ref L), some (.int (1 + d0 % 6)), some (.ref NL), some (.ref KL), some (.ref Dd), some (.ref F0), none, none, none, none, none, none] : L2.St)) H4
    rw [hm]
    refine q2 _ H4 L NL KL Dd F0 m dr none none none none none none (S _ _ hL) hd (s4 _ _ (s3 _ _ (s2 _ _ g1))) (s4 _ _ (s3 _ _ g2)) g4 g3' LF NF KF (by omega) (by omega) fun H5 xs qs md ms o6 o7 o8 o9 o10 o11 b5 lu du => ?_
    refine ⟨_, rfl, _, rfl, (by show 2 ≤ sizeLine; decide), fun t ht => ?_⟩
    have s6 := same_new (o := .tup [V.ref F0, V.ref Dd]) ht
    have S5 : Same H H5 := fun b o e => b5 b o (ne_of_none e hF0) (ne_of_none e hD0) (S _ _ e)
    exact q _ t F0 Dd xs md _ qs ms (S5.trans s6) upd_same (lu.same s6) du
end
end DR

namespace DR
open PySem PySem.Spec PyProof.Rows L2
/-! ### the law -/
abbrev sLaw : Stmt := topS 52
abbrev NLa : List Str := ["script", "turn", "draws", "pieces", "told", "unit", "names", "roots", "due", "fewer", "found", "odd", "p", "kind", "words", "draw", "name", "piece"]
theorem scLaw : FnScope NLa ["script"] (defScope sLaw) := ⟨rfl, rfl, rfl, by decide +kernel, rfl, by decide +kernel, by decide +kernel⟩
abbrev lb (i : Nat) : Stmt := (defBody sLaw).getD i (.Pass ⟨0, 0, 0, 0⟩)
abbrev fb (i : Nat) : Stmt := (forB (lb 0)).getD i (.Pass ⟨0, 0, 0, 0⟩)
/-- what the law calls -/
structure TLw (P : Program) (w : World) (K : PySem.W.Frag) (mg : Str → Option Value) (base : Heap) (C CB CT CW CN CP fe : Addr) (T' : List (Addr × Str)) : Prop where
  bi : Bi mg
  cell : Has P w K mg base CX0 1 "_law_cell" ["script", "k"] (spLCell K)
  row : Has P w K mg base CX0 1 "_law_row" ["cell", "sizes"] (spLRow K)
  drawn : Has P w K mg base CX0 3 "_law_drawn_unit" ["draws"] (spDrawn K)
  dist : Has P w K mg base CX0 2 "_law_distances" ["pieces", "told", "roots"] spDist
  reach : Has P w K mg base (L2.CX P w) 6 "reached" ["unit", "roots"] (spReached K C CN)
  struck : Has P w K mg base (L2.CX P w) 9 "struck" ["unit", "roots"] (spStruck K C CN)
  ways : Has P w K mg base CX0 7 "_law_ways_right" ["unit", "pieces", "told", "roots", "due"] (spWaysR K C)
  odd : Has P w K mg base CX0 13 "_law_odd_right" ["unit", "roots", "odd"] (spOddR K T' C)
  mku : MkU P w K mg base C CB CT CW
  imq : ImQ K C fe
  eqf : ∃ fd, FnOk P w K mg base CX0 1 fe fd ["self", "other"] (spEqU K C) ∧ Binds K fd ["self", "other"] []
  toldm : HasM P w K mg base CX0 1 C "told" ["self"] (spUTold C)
abbrev XL (P : Program) (w : World) (K : PySem.W.Frag) (mg : Str → Option Value) (base : Heap) (f : Addr) (cdv : Value) (A : Around) (outer : List Env) (s : Shared) (H : Hp) (E : XK) : Cx := cxOf (L2.CX P w) P w K mg base NLa "law" (defScope sLaw) f cdv A outer s H E
abbrev sg (sc : Addr) (o1 o2 o3 o4 o5 o6 o7 o8 o9 o10 o11 : Option V) : L2.St := [some (.ref sc), o1, o2, o3, o4, o5, o6, o7, o8, o9, o10, o11, none, none, none, none, none, none]
def szs : List Int := List.replicate 100 60 ++ [4, 60, 60, 60, 9]
theorem szs_ok : SizesOk szs := ⟨by decide, by decide +kernel⟩
theorem drawn_ok {dr : List Int} (h : Drawn szs dr) : Draws dr := by
  refine ⟨by rw [h.1]; decide, fun i d hi hd => ?_⟩
  have e : szs[i]? = some 60 := by
    unfold szs
    rw [List.getElem?_append_left (by rw [List.length_replicate]; exact hi), List.getElem?_replicate, if_pos hi]
  obtain ⟨d', e1, h1, h2⟩ := h.2 i 60 e
  rw [hd] at e1
  rw [Option.some.inj e1]
  exact ⟨h1, h2⟩
/-! what is drawn, as data -/
def pkL (q : Pk) : PyData := .tuple [.str q.1, .str q.2.1, .list (q.2.2.map fun w => sumD w.1 w.2)]
theorem pieceL_dp {K : PySem.W.Frag} {H : Hp} {v : V} {q : Pk} (h : PieceL H v q) : Dp K H v (pkL q) := by
  obtain ⟨a, b, ws, rfl, h1, h2, h3⟩ := h
  exact .tup (SqT.of h1) (.cons (.str _) (.cons (.str _) (.cons (.lst (SqL.of h2) (sums_dp h3)) .nil)))
theorem piecesL_dp {K : PySem.W.Frag} {H : Hp} : ∀ {xs : List V} {qs : List Pk}, PySem.W.EachIs (PieceL H) xs qs → DpAll K H xs (qs.map pkL)
  | _, _, .nil => .nil
  | _, _, .cons h t => .cons (pieceL_dp h) (piecesL_dp t)
theorem pcl_of {q : Pk} (nm : NmOk q.1) (kd : q.2.1 ∈ kinds2) (few : q.2.2.length ≤ 10) (wd : ∀ w ∈ q.2.2, WdOk w.1 w.2) : PcD (pkL q) q := by
  refine ⟨?_, fun p k ws e => ?_⟩
  · show (if isNmS q.1 = true ∧ q.2.1 ∈ kinds2 then (readAllS (q.2.2.map fun w => sumD w.1 w.2)).map fun l => (q.1, q.2.1, l) else none) = _
    rw [if_pos ⟨nm.nm, kd⟩, readAllS_sums wd]
    rfl
  · have e := Option.some.inj (show some [PyData.str q.1, .str q.2.1, .list (q.2.2.map fun w => sumD w.1 w.2)] = some [p, k, ws] from e)
    obtain ⟨rfl, e2⟩ := List.cons.inj e
    obtain ⟨_, e3⟩ := List.cons.inj e2
    obtain ⟨rfl, _⟩ := List.cons.inj e3
    refine ⟨nm.sh, fun wl e4 => ?_⟩
    obtain rfl := Option.some.inj (show some (q.2.2.map fun w => sumD w.1 w.2) = some wl from e4)
    refine ⟨by rw [List.length_map]; omega, fun w hw => ?_⟩
    obtain ⟨w', hw', rfl⟩ := List.mem_map.mp hw
    exact (wd w' hw').oks
theorem pcl_all {qs : List Pk} : ∀ {rs : List Pk}, (∀ q ∈ rs, PcD (pkL q) q) → PySem.W.EachIs PcD (rs.map pkL) rs
  | [], _ => .nil
  | r :: rs, h => .cons (h r (List.mem_cons_self ..)) (pcl_all (qs := qs) fun q hq => h q (List.mem_cons_of_mem _ hq))
theorem Du.pcl {zs : List Str} {qs : List Pk} {ms : MsT} (h : Du zs qs ms) : ∀ q ∈ qs, PcD (pkL q) q := fun q hq =>
  pcl_of (h.name hq) (kd2 (h.own q hq).kd) (Nat.le_trans (h.own q hq).few (by decide)) fun w hw => ((h.own q hq).wd w hw).ok
/-- what stands in a turn -/
structure Lt (C PL T x NL : Addr) (xs : List V) (md : List (Key × V)) (zs : List Str) (qs : List Pk) (ms : MsT) (ns : List Str) (H : Hp) : Prop where
  lu : LwU H PL T xs md qs ms
  du : Du zs qs ms
  un : UnG H C x qs ms ns
  nl : H NL = some (.lst ((qs.map (·.1)).map V.str))
theorem Lt.same {C PL T x NL : Addr} {xs : List V} {md : List (Key × V)} {zs : List Str} {qs : List Pk} {ms : MsT} {ns : List Str} {H H' : Hp} (h : Lt C PL T x NL xs md zs qs ms ns H) (e : Same H H') : Lt C PL T x NL xs md zs qs ms ns H' :=
  ⟨h.lu.same e, h.du, unG_s e h.un, e _ _ h.nl⟩
section
variable {P : Program} {w : World} {K : PySem.W.Frag} {mg : Str → Option Value} {base : Heap} {C CB CT CW CN CP fe f : Addr} {c : Value} {T' : List (Addr × Str)} {A : Around} {outer : List Env} {s : Shared} {H0 : Hp} {E : XK}
theorem s0 (L : TLw P w K mg base C CB CT CW CN CP fe T') (hr : Room 18 (XL P w K mg base f c A outer s H0 E).A) : ∃ t, PS (XL P w K mg base f c A outer s H0 E) (fb 0) t ∧ ∀ (D : Ends) (H : Hp) (sc : Addr) (ns : List Int) (j : Nat) (o2 o3 o4 o5 o6 o7 o8 o9 o10 o11 : Option V), SqL K H sc (ns.map V.int) →
      (∀ H' R dr, Same H H' → H' R = some (.lst (dr.map V.int)) → Drawn szs dr → D.nx (sg sc (some (.int (j : Int))) (some (.ref R)) o3 o4 o5 o6 o7 o8 o9 o10 o11) H') → t D (sg sc (some (.int (j : Int))) o2 o3 o4 o5 o6 o7 o8 o9 o10 o11) H := by
  refine ⟨_, ps_set (i := 2) scLaw.nd rfl (.inl rfl) (pe_callH L.row (hr.mono (by decide)) (by rfl) pass0 (pa_cons (pe_callH L.cell (hr.mono (by decide)) (by rfl) pass0 (pa_cons (pv 0) (pa_cons (pv 1) pa_nil))) (pa_cons (pe_op op_cat (pe_op op_rep (pe_lst (pa_cons pe_int pa_nil)) pe_int) (pe_lst (pa_cons pe_int (pa_cons pe_int (pa_cons pe_int (pa_cons pe_int (pa_cons pe_int pa_nil))))))) pa_nil))), ?_⟩
  intro D H sc ns j o2 o3 o4 o5 o6 o7 o8 o9 o10 o11 h q
  refine ⟨_, rfl, _, rfl, sc, ns, j, rfl, h, fun n => ?_⟩
  refine ⟨(by show 1 ≤ sizeLine; decide), fun a na => ?_⟩
  have k1 := same_new (o := .lst [V.int 60]) na
  have g1 : upd H a (.lst [V.int 60]) a = some (.lst [V.int 60]) := upd_same
  generalize upd H a (.lst [V.int 60]) = H1 at k1 g1 ⊢
  refine ⟨a, 100, _, rfl, rfl, g1, by decide, by decide, (by show 1 * 100 ≤ sizeLine; decide), fun b nb => ?_⟩
  have e1 : (List.replicate (100 : Int).toNat [V.int 60]).flatten = (List.replicate 100 (60 : Int)).map V.int := by decide +kernel
  rw [e1]
  have k2 := same_new (o := .lst ((List.replicate 100 (60 : Int)).map V.int)) nb
  have g2 : upd H1 b (.lst ((List.replicate 100 (60 : Int)).map V.int)) b = some (.lst ((List.replicate 100 (60 : Int)).map V.int)) := upd_same
  generalize upd H1 b (.lst ((List.replicate 100 (60 : Int)).map V.int)) = H2 at k2 g2 ⊢
  refine ⟨(by show 5 ≤ sizeLine; decide), fun d nd => ?_⟩
  have k3 := same_new (o := .lst [V.int 4, V.int 60, V.int 60, V.int 60, V.int 9]) nd
  have g3 : upd H2 d (.lst [V.int 4, V.int 60, V.int 60, V.int 60, V.int 9]) d = some (.lst (([4, 60, 60, 60, 9] : List Int).map V.int)) := upd_same
  have g2' := k3 _ _ g2
  generalize upd H2 d (.lst [V.int 4, V.int 60, V.int 60, V.int 60, V.int 9]) = H3 at k3 g3 g2' ⊢
  refine ⟨b, d, _, _, rfl, rfl, g2', g3, (by rw [List.length_map, List.length_replicate]; decide), fun l nl => ?_⟩
  rw [← List.map_append]
  have k4 := same_new (o := .lst (szs.map V.int)) nl
  refine ⟨n, l, szs, rfl, SqL.of upd_same, szs_ok, fun H' p out s5 _ hp dr => ?_⟩
  exact q H' p out ((k1.trans k2).trans ((k3.trans k4).trans s5)) hp dr
theorem s1 (L : TLw P w K mg base C CB CT CW CN CP fe T') (hr : Room 18 (XL P w K mg base f c A outer s H0 E).A) : ∃ t, PS (XL P w K mg base f c A outer s H0 E) (fb 1) t ∧ ∀ (D : Ends) (H : Hp) (sc R : Addr) (dr : List Int) (o1 o3 o4 o5 o6 o7 o8 o9 o10 o11 : Option V), H R = some (.lst (dr.map V.int)) → Drawn szs dr →
      (∀ H' PL T xs md zs qs ms, Same H H' → LwU H' PL T xs md qs ms → Du zs qs ms → D.nx (sg sc o1 (some (.ref R)) (some (.ref PL)) (some (.ref T)) o5 o6 o7 o8 o9 o10 o11) H') → t D (sg sc o1 (some (.ref R)) o3 o4 o5 o6 o7 o8 o9 o10 o11) H := by
  refine ⟨_, (ps_asg (pe_callH L.drawn (hr.mono (by decide)) (by rfl) pass0 (pa_cons (pv 2) pa_nil)) (pg_tup rfl (pgs_cons (pg_name (i := 3) scLaw.nd rfl (.inl rfl)) (pgs_cons (pg_name (i := 4) scLaw.nd rfl (.inr rfl)) pgs_nil)))), ?_⟩
  intro D H sc R dr o1 o3 o4 o5 o6 o7 o8 o9 o10 o11 h hd q
  refine ⟨_, rfl, R, dr, rfl, h, drawn_ok hd, fun H' t PL T xs md zs qs ms s' ht lu du => ?_⟩
  refine ⟨t, _, rfl, SqT.of ht, rfl, _, _, rfl, _, _, rfl, rfl, ?_⟩
  exact q H' PL T xs md zs qs ms s' lu du
theorem s2 (L : TLw P w K mg base C CB CT CW CN CP fe T') (hr : Room 18 (XL P w K mg base f c A outer s H0 E).A) : ∃ t, PS (XL P w K mg base f c A outer s H0 E) (fb 2) t ∧ ∀ (D : Ends) (H : Hp) (sc PL T : Addr) (xs : List V) (md : List (Key × V)) (zs : List Str) (qs : List Pk) (ms : MsT) (o1 o2 o5 o6 o7 o8 o9 o10 o11 : Option V), LwU H PL T xs md qs ms → Du zs qs ms →
      (∀ H' x NL RL ns, Same H H' → Lt C PL T x NL xs md zs qs ms ns H' → H' RL = some (.lst []) → D.nx (sg sc o1 o2 (some (.ref PL)) (some (.ref T)) (some (.ref x)) (some (.ref NL)) (some (.ref RL)) o8 o9 o10 o11) H') → t D (sg sc o1 o2 (some (.ref PL)) (some (.ref T)) o5 o6 o7 o8 o9 o10 o11) H := by
  refine ⟨_, (ps_par3 (by rfl) scLaw.nd (i := 5) (j := 6) (l := 7) rfl rfl rfl (by decide) (by decide) (by decide) rfl rfl rfl (pa_cons (pe_makeU L.mku (hr.mono (by decide)) (by rfl) passN (pa_cons (pv 3) (pa_cons (pv 4) pa_nil))) (pa_cons (pe_lc (own := [("p", 12), ("kind", 13), ("words", 14)]) (g := gTup K 3 (gCons (gName 12) (gCons (gName 13) (gCons (gName 14) gNil)))) (tt := tYes) (te := tVar 12) rfl scLaw.nd (pi_list (pv 3)) (blkOk_by (N := NLa) (sc := defScope sLaw) (by decide +kernel)) (fun _ _ _ _ _ => (pg_tup rfl (pgs_cons (pg_name (i := 12) scLaw.nd rfl (.inl rfl)) (pgs_cons (pg_name (i := 13) scLaw.nd rfl (.inl rfl)) (pgs_cons (pg_name (i := 14) scLaw.nd rfl (.inl rfl)) pgs_nil))))) (fun _ _ _ _ _ => pts_nil) (fun _ _ _ _ _ => pv 12)) (pa_cons (pe_lst pa_nil) pa_nil))) (by rfl)), ?_⟩
  intro D H sc PL T xs md zs qs ms o1 o2 o5 o6 o7 o8 o9 o10 o11 lu du q
  have lx : xs.length = qs.length := lu.each.length
  have qfew := du.few
  refine ⟨_, rfl, _, rfl, fun x dx hx hdx hne => ?_⟩
  refine uq_go du.uq (d := .list (qs.map pkL)) (thE_of (.dat (.lst (SqL.of lu.pl) (piecesL_dp lu.each)))) rfl (pcl_all (qs := qs) du.pcl) lu.td lu.mds hx hdx hne fun H2 ns s2 un => ⟨rfl, ?_⟩
  refine ⟨_, rfl, PL, rfl, ⟨_, SqL.of (s2 _ _ lu.pl)⟩, fun N hN => ?_⟩
  have lu2 := lu.same s2
  refine lc_it (walk_list (xs := xs)) (fun i Hj => Same H2 Hj ∧ Hj N = some (.lst (((qs.take i).map (·.1)).map V.str)))
    ⟨same_new hN, upd_same⟩ (fun i Hj _ ⟨sj, _⟩ => SqL.of (sj _ _ lu2.pl)) ?_ ?_
  · rintro i y Hj' Hj hi ⟨sj, hNj⟩ ⟨rfl, hy⟩
    obtain ⟨q1, hq1, hpc⟩ := eachs_get lu2.each hy
    obtain ⟨a, b, ws, rfl, ha, hb, hws⟩ := id hpc
    have i2 : i < qs.length := (List.getElem?_eq_some_iff.mp hq1).1
    refine ⟨a, _, rfl, SqT.of (sj _ _ ha), rfl, _, _, rfl, _, _, rfl, _, _, rfl, rfl, rfl, yes_go (iteT ?_)⟩
    refine ⟨_, rfl, _, hNj, small1000 ?_, same_upd sj hN, ?_⟩
    · rw [List.length_map, List.length_map, List.length_take]
      omega
    · rw [upd_same, List.take_add_one, hq1, List.map_append, List.map_append]
      rfl
  · rintro Hj ⟨sj, hNj⟩
    rw [lx, List.take_length] at hNj
    refine ⟨(by show 0 ≤ sizeLine; decide), fun RL nR => ?_⟩
    have sR := same_new (o := .lst []) nR
    have S := s2.trans (sj.trans sR)
    refine ⟨_, _, _, rfl, ?_⟩
    exact q _ x N RL ns S ⟨lu.same S, du, unG_s (sj.trans sR) un, sR _ _ hNj⟩ upd_same
end
end DR

namespace DR
open PySem PySem.Spec PyProof.Rows L2
abbrev rLenK : List V → Hp → VK → Prop := fun xs H Q => ∃ a kvs, xs = [V.ref a] ∧ H a = some (.dK kvs) ∧ Q (.int kvs.length) H
theorem cr_lenK {X : Cx} : CallR X (.builtin "len") rLenK := call_lenD
theorem md_names {H : Hp} {md : List (Key × V)} {ms : MsT} (h : PySem.W.EachIs (MdR H) md ms) : (md.map fun kv => kV kv.1) = (ms.map (·.1)).map V.str := by
  induction h with
  | nil => rfl
  | cons h t ih =>
    rw [List.map_cons, List.map_cons, List.map_cons, ih, (show _ = _ from h.1)]
    rfl
abbrev tRoot (K : PySem.W.Frag) : TE := tOp (rIxL K) (tCB rListD (tCons (tVar 4) tNil)) (tOp (rI (fun _ j => 0 < j) fun i j => .int (i % j)) (tVar 15) (tCB rLenK (tCons (tVar 4) tNil)))
section
variable {P : Program} {w : World} {K : PySem.W.Frag} {mg : Str → Option Value} {base : Heap} {C CB CT CW CN CP fe f : Addr} {c : Value} {T' : List (Addr × Str)} {A : Around} {outer : List Env} {s : Shared} {H0 : Hp} {E : XK}
theorem s3 (L : TLw P w K mg base C CB CT CW CN CP fe T') (hr : Room 18 (XL P w K mg base f c A outer s H0 E).A) : ∃ t, PS (XL P w K mg base f c A outer s H0 E) (fb 3) t ∧ ∀ (D : Ends) (H : Hp) (sc R PL T x NL RL : Addr) (dr : List Int) (xs : List V) (md : List (Key × V)) (zs : List Str) (qs : List Pk) (ms : MsT) (ns : List Str) (o1 o8 o9 o10 o11 : Option V), Lt C PL T x NL xs md zs qs ms ns H → H R = some (.lst (dr.map V.int)) → Drawn szs dr → H RL = some (.lst []) →
      (∀ H' RL' (rs : List Str), Same H H' → H' RL' = some (.lst (rs.map V.str)) → rs.length ≤ 100 → (∀ r ∈ rs, r ∈ ms.map (·.1)) → D.nx (sg sc o1 (some (.ref R)) (some (.ref PL)) (some (.ref T)) (some (.ref x)) (some (.ref NL)) (some (.ref RL')) o8 o9 o10 o11) H') → t D (sg sc o1 (some (.ref R)) (some (.ref PL)) (some (.ref T)) (some (.ref x)) (some (.ref NL)) (some (.ref RL)) o8 o9 o10 o11) H := by
  refine ⟨_, (ps_if (pt_cmpR (op_neDD hr) (pv 4) pe_dnewK (nomark _)) (pss_one (ps_setLc (i := 7) (own := [("draw", 15)]) (g := gName 15) (tt := tYes) (te := tRoot K) rfl scLaw.nd rfl rfl (sw_true rfl rfl rfl (by decide +kernel)) (pi_list (pe_slice sl_list (pv 2) (po_some pe_int) (po_some (pe_op op_add pe_int (pe_ix ix_list (pv 2) pe_int (fun _ _ => rfl)))))) (blkOk_by (N := NLa) (sc := defScope sLaw) (by decide +kernel)) (fun _ _ _ _ _ => pg_name (i := 15) scLaw.nd rfl (.inl rfl)) (fun _ _ _ _ _ => pts_nil) (fun _ _ _ _ _ => (pe_ix ix_list (pe_callTy (call_list_dK rfl) (by rfl) L.bi.list (by decide +kernel) (pa_cons (pv 4) pa_nil)) (pe_op op_mod (pv 15) (pe_callB cr_lenK (by rfl) L.bi.len (by decide +kernel) (pa_cons (pv 4) pa_nil))) (fun _ _ => rfl))))) pss_nil), ?_⟩
  intro D H sc R PL T x NL RL dr xs md zs qs ms ns o1 o8 o9 o10 o11 lt hR hd hRL q
  refine ⟨_, rfl, fun e ne => ?_⟩
  have s1 := same_new (o := .dK []) ne
  have g1 : upd H e (.dK []) e = some (.dK []) := upd_same
  generalize upd H e (.dK []) = H1 at s1 g1 ⊢
  have lt1 := lt.same s1
  have lmd : md.length = ms.length := lt1.lu.mds.length
  refine ⟨T, e, _, _, _, _, rfl, rfl, lt1.lu.td, g1, md_dk lt1.lu.mds, .nil, _, rfl, ?_⟩
  by_cases mz : ms = []
  · rw [show (!((msD ms).length == ([] : List (Key × PyData)).length && eqE (msD ms) [])) = false from by rw [mz]; rfl]
    refine iteF ?_
    exact q H1 RL [] s1 (s1 _ _ hRL) (Nat.zero_le _) fun r hr => by cases hr
  · have ml : 0 < ms.length := List.length_pos_iff.mpr mz
    rw [show (!((msD ms).length == ([] : List (Key × PyData)).length && eqE (msD ms) [])) = true from by
      cases ms with
      | nil => exact absurd rfl mz
      | cons m ms => rfl]
    refine iteT ?_
    obtain ⟨d100, e100, b0, b1⟩ := hd.2 100 4 (by decide +kernel)
    have ld : dr.length = 105 := hd.1
    obtain ⟨n, rfl⟩ := Int.eq_ofNat_of_zero_le b0
    refine ⟨_, rfl, _, rfl, _, rfl, R, _, _, .int (n : Nat), rfl, rfl, SqL.of (s1 _ _ hR), at_of (i := 100) (by rw [List.getElem?_map, e100]; rfl), _, _, rfl, rfl, _, rfl, R, _, rfl, SqL.of (s1 _ _ hR), fun l nl => ?_⟩
    have e1 : (101 : Int) + (n : Int) = ((101 + n : Nat) : Int) := by omega
    have e3 : cutV (dr.map V.int) (some (101 : Int)) (some ((101 : Int) + (n : Int))) = ((dr.drop 101).take n).map V.int := by
      rw [e1, show (101 : Int) = ((101 : Nat) : Int) from rfl, cut_two (by omega) (by rw [List.length_map]; omega), ← List.map_drop, ← List.map_take]
      congr 2
      omega
    rw [e3]
    have lw : ((dr.drop 101).take n).length ≤ 4 := by rw [List.length_take]; omega
    generalize (dr.drop 101).take n = ws at lw ⊢
    have s2 := same_new (o := .lst (ws.map V.int)) nl
    have g2 : upd H1 l (.lst (ws.map V.int)) l = some (.lst (ws.map V.int)) := upd_same
    generalize upd H1 l (.lst (ws.map V.int)) = H2 at s2 g2 ⊢
    have lt2 := lt1.same s2
    refine ⟨l, rfl, ⟨_, SqL.of g2⟩, fun N hN => ?_⟩
    refine lc_it (walk_list (xs := ws.map V.int)) (fun i Hj => Same H2 Hj ∧ ∃ rs : List Str, Hj N = some (.lst (rs.map V.str)) ∧ rs.length = i ∧ ∀ r ∈ rs, r ∈ ms.map (·.1))
      ⟨same_new hN, [], upd_same, rfl, fun r hr => (by cases hr)⟩ (fun i Hj _ ⟨sj, _⟩ => SqL.of (sj _ _ g2)) ?_ ?_
    · rintro i y Hj' Hj hi ⟨sj, rs, hNj, lr, hrs⟩ ⟨rfl, hy⟩
      rw [List.length_map] at hi
      obtain ⟨d, rfl⟩ : ∃ d : Int, y = .int d := by
        rw [List.getElem?_map] at hy
        cases ed : ws[i]? with
        | none => rw [ed] at hy; cases hy
        | some d => rw [ed] at hy; exact ⟨d, (Option.some.inj hy).symm⟩
      have ltj := lt2.same sj
      refine ⟨rfl, yes_go (iteT ?_)⟩
      refine ⟨_, rfl, T, md, rfl, ltj.lu.td, fun ks nk => ?_⟩
      rw [md_names ltj.lu.mds]
      have sk := same_new (o := .lst ((ms.map (·.1)).map V.str)) nk
      have gk : upd Hj ks (.lst ((ms.map (·.1)).map V.str)) ks = some (.lst ((ms.map (·.1)).map V.str)) := upd_same
      generalize upd Hj ks (.lst ((ms.map (·.1)).map V.str)) = Hk at sk gk ⊢
      have r0 := Int.emod_nonneg d (show (md.length : Int) ≠ 0 by omega)
      have r1 := Int.emod_lt_of_pos d (show (0 : Int) < (md.length : Int) by omega)
      obtain ⟨m, hm⟩ := Int.eq_ofNat_of_zero_le r0
      have hml : m < (ms.map (·.1)).length := by rw [List.length_map]; omega
      refine ⟨_, rfl, _, rfl, T, md, rfl, sk _ _ ltj.lu.td, _, _, rfl, rfl, (by show (0 : Int) < (md.length : Int); omega), ks, _, _, .str (ms.map (·.1))[m], rfl, congrArg V.int hm, SqL.of gk, at_of (by rw [List.getElem?_map, List.getElem?_eq_getElem hml]; rfl), ?_⟩
      refine ⟨_, sk _ _ hNj, small1000 (by rw [List.length_map]; omega), same_upd (sj.trans sk) hN, rs ++ [(ms.map (·.1))[m]], by rw [upd_same, List.map_append]; rfl, by rw [List.length_append, lr]; rfl, fun r hr => ?_⟩
      rcases List.mem_append.mp hr with hr | hr
      · exact hrs r hr
      · rw [List.mem_singleton.mp hr]
        exact List.getElem_mem hml
    · rintro Hj ⟨sj, rs, hNj, lr, hrs⟩
      rw [List.length_map] at lr
      exact q Hj N rs ((s1.trans s2).trans sj) hNj (by omega) hrs
theorem s4 (L : TLw P w K mg base C CB CT CW CN CP fe T') (hr : Room 18 (XL P w K mg base f c A outer s H0 E).A) : ∃ t, PS (XL P w K mg base f c A outer s H0 E) (fb 4) t ∧ ∀ (D : Ends) (H : Hp) (sc PL T x NL RL : Addr) (xs : List V) (md : List (Key × V)) (zs : List Str) (qs : List Pk) (ms : MsT) (ns rs : List Str) (o1 o2 o8 o9 o10 o11 : Option V), Lt C PL T x NL xs md zs qs ms ns H → H RL = some (.lst (rs.map V.str)) → RootsR qs ms rs →
      (∀ H' DL ds, Same H H' → DL ≠ T → H' DL = some (.dK (dsK ds)) → DsF qs ms (rootsOf ms rs) ds → D.nx (sg sc o1 o2 (some (.ref PL)) (some (.ref T)) (some (.ref x)) (some (.ref NL)) (some (.ref RL)) (some (.ref DL)) o9 o10 o11) H') → t D (sg sc o1 o2 (some (.ref PL)) (some (.ref T)) (some (.ref x)) (some (.ref NL)) (some (.ref RL)) o8 o9 o10 o11) H := by
  refine ⟨_, (ps_set (i := 8) scLaw.nd rfl (.inr rfl) (pe_callH L.dist (hr.mono (by decide)) (by rfl) pass0 (pa_cons (pv 3) (pa_cons (pv 4) (pa_cons (pv 7) pa_nil))))), ?_⟩
  intro D H sc PL T x NL RL xs md zs qs ms ns rs o1 o2 o8 o9 o10 o11 lt hRL ro q
  exact ⟨_, rfl, _, rfl, _, rfl, PL, T, RL, xs, md, qs, ms, rs, rfl, lt.lu, hRL, lt.du.lwq, ro.ok, fun DL ds H' s' nD hD df => q H' DL ds s' (fun z => by rw [z, lt.lu.td] at nD; cases nD) hD df⟩
theorem s5 (L : TLw P w K mg base C CB CT CW CN CP fe T') (hr : Room 18 (XL P w K mg base f c A outer s H0 E).A) : ∃ t, PS (XL P w K mg base f c A outer s H0 E) (fb 5) t ∧ ∀ (D : Ends) (H : Hp) (sc PL T x NL RL DL : Addr) (xs : List V) (md : List (Key × V)) (zs : List Str) (qs : List Pk) (ms : MsT) (ns rs : List Str) (ds : DsT) (o1 o2 o9 o10 o11 : Option V), Lt C PL T x NL xs md zs qs ms ns H → H RL = some (.lst (rs.map V.str)) → RootsR qs ms rs → H DL = some (.dK (dsK ds)) → DsF qs ms (rootsOf ms rs) ds →
      (∀ H', Same H H' → D.nx (sg sc o1 o2 (some (.ref PL)) (some (.ref T)) (some (.ref x)) (some (.ref NL)) (some (.ref RL)) (some (.ref DL)) o9 o10 o11) H') → t D (sg sc o1 o2 (some (.ref PL)) (some (.ref T)) (some (.ref x)) (some (.ref NL)) (some (.ref RL)) (some (.ref DL)) o9 o10 o11) H := by
  have hu := hu_of hr
  refine ⟨_, (ps_if (pt_cmpR (op_neP hr) (pe_callH L.reach (hr.mono (by decide)) (by rfl) passN (pa_cons (pv 5) (pa_cons (pe_callTy call_tuple_of (by rfl) L.bi.tuple (by decide +kernel) (pa_cons (pv 7) pa_nil)) pa_nil))) (pe_lc (own := [("p", 12)]) (g := gName 12) (tt := tB (tDIn (tVar 12) (tVar 8))) (te := tVar 12) rfl scLaw.nd (pi_list (pv 6)) (blkOk_by (N := NLa) (sc := defScope sLaw) (by decide +kernel)) (fun _ _ _ _ _ => pg_name (i := 12) scLaw.nd rfl (.inl rfl)) (fun _ _ _ _ _ => pts_one (pt_cmp (pc_din hu (pv 12) (pv 8)) (by rfl))) (fun _ _ _ _ _ => (pv 12))) (nomark _)) (pss_one (ps_ret pe_bl)) pss_nil), ?_⟩
  intro D H sc PL T x NL RL DL xs md zs qs ms ns rs ds o1 o2 o9 o10 o11 lt hRL ro hD df q
  have few := lt.du.few
  refine ⟨_, rfl, _, rfl, RL, _, rfl, .inl ⟨SqL.of hRL, fun tp htp => ?_⟩⟩
  have s1 := same_new (o := .tup (rs.map V.str)) htp
  have g1 : upd H tp (.tup (rs.map V.str)) tp = some (.tup (rs.map V.str)) := upd_same
  generalize upd H tp (.tup (rs.map V.str)) = H1 at s1 g1 ⊢
  have lt1 := lt.same s1
  refine ⟨x, qs, ms, ns, .ref tp, rfl, lt1.un, .inr ⟨tp, rs, rfl, .inr (SqT.of g1), ro, fun l us H2 s2 _ hl isr => ?_⟩⟩
  have lt2 := lt1.same s2
  obtain ⟨g, hg, rfl⟩ := isr
  have hD2 := s2 _ _ (s1 _ _ hD)
  refine ⟨_, rfl, NL, rfl, ⟨_, SqL.of lt2.nl⟩, fun N hN => ?_⟩
  have vz : ∀ z, (valV (dsK ds) (.inr z)).isSome = g z := fun z => by
    rcases dsK_val (ds := ds) (z := z) with ⟨n, e⟩ | ⟨i, m, e⟩
    · rw [e]
      cases gz : g z with
      | false => rfl
      | true => exact absurd ((df.dom z).mpr ((hg z).mp gz)) n
    · rw [e]
      exact ((hg z).mpr ((df.dom z).mp (List.mem_map.mpr ⟨_, m, rfl⟩))).symm
  have lq : (qs.map (·.1)).length = qs.length := List.length_map _
  refine lc_it (walk_list (xs := (qs.map (·.1)).map V.str)) (fun i Hj => Same H2 Hj ∧ Hj N = some (.lst ((((qs.map (·.1)).take i).filter g).map V.str)))
    ⟨same_new hN, upd_same⟩ (fun i Hj _ ⟨sj, _⟩ => SqL.of (sj _ _ lt2.nl)) ?_ ?_
  · rintro i y Hj' Hj hi ⟨sj, hNj⟩ ⟨rfl, hy⟩
    rw [List.length_map] at hi
    obtain ⟨z, hz, rfl⟩ : ∃ z, (qs.map (·.1))[i]? = some z ∧ y = .str z := by
      rw [List.getElem?_map] at hy
      cases ed : (qs.map (·.1))[i]? with
      | none => rw [ed] at hy; cases hy
      | some z => rw [ed] at hy; exact ⟨z, rfl, (Option.some.inj hy).symm⟩
    have et : ((qs.map (·.1)).take (i + 1)).filter g = ((qs.map (·.1)).take i).filter g ++ [z].filter g := by
      rw [List.take_add_one, hz, List.filter_append]
      rfl
    refine ⟨rfl, ?_⟩
    refine ⟨_, rfl, _, rfl, DL, _, rfl, DGet.k (k := .inr z) (sj _ _ hD2), ?_⟩
    rw [vz z]
    cases gz : g z with
    | true =>
      refine ⟨_, rfl, iteT ⟨_, rfl, _, hNj, small1000 ?_, same_upd sj hN, ?_⟩⟩
      · rw [List.length_map]
        refine Nat.le_trans (List.length_filter_le ..) ?_
        rw [List.length_take, lq]
        omega
      · have e1 : [z].filter g = [z] := by rw [List.filter_cons_of_pos (by exact gz), List.filter_nil]
        rw [upd_same, et, e1, List.map_append]
        rfl
    | false =>
      refine ⟨_, rfl, iteF ⟨sj, ?_⟩⟩
      have e1 : [z].filter g = [] := by rw [List.filter_cons_of_neg (by rw [gz]; decide), List.filter_nil]
      rw [et, e1, List.append_nil]
      exact hNj
  · rintro Hj ⟨sj, hNj⟩
    rw [List.length_map, List.take_length] at hNj
    have pl := strs_plain ((qs.map (·.1)).filter g)
    have ee : PyData.eqv (.list (((qs.map (·.1)).filter g).map .str)) (.list (((qs.map (·.1)).filter g).map .str)) = true := SeqAt.eqv_refl_plain _ (by simpa [PyData.plain] using pl)
    have hl' := sj _ _ hl
    refine ⟨_, _, .lst (SqL.of hl') (strs_dp _), .lst (SqL.of hNj) (strs_dp _), (by simpa [PyData.plain] using pl), (by simpa [PyData.plain] using pl), ?_, _, rfl, ?_⟩
    · have : ∀ zs : List Str, PyData.depthAll (zs.map PyData.str) ≤ 1 := fun zs => by
        induction zs with
        | nil => simp [PyData.depthAll]
        | cons z zs ih =>
          rw [List.map_cons, PyData.depthAll]
          exact Nat.max_le.mpr ⟨by simp [PyData.depth], ih⟩
      have := this ((qs.map (·.1)).filter g)
      simp only [PyData.depth]
      omega
    · rw [ee]
      exact iteF (q Hj ((s1.trans s2).trans sj))
end
end DR

namespace DR
open PySem PySem.Spec PyProof.Rows L2
abbrev gD (ds : DsT) : Str → Bool := fun z => (valV (dsK ds) (.inr z)).isSome
theorem gD_iff {qs : List Pk} {ms : MsT} {S : List Str} {ds : DsT} (df : DsF qs ms S ds) (p : Str) : gD ds p = true ↔ Rch qs ms S p := by
  rw [← df.dom]
  show (valV (dsK ds) (.inr p)).isSome = true ↔ _
  rcases dsK_val (ds := ds) (z := p) with ⟨n, e⟩ | ⟨i, m, e⟩
  · rw [e]
    exact ⟨fun h => (by cases h), fun h => absurd h n⟩
  · rw [e]
    exact ⟨fun _ => List.mem_map.mpr ⟨_, m, rfl⟩, fun _ => rfl⟩
theorem gD_eq {qs : List Pk} {ms : MsT} {S : List Str} {ds : DsT} (df : DsF qs ms S ds) {f : Str → Bool} (h : ∀ p, f p = true ↔ Rch qs ms S p) : f = gD ds := by
  funext p
  have a := h p
  have b := gD_iff df p
  cases e1 : f p <;> cases e2 : gD ds p <;> simp_all
abbrev tFk (K : PySem.W.Frag) : TE := tOp (rIxT K) (tDGet (tVar 4) (tVar 16)) (tC (.int 0))
abbrev tFe : TE := tTup (tCons (tVar 16) (tCons (tDGet (tVar 4) (tVar 16)) tNil))
section
variable {P : Program} {w : World} {K : PySem.W.Frag} {mg : Str → Option Value} {base : Heap} {C CB CT CW CN CP fe f : Addr} {c : Value} {T' : List (Addr × Str)} {A : Around} {outer : List Env} {s : Shared} {H0 : Hp} {E : XK}
theorem s6 (L : TLw P w K mg base C CB CT CW CN CP fe T') (hr : Room 18 (XL P w K mg base f c A outer s H0 E).A) : ∃ t, PS (XL P w K mg base f c A outer s H0 E) (fb 6) t ∧ ∀ (D : Ends) (H : Hp) (sc PL T x NL DL : Addr) (xs : List V) (md : List (Key × V)) (zs : List Str) (qs : List Pk) (ms : MsT) (ns : List Str) (ds : DsT) (o1 o2 o7 o9 o10 o11 : Option V), Lt C PL T x NL xs md zs qs ms ns H → DL ≠ T → H DL = some (.dK (dsK ds)) →
      (∀ H' FD md', Same H H' → H' FD = some (.dK md') → PySem.W.EachIs (MdR H') md' (ftM (gD ds) ms) → D.nx (sg sc o1 o2 (some (.ref PL)) (some (.ref T)) (some (.ref x)) (some (.ref NL)) o7 (some (.ref DL)) (some (.ref FD)) o10 o11) H') → t D (sg sc o1 o2 (some (.ref PL)) (some (.ref T)) (some (.ref x)) (some (.ref NL)) o7 (some (.ref DL)) o9 o10 o11) H := by
  have hu := hu_of hr
  refine ⟨_, (ps_set (i := 9) scLaw.nd rfl (.inl rfl) (pe_callTy (cr_dictP rfl) (by rfl) L.bi.dict (by decide +kernel) (pa_cons (pe_lock (pe_lc (own := [("name", 16)]) (g := gName 16) (tt := tB (tDIn (tFk K) (tVar 8))) (te := tFe) rfl scLaw.nd (pi_keys (pv 4)) (blkOk_by (N := NLa) (sc := defScope sLaw) (by decide +kernel)) (fun _ _ _ _ _ => pg_name (i := 16) scLaw.nd rfl (.inl rfl)) (fun _ _ _ _ _ => pts_one (pt_cmp (pc_din hu (pe_ix ix_tup (pe_dget hu (pv 4) (pv 16) (fun _ _ => rfl)) pe_int (fun _ _ => rfl)) (pv 8)) (by rfl))) (fun _ _ _ _ _ => (pe_tup (pa_cons (pv 16) (pa_cons (pe_dget hu (pv 4) (pv 16) (fun _ _ => rfl)) pa_nil)))))) pa_nil))), ?_⟩
  intro D H sc PL T x NL DL xs md zs qs ms ns ds o1 o2 o7 o9 o10 o11 lt DT hD q
  have hmd := lt.lu.mds
  have hT := lt.lu.td
  have lmd : md.length = ms.length := hmd.length
  have mfew := lt.du.mfew
  refine ⟨T, _, hT, trivial, fun od => ?_⟩
  have hTf : upd H T (.frz od (.dK md)) T = some (.frz od (.dK md)) := upd_same
  have sf : ∀ b o, b ≠ T → H b = some o → upd H T (.frz od (.dK md)) b = some o := fun b o hb e => by rw [upd_ne hb]; exact e
  have ts0 : TupS H (upd H T (.frz od (.dK md))) := TupS.put hT (by intro xs z; cases z)
  have hDf := sf _ _ DT hD
  have hmdf := eachs_imp (fun _ _ => mdR_s ts0) hmd
  have nHf : ∀ b, upd H T (.frz od (.dK md)) b = none → H b = none := fun b e => by
    cases z : H b with
    | none => rfl
    | some o =>
      by_cases c : b = T
      · rw [c, hTf] at e; cases e
      · rw [sf _ _ c z] at e; cases e
  have sb : ∀ b o, upd H T (.frz od (.dK md)) b = some o → b ≠ T → H b = some o := fun b o e hb => by rw [upd_ne hb] at e; exact e
  generalize upd H T (.frz od (.dK md)) = Hf at hTf sf ts0 hDf hmdf nHf sb ⊢
  refine ⟨_, rfl, T, od, rfl, .inl ⟨md, hTf, fun N hN => ?_⟩⟩
  have TN : T ≠ N := ne_of_none hTf hN
  refine lc_it walk_keys (fun i Hj => (∀ b o, b ≠ N → Hf b = some o → Hj b = some o) ∧ ∃ (ps : List Addr) (kvs : List (Key × V)), Hj N = some (.lst (ps.map V.ref)) ∧ ps.length ≤ i ∧ PySem.W.EachIs (PrT Hj) ps kvs ∧ PySem.W.EachIs (MdR Hj) kvs (ftM (gD ds) (ms.take i)))
    ⟨fun b o hb e => by rw [upd_ne hb]; exact e, [], [], upd_same, Nat.le_refl _, .nil, .nil⟩ (fun i Hj _ ⟨kp, _⟩ => kp _ _ TN hTf) ?_ ?_
  · rintro i y Hj' Hj hi ⟨kp, ps, kvs, hNj, lps, hps, hkvs⟩ ⟨rfl, k, v, hk, rfl⟩
    have hi2 : i < md.length := hi
    obtain ⟨m, hm, e1, t, e2, ht⟩ := eachs_get hmdf hk
    have e1 : k = .inr m.1 := e1
    have e2 : v = .ref t := e2
    subst e1 e2
    have skp : Same Hf Hj := fun b o e => kp b o (ne_of_none e hN) e
    have hTj := skp _ _ hTf
    have htj := skp _ _ ht
    have nodk : (md.map (·.1)).Nodup := by
      rw [md_keys hmd]
      exact inr_nod lt.du.mnod
    have ev : valV md (.inr m.1) = some (.ref t) := valK_at nodk hk
    have gd : DGet Hj T (.str m.1) (some (.ref t)) := .inl ⟨md, .inr m.1, .inr ⟨od, hTj⟩, rfl, ev.symm⟩
    have eM : ftM (gD ds) (ms.take (i + 1)) = ftM (gD ds) (ms.take i) ++ [m].filter fun m => gD ds m.2.1 := by
      unfold ftM
      rw [List.take_add_one, hm, List.filter_append]
      rfl
    refine ⟨rfl, ?_⟩
    refine ⟨_, rfl, _, rfl, T, _, rfl, gd, t, _, _, _, rfl, rfl, SqT.of htj, at_of (i := 0) rfl, _, rfl, DL, _, rfl, DGet.k (k := .inr m.2.1) (skp _ _ hDf), ?_⟩
    rw [show (valV (dsK ds) (.inr m.2.1)).isSome = gD ds m.2.1 from rfl]
    cases ev2 : gD ds m.2.1 with
    | true =>
      refine ⟨_, rfl, iteT ⟨_, rfl, _, rfl, _, rfl, T, _, rfl, gd, (by show 2 ≤ sizeLine; decide), fun u nu => ?_⟩⟩
      have ku := same_new (o := .tup [kV (.inr m.1), V.ref t]) nu
      have gu : upd Hj u (.tup [kV (.inr m.1), V.ref t]) u = some (.tup [kV (.inr m.1), V.ref t]) := upd_same
      generalize upd Hj u (.tup [kV (.inr m.1), V.ref t]) = H3 at ku gu ⊢
      have hN3 := ku _ _ hNj
      have tsN : TupS H3 (upd H3 N (.lst (ps.map V.ref ++ [V.ref u]))) := TupS.put hN3 (by intro xs z; cases z)
      have e1 : [m].filter (fun m => gD ds m.2.1) = [m] := by rw [List.filter_cons_of_pos (by exact ev2), List.filter_nil]
      refine ⟨ps.map V.ref, hN3, small1000 (by rw [List.length_map]; omega), fun b o hb e => by rw [upd_ne hb]; exact ku _ _ (kp b o hb e), ps ++ [u], kvs ++ [(.inr m.1, .ref t)], by rw [upd_same, List.map_append]; rfl, by rw [List.length_append, List.length_singleton]; omega, eachs_snoc (R := PrT _) (tsN _ _ gu) (eachs_imp (fun _ _ => prT_t ((TupS.of ku).trans tsN)) hps), ?_⟩
      rw [eM, e1]
      exact eachs_snoc (R := MdR _) ⟨rfl, t, rfl, tsN _ _ (ku _ _ htj)⟩ (eachs_imp (fun _ _ => mdR_s ((TupS.of ku).trans tsN)) hkvs)
    | false =>
      have e1 : [m].filter (fun m => gD ds m.2.1) = [] := by rw [List.filter_cons_of_neg (by rw [ev2]; decide), List.filter_nil]
      refine ⟨_, rfl, iteF ⟨kp, ps, kvs, hNj, Nat.le_succ_of_le lps, hps, ?_⟩⟩
      rw [eM, e1, List.append_nil]
      exact hkvs
  · rintro Hj ⟨kp, ps, kvs, hNj, lps, hps, hkvs⟩
    rw [lmd, List.take_length] at hkvs
    have hTj := kp _ _ TN hTf
    refine ⟨hTj, ?_⟩
    have sH : Same H (upd Hj T (.dK md)) := fun b o e => by
      by_cases c : b = T
      · rw [c, hT] at e
        rw [c, upd_same, Option.some.inj e]
      · rw [upd_ne c]
        have := sf _ _ c e
        exact kp _ _ (ne_of_none this hN) this
    have tse : TupS Hj (upd Hj T (.dK md)) := TupS.put hTj (by intro xs z; cases z)
    have hNe : upd Hj T (.dK md) N = some (.lst (ps.map V.ref)) := by rw [upd_ne TN.symm]; exact hNj
    have hpe := eachs_imp (fun _ _ => prT_t tse) hps
    have hke := eachs_imp (fun _ _ => mdR_s tse) hkvs
    generalize upd Hj T (.dK md) = He at sH hNe hpe hke ⊢
    have nod : (kvs.map (·.1)).Nodup := by
      rw [md_keys hke]
      exact inr_nod (lt.du.mnod.sublist (List.filter_sublist.map _))
    refine ⟨N, ps, kvs, rfl, SqL.of hNe, pair_of hpe, fun FD nF => ?_⟩
    rw [merge_nod (acc := []) (kvs := kvs) nod]
    have sF := same_new (o := .dK kvs) nF
    exact q _ FD kvs (sH.trans sF) upd_same (eachs_imp (fun _ _ => mdR_s (TupS.of sF)) hke)
theorem s7 (L : TLw P w K mg base C CB CT CW CN CP fe T') (hr : Room 18 (XL P w K mg base f c A outer s H0 E).A) : ∃ t, PS (XL P w K mg base f c A outer s H0 E) (fb 7) t ∧ ∀ (D : Ends) (H : Hp) (sc PL T x NL RL : Addr) (xs : List V) (md : List (Key × V)) (zs : List Str) (qs : List Pk) (ms : MsT) (ns rs : List Str) (ds : DsT) (o1 o2 o8 o9 o10 o11 : Option V), Lt C PL T x NL xs md zs qs ms ns H → H RL = some (.lst (rs.map V.str)) → RootsR qs ms rs → DsF qs ms (rootsOf ms rs) ds →
      (∀ H' y ns', Same H H' → UnG H' C y (ftQ (gD ds) qs) (ftM (gD ds) ms) ns' → D.nx (sg sc o1 o2 (some (.ref PL)) (some (.ref T)) (some (.ref x)) (some (.ref NL)) (some (.ref RL)) o8 o9 (some (.ref y)) o11) H') → t D (sg sc o1 o2 (some (.ref PL)) (some (.ref T)) (some (.ref x)) (some (.ref NL)) (some (.ref RL)) o8 o9 o10 o11) H := by
  refine ⟨_, (ps_set (i := 10) scLaw.nd rfl (.inl rfl) (pe_callH L.struck (hr.mono (by decide)) (by rfl) passN (pa_cons (pv 5) (pa_cons (pv 7) pa_nil)))), ?_⟩
  intro D H sc PL T x NL RL xs md zs qs ms ns rs ds o1 o2 o8 o9 o10 o11 lt hRL ro df q
  refine ⟨_, rfl, _, rfl, x, qs, ms, ns, .ref RL, rfl, lt.un, .inr ⟨RL, rs, rfl, .inl (SqL.of hRL), ro, lt.du.uq, fun g y ns' H' hg s' un' => ?_⟩⟩
  rw [gD_eq df hg] at un'
  exact q H' y ns' s' un'
abbrev tPk (K : PySem.W.Frag) : TE := tOp (rIxT K) (tVar 17) (tC (.int 0))
theorem s8 (L : TLw P w K mg base C CB CT CW CN CP fe T') (hr : Room 18 (XL P w K mg base f c A outer s H0 E).A) : ∃ t, PS (XL P w K mg base f c A outer s H0 E) (fb 8) t ∧ ∀ (D : Ends) (H : Hp) (sc PL T x NL DL FD y : Addr) (xs : List V) (md md' : List (Key × V)) (zs : List Str) (qs : List Pk) (ms : MsT) (ns ns' S : List Str) (ds : DsT) (o1 o2 o7 o11 : Option V), Lt C PL T x NL xs md zs qs ms ns H → H DL = some (.dK (dsK ds)) → DsF qs ms S ds → H FD = some (.dK md') → PySem.W.EachIs (MdR H) md' (ftM (gD ds) ms) → UnG H C y (ftQ (gD ds) qs) (ftM (gD ds) ms) ns' →
      (∀ H', Same H H' → D.nx (sg sc o1 o2 (some (.ref PL)) (some (.ref T)) (some (.ref x)) (some (.ref NL)) o7 (some (.ref DL)) (some (.ref FD)) (some (.ref y)) o11) H') → t D (sg sc o1 o2 (some (.ref PL)) (some (.ref T)) (some (.ref x)) (some (.ref NL)) o7 (some (.ref DL)) (some (.ref FD)) (some (.ref y)) o11) H := by
  have hu := hu_of hr
  obtain ⟨fd, F, hb⟩ := L.eqf
  refine ⟨_, (ps_if (pt_cmpR (op_neA (E := E0) F L.imq hb pass0 (hr.mono (by decide)) (by omega)) (pv 10) (pe_makeU L.mku (hr.mono (by decide)) (by rfl) passN (pa_cons (pe_lc (own := [("piece", 17)]) (g := gName 17) (tt := tB (tDIn (tPk K) (tVar 8))) (te := tVar 17) rfl scLaw.nd (pi_list (pv 3)) (blkOk_by (N := NLa) (sc := defScope sLaw) (by decide +kernel)) (fun _ _ _ _ _ => pg_name (i := 17) scLaw.nd rfl (.inl rfl)) (fun _ _ _ _ _ => pts_one (pt_cmp (pc_din hu (pe_ix ix_tup (pv 17) pe_int (fun _ _ => rfl)) (pv 8)) (by rfl))) (fun _ _ _ _ _ => (pv 17))) (pa_cons (pv 9) pa_nil))) (nomark _)) (pss_one (ps_ret pe_bl)) pss_nil), ?_⟩
  intro D H sc PL T x NL DL FD y xs md md' zs qs ms ns ns' S ds o1 o2 o7 o11 lt hD df hF hmd' un' q
  have lx : xs.length = qs.length := lt.lu.each.length
  have qfew := lt.du.few
  refine ⟨_, rfl, _, rfl, PL, rfl, ⟨_, SqL.of lt.lu.pl⟩, fun N hN => ?_⟩
  refine lc_it (walk_list (xs := xs)) (fun i Hj => Same H Hj ∧ ∃ vs, Hj N = some (.lst vs) ∧ PySem.W.EachIs (PieceL H) vs (ftQ (gD ds) (qs.take i)))
    ⟨same_new hN, [], upd_same, .nil⟩ (fun i Hj _ ⟨sj, _⟩ => SqL.of (sj _ _ lt.lu.pl)) ?_ ?_
  · rintro i u Hj' Hj hi ⟨sj, vs, hNj, hvs⟩ ⟨rfl, hu'⟩
    obtain ⟨q1, hq1, hpc⟩ := eachs_get lt.lu.each hu'
    obtain ⟨t, b1, ws, rfl, ht, hb1, hws⟩ := id hpc
    have i2 : i < qs.length := (List.getElem?_eq_some_iff.mp hq1).1
    have eQ : ftQ (gD ds) (qs.take (i + 1)) = ftQ (gD ds) (qs.take i) ++ [q1].filter fun q => gD ds q.1 := by
      unfold ftQ
      rw [List.take_add_one, hq1, List.filter_append]
      rfl
    refine ⟨rfl, ?_⟩
    refine ⟨_, rfl, t, _, _, _, rfl, rfl, SqT.of (sj _ _ ht), at_of (i := 0) rfl, _, rfl, DL, _, rfl, DGet.k (k := .inr q1.1) (sj _ _ hD), ?_⟩
    rw [show (valV (dsK ds) (.inr q1.1)).isSome = gD ds q1.1 from rfl]
    cases ev2 : gD ds q1.1 with
    | true =>
      have e1 : [q1].filter (fun q => gD ds q.1) = [q1] := by rw [List.filter_cons_of_pos (by exact ev2), List.filter_nil]
      refine ⟨_, rfl, iteT ⟨_, rfl, vs, hNj, small1000 ?_, same_upd sj hN, _, upd_same, ?_⟩⟩
      · have l1 := hvs.length
        have l2 : (ftQ (gD ds) (qs.take i)).length ≤ (qs.take i).length := List.length_filter_le ..
        rw [List.length_take] at l2
        omega
      · rw [eQ, e1]
        exact eachs_snoc (R := PieceL _) hpc hvs
    | false =>
      have e1 : [q1].filter (fun q => gD ds q.1) = [] := by rw [List.filter_cons_of_neg (by rw [ev2]; decide), List.filter_nil]
      refine ⟨_, rfl, iteF ⟨sj, vs, hNj, ?_⟩⟩
      rw [eQ, e1, List.append_nil]
      exact hvs
  · rintro Hj ⟨sj, vs, hNj, hvs⟩
    rw [lx, List.take_length] at hvs
    have cl : ∀ q ∈ qs, gD ds q.1 = true → ∀ p, Led qs ms q.1 p → gD ds p = true := fun q1 hq1 fq p l => by
      obtain ⟨t, d⟩ := (gD_iff df q1.1).mp fq
      obtain ⟨j, _, d2⟩ := ds_ex (t := t + 1) (p := p) (.inr ⟨q1.1, d.1, l⟩)
      exact (gD_iff df p).mpr ⟨j, d2⟩
    have uf := lt.du.uq.filter cl
    have sub : (ftQ (gD ds) qs).Sublist qs := List.filter_sublist
    have hvj := eachs_imp (fun _ _ => pieceL_s sj) hvs
    refine ⟨_, rfl, fun y2 dy hy hdy hne => uq_go uf (thE_of (.dat (.lst (SqL.of hNj) (piecesL_dp hvj)))) rfl (pcl_all (qs := qs) fun q hq => lt.du.pcl q (sub.mem hq)) (sj _ _ hF) (eachs_imp (fun _ _ => mdR_s (TupS.of sj)) hmd') hy hdy hne fun H6 ns6 s6 un6 => ⟨rfl, ?_⟩⟩
    have un7 := unG_s (sj.trans s6) un'
    obtain ⟨_, _, _, dx, _, _, _, _, _, _, _, hx1, _⟩ := id un7
    obtain ⟨_, _, _, dx2, _, _, _, _, _, _, _, hx2, _⟩ := id un6
    refine ⟨y, y2, dx, dx2, _, _, rfl, rfl, hx1, hx2, y, .ref y2, ftQ (gD ds) qs, ftM (gD ds) ms, ns', rfl, un7, .inl ⟨y2, _, _, ns6, rfl, un6, _, rfl, _, rfl, ?_⟩⟩
    rw [sameU_refl (fun q hq w hw => lt.du.nmu (sub.mem hq) hw) uf.mnod]
    exact iteF (q H6 (sj.trans s6))
end
end DR

namespace DR
open PySem PySem.Spec PyProof.Rows L2
theorem strs_depth : ∀ zs : List Str, PyData.depthAll (zs.map PyData.str) ≤ 1
  | [] => by simp [PyData.depthAll]
  | z :: zs => by
    rw [List.map_cons, PyData.depthAll]
    exact Nat.max_le.mpr ⟨by simp [PyData.depth], strs_depth zs⟩
theorem strs_ne {K : PySem.W.Frag} {H : Hp} {a b : Addr} {zs : List Str} {Q : VK} (ha : H a = some (.lst (zs.map V.str))) (hb : H b = some (.lst (zs.map V.str))) (q : Q (.bl false) H) : rNeP K (.ref a) (.ref b) H Q := by
  have pl := strs_plain zs
  have ee : PyData.eqv (.list (zs.map .str)) (.list (zs.map .str)) = true := SeqAt.eqv_refl_plain _ (by simpa [PyData.plain] using pl)
  refine ⟨_, _, .lst (SqL.of ha) (strs_dp _), .lst (SqL.of hb) (strs_dp _), (by simpa [PyData.plain] using pl), (by simpa [PyData.plain] using pl), ?_, ?_⟩
  · have := strs_depth zs
    simp only [PyData.depth]
    omega
  · rw [ee]
    exact q
/-- what is odd -/
structure Odd9 (K : PySem.W.Frag) (qs : List Pk) (ms : MsT) (H : Hp) (v : V) (d : PyData) : Prop where
  th : Th K H v d
  pl : d.plain = true ∧ d.depth ≤ 60 ∨ d = .dict []
  no : toldD ms d = false
  sh : shortS d
  pc : d ≠ .str "pa" → pieceD qs d = false
theorem told_no {zs : List Str} {qs : List Pk} {ms : MsT} (du : Du zs qs ms) {d : PyData} (h : ∀ z ∈ menu4, d ≠ .str z) : toldD ms d = false := by
  cases e : toldD ms d with
  | false => rfl
  | true =>
    unfold toldD at e
    rw [Bool.and_eq_true] at e
    cases d with
    | str z =>
      obtain ⟨m, hm, e2⟩ := List.any_eq_true.mp (show (ms.any fun m => decide (m.1 = z)) = true from e.2)
      exact absurd (congrArg PyData.str (of_decide_eq_true e2).symm) (h _ (du.mnm m hm))
    | none => exact absurd (show false = true from e.2) (by decide)
    | bool _ => exact absurd (show false = true from e.2) (by decide)
    | int _ => exact absurd (show false = true from e.2) (by decide)
    | list _ => exact absurd (show false = true from e.2) (by decide)
    | tuple _ => exact absurd (show false = true from e.2) (by decide)
    | dict _ => exact absurd (show false = true from e.2) (by decide)
theorem odd_str {K : PySem.W.Frag} {zs : List Str} {qs : List Pk} {ms : MsT} {H : Hp} (du : Du zs qs ms) {z : Str} (h1 : z ∉ menu4) (h2 : z ≠ "pa" → z ∉ nm6) (h3 : z.length ≤ 1000) : Odd9 K qs ms H (.str z) (.str z) := by
  refine ⟨.dat (.str z), .inl ⟨rfl, by simp [PyData.depth]⟩, told_no du fun y hy e => ?_, h3, fun n => du.no_piece fun y hy e => ?_⟩
  · rw [PyData.str.inj e] at h1; exact h1 hy
  · have := h2 (fun c => n (by rw [c]))
    rw [PyData.str.inj e] at this; exact this hy
theorem odd_not {K : PySem.W.Frag} {zs : List Str} {qs : List Pk} {ms : MsT} {H : Hp} (du : Du zs qs ms) {v : V} {d : PyData} (th : Th K H v d) (pl : d.plain = true ∧ d.depth ≤ 60 ∨ d = .dict []) (ns : ∀ z, d ≠ .str z) : Odd9 K qs ms H v d := by
  refine ⟨th, pl, told_no du fun z _ => ns z, ?_, fun _ => du.no_piece fun z _ => ns z⟩
  cases d <;> first | trivial | exact absurd rfl (ns _)
theorem sqL_ext {K : PySem.W.Frag} {G G' : Hp} (e : LamX.ExtN G G') {a : Addr} {xs : List V} (h : SqL K G a xs) : SqL K G' a xs :=
  h.imp (fun h => h.imp (fun h => e _ _ h (by intro x z; cases z)) (fun ⟨o, h⟩ => ⟨o, e _ _ h (by intro x z; cases z)⟩)) id
section
variable {P : Program} {w : World} {K : PySem.W.Frag} {mg : Str → Option Value} {base : Heap} {C CB CT CW CN CP fe f : Addr} {c : Value} {T' : List (Addr × Str)} {A : Around} {outer : List Env} {s : Shared} {H0 : Hp} {E : XK}
theorem s9 (L : TLw P w K mg base C CB CT CW CN CP fe T') (hr : Room 18 (XL P w K mg base f c A outer s H0 E).A) : ∃ t, PS (XL P w K mg base f c A outer s H0 E) (fb 9) t ∧ ∀ (D : Ends) (H : Hp) (sc PL T x NL RL DL FD y : Addr) (xs : List V) (md md' : List (Key × V)) (zs : List Str) (qs qs' : List Pk) (ms ms' : MsT) (ns ns' rs : List Str) (ds : DsT) (o1 o2 o11 : Option V), Lt C PL T x NL xs md zs qs ms ns H → H RL = some (.lst (rs.map V.str)) → RootsR qs ms rs → H DL = some (.dK (dsK ds)) → DsF qs ms (rootsOf ms rs) ds → H FD = some (.dK md') → PySem.W.EachIs (MdR H) md' ms' → UnG H C y qs' ms' ns' →
      (∀ H', Same H H' → D.nx (sg sc o1 o2 (some (.ref PL)) (some (.ref T)) (some (.ref x)) (some (.ref NL)) (some (.ref RL)) (some (.ref DL)) (some (.ref FD)) (some (.ref y)) o11) H') → t D (sg sc o1 o2 (some (.ref PL)) (some (.ref T)) (some (.ref x)) (some (.ref NL)) (some (.ref RL)) (some (.ref DL)) (some (.ref FD)) (some (.ref y)) o11) H := by
  refine ⟨_, (ps_if (PW.pt (pw_or (pt_cmpR (op_neP hr) (pe_callTy (call_list_dK rfl) (by rfl) L.bi.list (by decide +kernel) (pa_cons (pe_methH0 L.toldm (pv 10) (hr.mono (by decide)) pass0) pa_nil)) (pe_callTy (call_list_dK rfl) (by rfl) L.bi.list (by decide +kernel) (pa_cons (pv 9) pa_nil)) (nomark _)) (pw_or1 (pt_not (pt_val (pe_callH L.ways (hr.mono (by decide)) (by rfl) pass0 (pa_cons (pv 5) (pa_cons (pv 3) (pa_cons (pv 4) (pa_cons (pv 7) (pa_cons (pv 8) pa_nil))))))))))) (pss_one (ps_ret pe_bl)) pss_nil), ?_⟩
  intro D H sc PL T x NL RL DL FD y xs md md' zs qs qs' ms ms' ns ns' rs ds o1 o2 o11 lt hRL ro hD df hF hmd' un' q
  obtain ⟨_, _, _, dx, _, _, _, _, _, _, _, hx1, _⟩ := id un'
  refine ⟨_, rfl, y, dx, _, rfl, hx1, rfl, y, qs', ms', ns', rfl, un', fun d md2 H2 s2 nd hd hmd2 => ?_⟩
  refine ⟨d, md2, rfl, hd, fun l1 n1 => ?_⟩
  rw [md_names hmd2]
  have k1 := same_new (o := .lst ((ms'.map (·.1)).map V.str)) n1
  have g1 : upd H2 l1 (.lst ((ms'.map (·.1)).map V.str)) l1 = some (.lst ((ms'.map (·.1)).map V.str)) := upd_same
  generalize upd H2 l1 (.lst ((ms'.map (·.1)).map V.str)) = H3 at k1 g1 ⊢
  have S3 := s2.trans k1
  refine ⟨_, rfl, FD, md', rfl, S3 _ _ hF, fun l2 n2 => ?_⟩
  rw [md_names hmd']
  have k2 := same_new (o := .lst ((ms'.map (·.1)).map V.str)) n2
  have g2 : upd H3 l2 (.lst ((ms'.map (·.1)).map V.str)) l2 = some (.lst ((ms'.map (·.1)).map V.str)) := upd_same
  have g1' := k2 _ _ g1
  generalize upd H3 l2 (.lst ((ms'.map (·.1)).map V.str)) = H4 at k2 g2 g1' ⊢
  have S4 := S3.trans k2
  refine strs_ne g1' g2 ⟨_, rfl, iteF ?_⟩
  have lt4 := lt.same S4
  refine ⟨_, rfl, _, rfl, _, rfl, _, rfl, _, rfl, x, PL, T, RL, DL, xs, md, qs, ms, ns, rs, ds, rfl, lt4.un, lt4.lu, S4 _ _ hRL, lt.du.lwq, ro, S4 _ _ hD, df, lt.du.pd, fun H5 s5 => ⟨_, rfl, iteF ?_⟩⟩
  exact q H5 (S4.trans s5)
theorem s10 : ∃ t, PS (XL P w K mg base f c A outer s H0 E) (fb 10) t ∧ ∀ (D : Ends) (H : Hp) (sc R : Addr) (dr : List Int) (zs : List Str) (qs : List Pk) (ms : MsT) (o1 o3 o4 o5 o6 o7 o8 o9 o10 o11 : Option V), H R = some (.lst (dr.map V.int)) → Drawn szs dr → Du zs qs ms →
      (∀ H' v d, Same H H' → Odd9 K qs ms H' v d → D.nx (sg sc o1 (some (.ref R)) o3 o4 o5 o6 o7 o8 o9 o10 (some v)) H') → t D (sg sc o1 (some (.ref R)) o3 o4 o5 o6 o7 o8 o9 o10 o11) H := by
  refine ⟨_, (ps_set (i := 11) scLaw.nd rfl (.inl rfl) (pe_ix ix_list (pe_lst (pa_cons pe_non (pa_cons pe_int (pa_cons pe_str (pa_cons (pe_lst (pa_cons pe_str pa_nil)) (pa_cons pe_dnewK (pa_cons pe_bl (pa_cons pe_str (pa_cons pe_str (pa_cons (pe_tup (pa_cons pe_str pa_nil)) pa_nil)))))))))) (pe_ix ix_list (pv 2) pe_int (fun _ _ => rfl)) (fun _ _ => rfl))), ?_⟩
  intro D H sc R dr zs qs ms o1 o3 o4 o5 o6 o7 o8 o9 o10 o11 hR hd du q
  obtain ⟨d4, e4, b0, b1⟩ := hd.2 104 9 (by decide +kernel)
  obtain ⟨n, rfl⟩ := Int.eq_ofNat_of_zero_le b0
  refine ⟨(by show 1 ≤ sizeLine; decide), fun la na => ?_⟩
  have k1 := same_new (o := .lst [V.str "a"]) na
  have g1 : upd H la (.lst [V.str "a"]) la = some (.lst [V.str "a"]) := upd_same
  generalize upd H la (.lst [V.str "a"]) = H1 at k1 g1 ⊢
  refine fun dd nd => ?_
  have k2 := same_new (o := .dK []) nd
  have g2 : upd H1 dd (.dK []) dd = some (.dK []) := upd_same
  generalize upd H1 dd (.dK []) = H2 at k2 g2 ⊢
  refine ⟨(by show 1 ≤ sizeLine; decide), fun tp np => ?_⟩
  have k3 := same_new (o := .tup [V.str "a"]) np
  have g3 : upd H2 tp (.tup [V.str "a"]) tp = some (.tup [V.str "a"]) := upd_same
  generalize upd H2 tp (.tup [V.str "a"]) = H3 at k3 g3 ⊢
  refine ⟨(by show 9 ≤ sizeLine; decide), fun l nl => ?_⟩
  have k4 := same_new (o := .lst [V.non, V.int 5, V.str "zz", V.ref la, V.ref dd, V.bl true, V.str "pa", V.str "", V.ref tp]) nl
  have g4 : upd H3 l (.lst [V.non, V.int 5, V.str "zz", V.ref la, V.ref dd, V.bl true, V.str "pa", V.str "", V.ref tp]) l = some (.lst [V.non, V.int 5, V.str "zz", V.ref la, V.ref dd, V.bl true, V.str "pa", V.str "", V.ref tp]) := upd_same
  generalize upd H3 l (.lst [V.non, V.int 5, V.str "zz", V.ref la, V.ref dd, V.bl true, V.str "pa", V.str "", V.ref tp]) = H4 at k4 g4 ⊢
  have S := (k1.trans k2).trans (k3.trans k4)
  have each : ∀ v ∈ [V.non, V.int 5, V.str "zz", V.ref la, V.ref dd, V.bl true, V.str "pa", V.str "", V.ref tp], ∃ d, Odd9 K qs ms H4 v d := by
    intro v hv
    rcases List.mem_cons.mp hv with rfl | hv
    · exact ⟨.none, odd_not du (.dat .non) (.inl ⟨rfl, by decide⟩) fun z e => by cases e⟩
    rcases List.mem_cons.mp hv with rfl | hv
    · exact ⟨.int 5, odd_not du (.dat (.int _)) (.inl ⟨rfl, by decide⟩) fun z e => by cases e⟩
    rcases List.mem_cons.mp hv with rfl | hv
    · exact ⟨.str "zz", odd_str du (by decide +kernel) (fun _ => by decide +kernel) (by decide +kernel)⟩
    rcases List.mem_cons.mp hv with rfl | hv
    · exact ⟨.list [.str "a"], odd_not du (.dat (.lst (SqL.of (k4 _ _ (k3 _ _ (k2 _ _ g1)))) (.cons (.str _) .nil))) (.inl ⟨rfl, by simp [PyData.depth, PyData.depthAll]⟩) fun z e => by cases e⟩
    rcases List.mem_cons.mp hv with rfl | hv
    · exact ⟨.dict [], odd_not du (.dct (k4 _ _ (k3 _ _ g2))) (.inr rfl) fun z e => by cases e⟩
    rcases List.mem_cons.mp hv with rfl | hv
    · exact ⟨.bool true, odd_not du (.dat (.bl _)) (.inl ⟨rfl, by decide⟩) fun z e => by cases e⟩
    rcases List.mem_cons.mp hv with rfl | hv
    · exact ⟨.str "pa", odd_str du (by decide +kernel) (fun n => absurd rfl n) (by decide +kernel)⟩
    rcases List.mem_cons.mp hv with rfl | hv
    · exact ⟨.str "", odd_str du (by decide +kernel) (fun _ => by decide +kernel) (by decide +kernel)⟩
    rcases List.mem_cons.mp hv with rfl | hv
    · exact ⟨.tuple [.str "a"], odd_not du (.dat (.tup (SqT.of (k4 _ _ g3)) (.cons (.str _) .nil))) (.inl ⟨rfl, by simp [PyData.depth, PyData.depthAll]⟩) fun z e => by cases e⟩
    · cases hv
  have hn : n < 9 := by omega
  obtain ⟨v, hv⟩ : ∃ v, [V.non, V.int 5, V.str "zz", V.ref la, V.ref dd, V.bl true, V.str "pa", V.str "", V.ref tp][n]? = some v := ⟨_, List.getElem?_eq_getElem hn⟩
  obtain ⟨d, od⟩ := each v (List.mem_of_getElem? hv)
  exact ⟨_, rfl, R, _, _, .int (n : Nat), rfl, rfl, SqL.of (S _ _ hR), at_of (i := 104) (by rw [List.getElem?_map, e4]; rfl), l, _, _, v, rfl, rfl, SqL.of g4, at_of hv, q H4 v d S od⟩
theorem s11 (L : TLw P w K mg base C CB CT CW CN CP fe T') (hr : Room 18 (XL P w K mg base f c A outer s H0 E).A) : ∃ t, PS (XL P w K mg base f c A outer s H0 E) (fb 11) t ∧ ∀ (D : Ends) (H : Hp) (sc x RL : Addr) (v : V) (d : PyData) (qs : List Pk) (ms : MsT) (ns rs : List Str) (o1 o2 o3 o4 o6 o8 o9 o10 : Option V), UnG H C x qs ms ns → H RL = some (.lst (rs.map V.str)) → RootsR qs ms rs → Odd9 K qs ms H v d → LamX.Tabs T' H →
      (∀ H', LamX.ExtN H H' → LamX.Tabs T' H' → D.nx (sg sc o1 o2 o3 o4 (some (.ref x)) o6 (some (.ref RL)) o8 o9 o10 (some v)) H') → t D (sg sc o1 o2 o3 o4 (some (.ref x)) o6 (some (.ref RL)) o8 o9 o10 (some v)) H := by
  refine ⟨_, (ps_if (pt_not (pt_val (pe_callH L.odd (hr.mono (by decide)) (by rfl) pass0 (pa_cons (pv 5) (pa_cons (pv 7) (pa_cons (pv 11) pa_nil)))))) (pss_one (ps_ret pe_bl)) pss_nil), ?_⟩
  intro D H sc x RL v d qs ms ns rs o1 o2 o3 o4 o6 o8 o9 o10 un hRL ro od ht q
  exact ⟨_, rfl, _, rfl, _, rfl, x, RL, v, d, qs, ms, ns, rs, rfl, ⟨un, hRL, ro, od.th, od.no, od.sh⟩, od.pl, od.pc, ht, fun H' e' t' => ⟨_, rfl, iteF (q H' e' t')⟩⟩
end
end DR

namespace DR
open PySem PySem.Spec PyProof.Rows L2
section
variable {P : Program} {w : World} {K : PySem.W.Frag} {mg : Str → Option Value} {base : Heap} {C CB CT CW CN CP fe f : Addr} {c : Value} {T' : List (Addr × Str)} {A : Around} {outer : List Env} {s : Shared} {H0 : Hp} {E : XK}
theorem law_go (L : TLw P w K mg base C CB CT CW CN CP fe T') (hr : Room 18 (XL P w K mg base f c A outer s H0 E).A) : ∃ t, PSs (XL P w K mg base f c A outer s H0 E) (defBody sLaw) t ∧ ∀ (H : Hp) (sc : Addr) (ns : List Int) (Q : VK), SqL K H sc (ns.map V.int) → LamX.Tabs T' H → (∀ H', Q (.bl true) H') →
      t { nx := fun _ H' => Q .non H', rt := Q } (start NLa [.ref sc]) H := by
  obtain ⟨t0, h0, q0⟩ := s0 (P := P) (w := w) (K := K) (mg := mg) (base := base) (A := A) (outer := outer) (s := s) (H0 := H0) (f := f) (c := c) (E := E) L hr
  obtain ⟨t1, h1, q1⟩ := s1 (P := P) (w := w) (K := K) (mg := mg) (base := base) (A := A) (outer := outer) (s := s) (H0 := H0) (f := f) (c := c) (E := E) L hr
  obtain ⟨t2, h2, q2⟩ := s2 (P := P) (w := w) (K := K) (mg := mg) (base := base) (A := A) (outer := outer) (s := s) (H0 := H0) (f := f) (c := c) (E := E) L hr
  obtain ⟨t3, h3, q3⟩ := s3 (P := P) (w := w) (K := K) (mg := mg) (base := base) (A := A) (outer := outer) (s := s) (H0 := H0) (f := f) (c := c) (E := E) L hr
  obtain ⟨t4, h4, q4⟩ := s4 (P := P) (w := w) (K := K) (mg := mg) (base := base) (A := A) (outer := outer) (s := s) (H0 := H0) (f := f) (c := c) (E := E) L hr
  obtain ⟨t5, h5, q5⟩ := s5 (P := P) (w := w) (K := K) (mg := mg) (base := base) (A := A) (outer := outer) (s := s) (H0 := H0) (f := f) (c := c) (E := E) L hr
  obtain ⟨t6, h6, q6⟩ := s6 (P := P) (w := w) (K := K) (mg := mg) (base := base) (A := A) (outer := outer) (s := s) (H0 := H0) (f := f) (c := c) (E := E) L hr
  obtain ⟨t7, h7, q7⟩ := s7 (P := P) (w := w) (K := K) (mg := mg) (base := base) (A := A) (outer := outer) (s := s) (H0 := H0) (f := f) (c := c) (E := E) L hr
  obtain ⟨t8, h8, q8⟩ := s8 (P := P) (w := w) (K := K) (mg := mg) (base := base) (A := A) (outer := outer) (s := s) (H0 := H0) (f := f) (c := c) (E := E) L hr
  obtain ⟨t9, h9, q9⟩ := s9 (P := P) (w := w) (K := K) (mg := mg) (base := base) (A := A) (outer := outer) (s := s) (H0 := H0) (f := f) (c := c) (E := E) L hr
  obtain ⟨t10, h10, q10⟩ := s10 (P := P) (w := w) (K := K) (mg := mg) (base := base) (A := A) (outer := outer) (s := s) (H0 := H0) (f := f) (c := c) (E := E)
  obtain ⟨t11, h11, q11⟩ := s11 (P := P) (w := w) (K := K) (mg := mg) (base := base) (A := A) (outer := outer) (s := s) (H0 := H0) (f := f) (c := c) (E := E) L hr
  refine ⟨_, pss_cons (ps_for (passes_of rfl) rfl (pi_range1 (by rfl) L.bi.range (pa_cons pe_int pa_nil)) (pg_name (i := 1) scLaw.nd rfl (.inl rfl)) (pss_cons h0 (pss_cons h1 (pss_cons h2 (pss_cons h3 (pss_cons h4 (pss_cons h5 (pss_cons h6 (pss_cons h7 (pss_cons h8 (pss_cons h9 (pss_cons h10 (pss_one h11))))))))))))) (pss_one (ps_ret pe_bl)), ?_⟩
  intro H sc ns Q hs hT q
  refine ⟨3, rfl, by decide, by decide, ?_⟩
  refine for_it walk_range (fun i σ H4 => ∃ (o1 o2 o3 o4 o5 o6 o7 o8 o9 o10 o11 : Option V), σ = sg sc o1 o2 o3 o4 o5 o6 o7 o8 o9 o10 o11 ∧ SqL K H4 sc (ns.map V.int) ∧ LamX.Tabs T' H4)
    ⟨none, none, none, none, none, none, none, none, none, none, none, rfl, hs, hT⟩ (fun _ _ _ _ _ => trivial) ?_ ?_
  · rintro i x σ Ha Hb hi ⟨o1, o2, o3, o4, o5, o6, o7, o8, o9, o10, o11, rfl, hs4, hT4⟩ ⟨rfl, rfl⟩
    have ez : (0 : Int) + (i : Int) = (i : Int) := by omega
    show (tSeq t0 _) _ (sg sc (some (.int (0 + (i : Int)))) o2 o3 o4 o5 o6 o7 o8 o9 o10 o11) _
    rw [ez]
    refine q0 _ _ sc ns i _ _ _ _ _ _ _ _ _ _ hs4 fun H1 R dr e1 hR hd => ?_
    refine q1 _ H1 sc R dr _ _ _ _ _ _ _ _ _ _ hR hd fun H2 PL T xs md zs qs ms e2 lu du => ?_
    refine q2 _ H2 sc PL T xs md zs qs ms _ _ _ _ _ _ _ _ _ lu du fun H3 x NL RL0 wn e3 lt hRL0 => ?_
    refine q3 _ H3 sc R PL T x NL RL0 dr xs md zs qs ms wn _ _ _ _ _ lt (e3 _ _ (e2 _ _ hR)) hd hRL0 fun H4 RL rs e4 hRL few hrs => ?_
    have ro := du.roots few hrs
    have lt4 := lt.same e4
    refine q4 _ H4 sc PL T x NL RL xs md zs qs ms wn rs _ _ _ _ _ _ lt4 hRL ro fun H5 DL ds e5 DT hD df => ?_
    have lt5 := lt4.same e5
    have hRL5 := e5 _ _ hRL
    refine q5 _ H5 sc PL T x NL RL DL xs md zs qs ms wn rs ds _ _ _ _ _ lt5 hRL5 ro hD df fun H6 e6 => ?_
    refine q6 _ H6 sc PL T x NL DL xs md zs qs ms wn ds _ _ _ _ _ _ (lt5.same e6) DT (e6 _ _ hD) fun H7 FD md' e7 hF hmd' => ?_
    have e67 := e6.trans e7
    refine q7 _ H7 sc PL T x NL RL xs md zs qs ms wn rs ds _ _ _ _ _ _ (lt5.same e67) (e67 _ _ hRL5) ro df fun H8 y wn' e8 un' => ?_
    have e68 := e67.trans e8
    refine q8 _ H8 sc PL T x NL DL FD y xs md md' zs qs ms wn wn' (rootsOf ms rs) ds _ _ _ _ (lt5.same e68) (e68 _ _ hD) df (e8 _ _ hF) (eachs_imp (fun _ _ => mdR_s (TupS.of e8)) hmd') un' fun H9 e9 => ?_
    have e69 := e68.trans e9
    have e89 := e8.trans e9
    refine q9 _ H9 sc PL T x NL RL DL FD y xs md md' zs qs _ ms _ wn wn' rs ds _ _ _ (lt5.same e69) (e69 _ _ hRL5) ro (e69 _ _ hD) df (e89 _ _ hF) (eachs_imp (fun _ _ => mdR_s (TupS.of e89)) hmd') (unG_s e9 un') fun H10 e10 => ?_
    have e6a := e69.trans e10
    have e1a := (e2.trans (e3.trans (e4.trans e5))).trans e6a
    refine q10 _ H10 sc R dr zs qs ms _ _ _ _ _ _ _ _ _ _ (e1a _ _ hR) hd du fun H11 v d e11 od => ?_
    have e6b := e6a.trans e11
    have e0b := e1.trans (e1a.trans e11)
    refine q11 _ H11 sc x RL v d qs ms wn rs _ _ _ _ _ _ _ _ (lt5.same e6b).un (e6b _ _ hRL5) ro od (hT4.ext e0b) fun H12 e12 t12 => ?_
    exact ⟨_, _, _, _, _, _, _, _, _, _, _, rfl, sqL_ext e12 (sqL_same e0b hs4), t12⟩
  · rintro σ H4 ⟨o1, o2, o3, o4, o5, o6, o7, o8, o9, o10, o11, rfl, _, _⟩
    exact q H4
end
/-! ### the law's call, at the very caller -/
theorem law_here {P : Program} {w : World} {K : PySem.W.Frag} {mg : Str → Option Value} {base : Heap} {C CB CT CW CN CP fe f : Addr} {fd : FuncData} {T' : List (Addr × Str)} {s : Shared} {H : Hp} {a : Addr} {ns : List Int} (F : Fun K "law" "law" sLaw f fd) (L : TLw P w K mg base C CB CT CW CN CP fe T') (hr : Room 19 callerA) (e0 : Env0 P w K mg base callerA [] s H)
    (hs : SqL K H a (ns.map V.int)) (hT : LamX.Tabs T' H) : codeAny (model P w) callerA (.call (.ref f) ⟨[.ref a], []⟩) (CR (L2.CX P w) [] P w H s (fun v _ => v = .bl true) fun _ _ _ => False) s := by
  have hb := F.binds (ps := ["script"]) fun _ _ _ _ _ _ us hl => match us, hl with | [_], _ => rfl
  have KX : K.In s.heap := e0.mod.kin.keeps fun b o e => (e0.bs b o e).1
  obtain ⟨oc, od, kV, doc, pm, an, cdv, ct, osl, rfl, lk, hcd⟩ := F.ex
  refine LamX.run_ofS (k := 18) (N := NLa) (ps := ["script"]) (us := [.ref a]) (vs := [.ref a]) lk hcd scLaw hr e0 (hb s [.ref a] KX rfl) (.cons rfl .nil) rfl fun hr' => ?_
  obtain ⟨t, h1, h2⟩ := law_go (s := s) (H0 := H) (A := callerA) (outer := []) (f := f) (c := cdv) (E := fun _ _ _ => False) L hr'
  exact ⟨t, h1, h2 H a ns (fun v _ => v = V.bl true) hs hT fun _ => rfl⟩
end DR

namespace DR
open PySem PySem.Spec PyProof.Rows L2
/-! ### the head: what the top leaves -/
def dd (x : Str) (i : Nat) : He.DefD := ⟨(x, none), x, x, defArgs (topS i), defBody (topS i), defScope (topS i), [], []⟩
def fns : List He.DefD := [dd "is_integer" 11, dd "is_row" 12, dd "is_row_of" 13, dd "is_name" 14, dd "read_address" 15, dd "read_unknown" 18, dd "order_of" 19, dd "one_form" 20, dd "read_sum" 21, dd "read_piece" 23, dd "read_pieces" 24, dd "words_of" 25, dd "kinds_of" 27, dd "check_piece" 28, dd "read_told" 30, dd "are_of" 31, dd "wanted_in" 32, dd "check_roots" 35, dd "leads_of" 36, dd "ways_from" 37, dd "reached" 38, dd "struck" 39, dd "way_to" 40, dd "_law_cell" 42, dd "_law_row" 43, dd "_law_summed" 44, dd "_law_drawn_unit" 45, dd "_law_met" 46, dd "_law_leads" 47, dd "_law_distances" 48, dd "_law_way_right" 49, dd "_law_odd_right" 50, dd "_law_ways_right" 51, dd "law" 52, ⟨("Unit", some "__init__"), "__init__", "Unit.__init__", defArgs (inClass (topS 33) 0), defBody (inClass (topS 33) 0), defScope (inClass (topS 33) 0), [.non], []⟩, ⟨("Unit", some "pieces"), "pieces", "Unit.pieces", defArgs (inClass (topS 33) 1), defBody (inClass (topS 33) 1), defScope (inClass (topS 33) 1), [], []⟩, ⟨("Unit", some "told"), "told", "Unit.told", defArgs (inClass (topS 33) 2), defBody (inClass (topS 33) 2), defScope (inClass (topS 33) 2), [], []⟩, ⟨("Unit", some "__eq__"), "__eq__", "Unit.__eq__", defArgs (inClass (topS 33) 6), defBody (inClass (topS 33) 6), defScope (inClass (topS 33) 6), [], []⟩, ⟨("BadPiece", some "__init__"), "__init__", "BadPiece.__init__", defArgs (inClass (topS 3) 0), defBody (inClass (topS 3) 0), defScope (inClass (topS 3) 0), [], []⟩, ⟨("BadWord", some "__init__"), "__init__", "BadWord.__init__", defArgs (inClass (topS 4) 0), defBody (inClass (topS 4) 0), defScope (inClass (topS 4) 0), [], []⟩, ⟨("BadTold", some "__init__"), "__init__", "BadTold.__init__", defArgs (inClass (topS 6) 0), defBody (inClass (topS 6) 0), defScope (inClass (topS 6) 0), [], []⟩, ⟨("NoPiece", some "__init__"), "__init__", "NoPiece.__init__", defArgs (inClass (topS 7) 0), defBody (inClass (topS 7) 0), defScope (inClass (topS 7) 0), [], []⟩, ⟨("NoName", some "__init__"), "__init__", "NoName.__init__", defArgs (inClass (topS 8) 0), defBody (inClass (topS 8) 0), defScope (inClass (topS 8) 0), [], []⟩]
def fas : List He.Fa := [.glo "is_integer", .glo "is_row", .glo "is_row_of", .glo "is_name", .glo "read_address", .glo "read_unknown", .glo "order_of", .glo "one_form", .glo "read_sum", .glo "read_piece", .glo "read_pieces", .glo "words_of", .glo "kinds_of", .glo "check_piece", .glo "read_told", .glo "are_of", .glo "wanted_in", .glo "check_roots", .glo "leads_of", .glo "ways_from", .glo "reached", .glo "struck", .glo "way_to", .glo "_law_cell", .glo "_law_row", .glo "_law_summed", .glo "_law_drawn_unit", .glo "_law_met", .glo "_law_leads", .glo "_law_distances", .glo "_law_way_right", .glo "_law_odd_right", .glo "_law_ways_right", .glo "law", .glo "BadPiece", .glo "BadWord", .glo "BadTold", .glo "NoPiece", .glo "NoName", .glo "Unit", .glo "RANKS", .free "len", .free "int", .free "str", .free "bool", .free "list", .free "tuple", .free "isinstance", .free "all", .free "sorted", .free "range", .free "enumerate", .free "zip", .free "dict", .free "min", .free "set", .str "LETTERS" lettersS, .exm "BadPiece" "BadPiece" true, .meth "BadPiece" "__init__", .noat "BadPiece" "index", .exm "BadWord" "BadWord" true, .meth "BadWord" "__init__", .noat "BadWord" "p", .noat "BadWord" "k", .exm "BadTold" "BadTold" true, .meth "BadTold" "__init__", .noat "BadTold" "name", .exm "NoPiece" "NoPiece" true, .meth "NoPiece" "__init__", .noat "NoPiece" "p", .exm "NoName" "NoName" true, .meth "NoName" "__init__", .noat "NoName" "name", .exm "NoPiece" "NoName" false, .meth "Unit" "__init__", .meth "Unit" "pieces", .meth "Unit" "told", .meth "Unit" "__eq__", .noat "Unit" "parts", .noat "Unit" "sums", .noat "Unit" "meanings", .noat "Unit" "lacking", .cls "Unit", .mkr "Unit"]
def tabs : List He.Tab := [(fun K => He.ga K "RANKS", ["piece", "name", "in"])]
def tfs : List He.Defn := [("_law_odd_right", none)]
/-- an own error class over ValueError -/
def oexB (K : PySem.W.Frag) (C : Addr) : Bool := (match K.lookup C with
  | some ⟨.type c, _, .cls z, sl⟩ => decide (c = "type") && (match z.mro, sl.toList with
    | .ref C1 :: m1, [_, _, _, _, some (.builtin b1), _] => decide (C1 = C) && (decide (b1 = "ValueError.__new__") && (!z.hasDel && (z.hasDict && PySem.HandSPX.refsVE m1)))
    | _, _ => false)
  | _ => false) && (He.eqO (PySem.W.findIn K (.ref C) "__setattr__") (some (some (.builtin "object.__setattr__"))) && (decide (PySem.W.subIn K (.ref C) (.type "BaseException") = some true) && (decide (PySem.W.typeIn K (.ref C) = some (.type "type")) && PySem.W.keepIn K (.ref C))))
def imqB (K : PySem.W.Frag) (C : Addr) : Bool := He.eqO (PySem.W.findIn K (.ref C) "__class__") (some (some (.builtin "object.__class__"))) && (He.eqO (PySem.W.specialIn K (.builtin "object.__class__") "__get__") (some (some (.builtin "getset_descriptor.__get__"))) && (decide (PySem.W.takesIn K (.builtin "object.__class__") = some true) && (decide (PySem.W.mroIn K C (.type "object") = some true) && (decide (PySem.W.kitOne K (.ref C) (.ref C) = some true) && (tyNs.all (fun n => decide (PySem.W.kitOne K (.type n) (.ref C) = some false)) && (tyNs.all (fun n => PySem.W.notFirst K C (.type n)) && He.eqO (PySem.W.findIn K (.ref C) "__ne__") (some (some (.builtin "object.__ne__")))))))))
def ranksL : List (Str × He.Dv) := [("piece", .int 0), ("name", .int 1), ("in", .int 2)]
def exs (K : PySem.W.Frag) : Bool := oexB K (He.ga K "BadPiece") && (xfB K (He.ga K "BadPiece") && (oexB K (He.ga K "BadWord") && (xfB K (He.ga K "BadWord") && (oexB K (He.ga K "BadTold") && (xfB K (He.ga K "BadTold") && (oexB K (He.ga K "NoPiece") && (xfB K (He.ga K "NoPiece") && (oexB K (He.ga K "NoName") && (xfB K (He.ga K "NoName") && (He.valsB K (He.ga K "RANKS") ranksL && (imqB K (He.ga K "Unit"))))))))))))
abbrev RR : PySem.W.OpenRow := PySem.W.OpenLaw.row PySem.Challenge.rw_loadanywhere_k85_dead_pieces
abbrev hkk : PySem.W.Hook := He.hookX 5 fas fns tabs tfs exs
def obb (s : PySem.W.SharedT) : He.AlX := He.obsX 5 fas fns tabs tfs exs (HandSHeadRun.getT s)
theorem obb_eq (s : PySem.W.SharedT) : obb s = hkk.obs s.abs := He.obsX_eq (HandSHeadRun.getT_eq s)
abbrev loosL : List Str := (["_wall", "WordError", "BadPiece", "BadWord", "NoWord", "BadTold", "NoPiece", "NoName", "LETTERS", "is_integer", "is_row", "is_row_of", "is_name", "read_address", "RANKS", "read_unknown", "order_of", "one_form", "read_sum", "read_piece", "read_pieces", "words_of", "word_at", "kinds_of", "check_piece", "read_told", "are_of", "wanted_in", "Unit", "check_roots"] : List Str) ++ (["leads_of", "ways_from", "reached", "struck", "way_to", "_law_cell", "_law_row", "_law_summed", "_law_drawn_unit", "_law_met", "_law_leads", "_law_distances", "_law_way_right", "_law_odd_right", "_law_ways_right"] : List Str)
theorem run_false (w : World) : HandSHeadRun.RunEq RR (PySem.W.view RR.prog [52]) hkk obb 6000 loosL (w.withFollow "special-get-raises" false) := by
  intro os
  kernel_rfl
theorem run_true (w : World) : HandSHeadRun.RunEq RR (PySem.W.view RR.prog [52]) hkk obb 6000 loosL (w.withFollow "special-get-raises" true) := by
  intro os
  kernel_rfl
theorem runL (w : World) : HandSHeadRun.RunEq RR (PySem.W.view RR.prog [52]) hkk obb 6000 loosL w :=
  PySem.W.byRow2 "special-get-raises" (P := fun w => HandSHeadRun.RunEq RR (PySem.W.view RR.prog [52]) hkk obb 6000 loosL w) run_false run_true w
end DR

namespace DR
open PySem PySem.Spec PyProof.Rows L2
/-! ### the facts -/
theorem bb {a b : Bool} (h : (a && b) = true) : a = true ∧ b = true := by simpa using h
theorem oexB_ok {K : PySem.W.Frag} {C : Addr} (h : oexB K C = true) : OexC K C := by
  unfold oexB at h
  obtain ⟨h1, h⟩ := bb h
  obtain ⟨h2, h⟩ := bb h
  obtain ⟨h3, h⟩ := bb h
  obtain ⟨h4, h5⟩ := bb h
  refine ⟨?_, He.eqO_ok h2, of_decide_eq_true h3, of_decide_eq_true h4, h5⟩
  split at h1
  · rename_i cn od z sl hl
    obtain ⟨h6, h7⟩ := bb h1
    obtain rfl := of_decide_eq_true h6
    split at h7
    · rename_i C1 m1 k0 k1 k2 k3 b1 k5 hm hs
      obtain ⟨h8, h7⟩ := bb h7
      obtain ⟨h9, h7⟩ := bb h7
      obtain ⟨ha, h7⟩ := bb h7
      obtain ⟨hb, hc⟩ := bb h7
      obtain rfl := of_decide_eq_true h8
      obtain rfl := of_decide_eq_true h9
      obtain ⟨z1, z2, z3, z4, z5, z6, z7, z8, z9, za, zb⟩ := z
      dsimp only at hm ha hb
      subst hm
      have ha2 : zb = false := by simpa using ha
      subst ha2
      subst hb
      have hsl : sl = #[k0, k1, k2, k3, some (.builtin "ValueError.__new__"), k5] := by
        obtain ⟨l⟩ := sl
        simp only at hs
        rw [hs]
      rw [hsl] at hl
      exact ⟨_, _, _, _, _, _, _, _, _, _, _, _, _, _, _, hl, hc⟩
    · cases h7
  · cases h1
theorem fun_of {K : PySem.W.Frag} {x q : Str} {st : Stmt} {f : Addr} {fd : FuncData} (F : FunD K x q (defArgs st) (defBody st) (defScope st) [] [] f fd) : Fun K x q st f fd := by
  obtain ⟨oc, od, dV, kV, doc, pm, an, cdv, ct, osl, e, lk, hc, hD, hK⟩ := F.ex
  rcases hD with ⟨_, rfl⟩ | ⟨z, _⟩
  · exact ⟨⟨oc, od, kV, doc, pm, an, cdv, ct, osl, e, lk, hc⟩, F.kp⟩
  · exact absurd rfl z
theorem funM_of {K : PySem.W.Frag} {x q : Str} {st : Stmt} {p : Str × Option Str} {fd : FuncData} (F : FunD K x q (defArgs st) (defBody st) (defScope st) [] [] (He.fAd K p) fd) : FunM K x q st (He.cT K p).1 (He.fAd K p) fd := by
  obtain ⟨oc, od, dV, kV, doc, pm, an, cdv, ct, osl, e, lk, hc, hD, hK⟩ := F.ex
  rcases hD with ⟨_, rfl⟩ | ⟨z, _⟩
  · obtain ⟨c, rfl⟩ := He.codeIn_ref hc
    have ec : (He.cT K p).1 = c := He.codeOf_eq lk (by rw [e])
    rw [ec]
    exact ⟨⟨oc, od, kV, doc, pm, an, ct, osl, e, lk, hc⟩, F.kp⟩
  · exact absurd rfl z
theorem hu_of : ∀ {l : List (Addr × Str)}, (l.map (·.1)).Nodup → ∀ q ∈ l, ∀ p ∈ l, p.1 = q.1 → p.2 = q.2
  | [], _, q, h, _, _, _ => nomatch h
  | a :: l, nd, q, hq, p, hp, e => by
    rw [List.map_cons, List.nodup_cons] at nd
    rcases List.mem_cons.mp hq with hq1 | hq1 <;> rcases List.mem_cons.mp hp with hp1 | hp1
    · rw [hq1, hp1]
    · exact absurd (List.mem_map.mpr ⟨p, hp1, by rw [e, hq1]⟩) nd.1
    · exact absurd (List.mem_map.mpr ⟨q, hq1, by rw [← e, hp1]⟩) nd.1
    · exact hu_of nd.2 q hq1 p hp1 e
theorem has_of {P : Program} {w : World} {K : PySem.W.Frag} {mg : Str → Option Value} {base : Heap} {CX : CXT} {k : Nat} {x : Str} {ps : List Str} {sp : Sp} {f : Addr} {fd : FuncData} (g : mg x = some (.ref f)) (kp : PySem.W.keepIn K (.ref f) = true) (b : Binds K fd ps []) (o : FnOk P w K mg base CX k f fd ps sp) : Has P w K mg base CX k x ps sp :=
  ⟨⟨f, fd, g, kp, b, o⟩⟩
theorem keys_find {P : Params} {z : Str} : ∀ {l : List DictEntry} {ks : List Str}, l.map He.keyOf = He.keysIn P ks → z ∉ ks → l.find? (·.key.isStr z) = none ∧ l.any (·.refKey) = false
  | [], _, _, _ => ⟨rfl, rfl⟩
  | e :: r, [], h, _ => by cases h
  | e :: r, k :: ks, h, hz => by
    have h1 : He.keyOf e :: r.map He.keyOf = some (k, PyData.keyHash P k) :: He.keysIn P ks := h
    injection h1 with h2 h3
    obtain ⟨i1, i2⟩ := keys_find h3 (fun m => hz (List.mem_cons_of_mem _ m))
    obtain ⟨eh, ek, ev⟩ := e
    unfold He.keyOf at h2
    dsimp only at h2
    cases ek with
    | str x t =>
      have h4 : (x, eh) = (k, PyData.keyHash P k) := Option.some.inj h2
      have h5 : x = k := congrArg Prod.fst h4
      subst h5
      have nz : (x == z) = false := by
        rw [beq_eq_false_iff_ne]
        intro q
        exact hz (by rw [← q]; exact List.mem_cons_self ..)
      constructor
      · rw [List.find?_cons]
        have e1 : Value.isStr (.str x t) z = false := nz
        show (match Value.isStr (.str x t) z with | true => some _ | false => r.find? _) = none
        rw [e1]
        exact i1
      · rw [List.any_cons, i2]
        rfl
    | _ => cases h2
theorem ns_no {K : PySem.W.Frag} {w : World} {a : Addr} {ks : List Str} (h : He.dicW K a = some (He.keysIn w.params ks)) {z : Str} (hz : z ∉ ks) : PySem.W.nsIn K a z = some none := by
  unfold He.dicW at h
  cases q : K.lookup a with
  | none => rw [q] at h; cases h
  | some o =>
    obtain ⟨oc, od, dt, osl⟩ := o
    rw [q] at h
    cases oc with
    | type c =>
      cases od with
      | none =>
        cases dt with
        | dict es n =>
          have h1 : (match decide (c = "dict") && (osl.isEmpty && !(a == sysModules)) with
            | true => some (es.toList.map He.keyOf)
            | false => none) = some (He.keysIn w.params ks) := h
          split at h1
          · obtain ⟨f1, f2⟩ := keys_find (Option.some.inj h1) hz
            unfold PySem.W.nsIn
            rw [q]
            dsimp only
            rw [f1, f2]
            rfl
          · cases h1
        | _ => cases h
      | some b => cases dt <;> cases h
    | _ => cases od <;> cases dt <;> cases h
theorem rank_some {z : Str} {i : Int} (h : rank z = some i) : (z, He.Dv.int i) ∈ ranksL := by
  unfold rank at h
  split at h
  · rename_i e; cases h; rw [e]; exact List.mem_cons_self ..
  · split at h
    · rename_i e; cases h; rw [e]; exact List.mem_cons_of_mem _ (List.mem_cons_self ..)
    · split at h
      · rename_i e; cases h; rw [e]; exact List.mem_cons_of_mem _ (List.mem_cons_of_mem _ (List.mem_cons_self ..))
      · cases h
theorem rank_none {z : Str} (h : rank z = none) : z ∉ (["piece", "name", "in"] : List Str) := by
  unfold rank at h
  split at h
  · cases h
  · split at h
    · cases h
    · split at h
      · cases h
      · rename_i a b c
        intro m
        rcases List.mem_cons.mp m with m | m
        · exact a m
        · rcases List.mem_cons.mp m with m | m
          · exact b m
          · exact c (List.mem_singleton.mp m)
section
variable {w : World} {K : PySem.W.Frag} {mg : Str → Option Value} {h : Heap}
theorem imqB_ok {C fe : Addr} (h : imqB K C = true) (e : PySem.W.findIn K (.ref C) "__eq__" = some (some (.ref fe))) (n : PySem.W.isFn K (.ref fe) = true) : ImQ K C fe := by
  unfold imqB at h
  obtain ⟨h1, h⟩ := bb h
  obtain ⟨h2, h⟩ := bb h
  obtain ⟨h3, h⟩ := bb h
  obtain ⟨h4, h⟩ := bb h
  obtain ⟨h5, h⟩ := bb h
  obtain ⟨h6, h⟩ := bb h
  obtain ⟨h7, h8⟩ := bb h
  exact ⟨He.eqO_ok h1, He.eqO_ok h2, of_decide_eq_true h3, of_decide_eq_true h4, of_decide_eq_true h5, fun n hn => of_decide_eq_true (List.all_eq_true.mp h6 n hn), fun n hn => List.all_eq_true.mp h7 n hn, He.eqO_ok h8, e, n⟩
theorem dics_of (c : He.SaysX fas fns tabs tfs exs w h K) : He.dicW K (He.ga K "RANKS") = some (He.keysIn w.params ["piece", "name", "in"]) := by
  have e : tabs.map (fun t => He.dicW K (t.1 K)) = tabs.map fun t => some (He.keysIn w.params t.2) := congrArg (fun z : He.AlT => z.2) c.t
  have z : [He.dicW K (He.ga K "RANKS")] = [some (He.keysIn w.params ["piece", "name", "in"])] := e
  injection z with z1 z
theorem ranks_of (X : K.In h) (G : h.Ns mainGlobals mg) (c : He.SaysX fas fns tabs tfs exs w h K) (v : He.valsB K (He.ga K "RANKS") ranksL = true) : Ranks K w mg (He.ga K "RANKS") := by
  have e2 := dics_of c
  refine ⟨He.glo_ok X G (c.t.d.fact 40 (f := .glo "RANKS") rfl), He.dicW_ok e2, fun z i hz => ?_, fun z hz => ns_no e2 (rank_none hz)⟩
  obtain ⟨u, h1, h2⟩ := He.valsB_ok v (rank_some hz)
  obtain ⟨t, rfl⟩ := (show ∃ t, u = Value.int i t from h2)
  exact ⟨t, h1⟩
theorem bi_of (X : K.In h) (G : h.Ns mainGlobals mg) (c : He.SaysD fas fns K) : Bi mg :=
  ⟨He.free_ok X G (c.fact 41 (f := .free "len") rfl), He.free_ok X G (c.fact 42 (f := .free "int") rfl), He.free_ok X G (c.fact 43 (f := .free "str") rfl), He.free_ok X G (c.fact 44 (f := .free "bool") rfl), He.free_ok X G (c.fact 45 (f := .free "list") rfl), He.free_ok X G (c.fact 46 (f := .free "tuple") rfl), He.free_ok X G (c.fact 47 (f := .free "isinstance") rfl), He.free_ok X G (c.fact 48 (f := .free "all") rfl), He.free_ok X G (c.fact 49 (f := .free "sorted") rfl), He.free_ok X G (c.fact 50 (f := .free "range") rfl), He.free_ok X G (c.fact 51 (f := .free "enumerate") rfl), He.free_ok X G (c.fact 52 (f := .free "zip") rfl), He.free_ok X G (c.fact 53 (f := .free "dict") rfl), He.free_ok X G (c.fact 54 (f := .free "min") rfl), He.free_ok X G (c.fact 55 (f := .free "set") rfl)⟩
end
abbrev cO (K : PySem.W.Frag) : Addr × Addr := He.cT K ("_law_odd_right", none)
abbrev TBs (K : PySem.W.Frag) : List (Addr × Str) := [((cO K).2, qOdd)]
theorem facts {P : Program} {w : World} {K : PySem.W.Frag} {mg : Str → Option Value} {h : Heap} (X : K.In h) (G : h.Ns mainGlobals mg) (c : He.SaysX fas fns tabs tfs exs w h K) :
    ∃ fd : FuncData, Fun K "law" "law" sLaw (He.ga K "law") fd ∧ ∀ base : Heap, K.In base → base.Ns mainGlobals mg → LamX.TabB base mg (cO K).1 (cO K).2 →
      TLw P w K mg base (He.ga K "Unit") (He.ga K "BadPiece") (He.ga K "BadTold") (He.ga K "BadWord") (He.ga K "NoName") (He.ga K "NoPiece") (He.ma K (He.ga K "Unit") "__eq__") (TBs K) := by
  obtain ⟨x1, hx⟩ := bb c.more
  obtain ⟨x2, hx⟩ := bb hx
  obtain ⟨x3, hx⟩ := bb hx
  obtain ⟨x4, hx⟩ := bb hx
  obtain ⟨x5, hx⟩ := bb hx
  obtain ⟨x6, hx⟩ := bb hx
  obtain ⟨x7, hx⟩ := bb hx
  obtain ⟨x8, hx⟩ := bb hx
  obtain ⟨x9, hx⟩ := bb hx
  obtain ⟨x10, hx⟩ := bb hx
  obtain ⟨x11, x12⟩ := bb hx
  have T := bi_of X G c.t.d
  have R := ranks_of X G c x11
  obtain ⟨tLet, gLet⟩ := He.str_ok X G (c.t.d.fact 56 (f := .str "LETTERS" lettersS) rfl)
  have gB : mg "BadPiece" = some (.ref (He.ga K "BadPiece")) := He.glo_ok X G (c.t.d.fact 34 (f := .glo "BadPiece") rfl)
  have gW : mg "BadWord" = some (.ref (He.ga K "BadWord")) := He.glo_ok X G (c.t.d.fact 35 (f := .glo "BadWord") rfl)
  have gN : mg "NoName" = some (.ref (He.ga K "NoName")) := He.glo_ok X G (c.t.d.fact 38 (f := .glo "NoName") rfl)
  have gT : mg "BadTold" = some (.ref (He.ga K "BadTold")) := He.glo_ok X G (c.t.d.fact 36 (f := .glo "BadTold") rfl)
  have gP : mg "NoPiece" = some (.ref (He.ga K "NoPiece")) := He.glo_ok X G (c.t.d.fact 37 (f := .glo "NoPiece") rfl)
  have gI : mg "Unit" = some (.ref (He.ga K "Unit")) := He.glo_ok X G (c.t.d.fact 39 (f := .glo "Unit") rfl)
  have eB := He.exm_ok (c.t.d.fact 57 (f := .exm "BadPiece" "BadPiece" true) rfl)
  have mB := He.meth_ok (c.t.d.fact 58 (f := .meth "BadPiece" "__init__") rfl)
  have nBindex := He.noat_ok (c.t.d.fact 59 (f := .noat "BadPiece" "index") rfl)
  have OB := oexB_ok x1
  have XB := xfB_ok x2
  have eW := He.exm_ok (c.t.d.fact 60 (f := .exm "BadWord" "BadWord" true) rfl)
  have mW := He.meth_ok (c.t.d.fact 61 (f := .meth "BadWord" "__init__") rfl)
  have nWp := He.noat_ok (c.t.d.fact 62 (f := .noat "BadWord" "p") rfl)
  have nWk := He.noat_ok (c.t.d.fact 63 (f := .noat "BadWord" "k") rfl)
  have OW := oexB_ok x3
  have XW := xfB_ok x4
  have eT := He.exm_ok (c.t.d.fact 64 (f := .exm "BadTold" "BadTold" true) rfl)
  have mT := He.meth_ok (c.t.d.fact 65 (f := .meth "BadTold" "__init__") rfl)
  have nTname := He.noat_ok (c.t.d.fact 66 (f := .noat "BadTold" "name") rfl)
  have OT := oexB_ok x5
  have XT := xfB_ok x6
  have eP := He.exm_ok (c.t.d.fact 67 (f := .exm "NoPiece" "NoPiece" true) rfl)
  have mP := He.meth_ok (c.t.d.fact 68 (f := .meth "NoPiece" "__init__") rfl)
  have nPp := He.noat_ok (c.t.d.fact 69 (f := .noat "NoPiece" "p") rfl)
  have OP := oexB_ok x7
  have XP := xfB_ok x8
  have eN := He.exm_ok (c.t.d.fact 70 (f := .exm "NoName" "NoName" true) rfl)
  have mN := He.meth_ok (c.t.d.fact 71 (f := .meth "NoName" "__init__") rfl)
  have nNname := He.noat_ok (c.t.d.fact 72 (f := .noat "NoName" "name") rfl)
  have ON := oexB_ok x9
  have XN := xfB_ok x10
  have oPN := He.exm_ok (c.t.d.fact 73 (f := .exm "NoPiece" "NoName" false) rfl)
  have CD := He.cls_ok (c.t.d.fact 82 (f := .cls "Unit") rfl)
  have KD := He.mkr_ok (c.t.d.fact 83 (f := .mkr "Unit") rfl)
  have B : UnC K (He.ga K "Unit") := ⟨CD, He.noat_ok (c.t.d.fact 78 (f := .noat "Unit" "parts") rfl), He.noat_ok (c.t.d.fact 79 (f := .noat "Unit" "sums") rfl), He.noat_ok (c.t.d.fact 80 (f := .noat "Unit" "meanings") rfl), He.noat_ok (c.t.d.fact 81 (f := .noat "Unit" "lacking") rfl)⟩
  obtain ⟨d0, D0⟩ := c.t.d.def_ 0 (d := dd "is_integer" 11) rfl
  have F0 : Fun K "is_integer" "is_integer" sIsInt (He.ga K "is_integer") d0 := fun_of D0
  have g0 : mg "is_integer" = some (.ref (He.ga K "is_integer")) := He.glo_ok X G (c.t.d.fact 0 (f := .glo "is_integer") rfl)
  have b0 : Binds K d0 ["thing"] [] := F0.binds fun _ _ _ _ _ _ us hl => match us, hl with | [_], _ => rfl
  obtain ⟨d1, D1⟩ := c.t.d.def_ 1 (d := dd "is_row" 12) rfl
  have F1 : Fun K "is_row" "is_row" sIsRow (He.ga K "is_row") d1 := fun_of D1
  have g1 : mg "is_row" = some (.ref (He.ga K "is_row")) := He.glo_ok X G (c.t.d.fact 1 (f := .glo "is_row") rfl)
  have b1 : Binds K d1 ["thing"] [] := F1.binds fun _ _ _ _ _ _ us hl => match us, hl with | [_], _ => rfl
  obtain ⟨d2, D2⟩ := c.t.d.def_ 2 (d := dd "is_row_of" 13) rfl
  have F2 : Fun K "is_row_of" "is_row_of" sIsRowOf (He.ga K "is_row_of") d2 := fun_of D2
  have g2 : mg "is_row_of" = some (.ref (He.ga K "is_row_of")) := He.glo_ok X G (c.t.d.fact 2 (f := .glo "is_row_of") rfl)
  have b2 : Binds K d2 ["thing", "many"] [] := F2.binds fun _ _ _ _ _ _ us hl => match us, hl with | [_, _], _ => rfl
  obtain ⟨d3, D3⟩ := c.t.d.def_ 3 (d := dd "is_name" 14) rfl
  have F3 : Fun K "is_name" "is_name" sIsName (He.ga K "is_name") d3 := fun_of D3
  have g3 : mg "is_name" = some (.ref (He.ga K "is_name")) := He.glo_ok X G (c.t.d.fact 3 (f := .glo "is_name") rfl)
  have b3 : Binds K d3 ["thing"] [] := F3.binds fun _ _ _ _ _ _ us hl => match us, hl with | [_], _ => rfl
  obtain ⟨d4, D4⟩ := c.t.d.def_ 4 (d := dd "read_address" 15) rfl
  have F4 : Fun K "read_address" "read_address" sReadAddr (He.ga K "read_address") d4 := fun_of D4
  have g4 : mg "read_address" = some (.ref (He.ga K "read_address")) := He.glo_ok X G (c.t.d.fact 4 (f := .glo "read_address") rfl)
  have b4 : Binds K d4 ["thing"] [] := F4.binds fun _ _ _ _ _ _ us hl => match us, hl with | [_], _ => rfl
  obtain ⟨d5, D5⟩ := c.t.d.def_ 5 (d := dd "read_unknown" 18) rfl
  have F5 : Fun K "read_unknown" "read_unknown" sReadUnk (He.ga K "read_unknown") d5 := fun_of D5
  have g5 : mg "read_unknown" = some (.ref (He.ga K "read_unknown")) := He.glo_ok X G (c.t.d.fact 5 (f := .glo "read_unknown") rfl)
  have b5 : Binds K d5 ["thing"] [] := F5.binds fun _ _ _ _ _ _ us hl => match us, hl with | [_], _ => rfl
  obtain ⟨d6, D6⟩ := c.t.d.def_ 6 (d := dd "order_of" 19) rfl
  have F6 : Fun K "order_of" "order_of" sOrderOf (He.ga K "order_of") d6 := fun_of D6
  have g6 : mg "order_of" = some (.ref (He.ga K "order_of")) := He.glo_ok X G (c.t.d.fact 6 (f := .glo "order_of") rfl)
  have b6 : Binds K d6 ["unknown"] [] := F6.binds fun _ _ _ _ _ _ us hl => match us, hl with | [_], _ => rfl
  obtain ⟨d7, D7⟩ := c.t.d.def_ 7 (d := dd "one_form" 20) rfl
  have F7 : Fun K "one_form" "one_form" sOneForm (He.ga K "one_form") d7 := fun_of D7
  have g7 : mg "one_form" = some (.ref (He.ga K "one_form")) := He.glo_ok X G (c.t.d.fact 7 (f := .glo "one_form") rfl)
  have b7 : Binds K d7 ["number", "multiples"] [] := F7.binds fun _ _ _ _ _ _ us hl => match us, hl with | [_, _], _ => rfl
  obtain ⟨d8, D8⟩ := c.t.d.def_ 8 (d := dd "read_sum" 21) rfl
  have F8 : Fun K "read_sum" "read_sum" sReadSum (He.ga K "read_sum") d8 := fun_of D8
  have g8 : mg "read_sum" = some (.ref (He.ga K "read_sum")) := He.glo_ok X G (c.t.d.fact 8 (f := .glo "read_sum") rfl)
  have b8 : Binds K d8 ["thing"] [] := F8.binds fun _ _ _ _ _ _ us hl => match us, hl with | [_], _ => rfl
  obtain ⟨d9, D9⟩ := c.t.d.def_ 9 (d := dd "read_piece" 23) rfl
  have F9 : Fun K "read_piece" "read_piece" sReadPc (He.ga K "read_piece") d9 := fun_of D9
  have g9 : mg "read_piece" = some (.ref (He.ga K "read_piece")) := He.glo_ok X G (c.t.d.fact 9 (f := .glo "read_piece") rfl)
  have b9 : Binds K d9 ["thing"] [] := F9.binds fun _ _ _ _ _ _ us hl => match us, hl with | [_], _ => rfl
  obtain ⟨d10, D10⟩ := c.t.d.def_ 10 (d := dd "read_pieces" 24) rfl
  have F10 : Fun K "read_pieces" "read_pieces" sReadPcs (He.ga K "read_pieces") d10 := fun_of D10
  have g10 : mg "read_pieces" = some (.ref (He.ga K "read_pieces")) := He.glo_ok X G (c.t.d.fact 10 (f := .glo "read_pieces") rfl)
  have b10 : Binds K d10 ["pieces"] [] := F10.binds fun _ _ _ _ _ _ us hl => match us, hl with | [_], _ => rfl
  obtain ⟨d11, D11⟩ := c.t.d.def_ 11 (d := dd "words_of" 25) rfl
  have F11 : Fun K "words_of" "words_of" sWords (He.ga K "words_of") d11 := fun_of D11
  have g11 : mg "words_of" = some (.ref (He.ga K "words_of")) := He.glo_ok X G (c.t.d.fact 11 (f := .glo "words_of") rfl)
  have b11 : Binds K d11 ["pieces"] [] := F11.binds fun _ _ _ _ _ _ us hl => match us, hl with | [_], _ => rfl
  obtain ⟨d12, D12⟩ := c.t.d.def_ 12 (d := dd "kinds_of" 27) rfl
  have F12 : Fun K "kinds_of" "kinds_of" sKinds (He.ga K "kinds_of") d12 := fun_of D12
  have g12 : mg "kinds_of" = some (.ref (He.ga K "kinds_of")) := He.glo_ok X G (c.t.d.fact 12 (f := .glo "kinds_of") rfl)
  have b12 : Binds K d12 ["pieces"] [] := F12.binds fun _ _ _ _ _ _ us hl => match us, hl with | [_], _ => rfl
  obtain ⟨d13, D13⟩ := c.t.d.def_ 13 (d := dd "check_piece" 28) rfl
  have F13 : Fun K "check_piece" "check_piece" sChkP (He.ga K "check_piece") d13 := fun_of D13
  have g13 : mg "check_piece" = some (.ref (He.ga K "check_piece")) := He.glo_ok X G (c.t.d.fact 13 (f := .glo "check_piece") rfl)
  have b13 : Binds K d13 ["pieces", "p"] [] := F13.binds fun _ _ _ _ _ _ us hl => match us, hl with | [_, _], _ => rfl
  obtain ⟨d14, D14⟩ := c.t.d.def_ 14 (d := dd "read_told" 30) rfl
  have F14 : Fun K "read_told" "read_told" sReadTold (He.ga K "read_told") d14 := fun_of D14
  have g14 : mg "read_told" = some (.ref (He.ga K "read_told")) := He.glo_ok X G (c.t.d.fact 14 (f := .glo "read_told") rfl)
  have b14 : Binds K d14 ["told", "sums"] [] := F14.binds fun _ _ _ _ _ _ us hl => match us, hl with | [_, _], _ => rfl
  obtain ⟨d15, D15⟩ := c.t.d.def_ 15 (d := dd "are_of" 31) rfl
  have F15 : Fun K "are_of" "are_of" sAreOf (He.ga K "are_of") d15 := fun_of D15
  have g15 : mg "are_of" = some (.ref (He.ga K "are_of")) := He.glo_ok X G (c.t.d.fact 15 (f := .glo "are_of") rfl)
  have b15 : Binds K d15 ["one", "pieces"] [] := F15.binds fun _ _ _ _ _ _ us hl => match us, hl with | [_, _], _ => rfl
  obtain ⟨d16, D16⟩ := c.t.d.def_ 16 (d := dd "wanted_in" 32) rfl
  have F16 : Fun K "wanted_in" "wanted_in" sWanted (He.ga K "wanted_in") d16 := fun_of D16
  have g16 : mg "wanted_in" = some (.ref (He.ga K "wanted_in")) := He.glo_ok X G (c.t.d.fact 16 (f := .glo "wanted_in") rfl)
  have b16 : Binds K d16 ["sums", "told"] [] := F16.binds fun _ _ _ _ _ _ us hl => match us, hl with | [_, _], _ => rfl
  obtain ⟨d17, D17⟩ := c.t.d.def_ 17 (d := dd "check_roots" 35) rfl
  have F17 : Fun K "check_roots" "check_roots" sChkR (He.ga K "check_roots") d17 := fun_of D17
  have g17 : mg "check_roots" = some (.ref (He.ga K "check_roots")) := He.glo_ok X G (c.t.d.fact 17 (f := .glo "check_roots") rfl)
  have b17 : Binds K d17 ["unit", "roots"] [] := F17.binds fun _ _ _ _ _ _ us hl => match us, hl with | [_, _], _ => rfl
  obtain ⟨d18, D18⟩ := c.t.d.def_ 18 (d := dd "leads_of" 36) rfl
  have F18 : Fun K "leads_of" "leads_of" sLeads (He.ga K "leads_of") d18 := fun_of D18
  have g18 : mg "leads_of" = some (.ref (He.ga K "leads_of")) := He.glo_ok X G (c.t.d.fact 18 (f := .glo "leads_of") rfl)
  have b18 : Binds K d18 ["unit"] [] := F18.binds fun _ _ _ _ _ _ us hl => match us, hl with | [_], _ => rfl
  obtain ⟨d19, D19⟩ := c.t.d.def_ 19 (d := dd "ways_from" 37) rfl
  have F19 : Fun K "ways_from" "ways_from" sWays (He.ga K "ways_from") d19 := fun_of D19
  have g19 : mg "ways_from" = some (.ref (He.ga K "ways_from")) := He.glo_ok X G (c.t.d.fact 19 (f := .glo "ways_from") rfl)
  have b19 : Binds K d19 ["unit", "roots"] [] := F19.binds fun _ _ _ _ _ _ us hl => match us, hl with | [_, _], _ => rfl
  obtain ⟨d20, D20⟩ := c.t.d.def_ 20 (d := dd "reached" 38) rfl
  have F20 : Fun K "reached" "reached" sReached (He.ga K "reached") d20 := fun_of D20
  have g20 : mg "reached" = some (.ref (He.ga K "reached")) := He.glo_ok X G (c.t.d.fact 20 (f := .glo "reached") rfl)
  have b20 : Binds K d20 ["unit", "roots"] [] := F20.binds fun _ _ _ _ _ _ us hl => match us, hl with | [_, _], _ => rfl
  obtain ⟨d21, D21⟩ := c.t.d.def_ 21 (d := dd "struck" 39) rfl
  have F21 : Fun K "struck" "struck" sStruck (He.ga K "struck") d21 := fun_of D21
  have g21 : mg "struck" = some (.ref (He.ga K "struck")) := He.glo_ok X G (c.t.d.fact 21 (f := .glo "struck") rfl)
  have b21 : Binds K d21 ["unit", "roots"] [] := F21.binds fun _ _ _ _ _ _ us hl => match us, hl with | [_, _], _ => rfl
  obtain ⟨d22, D22⟩ := c.t.d.def_ 22 (d := dd "way_to" 40) rfl
  have F22 : Fun K "way_to" "way_to" sWayTo (He.ga K "way_to") d22 := fun_of D22
  have g22 : mg "way_to" = some (.ref (He.ga K "way_to")) := He.glo_ok X G (c.t.d.fact 22 (f := .glo "way_to") rfl)
  have b22 : Binds K d22 ["unit", "roots", "p"] [] := F22.binds fun _ _ _ _ _ _ us hl => match us, hl with | [_, _, _], _ => rfl
  obtain ⟨d23, D23⟩ := c.t.d.def_ 23 (d := dd "_law_cell" 42) rfl
  have F23 : Fun K "_law_cell" "_law_cell" sLCell (He.ga K "_law_cell") d23 := fun_of D23
  have g23 : mg "_law_cell" = some (.ref (He.ga K "_law_cell")) := He.glo_ok X G (c.t.d.fact 23 (f := .glo "_law_cell") rfl)
  have b23 : Binds K d23 ["script", "k"] [] := F23.binds fun _ _ _ _ _ _ us hl => match us, hl with | [_, _], _ => rfl
  obtain ⟨d24, D24⟩ := c.t.d.def_ 24 (d := dd "_law_row" 43) rfl
  have F24 : Fun K "_law_row" "_law_row" sLRow (He.ga K "_law_row") d24 := fun_of D24
  have g24 : mg "_law_row" = some (.ref (He.ga K "_law_row")) := He.glo_ok X G (c.t.d.fact 24 (f := .glo "_law_row") rfl)
  have b24 : Binds K d24 ["cell", "sizes"] [] := F24.binds fun _ _ _ _ _ _ us hl => match us, hl with | [_, _], _ => rfl
  obtain ⟨d25, D25⟩ := c.t.d.def_ 25 (d := dd "_law_summed" 44) rfl
  have F25 : Fun K "_law_summed" "_law_summed" sSummed (He.ga K "_law_summed") d25 := fun_of D25
  have g25 : mg "_law_summed" = some (.ref (He.ga K "_law_summed")) := He.glo_ok X G (c.t.d.fact 25 (f := .glo "_law_summed") rfl)
  have b25 : Binds K d25 ["pairs"] [] := F25.binds fun _ _ _ _ _ _ us hl => match us, hl with | [_], _ => rfl
  obtain ⟨d26, D26⟩ := c.t.d.def_ 26 (d := dd "_law_drawn_unit" 45) rfl
  have F26 : Fun K "_law_drawn_unit" "_law_drawn_unit" sDu (He.ga K "_law_drawn_unit") d26 := fun_of D26
  have g26 : mg "_law_drawn_unit" = some (.ref (He.ga K "_law_drawn_unit")) := He.glo_ok X G (c.t.d.fact 26 (f := .glo "_law_drawn_unit") rfl)
  have b26 : Binds K d26 ["draws"] [] := F26.binds fun _ _ _ _ _ _ us hl => match us, hl with | [_], _ => rfl
  obtain ⟨d27, D27⟩ := c.t.d.def_ 27 (d := dd "_law_met" 46) rfl
  have F27 : Fun K "_law_met" "_law_met" sMet (He.ga K "_law_met") d27 := fun_of D27
  have g27 : mg "_law_met" = some (.ref (He.ga K "_law_met")) := He.glo_ok X G (c.t.d.fact 27 (f := .glo "_law_met") rfl)
  have b27 : Binds K d27 ["ask"] [] := F27.binds fun _ _ _ _ _ _ us hl => match us, hl with | [_], _ => rfl
  obtain ⟨d28, D28⟩ := c.t.d.def_ 28 (d := dd "_law_leads" 47) rfl
  have F28 : Fun K "_law_leads" "_law_leads" sLLeads (He.ga K "_law_leads") d28 := fun_of D28
  have g28 : mg "_law_leads" = some (.ref (He.ga K "_law_leads")) := He.glo_ok X G (c.t.d.fact 28 (f := .glo "_law_leads") rfl)
  have b28 : Binds K d28 ["word", "told"] [] := F28.binds fun _ _ _ _ _ _ us hl => match us, hl with | [_, _], _ => rfl
  obtain ⟨d29, D29⟩ := c.t.d.def_ 29 (d := dd "_law_distances" 48) rfl
  have F29 : Fun K "_law_distances" "_law_distances" sDist (He.ga K "_law_distances") d29 := fun_of D29
  have g29 : mg "_law_distances" = some (.ref (He.ga K "_law_distances")) := He.glo_ok X G (c.t.d.fact 29 (f := .glo "_law_distances") rfl)
  have b29 : Binds K d29 ["pieces", "told", "roots"] [] := F29.binds fun _ _ _ _ _ _ us hl => match us, hl with | [_, _, _], _ => rfl
  obtain ⟨d30, D30⟩ := c.t.d.def_ 30 (d := dd "_law_way_right" 49) rfl
  have F30 : Fun K "_law_way_right" "_law_way_right" sWayR (He.ga K "_law_way_right") d30 := fun_of D30
  have g30 : mg "_law_way_right" = some (.ref (He.ga K "_law_way_right")) := He.glo_ok X G (c.t.d.fact 30 (f := .glo "_law_way_right") rfl)
  have b30 : Binds K d30 ["pieces", "told", "roots", "p", "way"] [] := F30.binds fun _ _ _ _ _ _ us hl => match us, hl with | [_, _, _, _, _], _ => rfl
  obtain ⟨d31, D31⟩ := c.t.d.def_ 31 (d := dd "_law_odd_right" 50) rfl
  have F31 : Fun K "_law_odd_right" "_law_odd_right" sOdR (He.ga K "_law_odd_right") d31 := fun_of D31
  have g31 : mg "_law_odd_right" = some (.ref (He.ga K "_law_odd_right")) := He.glo_ok X G (c.t.d.fact 31 (f := .glo "_law_odd_right") rfl)
  have b31 : Binds K d31 ["unit", "roots", "odd"] [] := F31.binds fun _ _ _ _ _ _ us hl => match us, hl with | [_, _, _], _ => rfl
  obtain ⟨d32, D32⟩ := c.t.d.def_ 32 (d := dd "_law_ways_right" 51) rfl
  have F32 : Fun K "_law_ways_right" "_law_ways_right" sWaysR (He.ga K "_law_ways_right") d32 := fun_of D32
  have g32 : mg "_law_ways_right" = some (.ref (He.ga K "_law_ways_right")) := He.glo_ok X G (c.t.d.fact 32 (f := .glo "_law_ways_right") rfl)
  have b32 : Binds K d32 ["unit", "pieces", "told", "roots", "due"] [] := F32.binds fun _ _ _ _ _ _ us hl => match us, hl with | [_, _, _, _, _], _ => rfl
  obtain ⟨d33, D33⟩ := c.t.d.def_ 33 (d := dd "law" 52) rfl
  have F33 : Fun K "law" "law" sLaw (He.ga K "law") d33 := fun_of D33
  have g33 : mg "law" = some (.ref (He.ga K "law")) := He.glo_ok X G (c.t.d.fact 33 (f := .glo "law") rfl)
  have b33 : Binds K d33 ["script"] [] := F33.binds fun _ _ _ _ _ _ us hl => match us, hl with | [_], _ => rfl
  obtain ⟨e0, E0⟩ := c.t.d.def_ 34 (d := ⟨("Unit", some "__init__"), "__init__", "Unit.__init__", defArgs (inClass (topS 33) 0), defBody (inClass (topS 33) 0), defScope (inClass (topS 33) 0), [.non], []⟩) rfl
  have a0 := He.meth_ok (c.t.d.fact 74 (f := .meth "Unit" "__init__") rfl)
  obtain ⟨ds0, v0, q0⟩ := FunD.binds1 (ps := ["self", "pieces", "told"]) E0 2 0 (by simp [He.DefD.dvs]) rfl fun T kV doc pm an cdv ct us its h1 h2 => match us, its, h1, h2 with | [_, _], [_], _, _ => ⟨_, rfl, rfl⟩
  obtain ⟨ds1, v1, q1'⟩ := FunD.binds1 (ps := ["self", "pieces", "told"]) E0 3 1 (by simp [He.DefD.dvs]) rfl fun T kV doc pm an cdv ct us its h1 h2 => match us, its, h1, h2 with | [_, _, _], [_], _, _ => ⟨_, rfl, rfl⟩
  cases v1
  obtain ⟨e1, E1⟩ := c.t.d.def_ 35 (d := ⟨("Unit", some "pieces"), "pieces", "Unit.pieces", defArgs (inClass (topS 33) 1), defBody (inClass (topS 33) 1), defScope (inClass (topS 33) 1), [], []⟩) rfl
  have a1 := He.meth_ok (c.t.d.fact 75 (f := .meth "Unit" "pieces") rfl)
  have M1 : Fun K "pieces" "Unit.pieces" sUPieces (He.ma K (He.ga K "Unit") "pieces") e1 := fun_of E1
  have q1 : Binds K e1 ["self"] [] := M1.binds fun _ _ _ _ _ _ us hl => match us, hl with | [_], _ => rfl
  obtain ⟨e2, E2⟩ := c.t.d.def_ 36 (d := ⟨("Unit", some "told"), "told", "Unit.told", defArgs (inClass (topS 33) 2), defBody (inClass (topS 33) 2), defScope (inClass (topS 33) 2), [], []⟩) rfl
  have a2 := He.meth_ok (c.t.d.fact 76 (f := .meth "Unit" "told") rfl)
  have M2 : Fun K "told" "Unit.told" sUTold (He.ma K (He.ga K "Unit") "told") e2 := fun_of E2
  have q2 : Binds K e2 ["self"] [] := M2.binds fun _ _ _ _ _ _ us hl => match us, hl with | [_], _ => rfl
  obtain ⟨e3, E3⟩ := c.t.d.def_ 37 (d := ⟨("Unit", some "__eq__"), "__eq__", "Unit.__eq__", defArgs (inClass (topS 33) 6), defBody (inClass (topS 33) 6), defScope (inClass (topS 33) 6), [], []⟩) rfl
  have a3 := He.meth_ok (c.t.d.fact 77 (f := .meth "Unit" "__eq__") rfl)
  have M3 : Fun K "__eq__" "Unit.__eq__" sUEq (He.ma K (He.ga K "Unit") "__eq__") e3 := fun_of E3
  have q3 : Binds K e3 ["self", "other"] [] := M3.binds fun _ _ _ _ _ _ us hl => match us, hl with | [_, _], _ => rfl
  obtain ⟨dB, DB⟩ := c.t.d.def_ 38 (d := ⟨("BadPiece", some "__init__"), "__init__", "BadPiece.__init__", defArgs (inClass (topS 3) 0), defBody (inClass (topS 3) 0), defScope (inClass (topS 3) 0), [], []⟩) rfl
  have FB : Fun K "__init__" "BadPiece.__init__" sIniB (He.ma K (He.ga K "BadPiece") "__init__") dB := fun_of DB
  have bB : Binds K dB ["self", "index"] [] := FB.binds fun _ _ _ _ _ _ us hl => match us, hl with | [_, _], _ => rfl
  obtain ⟨dW, DW⟩ := c.t.d.def_ 39 (d := ⟨("BadWord", some "__init__"), "__init__", "BadWord.__init__", defArgs (inClass (topS 4) 0), defBody (inClass (topS 4) 0), defScope (inClass (topS 4) 0), [], []⟩) rfl
  have FW : Fun K "__init__" "BadWord.__init__" sIniW (He.ma K (He.ga K "BadWord") "__init__") dW := fun_of DW
  have bW : Binds K dW ["self", "p", "k"] [] := FW.binds fun _ _ _ _ _ _ us hl => match us, hl with | [_, _, _], _ => rfl
  obtain ⟨dT, DT⟩ := c.t.d.def_ 40 (d := ⟨("BadTold", some "__init__"), "__init__", "BadTold.__init__", defArgs (inClass (topS 6) 0), defBody (inClass (topS 6) 0), defScope (inClass (topS 6) 0), [], []⟩) rfl
  have FT : Fun K "__init__" "BadTold.__init__" sIniT (He.ma K (He.ga K "BadTold") "__init__") dT := fun_of DT
  have bT : Binds K dT ["self", "name"] [] := FT.binds fun _ _ _ _ _ _ us hl => match us, hl with | [_, _], _ => rfl
  obtain ⟨dP, DP⟩ := c.t.d.def_ 41 (d := ⟨("NoPiece", some "__init__"), "__init__", "NoPiece.__init__", defArgs (inClass (topS 7) 0), defBody (inClass (topS 7) 0), defScope (inClass (topS 7) 0), [], []⟩) rfl
  have FP : Fun K "__init__" "NoPiece.__init__" sIniP (He.ma K (He.ga K "NoPiece") "__init__") dP := fun_of DP
  have bP : Binds K dP ["self", "p"] [] := FP.binds fun _ _ _ _ _ _ us hl => match us, hl with | [_, _], _ => rfl
  obtain ⟨dN, DN⟩ := c.t.d.def_ 42 (d := ⟨("NoName", some "__init__"), "__init__", "NoName.__init__", defArgs (inClass (topS 8) 0), defBody (inClass (topS 8) 0), defScope (inClass (topS 8) 0), [], []⟩) rfl
  have FN : Fun K "__init__" "NoName.__init__" sIniN (He.ma K (He.ga K "NoName") "__init__") dN := fun_of DN
  have bN : Binds K dN ["self", "name"] [] := FN.binds fun _ _ _ _ _ _ us hl => match us, hl with | [_, _], _ => rfl
  have CO : FunM K "_law_odd_right" "_law_odd_right" sOdR (cO K).1 (He.ga K "_law_odd_right") d31 := funM_of (p := ("_law_odd_right", none)) D31
  refine ⟨d33, F33, fun base Xb Gb TL1 => ?_⟩
  have EBe : Err P w K mg base "BadPiece" (He.ga K "BadPiece") "index" := ⟨gB, OB, nBindex, XB, eB, ⟨_, dB, "index", mB.at_, eq_of_beq mB.fn, bB, ok_iniB FB OB nBindex⟩⟩
  have EWe : Err2 P w K mg base "BadWord" (He.ga K "BadWord") "p" "k" := ⟨gW, OW, nWp, nWk, XW, eW, ⟨_, dW, "p", "k", mW.at_, eq_of_beq mW.fn, bW, ok_iniW FW OW nWp nWk⟩⟩
  have ETe : Err P w K mg base "BadTold" (He.ga K "BadTold") "name" := ⟨gT, OT, nTname, XT, eT, ⟨_, dT, "name", mT.at_, eq_of_beq mT.fn, bT, ok_iniT FT OT nTname⟩⟩
  have EPe : Err P w K mg base "NoPiece" (He.ga K "NoPiece") "p" := ⟨gP, OP, nPp, XP, eP, ⟨_, dP, "p", mP.at_, eq_of_beq mP.fn, bP, ok_iniP FP OP nPp⟩⟩
  have ENe : Err P w K mg base "NoName" (He.ga K "NoName") "name" := ⟨gN, ON, nNname, XN, eN, ⟨_, dN, "name", mN.at_, eq_of_beq mN.fn, bN, ok_iniN FN ON nNname⟩⟩
  have YP : HasM P w K mg base CX0 1 (He.ga K "Unit") "pieces" ["self"] (spUPieces (He.ga K "Unit")) := ⟨⟨_, e1, a1, q1, ok_upieces M1 T B⟩, CD⟩
  have YT : HasM P w K mg base CX0 1 (He.ga K "Unit") "told" ["self"] (spUTold (He.ga K "Unit")) := ⟨⟨_, e2, a2, q2, ok_utold M2 T B⟩, CD⟩
  have H0 := has_of (base := base) (P := P) (w := w) g0 D0.kp b0 (ok_isInt F0 T)
  have H1 := has_of (base := base) (P := P) (w := w) g1 D1.kp b1 (ok_isRow F1 T)
  have HrA := has_of (base := base) (P := P) (w := w) g1 D1.kp b1 (ok_isRowA F1 T)
  have H2 := has_of (base := base) (P := P) (w := w) g2 D2.kp b2 (ok_isRowOf F2 T (H1.mono (by decide)))
  have H3 := has_of (base := base) (P := P) (w := w) g3 D3.kp b3 (ok_isName F3 T gLet)
  have H4 := has_of (base := base) (P := P) (w := w) g4 D4.kp b4 (ok_readAdr F4 (H2.mono (by decide)) (H3.mono (by decide)) (H0.mono (by decide)))
  have H5 := has_of (base := base) (P := P) (w := w) g5 D5.kp b5 (ok_readUnk F5 T R (H2.mono (by decide)) (H0.mono (by decide)) (H3.mono (by decide)))
  have H7 := has_of (base := base) (P := P) (w := w) g7 D7.kp b7 (ok_oneForm F7 T R F6 g6)
  have H8 := has_of (base := base) (P := P) (w := w) g8 D8.kp b8 (ok_readSum F8 (H0.mono (by decide)) (H2.mono (by decide)) (H1.mono (by decide)) (H5.mono (by decide)) (H7.mono (by decide)))
  have H9 := has_of (base := base) (P := P) (w := w) g9 D9.kp b9 (ok_readPc F9 T (H2.mono (by decide)) (H3.mono (by decide)) (H1.mono (by decide)) (H8.mono (by decide)))
  have H10 := has_of (base := base) (P := P) (w := w) g10 D10.kp b10 (ok_readPcs F10 T EBe (HrA.mono (by decide)) (H9.mono (by decide)))
  have H11 := has_of (base := base) (P := P) (w := w) g11 D11.kp b11 (ok_words F11 T)
  have HwL := has_of (base := base) (P := P) (w := w) g11 D11.kp b11 (ok_wordsL F11 T)
  have H12 := has_of (base := base) (P := P) (w := w) g12 D12.kp b12 (ok_kinds F12 T)
  have HkL := has_of (base := base) (P := P) (w := w) g12 D12.kp b12 (ok_kindsL F12 T)
  have H14 := has_of (base := base) (P := P) (w := w) g14 D14.kp b14 (ok_readTold F14 T ETe (H4.mono (by decide)) (H3.mono (by decide)))
  have H15 := has_of (base := base) (P := P) (w := w) g15 D15.kp b15 (ok_areOf F15 T)
  have H16 := has_of (base := base) (P := P) (w := w) g16 D16.kp b16 (ok_wanted F16 T)
  have H17 := has_of (base := base) (P := P) (w := w) g17 D17.kp b17 (ok_chkR F17 T ENe (HrA.mono (by decide)) (H3.mono (by decide)) (YT.mono (by decide)))
  have H18 := has_of (base := base) (P := P) (w := w) g18 D18.kp b18 (ok_leads F18 YT YP (HwL.mono (by decide)))
  have H19 := has_of (base := base) (P := P) (w := w) g19 D19.kp b19 (ok_ways F19 T YT (H18.mono (by decide)))
  have H20 := has_of (base := base) (P := P) (w := w) g20 D20.kp b20 (ok_reached F20 (H17.mono (by decide)) (H19.mono (by decide)) YP)
  have H13 := has_of (base := base) (P := P) (w := w) g13 D13.kp b13 (ok_chkP F13 EPe (H3.mono (by decide)) (HkL.mono (by decide)))
  have H22 := has_of (base := base) (P := P) (w := w) g22 D22.kp b22 (ok_wayTo F22 (H17.mono (by decide)) (H19.mono (by decide)) (H13.mono (by decide)) YP)
  have H23 := has_of (base := base) (P := P) (w := w) g23 D23.kp b23 (ok_lcell F23 T)
  have H24 := has_of (base := base) (P := P) (w := w) g24 D24.kp b24 (ok_lrow F24 T)
  have H25 := has_of (base := base) (P := P) (w := w) g25 D25.kp b25 (ok_summed F25 T)
  have H26 := has_of (base := base) (P := P) (w := w) g26 D26.kp b26 (ok_drawn F26 T (H25.mono (by decide)))
  have H28 := has_of (base := base) (P := P) (w := w) g28 D28.kp b28 (ok_lleads F28)
  have H29 := has_of (base := base) (P := P) (w := w) g29 D29.kp b29 (ok_dist F29 T (H28.mono (by decide)))
  have H30 := has_of (base := base) (P := P) (w := w) g30 D30.kp b30 (ok_wayR F30 T (H28.mono (by decide)))
  have H32 := has_of (base := base) (P := P) (w := w) g32 D32.kp b32 (ok_waysR F32 T (H22.mono (by decide)) (H30.mono (by decide)))
  have MM : Met K mg (He.ga K "NoName") (He.ga K "NoPiece") := ⟨⟨_, d27, g27, F27⟩, ⟨gN, gP, eN, eP, oPN, XN, XP, nNname, nPp⟩⟩
  have MI : MkU P w K mg base (He.ga K "Unit") (He.ga K "BadPiece") (He.ga K "BadTold") (He.ga K "BadWord") := ⟨gI, ⟨_, e0, ds0, KD, q1', v0, q0, ok_unit E0 T B EWe (H10.mono (by decide)) (H11.mono (by decide)) (H14.mono (by decide)) (H12.mono (by decide)) (H15.mono (by decide)) (H16.mono (by decide))⟩⟩
  have H21 := has_of (base := base) (P := P) (w := w) g21 D21.kp b21 (ok_struck F21 (H20.mono (by decide)) YT YP MI)
  have HOd : Has P w K mg base CX0 13 "_law_odd_right" ["unit", "roots", "odd"] (spOddR K (TBs K) (He.ga K "Unit")) := has_of (base := base) (P := P) (w := w) g31 D31.kp b31 (ok_oddR CO MM H20 H21 H22 TL1 (List.mem_cons_self ..) (fun p hp _ => by rw [List.mem_singleton.mp hp]))
  have IQ : ImQ K (He.ga K "Unit") (He.ma K (He.ga K "Unit") "__eq__") := imqB_ok x12 a3.at_ a3.fn
  exact ⟨T, H23, H24, H26, H29, H20, H21, H32, HOd, MI, IQ, ⟨e3, ok_ueq M3 T B IQ gI, q3⟩, YT⟩
end DR

open PySem PySem.W PySem.Calls PyProof.Rows
theorem PySem.Challenge.cw_loadanywhere_k85_dead_pieces_holds : PySem.Challenge.rw_loadanywhere_k85_dead_pieces.Holds := by
  w_on; o_law
  refine HandSHeadRun.head_any (r := DR.RR) (q := view DR.RR.prog [52]) (H := DR.hkk) (ob := DR.obb) (M := 6000) (loose := DR.loosL) (d := HandSHeadRun.topDef DR.RR.prog 52) (kwd := []) DR.obb_eq
    (by kernel_rfl) (fun s => by kernel_rfl) DR.runL (by kernel_rfl) (by kernel_rfl) (by kernel_rfl) (by rfl) (by first | assumption | decide +kernel) (by decide +kernel) ⟨rfl, rfl, rfl, rfl, rfl, by decide +kernel⟩ ?hw ?hc
  case hw => w_witness2
  case hc =>
    refine GA.walk_here (l := PySem.Challenge.rw_loadanywhere_k85_dead_pieces) (n := 63) (CX := fun w => L2.CX PySem.Challenge.rw_loadanywhere_k85_dead_pieces.prog w) rfl (by decide) (by kernel_rfl) ?F (fun _ _ _ _ _ z => by
      obtain ⟨_, _, _, _, _, _, _, _, _, _, _, _, y⟩ := z
      exact y.elim)
    intro w mg fa h Y G hmg0
    obtain ⟨K, KX, c⟩ := Y
    have hmg : mg ("law" : PySem.Str) = some (.ref fa) := by
      have e : (HandSHeadRun.topDef DR.RR.prog 52).name = ("law" : PySem.Str) := by kernel_rfl
      rw [← e]
      exact hmg0
    have gL := He.glo_ok KX G (c.t.d.fact 33 (f := .glo "law") rfl)
    have efa := hmg.symm.trans gL
    cases efa
    obtain ⟨fd, hF, hL⟩ := DR.facts (P := PySem.Challenge.rw_loadanywhere_k85_dead_pieces.prog) (w := w) KX G c
    refine ⟨K, KX, [DR.cO K], ?_, ?_, ?_, ?_⟩
    · intro p hp
      obtain rfl := List.mem_singleton.mp hp
      exact c.empty ("_law_odd_right", none) (List.mem_cons_self ..)
    · intro p hp
      obtain rfl := List.mem_singleton.mp hp
      exact c.out ("_law_odd_right", none) (List.mem_cons_self ..)
    · intro p hp
      obtain rfl := List.mem_singleton.mp hp
      exact codeHd_of_K KX (c.hd ("_law_odd_right", none) (List.mem_cons_self ..))
    · intro base s H a ns Xb Gb hT hTab hS _ e0
      refine DR.law_here hF (hL base Xb Gb (hT _ (List.mem_cons_self ..))) ⟨rfl, by decide, by decide⟩ e0 hS fun p hp => ?_
      obtain rfl := List.mem_singleton.mp hp
      exact LamX.TabS.nil (hTab (DR.cO K) (List.mem_cons_self ..))
