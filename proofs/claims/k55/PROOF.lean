import PyProof.Rows.All
import Wide.All
import OpenK.AllK
import Wide.FinOn
import HandS.ForMost
import HandS.ForExc
import HandS.IsInst
import HandS.Walk
import HandS.More
import HandS.Dict
import HandS.Style
import HandS.SortInts
import HandS.DictComp
import HandS.Zip
import HandS.Deep
import HandS.TryOnly
import HandS.TupAny
import HandS.TupMul
import KE.GoesMore
import PySem.Challenge.RW_loadanywhere_k55_whole_fitting_choices
import HandS.SetFor
import HandS.Strs
import KE.SortKeyHeap
import KE.SortData
import HandS.SortKw
import HandS.ExcInit
import HandS.ExcField
import HandS.Defaults
import HandS.Flow
import PyProof.TupleOfSeq
import PyProof.MakeMany
import PyProof.ZipIter
import HandS.Conv
import HandS.WordsDict
import HandS.Lambda
import HandS.EndTab
import KE.KMinKey
import Wide.Once
import KE.KStateDown
import Lean
import HandS.Ends
import HandS.Head0
import HandS.Head1
import HandS.Head2
import HandS.Head3
import HandS.HeadHook1
import HandS.HeadHook2
import HandS.HeadHook3
import HandS.HeadHook4
import HandS.HeadWalk
set_option Elab.async false
set_option linter.all false
set_option maxRecDepth 100000
set_option maxHeartbeats 0
namespace DR
open PySem PySem.Spec PyProof.Rows L2
/-! ### the text by places -/
def topS (i : Nat) : Stmt := PySem.Challenge.pw_loadanywhere_k55_whole_fitting_choices.main.body.getD i (.Pass ⟨0, 0, 0, 0⟩)
/-- a def of the text that stands at a global name and keeps its promise -/
structure Has (P : Program) (w : World) (K : PySem.W.Frag) (mg : Str → Option Value) (base : Heap) (CX : CXT) (k : Nat) (x : Str) (ps : List Str) (sp : Sp) : Prop where
  ex : ∃ (f : Addr) (fd : FuncData), mg x = some (.ref f) ∧ PySem.W.keepIn K (.ref f) = true ∧ Binds K fd ps [] ∧ FnOk P w K mg base CX k f fd ps sp
theorem Has.mono {P : Program} {w : World} {K : PySem.W.Frag} {mg : Str → Option Value} {base : Heap} {CX : CXT} {j k : Nat} {x : Str} {ps : List Str} {sp : Sp} (h : Has P w K mg base CX j x ps sp) (l : j ≤ k) : Has P w K mg base CX k x ps sp := by
  obtain ⟨f, fd, a, b, c, d⟩ := h.ex
  exact ⟨f, fd, a, b, c, d.mono l⟩
section
variable {X : Cx} {CX : CXT} {k : Nat} {ps : List Str} {sp : Sp} {E : XK} {x : Str} {p pos : Pos} {e : Expr} {es : List Expr} {t : TA}
theorem pe_callH (F : Has X.prog X.w X.K X.mg X.base CX k x ps sp) (hr : Room k X.A) (hg : Gl X x) (hx : Passes CX X E)
    (ha : PA X (e :: es) t) (hdb : (x == ("__debug__" : Str)) = false := by decide) (he : starEach (e :: es) X.env = (false, eval e X.env) :: starEach es X.env := by rfl) (hpl : (backTo pos (starEach es X.env)).any (·.1) = false := by rfl) :
    PE X (.Call (.Name x p) (e :: es) [] pos) (tCall sp [] E t) := by
  obtain ⟨f, fd, a, b, c, d⟩ := F.ex
  exact pe_call d hr hg a b c .nil hx ha hdb he hpl
end
/-- the names of built-ins that the law and the program ask -/
structure Bi (mg : Str → Option Value) : Prop where
  len : mg "len" = none
  int : mg "int" = none
  str : mg "str" = none
  bool : mg "bool" = none
  list : mg "list" = none
  tuple : mg "tuple" = none
  isinstance : mg "isinstance" = none
  all : mg "all" = none
  sorted : mg "sorted" = none
  range : mg "range" = none
  enumerate : mg "enumerate" = none
  zip : mg "zip" = none
  dict : mg "dict" = none
  min : mg "min" = none
  set : mg "set" = none

/-! ### things: data, and the empty dict -/
theorem rd_same {H H' : Hp} {a : Addr} {u : HO} (e : Same H H') (h : Rd H a u) : Rd H' a u := by
  rcases h with h | ⟨o, h⟩
  · exact .inl (e _ _ h)
  · exact .inr ⟨o, e _ _ h⟩
theorem sqL_same {K : PySem.W.Frag} {H H' : Hp} {a : Addr} {xs : List V} (e : Same H H') (h : SqL K H a xs) : SqL K H' a xs := e.seq h
theorem sqT_same {K : PySem.W.Frag} {H H' : Hp} {a : Addr} {xs : List V} (e : Same H H') (h : SqT K H a xs) : SqT K H' a xs := by
  rcases h with h | h
  · exact .inl (rd_same e h)
  · exact .inr h
mutual
theorem dp_same {K : PySem.W.Frag} {H H' : Hp} (e : Same H H') : ∀ {v : V} {d : PyData}, Dp K H v d → Dp K H' v d
  | _, _, .non => .non
  | _, _, .bl b => .bl b
  | _, _, .int i => .int i
  | _, _, .str x => .str x
  | _, _, .lst s a => .lst (sqL_same e s) (dps_same e a)
  | _, _, .tup s a => .tup (sqT_same e s) (dps_same e a)
theorem dps_same {K : PySem.W.Frag} {H H' : Hp} (e : Same H H') : ∀ {vs : List V} {ds : List PyData}, DpAll K H vs ds → DpAll K H' vs ds
  | _, _, .nil => .nil
  | _, _, .cons h t => .cons (dp_same e h) (dps_same e t)
end
theorem same_new {H : Hp} {p : Addr} {o : HO} (h : H p = none) : Same H (upd H p o) := fun b x e => by
  rw [upd_ne (ne_of_none e h)]
  exact e
/-- data, or a dict -/
inductive Th (K : PySem.W.Frag) (H : Hp) : V → PyData → Prop
  | dat {v : V} {d : PyData} : Dp K H v d → Th K H v d
  | dct {a : Addr} {kvs : List (Key × V)} : H a = some (.dK kvs) → Th K H (.ref a) (.dict [])
theorem th_same {K : PySem.W.Frag} {H H' : Hp} (e : Same H H') {v : V} {d : PyData} : Th K H v d → Th K H' v d
  | .dat h => .dat (dp_same e h)
  | .dct h => .dct (e _ _ h)
def tyN : PyData → String
  | .none => "NoneType"
  | .bool _ => "bool"
  | .int _ => "int"
  | .str _ => "str"
  | .list _ => "list"
  | .tuple _ => "tuple"
  | .dict _ => "dict"
theorem ty_list {K : PySem.W.Frag} {H : Hp} {a : Addr} {xs : List V} (h : SqL K H a xs) : TyX K H (.ref a) (.type "list") := by
  rcases h with (h | ⟨o, h⟩) | ⟨o, its, n, h, c, _⟩
  · exact .base (.lst h)
  · exact .base (.frz h)
  · exact .kList h c
theorem ty_tup {K : PySem.W.Frag} {H : Hp} {a : Addr} {xs : List V} (h : SqT K H a xs) : TyX K H (.ref a) (.type "tuple") := by
  rcases h with (h | ⟨o, h⟩) | ⟨o, its, n, h, c, _⟩
  · exact .base (.tup h)
  · exact .fTuple h
  · exact .kTuple h c
theorem th_ty {K : PySem.W.Frag} {H : Hp} {v : V} {d : PyData} (h : Th K H v d) : TyX K H v (.type (tyN d)) := by
  cases h with
  | dct h => exact .base (.dK h)
  | dat h =>
    cases h with
    | non => exact .base .non
    | bl b => exact .base (.bl b)
    | int i => exact .base (.int i)
    | str x => exact .base (.str x)
    | lst s _ => exact ty_list s
    | tup s _ => exact ty_tup s
def isI : PyData → Bool
  | .int _ => true
  | _ => false
def isIB : PyData → Bool
  | .int _ => true
  | .bool _ => true
  | _ => false
def isB : PyData → Bool
  | .bool _ => true
  | _ => false
def isS : PyData → Bool
  | .str _ => true
  | _ => false
def isR : PyData → Bool
  | .list _ => true
  | .tuple _ => true
  | _ => false
def tyNs : List String := ["NoneType", "bool", "int", "str", "list", "tuple", "dict"]
theorem tyN_mem (d : PyData) : tyN d ∈ tyNs := by cases d <;> simp [tyN, tyNs]
theorem kb_int : ∀ n ∈ tyNs, kitB n "int" = some (n == "int" || n == "bool") := by decide +kernel
theorem kb_bool : ∀ n ∈ tyNs, kitB n "bool" = some (n == "bool") := by decide +kernel
theorem kb_str : ∀ n ∈ tyNs, kitB n "str" = some (n == "str") := by decide +kernel
theorem kb_list : ∀ n ∈ tyNs, kitB n "list" = some (n == "list") := by decide +kernel
theorem kb_tup : ∀ n ∈ tyNs, kitB n "tuple" = some (n == "tuple") := by decide +kernel
theorem kit_int {K : PySem.W.Frag} (d : PyData) : PySem.W.kitOne K (.type (tyN d)) (.type "int") = some (isIB d) := by
  have h := kb_int _ (tyN_mem d)
  have e : (tyN d == "int" || tyN d == "bool") = isIB d := by cases d <;> rfl
  rw [e] at h
  exact kit_ty h
theorem kit_bool {K : PySem.W.Frag} (d : PyData) : PySem.W.kitOne K (.type (tyN d)) (.type "bool") = some (isB d) := by
  have h := kb_bool _ (tyN_mem d)
  have e : (tyN d == "bool") = isB d := by cases d <;> rfl
  rw [e] at h
  exact kit_ty h
theorem kit_str {K : PySem.W.Frag} (d : PyData) : PySem.W.kitOne K (.type (tyN d)) (.type "str") = some (isS d) := by
  have h := kb_str _ (tyN_mem d)
  have e : (tyN d == "str") = isS d := by cases d <;> rfl
  rw [e] at h
  exact kit_ty h
theorem kit_row {K : PySem.W.Frag} (d : PyData) : PySem.W.kitAny K (.type (tyN d)) [.type "list", .type "tuple"] = some (isR d) := by
  have h1 := kb_list _ (tyN_mem d)
  have h2 := kb_tup _ (tyN_mem d)
  refine kitAny_cons (kit_ty h1) (fun z => kitAny_cons (kit_ty h2) (fun z2 => ?_) fun z2 => ?_) fun z => ?_
  all_goals
    revert z
    try revert z2
    cases d <;> simp [tyN, isR, kitAny_nil]
/-- isinstance of a thing, one class -/
theorem isi1 {K : PySem.W.Frag} {H : Hp} {v : V} {d : PyData} {n : String} {b : Bool} {Q : VK} (h : Th K H v d) (k : PySem.W.kitOne K (.type (tyN d)) (.type n) = some b) (q : Q (.bl b) H) : rIsi K [v, .ty n] H Q :=
  ⟨v, .ty n, _, _, b, rfl, .ty n, th_ty h, k, q⟩
def spIsInt (K : PySem.W.Frag) : Sp := fun vs H Q _ => ∃ v d, vs = [v] ∧ Th K H v d ∧ Q (.bl (isI d)) H
def spIsRow (K : PySem.W.Frag) : Sp := fun vs H Q _ => ∃ v d, vs = [v] ∧ Th K H v d ∧ ∀ H', Same H H' → Q (.bl (isR d)) H'
/-- the items of a list or tuple -/
def items : PyData → Option (List PyData)
  | .list xs => some xs
  | .tuple xs => some xs
  | _ => none
def isRof (d : PyData) (n : Int) : Bool := match items d with
  | some xs => decide ((xs.length : Int) = n)
  | none => false
def spIsRowOf (K : PySem.W.Frag) : Sp := fun vs H Q _ => ∃ v d n, vs = [v, .int n] ∧ Th K H v d ∧ ∀ H', Same H H' → Q (.bl (isRof d n)) H'
theorem dps_len {K : PySem.W.Frag} {H : Hp} : ∀ {vs : List V} {ds : List PyData}, DpAll K H vs ds → vs.length = ds.length
  | _, _, .nil => rfl
  | _, _, .cons _ t => congrArg (· + 1) (dps_len t)
/-- a thing that is a row: its place and items -/
theorem th_row {K : PySem.W.Frag} {H : Hp} {v : V} {d : PyData} (h : Th K H v d) {ds : List PyData} (e : items d = some ds) : ∃ a xs, v = .ref a ∧ (SqL K H a xs ∨ SqT K H a xs) ∧ DpAll K H xs ds := by
  cases h with
  | dct h => cases e
  | dat h =>
    cases h with
    | non => cases e
    | bl b => cases e
    | int i => cases e
    | str x => cases e
    | lst s t =>
      cases e
      exact ⟨_, _, rfl, .inl s, t⟩
    | tup s t =>
      cases e
      exact ⟨_, _, rfl, .inr s, t⟩
theorem isR_items (d : PyData) : isR d = (items d).isSome := by cases d <;> rfl
abbrev sIsInt : Stmt := topS 9
abbrev sIsRow : Stmt := topS 10
abbrev sIsRowOf : Stmt := topS 11
abbrev sIsName : Stmt := topS 12
theorem scIsInt : FnScope ["thing"] ["thing"] (defScope sIsInt) := ⟨rfl, rfl, rfl, by decide +kernel, rfl, by decide +kernel, by decide +kernel⟩
theorem scIsRow : FnScope ["thing"] ["thing"] (defScope sIsRow) := ⟨rfl, rfl, rfl, by decide +kernel, rfl, by decide +kernel, by decide +kernel⟩
theorem scIsRowOf : FnScope ["thing", "many"] ["thing", "many"] (defScope sIsRowOf) := ⟨rfl, rfl, rfl, by decide +kernel, rfl, by decide +kernel, by decide +kernel⟩
theorem scIsName : FnScope ["thing", "letter"] ["thing"] (defScope sIsName) := ⟨rfl, rfl, rfl, by decide +kernel, rfl, by decide +kernel, by decide +kernel⟩
def lettersS : Str := "abcdefghijklmnopqrstuvwxyz"
def isNmS (s : Str) : Bool := decide (1 ≤ (s.length : Int)) && (decide ((s.length : Int) ≤ 8) && s.cps.toList.all fun c => decide (c ∈ lettersS.cps.toList))
def isNm : PyData → Bool
  | .str s => isNmS s
  | _ => false
/-- a thing whose text, if it is one, is not too long -/
def shortS : PyData → Prop
  | .str s => s.length ≤ 1000
  | _ => True
def spIsName (K : PySem.W.Frag) : Sp := fun vs H Q _ => ∃ v d, vs = [v] ∧ Th K H v d ∧ shortS d ∧ ∀ H', Same H H' → Q (.bl (isNm d)) H'
section
variable {P : Program} {w : World} {K : PySem.W.Frag} {mg : Str → Option Value} {base : Heap}
theorem ok_isInt {f : Addr} {fd : FuncData} (F : Fun K "is_integer" "is_integer" sIsInt f fd) (T : Bi mg) : FnOk P w K mg base CX0 1 f fd ["thing"] (spIsInt K) := by
  refine F.ok scIsInt (fun vs H Q E h => ?_) (fun cdv A outer s H vs Q E hr h => ?_)
  · obtain ⟨v, d, rfl, _⟩ := h
    rfl
  · obtain ⟨v, d, rfl, th, q⟩ := h
    refine ⟨_, (pss_one (ps_ret (pe_and (pe_callB call_isi (by rfl) T.isinstance (by decide +kernel) (pa_cons (pv 0) (pa_cons (pe_bltn (v := .ty "int") (by rfl) T.int (by decide +kernel) rfl) pa_nil))) (pe_one (pe_not (pe_callB call_isi (by rfl) T.isinstance (by decide +kernel) (pa_cons (pv 0) (pa_cons (pe_bltn (v := .ty "bool") (by rfl) T.bool (by decide +kernel) rfl) pa_nil)))))))), ?_⟩
    refine ⟨_, rfl, v, _, _, _, _, rfl, .ty "int", th_ty th, kit_int d, _, rfl, ?_⟩
    cases e : isIB d with
    | false =>
      refine iteF ?_
      have z : isI d = false := by cases d <;> first | rfl | cases e
      rw [z] at q
      exact q
    | true =>
      refine iteT ⟨_, rfl, v, _, _, _, _, rfl, .ty "bool", th_ty th, kit_bool d, _, rfl, ?_⟩
      have z : isI d = !isB d := by cases d <;> first | rfl | cases e
      rw [z] at q
      exact q
theorem ok_isRow {f : Addr} {fd : FuncData} (F : Fun K "is_row" "is_row" sIsRow f fd) (T : Bi mg) : FnOk P w K mg base CX0 1 f fd ["thing"] (spIsRow K) := by
  refine F.ok scIsRow (fun vs H Q E h => ?_) (fun cdv A outer s H vs Q E hr h => ?_)
  · obtain ⟨v, d, rfl, _⟩ := h
    rfl
  · obtain ⟨v, d, rfl, th, q⟩ := h
    refine ⟨_, (pss_one (ps_ret (pe_callB call_isiT (by rfl) T.isinstance (by decide +kernel) (pa_cons (pv 0) (pa_cons (pe_tup (pa_cons (pe_bltn (v := .ty "list") (by rfl) T.list (by decide +kernel) rfl) (pa_cons (pe_bltn (v := .ty "tuple") (by rfl) T.tuple (by decide +kernel) rfl) pa_nil))) pa_nil))))), ?_⟩
    refine ⟨_, rfl, (by show 2 ≤ sizeLine; decide), fun p hp => ?_⟩
    refine ⟨v, p, _, _, _, _, rfl, upd_same, .cons (.ty "list") (.cons (.ty "tuple") .nil), th_ty (th_same (same_new hp) th), kit_row d, q _ (same_new hp)⟩
theorem ok_isRowOf {f : Addr} {fd : FuncData} (F : Fun K "is_row_of" "is_row_of" sIsRowOf f fd) (T : Bi mg) (G : Has P w K mg base CX0 1 "is_row" ["thing"] (spIsRow K)) : FnOk P w K mg base CX0 2 f fd ["thing", "many"] (spIsRowOf K) := by
  refine F.ok scIsRowOf (fun vs H Q E h => ?_) (fun cdv A outer s H vs Q E hr h => ?_)
  · obtain ⟨v, d, n, rfl, _⟩ := h
    rfl
  · obtain ⟨v, d, n, rfl, th, q⟩ := h
    refine ⟨_, (pss_one (ps_ret (pe_and (pe_callH G hr (by rfl) pass0 (pa_cons (pv 0) pa_nil)) (pe_one (pe_cmpR op_eq (pe_callB call_len_seq (by rfl) T.len (by decide +kernel) (pa_cons (pv 0) pa_nil)) (pv 1) (nomark _)))))), ?_⟩
    refine ⟨_, rfl, v, d, rfl, th, fun H' sm => ⟨_, rfl, ?_⟩⟩
    rw [isR_items]
    have q' := q H' sm
    unfold isRof at q'
    cases e : items d with
    | none =>
      rw [e] at q'
      exact iteF q'
    | some ds =>
      rw [e] at q'
      obtain ⟨a, xs, rfl, hs, ha⟩ := th_row (th_same sm th) e
      refine iteT ⟨_, rfl, a, xs, rfl, hs, _, rfl, rfl, ?_⟩
      rw [dps_len ha]
      have z : decide (V.int (ds.length : Int) = V.int n) = decide ((ds.length : Int) = n) := by
        by_cases c : (ds.length : Int) = n
        · rw [c]; simp
        · rw [decide_eq_false c]
          exact decide_eq_false fun z => c (V.int.inj z)
      rw [z]
      exact q'
theorem yes_go {σ : L2.St} {H : Hp} {F : Bool → Hp → Prop} (h : F true H) : tYes σ H F := h
theorem ok_isName {f : Addr} {fd : FuncData} {t : Tok} (F : Fun K "is_name" "is_name" sIsName f fd) (T : Bi mg) (gL : mg "LETTERS" = some (.str lettersS t)) : FnOk P w K mg base CX0 1 f fd ["thing"] (spIsName K) := by
  refine F.ok scIsName (fun vs H Q E h => ?_) (fun cdv A outer s H vs Q E hr h => ?_)
  · obtain ⟨v, d, rfl, _⟩ := h
    rfl
  · obtain ⟨v, d, rfl, th, sh, q⟩ := h
    refine ⟨_, (pss_cons (ps_if (PW.pt (pw_or (pt_not (pt_val (pe_callB call_isi (by rfl) T.isinstance (by decide +kernel) (pa_cons (pv 0) (pa_cons (pe_bltn (v := .ty "str") (by rfl) T.str (by decide +kernel) rfl) pa_nil))))) (pw_or1 (pt_not (pt_chain op_le op_le pe_int (pe_callB call_len_str (by rfl) T.len (by decide +kernel) (pa_cons (pv 0) pa_nil)) pe_int))))) (pss_one (ps_ret pe_bl)) pss_nil)
      (pss_one (ps_ret (pe_callB (cr_all rfl) (by rfl) T.all (by decide +kernel) (pa_cons (pe_lc (own := [("letter", 1)]) (g := gName 1) (tt := tYes) rfl scIsName.nd (pi_str (pv 0)) (blkOk_by (N := ["thing", "letter"]) (sc := defScope sIsName) (by decide +kernel)) (fun _ _ _ _ _ => pg_name (i := 1) scIsName.nd rfl (.inl rfl)) (fun _ _ _ _ _ => pts_nil) (fun _ _ _ _ _ => (pe_cmpR op_in_sign (pv 1) (pe_glob (v := .str lettersS) rfl gL ⟨_, rfl⟩) (by rfl)))) pa_nil))))), ?_⟩
    refine ⟨_, rfl, v, _, _, _, _, rfl, .ty "str", th_ty th, kit_str d, _, rfl, ?_⟩
    cases d with
    | str s =>
      obtain rfl : v = .str s := by
        cases th with
        | dat h => cases h; rfl
      have hl : s.length ≤ sizeLine := Nat.le_trans sh (by decide)
      refine iteF ⟨_, rfl, s, rfl, hl, _, _, rfl, rfl, _, rfl, ?_⟩
      have q0 : Q (.bl (isNmS s)) H := q H (Same.refl H)
      unfold isNmS at q0
      cases c1 : decide (1 ≤ (s.length : Int)) with
      | false =>
        rw [c1] at q0
        exact iteF ⟨_, rfl, iteT q0⟩
      | true =>
        refine iteT ⟨_, _, rfl, rfl, _, rfl, ?_⟩
        cases c2 : decide ((s.length : Int) ≤ 8) with
        | false =>
          rw [c1, c2] at q0
          exact iteT q0
        | true =>
          refine iteF ⟨_, rfl, s, rfl, fun D hD => ?_⟩
          have e1 : (isNmS s) = s.cps.toList.all fun c => decide (c ∈ lettersS.cps.toList) := by
            unfold isNmS
            rw [c1, c2]
            rfl
          refine lc_it (walk_str (z := s)) (fun i H' => (∀ b o, b ≠ D → H b = some o → H' b = some o) ∧ H' D = some (.lst (((s.cps.toList.take i).map fun c => decide (c ∈ lettersS.cps.toList)).map V.bl))) ⟨fun b o hb e => by rw [upd_ne hb]; exact e, upd_same⟩ (fun _ _ _ _ => trivial) ?_ ?_
          · rintro i x H1 H2 hi ⟨kp, hd⟩ ⟨rfl, c, hc, rfl⟩
            have hc' : s.cps.toList[i]? = some c := by simpa using hc
            refine ⟨rfl, ?_⟩
            refine yes_go (iteT ?_)
            refine ⟨_, rfl, c, lettersS, rfl, rfl, _, hd, ?_, fun b o hb e => ?_, ?_⟩
            · rw [List.length_map, List.length_map, List.length_take]
              refine Nat.lt_of_le_of_lt (Nat.min_le_right _ _) (Nat.lt_of_le_of_lt (m := 1000) ?_ (by decide))
              have e2 : s.cps.toList.length = s.length := by simp [Str.length]
              have sh' : s.length ≤ 1000 := sh
              omega
            · rw [upd_ne hb]
              exact kp b o hb e
            · rw [upd_same, List.take_add_one, hc']
              simp
          · rintro H1 ⟨kp, hd⟩
            refine ⟨D, _, rfl, SqL.of hd, ?_⟩
            have e2 : s.cps.toList.take s.cps.size = s.cps.toList := by
              rw [← Array.length_toList]
              exact List.take_length
            have e3 : ((s.cps.toList.take s.cps.size).map fun c => decide (c ∈ lettersS.cps.toList)).all id = isNm (.str s) := by
              rw [e2, List.all_map]
              exact e1.symm
            rw [e3]
            exact q H1 fun b o e => kp b o (ne_of_none e hD) e
    | none => exact iteT (q H (Same.refl H))
    | bool b => exact iteT (q H (Same.refl H))
    | int i => exact iteT (q H (Same.refl H))
    | list xs => exact iteT (q H (Same.refl H))
    | tuple xs => exact iteT (q H (Same.refl H))
    | dict xs => exact iteT (q H (Same.refl H))
end

/-! ### enumerate over a tuple -/
open AutoSeq1 (wpAny_loadPart') in
theorem meets_enumT (tt : Addr) (its : Array Value) (ot : Obj) (co : ot.cls = .type "tuple") (n : Nat) (dd : ot.data = .seq its n) :
    Meets (Builtin.«enumerate.__new__» ⟨[.type "enumerate", .ref tt], []⟩) (fun _ R t => t.heap.get? tt = some ot ∧
      R (.ok (.ret (.ref (t.heap.push { cls := .type "tuple_iterator", data := .fields #[.ref tt, .int 0 0] }).objs.size)))
        { t with heap := (t.heap.push { cls := .type "tuple_iterator", data := .fields #[.ref tt, .int 0 0] }).push { cls := .type "enumerate", data := .fields #[.none, .bool false, .ref t.heap.objs.size, rawInt 0, .none, .none] } }) :=
  .of_wp fun prog w A R t goal => by
    obtain ⟨hp, gg, dp, tk, os⟩ := t
    obtain ⟨get, goal⟩ := goal
    obtain ⟨c0, d0, dt0, s0⟩ := ot
    dsimp only at co dd
    subst co
    subst dd
    have below := sub_enumerate
    have isT : Heap.IsTuple (Shared.heap ⟨hp, gg, dp, tk, os⟩) tt its := ⟨_, get, rfl, n, rfl⟩
    wp_walk using wpAny_loadPart' get
    refine wpAny_stack_any fun st => wpAny_pure ?_
    split
    · rename_i c _ _ _ _ _
      cases (c == Value.type "enumerate") <;>
      · wp_walk using wpAny_loadPart' get, wpAny_pyIter_tuple isT
        exact ⟨_, rfl, goal⟩
    · wp_walk using wpAny_loadPart' get, wpAny_pyIter_tuple isT
      exact ⟨_, rfl, goal⟩
theorem call_enumT {prog : Program} {w : World} {A : Around} {E : Value → Shared → Prop} {t : Shared} {tt : Addr} {its : Array Value} {Q : Value → Shared → Prop} (isT : t.heap.IsTuple tt its)
    (go : ∀ g, IsEnum g (t.heap.objs.size + 1) t.heap.objs.size 0 .none → g.IsTupleIter t.heap.objs.size tt 0 → (∀ b o, t.heap.get? b = some o → g.get? b = some o) → Q (.ref (t.heap.objs.size + 1)) { t with heap := g }) :
    wpAny (model prog w) A (call (.type "enumerate") [.ref tt]) Q E t := by
  obtain ⟨ot, get, co, n, dd⟩ := isT
  refine callType_new F.called_enumerate (by decide) (F.typeCall_enumerate_1 _) (F.newCall_enumerate_1 _) (fun obj => F.args_object_init_2 obj _) F.entry_enumerate_new (meets_enumT tt its ot co n dd) ⟨get, ?_⟩
  let oi : Obj := { cls := .type "tuple_iterator", data := .fields #[.ref tt, .int 0 0] }
  have sz : (t.heap.push oi).objs.size = t.heap.objs.size + 1 := Heap.size_push ..
  have eq2 : (t.heap.push { cls := .type "tuple_iterator", data := .fields #[.ref tt, .int 0 0] }).objs.size = t.heap.objs.size + 1 := sz
  show _ ∧ _
  rw [eq2]
  have top : IsEnum ((t.heap.push oi).push { cls := .type "enumerate", data := .fields #[.none, .bool false, .ref t.heap.objs.size, rawInt 0, .none, .none] }) (t.heap.objs.size + 1) t.heap.objs.size 0 .none := by
    have z := Heap.get?_push_size (t.heap.push oi) (o := { cls := .type "enumerate", data := .fields #[.none, .bool false, .ref t.heap.objs.size, rawInt 0, .none, .none] }) rfl
    rw [sz] at z
    exact z
  refine ⟨⟨_, top, rfl⟩, go _ top ⟨oi, Heap.get?_push_of_some _ (Heap.get?_push_size _ rfl), rfl, rfl⟩ fun b o e => Heap.get?_push_of_some _ (Heap.get?_push_of_some _ e)⟩
/-- the tuple at a, each item in a new pair -/
def Itu (K : PySem.W.Frag) (a : Addr) : It where
  go := fun i H => ∃ (xs : List V) (x : V), SqT K H a xs ∧ xs[i]? = some x
  yld := fun i H v H' => ∃ T x, v = .ref T ∧ H T = none ∧ H' = upd H T (.tup [.int (i : Nat), x]) ∧ ∀ xs, SqT K H a xs → xs[i]? = some x
  stop := fun i H => ∃ xs : List V, SqT K H a xs ∧ xs.length ≤ i
theorem turn_enumT {P : Program} {w : World} {K : PySem.W.Frag} {elts : List Expr} {kk : Nat} {tpos : Pos} (a e it : Addr) (ae : a ≠ e) (ai : a ≠ it) :
    Turn P w K (.Tuple elts kk tpos) (Itu K a) [e, it] e (fun i h => (∃ old, IsEnum h e it ((i : Nat) : Int) old) ∧ h.IsTupleIter it a i ∧ e ≠ it) where
  mem := List.mem_cons_self ..
  obj := by
    intro i h st b hb
    obtain ⟨⟨old, he⟩, ⟨o, ho, hc, hd⟩, _⟩ := st
    rcases List.mem_cons.mp hb with rfl | hb
    · exact ⟨_, he, fun v q => nomatch q⟩
    · obtain rfl := List.mem_singleton.mp hb
      exact ⟨o, ho, fun v q => by rw [hd] at q; cases q⟩
  keep := by
    intro i h h' st k
    obtain ⟨⟨old, he⟩, hi, hne⟩ := st
    exact ⟨⟨old, k e (by simp) _ he⟩, hi.at fun o q => k it (by simp) o q, hne⟩
  item := by
    intro X hP hw hK hc i pins s σ H E I hf st hg
    subst hP hw hK
    obtain ⟨⟨old, he⟩, hit, hne⟩ := st
    obtain ⟨xs, x, hq, hx⟩ := hg
    obtain ⟨its, rv, p, hz⟩ := I.tuple hq
    obtain ⟨u, hu, ru⟩ := rv.get hx
    have elt : e < s.heap.objs.size := Heap.lt_size he
    have ilt : it < s.heap.objs.size := by
      obtain ⟨_, q, _⟩ := hit
      exact Heap.lt_size q
    have DD := Draws.tuple (prog := X.prog) (w := X.w) (A := X.A.in1) (I.ok.hd hc) it a ai its.toArray
    have hlen : i < its.toArray.size := by
      have : its[i]? = some u := hu
      have := (List.getElem?_eq_some_iff.mp this).1
      simpa using this
    have ef : e ∉ ([it, a] : List Addr) := by simp [hne, ae.symm]
    refine wpAny_pyNext_enum_itemD DD he ⟨hit, (show s.heap.IsTuple a its.toArray from p)⟩ hlen hne ef fun y h' tk hy ho hs' hT hsz hk => ?_
    obtain ⟨hit', _⟩ := hs'
    obtain rfl : y = u := by
      have q : its.toArray[i]? = some y := hy
      rw [List.getElem?_toArray, hu] at q
      exact (Option.some.inj q).symm
    refine ⟨_, rfl, wpAny_letOwnedTupleGo_enum (s := { s with heap := h', toks := tk + 1 }) ho fun h'' he' sb => ?_⟩
    have hT2 : h''.get? s.heap.objs.size = some { cls := .type "tuple", data := .seq #[.int i tk, y] } := (sb.2 _ (Nat.ne_of_gt elt)).trans hT
    have new : ObjOk X.prog X.w (upd H s.heap.objs.size (.tup [.int (i : Nat), x])) h'' s.heap.objs.size (.tup [.int (i : Nat), x]) :=
      ⟨by show 2 ≤ sizeLine; decide, [.int i tk, y], .cons ⟨_, rfl⟩ (.cons ru .nil), ⟨_, hT2, rfl, _, rfl⟩⟩
    have I1 : Inv X pins σ (upd H s.heap.objs.size (.tup [.int (i : Nat), x])) { s with heap := h'', toks := tk + 1 } :=
      I.turnedNew (ch := [e, it]) (fun b ob hb q => (sb.2 b (fun z => hb (by simp [z]))).trans (hk b ob (fun z => hb (by simp [z])) (fun z => hb (by simp [z])) q)) hf (Nat.le_refl _) new
    refine ⟨.ref s.heap.objs.size, _, I1, rfl, ⟨_, x, rfl, I.hok.fresh (Nat.le_refl _), rfl, fun ys hy => by rw [I.tuple_inj hy hq]; exact hx⟩, ⟨⟨y, ?_⟩, hit'.at fun o q => (sb.2 it (Ne.symm hne)).trans q, hne⟩, fun b hb => ?_⟩
    · rw [show ((i + 1 : Nat) : Int) = (i : Int) + 1 by omega]
      exact he'
    · have blt : b < s.heap.objs.size := by
        rcases List.mem_cons.mp hb with rfl | hb
        · exact elt
        · obtain rfl := List.mem_singleton.mp hb
          exact ilt
      rw [upd_ne (Nat.ne_of_lt blt)]
      exact (hf b hb).1
  done := by
    intro X hP hw hK hc i pins s σ H E I hf st hg
    subst hP hw hK
    obtain ⟨⟨old, he⟩, hit, hne⟩ := st
    obtain ⟨xs, hq, hx⟩ := hg
    obtain ⟨its, rv, p, hz⟩ := I.tuple hq
    obtain ⟨f0, f1, f2, f3, f4, f5⟩ := hf it (by simp)
    have hl := rv.length
    have T : s.heap.IsTuple a its.toArray := p
    have hn : wpAny (model X.prog X.w) X.A (pyNext (.ref e)) (fun r s1 => r = none ∧ Inv X pins σ H s1) E s := by
      have hT : s.TypeIs (.ref e) "enumerate" := ⟨_, he, rfl⟩
      unfold pyNext
      refine wpAny_bind (wpAny_attempt (wpAny_callSpecial?_slot (name := Str.ofString "__next__") hT F.slot_enumerate_next (wpAny_call_entry F.slot_enumerate_next hT F.entry_enumerate_next ?_ (F.args_enumerate_next_1 _))))
      show wpAny _ _ (field (.ref e) 2 >>= _) _ _ _
      refine wpAny_bind (wpAny_field he rfl (x := .ref it) rfl ?_)
      refine wpAny_bind (wpAny_nextOf_tuple_end (A := X.A.in1) (I.ok.hd hc) hit T (by simp; omega) fun h' x he' hx' => ?_)
      obtain ⟨o, ho, hcl⟩ := hx'
      refine wpAny_bind (wpAny_isInstance (T := "StopIteration") (b := true) ⟨o, ho, hcl⟩ isSubtype_stop ?_)
      exact wpAny_pure ⟨rfl, I.turned (t' := s.toks) (fun b o hb q => he' b o hb q) f0 f1 f3 f4 f5⟩
    exact hn
  self := fun A i s Q E st h => by
    obtain ⟨⟨_, he⟩, _⟩ := st
    exact wpAny_pyIter_enum he h
def iEnumT (K : PySem.W.Frag) (ta : TA) : TI := fun σ H R => ta σ H fun vs H1 => ∃ a xs, vs = [.ref a] ∧ SqT K H1 a xs ∧ R (Itu K a) H1
theorem pi_enumT {X : Cx} {e : Expr} {ta : TA} {p pos tpos : Pos} {elts : List Expr} {kk : Nat} (hg : Gl X "enumerate") (hm : X.mg "enumerate" = none) (ha : PA X [e] ta) (hs : starEach [e] X.env = [(false, eval e X.env)] := by rfl) :
    PI X (.Tuple elts kk tpos) (.Call (.Name "enumerate" p) [e] [] pos) (iEnumT X.K ta) := by
  constructor
  intro pins s σ H R I h
  refine Call_ (ld_blt I hg hm boot_enumerate (PyProof.Rows.callWith_type1 (thn (ha.run pos pins s σ H _ I h) fun us s1 got => ?_) hs rfl))
  obtain ⟨vs, H1, I1, r1, a, xs, rfl, hq, q⟩ := got
  cases r1 with
  | cons r rr =>
    cases rr
    cases r
    obtain ⟨its, rv, p', hz⟩ := I1.tuple hq
    have alt : a < s1.heap.objs.size := by
      obtain ⟨o, g, _⟩ := id p'
      exact Heap.lt_size g
    refine call_enumT (show s1.heap.IsTuple a its.toArray from p') fun h' he hit hk => wpAny_pyIter_enum he ?_
    refine ⟨s1.heap.objs.size + 1, [s1.heap.objs.size + 1, s1.heap.objs.size], _, _, H1, rfl, I1.kept (t' := s1.toks) hk, turn_enumT a (s1.heap.objs.size + 1) s1.heap.objs.size (Nat.ne_of_lt (Nat.lt_succ_of_lt alt)) (Nat.ne_of_lt alt), ⟨⟨.none, he⟩, hit, Nat.succ_ne_self _⟩, fun b hb => ?_, q⟩
    have hle : s1.heap.objs.size ≤ b := by
      rcases List.mem_cons.mp hb with rfl | hb
      · exact Nat.le_add_right _ _
      · obtain rfl := List.mem_singleton.mp hb
        exact Nat.le_refl _
    exact I1.fpOk hle (I1.hok.fresh hle)
theorem walk_enumT {K : PySem.W.Frag} {a : Addr} {xs : List V} : Walk (Itu K a) xs.length (fun H => SqT K H a xs) (YPair (fun i => some (.int (i : Nat))) (fun i => xs[i]?)) := by
  refine ⟨fun i _ hi q => ⟨xs, xs[i], q, by simp [hi]⟩, fun _ q => ⟨xs, q, Nat.le_refl _⟩, fun i H v H' _ q y => ?_⟩
  obtain ⟨T, x, h1, h2, h3, h4⟩ := y
  exact ⟨T, .int (i : Nat), x, h1, h2, h3, rfl, h4 xs q⟩

/-! ### t[::-1], t a tuple -/
section
variable {prog : Program} {w : World} {A : Around} {E : Value → Shared → Prop} {s : Shared}
theorem fm_map {α β : Type} {f : α → Option β} {g : α → β} : ∀ {l : List α}, (∀ m ∈ l, f m = some (g m)) → l.filterMap f = l.map g
  | [], _ => rfl
  | a :: l, h => by
    rw [List.filterMap_cons, h a (List.mem_cons_self ..), List.map_cons, fm_map fun m hm => h m (List.mem_cons_of_mem _ hm)]
theorem back_pick (its : Array Value) : ((List.range its.size).filterMap fun (m : Nat) => its[((((its.size : Nat) : Int) - 1) + (m : Int) * (-1)).toNat]?) = its.toList.reverse := by
  obtain ⟨l⟩ := its
  simp only [List.size_toArray, List.getElem?_toArray]
  apply List.ext_getElem?
  intro i
  have e : (List.range l.length).filterMap (fun (m : Nat) => l[((((l.length : Nat) : Int) - 1) + (m : Int) * (-1)).toNat]?) = (List.range l.length).map fun m => l.getD (l.length - 1 - m) .none := by
    apply fm_map
    intro m hm
    have hm' : m < l.length := List.mem_range.mp hm
    have e1 : ((((l.length : Nat) : Int) - 1) + (m : Int) * (-1)).toNat = l.length - 1 - m := by omega
    rw [e1]
    have hlt : l.length - 1 - m < l.length := by omega
    rw [List.getElem?_eq_getElem hlt]
    simp [List.getD_eq_getElem?_getD, List.getElem?_eq_getElem hlt]
  show ((List.range l.length).filterMap _)[i]? = (l.reverse)[i]?
  rw [e]
  by_cases hi : i < l.length
  · rw [List.getElem?_map, List.getElem?_range hi, List.getElem?_reverse hi]
    have hlt : l.length - 1 - i < l.length := by omega
    simp [List.getD_eq_getElem?_getD, List.getElem?_eq_getElem hlt]
  · rw [List.getElem?_eq_none (by simp; omega), List.getElem?_eq_none (by simp; omega)]
theorem back_places (n : Nat) : Builtin.Slice.slicePlaces ((n : Int) - 1) (-1) (-1) = n := by
  unfold Builtin.Slice.slicePlaces
  rw [if_neg (by decide)]
  by_cases h : (n : Int) - 1 > -1
  · rw [if_pos h]
    simp only [Int.neg_neg, Int.ediv_one]
    omega
  · rw [if_neg h]
    omega
theorem back_adjust (n : Int) : Builtin.Slice.sliceAdjust none none (-1) n = (n - 1, -1) := by
  unfold Builtin.Slice.sliceAdjust
  simp
theorem back_item {tt sl : Addr} {its : Array Value} {vl vu vs : Value} {Q : Value → Shared → Prop} (ht : IsTup s.heap tt its) (hs : s.heap.IsSliceOf sl vl vu vs) (pl : IsPart vl none) (pu : IsPart vu none) (ps : IsPart vs (some (-1)))
    (h : Q (.ref s.heap.objs.size) { s with heap := s.heap.push { cls := .type "tuple", data := .seq its.toList.reverse.toArray } }) (hz : its.size ≤ sizeLine) : wpAny (model prog w) A (getItem (.ref tt) (.ref sl)) Q E s := by
  have room : (its.toList.reverse.toArray).size ≤ sizeLine := by
    rw [List.size_toArray, List.length_reverse, Array.length_toList]
    exact hz
  obtain ⟨os, hos, hcs, hds⟩ := id hs
  have sliceT : s.TypeIs (.ref sl) "slice" := ⟨os, hos, hcs⟩
  unfold getItem
  try with_reducible refine wpAny_holding ?_
  first | refine wpAny_bind (wpAny_pure ?_) | skip
  refine wpAny_bind (wpAny_sequenceKey ht.typeIs (by decide) ?_)
  refine wpAny_bind (wpAny_callSpecial?_slot (name := Str.ofString "__getitem__") ht.typeIs PyProof.Rows.slot_tuple_getitem (wpAny_call_entry PyProof.Rows.slot_tuple_getitem ht.typeIs entry_tuple_getitem ?_ (args_tuple_getitem _ _)))
  show wpAny _ _ (Builtin.Tuple.tupleItemsOf (.ref tt) >>= _) _ _ s
  refine wpAny_bind (tupleItemsOf_ ht ?_)
  refine wpAny_bind (wpAny_typeOf sliceT ?_)
  rw [if_pos (by decide)]
  refine wpAny_bind (m := Builtin.Slice.sliceApplied (.ref sl) (pure (its.size : Int))) ?_
  unfold Builtin.Slice.sliceApplied Builtin.Slice.sliceFields
  refine wpAny_bind (wpAny_bind (wpAny_field hos hds (x := vl) rfl (wpAny_bind (wpAny_field hos hds (x := vu) rfl (wpAny_bind (wpAny_field hos hds (x := vs) rfl (wpAny_pure ?_)))))))
  refine wpAny_bind (HT.slicePart_ ps ?_)
  show wpAny _ _ (if ((-1 : Int) == 0) = true then _ else _) _ _ s
  rw [if_neg (by decide)]
  refine wpAny_bind (HT.slicePart_ pl (wpAny_bind (HT.slicePart_ pu (wpAny_bind (wpAny_pure ?_)))))
  show wpAny _ _ (match Builtin.Slice.sliceAdjust none none (-1) (its.size : Int) with | (lo, hi) => pure (lo, (-1 : Int), Builtin.Slice.slicePlaces lo hi (-1))) _ _ s
  rw [back_adjust]
  show wpAny _ _ (pure ((its.size : Int) - 1, (-1 : Int), Builtin.Slice.slicePlaces ((its.size : Int) - 1) (-1) (-1))) _ _ s
  rw [back_places]
  refine wpAny_pure ?_
  show wpAny _ _ (if (((its.size : Int) - 1 == 0 && (-1 : Int) == 1) && its.size == its.size) = true then _ else _) _ _ s
  rw [if_neg (by simp)]
  rw [back_pick]
  first
    | exact wpAny_bind (m := Builtin.Tuple.tupleExact _) (wpAny_newObj_type (wpAny_pure ⟨_, rfl, wpAny_pure h⟩) room)
    | exact wpAny_bind (m := Builtin.Tuple.tupleExact _) (wpAny_newObj_type (wpAny_bind (wpAny_pure (wpAny_pure ⟨_, rfl, wpAny_pure h⟩))) room)
    | exact wpAny_bind (wpAny_bind (m := Builtin.Tuple.tupleExact _) (wpAny_newObj_type (wpAny_pure (wpAny_pure ⟨_, rfl, wpAny_pure h⟩)) room))
    | exact wpAny_bind (wpAny_bind (m := Builtin.Tuple.tupleExact _) (wpAny_newObj_type (wpAny_pure ⟨_, rfl, wpAny_pure h⟩) room))
end
def tRevT (K : PySem.W.Frag) (te : TE) : TE := fun σ H Q => te σ H fun x H1 => ∃ a xs, x = .ref a ∧ SqT K H1 a xs ∧ ∀ p, H1 p = none → Q (.ref p) (upd H1 p (.tup xs.reverse))
theorem pe_revT {X : Cx} {e : Expr} {te : TE} {k : Nat} {p1 p2 p3 pos : Pos} (he : PE X e te) : PE X (.Subscript e (.Slice none none (some (.UnaryOp .USub (.Constant (.int 1) k p1) p2)) p3) pos) (tRevT X.K te) := by
  constructor
  intro pins s σ H Q I h
  refine Subscript_ (thn (he.run pins s σ H _ I h) fun v s1 got => ?_)
  obtain ⟨x, H1, I1, r1, a, xs, rfl, hx, q⟩ := got
  cases r1
  have part : PO X (some (.UnaryOp .USub (.Constant (.int 1) k p1) p2)) (tPart (tUn (rU fun i => .int (-i)) (tC (.int 1)))) := po_some (pe_un un_neg pe_int)
  refine wpAny_Slice (thn (po_none.run pins s1 σ H1 (fun o H2 => o = none ∧ H2 = H1) I1 ⟨rfl, rfl⟩) fun vl s2 g2 => ?_)
  obtain ⟨l, H2, I2, pl, rfl, rfl⟩ := g2
  refine thn (po_none.run pins s2 σ H2 (fun o H3 => o = none ∧ H3 = H2) I2 ⟨rfl, rfl⟩) fun vu s3 g3 => ?_
  obtain ⟨u, H3, I3, pu, rfl, rfl⟩ := g3
  refine thn (part.run pins s3 σ H3 (fun o H4 => o = some (-1) ∧ H4 = H3) I3 ⟨1, rfl, -1, rfl, rfl, rfl⟩) fun vs s4 g4 => ?_
  obtain ⟨o, H4, I4, ps, rfl, rfl⟩ := g4
  have I5 : Inv X pins σ H4 { s4 with heap := s4.heap.push { cls := .type "slice", data := .fields #[vl, vu, vs] } } := I4.kept (t' := s4.toks) fun b ob q => Heap.get?_push_of_some _ q
  obtain ⟨its, r, ht, hz⟩ := I5.tuple hx
  have hl := r.length
  show wpAny (model X.prog X.w) X.A (subscriptTail e (.Slice none none (some (.UnaryOp .USub (.Constant (.int 1) k p1) p2)) p3) (.ref a) (.ref s4.heap.objs.size)) (EP X pins σ Q) X.xe { s4 with heap := s4.heap.push { cls := .type "slice", data := .fields #[vl, vu, vs] } }
  refine tail_any (ops := [.ref a, .ref s4.heap.objs.size]) ht.typeIs (PyProof.Rows.slot_tuple_getitem.lookup) ?_ (by with_unfolding_all rfl)
  refine back_item ht (Heap.IsSliceOf.new _ vl vu vs) pl pu ps ?_ (by rw [List.size_toArray]; omega)
  refine ⟨.ref _, _, I5.laid (t' := s4.toks) (o := .tup xs.reverse) (fun b ob q => Heap.get?_push_of_some _ q) (Nat.le_refl _) ?_, rfl, q _ (I5.hok.fresh (Nat.le_refl _))⟩
  exact ⟨by rw [List.length_reverse]; exact hz, its.reverse, r.reverse, IsTup.new _ _⟩
/-! ### sorted of a tuple of ints -/
section
variable {prog : Program} {w : World} {A : Around} {E : Value → Shared → Prop} {s : Shared}
theorem collectT {l : Addr} {vs : List Value} {Q : List Value → Shared → Prop} (hl : s.heap.IsTuple l vs.toArray) (h : Q vs { s with heap := (s.heap.push (seqObj "list" #[] 0)).update s.heap.objs.size (Obj.mapSeq (· ++ vs.toArray)) })
    (hsz : vs.length ≤ sizeLine) : wpAny (model prog w) A (collect (.ref l)) Q E s := by
  obtain ⟨o, ho, hc, n, hd⟩ := id hl
  unfold collect
  refine wpAny_bind (wpAny_runValue (codeAny_builtin entry_proto_collect' ?_))
  show wpAny _ _ (do again (.builtin "list.__iadd__" ⟨[← newList [], .ref l], []⟩)) _ _ s
  refine wpAny_bind (wpAny_newList (wpAny_pure ⟨Code.quiet_builtin _ (by decide +kernel), codeAny_builtin entry_list_iadd' ?_⟩))
  show wpAny _ _ (Builtin.List.listExtendWith (.ref s.heap.objs.size) (.ref l) (.ref s.heap.objs.size)) _ _ { s with heap := s.heap.push (seqObj "list" #[] 0) }
  unfold Builtin.List.listExtendWith
  have there : (s.heap.push (seqObj "list" #[] 0)).get? l = some o := Heap.get?_push_of_some _ ho
  refine wpAny_bind (wpAny_typeOf (T := "tuple") ⟨o, there, hc⟩ ?_)
  have same : (Value.type "tuple" == Value.type "tuple") = true := by rfl
  rw [if_pos (by rw [same]; simp)]
  refine wpAny_bind (listItems_at there hd ?_)
  refine wpAny_bind (listItems_at (xs := #[]) (n := 0) (Heap.get?_push_size _ rfl) rfl ?_)
  rw [if_neg (by simp)]
  refine wpAny_bind (listUpdate_at (xs := #[]) (n := 0) (Heap.get?_push_size _ rfl) rfl ?_ (Nat.zero_le _) (by show (#[] ++ vs.toArray).size ≤ sizeLine + 1; simp only [Array.size_append, List.size_toArray, List.length_nil]; omega))
  refine wpAny_pure ?_
  show wpAny (model prog w) A (do
      let o ← load s.heap.objs.size
      match o.data with
      | .seq xs _ => pure xs.toList
      | _ => unsupported "internal:collect") Q E { s with heap := (s.heap.push (seqObj "list" #[] 0)).update s.heap.objs.size (Obj.mapSeq (· ++ vs.toArray)) }
  refine wpAny_bind (wpAny_load (get?_update_seq (Heap.get?_push_size _ rfl) _) ?_)
  show wpAny _ _ (pure ((#[] : Array Value) ++ vs.toArray).toList) Q E _
  rw [show ((#[] : Array Value) ++ vs.toArray).toList = vs by simp]
  exact wpAny_pure h
theorem sortedT {l : Addr} {vs : List Value} {ns : List Int} {Q : Value → Shared → Prop} (hl : s.heap.IsTuple l vs.toArray) (hI : IntsAre vs ns) (few : vs.length < 64)
    (h : ∀ (out : Array Value) (ns' : List Int), IntsAre out.toList ns' → ns'.Perm ns → ns'.Pairwise (· ≤ ·) → Q (.ref (s.heap.objs.size + 1)) { s with heap := sortedAll s.heap vs out }) :
    wpAny (model prog w) A (call (.builtin "sorted") [.ref l]) Q E s := by
  refine Calls.call_function_entry kind_sorted plain_sorted entry_sorted (args_sorted1 _) ?_
  unfold Builtin.«sorted»
  refine wpAny_bind (m := checkCount "sorted" 1 1 _) (wpAny_pure ?_)
  refine wpAny_bind (collectT hl ?_ (by rw [sizeLine_eq]; omega))
  refine wpAny_bind (wpAny_newList ?_)
  have sz : ((s.heap.push (seqObj "list" #[] 0)).update s.heap.objs.size (Obj.mapSeq (· ++ vs.toArray))).objs.size = s.heap.objs.size + 1 := by
    rw [Heap.size_update, size_push']
  have at1 : (((s.heap.push (seqObj "list" #[] 0)).update s.heap.objs.size (Obj.mapSeq (· ++ vs.toArray))).push (seqObj "list" vs.toArray 0)).get? (s.heap.objs.size + 1) = some (seqObj "list" vs.toArray 0) := by
    rw [← sz]
    exact Heap.get?_push_size _ rfl
  show wpAny _ _ _ _ _ { s with heap := ((s.heap.push (seqObj "list" #[] 0)).update s.heap.objs.size (Obj.mapSeq (· ++ vs.toArray))).push (seqObj "list" vs.toArray 0) }
  rw [sz]
  refine wpAny_bind (wpAny_holding (wpAny_call_entry slot_list_sort ⟨_, at1, rfl⟩ entry_list_sort (list_sort_tree at1 hI few fun out ns' a1 a2 a3 => ⟨_, rfl, ?_⟩) (args_list_sort _)))
  exact wpAny_pure ⟨_, rfl, h out ns' a1 a2 a3⟩
end
theorem ints_rel : ∀ {ns : List Int} {us : List Value}, Vals (ns.map V.int) us → IntsAre us ns
  | [], _, r => by cases r; exact .nil
  | n :: ns, _, r => by
    cases r with
    | cons r1 r2 =>
      obtain ⟨t, rfl⟩ := r1
      exact .cons n t (ints_rel r2)
theorem rel_ints : ∀ {us : List Value} {ns : List Int}, IntsAre us ns → Vals (ns.map V.int) us
  | _, _, .nil => .nil
  | _, _, .cons n t r => .cons ⟨t, rfl⟩ (rel_ints r)
/-- sorted(xs), ints of a list or a tuple, fewer than 64 -/
def rSortedQ (K : PySem.W.Frag) : List V → Hp → VK → Prop := fun vs H Q => ∃ (a : Addr) (ns : List Int), vs = [V.ref a] ∧ (SqL K H a (ns.map V.int) ∨ SqT K H a (ns.map V.int)) ∧ ns.length < 64 ∧
  ∀ (ns' : List Int) (p : Addr), ns'.Perm ns → ns'.Pairwise (· ≤ ·) → H p = none → Q (.ref p) (upd H p (.lst (ns'.map V.int)))
theorem cr_sortedQ {X : Cx} : CallR X (.builtin "sorted") (rSortedQ X.K) := by
  intro pins s σ H vs us Q I r h
  obtain ⟨a, ns, rfl, hq, few, q⟩ := h
  rcases hq with hq | hq
  · exact cr_sortedI pins s σ H [.ref a] us Q I r ⟨a, ns, rfl, hq, q⟩
  · rw [Vals.ref1 r]
    obtain ⟨its, rv, p, hz⟩ := I.tuple hq
    have hlen := rv.length
    rw [List.length_map] at hlen
    refine sortedT (show s.heap.IsTuple a its.toArray from p) (ints_rel rv) (by omega) fun out ns' h1 h2 h3 => ?_
    obtain ⟨ep, he⟩ := sortedAll_at s.heap its out
    have hl2 : (ns'.map V.int).length ≤ sizeLine := by
      rw [List.length_map, h2.length_eq, sizeLine_eq]
      omega
    exact ⟨.ref _, upd H (s.heap.objs.size + 1) (.lst (ns'.map V.int)), I.laid (t' := s.toks) (fun _ _ => sortedAll_old) (Nat.le_succ _) ⟨hl2, out.toList, ep, rel_ints h1, by simpa using he⟩, rfl, q ns' _ h2 h3 (I.hok.fresh (Nat.le_succ _))⟩
/-! ### a, b = a list or a tuple -/
def gSeq (K : PySem.W.Frag) (n : Nat) (t : TGs) : TG := fun v σ H Q => ∃ a xs, v = .ref a ∧ (SqL K H a xs ∨ SqT K H a xs) ∧ xs.length = n ∧ t xs σ H Q
theorem pg_seq {X : Cx} {es : List Expr} {k n : Nat} {t : TGs} {pos : Pos} (hc : X.calm = true) (h : PGs X es t) (hn : (assignEach es X.env).length = n := by rfl) (hst : (assignEach es X.env).findIdx? (·.1) = none := by rfl) : PG X (.Tuple es k pos) (gSeq X.K n t) := by
  constructor
  intro pins s σ H v u Q I r hw
  obtain ⟨a, xs, rfl, hq, hl, hw⟩ := hw
  rcases hq with hq | hq
  · exact (pg_lst (k := k) (pos := pos) hc h hn hst).run pins s σ H _ u Q I r ⟨a, xs, rfl, hq, hl, hw⟩
  · exact (pg_tup (k := k) (pos := pos) hc h hn hst).run pins s σ H _ u Q I r ⟨a, xs, rfl, hq, hl, hw⟩

/-! ### set(xs) of a list of ints -/
/-- a new set's object -/
abbrev blank (w : World) : Obj := { cls := .type "set", dict := none, data := .set #[] 0 (.fresh 0 0 (!w.params.followText "set-order")) }
section
variable {P : Program} {w : World} {A : Around} {E : Value → Shared → Prop} {s : Shared}
theorem set_lst {l : Addr} {its : Array Value} (ns : List Int) {Q : Value → Shared → Prop} (calm : A.handled = none) (isL : s.heap.IsList l its) (are : IntsAre its.toList ns) (few : ns.length + 1 < scanBound)
    (go : ∀ (g : Heap) (tk c : Nat), SetR w g s.heap.objs.size (fun j => decide (j ∈ ns)) c → c ≤ ns.length → (∀ b o, s.heap.get? b = some o → g.get? b = some o) → Q (.ref s.heap.objs.size) { s with heap := g, toks := tk }) :
    wpAny (model P w) A (call (.type "set") [.ref l]) Q E s := by
  have size : its.size = ns.length := by
    have z := IntsAre.length are
    rwa [Array.length_toList] at z
  have ⟨c, tl, hmro⟩ := F.called_set.mro
  have hmade := F.called_set.made; have hsub := F.called_set.sub
  refine wpAny_call (codeAny_of_tree (?_ : wpAny _ _ (callAny (.type "set") _) _ _ _))
  refine wpAny_pure ⟨Code.quiet_builtin _ (by decide +kernel), codeAny_builtin F.entry_type_call (?_ : _)⟩
  rw [Around.under_plain (weight_type_call_type "set" [.ref l] []) (by rfl)]
  have h1 := F.called_set.notType; have h2 := F.called_set.canCreate; have hct := F.typeCall_set_1 (.ref l)
  repeat (any_goals (first | assumption | (wp_step)))
  refine codeAny_mono (code_set_led1 (.ref l) (E := E) (Q₁ := fun obj t => obj = .ref s.heap.objs.size ∧ t = { s with heap := s.heap.push (blank w) }) ⟨rfl, rfl⟩) fun r t made => ?_
  cases r with
  | error e => exact made
  | ok fl =>
    cases fl with
    | ret obj =>
      obtain ⟨rfl, rfl⟩ := made
      have atS : (s.heap.push (blank w)).get? s.heap.objs.size = some (blank w) := Heap.get?_push_size _ rfl
      have hT : Shared.TypeIs { s with heap := s.heap.push (blank w) } (.ref s.heap.objs.size) "set" := ⟨_, atS, rfl⟩
      have hli := F.called_set.init.lookup; have hbi := F.called_set.init.bind (.ref s.heap.objs.size)
      repeat (any_goals (first | assumption | (wp_step)))
      refine codeAny_mono (codeAny_call_builtin (R := wants (fun r t2 => r = .none ∧ ∃ g tk c, t2 = { s with heap := g, toks := tk } ∧ SetR w g s.heap.objs.size (fun j => decide (j ∈ ns)) c ∧ c ≤ ns.length ∧ (∀ b o, s.heap.get? b = some o → g.get? b = some o)) E)
        F.called_set.init.plain F.entry_set_init (check_set_init_1 hT ?_)) fun r2 t2 done2 => ?_
      · obtain ⟨⟨ocls, odict, odata, oslots⟩, hol, hcl, nl, hdl⟩ := isL
        simp only at hcl hdl
        subst hcl hdl
        have hol' : (s.heap.push (blank w)).get? l = some { cls := .type "list", dict := odict, data := .seq its nl, slots := oslots } := Heap.get?_push_of_some _ hol
        have hsls := F.sub_list_set; have hslf := F.sub_list_frozenset
        have hne : (Value.type "list" == Value.type "dict") = false := (by decide)
        have isL1 : (s.heap.push (blank w)).IsList l its := ⟨_, hol', rfl, nl, rfl⟩
        unfold Builtin.«set.__init__» noKeywords Builtin.Frozenset.updateFrom
        generalize hPI : pyIter = PI
        wp_walk
        subst hPI
        refine wpAny_pyIter_list isL1 ?_
        refine wpAny_bind (wpAny_runValue (?_ : _))
        have lS : l < s.heap.objs.size := Heap.lt_size hol
        have calm3 : A.in1.in1.in1.handled = none := by simp [calm]
        have z1 : (s.heap.push (blank w)).objs.size = s.heap.objs.size + 1 := Heap.size_push ..
        have apart : l ≠ (s.heap.push (blank w)).objs.size := by
          rw [z1]
          exact Nat.ne_of_lt (Nat.lt_succ_of_lt lS)
        have out : s.heap.objs.size ∉ [(s.heap.push (blank w)).objs.size, l] := by
          rw [z1]
          simp only [List.mem_cons, List.not_mem_nil, or_false, not_or]
          exact ⟨Nat.ne_of_lt (Nat.lt_succ_self _), (Nat.ne_of_gt lS)⟩
        have each : ∀ (i : Nat) (v : Value), its[i]? = some v → ∃ k t, ns[i]? = some k ∧ v = .int k t := by
          intro i v hv
          have hi : i < ns.length := size ▸ (Array.getElem?_eq_some_iff.mp hv).1
          obtain ⟨t, e⟩ := IntsAre.int_at are i v (by rw [Array.getElem?_toList]; exact hv)
          refine ⟨ns[i], t, List.getElem?_eq_getElem hi, e.trans ?_⟩
          rw [List.getD_eq_getElem?_getD, List.getElem?_eq_getElem hi]
          rfl
        refine set_update_ints ((Walks.list calm3 _ l apart its).toS) s.heap.objs.size out ns size few each (its.size - 0) 0 _ (by omega) (Nat.zero_le _) ⟨⟨_, Heap.get?_push_size _ rfl, rfl, rfl⟩, isL1.push _⟩ ?first ?last
        case first =>
          exact ⟨0, Nat.le_refl 0, setR_new_at (Heap.get?_push_of_some _ atS)⟩
        case last =>
          intro t3 c3 moved le3 R3
          obtain ⟨g3, gens3, drawn3, tk3, os3⟩ := t3
          obtain rfl : gens3 = s.gens := moved.gens
          obtain rfl : drawn3 = s.drawn := moved.drawn
          obtain rfl : os3 = s.os := moved.os
          refine wpAny_pure ?_
          show wpAny _ _ (ret Value.none) _ _ _
          rw [size] at le3
          refine wpAny_pure ⟨rfl, g3, tk3, c3, rfl, R3, le3, fun b o e => ?_⟩
          have b0 : b < s.heap.objs.size := Heap.lt_size e
          refine moved.heap b o ?_ (Heap.get?_push_of_some _ (Heap.get?_push_of_some _ e))
          simp only [List.mem_cons, List.not_mem_nil, or_false, not_or]
          refine ⟨Nat.ne_of_lt b0, ?_⟩
          rw [z1]
          exact Nat.ne_of_lt (Nat.lt_succ_of_lt b0)
      · cases r2 with
        | error e => exact done2
        | ok fl2 =>
          cases fl2 with
          | ret r =>
            obtain ⟨rfl, g, tk, c, rfl, R4, le4, kept⟩ := done2
            repeat (any_goals (first | assumption | (wp_step)))
            exact go g _ c R4 le4 kept
          | _ => exact done2.elim
    | _ => exact made.elim
end
/-- set(xs), ints of a list or a tuple -/
def rSetQ (K : PySem.W.Frag) (w : World) : List V → Hp → VK → Prop := fun xs H Q => ∃ (a : Addr) (ns : List Int), xs = [V.ref a] ∧ (SqL K H a (ns.map V.int) ∨ SqT K H a (ns.map V.int)) ∧ ns.length ≤ 1000 ∧
  ∀ (p : Addr) (c : Nat), c ≤ ns.length → H p = none → Q (.ref p) (upd H p (SetO w p (fun j => decide (j ∈ ns)) c))
theorem cr_setQ {X : Cx} (hc : X.calm = true) : CallR X (.type "set") (rSetQ X.K X.w) := by
  intro pins s σ H xs us Q I r h
  obtain ⟨a, ns, rfl, hq, few, q⟩ := h
  have room : ns.length + 1 < scanBound := by
    unfold scanBound
    omega
  rw [Vals.ref1 r]
  rcases hq with hq | hq
  · obtain ⟨its, rv, p, hz⟩ := I.list hq
    refine set_lst ns (I.ok.hd hc) p.isList (by simpa using ints_rel rv) room fun g tk c R le kept => ?_
    exact ⟨.ref _, _, I.laid (t' := tk) kept (Nat.le_refl _) (setO_new R), rfl, q _ c le (I.hok.fresh (Nat.le_refl _))⟩
  · obtain ⟨its, rv, p, hz⟩ := I.tuple hq
    refine call_set_tupI ns (I.ok.hd hc) (show s.heap.IsTuple a its.toArray from p) (by simpa using ints_rel rv) room fun g tk c R le kept => ?_
    exact ⟨.ref _, _, I.laid (t' := tk) kept (Nat.le_refl _) (setO_new R), rfl, q _ c le (I.hok.fresh (Nat.le_refl _))⟩

/-! ### rows of drafts: the mathematics -/
/-- a word of a draft: a number, or a sum as it is told -/
inductive WordM where
  | num (k : Int)
  | sum (n : Int) (l : List (List Key × Int))
inductive Row where
  | words (ws : List WordM)
  | label (s : Str)
  | even (n : Int)
  | branch (c n : Str) (m : Int)
/-- how many words a row has that begins at c -/
def rsize (r : Row) (c : Int) (far : Bool) : Int := match r with
  | .words ws => (ws.length : Int)
  | .label _ => 0
  | .even n => (-c) % n
  | .branch _ _ _ => if far = true then 2 else 1
def off (f : Int → Bool) (rs : List Row) : Nat → Int
  | 0 => 0
  | i + 1 => off f rs i + (match rs[i]? with
    | some r => rsize r (off f rs i) (f (i : Nat))
    | none => 0)
def isBr (rs : List Row) (i : Nat) : Bool := match rs[i]? with
  | some (.branch _ _ _) => true
  | _ => false
/-- the label that stands at i -/
def labOf (rs : List Row) (i : Nat) : Option Str := match rs[i]? with
  | some (.label s) => some s
  | _ => none
/-- the label to which the branch at i leads -/
def toOf (rs : List Row) (i : Nat) : Option Str := match rs[i]? with
  | some (.branch _ n _) => some n
  | _ => none
/-- the dict from labels to the numbers of their rows, of the first i rows -/
def spD (rs : List Row) : Nat → List (Key × V)
  | 0 => []
  | i + 1 => match labOf rs i with
    | some s => putK (spD rs i) (Sum.inr s) (.int (i : Nat))
    | none => spD rs i
theorem spD_len (rs : List Row) : ∀ i, (spD rs i).length ≤ i
  | 0 => Nat.le_refl _
  | i + 1 => by
    unfold spD
    have h := spD_len rs i
    split
    · have := length_putK (spD rs i) (Sum.inr (by assumption) : Key) (.int (i : Nat))
      omega
    · omega
/-- where a label stands -/
def spV (rs : List Row) (n : Str) : Option V := valV (spD rs rs.length) (Sum.inr n)
theorem spD_val (rs : List Row) (n : Str) (v : V) : ∀ i, valV (spD rs i) (Sum.inr n) = some v → ∃ j, j < i ∧ v = .int (j : Nat) ∧ labOf rs j = some n
  | 0, h => by cases h
  | i + 1, h => by
    unfold spD at h
    cases e : labOf rs i with
    | none =>
      rw [e] at h
      obtain ⟨j, h1, h2⟩ := spD_val rs n v i h
      exact ⟨j, by omega, h2⟩
    | some s =>
      rw [e] at h
      dsimp only at h
      rw [valV_put] at h
      split at h
      · rename_i e2
        cases h
        have : n = s := Sum.inr.inj e2
        exact ⟨i, by omega, rfl, by rw [e, this]⟩
      · obtain ⟨j, h1, h2⟩ := spD_val rs n v i h
        exact ⟨j, by omega, h2⟩
def spot (rs : List Row) (n : Str) : Option Nat := match spV rs n with
  | some (.int k) => some k.toNat
  | _ => none
theorem spV_some {rs : List Row} {n : Str} {v : V} (h : spV rs n = some v) : ∃ j, spot rs n = some j ∧ v = .int (j : Nat) ∧ j < rs.length ∧ labOf rs j = some n := by
  obtain ⟨j, h1, rfl, h3⟩ := spD_val rs n v _ h
  refine ⟨j, ?_, rfl, h1, h3⟩
  unfold spot
  rw [h]
  simp
theorem spV_none {rs : List Row} {n : Str} (h : spV rs n = none) : spot rs n = none := by
  unfold spot
  rw [h]
theorem spot_spV (rs : List Row) (n : Str) : spV rs n = (spot rs n).map fun j => .int (j : Nat) := by
  cases e : spV rs n with
  | none => rw [spV_none e]; rfl
  | some v =>
    obtain ⟨j, h1, h2, _⟩ := spV_some e
    rw [h1, h2]
    rfl
theorem spot_lt {rs : List Row} {n : Str} {j : Nat} (h : spot rs n = some j) : j < rs.length := by
  have e := spot_spV rs n
  rw [h] at e
  obtain ⟨j', h1, h2, h3, _⟩ := spV_some e
  rw [h] at h1
  cases h1
  exact h3
/-- where the branch at k leads, if in the draft -/
def aim (rs : List Row) (k : Nat) : Option Nat := (toOf rs k).bind (spot rs)
theorem aim_lt {rs : List Row} {k j : Nat} (h : aim rs k = some j) : j < rs.length ∧ k < rs.length := by
  unfold aim at h
  cases e : toOf rs k with
  | none => rw [e] at h; cases h
  | some n =>
    rw [e] at h
    refine ⟨spot_lt h, ?_⟩
    unfold toOf at e
    cases e2 : rs[k]? with
    | none => rw [e2] at e; cases e
    | some r => exact (List.getElem?_eq_some_iff.mp e2).1
def brsTo (rs : List Row) (i : Nat) : List Nat := (List.range i).filter (isBr rs)
def brs (rs : List Row) : List Nat := brsTo rs rs.length
def innTo (rs : List Row) (i : Nat) : List Nat := (List.range i).filter fun k => (aim rs k).isSome
def inn (rs : List Row) : List Nat := innTo rs rs.length
def outs (rs : List Row) : List Nat := (brs rs).filter fun k => (aim rs k).isNone
def way (f : Int → Bool) (rs : List Row) (k : Nat) : Int := off f rs ((aim rs k).getD 0) - off f rs k
def tooL (w : Int) : Bool := decide (w < -256) || decide (w > 255)
def isLong (f : Int → Bool) (rs : List Row) (k : Nat) : Bool := !f (k : Nat) && tooL (way f rs k)
/-- the near branches that are too long if f are far -/
def long (f : Int → Bool) (rs : List Row) : List Nat := (inn rs).filter (isLong f rs)
def nats (ks : List Nat) : List V := ks.map fun (k : Nat) => V.int (k : Int)
theorem nats_int (ks : List Nat) : nats ks = (ks.map fun (k : Nat) => (k : Int)).map V.int := by
  unfold nats
  rw [List.map_map]
  rfl
theorem nats_len (ks : List Nat) : (nats ks).length = ks.length := List.length_map ..
theorem nats_app (ks js : List Nat) : nats (ks ++ js) = nats ks ++ nats js := List.map_append ..
/-- membership of a list of nats -/
def mem (ns : List Int) : Int → Bool := fun k => decide (k ∈ ns)
theorem isBr_to {rs : List Row} {k : Nat} : isBr rs k = (toOf rs k).isSome := by
  unfold isBr toOf
  cases rs[k]? with
  | none => rfl
  | some r => cases r <;> rfl
theorem brs_inn (rs : List Row) : (brs rs).filter (fun k => (aim rs k).isSome) = inn rs := by
  unfold brs brsTo inn innTo
  rw [List.filter_filter]
  congr 1
  funext k
  rw [isBr_to]
  unfold aim
  cases toOf rs k with
  | none => rfl
  | some n => simp
theorem long_cong {f g : Int → Bool} {rs : List Row} (h : ∀ k, f k = g k) : long f rs = long g rs := by
  have : f = g := funext h
  rw [this]
/-! ### inV over nats -/
theorem inV_ints (k : Int) (ns : List Int) : inV (.int k) (ns.map V.int) = decide (k ∈ ns) := by
  unfold inV
  induction ns with
  | nil => simp
  | cons n ns ih =>
    rw [List.map_cons, List.any_cons, ih]
    have e : eqV (.int n) (.int k) = decide (n = k) := by
      by_cases h : n = k
      · subst h; simp [eqV]
      · simp [eqV, h]
    rw [e]
    by_cases h1 : n = k
    · subst h1; simp
    · have h2 : ¬ k = n := fun z => h1 z.symm
      simp [h1, h2, List.mem_cons]
theorem flat_ints (ns : List Int) : (ns.map V.int).all flatV = true := by
  rw [List.all_eq_true]
  intro x hx
  obtain ⟨n, _, rfl⟩ := List.mem_map.mp hx
  rfl
/-! ### rows in the heap -/
def RowV (K : PySem.W.Frag) (H : Hp) (v : V) : Row → Prop
  | .words ws => ∃ a b, v = .ref a ∧ SqT K H a [.str "words", .ref b] ∧ ∃ xs, (SqL K H b xs ∨ SqT K H b xs) ∧ xs.length = ws.length
  | .label s => ∃ a, v = .ref a ∧ SqT K H a [.str "label", .str s]
  | .even n => ∃ a, v = .ref a ∧ SqT K H a [.str "even", .int n]
  | .branch c n m => ∃ a, v = .ref a ∧ SqT K H a [.str "branch", .str c, .str n, .int m]
theorem rowV_same {K : PySem.W.Frag} {H H' : Hp} {v : V} {r : Row} (e : Same H H') (h : RowV K H v r) : RowV K H' v r := by
  cases r with
  | words n =>
    obtain ⟨a, b, h1, h2, xs, h3, h4⟩ := h
    exact ⟨a, b, h1, sqT_same e h2, xs, h3.imp (sqL_same e) (sqT_same e), h4⟩
  | label s =>
    obtain ⟨a, h1, h2⟩ := h
    exact ⟨a, h1, sqT_same e h2⟩
  | even n =>
    obtain ⟨a, h1, h2⟩ := h
    exact ⟨a, h1, sqT_same e h2⟩
  | branch c n m =>
    obtain ⟨a, h1, h2⟩ := h
    exact ⟨a, h1, sqT_same e h2⟩
inductive RowsV (K : PySem.W.Frag) (H : Hp) : List V → List Row → Prop
  | nil : RowsV K H [] []
  | cons {v : V} {vs : List V} {r : Row} {rs : List Row} : RowV K H v r → RowsV K H vs rs → RowsV K H (v :: vs) (r :: rs)
theorem rowsV_same {K : PySem.W.Frag} {H H' : Hp} (e : Same H H') : ∀ {xs : List V} {rs : List Row}, RowsV K H xs rs → RowsV K H' xs rs
  | _, _, .nil => .nil
  | _, _, .cons h t => .cons (rowV_same e h) (rowsV_same e t)
theorem rowsV_get {K : PySem.W.Frag} {H : Hp} : ∀ {xs : List V} {rs : List Row}, RowsV K H xs rs → ∀ {i : Nat} {v : V}, xs[i]? = some v → ∃ r, rs[i]? = some r ∧ RowV K H v r
  | _, _, .nil, i, v, h => by simp at h
  | _, _, .cons g t, 0, v, e => by
    obtain rfl : _ = v := Option.some.inj e
    exact ⟨_, rfl, g⟩
  | _, _, .cons g t, i + 1, v, e => rowsV_get t (i := i) e
theorem rowsV_len {K : PySem.W.Frag} {H : Hp} : ∀ {xs : List V} {rs : List Row}, RowsV K H xs rs → xs.length = rs.length
  | _, _, .nil => rfl
  | _, _, .cons _ t => congrArg (· + 1) (rowsV_len t)
/-- the kind of a row -/
def kindOf : Row → Str
  | .words _ => "words"
  | .label _ => "label"
  | .even _ => "even"
  | .branch _ _ _ => "branch"
/-- what a row's tuple holds -/
theorem rowV_tup {K : PySem.W.Frag} {H : Hp} {v : V} {r : Row} (h : RowV K H v r) : ∃ a xs, v = .ref a ∧ SqT K H a xs ∧ xs[0]? = some (.str (kindOf r)) := by
  cases r with
  | words n =>
    obtain ⟨a, b, h1, h2, _⟩ := h
    exact ⟨a, _, h1, h2, rfl⟩
  | label s =>
    obtain ⟨a, h1, h2⟩ := h
    exact ⟨a, _, h1, h2, rfl⟩
  | even n =>
    obtain ⟨a, h1, h2⟩ := h
    exact ⟨a, _, h1, h2, rfl⟩
  | branch c n m =>
    obtain ⟨a, h1, h2⟩ := h
    exact ⟨a, _, h1, h2, rfl⟩
theorem at_of {xs : List V} {i : Nat} {v : V} (h : xs[i]? = some v) : atI xs (i : Int) = some v := by
  have hi : i < xs.length := (List.getElem?_eq_some_iff.mp h).1
  unfold atI ixN
  rw [if_pos (by omega), if_pos (by omega)]
  show xs[((i : Int)).toNat]? = _
  rw [Int.toNat_natCast]
  exact h
theorem at_last {xs : List V} {v : V} : atI (xs ++ [v]) (-1) = some v := by
  unfold atI ixN
  rw [if_neg (by omega), if_pos (by simp; omega)]
  show (xs ++ [v])[_]? = _
  have e : (-1 + ((xs ++ [v]).length : Int)).toNat = xs.length := by
    rw [List.length_append, List.length_singleton]
    omega
  rw [e]
  simp

theorem strEq (a b : Str) : decide (V.str a = V.str b) = decide (a = b) := by
  by_cases c : a = b
  · rw [c]; simp
  · rw [decide_eq_false c]
    exact decide_eq_false fun z => c (V.str.inj z)
theorem intEq (a b : Int) : decide (V.int a = V.int b) = decide (a = b) := by
  by_cases c : a = b
  · rw [c]; simp
  · rw [decide_eq_false c]
    exact decide_eq_false fun z => c (V.int.inj z)
/-- a text compared with one that it is, that it is not -/
theorem kEq {k s : Str} {A B : Prop} (c : decide (k = s) = true) (h : A) : if decide (V.str k = V.str s) = true then A else B := by
  rw [strEq, c]
  exact iteT h
theorem kNe {k s : Str} {A B : Prop} (c : decide (k = s) = false) (h : B) : if decide (V.str k = V.str s) = true then A else B := by
  rw [strEq, c]
  exact iteF h
theorem kEqb {k s : Str} {Q : Bool → Prop} (c : decide (k = s) = true) (h : Q true) : Q (decide (V.str k = V.str s)) := by
  rw [strEq, c]
  exact h
theorem kNeb {k s : Str} {Q : Bool → Prop} (c : decide (k = s) = false) (h : Q false) : Q (decide (V.str k = V.str s)) := by
  rw [strEq, c]
  exact h
def RowOk : Row → Prop
  | .even n => 0 < n
  | _ => True
def spLengthOf (K : PySem.W.Frag) : Sp := fun vs H Q _ => ∃ v r c b, vs = [v, .int c, .bl b] ∧ RowV K H v r ∧ RowOk r ∧ Q (.int (rsize r c b)) H
abbrev sLengthOf : Stmt := topS 27
theorem scLengthOf : FnScope ["row", "begin", "is_far"] ["row", "begin", "is_far"] (defScope sLengthOf) := ⟨rfl, rfl, rfl, by decide +kernel, rfl, by decide +kernel, by decide +kernel⟩
section
variable {P : Program} {w : World} {K : PySem.W.Frag} {mg : Str → Option Value} {base : Heap}
theorem ok_lengthOf {f : Addr} {fd : FuncData} (F : Fun K "length_of" "length_of" sLengthOf f fd) (T : Bi mg) : FnOk P w K mg base CX0 1 f fd ["row", "begin", "is_far"] (spLengthOf K) := by
  refine F.ok scLengthOf (fun vs H Q E h => ?_) (fun cdv A outer s H vs Q E hr h => ?_)
  · obtain ⟨v, r, c, b, rfl, _⟩ := h
    rfl
  · obtain ⟨v, r, c, b, rfl, hv, hk, q⟩ := h
    refine ⟨_, (pss_cons (ps_if (pt_cmpR op_eq (pe_ix ix_tup (pv 0) pe_int (fun _ _ => rfl)) pe_str (nomark _)) (pss_one (ps_ret (pe_callB call_len_seq (by rfl) T.len (by decide +kernel) (pa_cons (pe_ix ix_tup (pv 0) pe_int (fun _ _ => rfl)) pa_nil)))) pss_nil)
      (pss_cons (ps_if (pt_cmpR op_eq (pe_ix ix_tup (pv 0) pe_int (fun _ _ => rfl)) pe_str (nomark _)) (pss_one (ps_ret (pe_op op_mod (pe_un un_neg (pv 1)) (pe_ix ix_tup (pv 0) pe_int (fun _ _ => rfl))))) pss_nil)
      (pss_cons (ps_if (pt_cmpR op_eq (pe_ix ix_tup (pv 0) pe_int (fun _ _ => rfl)) pe_str (nomark _)) (pss_one (ps_ret (pe_ifExp (pt_val (pv 2)) pe_int pe_int))) pss_nil)
      (pss_one (ps_ret pe_int))))), ?_⟩
    cases r with
    | words n =>
      obtain ⟨a, d, rfl, h2, xs, h3, h4⟩ := hv
      refine ⟨_, rfl, a, _, _, _, rfl, rfl, h2, at_of (i := 0) rfl, rfl, _, rfl, kEq (by decide +kernel) ?_⟩
      refine ⟨_, rfl, a, _, _, _, rfl, rfl, h2, at_of (i := 1) rfl, d, xs, rfl, h3, ?_⟩
      rw [h4]
      exact q
    | label z =>
      obtain ⟨a, rfl, h2⟩ := hv
      refine ⟨_, rfl, a, _, _, _, rfl, rfl, h2, at_of (i := 0) rfl, rfl, _, rfl, kNe (by decide +kernel) ?_⟩
      refine ⟨_, rfl, a, _, _, _, rfl, rfl, h2, at_of (i := 0) rfl, rfl, _, rfl, kNe (by decide +kernel) ?_⟩
      refine ⟨_, rfl, a, _, _, _, rfl, rfl, h2, at_of (i := 0) rfl, rfl, _, rfl, kNe (by decide +kernel) ?_⟩
      exact q
    | even n =>
      obtain ⟨a, rfl, h2⟩ := hv
      refine ⟨_, rfl, a, _, _, _, rfl, rfl, h2, at_of (i := 0) rfl, rfl, _, rfl, kNe (by decide +kernel) ?_⟩
      refine ⟨_, rfl, a, _, _, _, rfl, rfl, h2, at_of (i := 0) rfl, rfl, _, rfl, kEq (by decide +kernel) ?_⟩
      exact ⟨_, rfl, _, rfl, _, rfl, a, _, _, _, rfl, rfl, h2, at_of (i := 1) rfl, _, _, rfl, rfl, hk, q⟩
    | branch z n m =>
      obtain ⟨a, rfl, h2⟩ := hv
      refine ⟨_, rfl, a, _, _, _, rfl, rfl, h2, at_of (i := 0) rfl, rfl, _, rfl, kNe (by decide +kernel) ?_⟩
      refine ⟨_, rfl, a, _, _, _, rfl, rfl, h2, at_of (i := 0) rfl, rfl, _, rfl, kNe (by decide +kernel) ?_⟩
      refine ⟨_, rfl, a, _, _, _, rfl, rfl, h2, at_of (i := 0) rfl, rfl, _, rfl, kEq (by decide +kernel) ?_⟩
      refine ⟨_, rfl, _, rfl, ?_⟩
      cases b with
      | true => exact iteT q
      | false => exact iteF q
end

theorem small1000 {n : Nat} (h : n ≤ 1000) : n < sizeLine := Nat.lt_of_le_of_lt h (by decide)
theorem same_upd {H H' : Hp} {p : Addr} {o : HO} (e : Same H H') (hp : H p = none) : Same H (upd H' p o) := fun b u hb => by
  rw [upd_ne (ne_of_none hb hp)]
  exact e _ _ hb
/-- the offsets of the first rows -/
def offTo (f : Int → Bool) (rs : List Row) (i : Nat) : List V := (List.range (i + 1)).map fun j => V.int (off f rs j)
theorem offTo_succ (f : Int → Bool) (rs : List Row) (i : Nat) : offTo f rs (i + 1) = offTo f rs i ++ [V.int (off f rs (i + 1))] := by
  unfold offTo
  rw [List.range_succ, List.map_append]
  rfl
theorem offTo_len (f : Int → Bool) (rs : List Row) (i : Nat) : (offTo f rs i).length = i + 1 := by
  unfold offTo
  rw [List.length_map, List.length_range]
theorem offTo_last (f : Int → Bool) (rs : List Row) (i : Nat) : atI (offTo f rs i) (-1) = some (.int (off f rs i)) := by
  unfold offTo
  rw [List.range_succ, List.map_append]
  exact at_last
theorem offTo_at {f : Int → Bool} {rs : List Row} {i j : Nat} (h : j ≤ i) : atI (offTo f rs i) (j : Nat) = some (.int (off f rs j)) := by
  refine at_of ?_
  unfold offTo
  rw [List.getElem?_map, List.getElem?_range (by omega)]
  rfl
theorem off_succ {f : Int → Bool} {rs : List Row} {i : Nat} {r : Row} (h : rs[i]? = some r) : off f rs (i + 1) = off f rs i + rsize r (off f rs i) (f (i : Nat)) := by
  show off f rs i + _ = _
  rw [h]
def spMeasured (K : PySem.W.Frag) : Sp := fun vs H Q _ => ∃ (t l : Addr) (xs : List V) (rs : List Row) (ns : List Int), vs = [.ref t, .ref l] ∧ SqT K H t xs ∧ RowsV K H xs rs ∧ (∀ r ∈ rs, RowOk r) ∧ rs.length ≤ 900 ∧ (SqL K H l (ns.map V.int) ∨ SqT K H l (ns.map V.int)) ∧
  ∀ H' p, Same H H' → H p = none → H' p = some (.lst (offTo (mem ns) rs rs.length)) → Q (.ref p) H'
abbrev sMeasured : Stmt := topS 28
theorem scMeasured : FnScope ["rows", "far", "found", "index", "row"] ["rows", "far"] (defScope sMeasured) := ⟨rfl, rfl, rfl, by decide +kernel, rfl, by decide +kernel, by decide +kernel⟩
section
variable {P : Program} {w : World} {K : PySem.W.Frag} {mg : Str → Option Value} {base : Heap}
theorem ok_measured {f : Addr} {fd : FuncData} (F : Fun K "measured" "measured" sMeasured f fd) (T : Bi mg) (G : Has P w K mg base CX0 1 "length_of" ["row", "begin", "is_far"] (spLengthOf K)) : FnOk P w K mg base CX0 2 f fd ["rows", "far"] (spMeasured K) := by
  refine F.ok scMeasured (fun vs H Q E h => ?_) (fun cdv A outer s H vs Q E hr h => ?_)
  · obtain ⟨t, l, xs, rs, ns, rfl, _⟩ := h
    rfl
  · obtain ⟨t, l, xs, rs, ns, rfl, ht, hrs, hok, hlen, hl, q⟩ := h
    refine ⟨_, (pss_cons (ps_set (i := 2) scMeasured.nd rfl (.inl rfl) (pe_lst (pa_cons pe_int pa_nil)))
      (pss_cons (ps_for PassesOwn.never rfl (pi_enumT (by rfl) T.enumerate (pa_cons (pv 0) pa_nil)) (pg_tup rfl (pgs_cons (pg_name (i := 3) scMeasured.nd rfl (.inl rfl)) (pgs_cons (pg_name (i := 4) scMeasured.nd rfl (.inl rfl)) pgs_nil))) (pss_one (ps_expr (pe_bm PySem.F.plainAttrs_list PySem.F.slot_list_append PySem.F.type_list_append mt_append (pv 2) (pa_cons (pe_op op_add (pe_ix ix_list (pv 2) (pe_un un_neg pe_int) (fun _ _ => rfl)) (pe_callH G hr (by rfl) pass0 (pa_cons (pv 4) (pa_cons (pe_ix ix_list (pv 2) (pe_un un_neg pe_int) (fun _ _ => rfl)) (pa_cons (pe_cmpR op_in_seq (pv 3) (pv 1) (by rfl)) pa_nil))))) pa_nil)))))
      (pss_one (ps_ret (pv 2))))), ?_⟩
    refine ⟨(by show 1 ≤ sizeLine; decide), fun L hL => ?_⟩
    refine ⟨_, rfl, t, xs, rfl, sqT_same (same_new hL) ht, ?_⟩
    have lx := rowsV_len hrs
    refine for_it walk_enumT (fun i σ H4 => ∃ (p u : Option V), σ = [some (.ref t), some (.ref l), some (.ref L), p, u] ∧ Same H H4 ∧ H4 L = some (.lst (offTo (mem ns) rs i))) ⟨none, none, rfl, same_new hL, upd_same⟩ (fun i σ H4 _ ⟨_, _, _, sm, _⟩ => sqT_same sm ht) ?_ ?_
    · rintro i x σ H4 H4' hi ⟨p, u, rfl, sm, hL4⟩ ⟨TT, x', y, rfl, hT, rfl, hx', hy⟩
      cases hx'
      have sm5 : Same H4 (upd H4 TT (.tup [.int (i : Nat), y])) := same_new hT
      obtain ⟨r, hri, hrv⟩ := rowsV_get hrs hy
      have hrv5 := rowV_same (sm.trans sm5) hrv
      have hL5 := sm5 _ _ hL4
      have hm : r ∈ rs := List.mem_of_getElem? hri
      have hi' : i < rs.length := by omega
      refine ⟨TT, _, rfl, SqT.of upd_same, rfl, _, _, rfl, _, _, rfl, rfl, ?_⟩
      refine ⟨_, rfl, .inl ⟨rfl, _, SqL.of hL5⟩, ?_⟩
      refine ⟨_, rfl, _, rfl, L, _, _, _, rfl, rfl, SqL.of hL5, offTo_last _ _ _, ?_⟩
      refine ⟨_, rfl, _, rfl, _, rfl, L, _, _, _, rfl, rfl, SqL.of hL5, offTo_last _ _ _, _, rfl, _, rfl, l, _, rfl, hl.imp (sqL_same (sm.trans sm5)) (sqT_same (sm.trans sm5)), rfl, flat_ints ns, ?_⟩
      rw [inV_ints]
      refine ⟨y, r, _, _, rfl, hrv5, hok r hm, _, _, rfl, rfl, ?_⟩
      refine ⟨L, _, _, rfl, rfl, hL5, ?_, _, _, rfl, ?_, ?_⟩
      · rw [offTo_len]
        exact small1000 (by omega)
      · exact same_upd (sm.trans sm5) hL
      · rw [upd_same, offTo_succ, off_succ hri]
        rfl
    · rintro σ H4 ⟨p, u, rfl, sm, hL4⟩
      rw [lx] at hL4
      exact ⟨_, rfl, q H4 L sm hL hL4⟩
end

/-- a dict comprehension over any walk -/
theorem dc_it {J : It} {n : Nat} {G : Hp → Prop} {Y : Nat → Hp → V → Hp → Prop} (w : Walk J n G Y) {g : TG} {tt : TT} {tk tv : TE} {vs : List Nat} {σ : L2.St} {H1 : Hp} {D : Addr} {Qd : Hp → Prop} (Pv : Nat → Hp → Prop) (h0 : Pv 0 (upd H1 D (.dK []))) (hG : ∀ i H, i ≤ n → Pv i H → G H)
    (hs : ∀ i x H H', i < n → Pv i H → Y i H x H' → g x (wipe σ vs) H' fun σ2 H2 => wipe σ2 vs = wipe σ vs ∧ tt σ2 H2 fun b H3 =>
      if b = true then tk σ2 H3 fun y H4 => tv σ2 H4 fun z H5 => ∃ kvs k, y = kV k ∧ H5 D = some (.dK kvs) ∧ kvs.length < sizeLine ∧ Pv (i + 1) (upd H5 D (.dK (putK kvs k z))) else Pv (i + 1) H3) (hd : ∀ H, Pv n H → Qd H) :
    ∃ W : Nat → Nat → Hp → Prop, (∃ m, W 0 m (upd H1 D (.dK []))) ∧ ∀ i m H, W i m H →
      (J.stop i H ∧ Qd H) ∨ (J.go i H ∧ ∃ Nx : Hp → Prop, (∀ H', Nx H' → ∃ m', m' < m ∧ W (i + 1) m' H') ∧ ∀ x H', J.yld i H x H' → g x (wipe σ vs) H' fun σ2 H2 => wipe σ2 vs = wipe σ vs ∧ tt σ2 H2 fun b H3 =>
        if b = true then tk σ2 H3 fun y H4 => tv σ2 H4 fun z H5 => ∃ kvs k, y = kV k ∧ H5 D = some (.dK kvs) ∧ kvs.length < sizeLine ∧ Nx (upd H5 D (.dK (putK kvs k z))) else Nx H3) := by
  refine ⟨fun i m H => m = n - i ∧ i ≤ n ∧ Pv i H, ⟨n, rfl, Nat.zero_le _, h0⟩, fun i m H hW => ?_⟩
  obtain ⟨rfl, hi, p⟩ := hW
  have q := hG i H hi p
  rcases Nat.lt_or_eq_of_le hi with lt | rfl
  · exact .inr ⟨w.goes i H lt q, Pv (i + 1), fun H' p' => ⟨n - (i + 1), by omega, rfl, lt, p'⟩, fun x H' y => hs i x H H' lt p (w.yields i H x H' lt q y)⟩
  · exact .inl ⟨w.stops H q, hd H p⟩
def labR : Row → Option Str
  | .label s => some s
  | _ => none
theorem labOf_at {rs : List Row} {i : Nat} {r : Row} (h : rs[i]? = some r) : labOf rs i = labR r := by
  unfold labOf labR
  rw [h]
  cases r <;> rfl
/-- terms that are given by hand within comprehensions -/
abbrev ixT (K : PySem.W.Frag) (i : Nat) (n : Int) : TE := tOp (rIxT K) (tVar i) (tC (.int n))
abbrev row0Is (K : PySem.W.Frag) (i : Nat) (s : Str) : TT := tTest (tOp rEq (ixT K i 0) (tC (.str s)))
def spLabelsIn (K : PySem.W.Frag) : Sp := fun vs H Q _ => ∃ (t : Addr) (xs : List V) (rs : List Row), vs = [.ref t] ∧ SqT K H t xs ∧ RowsV K H xs rs ∧ rs.length ≤ 900 ∧ ∀ H' p, Same H H' → H p = none → H' p = some (.dK (spD rs rs.length)) → Q (.ref p) H'
abbrev sLabelsIn : Stmt := topS 29
theorem scLabelsIn : FnScope ["rows", "index", "row"] ["rows"] (defScope sLabelsIn) := ⟨rfl, rfl, rfl, by decide +kernel, rfl, by decide +kernel, by decide +kernel⟩
section
variable {P : Program} {w : World} {K : PySem.W.Frag} {mg : Str → Option Value} {base : Heap}
theorem ok_labelsIn {f : Addr} {fd : FuncData} (F : Fun K "labels_in" "labels_in" sLabelsIn f fd) (T : Bi mg) : FnOk P w K mg base CX0 1 f fd ["rows"] (spLabelsIn K) := by
  refine F.ok scLabelsIn (fun vs H Q E h => ?_) (fun cdv A outer s H vs Q E hr h => ?_)
  · obtain ⟨t, xs, rs, rfl, _⟩ := h
    rfl
  · obtain ⟨t, xs, rs, rfl, ht, hrs, hlen, q⟩ := h
    refine ⟨_, pss_one (ps_ret (pe_dc (own := [("index", 1), ("row", 2)]) (g := gTup K 2 (gCons (gName 1) (gCons (gName 2) gNil))) (tt := row0Is K 2 "label") (tk := ixT K 2 1) (tv := tVar 1) rfl scLabelsIn.nd (pi_enumT (by rfl) T.enumerate (pa_cons (pv 0) pa_nil)) (blkOk_by (N := ["rows", "index", "row"]) (sc := defScope sLabelsIn) (by decide +kernel))
      (fun _ _ _ _ _ => (pg_tup rfl (pgs_cons (pg_name (i := 1) scLabelsIn.nd rfl (.inl rfl) (.inr rfl)) (pgs_cons (pg_name (i := 2) scLabelsIn.nd rfl (.inl rfl) (.inr rfl)) pgs_nil)))) (fun _ _ _ _ _ => pts_one (pt_cmpR op_eq (pe_ix ix_tup (pv 2) pe_int (fun _ _ => rfl)) pe_str (nomark _))) (fun _ _ _ _ _ => pe_ix ix_tup (pv 2) pe_int (fun _ _ => rfl)) (fun _ _ _ _ _ => pv 1))), ?_⟩
    refine ⟨_, rfl, t, xs, rfl, ht, fun D hD => ?_⟩
    have lx := rowsV_len hrs
    refine dc_it walk_enumT (fun i H4 => Same H H4 ∧ H4 D = some (.dK (spD rs i))) ⟨same_new hD, upd_same⟩ (fun i H4 _ ⟨sm, _⟩ => sqT_same sm ht) ?_ ?_
    · rintro i x H4 H4' hi ⟨sm, hD4⟩ ⟨TT, x', y, rfl, hT, rfl, hx', hy⟩
      cases hx'
      have sm5 : Same H4 (upd H4 TT (.tup [.int (i : Nat), y])) := same_new hT
      obtain ⟨r, hri, hrv⟩ := rowsV_get hrs hy
      have hrv5 := rowV_same (sm.trans sm5) hrv
      have hD5 := sm5 _ _ hD4
      have hi' : i < rs.length := by omega
      refine ⟨TT, _, rfl, SqT.of upd_same, rfl, _, _, rfl, _, _, rfl, rfl, rfl, ?_⟩
      have el := labOf_at hri
      have key : ∀ {b : Bool} {A : Prop}, b = false → el = el → (labOf rs i = none) → ((if b = true then A else (Same H (upd H4 TT (.tup [.int (i : Nat), y])) ∧ (upd H4 TT (.tup [.int (i : Nat), y])) D = some (.dK (spD rs (i + 1)))))) := by
        intro b A hb _ hn
        rw [hb]
        refine iteF ⟨sm.trans sm5, ?_⟩
        unfold spD
        rw [hn]
        exact hD5
      cases r with
      | words n =>
        obtain ⟨a, d, rfl, h2, _⟩ := hrv5
        exact ⟨_, rfl, a, _, _, _, rfl, rfl, h2, at_of (i := 0) rfl, rfl, _, rfl, key (by rw [strEq]; decide +kernel) rfl el⟩
      | even n =>
        obtain ⟨a, rfl, h2⟩ := hrv5
        exact ⟨_, rfl, a, _, _, _, rfl, rfl, h2, at_of (i := 0) rfl, rfl, _, rfl, key (by rw [strEq]; decide +kernel) rfl el⟩
      | branch c n m =>
        obtain ⟨a, rfl, h2⟩ := hrv5
        exact ⟨_, rfl, a, _, _, _, rfl, rfl, h2, at_of (i := 0) rfl, rfl, _, rfl, key (by rw [strEq]; decide +kernel) rfl el⟩
      | label z =>
        obtain ⟨a, rfl, h2⟩ := hrv5
        refine ⟨_, rfl, a, _, _, _, rfl, rfl, h2, at_of (i := 0) rfl, rfl, _, rfl, kEq (by decide +kernel) ?_⟩
        refine ⟨_, rfl, a, _, _, _, rfl, rfl, h2, at_of (i := 1) rfl, _, rfl, spD rs i, Sum.inr z, rfl, hD5, ?_, ?_, ?_⟩
        · have := spD_len rs i
          exact small1000 (by omega)
        · exact same_upd (sm.trans sm5) hD
        · rw [upd_same]
          have e2 : spD rs (i + 1) = putK (spD rs i) (Sum.inr z) (.int (i : Nat)) := by
            show (match labOf rs i with | some s => putK (spD rs i) (Sum.inr s) (.int (i : Nat)) | none => spD rs i) = _
            rw [show labOf rs i = some z from el]
          rw [e2]
    · rintro H4 ⟨sm, hD4⟩
      rw [lx] at hD4
      exact q H4 D sm hD hD4
end

abbrev E00 : XK := fun _ _ _ => False
def spIsTooLong : Sp := fun vs H Q _ => ∃ wy : Int, vs = [.int wy] ∧ Q (.bl (tooL wy)) H
def spWayIn (K : PySem.W.Frag) : Sp := fun vs H Q _ => ∃ (d l : Addr) (kvs : List (Key × V)) (os : List V) (k j a b : Int), vs = [.ref d, .ref l, .int k] ∧ Rd H d (.dK kvs) ∧ valV kvs (Sum.inl k) = some (.int j) ∧ SqL K H l os ∧ atI os j = some (.int a) ∧ atI os k = some (.int b) ∧ Q (.int (a - b)) H
def mapD (g : Nat → V) (ks : List Nat) : List (Key × V) := ks.map fun (k : Nat) => (Sum.inl ((k : Nat) : Int), g k)
theorem mapD_len (g : Nat → V) (ks : List Nat) : (mapD g ks).length = ks.length := List.length_map ..
theorem mapD_val (g : Nat → V) (k : Nat) : ∀ ks : List Nat, valV (mapD g ks) (Sum.inl (k : Int)) = if k ∈ ks then some (g k) else none
  | [] => rfl
  | j :: ks => by
    show valV ((Sum.inl (j : Int), g j) :: mapD g ks) _ = _
    by_cases h : j = k
    · subst h
      rw [valV_pos rfl]
      simp
    · rw [valV_neg (by intro z; exact h (by have := Sum.inl.inj z; omega)), mapD_val g k ks]
      have h2 : ¬ k = j := fun z => h z.symm
      simp [List.mem_cons, h2]
def aimD (rs : List Row) : List (Key × V) := mapD (fun k => .int (((aim rs k).getD 0 : Nat) : Int)) (inn rs)
def spTooLong (K : PySem.W.Frag) : Sp := fun vs H Q _ => ∃ (t d l : Addr) (xs : List V) (rs : List Row) (ns : List Int), vs = [.ref t, .ref d, .ref l] ∧ SqT K H t xs ∧ RowsV K H xs rs ∧ (∀ r ∈ rs, RowOk r) ∧ rs.length ≤ 900 ∧ H d = some (.dK (aimD rs)) ∧ (SqL K H l (ns.map V.int) ∨ SqT K H l (ns.map V.int)) ∧
  ∀ H' p, Same H H' → H p = none → H' p = some (.lst (nats (long (mem ns) rs))) → Q (.ref p) H'
abbrev sIsTooLong : Stmt := topS 30
abbrev sWayIn : Stmt := topS 33
abbrev sTooLong : Stmt := topS 34
theorem scIsTooLong : FnScope ["way"] ["way"] (defScope sIsTooLong) := ⟨rfl, rfl, rfl, by decide +kernel, rfl, by decide +kernel, by decide +kernel⟩
theorem scWayIn : FnScope ["aims", "offsets", "index"] ["aims", "offsets", "index"] (defScope sWayIn) := ⟨rfl, rfl, rfl, by decide +kernel, rfl, by decide +kernel, by decide +kernel⟩
theorem scTooLong : FnScope ["parts", "aims", "far", "offsets", "index"] ["parts", "aims", "far"] (defScope sTooLong) := ⟨rfl, rfl, rfl, by decide +kernel, rfl, by decide +kernel, by decide +kernel⟩
theorem mem_lt {rs : List Row} {k : Nat} (h : k ∈ inn rs) : k < rs.length ∧ ∃ j, aim rs k = some j ∧ j < rs.length := by
  unfold inn innTo at h
  obtain ⟨h1, h2⟩ := List.mem_filter.mp h
  obtain ⟨j, e⟩ := Option.isSome_iff_exists.mp h2
  exact ⟨List.mem_range.mp h1, j, e, (aim_lt e).1⟩
theorem inn_len (rs : List Row) : (inn rs).length ≤ rs.length := by
  unfold inn innTo
  refine Nat.le_trans (List.length_filter_le _ _) ?_
  rw [List.length_range]
  exact Nat.le_refl _
/-- a dict that a walk has locked, free again -/
theorem same_unlock {H H1 : Hp} {d D : Addr} {od : Obj} {u : HO} (hd : H d = some u) (hD : H D = none) (kp : ∀ b o, b ≠ D → upd H d (.frz od u) b = some o → H1 b = some o) : Same H (upd H1 d u) := fun b o e => by
  by_cases hb : b = d
  · rw [hb] at e ⊢
    rw [upd_same]
    exact hd.symm.trans e
  · rw [upd_ne hb]
    refine kp b o (ne_of_none e hD) ?_
    rw [upd_ne hb]
    exact e
section
variable {P : Program} {w : World} {K : PySem.W.Frag} {mg : Str → Option Value} {base : Heap}
theorem ok_isTooLong {f : Addr} {fd : FuncData} {t1 t2 : Tok} (F : Fun K "is_too_long" "is_too_long" sIsTooLong f fd) (g1 : mg "LOWEST" = some (.int (-256) t1)) (g2 : mg "HIGHEST" = some (.int 255 t2)) : FnOk P w K mg base CX0 1 f fd ["way"] spIsTooLong := by
  refine F.ok scIsTooLong (fun vs H Q E h => ?_) (fun cdv A outer s H vs Q E hr h => ?_)
  · obtain ⟨wy, rfl, _⟩ := h
    rfl
  · obtain ⟨wy, rfl, q⟩ := h
    refine ⟨_, pss_one (ps_ret (pe_not (pe_chain op_le op_le (pe_glob (v := .int (-256)) rfl g1 ⟨_, rfl⟩) (pv 0) (pe_glob (v := .int 255) rfl g2 ⟨_, rfl⟩)))), ?_⟩
    refine ⟨_, rfl, _, _, rfl, rfl, _, rfl, ?_⟩
    have e : tooL wy = !(decide (-256 ≤ wy) && decide (wy ≤ 255)) := by
      unfold tooL
      by_cases c1 : -256 ≤ wy <;> by_cases c2 : wy ≤ 255 <;> simp [c1, c2] <;> omega
    rw [e] at q
    cases c1 : decide (-256 ≤ wy) with
    | true =>
      rw [c1] at q
      exact iteT ⟨_, _, rfl, rfl, _, rfl, q⟩
    | false =>
      rw [c1] at q
      exact iteF ⟨_, rfl, q⟩
theorem ok_wayIn {f : Addr} {fd : FuncData} (F : Fun K "way_in" "way_in" sWayIn f fd) : FnOk P w K mg base CX0 1 f fd ["aims", "offsets", "index"] (spWayIn K) := by
  refine F.ok scWayIn (fun vs H Q E h => ?_) (fun cdv A outer s H vs Q E hr h => ?_)
  · obtain ⟨d, l, kvs, os, k, j, a, b, rfl, _⟩ := h
    rfl
  · obtain ⟨d, l, kvs, os, k, j, a, b, rfl, hd, hk, hl, ha, hb, q⟩ := h
    have hu := hu_of hr
    refine ⟨_, pss_one (ps_ret (pe_op op_sub (pe_ix ix_list (pv 1) (pe_dget hu (pv 0) (pv 2) (fun _ _ => rfl)) (fun _ _ => rfl)) (pe_ix ix_list (pv 1) (pv 2) (fun _ _ => rfl)))), ?_⟩
    refine ⟨_, rfl, _, rfl, _, rfl, d, _, rfl, .inl ⟨kvs, Sum.inl k, hd, rfl, hk.symm⟩, l, os, _, _, rfl, rfl, hl, ha, ?_⟩
    exact ⟨_, rfl, _, rfl, l, os, _, _, rfl, rfl, hl, hb, _, _, rfl, rfl, q⟩
theorem ok_tooLong {f : Addr} {fd : FuncData} (F : Fun K "too_long_ones" "too_long_ones" sTooLong f fd) (G : Has P w K mg base CX0 2 "measured" ["rows", "far"] (spMeasured K)) (G2 : Has P w K mg base CX0 2 "is_too_long" ["way"] spIsTooLong)
    (G3 : Has P w K mg base CX0 2 "way_in" ["aims", "offsets", "index"] (spWayIn K)) : FnOk P w K mg base CX0 3 f fd ["parts", "aims", "far"] (spTooLong K) := by
  refine F.ok scTooLong (fun vs H Q E h => ?_) (fun cdv A outer s H vs Q E hr h => ?_)
  · obtain ⟨t, d, l, xs, rs, ns, rfl, _⟩ := h
    rfl
  · obtain ⟨t, d, l, xs, rs, ns, rfl, ht, hrs, hok, hlen, hd, hl, q⟩ := h
    refine ⟨_, (pss_cons (ps_set (i := 3) scTooLong.nd rfl (.inr rfl) (pe_callH G hr (by rfl) pass0 (pa_cons (pv 0) (pa_cons (pv 2) pa_nil))))
      (pss_one (ps_ret (pe_lock (pe_lc (own := [("index", 4)]) (g := gName 4) (tt := tAnd (tTest (tOp (rIn K true) (tVar 4) (tVar 2))) (tB (tCall spIsTooLong [] E00 (tCons (tCall (spWayIn K) [] E00 (tCons (tVar 1) (tCons (tVar 3) (tCons (tVar 4) tNil)))) tNil)))) rfl scTooLong.nd (pi_keys (pv 1)) (blkOk_by (N := ["parts", "aims", "far", "offsets", "index"]) (sc := defScope sTooLong) (by decide +kernel)) (fun _ _ _ _ _ => pg_name (i := 4) scTooLong.nd rfl (.inl rfl))
        (fun _ _ _ _ _ => pts_one (PW.pt (pw_and (pt_cmpR op_notIn_seq (pv 4) (pv 2) (by rfl)) (pw_and1 (pt_val (pe_callH G2 hr (by rfl) pass0 (pa_cons (pe_callH G3 hr (by rfl) pass0 (pa_cons (pv 1) (pa_cons (pv 3) (pa_cons (pv 4) pa_nil)))) pa_nil))))))) (fun _ _ _ _ _ => (pv 4))))))), ?_⟩
    refine ⟨_, rfl, _, rfl, t, l, xs, rs, ns, rfl, ht, hrs, hok, hlen, hl, fun H0 O s0 hO0 hO => ?_⟩
    have hd0 := s0 _ _ hd
    refine ⟨d, _, hd0, trivial, fun od => ⟨_, rfl, d, od, rfl, .inl ⟨_, upd_same, fun D hD => ?_⟩⟩⟩
    have hDd : D ≠ d := by
      intro z
      rw [z, upd_same] at hD
      cases hD
    have hDn : H0 D = none := by
      rw [upd_ne hDd] at hD
      exact hD
    have hOd : O ≠ d := ne_of hO hd0 (by intro z; cases z)
    have hOD : O ≠ D := ne_of_none hO hDn
    refine lc_it walk_keys (fun i H1 => (∀ b o, b ≠ D → upd H0 d (.frz od (.dK (aimD rs))) b = some o → H1 b = some o) ∧ H1 D = some (.lst (nats (((inn rs).take i).filter (isLong (mem ns) rs)))))
      ⟨fun b o hb e => by rw [upd_ne hb]; exact e, upd_same⟩ (fun i H1 _ ⟨kp, _⟩ => kp _ _ hDd.symm upd_same) ?_ ?_
    · rintro i x H1 H1' hi ⟨kp, hD1⟩ ⟨rfl, k, v, hk, rfl⟩
      obtain ⟨kk, hkk, hk2⟩ : ∃ kk, (inn rs)[i]? = some kk ∧ (k, v) = (Sum.inl (kk : Int), V.int (((aim rs kk).getD 0 : Nat) : Int)) := by
        unfold aimD mapD at hk
        rw [List.getElem?_map] at hk
        cases e : (inn rs)[i]? with
        | none => rw [e] at hk; cases hk
        | some kk =>
          rw [e] at hk
          exact ⟨kk, rfl, (Option.some.inj hk).symm⟩
      cases hk2
      have hmem := List.mem_of_getElem? hkk
      obtain ⟨hlt, j, ej, hj⟩ := mem_lt hmem
      have hd1 : H1' d = some (.frz od (.dK (aimD rs))) := kp _ _ hDd.symm upd_same
      have hO1 : H1' O = some (.lst (offTo (mem ns) rs rs.length)) := kp _ _ hOD (by rw [upd_ne hOd]; exact hO)
      have keepR : ∀ {u : HO}, (∀ kv, u ≠ .dK kv) → Rd H0 l u → Rd H1' l u := fun {u} nd h => by
        rcases h with h | ⟨o, h⟩
        · refine .inl (kp _ _ (ne_of_none h hDn) ?_)
          rw [upd_ne (ne_of h hd0 (nd _))]
          exact h
        · refine .inr ⟨o, kp _ _ (ne_of_none h hDn) ?_⟩
          rw [upd_ne (ne_of h hd0 (by intro z; cases z))]
          exact h
      have hl1 : SqL K H1' l (ns.map V.int) ∨ SqT K H1' l (ns.map V.int) := by
        rcases hl with hl | hl
        · rcases sqL_same s0 hl with hq | hq
          · exact .inl (.inl (keepR (by intro kv z; cases z) hq))
          · exact .inl (.inr hq)
        · rcases sqT_same s0 hl with hq | hq
          · exact .inr (.inl (keepR (by intro kv z; cases z) hq))
          · exact .inr (.inr hq)
      have tk : (inn rs).take (i + 1) = (inn rs).take i ++ [kk] := by
        rw [List.take_add_one, hkk]
        rfl
      have end1 : isLong (mem ns) rs kk = true → ∃ acc, H1' D = some (.lst acc) ∧ acc.length < sizeLine ∧ ((∀ b o, b ≠ D → upd H0 d (.frz od (.dK (aimD rs))) b = some o → upd H1' D (.lst (acc ++ [V.int (kk : Int)])) b = some o) ∧ upd H1' D (.lst (acc ++ [V.int (kk : Int)])) D = some (.lst (nats (((inn rs).take (i + 1)).filter (isLong (mem ns) rs))))) := by
        intro hlg
        refine ⟨_, hD1, ?_, fun b o hb e => ?_, ?_⟩
        · rw [nats_len]
          have h1 : (((inn rs).take i).filter (isLong (mem ns) rs)).length ≤ ((inn rs).take i).length := List.length_filter_le _ _
          have h2 : ((inn rs).take i).length ≤ (inn rs).length := by rw [List.length_take]; omega
          have h3 := inn_len rs
          exact small1000 (by omega)
        · rw [upd_ne hb]
          exact kp b o hb e
        · rw [upd_same, tk, List.filter_append, nats_app]
          have z : [kk].filter (isLong (mem ns) rs) = [kk] := by simp [List.filter, hlg]
          rw [z]
          rfl
      have end0 : isLong (mem ns) rs kk = false → (∀ b o, b ≠ D → upd H0 d (.frz od (.dK (aimD rs))) b = some o → H1' b = some o) ∧ H1' D = some (.lst (nats (((inn rs).take (i + 1)).filter (isLong (mem ns) rs)))) := by
        intro hlg
        refine ⟨kp, ?_⟩
        rw [tk, List.filter_append]
        have z : [kk].filter (isLong (mem ns) rs) = [] := by simp [List.filter, hlg]
        rw [z, List.append_nil]
        exact hD1
      refine ⟨rfl, _, rfl, _, rfl, l, _, rfl, hl1, rfl, flat_ints ns, _, rfl, ?_⟩
      show if (!inV (.int (kk : Int)) (ns.map V.int)) = true then _ else _
      rw [inV_ints]
      have em : decide ((kk : Int) ∈ ns) = mem ns (kk : Int) := rfl
      rw [em]
      unfold isLong at end1 end0
      cases c : mem ns (kk : Int) with
      | true =>
        rw [c] at end0
        exact iteF (iteF (end0 rfl))
      | false =>
        rw [c] at end0 end1
        refine iteT ⟨_, rfl, _, rfl, _, rfl, d, O, aimD rs, offTo (mem ns) rs rs.length, (kk : Int), (j : Int), off (mem ns) rs j, off (mem ns) rs kk, rfl, .inr ⟨od, hd1⟩, ?_, SqL.of hO1, offTo_at (by omega), offTo_at (by omega), ?_⟩
        · unfold aimD
          rw [mapD_val, if_pos hmem, ej]
          rfl
        · refine ⟨_, rfl, _, rfl, ?_⟩
          have ew : way (mem ns) rs kk = off (mem ns) rs j - off (mem ns) rs kk := by
            unfold way
            rw [ej]
            rfl
          rw [← ew]
          cases c2 : tooL (way (mem ns) rs kk) with
          | true =>
            rw [c2] at end1
            exact iteT ⟨_, rfl, end1 rfl⟩
          | false =>
            rw [c2] at end0
            exact iteF (end0 rfl)
    · rintro H1 ⟨kp, hD1⟩
      have tl : (inn rs).take (aimD rs).length = inn rs := by
        unfold aimD
        rw [mapD_len]
        exact List.take_length
      rw [tl] at hD1
      have hd1 : H1 d = some (.frz od (.dK (aimD rs))) := kp _ _ hDd.symm upd_same
      refine ⟨hd1, q _ D (s0.trans (same_unlock hd0 hDn kp)) ?_ ?_⟩
      · cases e : H D with
        | none => rfl
        | some o => rw [s0 _ _ e] at hDn; cases hDn
      · rw [upd_ne hDd]
        exact hD1
end

/-- what a comprehension wants of a walk -/
def LcW (J : It) (g : TG) (tt : TT) (te : TE) (vs : List Nat) (σ : L2.St) (H1 : Hp) (D : Addr) (Qd : Hp → Prop) : Prop :=
  ∃ W : Nat → Nat → Hp → Prop, (∃ m, W 0 m (upd H1 D (.lst []))) ∧ ∀ i m H, W i m H → (J.stop i H ∧ Qd H) ∨ (J.go i H ∧ ∃ Nx : Hp → Prop, (∀ H', Nx H' → ∃ m', m' < m ∧ W (i + 1) m' H') ∧
    ∀ x H', J.yld i H x H' → g x (wipe σ vs) H' fun σ2 H2 => wipe σ2 vs = wipe σ vs ∧ tt σ2 H2 fun b H3 => if b = true then te σ2 H3 fun y H4 => ∃ acc, H4 D = some (.lst acc) ∧ acc.length < sizeLine ∧ Nx (upd H4 D (.lst (acc ++ [y]))) else Nx H3)
theorem walk_zipT {K : PySem.W.Frag} {a b : Addr} {xs ys : List V} {n : Nat} (hn : n = min xs.length ys.length) : Walk (RZ.ItzT K a b) n (fun H => SqT K H a xs ∧ SqT K H b ys) (YPair (fun i => xs[i]?) (fun i => ys[i]?)) := by
  subst hn
  refine ⟨fun i H hi q => ?_, fun H q => ⟨xs, ys, q.1, q.2, by omega⟩, fun i H v H' hi q y => ?_⟩
  · have h1 : i < xs.length := by omega
    have h2 : i < ys.length := by omega
    exact ⟨xs, ys, xs[i], ys[i], q.1, q.2, List.getElem?_eq_getElem h1, List.getElem?_eq_getElem h2⟩
  · obtain ⟨T, x, z, h1, h2, h3, h4, h5⟩ := y
    exact ⟨T, x, z, h1, h2, h3, h4 xs q.1, h5 ys q.2⟩
theorem cut_from {xs : List V} {r : Nat} (h : r ≤ xs.length) : cutV xs (some (r : Int)) none = xs.drop r := by
  unfold cutV
  rw [HT.sIx_none, HT.sIx_nat, Nat.min_eq_left h]
  rw [List.take_of_length_le (by rw [List.length_drop]; exact Nat.le_refl _)]
theorem cut_to {xs : List V} {r : Nat} (h : r ≤ xs.length) : cutV xs none (some (r : Int)) = xs.take r := by
  unfold cutV
  rw [HT.sIx_none, HT.sIx_nat, List.drop_zero, Nat.sub_zero, Nat.min_eq_left h]
theorem cut_1 (xs : List V) : cutV xs (some 1) none = xs.drop 1 := by
  cases xs with
  | nil => rfl
  | cons x xs => exact cut_from (r := 1) (by simp)
def SqE (K : PySem.W.Frag) (H : Hp) (a : Addr) (xs : List V) : Prop := SqL K H a xs ∨ SqT K H a xs
theorem sqE_same {K : PySem.W.Frag} {H H' : Hp} {a : Addr} {xs : List V} (e : Same H H') (h : SqE K H a xs) : SqE K H' a xs := h.imp (sqL_same e) (sqT_same e)
/-- whether a row ascends -/
def ascN (ns : List Int) (i : Nat) : List Bool := ((ns.zip (ns.drop 1)).take i).map fun p => decide (p.1 < p.2)
def ascB (ns : List Int) : Bool := (ascN ns ns.length).all id
def spAsc (K : PySem.W.Frag) : Sp := fun vs H Q _ => ∃ (a : Addr) (ns : List Int), vs = [.ref a] ∧ SqE K H a (ns.map V.int) ∧ ns.length ≤ 900 ∧ ∀ H', Same H H' → Q (.bl (ascB ns)) H'
abbrev sAsc : Stmt := topS 36
theorem scAsc : FnScope ["row", "one", "other"] ["row"] (defScope sAsc) := ⟨rfl, rfl, rfl, by decide +kernel, rfl, by decide +kernel, by decide +kernel⟩
abbrev g2 (K : PySem.W.Frag) (i j : Nat) : TG := gTup K 2 (gCons (gName i) (gCons (gName j) gNil))
section
variable {P : Program} {w : World} {K : PySem.W.Frag} {mg : Str → Option Value} {base : Heap}
theorem asc_core {J : It} {n : Nat} {G : Hp → Prop} {ns : List Int} {σ : L2.St} {H H1 : Hp} {D : Addr} {Q : VK} {x0 : Option V} (hσ : σ = [x0, none, none]) (hn : n = (ns.zip (ns.drop 1)).length)
    (wk : Walk J n G (YPair (fun i => (ns.map V.int)[i]?) (fun i => ((ns.map V.int).drop 1)[i]?))) (s1 : Same H H1) (hl : ns.length ≤ 900) (hG : ∀ H4, (∀ b o, b ≠ D → H1 b = some o → H4 b = some o) → G H4) (hD : H1 D = none)
    (q : ∀ H' p, Same H H' → H' p = some (.lst ((ascN ns ns.length).map V.bl)) → Q (.ref p) H') : LcW J (g2 K 1 2) tYes (tOp (rI0 fun i j => .bl (decide (i < j))) (tVar 1) (tVar 2)) [1, 2] σ H1 D (fun H' => Q (.ref D) H') := by
  subst hσ
  have zl : (ns.zip (ns.drop 1)).length ≤ ns.length := by
    rw [List.length_zip]
    omega
  refine lc_it wk (fun i H4 => (∀ b o, b ≠ D → H1 b = some o → H4 b = some o) ∧ H4 D = some (.lst ((ascN ns i).map V.bl))) ⟨fun b o hb e => by rw [upd_ne hb]; exact e, by rw [upd_same]; rfl⟩ (fun i H4 _ ⟨kp, _⟩ => hG H4 kp) ?_ ?_
  · rintro i x H4 H4' hi ⟨kp, hD4⟩ ⟨TT, x', y', rfl, hT, rfl, hx', hy'⟩
    have hi2 : i < (ns.zip (ns.drop 1)).length := by omega
    have hz : (ns.zip (ns.drop 1))[i]? = some (ns.zip (ns.drop 1))[i] := List.getElem?_eq_getElem hi2
    obtain ⟨z1, z2⟩ := List.getElem?_zip_eq_some.mp hz
    generalize hp : (ns.zip (ns.drop 1))[i] = p at hz z1 z2
    have e1 : x' = V.int p.1 := by
      have h' : (ns.map V.int)[i]? = some x' := hx'
      rw [List.getElem?_map, z1] at h'
      exact (Option.some.inj h').symm
    have e2 : y' = V.int p.2 := by
      have h' : ((ns.map V.int).drop 1)[i]? = some y' := hy'
      rw [← List.map_drop, List.getElem?_map, z2] at h'
      exact (Option.some.inj h').symm
    subst e1 e2
    have hTD : TT ≠ D := fun z => by rw [z, hD4] at hT; cases hT
    have nx : ascN ns (i + 1) = ascN ns i ++ [decide (p.1 < p.2)] := by
      unfold ascN
      rw [List.take_add_one, hz]
      simp
    refine ⟨TT, _, rfl, SqT.of upd_same, rfl, _, _, rfl, _, _, rfl, rfl, rfl, ?_⟩
    refine yes_go (iteT ⟨_, rfl, _, rfl, _, _, rfl, rfl, _, by rw [upd_ne hTD.symm]; exact hD4, ?_, fun b o hb e => ?_, ?_⟩)
    · rw [List.length_map]
      unfold ascN
      rw [List.length_map, List.length_take]
      exact small1000 (by omega)
    · rw [upd_ne hb]
      have k := kp b o hb e
      rw [upd_ne (ne_of_none k hT)]
      exact k
    · rw [upd_same, nx, List.map_append]
      rfl
  · rintro H4 ⟨kp, hD4⟩
    refine q H4 D (fun b o e => kp b o (ne_of_none (s1 _ _ e) hD) (s1 _ _ e)) ?_
    have e : ascN ns n = ascN ns ns.length := by
      unfold ascN
      rw [List.take_of_length_le (by omega), List.take_of_length_le (by omega)]
    rw [← e]
    exact hD4
theorem ok_asc {f : Addr} {fd : FuncData} (F : Fun K "is_ascending" "is_ascending" sAsc f fd) (T : Bi mg) : FnOk P w K mg base CX0 1 f fd ["row"] (spAsc K) := by
  refine F.ok scAsc (fun vs H Q E h => ?_) (fun cdv A outer s H vs Q E hr h => ?_)
  · obtain ⟨a, ns, rfl, _⟩ := h
    rfl
  · obtain ⟨a, ns, rfl, ha, hl, q⟩ := h
    refine ⟨_, pss_one (ps_ret (pe_callB (cr_all rfl) (by rfl) T.all (by decide +kernel) (pa_cons (pe_lc (own := [("one", 1), ("other", 2)]) (g := g2 K 1 2) (tt := tYes) rfl scAsc.nd (RZ.pi_zipA (by rfl) T.zip (pa_cons (pv 0) (pa_cons (pe_slice (SlR.or sl_list sl_tupA) (pv 0) (po_some pe_int) po_none) pa_nil))) (blkOk_by (N := ["row", "one", "other"]) (sc := defScope sAsc) (by decide +kernel))
      (fun _ _ _ _ _ => (pg_tup rfl (pgs_cons (pg_name (i := 1) scAsc.nd rfl (.inl rfl) (.inr rfl)) (pgs_cons (pg_name (i := 2) scAsc.nd rfl (.inl rfl) (.inr rfl)) pgs_nil)))) (fun _ _ _ _ _ => pts_nil) (fun _ _ _ _ _ => (pe_cmpR op_lt (pv 1) (pv 2) (nomark _)))) pa_nil))), ?_⟩
    have fin : ∀ H' p, Same H H' → H' p = some (.lst ((ascN ns ns.length).map V.bl)) → rAll K [.ref p] H' Q := fun H' p sm hp => ⟨p, _, rfl, SqL.of hp, q H' sm⟩
    have zn : ∀ ys : List V, ys = (ns.map V.int).drop 1 → (ns.zip (ns.drop 1)).length = min (ns.map V.int).length ys.length := by
      intro ys e
      rw [e, List.length_zip, List.length_map, List.length_drop, List.length_drop, List.length_map]
    rcases ha with ha | ha
    · refine ⟨_, rfl, _, rfl, 1, rfl, .inl ⟨a, _, rfl, ha, fun p hp => ?_⟩⟩
      rw [cut_1]
      have sp := same_new (o := .lst ((ns.map V.int).drop 1)) hp
      refine ⟨a, p, _, _, rfl, .inl ⟨sqL_same sp ha, SqL.of upd_same, fun D hD => ?_⟩⟩
      have pD : p ≠ D := fun z => by rw [z, upd_same] at hD; cases hD
      have hDn : H D = none := by
        rw [upd_ne pD.symm] at hD
        exact hD
      refine asc_core (H := H) (x0 := some (.ref a)) (Q := fun v H' => rAll K [v] H' Q) rfl rfl (walk_zip (zn _ rfl)) sp hl (fun H4 kp => ⟨?_, SqL.of (kp _ _ pD upd_same)⟩) hD fin
      exact sqL_same (fun b o e => kp b o (ne_of_none e hDn) (sp _ _ e)) ha
    · refine ⟨_, rfl, _, rfl, 1, rfl, .inr ⟨a, _, rfl, ha, fun hw => ?_, fun hw p hp => ?_⟩⟩
      · have z0 : (ns.map V.int).drop 1 = ns.map V.int := by
          cases ns with
          | nil => rfl
          | cons n ns =>
            have h0 := hw.1
            simp [HT.sIx] at h0
        refine ⟨a, a, _, _, rfl, .inr ⟨ha, (by rw [z0]; exact ha : SqT K H a ((ns.map V.int).drop 1)), fun D hD => ?_⟩⟩
        refine asc_core (H := H) (x0 := some (.ref a)) (Q := fun v H' => rAll K [v] H' Q) rfl rfl (walk_zipT (zn _ rfl)) (Same.refl H) hl (fun H4 kp => ?_) hD fin
        have k1 := sqT_same (fun b o e => kp b o (ne_of_none e hD) e) ha
        exact ⟨k1, by rw [z0]; exact k1⟩
      · rw [cut_1]
        have sp := same_new (o := .tup ((ns.map V.int).drop 1)) hp
        refine ⟨a, p, _, _, rfl, .inr ⟨sqT_same sp ha, SqT.of upd_same, fun D hD => ?_⟩⟩
        have pD : p ≠ D := fun z => by rw [z, upd_same] at hD; cases hD
        have hDn : H D = none := by
          rw [upd_ne pD.symm] at hD
          exact hD
        refine asc_core (H := H) (x0 := some (.ref a)) (Q := fun v H' => rAll K [v] H' Q) rfl rfl (walk_zipT (zn _ rfl)) sp hl (fun H4 kp => ⟨?_, SqT.of (kp _ _ pD upd_same)⟩) hD fin
        exact sqT_same (fun b o e => kp b o (ne_of_none e hDn) (sp _ _ e)) ha
end

def sPiece : Str := "piece"
def sName : Str := "name"
def sIn : Str := "in"
def rank (z : Str) : Option Int := if z = sPiece then some 0 else if z = sName then some 1 else if z = sIn then some 2 else none
/-- the dict RANKS of the text -/
structure Ranks (K : PySem.W.Frag) (w : World) (mg : Str → Option Value) (d : Addr) : Prop where
  g : mg "RANKS" = some (.ref d)
  kd : ∃ es n, KDict K w d es n
  has : ∀ z i, rank z = some i → ∃ t, PySem.W.nsIn K d z = some (some (.int i t))
  no : ∀ z, rank z = none → PySem.W.nsIn K d z = some none
def ofKey (k : Str) (o : PyData) : Option Key := if k = sIn then (match o with
    | .int i => if 1 ≤ i then some (.inl i) else none
    | _ => none) else (match o with
    | .str s => if isNmS s = true then some (.inr s) else none
    | _ => none)
def unkOf (k : Str) (o : PyData) : Option (List Key) := (rank k).bind fun _ => (ofKey k o).map fun z => [.inr k, z]
def readUnk : PyData → Option (List Key)
  | .tuple [.str k, o] => unkOf k o
  | _ => none
/-- texts in a pair are short -/
def shortP : PyData → Prop
  | .tuple [a, b] => shortS a ∧ shortS b
  | _ => True
def UnkV (H : Hp) (v : V) : Option (List Key) → Prop
  | none => v = .non
  | some u => ∃ a, v = .ref a ∧ H a = some (.tup (u.map kV))
def spReadUnk (K : PySem.W.Frag) : Sp := fun vs H Q _ => ∃ v d, vs = [v] ∧ Th K H v d ∧ (∀ xs, d ≠ .list xs) ∧ shortP d ∧ ∀ v' H', Same H H' → UnkV H' v' (readUnk d) → Q v' H'
abbrev sReadUnk : Stmt := topS 15
theorem scReadUnk : FnScope ["thing", "kind", "of", "right"] ["thing"] (defScope sReadUnk) := ⟨rfl, rfl, rfl, by decide +kernel, rfl, by decide +kernel, by decide +kernel⟩
theorem rank_in : rank sIn = some 2 := by decide +kernel
theorem eq_str (a b : Str) : decide (V.str a = V.str b) = decide (a = b) := by
  by_cases c : a = b
  · rw [c]; simp
  · rw [decide_eq_false c]
    exact decide_eq_false fun z => c (V.str.inj z)
theorem eq_int (a b : Int) : decide (V.int a = V.int b) = decide (a = b) := by
  by_cases c : a = b
  · rw [c]; simp
  · rw [decide_eq_false c]
    exact decide_eq_false fun z => c (V.int.inj z)
theorem th_tup {K : PySem.W.Frag} {H : Hp} {v : V} {ds : List PyData} (h : Th K H v (.tuple ds)) : ∃ a xs, v = .ref a ∧ SqT K H a xs ∧ DpAll K H xs ds := by
  cases h with
  | dat h =>
    cases h with
    | tup s t => exact ⟨_, _, rfl, s, t⟩
section
variable {P : Program} {w : World} {K : PySem.W.Frag} {mg : Str → Option Value} {base : Heap}
theorem ok_readUnk {f d0 : Addr} {fd : FuncData} (F : Fun K "read_unknown" "read_unknown" sReadUnk f fd) (T : Bi mg) (R : Ranks K w mg d0) (G1 : Has P w K mg base CX0 2 "is_row_of" ["thing", "many"] (spIsRowOf K))
    (G2 : Has P w K mg base CX0 2 "is_integer" ["thing"] (spIsInt K)) (G3 : Has P w K mg base CX0 2 "is_name" ["thing"] (spIsName K)) : FnOk P w K mg base CX0 3 f fd ["thing"] (spReadUnk K) := by
  refine F.ok scReadUnk (fun vs H Q E h => ?_) (fun cdv A outer s H vs Q E hr h => ?_)
  · obtain ⟨v, d, rfl, _⟩ := h
    rfl
  · obtain ⟨v, d, rfl, th, nl, sh, q⟩ := h
    obtain ⟨es, n, kd⟩ := R.kd
    refine ⟨_, (pss_cons (ps_if (pt_not (pt_val (pe_callH G1 hr (by rfl) pass0 (pa_cons (pv 0) (pa_cons pe_int pa_nil))))) (pss_one (ps_ret pe_non)) pss_nil)
      (pss_cons (ps_asg (pv 0) (pg_tup rfl (pgs_cons (pg_name (i := 1) scReadUnk.nd rfl (.inl rfl)) (pgs_cons (pg_name (i := 2) scReadUnk.nd rfl (.inl rfl)) pgs_nil))))
      (pss_cons (ps_if (PW.pt (pw_or (pt_not (pt_val (pe_callB call_isi (by rfl) T.isinstance (by decide +kernel) (pa_cons (pv 1) (pa_cons (pe_bltn (v := .ty "str") (by rfl) T.str (by decide +kernel) rfl) pa_nil))))) (pw_or1 (pt_cmpR (op_notIn_kd kd) (pv 1) (pe_glob (v := .ref d0) rfl R.g rfl) (by rfl))))) (pss_one (ps_ret pe_non)) pss_nil)
      (pss_cons (ps_if (pt_cmpR op_eq (pv 1) pe_str (nomark _)) (pss_one (ps_set (i := 3) scReadUnk.nd rfl (.inl rfl) (pe_and (pe_callH G2 hr (by rfl) pass0 (pa_cons (pv 2) pa_nil)) (pe_one (pe_cmpR op_ge (pv 2) pe_int (nomark _)))))) (pss_one (ps_set (i := 3) scReadUnk.nd rfl (.inl rfl) (pe_callH G3 hr (by rfl) pass0 (pa_cons (pv 2) pa_nil)))))
      (pss_one (ps_ret (pe_ifExp (pt_val (pv 3)) (pe_tup (pa_cons (pv 1) (pa_cons (pv 2) pa_nil))) pe_non))))))), ?_⟩
    refine ⟨_, rfl, v, d, 2, rfl, th, fun H1 sm1 => ⟨_, rfl, ?_⟩⟩
    have th1 := th_same sm1 th
    cases e : isRof d 2 with
    | false =>
      refine iteT ?_
      refine q _ _ sm1 ?_
      have z : readUnk d = none := by
        unfold readUnk
        split
        · rename_i k o
          revert e
          simp [isRof, items]
        · rfl
      rw [z]
      rfl
    | true =>
      refine iteF ?_
      obtain ⟨x, y, rfl⟩ : ∃ x y, d = .tuple [x, y] := by
        unfold isRof at e
        cases d with
        | tuple xs =>
          have e' : ((xs.length : Int) = 2) := of_decide_eq_true e
          match xs, e' with
          | [x, y], _ => exact ⟨x, y, rfl⟩
          | [], z => exact absurd z (by decide)
          | [_], z => exact absurd z (by simp)
          | _ :: _ :: _ :: _, z => simp at z; omega
        | list xs => exact absurd rfl (nl xs)
        | none => cases e
        | bool b => cases e
        | int i => cases e
        | str s => cases e
        | dict k => cases e
      obtain ⟨a, xs, rfl, hs, ha⟩ := th_tup th1
      cases ha with
      | cons h1 h2 =>
      cases h2 with
      | cons h2 h3 =>
      cases h3
      rename_i v1 v2
      refine ⟨_, rfl, a, _, rfl, hs, rfl, v1, _, rfl, v2, _, rfl, rfl, ?_⟩
      refine ⟨_, rfl, v1, _, _, _, _, rfl, .ty "str", th_ty (.dat h1), kit_str x, _, rfl, ?_⟩
      cases x with
      | str k =>
        cases h1
        refine iteF ?_
        cases e2 : rank k with
        | none =>
          refine ⟨_, rfl, k, _, rfl, rfl, R.no k e2, _, rfl, iteT ?_⟩
          refine q _ _ sm1 ?_
          have z : readUnk (.tuple [.str k, y]) = none := by
            show unkOf k y = none
            unfold unkOf
            rw [e2]
            rfl
          rw [z]
          rfl
        | some i =>
          obtain ⟨t, ht⟩ := R.has k i e2
          refine ⟨_, rfl, k, _, rfl, rfl, ht, _, rfl, iteF ?_⟩
          have ez : readUnk (.tuple [.str k, y]) = (ofKey k y).map fun z => [.inr k, z] := by
            show unkOf k y = _
            unfold unkOf
            rw [e2]
            rfl
          rw [ez] at q
          have fin : ∀ (b : Bool) (H2 : Hp), Same H1 H2 → (b = true → ∃ z, v2 = kV z ∧ ofKey k y = some z) → (b = false → ofKey k y = none) →
              tRet (tIf (tB (tVar 3)) (tTup (tCons (tVar 1) (tCons (tVar 2) tNil))) (tC .non)) { nx := fun _ H' => Q .non H', rt := Q } [some (.ref a), some (.str k), some v2, some (.bl b)] H2 := by
            intro b H2 sm2 ht hf
            refine ⟨_, rfl, _, rfl, ?_⟩
            cases b with
            | true =>
              obtain ⟨z, rfl, ez⟩ := ht rfl
              refine iteT ⟨_, rfl, _, rfl, (by show 2 ≤ sizeLine; decide), fun p hp => ?_⟩
              refine q _ _ ((sm1.trans sm2).trans (same_new hp)) ?_
              rw [ez]
              exact ⟨p, rfl, upd_same⟩
            | false =>
              refine iteF ?_
              refine q _ _ (sm1.trans sm2) ?_
              rw [hf rfl]
              rfl
          refine ⟨_, rfl, rfl, _, rfl, ?_⟩
          rw [show decide (V.str k = V.str (Str.ofString "in")) = decide (k = sIn) from eq_str _ _]
          refine ite2 (fun c => ?_) (fun c => ?_)
          · have ck : k = sIn := of_decide_eq_true c
            refine ⟨_, rfl, v2, y, rfl, .dat h2, _, rfl, ?_⟩
            cases y with
            | int j =>
              cases h2
              refine iteT ⟨_, rfl, j, 1, rfl, rfl, ?_⟩
              refine fin _ _ (Same.refl _) (fun hb => ⟨.inl j, rfl, ?_⟩) fun hb => ?_
              · unfold ofKey
                rw [if_pos ck]
                exact if_pos (of_decide_eq_true hb)
              · unfold ofKey
                rw [if_pos ck]
                exact if_neg (of_decide_eq_false hb)
            | _ =>
              refine iteF (fin _ _ (Same.refl _) (fun hb => by cases hb) fun _ => ?_)
              unfold ofKey
              rw [if_pos ck]
          · have ck : ¬ k = sIn := fun z => c (decide_eq_true z)
            refine ⟨_, rfl, v2, y, rfl, .dat h2, sh.2, fun H2 sm2 => ?_⟩
            refine fin _ _ sm2 (fun hb => ?_) fun hb => ?_
            · cases y with
              | str s =>
                cases h2
                refine ⟨.inr s, rfl, ?_⟩
                unfold ofKey
                rw [if_neg ck]
                exact if_pos hb
              | _ => cases hb
            · cases y with
              | str s =>
                unfold ofKey
                rw [if_neg ck]
                exact if_neg (by intro z; rw [show isNm (.str s) = isNmS s from rfl, z] at hb; cases hb)
              | _ =>
                unfold ofKey
                rw [if_neg ck]
      | _ => exact iteT (q _ _ sm1 rfl)
end

abbrev sOrderOf : Stmt := topS 16
theorem body_order : ∃ p1 p2 p3 p4 p5 p6 p7 p8 p9 p10 p11 k1 k2 k3, defBody sOrderOf = [.Return (some (.Tuple [.Subscript (.Name "RANKS" p1) (.Subscript (.Name "unknown" p2) (.Constant (.int 0) k1 p3) p4) p5, .Subscript (.Name "unknown" p6) (.Constant (.int 1) k2 p7) p8] k3 p9)) p10] ∧ p11 = p10 := ⟨_, _, _, _, _, _, _, _, _, _, _, _, _, _, rfl, rfl⟩
/-- what an unknown is to the sort -/
def keyD (u : List Key) : PyData := match u with
  | [.inr k, .inr s] => .tuple [.int ((rank k).getD 0), .str s]
  | [.inr k, .inl i] => .tuple [.int ((rank k).getD 0), .int i]
  | _ => .none
/-- the value of an unknown at a -/
def UnkH (h : Heap) (v : Value) (u : List Key) : Prop := ∃ a k o v1 v2, v = .ref a ∧ u = [.inr k, o] ∧ (rank k).isSome = true ∧ IsTup h a #[v1, v2] ∧ RelV (.str k) v1 ∧ RelV (kV o) v2
section
variable {P : Program} {w : World} {A : Around} {E : Value → Shared → Prop} {s : Shared} {K : PySem.W.Frag} {mg : Str → Option Value}
theorem order_pure {f d0 : Addr} {fd : FuncData} (F : Fun K "order_of" "order_of" sOrderOf f fd) (R : Ranks K w mg d0) (X : K.In s.heap) (G : s.heap.Ns mainGlobals mg) (hlim : s.heap.NoLimit) (hroom : A.depth < recursionLimit)
    {v : Value} {u : List Key} (hu : UnkH s.heap v u) : wpAny (model P w) A (call (.ref f) [v]) (PySem.W.KeyPure (keyD u) s) E s := by
  obtain ⟨oc, od, kV', doc, pm, an, cdv, ct, osl, rfl, lk, hcd⟩ := F.ex
  obtain ⟨a, k, o, v1, v2, rfl, rfl, hk, ht, r1, r2⟩ := hu
  obtain ⟨es, n, kd⟩ := R.kd
  obtain ⟨t1, rfl⟩ := r1
  obtain ⟨i, hi⟩ := Option.isSome_iff_exists.mp hk
  obtain ⟨t2, hns⟩ := R.has k i hi
  refine wpAny_call (Att.call_fn (binds := [("unknown", .ref a)]) X hlim lk hcd hroom (.of_eq rfl) (by first | rfl | decide | with_unfolding_all rfl) (fun s₁ IC => ?_) rfl rfl rfl)
  obtain ⟨h₁, tk₁, rfl⟩ := IC.toInCall.same
  have kp : ∀ b o, s.heap.get? b = some o → h₁.get? b = some o := IC.toInCall.keep
  have hn := IC.toInCall.ns
  have X₁ : K.In h₁ := X.keeps kp
  obtain ⟨p1, p2, p3, p4, p5, p6, p7, p8, p9, p10, p11, k1, k2, k3, hb, _⟩ := body_order
  rw [hb]
  refine wpAny_execs_cons (wpAny_Return_some (wpAny_Tuple_spliced ?_))
  have ld : ∀ {Q : Value → Shared → Prop} {E' : Value → Shared → Prop} {s' : Shared} {pos : Pos}, s'.heap.Ns s.heap.objs.size (bindL (envOfC "order_of" (defScope sOrderOf) s.heap.objs.size f cdv).kindOf [("unknown", .ref a)] fun _ => none) → Q (.ref a) s' →
      wpAny (model P w) (A.deeper (envOfC "order_of" (defScope sOrderOf) s.heap.objs.size f cdv)) (eval (.Name "unknown" pos) (envOfC "order_of" (defScope sOrderOf) s.heap.objs.size f cdv)) Q E' s' := fun hn h => wpAny_Name (wpAny_loadName_local rfl rfl hn (by first | rfl | with_unfolding_all rfl) h) (by decide)
  have lg : ∀ {Q : Value → Shared → Prop} {E' : Value → Shared → Prop} {s' : Shared} {pos : Pos}, s'.heap.Ns mainGlobals mg → Q (.ref d0) s' →
      wpAny (model P w) (A.deeper (envOfC "order_of" (defScope sOrderOf) s.heap.objs.size f cdv)) (eval (.Name "RANKS" pos) (envOfC "order_of" (defScope sOrderOf) s.heap.objs.size f cdv)) Q E' s' := fun hn h => Calls.Name_function_global rfl rfl (Calls.loadGlobal_global hn R.g h) (by decide)
  have G₁ : h₁.Ns mainGlobals mg := G.keeps kp
  have T₁ : IsTup h₁ a #[.str k t1, v2] := by
    obtain ⟨ot, g1, g2, g3, g4⟩ := ht
    exact ⟨ot, kp _ _ g1, g2, g3, g4⟩
  refine Calls.spliced_cons (PyProof.Rows.Subscript_ (lg G₁ (PyProof.Rows.Subscript_ (ld hn (wpAny_Constant_int (PyProof.Rows.item_tuple (j := 0) (x := .str k t1) T₁ (by decide) (by decide) rfl rfl ?_))))))
  have hm := PySem.W.mapOf_K (prog := P) (w := w) (h := h₁) X₁ kd.at_ kd.lit
  refine tail_any hm.typeIs slot_dict_getitem.lookup (wpAny_getItem_of (strKind_is P w k t1) hm (PySem.W.find_K kd.at_ hns) ?_) (by with_unfolding_all rfl)
  refine Calls.spliced_cons (PyProof.Rows.Subscript_ (ld hn (wpAny_Constant_int (PyProof.Rows.item_tuple (j := 1) (x := v2) T₁ (by decide) (by decide) rfl rfl ?_))))
  refine Calls.spliced_nil ⟨by show 2 ≤ sizeLine; decide, ?_⟩
  have push : ∀ b o, s.heap.get? b = some o → (h₁.push { cls := .type "tuple", data := .seq ([Value.int i t2, v2] : List Value).toArray }).get? b = some o := fun b o e => Heap.get?_push_of_some _ (kp b o e)
  have rd : ∀ (d : PyData), Reads (h₁.push { cls := .type "tuple", data := .seq ([Value.int i t2, v2] : List Value).toArray }) v2 d [] → Reads (h₁.push { cls := .type "tuple", data := .seq ([Value.int i t2, v2] : List Value).toArray }) (.ref h₁.objs.size) (.tuple [.int i, d]) [] := fun d hd =>
    .tuple (as := [] ++ ([] ++ [])) (Heap.get?_push_size _ rfl) rfl rfl (.cons (.int i t2) (.cons hd .nil))
  refine ⟨_, _, rfl, push, ?_⟩
  cases o with
  | inl j =>
    obtain ⟨t, rfl⟩ := r2
    show Reads _ _ (.tuple [.int ((rank k).getD 0), .int j]) []
    rw [hi]
    exact rd _ (.int j t)
  | inr z =>
    obtain ⟨t, rfl⟩ := r2
    show Reads _ _ (.tuple [.int ((rank k).getD 0), .str z]) []
    rw [hi]
    exact rd _ (.str z t)
end

/-- an unknown whose name is a text -/
def NmU (u : List Key) : Prop := ∃ k z, u = [.inr k, .inr z] ∧ (rank k).isSome = true
/-- an unknown at a value -/
def UnkAt (H : Hp) (y : V) (u : List Key) : Prop := ∃ a, y = .ref a ∧ H a = some (.tup (u.map kV))
def le2 : List Key → List Key → Bool := PySem.W.dataLe false keyD
theorem keyD_nm {u : List Key} (h : NmU u) : ∃ i z, keyD u = .tuple [.int i, .str z] := by
  obtain ⟨k, z, rfl, hk⟩ := h
  exact ⟨_, z, rfl⟩
theorem alike_nm {us : List (List Key)} (h : ∀ u ∈ us, NmU u) : PySem.W.AllAlike (us.map keyD) := by
  intro d hd d' hd'
  obtain ⟨u, hu, rfl⟩ := List.mem_map.mp hd
  obtain ⟨u', hu', rfl⟩ := List.mem_map.mp hd'
  obtain ⟨i, z, e⟩ := keyD_nm (h u hu)
  obtain ⟨i', z', e'⟩ := keyD_nm (h u' hu')
  rw [e, e']
  rfl
theorem sortable_nm {us : List (List Key)} (h : ∀ u ∈ us, NmU u) : PySem.W.Sortable (us.map keyD) := .inl fun d hd => by
  obtain ⟨u, hu, rfl⟩ := List.mem_map.mp hd
  obtain ⟨i, z, e⟩ := keyD_nm (h u hu)
  exact ⟨_, _, e⟩
/-- sorted(xs, key=order_of), the items unknowns by names -/
def rSortedUnk (K : PySem.W.Frag) (f : Addr) : List V → List V → Hp → VK → Prop := fun vs zs H Q => ∃ (a : Addr) (xs : List V) (us : List (List Key)), vs = [.ref a] ∧ zs = [.ref f] ∧ SqL K H a xs ∧ PySem.W.EachIs (UnkAt H) xs us ∧ (∀ u ∈ us, NmU u) ∧
  ∀ (ys : List V) (p : Addr), PySem.W.EachIs (UnkAt H) ys (us.mergeSort le2) → H p = none → Q (.ref p) (upd H p (.lst ys))
theorem unkH_of {X : Cx} {pins : List (Addr × Obj)} {σ : L2.St} {H : Hp} {s : Shared} (I : Inv X pins σ H s) {y : V} {v : Value} {u : List Key} (r : L2.RelV y v) (h : UnkAt H y u) (n : NmU u) : UnkH s.heap v u := by
  obtain ⟨a, rfl, ha⟩ := h
  obtain ⟨k, z, rfl, hk⟩ := n
  cases r
  obtain ⟨_, its, rv, o, h1, h2, m, h3⟩ := (show ObjOk X.prog X.w H s.heap a (.tup [V.str k, V.str z]) from I.hok a _ ha)
  cases rv with
  | cons r1 rv => cases rv with
    | cons r2 rv =>
      cases rv
      rename_i w1 w2
      exact ⟨a, k, .inr z, w1, w2, rfl, rfl, hk, ⟨o, h1, h2, m, h3⟩, r1, r2⟩
theorem unkH_keeps {h h' : Heap} {v : Value} {u : List Key} (k : ∀ b o, h.get? b = some o → h'.get? b = some o) (x : UnkH h v u) : UnkH h' v u := by
  obtain ⟨a, k1, o, v1, v2, e1, e2, hk, ⟨ot, g1, g2, g3⟩, r1, r2⟩ := x
  exact ⟨a, k1, o, v1, v2, e1, e2, hk, ⟨ot, k _ _ g1, g2, g3⟩, r1, r2⟩
theorem each_vals {H : Hp} : ∀ {xs : List V} {its : List Value} {us : List (List Key)}, PySem.W.EachIs (UnkAt H) xs us → Vals xs its → PySem.W.EachIs (fun v u => ∃ y, L2.RelV y v ∧ UnkAt H y u) its us
  | _, _, _, .nil, .nil => .nil
  | _, _, _, .cons h t, .cons r rt => .cons ⟨_, r, h⟩ (each_vals t rt)
theorem each_back {H : Hp} : ∀ {its : List Value} {us : List (List Key)}, PySem.W.EachIs (fun v u => ∃ y, L2.RelV y v ∧ UnkAt H y u) its us → ∃ ys, Vals ys its ∧ PySem.W.EachIs (UnkAt H) ys us
  | _, _, .nil => ⟨[], .nil, .nil⟩
  | _, _, .cons ⟨y, r, h⟩ t => by
    obtain ⟨ys, r1, h1⟩ := each_back t
    exact ⟨y :: ys, .cons r r1, .cons h h1⟩
theorem cr_sortedUnk {X : Cx} {k : Nat} {f d0 : Addr} {fd : FuncData} (hr : Room k X.A) (F : Fun X.K "order_of" "order_of" sOrderOf f fd) (R : Ranks X.K X.w X.mg d0) : CallRK X (.builtin "sorted") [Str.ofString "key"] (rSortedUnk X.K f) := by
  intro pins s σ H vs zs us' ws Q I r rz h
  obtain ⟨a, xs, us, rfl, rfl, hs, he, hn, q⟩ := h
  obtain rfl := Vals.ref1 r
  obtain ⟨w1, rfl, e1⟩ := vals1 rz
  obtain rfl : w1 = Value.ref f := e1
  obtain ⟨its, rv, hl, hz⟩ := I.list hs
  have hu := each_vals he rv
  have hlen : us.length ≤ sizeLine := by
    rw [← he.length]
    exact hz
  refine PySem.W.sorted_key_data (bs := us) (R := fun v u => ∃ y, L2.RelV y v ∧ UnkAt H y u) (b := false) (f := .ref f) keyD hl.isList hu (alike_nm hn) (sortable_nm hn) hlen (fun u hu => ?_) (ksk_s1 _ _) (fun _ => ksk_l1 _ _) (fun x => ksk_t1 f x) (fun v u hR hu h tk kp => ?_) fun out c h' tk kp hf hg hol ho => ?_
  · obtain ⟨i, z, e⟩ := keyD_nm (hn u hu)
    have hd : (keyD u).depth ≤ 5 := by
      rw [e]
      simp [PyData.depth, PyData.depthAll]
    have := hr.units
    omega
  · obtain ⟨y, ry, hy⟩ := hR
    have hd : X.A.in1.in1.depth < recursionLimit := hr.depth
    exact order_pure (s := { s with heap := h, toks := tk }) F R (I.kIn.keeps kp) ((I.mod.glob.keeps I.bk).keeps kp) (I.nolimit.keeps kp) hd (unkH_keeps kp (unkH_of I ry hy (hn u hu)))
  · obtain ⟨ys, rv', hy⟩ := each_back ho
    have hlen' : ys.length ≤ sizeLine := by
      rw [rv'.length, hol]
      exact hlen
    exact ⟨.ref (s.heap.objs.size + 1), upd H (s.heap.objs.size + 1) (.lst ys), I.laid (t' := tk) kp (Nat.le_succ _) ⟨hlen', out, c, rv', hg⟩, rfl, q ys _ hy (I.hok.fresh (Nat.le_succ _))⟩

/-! ### sums -/
def keyDat : Key → PyData
  | .inl i => .int i
  | .inr s => .str s
def unkD (u : List Key) : PyData := .tuple (u.map keyDat)
def partD (p : List Key × Int) : PyData := .tuple [unkD p.1, .int p.2]
def sumD (n : Int) (ps : List (List Key × Int)) : PyData := .tuple [.int n, .tuple (ps.map partD)]
abbrev Mul := List (List Key × Int)
def vKv (kvs : Mul) : List (List Key × V) := kvs.map fun p => (p.1, V.int p.2)
def getI (kvs : Mul) (u : List Key) : Int := ((kvs.find? fun kv => decide (kv.1 = u)).map (·.2)).getD 0
def keysN (kvs : Mul) : List (List Key) := (kvs.map (·.1)).filter fun u => !decide (getI kvs u = 0)
def form (kvs : Mul) : Mul := ((keysN kvs).mergeSort le2).map fun u => (u, getI kvs u)
theorem valV_kv (kvs : Mul) (u : List Key) : valV (vKv kvs) u = (kvs.find? fun kv => decide (kv.1 = u)).map fun kv => V.int kv.2 := by
  unfold valV vKv
  rw [List.find?_map]
  simp [Function.comp_def]
theorem valV_mem {kvs : Mul} {u : List Key} (h : u ∈ kvs.map (·.1)) : valV (vKv kvs) u = some (.int (getI kvs u)) := by
  rw [valV_kv]
  unfold getI
  cases e : kvs.find? fun kv => decide (kv.1 = u) with
  | some p => rfl
  | none =>
    obtain ⟨p, hp, rfl⟩ := List.mem_map.mp h
    have z := List.find?_eq_none.mp e p hp
    simp at z
theorem dp_key {K : PySem.W.Frag} {H : Hp} (k : Key) : Dp K H (kV k) (keyDat k) := by
  cases k with
  | inl i => exact .int i
  | inr s => exact .str s
theorem dps_keys {K : PySem.W.Frag} {H : Hp} : ∀ u : List Key, DpAll K H (u.map kV) (u.map keyDat)
  | [] => .nil
  | k :: u => .cons (dp_key k) (dps_keys u)
theorem dp_unk {K : PySem.W.Frag} {H : Hp} {y : V} {u : List Key} (h : UnkAt H y u) : Dp K H y (unkD u) := by
  obtain ⟨a, rfl, ha⟩ := h
  exact .tup (SqT.of ha) (dps_keys u)
theorem unkAt_same {H H' : Hp} (e : Same H H') {y : V} {u : List Key} (h : UnkAt H y u) : UnkAt H' y u := by
  obtain ⟨a, rfl, ha⟩ := h
  exact ⟨a, rfl, e _ _ ha⟩
theorem each_same {H H' : Hp} (e : Same H H') : ∀ {ys : List V} {us : List (List Key)}, PySem.W.EachIs (UnkAt H) ys us → PySem.W.EachIs (UnkAt H') ys us
  | _, _, .nil => .nil
  | _, _, .cons h t => .cons (unkAt_same e h) (each_same e t)
theorem each_get {H : Hp} : ∀ {ys : List V} {us : List (List Key)}, PySem.W.EachIs (UnkAt H) ys us → ∀ {i : Nat} {y : V}, ys[i]? = some y → ∃ u, us[i]? = some u ∧ UnkAt H y u
  | _, _, .nil, i, y, h => by simp at h
  | _, _, .cons h t, 0, y, e => by
    obtain rfl : _ = y := Option.some.inj e
    exact ⟨_, rfl, h⟩
  | _, _, .cons h t, i + 1, y, e => each_get t (i := i) e
theorem each_snoc {H : Hp} {y : V} {u : List Key} (h : UnkAt H y u) : ∀ {ys : List V} {us : List (List Key)}, PySem.W.EachIs (UnkAt H) ys us → PySem.W.EachIs (UnkAt H) (ys ++ [y]) (us ++ [u])
  | _, _, .nil => .cons h .nil
  | _, _, .cons g t => .cons g (each_snoc h t)
theorem dps_snoc {K : PySem.W.Frag} {H : Hp} {y : V} {d : PyData} (h : Dp K H y d) : ∀ {ys : List V} {ds : List PyData}, DpAll K H ys ds → DpAll K H (ys ++ [y]) (ds ++ [d])
  | _, _, .nil => .cons h .nil
  | _, _, .cons g t => .cons g (dps_snoc h t)
/-- tuples stay -/
def TupS (H H' : Hp) : Prop := ∀ a xs, H a = some (.tup xs) → H' a = some (.tup xs)
theorem TupS.of {H H' : Hp} (e : Same H H') : TupS H H' := fun _ _ h => e _ _ h
theorem TupS.trans {H H' H2 : Hp} (e : TupS H H') (f : TupS H' H2) : TupS H H2 := fun a xs h => f a xs (e a xs h)
theorem TupS.refl (H : Hp) : TupS H H := fun _ _ h => h
theorem TupS.put {H : Hp} {S : Addr} {o o' : HO} (hS : H S = some o) (ho : ∀ xs, o ≠ .tup xs) : TupS H (upd H S o') := fun a xs h => by
  have ne : a ≠ S := fun z => by
    rw [z, hS] at h
    exact ho xs (Option.some.inj h)
  rw [upd_ne ne]
  exact h
theorem eachs_snoc {α β : Type} {R : α → β → Prop} {y : α} {u : β} (h : R y u) : ∀ {ys : List α} {us : List β}, PySem.W.EachIs R ys us → PySem.W.EachIs R (ys ++ [y]) (us ++ [u])
  | _, _, .nil => .cons h .nil
  | _, _, .cons g t => .cons g (eachs_snoc h t)
theorem eachs_imp {α β : Type} {R S : α → β → Prop} (f : ∀ a b, R a b → S a b) : ∀ {as : List α} {bs : List β}, PySem.W.EachIs R as bs → PySem.W.EachIs S as bs
  | _, _, .nil => .nil
  | _, _, .cons h t => .cons (f _ _ h) (eachs_imp f t)
theorem eachs_get {α β : Type} {R : α → β → Prop} : ∀ {ys : List α} {us : List β}, PySem.W.EachIs R ys us → ∀ {i : Nat} {y : α}, ys[i]? = some y → ∃ u, us[i]? = some u ∧ R y u
  | _, _, .nil, i, y, h => by simp at h
  | _, _, .cons h t, 0, y, e => by
    obtain rfl : _ = y := Option.some.inj e
    exact ⟨_, rfl, h⟩
  | _, _, .cons h t, i + 1, y, e => eachs_get t (i := i) e
/-- a part of a sum, a sum: all of tuples -/
def PartT (H : Hp) (v : V) (q : List Key × Int) : Prop := ∃ c e, v = .ref c ∧ H c = some (.tup [.ref e, .int q.2]) ∧ H e = some (.tup (q.1.map kV))
def SumT (H : Hp) (v : V) (n : Int) (ps : Mul) : Prop := ∃ a b xs, v = .ref a ∧ H a = some (.tup [.int n, .ref b]) ∧ H b = some (.tup xs) ∧ PySem.W.EachIs (PartT H) xs ps
theorem partT_s {H H' : Hp} (e : TupS H H') {v : V} {q : List Key × Int} (h : PartT H v q) : PartT H' v q := by
  obtain ⟨c, k, h1, h2, h3⟩ := h
  exact ⟨c, k, h1, e _ _ h2, e _ _ h3⟩
theorem sumT_s {H H' : Hp} (e : TupS H H') {v : V} {n : Int} {ps : Mul} (h : SumT H v n ps) : SumT H' v n ps := by
  obtain ⟨a, b, xs, h1, h2, h3, h4⟩ := h
  exact ⟨a, b, xs, h1, e _ _ h2, e _ _ h3, eachs_imp (fun _ _ => partT_s e) h4⟩
theorem parts_dp {K : PySem.W.Frag} {H : Hp} : ∀ {xs : List V} {ps : Mul}, PySem.W.EachIs (PartT H) xs ps → DpAll K H xs (ps.map partD)
  | _, _, .nil => .nil
  | _, _, .cons h t => by
    obtain ⟨c, e, rfl, h2, h3⟩ := h
    exact .cons (.tup (SqT.of h2) (.cons (dp_unk ⟨e, rfl, h3⟩) (.cons (.int _) .nil))) (parts_dp t)
theorem sumT_dp {K : PySem.W.Frag} {H : Hp} {v : V} {n : Int} {ps : Mul} (h : SumT H v n ps) : Dp K H v (sumD n ps) := by
  obtain ⟨a, b, xs, rfl, h2, h3, h4⟩ := h
  exact .tup (SqT.of h2) (.cons (.int n) (.cons (.tup (SqT.of h3) (parts_dp h4)) .nil))
def spOneForm (K : PySem.W.Frag) : Sp := fun vs H Q _ => ∃ (n : Int) (d : Addr) (kvs : Mul), vs = [.int n, .ref d] ∧ H d = some (.dT (vKv kvs)) ∧ (∀ u ∈ kvs.map (·.1), NmU u) ∧ kvs.length ≤ 1000 ∧
  ∀ v H', Same H H' → SumT H' v n (form kvs) → Q v H'
/-- a heap without the object at D -/
def wo (H : Hp) (D : Addr) : Hp := fun b => if b = D then none else H b
theorem wo_ne {H : Hp} {D b : Addr} (h : b ≠ D) : wo H D b = H b := if_neg h
theorem wo_same {H : Hp} {D : Addr} : Same (wo H D) H := fun b o e => by
  by_cases h : b = D
  · rw [h] at e
    unfold wo at e
    rw [if_pos rfl] at e
    cases e
  · rw [wo_ne h] at e
    exact e
theorem wo_self {H : Hp} {D : Addr} {o : HO} : wo (upd H D o) D = wo H D := by
  funext b
  by_cases h : b = D
  · unfold wo
    rw [if_pos h, if_pos h]
  · rw [wo_ne h, wo_ne h, upd_ne h]
theorem wo_new {H : Hp} {D T : Addr} {o : HO} (hT : H T = none) (h : T ≠ D) : Same (wo H D) (wo (upd H T o) D) := fun b x e => by
  have e2 : H b = some x := wo_same b x e
  have hb : b ≠ D := fun z => by
    rw [z] at e
    unfold wo at e
    rw [if_pos rfl] at e
    cases e
  rw [wo_ne hb, upd_ne (ne_of_none e2 hT)]
  exact e2
abbrev sOneForm : Stmt := topS 17
theorem scOneForm : FnScope ["number", "multiples", "held", "unknown"] ["number", "multiples"] (defScope sOneForm) := ⟨rfl, rfl, rfl, by decide +kernel, rfl, by decide +kernel, by decide +kernel⟩
theorem sz1000 {n : Nat} (h : n ≤ 1000) : n ≤ sizeLine := Nat.le_of_lt (small1000 h)
theorem unkAt_upd {H : Hp} {D : Addr} {l : List V} {o : HO} (hD : H D = some (.lst l)) {y : V} {u : List Key} (h : UnkAt H y u) : UnkAt (upd H D o) y u := by
  obtain ⟨a, rfl, ha⟩ := h
  refine ⟨a, rfl, ?_⟩
  rw [upd_ne (ne_of ha hD (by intro z; cases z))]
  exact ha
theorem each_upd {H : Hp} {D : Addr} {l : List V} {o : HO} (hD : H D = some (.lst l)) : ∀ {ys : List V} {us : List (List Key)}, PySem.W.EachIs (UnkAt H) ys us → PySem.W.EachIs (UnkAt (upd H D o)) ys us
  | _, _, .nil => .nil
  | _, _, .cons h t => .cons (unkAt_upd hD h) (each_upd hD t)
theorem each_len {H : Hp} {ys : List V} {us : List (List Key)} (h : PySem.W.EachIs (UnkAt H) ys us) : ys.length = us.length := h.length
theorem mem_sort {us : List (List Key)} {u : List Key} (h : u ∈ us.mergeSort le2) : u ∈ us := (List.mergeSort_perm us le2).mem_iff.mp h
section
variable {P : Program} {w : World} {K : PySem.W.Frag} {mg : Str → Option Value} {base : Heap}
theorem ok_oneForm {f fO d0 : Addr} {fd fdO : FuncData} (F : Fun K "one_form" "one_form" sOneForm f fd) (T : Bi mg) (R : Ranks K w mg d0) (FO : Fun K "order_of" "order_of" sOrderOf fO fdO) (gO : mg "order_of" = some (.ref fO)) :
    FnOk P w K mg base CX0 2 f fd ["number", "multiples"] (spOneForm K) := by
  refine F.ok scOneForm (fun vs H Q E h => ?_) (fun cdv A outer s H vs Q E hr h => ?_)
  · obtain ⟨n, d, kvs, rfl, _⟩ := h
    rfl
  · obtain ⟨n, d, kvs, rfl, hd, hn, hl, q⟩ := h
    have hu := hu_of hr
    refine ⟨_, pss_cons (ps_set (i := 2) scOneForm.nd rfl (.inl rfl) (pe_callBK (cr_sortedUnk hr FO R) (by rfl) T.sorted (by decide +kernel) (pa_cons (pe_lock (pe_lc (own := [("unknown", 3)]) (g := gName 3) (tt := _) rfl scOneForm.nd (pi_keys (pv 1)) (blkOk_by (N := ["number", "multiples", "held", "unknown"]) (sc := defScope sOneForm) (by decide +kernel)) (fun _ _ _ _ _ => pg_name (i := 3) scOneForm.nd rfl (.inl rfl)) (fun _ _ _ _ _ => pts_one (pt_cmpR op_ne (pe_dget hu (pv 1) (pv 3) (fun _ _ => rfl)) pe_int (nomark _))) (fun _ _ _ _ _ => (pv 3)))) pa_nil) (pk_cons (pe_glob (v := .ref fO) rfl gO rfl) pk_nil)))
      (pss_one (ps_ret (pe_tup (pa_cons (pv 0) (pa_cons (pe_callTy call_tuple_of (by rfl) T.tuple (by decide +kernel) (pa_cons (pe_lc (own := [("unknown", 3)]) (g := gName 3) (tt := tYes) rfl scOneForm.nd (pi_list (pv 2)) (blkOk_by (N := ["number", "multiples", "held", "unknown"]) (sc := defScope sOneForm) (by decide +kernel)) (fun _ _ _ _ _ => pg_name (i := 3) scOneForm.nd rfl (.inl rfl)) (fun _ _ _ _ _ => pts_nil) (fun _ _ _ _ _ => (pe_tup (pa_cons (pv 3) (pa_cons (pe_dget hu (pv 1) (pv 3) (fun _ _ => rfl)) pa_nil))))) pa_nil)) pa_nil))))), ?_⟩
    refine ⟨d, _, hd, trivial, fun od => ⟨_, rfl, d, od, rfl, .inr ⟨_, upd_same, fun D hD => ?_⟩⟩⟩
    have lenK : (vKv kvs).length = kvs.length := List.length_map _
    have hDd : D ≠ d := by
      intro z
      rw [z, upd_same] at hD
      cases hD
    have hDn : H D = none := by
      rw [upd_ne hDd] at hD
      exact hD
    refine lc_it walk_keysT (fun i H1 => (∀ b o, b ≠ D → upd H d (.frz od (.dT (vKv kvs))) b = some o → H1 b = some o) ∧ ∃ ys, H1 D = some (.lst ys) ∧ ys.length ≤ i ∧ PySem.W.EachIs (UnkAt H1) ys (((kvs.take i).map (·.1)).filter fun u => !decide (getI kvs u = 0)))
      ⟨fun b o hb e => by rw [upd_ne hb]; exact e, [], upd_same, Nat.le_refl _, .nil⟩ (fun i H1 _ ⟨kp, _⟩ => kp _ _ hDd.symm upd_same) ?_ ?_
    · rintro i x H1 H1' hi ⟨kp, ys, hD1, hlen, he⟩ ⟨rfl, k, v, qa, hk, rfl, hq⟩
      have hi' : i < kvs.length := by rw [lenK] at hi; exact hi
      obtain ⟨⟨k0, m⟩, hm⟩ : ∃ p, kvs[i]? = some p := ⟨kvs[i], List.getElem?_eq_getElem hi'⟩
      have hk2 : (k, v) = (k0, V.int m) := by
        unfold vKv at hk
        rw [List.getElem?_map, hm] at hk
        exact (Option.some.inj hk).symm
      cases hk2
      have hmem : k ∈ kvs.map (·.1) := List.mem_map.mpr ⟨_, List.mem_of_getElem? hm, rfl⟩
      have hd1 : H1' d = some (.frz od (.dT (vKv kvs))) := kp _ _ hDd.symm upd_same
      have qD : qa ≠ D := ne_of hq hD1 (by intro z; cases z)
      have hqH : UnkAt H1' (.ref qa) k := ⟨qa, rfl, hq⟩
      refine ⟨rfl, _, rfl, _, rfl, d, .int (getI kvs k), rfl, .inr ⟨vKv kvs, k, qa, .inr ⟨od, hd1⟩, rfl, hq, (valV_mem hmem).symm⟩, rfl, _, rfl, ?_⟩
      rw [eq_int]
      have tk : (kvs.take (i + 1)).map (·.1) = (kvs.take i).map (·.1) ++ [k] := by
        rw [List.take_add_one, hm]
        simp
      cases c : !decide (getI kvs k = 0) with
      | true =>
        refine iteT ⟨_, rfl, ys, hD1, small1000 (by omega), fun b o hb e => ?_, ys ++ [.ref qa], upd_same, by simp; omega, ?_⟩
        · rw [upd_ne hb]
          exact kp b o hb e
        · rw [tk, List.filter_append]
          have z : [k].filter (fun u => !decide (getI kvs u = 0)) = [k] := by simp [List.filter, c]
          rw [z]
          exact each_snoc (unkAt_upd hD1 hqH) (each_upd hD1 he)
      | false =>
        refine iteF ⟨kp, ys, hD1, by omega, ?_⟩
        rw [tk, List.filter_append]
        have z : [k].filter (fun u => !decide (getI kvs u = 0)) = [] := by simp [List.filter, c]
        rw [z, List.append_nil]
        exact he
    · rintro H1 ⟨kp, ys, hD1, hlen, he⟩
      have tl : (kvs.take (vKv kvs).length) = kvs := by rw [lenK]; exact List.take_length
      rw [tl] at he
      have hd1 : H1 d = some (.frz od (.dT (vKv kvs))) := kp _ _ hDd.symm upd_same
      have sm : Same H (upd H1 d (.dT (vKv kvs))) := fun b o e => by
        by_cases hb : b = d
        · rw [hb] at e ⊢
          rw [upd_same]
          exact hd.symm.trans e
        · rw [upd_ne hb]
          refine kp b o (ne_of_none e hDn) ?_
          rw [upd_ne hb]
          exact e
      have eD : (upd H1 d (.dT (vKv kvs))) D = some (.lst ys) := by
        rw [upd_ne hDd]
        exact hD1
      have he2 : PySem.W.EachIs (UnkAt (upd H1 d (.dT (vKv kvs)))) ys (keysN kvs) := by
        have go : ∀ {zs : List V} {us : List (List Key)}, PySem.W.EachIs (UnkAt H1) zs us → PySem.W.EachIs (UnkAt (upd H1 d (.dT (vKv kvs)))) zs us := by
          intro zs us h
          induction h with
          | nil => exact .nil
          | cons h t ih =>
            obtain ⟨a, rfl, ha⟩ := h
            refine .cons ⟨a, rfl, ?_⟩ ih
            rw [upd_ne (ne_of ha hd1 (by intro z; cases z))]
            exact ha
        exact go he
      have hnK : ∀ u ∈ keysN kvs, NmU u := fun u hu => hn u (List.mem_filter.mp hu).1
      refine ⟨hd1, D, ys, keysN kvs, rfl, rfl, SqL.of eD, he2, hnK, fun zs p hz hp => ?_⟩
      generalize hH2 : upd H1 d (.dT (vKv kvs)) = H2 at sm eD he2 hp hz ⊢
      have h2d : H2 d = some (.dT (vKv kvs)) := by rw [← hH2, upd_same]
      have sm3 : Same H2 (upd H2 p (.lst zs)) := same_new hp
      have hz3 : PySem.W.EachIs (UnkAt (upd H2 p (.lst zs))) zs ((keysN kvs).mergeSort le2) := each_same sm3 hz
      have lz : zs.length = ((keysN kvs).mergeSort le2).length := hz.length
      have lz2 : zs.length ≤ 1000 := by
        rw [lz, (List.mergeSort_perm _ _).length_eq]
        unfold keysN
        refine Nat.le_trans (List.length_filter_le _ _) ?_
        rw [List.length_map]
        exact hl
      generalize hH3 : upd H2 p (.lst zs) = H3 at sm3 hz3 ⊢
      have h3d : H3 d = some (.dT (vKv kvs)) := sm3 _ _ h2d
      have h3p : H3 p = some (.lst zs) := by rw [← hH3, upd_same]
      refine ⟨_, rfl, _, rfl, p, rfl, ⟨_, SqL.of h3p⟩, fun D2 hD2 => ?_⟩
      have pD2 : p ≠ D2 := ne_of_none h3p hD2
      refine lc_it (walk_list (xs := zs)) (fun i H4 => (∀ b o, b ≠ D2 → H3 b = some o → H4 b = some o) ∧ ∃ ps, H4 D2 = some (.lst ps) ∧ ps.length = i ∧ PySem.W.EachIs (PartT H4) ps ((((keysN kvs).mergeSort le2).take i).map fun u => (u, getI kvs u)))
        ⟨fun b o hb e => by rw [upd_ne hb]; exact e, [], upd_same, rfl, .nil⟩ (fun i H4 _ ⟨kp, _⟩ => SqL.of (kp _ _ pD2 h3p)) ?_ ?_
      · rintro i x H4 H4' hi ⟨kp4, ps, h4D, hps, hdp⟩ ⟨rfl, hx⟩
        obtain ⟨u, hu1, a, rfl, ha⟩ := each_get hz3 hx
        have haD : a ≠ D2 := ne_of_none ha hD2
        have ha4 := kp4 _ _ haD ha
        have h4d := kp4 _ _ (ne_of_none h3d hD2) h3d
        have hmem : u ∈ kvs.map (·.1) := (List.mem_filter.mp (mem_sort (List.mem_of_getElem? hu1))).1
        refine ⟨rfl, yes_go (iteT ⟨_, rfl, _, rfl, _, rfl, d, .int (getI kvs u), rfl, .inr ⟨vKv kvs, u, a, .inl h4d, rfl, ha4, (valV_mem hmem).symm⟩, (by show 2 ≤ sizeLine; decide), fun t ht => ⟨ps, ?_, small1000 (by omega), ?_, ps ++ [.ref t], upd_same, by simp; omega, ?_⟩⟩)⟩
        · rw [upd_ne (ne_of_none h4D ht)]
          exact h4D
        · intro b o hb e
          rw [upd_ne hb, upd_ne (ne_of_none (kp4 b o hb e) ht)]
          exact kp4 b o hb e
        · have tD : t ≠ D2 := fun z => by rw [z, h4D] at ht; cases ht
          have ts : TupS H4' (upd (upd H4' t (.tup [.ref a, .int (getI kvs u)])) D2 (.lst (ps ++ [.ref t]))) := (TupS.of (same_new ht)).trans (TupS.put (o := .lst ps) (by
            rw [upd_ne (ne_of_none h4D ht)]
            exact h4D) (by intro xs z; cases z))
          rw [List.take_add_one, hu1]
          simp only [Option.toList_some, List.map_append, List.map_cons, List.map_nil]
          refine eachs_snoc ⟨t, a, rfl, ?_, ts _ _ ha4⟩ (eachs_imp (fun _ _ => partT_s ts) hdp)
          rw [upd_ne tD, upd_same]
      · rintro H4 ⟨kp4, ps, h4D, hps, hdp⟩
        have tl2 : ((keysN kvs).mergeSort le2).take zs.length = (keysN kvs).mergeSort le2 := by rw [lz]; exact List.take_length
        rw [tl2] at hdp
        refine ⟨D2, ps, rfl, .inl ⟨SqL.of h4D, fun l hl4 => ⟨(by show 2 ≤ sizeLine; decide), fun r hr5 => ?_⟩⟩⟩
        have s4 : Same H3 H4 := fun b o e => kp4 b o (ne_of_none e hD2) e
        have s5 := same_new (o := .tup ps) hl4
        have s6 := same_new (o := .tup [.int n, .ref l]) hr5
        refine q _ _ ((((sm.trans sm3).trans s4).trans s5).trans s6) ?_
        have el : (upd (upd H4 l (.tup ps)) r (.tup [.int n, .ref l])) l = some (.tup ps) := s6 _ _ upd_same
        exact ⟨r, l, ps, rfl, upd_same, el, eachs_imp (fun _ _ => partT_s (TupS.of (s5.trans s6))) hdp⟩
end

/-! ### a for over a list or a tuple -/
def iSeq (K : PySem.W.Frag) (tl : TE) : TI := fun σ H R => tl σ H fun x H1 => ∃ a xs, x = .ref a ∧ (SqL K H1 a xs ∨ SqT K H1 a xs) ∧ ∀ J G, Walk J xs.length G (YAt xs) → (∀ H4, (SqL K H1 a xs → SqL K H4 a xs) → (SqT K H1 a xs → SqT K H4 a xs) → G H4) → R J H1
theorem pi_seq {X : Cx} {tg l : Expr} {tl : TE} (hl : PE X l tl) : PI X tg l (iSeq X.K tl) := by
  refine ⟨fun pins s σ H R I h => ?_⟩
  refine thn (hl.run pins s σ H _ I h) fun v s1 ⟨x, H1, I1, r1, q1⟩ => ?_
  obtain ⟨a, xs, e, hq, q⟩ := q1
  subst e
  cases r1
  have fp : ∀ b ∈ [s1.heap.objs.size], FpOk X pins H1 b := fun b hb => by
    have e : b = s1.heap.objs.size := by simpa using hb
    subst e
    exact I1.fpOk (Nat.le_refl _) (I1.hok.fresh (Nat.le_refl _))
  rcases hq with hq | hq
  · obtain ⟨its, rv, p, hz⟩ := I1.list hq
    refine wpAny_pyIter_list p.isList ?_
    exact ⟨s1.heap.objs.size, [s1.heap.objs.size], _, _, H1, rfl, I1.kept (t' := s1.toks) fun b o e => Heap.get?_push_of_some _ e, turn_list a _, ⟨_, Heap.get?_push_size _ rfl, rfl, rfl⟩, fp, q _ (fun H4 => SqL X.K H4 a xs) walk_list fun H4 e _ => e hq⟩
  · obtain ⟨its, rv, p, hz⟩ := I1.tuple hq
    refine wpAny_pyIter_tuple (show s1.heap.IsTuple a its.toArray from p) ?_
    exact ⟨s1.heap.objs.size, [s1.heap.objs.size], _, _, H1, rfl, I1.kept (t' := s1.toks) fun b o e => Heap.get?_push_of_some _ e, turn_tuple a _, ⟨_, Heap.get?_push_size _ rfl, rfl, rfl⟩, fp, q _ (fun H4 => SqT X.K H4 a xs) walk_tup fun H4 _ e => e hq⟩
/-! ### the mirror of read_sum -/
def putI (kvs : Mul) (u : List Key) (m : Int) : Mul := if (kvs.any fun kv => decide (kv.1 = u)) = true then kvs.map (fun kv => if kv.1 = u then (kv.1, m) else kv) else kvs ++ [(u, m)]
theorem put_vKv (kvs : Mul) (u : List Key) (m : Int) : putK (vKv kvs) u (.int m) = vKv (putI kvs u m) := by
  unfold putK putI vKv
  have e : ((kvs.map fun p => (p.1, V.int p.2)).any fun kv => decide (kv.1 = u)) = kvs.any fun kv => decide (kv.1 = u) := by
    rw [List.any_map]
    rfl
  rw [e]
  split
  · rw [List.map_map, List.map_map]
    apply List.map_congr_left
    intro p _
    by_cases h : p.1 = u
    · simp [h]
    · simp [h]
  · simp
theorem putI_len (kvs : Mul) (u : List Key) (m : Int) : (putI kvs u m).length ≤ kvs.length + 1 := by
  unfold putI
  split
  · rw [List.length_map]; omega
  · simp
theorem putI_keys {kvs : Mul} {u : List Key} {m : Int} (hu : NmU u) (h : ∀ x ∈ kvs.map (·.1), NmU x) : ∀ x ∈ (putI kvs u m).map (·.1), NmU x := by
  intro x hx
  unfold putI at hx
  split at hx
  · rw [List.map_map] at hx
    obtain ⟨p, hp, rfl⟩ := List.mem_map.mp hx
    have e : (Prod.fst ∘ fun kv : List Key × Int => if kv.1 = u then (kv.1, m) else kv) p = p.1 := by
      show (if p.1 = u then (p.1, m) else p).1 = p.1
      split <;> rfl
    rw [e]
    exact h _ (List.mem_map.mpr ⟨p, hp, rfl⟩)
  · rw [List.map_append] at hx
    rcases List.mem_append.mp hx with hx | hx
    · exact h x hx
    · have e : x = u := by simpa using hx
      rw [e]
      exact hu
def addPart (acc : Mul) (p : PyData) : Option Mul := match items p with
  | some [x, .int m] => (readUnk x).map fun u => putI acc u (getI acc u + m)
  | _ => none
def readParts : List PyData → Mul → Option Mul
  | [], acc => some acc
  | p :: r, acc => (addPart acc p).bind (readParts r)
theorem readParts_app : ∀ (ps qs : List PyData) (acc : Mul), readParts (ps ++ qs) acc = (readParts ps acc).bind (readParts qs)
  | [], qs, acc => rfl
  | p :: ps, qs, acc => by
    show (addPart acc p).bind (readParts (ps ++ qs)) = ((addPart acc p).bind (readParts ps)).bind (readParts qs)
    cases e : addPart acc p with
    | none => rfl
    | some a => exact readParts_app ps qs a
def readSum (d : PyData) : Option (Int × Mul) := match d with
  | .int n => some (n, [])
  | d => match items d with
    | some [.int n, q] => (items q).bind fun ds => (readParts ds []).map fun kvs => (n, form kvs)
    | _ => none
def okPart (p : PyData) : Prop := ∀ x m, items p = some [x, .int m] → (∀ xs, x ≠ .list xs) ∧ shortP x ∧ ∀ u, readUnk x = some u → NmU u
def okSum (d : PyData) : Prop := ∀ n q ds, items d = some [.int n, q] → items q = some ds → ds.length ≤ 1000 ∧ ∀ p ∈ ds, okPart p
def SumV (K : PySem.W.Frag) (H : Hp) (v : V) : Option (Int × Mul) → Prop
  | none => v = .non
  | some (n, ps) => SumT H v n ps
def spReadSum (K : PySem.W.Frag) : Sp := fun vs H Q _ => ∃ v d, vs = [v] ∧ Th K H v d ∧ okSum d ∧ ∀ v' H', Same H H' → SumV K H' v' (readSum d) → Q v' H'
abbrev sReadSum : Stmt := topS 18
theorem scReadSum : FnScope ["thing", "multiples", "part", "unknown"] ["thing"] (defScope sReadSum) := ⟨rfl, rfl, rfl, by decide +kernel, rfl, by decide +kernel, by decide +kernel⟩
theorem row_sq {K : PySem.W.Frag} {H H' : Hp} {a : Addr} {xs : List V} (e : Same H H') (h : SqL K H a xs ∨ SqT K H a xs) : SqL K H' a xs ∨ SqT K H' a xs := h.imp (sqL_same e) (sqT_same e)
theorem ix_row {K : PySem.W.Frag} {H : Hp} {a : Addr} {xs : List V} {i : Int} {v : V} {Q : VK} (h : SqL K H a xs ∨ SqT K H a xs) (e : atI xs i = some v) (q : Q v H) : rIx K (.ref a) (.int i) H Q := by
  rcases h with h | h
  · exact .inl ⟨a, xs, i, v, rfl, rfl, h, e, q⟩
  · exact .inr (.inl ⟨a, xs, i, v, rfl, rfl, h, e, q⟩)
theorem rd_drop {H : Hp} {D b : Addr} {o u : HO} (h : Rd (upd H D o) b u) (h1 : o ≠ u) (h2 : ∀ x, o ≠ .frz x u) : Rd H b u := by
  have hb : b ≠ D := fun z => by
    rcases h with h | ⟨x, h⟩
    · rw [z, upd_same] at h
      exact h1 (Option.some.inj h)
    · rw [z, upd_same] at h
      exact h2 x (Option.some.inj h)
  rcases h with h | ⟨x, h⟩
  · rw [upd_ne hb] at h
    exact .inl h
  · rw [upd_ne hb] at h
    exact .inr ⟨x, h⟩
theorem sqL_drop {K : PySem.W.Frag} {H : Hp} {D b : Addr} {k : List (List Key × V)} {xs : List V} (h : SqL K (upd H D (.dT k)) b xs) : SqL K H b xs := by
  rcases h with h | h
  · exact .inl (rd_drop h (by intro z; cases z) (by intro x z; cases z))
  · exact .inr h
theorem sqT_drop {K : PySem.W.Frag} {H : Hp} {D b : Addr} {k : List (List Key × V)} {xs : List V} (h : SqT K (upd H D (.dT k)) b xs) : SqT K H b xs := by
  rcases h with h | h
  · exact .inl (rd_drop h (by intro z; cases z) (by intro x z; cases z))
  · exact .inr h
theorem row_drop {K : PySem.W.Frag} {H : Hp} {D b : Addr} {k : List (List Key × V)} {xs : List V} (h : SqL K (upd H D (.dT k)) b xs ∨ SqT K (upd H D (.dT k)) b xs) : SqL K H b xs ∨ SqT K H b xs := h.imp sqL_drop sqT_drop
theorem dps_get {K : PySem.W.Frag} {H : Hp} : ∀ {vs : List V} {ds : List PyData}, DpAll K H vs ds → ∀ {i : Nat} {v : V}, vs[i]? = some v → ∃ d, ds[i]? = some d ∧ Dp K H v d
  | _, _, .nil, i, v, h => by simp at h
  | _, _, .cons g t, 0, v, e => by
    obtain rfl : _ = v := Option.some.inj e
    exact ⟨_, rfl, g⟩
  | _, _, .cons g t, i + 1, v, e => dps_get t (i := i) e
theorem parts_split {ds : List PyData} {i : Nat} {dp : PyData} (h : ds[i]? = some dp) : ds = ds.take i ++ dp :: ds.drop (i + 1) := by
  have hi : i < ds.length := (List.getElem?_eq_some_iff.mp h).1
  have e : ds[i] = dp := (List.getElem?_eq_some_iff.mp h).2
  rw [← e, ← List.drop_eq_getElem_cons hi]
  exact (List.take_append_drop i ds).symm
theorem parts_stop {ds : List PyData} {i : Nat} {dp : PyData} {acc : Mul} (h : ds[i]? = some dp) (h1 : readParts (ds.take i) [] = some acc) (h2 : addPart acc dp = none) : readParts ds [] = none := by
  rw [parts_split h, readParts_app, h1]
  show (addPart acc dp).bind _ = none
  rw [h2]
  rfl
theorem parts_more {ds : List PyData} {i : Nat} {dp : PyData} {acc acc' : Mul} (h : ds[i]? = some dp) (h1 : readParts (ds.take i) [] = some acc) (h2 : addPart acc dp = some acc') : readParts (ds.take (i + 1)) [] = some acc' := by
  rw [List.take_add_one, h, readParts_app, h1]
  show (addPart acc dp).bind (readParts []) = some acc'
  rw [h2]
  rfl
theorem getD_val (acc : Mul) (u : List Key) : (valV (vKv acc) u).getD (.int 0) = .int (getI acc u) := by
  rw [valV_kv]
  unfold getI
  cases acc.find? fun kv => decide (kv.1 = u) with
  | none => rfl
  | some p => rfl
/-- two items -/
theorem dps_two {K : PySem.W.Frag} {H : Hp} {xs : List V} {a b : PyData} (h : DpAll K H xs [a, b]) : ∃ x y, xs = [x, y] ∧ Dp K H x a ∧ Dp K H y b := by
  cases h with
  | cons h1 h => cases h with
    | cons h2 h =>
      cases h
      exact ⟨_, _, rfl, h1, h2⟩
theorem rof_two {d : PyData} (h : isRof d 2 = true) : ∃ a b, items d = some [a, b] := by
  unfold isRof at h
  cases e : items d with
  | none => rw [e] at h; cases h
  | some xs =>
    rw [e] at h
    have e' : ((xs.length : Int) = 2) := of_decide_eq_true h
    match xs, e' with
    | [x, y], _ => exact ⟨x, y, rfl⟩
    | [], z => exact absurd z (by decide)
    | [_], z => exact absurd z (by simp)
    | _ :: _ :: _ :: _, z => simp at z; omega
theorem rof_not {d : PyData} (h : isRof d 2 = false) : ∀ a b, items d ≠ some [a, b] := by
  intro a b e
  unfold isRof at h
  rw [e] at h
  cases h
theorem at2 {a b : V} (i : Nat) (v : V) (h : [a, b][i]? = some v) : atI [a, b] (i : Int) = some v := by
  have hi : i < 2 := (List.getElem?_eq_some_iff.mp h).1
  unfold atI ixN
  rw [if_pos (by omega), if_pos (by show (i : Int) < ((2 : Nat) : Int); omega)]
  show ([a, b] : List V)[((i : Int)).toNat]? = _
  rw [Int.toNat_natCast]
  exact h
section
variable {P : Program} {w : World} {K : PySem.W.Frag} {mg : Str → Option Value} {base : Heap}
theorem ok_readSum {f : Addr} {fd : FuncData} (F : Fun K "read_sum" "read_sum" sReadSum f fd) (G1 : Has P w K mg base CX0 3 "is_integer" ["thing"] (spIsInt K)) (G2 : Has P w K mg base CX0 3 "is_row_of" ["thing", "many"] (spIsRowOf K))
    (G3 : Has P w K mg base CX0 3 "is_row" ["thing"] (spIsRow K)) (G4 : Has P w K mg base CX0 3 "read_unknown" ["thing"] (spReadUnk K)) (G5 : Has P w K mg base CX0 3 "one_form" ["number", "multiples"] (spOneForm K)) :
    FnOk P w K mg base CX0 4 f fd ["thing"] (spReadSum K) := by
  refine F.ok scReadSum (fun vs H Q E h => ?_) (fun cdv A outer s H vs Q E hr h => ?_)
  · obtain ⟨v, d, rfl, _⟩ := h
    rfl
  · obtain ⟨v, d, rfl, th, ok, q⟩ := h
    have hu := hu_of hr
    refine ⟨_, (pss_cons (ps_if (pt_val (pe_callH G1 hr (by rfl) pass0 (pa_cons (pv 0) pa_nil))) (pss_one (ps_ret (pe_tup (pa_cons (pv 0) (pa_cons (pe_tup pa_nil) pa_nil))))) pss_nil)
      (pss_cons (ps_if (PW.pt (pw_or (pt_not (pt_val (pe_callH G2 hr (by rfl) pass0 (pa_cons (pv 0) (pa_cons pe_int pa_nil))))) (pw_or (pt_not (pt_val (pe_callH G1 hr (by rfl) pass0 (pa_cons (pe_ix ix_seq (pv 0) pe_int (fun _ _ => rfl)) pa_nil)))) (pw_or1 (pt_not (pt_val (pe_callH G3 hr (by rfl) pass0 (pa_cons (pe_ix ix_seq (pv 0) pe_int (fun _ _ => rfl)) pa_nil)))))))) (pss_one (ps_ret pe_non)) pss_nil)
      (pss_cons (ps_set (i := 1) scReadSum.nd rfl (.inl rfl) (pe_dnewT))
      (pss_cons (ps_for PassesOwn.never rfl (pi_seq (pe_ix ix_seq (pv 0) pe_int (fun _ _ => rfl))) (pg_name (i := 2) scReadSum.nd rfl (.inl rfl)) (pss_cons (ps_if (PW.pt (pw_or (pt_not (pt_val (pe_callH G2 hr (by rfl) pass0 (pa_cons (pv 2) (pa_cons pe_int pa_nil))))) (pw_or1 (pt_not (pt_val (pe_callH G1 hr (by rfl) pass0 (pa_cons (pe_ix ix_seq (pv 2) pe_int (fun _ _ => rfl)) pa_nil))))))) (pss_one (ps_ret pe_non)) pss_nil)
      (pss_cons (ps_set (i := 3) scReadSum.nd rfl (.inl rfl) (pe_callH G4 hr (by rfl) pass0 (pa_cons (pe_ix ix_seq (pv 2) pe_int (fun _ _ => rfl)) pa_nil)))
      (pss_cons (ps_if (pt_cmpR op_isN (pv 3) pe_non (nomark _)) (pss_one (ps_ret pe_non)) pss_nil)
      (pss_one (ps_dput hu (pv 1) (pv 3) (pe_op op_add (pe_dget2 hu (pv 1) (pv 3) pe_int ⟨rfl, rfl, rfl, rfl⟩) (pe_ix ix_seq (pv 2) pe_int (fun _ _ => rfl))) rfl))))))
      (pss_one (ps_ret (pe_callH G5 hr (by rfl) pass0 (pa_cons (pe_ix ix_seq (pv 0) pe_int (fun _ _ => rfl)) (pa_cons (pv 1) pa_nil))))))))), ?_⟩
    refine ⟨_, rfl, v, d, rfl, th, _, rfl, ?_⟩
    cases ei : isI d with
    | true =>
      obtain ⟨n, rfl⟩ : ∃ n, d = .int n := by
        cases d with
        | int n => exact ⟨n, rfl⟩
        | _ => cases ei
      obtain rfl : v = .int n := by
        cases th with
        | dat h => cases h; rfl
      refine iteT ⟨_, rfl, Nat.zero_le _, fun e he => ⟨(by show 2 ≤ sizeLine; decide), fun p hp => ?_⟩⟩
      refine q _ _ ((same_new he).trans (same_new hp)) ?_
      have ee : (upd (upd H e (.tup [])) p (.tup [.int n, .ref e])) e = some (.tup []) := same_new hp _ _ upd_same
      exact ⟨p, e, [], rfl, upd_same, ee, .nil⟩
    | false =>
      refine iteF ?_
      have rs : readSum d = match items d with
        | some [.int n, q] => (items q).bind fun ds => (readParts ds []).map fun kvs => (n, form kvs)
        | _ => none := by
        cases d with
        | int n => cases ei
        | _ => rfl
      refine ⟨_, rfl, v, d, 2, rfl, th, fun H1 sm1 => ⟨_, rfl, ?_⟩⟩
      cases e2 : isRof d 2 with
      | false =>
        refine iteT (q _ _ sm1 ?_)
        have z : readSum d = none := by
          rw [rs]
          split
          · rename_i n q' e
            exact absurd e (rof_not e2 _ _)
          · rfl
        rw [z]
        rfl
      | true =>
        refine iteF ?_
        obtain ⟨d1, dq, e3⟩ := rof_two e2
        obtain ⟨a, xs, rfl, hs, ha⟩ := th_row (th_same sm1 th) e3
        obtain ⟨v1, vq, rfl, h1, h2⟩ := dps_two ha
        refine ⟨_, rfl, ix_row hs (at2 0 v1 rfl) ?_⟩
        refine ⟨v1, d1, rfl, .dat h1, _, rfl, ?_⟩
        cases ei1 : isI d1 with
        | false =>
          refine iteT (q _ _ sm1 ?_)
          have z : readSum d = none := by
            rw [rs, e3]
            cases d1 with
            | int n => cases ei1
            | _ => rfl
          rw [z]
          rfl
        | true =>
          obtain ⟨n, rfl⟩ : ∃ n, d1 = .int n := by
            cases d1 with
            | int n => exact ⟨n, rfl⟩
            | _ => cases ei1
          cases h1
          rw [e3] at rs
          refine iteF ⟨_, rfl, ix_row hs (at2 1 vq rfl) ⟨vq, dq, rfl, .dat h2, fun H2 sm2 => ⟨_, rfl, ?_⟩⟩⟩
          rw [isR_items]
          cases e4 : items dq with
          | none =>
            refine iteT (q _ _ (sm1.trans sm2) ?_)
            have z : readSum d = none := by
              rw [rs]
              show (items dq).bind _ = none
              rw [e4]
              rfl
            rw [z]
            rfl
          | some ds =>
            obtain ⟨hlen, hok⟩ := ok n dq ds e3 e4
            have rs2 : readSum d = (readParts ds []).map fun kvs => (n, form kvs) := by
              rw [rs]
              show (items dq).bind _ = _
              rw [e4]
              rfl
            have hs2 := row_sq sm2 hs
            obtain ⟨b, ys, rfl, hb, hby⟩ := th_row (th_same sm2 (.dat h2)) e4
            refine iteF fun D hD => ?_
            have sm3 := sm1.trans (sm2.trans (same_new (o := .dT []) hD))
            refine ⟨_, rfl, ix_row (row_sq (same_new hD) hs2) (at2 1 _ rfl) ⟨b, ys, rfl, row_sq (same_new hD) hb, fun J G W hG => ?_⟩⟩
            have ly : ys.length = ds.length := dps_len hby
            have keyless : ∀ x ∈ ([] : Mul).map Prod.fst, NmU x := fun x hx => by simp at hx
            refine for_it W (fun i σ H4 => ∃ (acc : Mul) (p u : Option V), σ = [some (.ref a), some (.ref D), p, u] ∧ Same H2 H4 ∧ H4 D = some (.dT (vKv acc)) ∧ readParts (ds.take i) [] = some acc ∧ (∀ x ∈ acc.map Prod.fst, NmU x) ∧ acc.length ≤ i)
              ⟨[], none, none, rfl, same_new hD, upd_same, rfl, keyless, Nat.le_refl _⟩ (fun i σ H4 _ ⟨_, _, _, _, s4, _⟩ => hG H4 (fun z => sqL_same s4 (sqL_drop z)) (fun z => sqT_same s4 (sqT_drop z))) ?_ ?_
            · rintro i x σ H4 H4' hi ⟨acc, p, u, rfl, s4, hD4, hrp, hnm, hal⟩ ⟨rfl, hx⟩
              obtain ⟨dp, hdp, hxd⟩ := dps_get hby hx
              have hxd4 := dp_same s4 hxd
              have hokp := hok dp (List.mem_of_getElem? hdp)
              have stop : addPart acc dp = none → readSum d = none := by
                intro e
                rw [rs2, parts_stop hdp hrp e]
                rfl
              refine ⟨_, rfl, x, dp, 2, rfl, .dat hxd4, fun H5 s5 => ⟨_, rfl, ?_⟩⟩
              cases e5 : isRof dp 2 with
              | false =>
                refine iteT (q _ _ ((sm1.trans sm2).trans (s4.trans s5)) ?_)
                rw [stop (by
                  unfold addPart
                  split
                  · rename_i x' m' e
                    exact absurd e (rof_not e5 _ _)
                  · rfl)]
                rfl
              | true =>
                obtain ⟨pu, pm, e6⟩ := rof_two e5
                obtain ⟨c, zs, rfl, hc, hcd⟩ := th_row (.dat (dp_same s5 hxd4)) e6
                obtain ⟨w1, w2, rfl, g1, g2⟩ := dps_two hcd
                refine iteF ⟨_, rfl, ix_row hc (at2 1 w2 rfl) ⟨w2, pm, rfl, .dat g2, _, rfl, ?_⟩⟩
                cases e7 : isI pm with
                | false =>
                  refine iteT (q _ _ ((sm1.trans sm2).trans (s4.trans s5)) ?_)
                  rw [stop (by
                    unfold addPart
                    rw [e6]
                    cases pm with
                    | int m => cases e7
                    | _ => rfl)]
                  rfl
                | true =>
                  obtain ⟨m, rfl⟩ : ∃ m, pm = .int m := by
                    cases pm with
                    | int m => exact ⟨m, rfl⟩
                    | _ => cases e7
                  cases g2
                  obtain ⟨nl, shp, hnu⟩ := hokp pu m e6
                  refine iteF ⟨_, rfl, ix_row hc (at2 0 w1 rfl) ⟨w1, pu, rfl, .dat g1, nl, shp, fun vu H6 s6 hvu => ?_⟩⟩
                  have ea : addPart acc dp = (readUnk pu).map fun u => putI acc u (getI acc u + m) := by
                    unfold addPart
                    rw [e6]
                  cases e8 : readUnk pu with
                  | none =>
                    rw [e8] at hvu ea
                    obtain rfl : vu = .non := hvu
                    refine ⟨_, rfl, rfl, _, rfl, iteT (q _ _ ((sm1.trans sm2).trans ((s4.trans s5).trans s6)) ?_)⟩
                    rw [stop ea]
                    rfl
                  | some uu =>
                    rw [e8] at hvu ea
                    obtain ⟨au, rfl, hau⟩ := hvu
                    have hD6 : H6 D = some (.dT (vKv acc)) := s6 _ _ (s5 _ _ hD4)
                    refine ⟨_, rfl, rfl, _, rfl, iteF ?_⟩
                    refine ⟨_, rfl, D, rfl, .inr ⟨_, .inl hD6⟩, _, rfl, _, DGet.t hD6 hau, _, rfl, ix_row (row_sq s6 hc) (at2 1 _ rfl) ⟨getI acc uu, m, getD_val acc uu, rfl, ?_⟩⟩
                    have hi2 : i < ds.length := (List.getElem?_eq_some_iff.mp hdp).1
                    refine ⟨_, rfl, _, rfl, D, _, rfl, DPut.t hD6 hau (by
                      show (List.map _ acc).length < sizeLine
                      rw [List.length_map]
                      exact small1000 (by omega)), ?_⟩
                    rw [put_vKv]
                    refine ⟨_, _, _, rfl, fun b o e => ?_, upd_same, parts_more hdp hrp ea, putI_keys (hnu uu e8) hnm, Nat.le_trans (putI_len _ _ _) (by omega)⟩
                    rw [upd_ne (ne_of_none e hD)]
                    exact s6 _ _ (s5 _ _ (s4 _ _ e))
            · rintro σ H4 ⟨acc, p, u, rfl, s4, hD4, hrp, hnm, hal⟩
              rw [ly, List.take_length] at hrp
              rw [ly] at hal
              refine ⟨_, rfl, ix_row (row_sq s4 hs2) (at2 0 _ rfl) ⟨_, rfl, n, D, acc, rfl, hD4, hnm, by omega, fun v' H5 s5 hv => ?_⟩⟩
              refine q _ _ ((sm1.trans sm2).trans (s4.trans s5)) ?_
              rw [rs2, hrp]
              exact hv
end

/-! ### own errors of one field -/
/-- __init__ stores its argument under f -/
def spErrInit (K : PySem.W.Frag) (C : Addr) (f : Str) : Sp := fun vs H Q _ => ∃ a y, vs = [.ref a, y] ∧ H a = some (exo a C none) ∧ ∀ dx, H dx = none → dx ≠ a → Q .non (upd (upd H dx (exd dx [(f, y)])) a (exo a C (some dx)))
/-- what is known of such a class x at C -/
structure Err (P : Program) (w : World) (K : PySem.W.Frag) (mg : Str → Option Value) (base : Heap) (x : Str) (C : Addr) (f : Str) : Prop where
  g : mg x = some (.ref C)
  T : OexC K C
  no : PySem.W.findIn K (.ref C) f = some none
  xf : XfC K C
  te : PySem.W.exmOne K (.ref C) (.ref C) = some true
  ini : ∃ (fI : Addr) (fd : FuncData) (p2 : Str), PySem.W.findIn K (.ref C) "__init__" = some (some (.ref fI)) ∧ PySem.W.typeIn K (.ref fI) = some (.type "function") ∧ Binds K fd ["self", p2] [] ∧ FnOk P w K mg base CX0 1 fI fd ["self", p2] (spErrInit K C f)
theorem err_go {K : PySem.W.Frag} {C : Addr} {f : Str} {y : V} {H1 : Hp} {Q : XK} (q : ∀ dx, H1 dx = none → Q (.ref C) (some dx) (upd H1 dx (.xd [(f, y)]))) :
    [y].length ≤ 1000 ∧ ∀ a, H1 a = none → spErrInit K C f (.ref a :: ([y] ++ [])) (upd H1 a (exo a C none)) (fun v H2 => v = .non ∧ ∃ (d : Addr) (fs : List (Str × V)), H2 a = some (exo a C (some d)) ∧ H2 d = some (exd d fs) ∧ H1 d = none ∧ Q (.ref C) (some d) (upd (del H2 a) d (.xd fs))) (fun _ _ _ => False) := by
  refine ⟨(by show 1 ≤ 1000; decide), fun a ha => ⟨a, y, rfl, upd_same, fun dx hdx hne => ⟨rfl, dx, [(f, y)], upd_same, ?_, ?_, ?_⟩⟩⟩
  · rw [upd_ne hne, upd_same]
  · rw [upd_ne hne] at hdx
    exact hdx
  · have h1 : H1 dx = none := by
      rw [upd_ne hne] at hdx
      exact hdx
    have e : upd (del (upd (upd (upd H1 a (exo a C none)) dx (exd dx [(f, y)])) a (exo a C (some dx))) a) dx (.xd [(f, y)]) = upd H1 dx (.xd [(f, y)]) := by
      funext b
      by_cases hb : b = dx
      · rw [hb, upd_same, upd_same]
      · rw [upd_ne hb, upd_ne hb]
        by_cases hb2 : b = a
        · rw [hb2, del_same, ha]
        · rw [del_ne hb2, upd_ne hb2, upd_ne hb, upd_ne hb2]
    rw [e]
    exact q dx h1
def tRaise1 (K : PySem.W.Frag) (C : Addr) (f : Str) (te : TE) (W : WX) : TS := fun _ σ H => tMkO C (spErrInit K C f) [] (tCons te tNil) σ H fun cls d H' => W cls d σ H'
theorem ps_err {X : Cx} {W : WX} {x f : Str} {C : Addr} {e : Expr} {te : TE} {p pos pos2 : Pos} {k : Nat} (hc : X.calm = true) (tk : Takes X W) (T : Err X.prog X.w X.K X.mg X.base x C f) (hr : Room k X.A) (h2 : 2 ≤ k) (he : PE X e te) (hg : Gl X x := by rfl)
    (hdb : (x == ("__debug__" : Str)) = false := by decide) (hs : starEach (e :: []) X.env = (false, eval e X.env) :: starEach [] X.env := by rfl) (hpl : (backTo pos (starEach [] X.env)).any (·.1) = false := by rfl) :
    PS X (.Raise (some (.Call (.Name x p) [e] [] pos)) none pos2) (tRaise1 X.K C f te W) := by
  obtain ⟨fI, fd, p2, iC, tI, hb, F⟩ := T.ini
  exact ps_raise (pos := pos2) hc tk (pmk_oex (p := p) (pos := pos) T.T iC tI F (hr.mono h2) hb .nil pass0 hg T.g (pa_cons he pa_nil hs) hdb hs hpl)

/-! ### the order of unknowns -/
theorem data_tot {β : Type} (k : β → PyData) : PySem.W.TotalLe (PySem.W.dataLe false k) := by
  unfold PySem.W.dataLe
  exact PySem.W.sortLe_total _ _ _
theorem tot_or {β : Type} {r : β → β → Bool} (h : PySem.W.TotalLe r) (a b : β) : (r a b || r b a) = true := by
  rcases h.total a b with h | h
  · rw [h]
    rfl
  · rw [h, Bool.or_true]
theorem le2_trans : ∀ a b c, le2 a b = true → le2 b c = true → le2 a c = true := (data_tot keyD).trans
theorem le2_total : ∀ a b, (le2 a b || le2 b a) = true := tot_or (data_tot keyD)
theorem str_lt_irr (z : Str) : ¬ z.cps.toList < z.cps.toList := List.lt_irrefl _
theorem str_anti {z z' : Str} (h1 : ¬ z.cps.toList < z'.cps.toList) (h2 : ¬ z'.cps.toList < z.cps.toList) : z = z' := by
  have e : z.cps.toList = z'.cps.toList := List.le_antisymm (List.not_lt.mp h2) (List.not_lt.mp h1)
  obtain ⟨⟨l⟩⟩ := z
  obtain ⟨⟨l'⟩⟩ := z'
  have e' : l = l' := e
  rw [e']
theorem lt_is (i i' : Int) (z z' : Str) : PySem.W.dataLt (.tuple [.int i, .str z]) (.tuple [.int i', .str z']) = decide (i < i' ∨ (i = i' ∧ z.cps.toList < z'.cps.toList)) := by
  rw [PySem.W.dataLt_pair (by simp [PySem.W.alike]) (by simp [PySem.W.alike]), PySem.W.dataLt_int, PySem.W.dataLt_str]
  simp only [PyData.eqv, beq_iff_eq]
  by_cases h1 : i = i'
  · by_cases h2 : z = z'
    · subst h1 h2
      simp [str_lt_irr]
    · simp [h1, h2]
  · simp [h1]
theorem lt_ss (k k' z z' : Str) : PySem.W.dataLt (.tuple [.str k, .str z]) (.tuple [.str k', .str z']) = decide (k.cps.toList < k'.cps.toList ∨ (k = k' ∧ z.cps.toList < z'.cps.toList)) := by
  rw [PySem.W.dataLt_pair (by simp [PySem.W.alike]) (by simp [PySem.W.alike]), PySem.W.dataLt_str, PySem.W.dataLt_str]
  simp only [PyData.eqv, beq_iff_eq]
  by_cases h1 : k = k'
  · by_cases h2 : z = z'
    · subst h1 h2
      simp [str_lt_irr]
    · subst h1
      have z : ¬ k.cps < k.cps := str_lt_irr k
      simp [h2, z]
  · simp [h1]
theorem le2_is {k k' z z' : Str} : le2 [.inr k, .inr z] [.inr k', .inr z'] = !decide ((rank k').getD 0 < (rank k).getD 0 ∨ ((rank k').getD 0 = (rank k).getD 0 ∧ z'.cps.toList < z.cps.toList)) := by
  show (!PySem.W.dataLt (keyD [.inr k', .inr z']) (keyD [.inr k, .inr z])) = _
  show (!PySem.W.dataLt (.tuple [.int ((rank k').getD 0), .str z']) (.tuple [.int ((rank k).getD 0), .str z])) = _
  rw [lt_is]
theorem not_of {p : Prop} [Decidable p] (h : (!decide p) = true) : ¬ p := fun z => by
  rw [decide_eq_true z] at h
  cases h
theorem rank_inj {k k' : Str} (h : (rank k).isSome = true) (h' : (rank k').isSome = true) (e : (rank k).getD 0 = (rank k').getD 0) : k = k' := by
  unfold rank at *
  by_cases a1 : k = sPiece <;> by_cases a2 : k = sName <;> by_cases a3 : k = sIn <;> by_cases b1 : k' = sPiece <;> by_cases b2 : k' = sName <;> by_cases b3 : k' = sIn <;> simp_all
theorem le2_anti : ∀ a b, NmU a → NmU b → le2 a b = true → le2 b a = true → a = b := by
  rintro a b ⟨k, z, rfl, hk⟩ ⟨k', z', rfl, hk'⟩ h1 h2
  rw [le2_is] at h1 h2
  have g1 := not_of h1
  have g2 := not_of h2
  rw [not_or] at g1 g2
  have er : (rank k).getD 0 = (rank k').getD 0 := by omega
  have ek := rank_inj hk hk' er
  subst ek
  have ez : z = z' := str_anti (fun l => g2.2 ⟨rfl, l⟩) (fun l => g1.2 ⟨rfl, l⟩)
  rw [ez]
/-! ### sums as sums over their parts -/
/-- the parts' worth, each unknown worth F of it -/
def lin (F : List Key → Int) : Mul → Int
  | [] => 0
  | p :: l => p.2 * F p.1 + lin F l
theorem lin_app (F : List Key → Int) : ∀ l m : Mul, lin F (l ++ m) = lin F l + lin F m
  | [], m => by simp [lin]
  | p :: l, m => by
    show p.2 * F p.1 + lin F (l ++ m) = _
    rw [lin_app F l m]
    simp only [lin]
    omega
def NodK (l : Mul) : Prop := (l.map (·.1)).Nodup
theorem getI_nil (u : List Key) : getI [] u = 0 := rfl
theorem getI_cons (p : List Key × Int) (l : Mul) (u : List Key) : getI (p :: l) u = if p.1 = u then p.2 else getI l u := by
  unfold getI
  rw [List.find?_cons]
  by_cases h : p.1 = u
  · simp [h]
  · simp [h]
theorem getI_not {l : Mul} {u : List Key} (h : u ∉ l.map (·.1)) : getI l u = 0 := by
  induction l with
  | nil => rfl
  | cons p l ih =>
    rw [List.map_cons, List.mem_cons, not_or] at h
    rw [getI_cons, if_neg fun e => h.1 e.symm]
    exact ih h.2
theorem any_key {l : Mul} {u : List Key} : (l.any fun kv => decide (kv.1 = u)) = true ↔ u ∈ l.map (·.1) := by
  rw [List.any_eq_true, List.mem_map]
  constructor
  · rintro ⟨p, hp, e⟩
    exact ⟨p, hp, of_decide_eq_true e⟩
  · rintro ⟨p, hp, e⟩
    exact ⟨p, hp, decide_eq_true e⟩
theorem map_not {l : Mul} {u : List Key} (m : Int) (h : u ∉ l.map (·.1)) : l.map (fun kv => if kv.1 = u then (kv.1, m) else kv) = l := by
  induction l with
  | nil => rfl
  | cons p l ih =>
    rw [List.map_cons, List.mem_cons, not_or] at h
    rw [List.map_cons, ih h.2, if_neg fun e => h.1 e.symm]
theorem putI_in {l : Mul} {u : List Key} (m : Int) (h : u ∈ l.map (·.1)) : (putI l u m).map (·.1) = l.map (·.1) := by
  unfold putI
  rw [if_pos (any_key.mpr h), List.map_map]
  apply List.map_congr_left
  intro p _
  show (if p.1 = u then (p.1, m) else p).1 = p.1
  split <;> rfl
theorem putI_out {l : Mul} {u : List Key} (m : Int) (h : u ∉ l.map (·.1)) : putI l u m = l ++ [(u, m)] := by
  unfold putI
  rw [if_neg (fun z => h (any_key.mp z))]
theorem nodK_put {l : Mul} (h : NodK l) (u : List Key) (m : Int) : NodK (putI l u m) := by
  unfold NodK
  cases Classical.em (u ∈ l.map (·.1)) with
  | inl z =>
    rw [putI_in m z]
    exact h
  | inr z =>
    rw [putI_out m z, List.map_append]
    refine List.nodup_append.mpr ⟨h, (by simp), fun a ha b hb e => ?_⟩
    have hb' : b = u := by simpa using hb
    exact z (hb' ▸ e ▸ ha)
theorem lin_map {F : List Key → Int} {u : List Key} {m : Int} : ∀ {l : Mul}, NodK l → u ∈ l.map (·.1) → lin F (l.map (fun kv => if kv.1 = u then (kv.1, m) else kv)) = lin F l + (m - getI l u) * F u
  | [], _, h => by simp at h
  | p :: l, nd, h => by
    have nd' := List.nodup_cons.mp (show (p.1 :: l.map (·.1)).Nodup from nd)
    rw [List.map_cons]
    by_cases c : p.1 = u
    · rw [if_pos c, map_not m (c ▸ nd'.1), getI_cons, if_pos c]
      show m * F p.1 + lin F l = p.2 * F p.1 + lin F l + _
      rw [c, Int.sub_mul]
      omega
    · have h2 : u ∈ l.map (·.1) := by
        rcases List.mem_cons.mp h with z | z
        · exact absurd z.symm c
        · exact z
      rw [if_neg c, getI_cons, if_neg c]
      show p.2 * F p.1 + lin F _ = p.2 * F p.1 + lin F l + _
      rw [lin_map nd'.2 h2]
      omega
theorem lin_put {F : List Key → Int} {l : Mul} (nd : NodK l) (u : List Key) (m : Int) : lin F (putI l u (getI l u + m)) = lin F l + m * F u := by
  unfold putI
  by_cases h : u ∈ l.map (·.1)
  · rw [if_pos (any_key.mpr h), lin_map nd h]
    have e : getI l u + m - getI l u = m := by omega
    rw [e]
  · rw [if_neg (fun z => h (any_key.mp z)), lin_app, getI_not h]
    simp [lin]
/-- whether it is v -/
def isU (v : List Key) (u : List Key) : Int := if u = v then 1 else 0
theorem getI_lin {l : Mul} (nd : NodK l) (v : List Key) : getI l v = lin (isU v) l := by
  induction l with
  | nil => rfl
  | cons p l ih =>
    have nd' := List.nodup_cons.mp (show (p.1 :: l.map (·.1)).Nodup from nd)
    rw [getI_cons]
    show _ = p.2 * isU v p.1 + lin (isU v) l
    rw [← ih nd'.2]
    unfold isU
    by_cases c : p.1 = v
    · rw [if_pos c, if_pos c, getI_not (c ▸ nd'.1)]
      omega
    · rw [if_neg c, if_neg c]
      omega
theorem lin_perm {F : List Key → Int} {l m : Mul} (h : l.Perm m) : lin F l = lin F m := by
  induction h with
  | nil => rfl
  | cons x _ ih => simp only [lin, ih]
  | swap x y l =>
    simp only [lin]
    omega
  | trans _ _ i1 i2 => exact i1.trans i2
theorem lin_keys {F : List Key → Int} (g : List Key → Int) : ∀ us : List (List Key), lin F ((us.filter fun u => !decide (g u = 0)).map fun u => (u, g u)) = lin F (us.map fun u => (u, g u))
  | [] => rfl
  | u :: us => by
    rw [List.filter_cons, List.map_cons]
    show _ = g u * F u + lin F _
    rw [← lin_keys g us]
    by_cases c : g u = 0
    · simp [c]
    · simp [c, lin]
theorem lin_self {F : List Key → Int} : ∀ {l : Mul}, NodK l → (l.map (·.1)).map (fun u => (u, getI l u)) = l
  | [], _ => rfl
  | p :: l, nd => by
    have nd' := List.nodup_cons.mp (show (p.1 :: l.map (·.1)).Nodup from nd)
    rw [List.map_cons, List.map_cons, getI_cons, if_pos rfl]
    refine congrArg (p :: ·) (Eq.trans ?_ (lin_self (F := F) nd'.2))
    apply List.map_congr_left
    intro u hu
    rw [getI_cons, if_neg]
    intro e
    exact nd'.1 (e ▸ hu)
theorem lin_form {F : List Key → Int} {l : Mul} (nd : NodK l) : lin F (form l) = lin F l := by
  unfold form
  rw [lin_perm ((List.mergeSort_perm (keysN l) le2).map fun u => (u, getI l u))]
  unfold keysN
  rw [lin_keys (getI l), lin_self (F := F) nd]
theorem keysN_mem {l : Mul} {u : List Key} : u ∈ keysN l ↔ getI l u ≠ 0 := by
  unfold keysN
  rw [List.mem_filter]
  constructor
  · rintro ⟨_, h⟩ e
    simp [e] at h
  · intro h
    refine ⟨?_, by simp [h]⟩
    cases Classical.em (u ∈ l.map (·.1)) with
    | inl z => exact z
    | inr z => exact absurd (getI_not z) h
theorem keysN_nod {l : Mul} (nd : NodK l) : (keysN l).Nodup := List.Nodup.sublist List.filter_sublist nd
def NmK (l : Mul) : Prop := ∀ u ∈ l.map (·.1), NmU u
theorem keysN_nm {l : Mul} (h : NmK l) : ∀ u ∈ keysN l, NmU u := fun u hu => h u (List.mem_filter.mp hu).1
/-- a row of unknowns in order is the one in order -/
theorem sort_one {us vs : List (List Key)} (h : ∀ u ∈ us, NmU u) (p : us.Perm vs) (o : us.Pairwise fun a b => le2 a b = true) : vs.mergeSort le2 = us := by
  have pm : us.Perm (vs.mergeSort le2) := p.trans (List.mergeSort_perm vs le2).symm
  have o2 : (vs.mergeSort le2).Pairwise fun a b => le2 a b = true := List.pairwise_mergeSort le2_trans le2_total vs
  exact (pm.eq_of_pairwise (fun a b ha hb h1 h2 => le2_anti a b (h a ha) (h b (pm.mem_iff.mpr hb)) h1 h2) o o2).symm
theorem form_eq {l m : Mul} (nl : NodK l) (nm : NodK m) (kl : NmK l) (e : ∀ u, getI l u = getI m u) : form l = form m := by
  have hp : (keysN l).Perm (keysN m) := (List.perm_ext_iff_of_nodup (keysN_nod nl) (keysN_nod nm)).mpr fun u => by rw [keysN_mem, keysN_mem, e u]
  have q : (keysN m).mergeSort le2 = (keysN l).mergeSort le2 := by
    refine sort_one (fun u hu => keysN_nm kl u ((List.mergeSort_perm _ _).mem_iff.mp hu)) ((List.mergeSort_perm _ _).trans hp) ?_
    exact List.pairwise_mergeSort le2_trans le2_total _
  unfold form
  rw [q]
  apply List.map_congr_left
  intro u _
  rw [e u]
/-! ### the law's own form -/
/-- unknowns as tuples in their order -/
def leT : List Key → List Key → Bool := PySem.W.dataLe false unkD
def isK (k : Str) (u : List Key) : Bool := match u with
  | [.inr k', .inr _] => decide (k' = k)
  | _ => false
/-- a piece or a name -/
def PnU (u : List Key) : Prop := ∃ k z, u = [.inr k, .inr z] ∧ (k = sPiece ∨ k = sName)
theorem pn_nm {u : List Key} (h : PnU u) : NmU u := by
  obtain ⟨k, z, rfl, h⟩ := h
  refine ⟨k, z, rfl, ?_⟩
  rcases h with rfl | rfl <;> decide +kernel
def partsT (kvs : Mul) : Mul := ((((kvs.map (·.1)).mergeSort leT).filter fun u => isK sPiece u && !decide (getI kvs u = 0)) ++ (((kvs.map (·.1)).mergeSort leT).filter fun u => isK sName u && !decide (getI kvs u = 0))).map fun u => (u, getI kvs u)
theorem leT_is {k k' z z' : Str} : leT [.inr k, .inr z] [.inr k', .inr z'] = !decide (k'.cps.toList < k.cps.toList ∨ (k' = k ∧ z'.cps.toList < z.cps.toList)) := by
  show (!PySem.W.dataLt (.tuple [.str k', .str z']) (.tuple [.str k, .str z])) = _
  rw [lt_ss]
theorem leT_pw (us : List (List Key)) : (us.mergeSort leT).Pairwise fun a b => leT a b = true := List.pairwise_mergeSort (data_tot unkD).trans (tot_or (data_tot unkD)) us
theorem isK_kind {k : Str} {u : List Key} (h : isK k u = true) : ∃ z, u = [.inr k, .inr z] := by
  unfold isK at h
  split at h
  · rename_i k' z
    exact ⟨z, by rw [of_decide_eq_true h]⟩
  · cases h
theorem same_kind {k : Str} {a b : List Key} (ha : isK k a = true) (hb : isK k b = true) (h : leT a b = true) : le2 a b = true := by
  obtain ⟨z, rfl⟩ := isK_kind ha
  obtain ⟨z', rfl⟩ := isK_kind hb
  rw [leT_is] at h
  rw [le2_is]
  have g := not_of h
  rw [not_or] at g
  have g2 : ¬ ((rank k).getD 0 < (rank k).getD 0 ∨ ((rank k).getD 0 = (rank k).getD 0 ∧ z'.cps.toList < z.cps.toList)) := by
    rintro (c | ⟨_, c⟩)
    · exact absurd c (Int.lt_irrefl _)
    · exact g.2 ⟨rfl, c⟩
  rw [decide_eq_false g2]
  rfl
theorem other_kind {a b : List Key} (ha : isK sPiece a = true) (hb : isK sName b = true) : le2 a b = true := by
  obtain ⟨z, rfl⟩ := isK_kind ha
  obtain ⟨z', rfl⟩ := isK_kind hb
  rw [le2_is]
  have e1 : (rank sPiece).getD 0 = 0 := by decide +kernel
  have e2 : (rank sName).getD 0 = 1 := by decide +kernel
  rw [e1, e2]
  rw [decide_eq_false (by omega)]
  rfl
theorem filt_pw {k : Str} {us : List (List Key)} (q : List Key → Bool) (h : us.Pairwise fun a b => leT a b = true) : (us.filter fun u => isK k u && q u).Pairwise fun a b => le2 a b = true := by
  refine List.Pairwise.imp_of_mem (R := fun a b => leT a b = true) (fun {a b} ha hb z => ?_) (h.sublist List.filter_sublist)
  have h1 := (List.mem_filter.mp ha).2
  have h2 := (List.mem_filter.mp hb).2
  rw [Bool.and_eq_true] at h1 h2
  exact same_kind h1.1 h2.1 z
theorem isK_not {u : List Key} (h : PnU u) : isK sName u = !isK sPiece u := by
  obtain ⟨k, z, rfl, h⟩ := h
  rcases h with rfl | rfl
  · show decide (sPiece = sName) = !decide (sPiece = sPiece)
    decide +kernel
  · show decide (sName = sName) = !decide (sName = sPiece)
    decide +kernel
theorem filt_split {q : List Key → Bool} : ∀ {us : List (List Key)}, (∀ u ∈ us, PnU u) → ((us.filter fun u => isK sPiece u && q u) ++ (us.filter fun u => isK sName u && q u)).Perm (us.filter q) := by
  intro us h
  have e1 : (us.filter fun u => isK sPiece u && q u) = (us.filter q).filter (isK sPiece) := by
    rw [List.filter_filter]
  have e2 : (us.filter fun u => isK sName u && q u) = (us.filter q).filter (fun u => !isK sPiece u) := by
    rw [List.filter_filter]
    apply List.filter_congr
    intro u hu
    rw [isK_not (h u hu)]
  rw [e1, e2]
  exact List.filter_append_perm _ _
theorem partsT_form {kvs : Mul} (h : ∀ u ∈ kvs.map (·.1), PnU u) : partsT kvs = form kvs := by
  have hs : ∀ u ∈ (kvs.map (·.1)).mergeSort leT, PnU u := fun u hu => h u ((List.mergeSort_perm _ _).mem_iff.mp hu)
  have pw := leT_pw (kvs.map (·.1))
  have e := sort_one (us := (((kvs.map (·.1)).mergeSort leT).filter fun u => isK sPiece u && !decide (getI kvs u = 0)) ++ (((kvs.map (·.1)).mergeSort leT).filter fun u => isK sName u && !decide (getI kvs u = 0))) (vs := keysN kvs) (fun u hu => ?_) ?_ ?_
  · unfold partsT form
    rw [e]
  · rcases List.mem_append.mp hu with z | z
    · exact pn_nm (hs u (List.mem_filter.mp z).1)
    · exact pn_nm (hs u (List.mem_filter.mp z).1)
  · refine (filt_split (q := fun u => !decide (getI kvs u = 0)) hs).trans ?_
    unfold keysN
    exact (List.mergeSort_perm _ _).filter _
  · refine List.pairwise_append.mpr ⟨filt_pw _ pw, filt_pw _ pw, fun a ha b hb => ?_⟩
    have h1 := (List.mem_filter.mp ha).2
    have h2 := (List.mem_filter.mp hb).2
    rw [Bool.and_eq_true] at h1 h2
    exact other_kind h1.1 h2.1
/-! ### what is put in -/
/-- one part added -/
def addP (kvs : Mul) (u : List Key) (m : Int) : Mul := putI kvs u (getI kvs u + m)
/-- a number and parts, labels put in: g tells a label's address -/
def putIn (g : Str → Option Int) (p : Str) (s : Int × Mul) (q : List Key × Int) : Int × Mul := match q.1 with
  | [.inr k, .inr z] => if k = sName then (match g z with
    | some o => (s.1 + q.2 * o, addP s.2 [.inr sPiece, .inr p] q.2)
    | none => (s.1, addP s.2 q.1 q.2)) else (s.1, addP s.2 q.1 q.2)
  | _ => (s.1, addP s.2 q.1 q.2)
/-- what an unknown is put in as, and its worth -/
def subU (g : Str → Option Int) (p : Str) (u : List Key) : List Key := match u with
  | [.inr k, .inr z] => if k = sName ∧ (g z).isSome = true then [.inr sPiece, .inr p] else u
  | _ => u
def subN (g : Str → Option Int) (u : List Key) : Int := match u with
  | [.inr k, .inr z] => if k = sName then (g z).getD 0 else 0
  | _ => 0
theorem putIn_eq (g : Str → Option Int) (p : Str) (s : Int × Mul) (q : List Key × Int) : putIn g p s q = (s.1 + q.2 * subN g q.1, addP s.2 (subU g p q.1) q.2) := by
  obtain ⟨u, m⟩ := q
  have z : ∀ a : Int, a = a + m * 0 := fun a => by omega
  match u with
  | [.inr k, .inr y] =>
    unfold putIn subN subU
    by_cases c : k = sName
    · subst c
      cases hg : g y with
      | none => simp [hg]
      | some o => simp [hg]
    · simp [c]
  | [] => exact congrArg (·, _) (z _)
  | [.inl _] => exact congrArg (·, _) (z _)
  | [.inr _] => exact congrArg (·, _) (z _)
  | [.inl _, _] => exact congrArg (·, _) (z _)
  | [.inr _, .inl _] => exact congrArg (·, _) (z _)
  | .inl _ :: _ :: _ :: _ => exact congrArg (·, _) (z _)
  | .inr _ :: .inl _ :: _ :: _ => exact congrArg (·, _) (z _)
  | .inr _ :: .inr _ :: _ :: _ => exact congrArg (·, _) (z _)
def putAll (g : Str → Option Int) (p : Str) (n : Int) (l : Mul) : Int × Mul := l.foldl (putIn g p) (n, [])
theorem putAll_go (g : Str → Option Int) (p : Str) : ∀ (l : Mul) (s : Int × Mul), NodK s.2 → (l.foldl (putIn g p) s).1 = s.1 + lin (subN g) l ∧ NodK (l.foldl (putIn g p) s).2 ∧ ∀ F, lin F (l.foldl (putIn g p) s).2 = lin F s.2 + lin (fun u => F (subU g p u)) l
  | [], s, nd => ⟨by simp [lin], nd, fun F => by simp [lin]⟩
  | q :: l, s, nd => by
    rw [List.foldl_cons]
    have nd2 : NodK (putIn g p s q).2 := by
      rw [putIn_eq]
      exact nodK_put nd _ _
    obtain ⟨h1, h2, h3⟩ := putAll_go g p l (putIn g p s q) nd2
    refine ⟨?_, h2, fun F => ?_⟩
    · rw [h1, putIn_eq]
      simp only [lin]
      omega
    · rw [h3 F, putIn_eq]
      unfold addP
      rw [lin_put nd]
      simp only [lin]
      omega
theorem putAll_eq {g : Str → Option Int} {p : Str} {n : Int} {l m : Mul} (h : ∀ F, lin F l = lin F m) : (putAll g p n l).1 = (putAll g p n m).1 ∧ ∀ u, getI (putAll g p n l).2 u = getI (putAll g p n m).2 u := by
  have nd : NodK ((n, []) : Int × Mul).2 := List.nodup_nil
  obtain ⟨a1, a2, a3⟩ := putAll_go g p l (n, []) nd
  obtain ⟨b1, b2, b3⟩ := putAll_go g p m (n, []) nd
  refine ⟨?_, fun u => ?_⟩
  · unfold putAll
    rw [a1, b1, h]
  · unfold putAll
    rw [getI_lin a2, getI_lin b2, a3, b3, h]
theorem addP_keys {l : Mul} {u : List Key} {m : Int} {Pr : List Key → Prop} (h : ∀ x ∈ l.map (·.1), Pr x) (hu : Pr u) : ∀ x ∈ (addP l u m).map (·.1), Pr x := by
  unfold addP
  intro x hx
  cases Classical.em (u ∈ l.map (·.1)) with
  | inl z =>
    rw [putI_in _ z] at hx
    exact h x hx
  | inr z =>
    rw [putI_out _ z, List.map_append] at hx
    rcases List.mem_append.mp hx with hx | hx
    · exact h x hx
    · have e : x = u := by simpa using hx
      rw [e]
      exact hu
theorem subU_pn {g : Str → Option Int} {p : Str} {u : List Key} (h : PnU u) : PnU (subU g p u) := by
  obtain ⟨k, z, rfl, hk⟩ := h
  unfold subU
  dsimp only
  split
  · exact ⟨_, _, rfl, .inl rfl⟩
  · exact ⟨k, z, rfl, hk⟩
theorem putAll_pn {g : Str → Option Int} {p : Str} : ∀ {l : Mul} {s : Int × Mul}, (∀ u ∈ l.map (·.1), PnU u) → (∀ u ∈ s.2.map (·.1), PnU u) → ∀ u ∈ (l.foldl (putIn g p) s).2.map (·.1), PnU u
  | [], s, _, h => h
  | q :: l, s, hl, h => by
    rw [List.foldl_cons]
    refine putAll_pn (fun u hu => hl u (List.mem_cons_of_mem _ hu)) ?_
    rw [putIn_eq]
    exact addP_keys h (subU_pn (hl q.1 (List.mem_cons_self ..)))
theorem addP_len (l : Mul) (u : List Key) (m : Int) : (addP l u m).length ≤ l.length + 1 := putI_len _ _ _
theorem putAll_len {g : Str → Option Int} {p : Str} : ∀ (l : Mul) (s : Int × Mul), (l.foldl (putIn g p) s).2.length ≤ s.2.length + l.length
  | [], s => Nat.le_refl _
  | q :: l, s => by
    rw [List.foldl_cons]
    refine Nat.le_trans (putAll_len l _) ?_
    rw [putIn_eq, List.length_cons]
    have := addP_len s.2 (subU g p q.1) q.2
    show (addP s.2 _ _).length + _ ≤ _
    omega
/-- the parts of a sum, added up -/
def accAll (l : Mul) : Mul := l.foldl (fun a q => addP a q.1 q.2) []
theorem acc_go : ∀ (l s : Mul), NodK s → NodK (l.foldl (fun a q => addP a q.1 q.2) s) ∧ ∀ F, lin F (l.foldl (fun a q => addP a q.1 q.2) s) = lin F s + lin F l
  | [], s, nd => ⟨nd, fun F => by simp [lin]⟩
  | q :: l, s, nd => by
    rw [List.foldl_cons]
    obtain ⟨h1, h2⟩ := acc_go l (addP s q.1 q.2) (nodK_put nd _ _)
    refine ⟨h1, fun F => ?_⟩
    rw [h2 F]
    unfold addP
    rw [lin_put nd]
    simp only [lin]
    omega
theorem acc_lin (l : Mul) (F : List Key → Int) : lin F (form (accAll l)) = lin F l := by
  obtain ⟨h1, h2⟩ := acc_go l [] List.nodup_nil
  unfold accAll
  rw [lin_form h1, h2]
  simp [lin]
/-- what the program's way and the law's way come to is one -/
theorem ways_one {g : Str → Option Int} {p : Str} {n : Int} {l : Mul} (h : ∀ u ∈ l.map (·.1), PnU u) : (putAll g p n (form (accAll l))).1 = (putAll g p n l).1 ∧ form (putAll g p n (form (accAll l))).2 = partsT (putAll g p n l).2 := by
  obtain ⟨e1, e2⟩ := putAll_eq (g := g) (p := p) (n := n) (l := form (accAll l)) (m := l) (acc_lin l)
  have nd : NodK ((n, []) : Int × Mul).2 := List.nodup_nil
  have k2 : ∀ u ∈ (putAll g p n l).2.map (·.1), PnU u := putAll_pn h (fun u hu => by simp at hu)
  refine ⟨e1, ?_⟩
  rw [partsT_form k2]
  refine (form_eq (putAll_go g p l (n, []) nd).2.1 (putAll_go g p _ (n, []) nd).2.1 (fun u hu => pn_nm (k2 u hu)) fun u => (e2 u).symm).symm

/-! ### words of drafts -/
theorem dps_ints {K : PySem.W.Frag} {H : Hp} : ∀ ks : List Int, DpAll K H (ks.map V.int) (ks.map PyData.int)
  | [] => .nil
  | k :: ks => .cons (.int k) (dps_ints ks)
theorem del_same_of {H H' : Hp} {D : Addr} (e : Same H H') : Same (del H D) (del H' D) := fun b o hb => by
  by_cases h : b = D
  · rw [h, del_same] at hb; cases hb
  · rw [del_ne h] at hb ⊢
    exact e _ _ hb
theorem del_sub {H : Hp} {D : Addr} : Same (del H D) H := fun b o hb => by
  by_cases h : b = D
  · rw [h, del_same] at hb; cases hb
  · rw [del_ne h] at hb
    exact hb
theorem del_upd {H : Hp} {D : Addr} {o : HO} : del (upd H D o) D = del H D := by
  funext b
  by_cases h : b = D
  · rw [h, del_same, del_same]
  · rw [del_ne h, del_ne h, upd_ne h]
/-- the names that occur -/
def nmS : List Str := ["la", "lb", "lc", "ld", "away", "m", "other", "code"]
theorem nmS_ok : ∀ z ∈ nmS, isNmS z = true ∧ z.length ≤ 1000 ∧ PyData.strOk z = true := by decide +kernel
theorem str_kinds : PyData.strOk sPiece = true ∧ PyData.strOk sName = true := by decide +kernel
def OkU (u : List Key) : Prop := ∃ k z, u = [.inr k, .inr z] ∧ (k = sPiece ∨ k = sName) ∧ z ∈ nmS
def OkM : WordM → Prop
  | .num _ => True
  | .sum _ l => l.length ≤ 4 ∧ ∀ q ∈ l, OkU q.1 ∧ -4 ≤ q.2 ∧ q.2 ≤ 4
/-- a word as it is told, and as it is read -/
def rawD : WordM → PyData
  | .num k => .int k
  | .sum n l => sumD n l
def readM : WordM → Int × Mul
  | .num k => (k, [])
  | .sum n l => (n, form (accAll l))
def readD (w : WordM) : PyData := sumD (readM w).1 (readM w).2
theorem okU_pn {u : List Key} (h : OkU u) : PnU u := by
  obtain ⟨k, z, e, hk, _⟩ := h
  exact ⟨k, z, e, hk⟩
theorem okU_nm {u : List Key} (h : OkU u) : NmU u := pn_nm (okU_pn h)
theorem okU_read {u : List Key} (h : OkU u) : readUnk (unkD u) = some u := by
  obtain ⟨k, z, rfl, hk, hz⟩ := h
  obtain ⟨h1, _⟩ := nmS_ok z hz
  show unkOf k (.str z) = _
  unfold unkOf ofKey
  rcases hk with rfl | rfl
  · rw [show rank sPiece = some 0 by decide +kernel, if_neg (by decide +kernel)]
    simp [h1]
  · rw [show rank sName = some 1 by decide +kernel, if_neg (by decide +kernel)]
    simp [h1]
theorem readParts_ok : ∀ {l acc : Mul}, (∀ q ∈ l, OkU q.1) → readParts (l.map partD) acc = some (l.foldl (fun a q => addP a q.1 q.2) acc)
  | [], acc, _ => rfl
  | q :: l, acc, h => by
    have e : addPart acc (partD q) = some (addP acc q.1 q.2) := by
      show (readUnk (unkD q.1)).map _ = _
      rw [okU_read (h q (List.mem_cons_self ..))]
      rfl
    show (addPart acc (partD q)).bind (readParts (l.map partD)) = _
    rw [e]
    exact readParts_ok fun q' hq => h q' (List.mem_cons_of_mem _ hq)
theorem read_ok {w : WordM} (h : OkM w) : readSum (rawD w) = some ((readM w).1, (readM w).2) := by
  cases w with
  | num k => rfl
  | sum n l =>
    show ((readParts (l.map partD) []).map fun kvs => (n, form kvs)) = _
    rw [readParts_ok fun q hq => (h.2 q hq).1]
    rfl
theorem okSum_ok {w : WordM} (h : OkM w) : okSum (rawD w) := by
  cases w with
  | num k => exact fun n q ds e => by cases e
  | sum n l =>
    intro n' q ds e1 e2
    have e1' : some [PyData.int n, .tuple (l.map partD)] = some [.int n', q] := e1
    cases e1'
    cases e2
    refine ⟨by rw [List.length_map]; have := h.1; omega, fun p hp => ?_⟩
    obtain ⟨⟨u, m⟩, hq, rfl⟩ := List.mem_map.mp hp
    obtain ⟨⟨k, z, e, hk, hz⟩, _⟩ := h.2 _ hq
    have e : u = [.inr k, .inr z] := e
    subst e
    intro x m' e3
    have e3' : some [unkD [.inr k, .inr z], PyData.int m] = some [x, .int m'] := e3
    cases e3'
    refine ⟨fun xs c => (by cases c), ⟨?_, (nmS_ok z hz).2.1⟩, fun u' hu' => ?_⟩
    · show k.length ≤ 1000
      rcases hk with rfl | rfl <;> decide +kernel
    · have ou : OkU [.inr k, .inr z] := ⟨k, z, rfl, hk, hz⟩
      rw [okU_read ou] at hu'
      rw [← Option.some.inj hu']
      exact okU_nm ou
theorem acc_keys {Pr : List Key → Prop} : ∀ {l acc : Mul}, (∀ q ∈ l, Pr q.1) → (∀ u ∈ acc.map (·.1), Pr u) → ∀ u ∈ (l.foldl (fun a q => addP a q.1 q.2) acc).map (·.1), Pr u
  | [], acc, _, h => h
  | q :: l, acc, hl, h => by
    rw [List.foldl_cons]
    exact acc_keys (fun q' hq => hl q' (List.mem_cons_of_mem _ hq)) (addP_keys h (hl q (List.mem_cons_self ..)))
theorem acc_len : ∀ (l acc : Mul), (l.foldl (fun a q => addP a q.1 q.2) acc).length ≤ acc.length + l.length
  | [], acc => Nat.le_refl _
  | q :: l, acc => by
    rw [List.foldl_cons]
    refine Nat.le_trans (acc_len l _) ?_
    have := addP_len acc q.1 q.2
    rw [List.length_cons]
    omega
theorem form_keys {l : Mul} {u : List Key} (h : u ∈ (form l).map (·.1)) : u ∈ l.map (·.1) ∧ getI l u ≠ 0 := by
  unfold form at h
  rw [List.map_map] at h
  obtain ⟨u', hu, rfl⟩ := List.mem_map.mp h
  have hk := (List.mergeSort_perm _ _).mem_iff.mp hu
  exact ⟨(List.mem_filter.mp hk).1, keysN_mem.mp hk⟩
theorem form_len (l : Mul) : (form l).length ≤ l.length := by
  unfold form keysN
  rw [List.length_map, (List.mergeSort_perm _ _).length_eq]
  refine Nat.le_trans (List.length_filter_le _ _) ?_
  rw [List.length_map]
  exact Nat.le_refl _
theorem form_val {l : Mul} {q : List Key × Int} (h : q ∈ form l) : q.2 = getI l q.1 := by
  unfold form at h
  obtain ⟨u, _, rfl⟩ := List.mem_map.mp h
  rfl
theorem lin_small {v : List Key} : ∀ {l : Mul}, (∀ q ∈ l, -4 ≤ q.2 ∧ q.2 ≤ 4) → -(4 * (l.length : Int)) ≤ lin (isU v) l ∧ lin (isU v) l ≤ 4 * (l.length : Int)
  | [], _ => by simp [lin]
  | q :: l, h => by
    have ih := lin_small (v := v) (l := l) fun q' hq => h q' (List.mem_cons_of_mem _ hq)
    have hq := h q (List.mem_cons_self ..)
    simp only [lin, List.length_cons]
    have e : isU v q.1 = 0 ∨ isU v q.1 = 1 := by
      unfold isU
      split
      · exact .inr rfl
      · exact .inl rfl
    rcases e with e | e
    · rw [e]
      omega
    · rw [e]
      omega
def SmM (ps : Mul) : Prop := ∀ q ∈ ps, -(2 ^ 63) ≤ q.2 ∧ q.2 ≤ 2 ^ 63
theorem readM_sm {w : WordM} (h : OkM w) : SmM (readM w).2 ∧ (∀ u ∈ (readM w).2.map (·.1), OkU u) ∧ (readM w).2.length ≤ 4 := by
  cases w with
  | num k => exact ⟨fun q hq => (by cases hq), fun u hu => (by cases hu), Nat.zero_le _⟩
  | sum n l =>
    obtain ⟨nd, hl⟩ := acc_go l [] List.nodup_nil
    refine ⟨fun q hq => ?_, fun u hu => acc_keys (Pr := OkU) (fun q hq => (h.2 q hq).1) (fun u hu => (by cases hu)) u (form_keys hu).1, ?_⟩
    · have e : q.2 = getI (l.foldl (fun a q => addP a q.1 q.2) []) q.1 := form_val hq
      rw [getI_lin nd, hl] at e
      have b := lin_small (v := q.1) (l := l) fun q' hq' => (h.2 q' hq').2
      have := h.1
      simp only [lin] at e
      constructor <;> omega
    · refine Nat.le_trans (form_len _) ?_
      refine Nat.le_trans (acc_len l []) ?_
      have := h.1
      show 0 + _ ≤ _
      omega
theorem part_lay {u : List Key} {m : Int} (h : OkU u) : (partD (u, m)).canLay0 = true ∧ (partD (u, m)).depth ≤ 3 := by
  obtain ⟨k, z, rfl, hk, hz⟩ := h
  have hz' := (nmS_ok z hz).2.2
  have hk' : PyData.strOk k = true := by
    rcases hk with rfl | rfl
    · exact str_kinds.1
    · exact str_kinds.2
  constructor
  · simp [partD, unkD, keyDat, PyData.canLay0, PyData.canLayAll0, hz', hk']
  · simp [partD, unkD, keyDat, PyData.depth, PyData.depthAll]
theorem parts_lay : ∀ {ps : Mul}, (∀ u ∈ ps.map (·.1), OkU u) → PyData.canLayAll0 (ps.map partD) = true ∧ PyData.depthAll (ps.map partD) ≤ 3
  | [], _ => ⟨rfl, by simp [PyData.depthAll]⟩
  | (u, m) :: ps, h => by
    obtain ⟨h1, h2⟩ := parts_lay (ps := ps) fun u' hu => h u' (List.mem_cons_of_mem _ hu)
    obtain ⟨g1, g2⟩ := part_lay (m := m) (h u (List.mem_cons_self ..))
    rw [List.map_cons]
    constructor
    · simp only [PyData.canLayAll0]
      rw [g1, h1]
      rfl
    · simp only [PyData.depthAll]
      omega
theorem sum_lay {n : Int} {ps : Mul} (h : ∀ u ∈ ps.map (·.1), OkU u) : (sumD n ps).canLay0 = true ∧ (sumD n ps).depth ≤ 5 := by
  obtain ⟨h1, h2⟩ := parts_lay h
  constructor
  · simp only [sumD, PyData.canLay0, PyData.canLayAll0, h1]
    rfl
  · simp only [sumD, PyData.depth, PyData.depthAll]
    omega
theorem reads_lay : ∀ {ws : List WordM}, (∀ w ∈ ws, OkM w) → PyData.canLayAll0 (ws.map readD) = true ∧ PyData.depthAll (ws.map readD) ≤ 5
  | [], _ => ⟨rfl, by simp [PyData.depthAll]⟩
  | w :: ws, h => by
    obtain ⟨h1, h2⟩ := reads_lay (ws := ws) fun w' hw => h w' (List.mem_cons_of_mem _ hw)
    obtain ⟨g1, g2⟩ := sum_lay (n := (readM w).1) (readM_sm (h w (List.mem_cons_self ..))).2.1
    rw [List.map_cons]
    have g1' : (readD w).canLay0 = true := g1
    have g2' : (readD w).depth ≤ 5 := g2
    constructor
    · simp only [PyData.canLayAll0]
      rw [g1', h1]
      rfl
    · simp only [PyData.depthAll]
      omega
theorem reads_shaped {ws : List WordM} (h : ∀ w ∈ ws, OkM w) : SeqAt.shaped (.list (ws.map readD)) = true := by
  obtain ⟨h1, h2⟩ := reads_lay h
  unfold SeqAt.shaped
  rw [Bool.and_eq_true]
  refine ⟨by simpa [PyData.canLay0] using h1, decide_eq_true ?_⟩
  simp only [PyData.depth]
  omega
theorem reads_none : ∀ ws : List WordM, ((ws.map readD).any fun z => PyData.eqv z .none) = false
  | [] => rfl
  | w :: ws => by
    rw [List.map_cons, List.any_cons, reads_none ws]
    simp [readD, sumD, PyData.eqv]
/-! ### rows, as told and as read -/
def WordT (H : Hp) (v : V) (w : WordM) : Prop := SumT H v (readM w).1 (readM w).2
theorem wordT_s {H H' : Hp} (e : TupS H H') {v : V} {w : WordM} (h : WordT H v w) : WordT H' v w := sumT_s e h
theorem wordsT_dp {K : PySem.W.Frag} {H : Hp} : ∀ {xs : List V} {ws : List WordM}, PySem.W.EachIs (WordT H) xs ws → DpAll K H xs (ws.map readD)
  | _, _, .nil => .nil
  | _, _, .cons h t => .cons (sumT_dp h) (wordsT_dp t)
/-- the dict NEAR_CODES -/
def nearL : List Str := ["ask", "go", "call"]
structure Near (K : PySem.W.Frag) (w : World) (mg : Str → Option Value) (d : Addr) : Prop where
  g : mg "NEAR_CODES" = some (.ref d)
  kd : ∃ es n, KDict K w d es n
  has : ∀ z ∈ nearL, ∃ r, PySem.W.nsIn K d z = some (some r)
def RowL (K : PySem.W.Frag) (H : Hp) (v : V) : Row → Prop
  | .words ws => ∃ (a b : Addr) (xs : List V), v = .ref a ∧ SqT K H a [.str "words", .ref b] ∧ SqL K H b xs ∧ DpAll K H xs (ws.map rawD)
  | .label s => ∃ a, v = .ref a ∧ SqT K H a [.str "label", .str s]
  | .even n => ∃ a, v = .ref a ∧ SqT K H a [.str "even", .int n]
  | .branch c n m => ∃ a, v = .ref a ∧ SqT K H a [.str "branch", .str c, .str n, .int m]
theorem rowL_V {K : PySem.W.Frag} {H : Hp} {v : V} {r : Row} (h : RowL K H v r) : RowV K H v r := by
  cases r with
  | words ws =>
    obtain ⟨a, b, xs, h1, h2, h3, h4⟩ := h
    exact ⟨a, b, h1, h2, xs, .inl h3, by rw [dps_len h4, List.length_map]⟩
  | label s => exact h
  | even n => exact h
  | branch c n m => exact h
theorem rowL_same {K : PySem.W.Frag} {H H' : Hp} {v : V} {r : Row} (e : Same H H') (h : RowL K H v r) : RowL K H' v r := by
  cases r with
  | words ws =>
    obtain ⟨a, b, xs, h1, h2, h3, h4⟩ := h
    exact ⟨a, b, xs, h1, sqT_same e h2, sqL_same e h3, dps_same e h4⟩
  | label s => exact rowV_same (r := .label s) e h
  | even n => exact rowV_same (r := .even n) e h
  | branch c n m => exact rowV_same (r := .branch c n m) e h
/-- a row that was read: tuples alone -/
def RowP (K : PySem.W.Frag) (H : Hp) (v : V) : Row → Prop
  | .words ws => ∃ a b xs, v = .ref a ∧ SqT K H a [.str "words", .ref b] ∧ SqT K H b xs ∧ PySem.W.EachIs (WordT H) xs ws
  | .label s => ∃ a, v = .ref a ∧ SqT K H a [.str "label", .str s]
  | .even n => ∃ a, v = .ref a ∧ SqT K H a [.str "even", .int n]
  | .branch c n m => ∃ a, v = .ref a ∧ SqT K H a [.str "branch", .str c, .str n, .int m]
theorem rowP_V {K : PySem.W.Frag} {H : Hp} {v : V} {r : Row} (h : RowP K H v r) : RowV K H v r := by
  cases r with
  | words ws =>
    obtain ⟨a, b, xs, h1, h2, h3, h4⟩ := h
    exact ⟨a, b, h1, h2, xs, .inr h3, h4.length⟩
  | label s => exact h
  | even n => exact h
  | branch c n m => exact h
/-- all tuples stay -/
structure KpT (K : PySem.W.Frag) (H H' : Hp) : Prop where
  sq : ∀ a xs, SqT K H a xs → SqT K H' a xs
  tu : TupS H H'
theorem KpT.of {K : PySem.W.Frag} {H H' : Hp} (e : Same H H') : KpT K H H' := ⟨fun _ _ h => sqT_same e h, TupS.of e⟩
theorem KpT.trans {K : PySem.W.Frag} {H H1 H' : Hp} (e : KpT K H H1) (f : KpT K H1 H') : KpT K H H' := ⟨fun a xs h => f.sq a xs (e.sq a xs h), e.tu.trans f.tu⟩
theorem rowP_of {K : PySem.W.Frag} {H H' : Hp} {v : V} {r : Row} (e : KpT K H H') (h : RowP K H v r) : RowP K H' v r := by
  cases r with
  | words ws =>
    obtain ⟨a, b, xs, h1, h2, h3, h4⟩ := h
    exact ⟨a, b, xs, h1, e.sq _ _ h2, e.sq _ _ h3, eachs_imp (fun _ _ => wordT_s e.tu) h4⟩
  | label s =>
    obtain ⟨a, h1, h2⟩ := h
    exact ⟨a, h1, e.sq _ _ h2⟩
  | even n =>
    obtain ⟨a, h1, h2⟩ := h
    exact ⟨a, h1, e.sq _ _ h2⟩
  | branch c n m =>
    obtain ⟨a, h1, h2⟩ := h
    exact ⟨a, h1, e.sq _ _ h2⟩
def notTup : HO → Prop
  | .tup _ => False
  | .frz _ (.tup _) => False
  | _ => True
/-- a tuple stays where something else changes -/
theorem sqT_put {K : PySem.W.Frag} {H : Hp} {a S : Addr} {xs : List V} {o o' : HO} (h : SqT K H a xs) (hS : H S = some o) (ho : notTup o) : SqT K (upd H S o') a xs := by
  rcases h with (h | ⟨u, h⟩) | h
  · have aS : a ≠ S := fun z => by
      rw [z, hS] at h
      cases h
      exact ho
    exact .inl (.inl (by rw [upd_ne aS]; exact h))
  · have aS : a ≠ S := fun z => by
      rw [z, hS] at h
      cases h
      exact ho
    exact .inl (.inr ⟨u, by rw [upd_ne aS]; exact h⟩)
  · exact .inr h
theorem KpT.put {K : PySem.W.Frag} {H : Hp} {S : Addr} {o o' : HO} (hS : H S = some o) (ho : notTup o) : KpT K H (upd H S o') := ⟨fun a xs h => sqT_put h hS ho, TupS.put hS fun xs z => by
  subst z
  exact ho⟩
/-- a row that is one -/
def RowFine : Row → Prop
  | .words ws => ws.length ≤ 900 ∧ ∀ w ∈ ws, OkM w
  | .label s => isNmS s = true ∧ s.length ≤ 1000
  | .even n => 1 ≤ n ∧ n ≤ 64
  | .branch c n _ => c ∈ nearL ∧ isNmS n = true ∧ n.length ≤ 1000
theorem fine_ok {r : Row} (h : RowFine r) : RowOk r := by
  cases r with
  | even n => exact (by have h1 : 1 ≤ n ∧ n ≤ 64 := h; show 0 < n; omega)
  | _ => trivial
def spReadWords (K : PySem.W.Frag) : Sp := fun vs H Q _ => ∃ (b : Addr) (xs : List V) (ws : List WordM), vs = [.ref b] ∧ SqL K H b xs ∧ DpAll K H xs (ws.map rawD) ∧ RowFine (.words ws) ∧ ∀ H' v', Same H H' → RowP K H' v' (.words ws) → Q v' H'
def spReadBranch (K : PySem.W.Frag) : Sp := fun vs H Q _ => ∃ (c n : Str) (m : Int), vs = [.str c, .str n, .int m] ∧ RowFine (.branch c n m) ∧ ∀ H' v', Same H H' → RowP K H' v' (.branch c n m) → Q v' H'
def spReadRow (K : PySem.W.Frag) : Sp := fun vs H Q _ => ∃ v r, vs = [v] ∧ RowL K H v r ∧ RowFine r ∧ ∀ H' v', Same H H' → RowP K H' v' r → Q v' H'
abbrev sReadWords : Stmt := topS 23
abbrev sReadBranch : Stmt := topS 24
abbrev sReadRow : Stmt := topS 25
theorem scReadWords : FnScope ["thing", "sums", "word"] ["thing"] (defScope sReadWords) := ⟨rfl, rfl, rfl, by decide +kernel, rfl, by decide +kernel, by decide +kernel⟩
theorem scReadBranch : FnScope ["called", "n", "more"] ["called", "n", "more"] (defScope sReadBranch) := ⟨rfl, rfl, rfl, by decide +kernel, rfl, by decide +kernel, by decide +kernel⟩
theorem scReadRow : FnScope ["thing", "kind", "of"] ["thing"] (defScope sReadRow) := ⟨rfl, rfl, rfl, by decide +kernel, rfl, by decide +kernel, by decide +kernel⟩
/-- is_row of a list or tuple, whatever it holds -/
def spIsRowR (K : PySem.W.Frag) : Sp := fun vs H Q _ => ∃ a xs, vs = [.ref a] ∧ SqE K H a xs ∧ ∀ H', Same H H' → Q (.bl true) H'
section
variable {P : Program} {w : World} {K : PySem.W.Frag} {mg : Str → Option Value} {base : Heap}
theorem ok_isRowR {f : Addr} {fd : FuncData} (F : Fun K "is_row" "is_row" sIsRow f fd) (T : Bi mg) : FnOk P w K mg base CX0 1 f fd ["thing"] (spIsRowR K) := by
  refine F.ok scIsRow (fun vs H Q E h => ?_) (fun cdv A outer s H vs Q E hr h => ?_)
  · obtain ⟨a, xs, rfl, _⟩ := h
    rfl
  · obtain ⟨a, xs, rfl, ha, q⟩ := h
    refine ⟨_, (pss_one (ps_ret (pe_callB call_isiT (by rfl) T.isinstance (by decide +kernel) (pa_cons (pv 0) (pa_cons (pe_tup (pa_cons (pe_bltn (v := .ty "list") (by rfl) T.list (by decide +kernel) rfl) (pa_cons (pe_bltn (v := .ty "tuple") (by rfl) T.tuple (by decide +kernel) rfl) pa_nil))) pa_nil))))), ?_⟩
    refine ⟨_, rfl, (by show 2 ≤ sizeLine; decide), fun p hp => ?_⟩
    rcases ha with ha | ha
    · exact ⟨.ref a, p, _, _, _, _, rfl, upd_same, .cons (.ty "list") (.cons (.ty "tuple") .nil), ty_list (sqL_same (same_new hp) ha), kit_row (.list []), q _ (same_new hp)⟩
    · exact ⟨.ref a, p, _, _, _, _, rfl, upd_same, .cons (.ty "list") (.cons (.ty "tuple") .nil), ty_tup (sqT_same (same_new hp) ha), kit_row (.tuple []), q _ (same_new hp)⟩
theorem hu65 {A : Around} {k : Nat} (hr : Room k A) : A.units + 65 < cLine := by
  have := hr.un
  omega
theorem ok_readWords {f : Addr} {fd : FuncData} (F : Fun K "read_words" "read_words" sReadWords f fd) (T : Bi mg) (G1 : Has P w K mg base CX0 4 "is_row" ["thing"] (spIsRow K)) (G2 : Has P w K mg base CX0 4 "read_sum" ["thing"] (spReadSum K)) : FnOk P w K mg base CX0 5 f fd ["thing"] (spReadWords K) := by
  refine F.ok scReadWords (fun vs H Q E h => ?_) (fun cdv A outer s H vs Q E hr h => ?_)
  · obtain ⟨b, xs, ws, rfl, _⟩ := h
    rfl
  · obtain ⟨b, xs, ws, rfl, hb, hxs, ⟨hl, hok⟩, q⟩ := h
    refine ⟨_, (pss_cons (ps_if (pt_not (pt_val (pe_callH G1 hr (by rfl) pass0 (pa_cons (pv 0) pa_nil)))) (pss_one (ps_ret pe_non)) pss_nil)
      (pss_cons (ps_setLc (i := 1) (own := [("word", 2)]) (g := gName 2) (tt := tYes) rfl scReadWords.nd rfl rfl (sw_true rfl rfl rfl (by decide +kernel)) (pi_list (pv 0)) (blkOk_by (N := ["thing", "sums", "word"]) (sc := defScope sReadWords) (by decide +kernel)) (fun _ _ _ _ _ => pg_name (i := 2) scReadWords.nd rfl (.inl rfl)) (fun _ _ _ _ _ => pts_nil) (fun _ _ _ _ _ => (pe_callH G2 hr (by rfl) pass0 (pa_cons (pv 2) pa_nil))))
      (pss_one (ps_ret (pe_ifExp (pt_cmpR (op_inD (hu65 hr)) pe_non (pv 1) (by rfl)) pe_non (pe_tup (pa_cons pe_str (pa_cons (pe_callTy call_tuple_of (by rfl) T.tuple (by decide +kernel) (pa_cons (pv 1) pa_nil)) pa_nil)))))))), ?_⟩
    have lx : xs.length = ws.length := by rw [dps_len hxs, List.length_map]
    refine ⟨_, rfl, _, _, rfl, .dat (.lst hb hxs), fun H1 s1 => ⟨_, rfl, iteF ?_⟩⟩
    have hb1 := sqL_same s1 hb
    refine ⟨_, rfl, b, rfl, ⟨_, hb1⟩, fun D hD => ?_⟩
    refine lc_it walk_list (fun i H4 => (∀ c o, c ≠ D → H1 c = some o → H4 c = some o) ∧ ∃ ys, H4 D = some (.lst ys) ∧ PySem.W.EachIs (WordT H4) ys (ws.take i)) ⟨fun c o hc e => by rw [upd_ne hc]; exact e, [], upd_same, .nil⟩
      (fun i H4 _ ⟨kp, _⟩ => sqL_same (fun c o e => kp c o (ne_of_none e hD) e) hb1) ?_ ?_
    · rintro i x H4 H4' hi ⟨kp, ys, hD4, hys⟩ ⟨rfl, hx⟩
      obtain ⟨dw, hdw, hxd⟩ := dps_get (dps_same s1 hxs) hx
      rw [List.getElem?_map] at hdw
      obtain ⟨wd, hwd, rfl⟩ := Option.map_eq_some_iff.mp hdw
      have hi2 : i < ws.length := (List.getElem?_eq_some_iff.mp hwd).1
      have okw := hok wd (List.mem_of_getElem? hwd)
      have s14 : Same H1 H4' := fun c o e => kp c o (ne_of_none e hD) e
      refine ⟨rfl, yes_go (iteT ⟨_, rfl, x, rawD wd, rfl, .dat (dp_same s14 hxd), okSum_ok okw, fun v5 H5 s5 hv5 => ?_⟩)⟩
      rw [read_ok okw] at hv5
      have hD5 := s5 _ _ hD4
      have yl : ys.length = i := by
        rw [hys.length, List.length_take]
        omega
      refine ⟨ys, hD5, small1000 (by omega), fun c o hc ec => ?_, ys ++ [v5], upd_same, ?_⟩
      · rw [upd_ne hc]
        exact s5 _ _ (kp c o hc ec)
      · rw [List.take_add_one, hwd]
        have tp : TupS H5 (upd H5 D (.lst (ys ++ [v5]))) := TupS.put hD5 (by intro xs z; cases z)
        exact eachs_snoc (wordT_s tp hv5) (eachs_imp (fun _ _ => wordT_s ((TupS.of s5).trans tp)) hys)
    · rintro H4 ⟨kp, ys, hD4, hys⟩
      rw [lx, List.take_length] at hys
      have s4 : Same H H4 := fun c o e => kp c o (ne_of_none (s1 _ _ e) hD) (s1 _ _ e)
      refine ⟨_, rfl, .none, ws.map readD, .non, .lst (SqL.of hD4) (wordsT_dp hys), rfl, reads_shaped hok, _, rfl, ?_⟩
      rw [reads_none]
      refine iteF ⟨_, rfl, D, ys, rfl, .inl ⟨SqL.of hD4, fun t ht => ⟨(by show 2 ≤ sizeLine; decide), fun p hp => ?_⟩⟩⟩
      exact q _ _ ((s4.trans (same_new ht)).trans (same_new hp)) ⟨p, t, ys, rfl, SqT.of upd_same, SqT.of (same_new hp _ _ upd_same), eachs_imp (fun _ _ => wordT_s (TupS.of ((same_new ht).trans (same_new hp)))) hys⟩
end

theorem in_ints {k : Int} {ns : List Int} {b : Bool} (h : decide (k ∈ ns) = b) : inV (.int k) (ns.map V.int) = b := by
  rw [inV_ints]
  exact h
theorem intEqb {a b : Int} {Q : Bool → Prop} {c : Bool} (h : decide (a = b) = c) (q : Q c) : Q (decide (V.int a = V.int b)) := by
  rw [intEq, h]
  exact q
section
variable {P : Program} {w : World} {K : PySem.W.Frag} {mg : Str → Option Value} {base : Heap}
theorem ok_readBranch {f d0 : Addr} {fd : FuncData} (F : Fun K "read_branch" "read_branch" sReadBranch f fd) (T : Bi mg) (N : Near K w mg d0) (G1 : Has P w K mg base CX0 2 "is_name" ["thing"] (spIsName K)) (G2 : Has P w K mg base CX0 2 "is_integer" ["thing"] (spIsInt K)) :
    FnOk P w K mg base CX0 3 f fd ["called", "n", "more"] (spReadBranch K) := by
  refine F.ok scReadBranch (fun vs H Q E h => ?_) (fun cdv A outer s H vs Q E hr h => ?_)
  · obtain ⟨c, n, m, rfl, _⟩ := h
    rfl
  · obtain ⟨c, n, m, rfl, hf, q⟩ := h
    obtain ⟨h1, h2, h3⟩ := hf
    obtain ⟨es, nn, kd⟩ := N.kd
    obtain ⟨r, hr1⟩ := N.has c h1
    refine ⟨_, (pss_cons (ps_if (PW.pt (pw_or (pt_not (pt_val (pe_callB call_isi (by rfl) T.isinstance (by decide +kernel) (pa_cons (pv 0) (pa_cons (pe_bltn (v := .ty "str") (by rfl) T.str (by decide +kernel) rfl) pa_nil))))) (pw_or (pt_cmpR (op_notIn_kd kd) (pv 0) (pe_glob (v := .ref d0) rfl N.g rfl) (by rfl)) (pw_or (pt_not (pt_val (pe_callH G1 hr (by rfl) pass0 (pa_cons (pv 1) pa_nil)))) (pw_or1 (pt_not (pt_val (pe_callH G2 hr (by rfl) pass0 (pa_cons (pv 2) pa_nil))))))))) (pss_one (ps_ret pe_non)) pss_nil)
      (pss_one (ps_ret (pe_tup (pa_cons pe_str (pa_cons (pv 0) (pa_cons (pv 1) (pa_cons (pv 2) pa_nil)))))))), ?_⟩
    refine ⟨_, rfl, _, _, _, _, _, rfl, .ty "str", th_ty (.dat (.str c)), kit_str (.str c), _, rfl, iteF ?_⟩
    refine ⟨_, rfl, c, _, rfl, rfl, hr1, _, rfl, iteF ?_⟩
    refine ⟨_, rfl, _, _, rfl, .dat (.str n), h3, fun H1 s1 => ⟨_, rfl, ?_⟩⟩
    have en : isNm (.str n) = true := h2
    rw [en]
    refine iteF ⟨_, rfl, _, _, rfl, .dat (.int m), _, rfl, iteF ?_⟩
    exact ⟨_, rfl, _, rfl, _, rfl, (by show 4 ≤ sizeLine; decide), fun p hp => q _ _ (s1.trans (same_new hp)) ⟨p, rfl, SqT.of upd_same⟩⟩
theorem ok_readRow {f : Addr} {fd : FuncData} (F : Fun K "read_row" "read_row" sReadRow f fd) (T : Bi mg) (G1 : Has P w K mg base CX0 5 "is_row" ["thing"] (spIsRow K)) (G2 : Has P w K mg base CX0 5 "is_name" ["thing"] (spIsName K)) (G3 : Has P w K mg base CX0 5 "is_integer" ["thing"] (spIsInt K))
    (G4 : Has P w K mg base CX0 5 "read_branch" ["called", "n", "more"] (spReadBranch K)) (G5 : Has P w K mg base CX0 5 "read_words" ["thing"] (spReadWords K)) : FnOk P w K mg base CX0 6 f fd ["thing"] (spReadRow K) := by
  refine F.ok scReadRow (fun vs H Q E h => ?_) (fun cdv A outer s H vs Q E hr h => ?_)
  · obtain ⟨v, r, rfl, _⟩ := h
    rfl
  · obtain ⟨v, r, rfl, hv, hf, q⟩ := h
    refine ⟨_, (pss_cons (ps_if (PW.pt (pw_or (pt_not (pt_val (pe_callH G1 hr (by rfl) pass0 (pa_cons (pv 0) pa_nil)))) (pw_or (pt_cmpR op_notIn_seq (pe_callB call_len_seq (by rfl) T.len (by decide +kernel) (pa_cons (pv 0) pa_nil)) (pe_tup (pa_cons pe_int (pa_cons pe_int pa_nil))) (by rfl)) (pw_or1 (pt_not (pt_val (pe_callB call_isi (by rfl) T.isinstance (by decide +kernel) (pa_cons (pe_ix ix_tup (pv 0) pe_int (fun _ _ => rfl)) (pa_cons (pe_bltn (v := .ty "str") (by rfl) T.str (by decide +kernel) rfl) pa_nil))))))))) (pss_one (ps_ret pe_non)) pss_nil)
      (pss_cons (ps_if (pt_cmpR op_eq (pe_callB call_len_seq (by rfl) T.len (by decide +kernel) (pa_cons (pv 0) pa_nil)) pe_int (nomark _)) (pss_one (ps_ret (pe_ifExp (pt_cmpR op_eq (pe_ix ix_tup (pv 0) pe_int (fun _ _ => rfl)) pe_str (nomark _)) (pe_callH G4 hr (by rfl) pass0 (pa_cons (pe_ix ix_tup (pv 0) pe_int (fun _ _ => rfl)) (pa_cons (pe_ix ix_tup (pv 0) pe_int (fun _ _ => rfl)) (pa_cons (pe_ix ix_tup (pv 0) pe_int (fun _ _ => rfl)) pa_nil)))) pe_non))) pss_nil)
      (pss_cons (ps_asg (pv 0) (pg_tup rfl (pgs_cons (pg_name (i := 1) scReadRow.nd rfl (.inl rfl)) (pgs_cons (pg_name (i := 2) scReadRow.nd rfl (.inl rfl)) pgs_nil))))
      (pss_cons (ps_if (pt_cmpR op_eq (pv 1) pe_str (nomark _)) (pss_one (ps_ret (pe_callH G5 hr (by rfl) pass0 (pa_cons (pv 2) pa_nil)))) pss_nil)
      (pss_cons (ps_if (PW.pt (pw_and (pt_cmpR op_eq (pv 1) pe_str (nomark _)) (pw_and1 (pt_val (pe_callH G2 hr (by rfl) pass0 (pa_cons (pv 2) pa_nil)))))) (pss_one (ps_ret (pe_tup (pa_cons pe_str (pa_cons (pv 2) pa_nil))))) pss_nil)
      (pss_cons (ps_if (PW.pt (pw_and (pt_cmpR op_eq (pv 1) pe_str (nomark _)) (pw_and (pt_val (pe_callH G3 hr (by rfl) pass0 (pa_cons (pv 2) pa_nil))) (pw_and1 (pt_chain op_le op_le pe_int (pv 2) pe_int))))) (pss_one (ps_ret (pe_tup (pa_cons pe_str (pa_cons (pv 2) pa_nil))))) pss_nil)
      (pss_one (ps_ret pe_non)))))))), ?_⟩
    cases r with
    | words ws =>
      obtain ⟨a, b, xs, rfl, h2, h3, h4⟩ := hv
      have hd : Dp K H (.ref a) (.tuple [.str "words", .list (ws.map rawD)]) := .tup h2 (.cons (.str _) (.cons (.lst h3 h4) .nil))
      refine ⟨_, rfl, _, _, rfl, .dat hd, fun H1 s1 => ⟨_, rfl, iteF ?_⟩⟩
      have h21 := sqT_same s1 h2
      refine ⟨_, rfl, a, _, rfl, .inr h21, (by show 2 ≤ sizeLine; decide), fun p hp => ?_⟩
      have s2 := s1.trans (same_new (o := .tup [V.int 2, V.int 4]) hp)
      have h22 := sqT_same s2 h2
      refine ⟨p, [V.int 2, V.int 4], rfl, .inr (SqT.of upd_same), rfl, rfl, _, rfl, iteF ?_⟩
      refine ⟨_, rfl, a, _, _, _, rfl, rfl, h22, at_of (i := 0) rfl, _, _, _, _, _, rfl, .ty "str", th_ty (.dat (.str _)), kit_str (.str _), _, rfl, iteF ?_⟩
      refine ⟨_, rfl, a, _, rfl, .inr h22, rfl, _, rfl, iteF ?_⟩
      refine ⟨_, rfl, a, _, rfl, h22, rfl, _, _, rfl, _, _, rfl, rfl, ?_⟩
      refine ⟨_, rfl, rfl, _, rfl, kEq (by decide +kernel) ?_⟩
      exact ⟨_, rfl, b, xs, ws, rfl, sqL_same s2 h3, dps_same s2 h4, hf, fun H' v' s3 hv' => q H' v' (s2.trans s3) hv'⟩
    | label z =>
      obtain ⟨a, rfl, h2⟩ := hv
      have hd : Dp K H (.ref a) (.tuple [.str "label", .str z]) := .tup h2 (.cons (.str _) (.cons (.str _) .nil))
      refine ⟨_, rfl, _, _, rfl, .dat hd, fun H1 s1 => ⟨_, rfl, iteF ?_⟩⟩
      have h21 := sqT_same s1 h2
      refine ⟨_, rfl, a, _, rfl, .inr h21, (by show 2 ≤ sizeLine; decide), fun p hp => ?_⟩
      have s2 := s1.trans (same_new (o := .tup [V.int 2, V.int 4]) hp)
      have h22 := sqT_same s2 h2
      refine ⟨p, [V.int 2, V.int 4], rfl, .inr (SqT.of upd_same), rfl, rfl, _, rfl, iteF ?_⟩
      refine ⟨_, rfl, a, _, _, _, rfl, rfl, h22, at_of (i := 0) rfl, _, _, _, _, _, rfl, .ty "str", th_ty (.dat (.str _)), kit_str (.str _), _, rfl, iteF ?_⟩
      refine ⟨_, rfl, a, _, rfl, .inr h22, rfl, _, rfl, iteF ?_⟩
      refine ⟨_, rfl, a, _, rfl, h22, rfl, _, _, rfl, _, _, rfl, rfl, ?_⟩
      refine ⟨_, rfl, rfl, _, rfl, kNe (by decide +kernel) ?_⟩
      refine ⟨_, rfl, rfl, _, rfl, kEq (by decide +kernel) ?_⟩
      refine ⟨_, rfl, _, _, rfl, .dat (.str z), hf.2, fun H3 s3 => ⟨_, rfl, ?_⟩⟩
      have en : isNm (.str z) = true := hf.1
      rw [en]
      exact iteT ⟨_, rfl, (by show 2 ≤ sizeLine; decide), fun p2 hp2 => q _ _ ((s2.trans s3).trans (same_new hp2)) ⟨p2, rfl, SqT.of upd_same⟩⟩
    | even n =>
      obtain ⟨a, rfl, h2⟩ := hv
      have hd : Dp K H (.ref a) (.tuple [.str "even", .int n]) := .tup h2 (.cons (.str _) (.cons (.int _) .nil))
      refine ⟨_, rfl, _, _, rfl, .dat hd, fun H1 s1 => ⟨_, rfl, iteF ?_⟩⟩
      have h21 := sqT_same s1 h2
      refine ⟨_, rfl, a, _, rfl, .inr h21, (by show 2 ≤ sizeLine; decide), fun p hp => ?_⟩
      have s2 := s1.trans (same_new (o := .tup [V.int 2, V.int 4]) hp)
      have h22 := sqT_same s2 h2
      refine ⟨p, [V.int 2, V.int 4], rfl, .inr (SqT.of upd_same), rfl, rfl, _, rfl, iteF ?_⟩
      refine ⟨_, rfl, a, _, _, _, rfl, rfl, h22, at_of (i := 0) rfl, _, _, _, _, _, rfl, .ty "str", th_ty (.dat (.str _)), kit_str (.str _), _, rfl, iteF ?_⟩
      refine ⟨_, rfl, a, _, rfl, .inr h22, rfl, _, rfl, iteF ?_⟩
      refine ⟨_, rfl, a, _, rfl, h22, rfl, _, _, rfl, _, _, rfl, rfl, ?_⟩
      refine ⟨_, rfl, rfl, _, rfl, kNe (by decide +kernel) ?_⟩
      refine ⟨_, rfl, rfl, _, rfl, kNe (by decide +kernel) (iteF ?_)⟩
      refine ⟨_, rfl, rfl, _, rfl, kEq (by decide +kernel) ?_⟩
      refine ⟨_, rfl, _, _, rfl, .dat (.int n), _, rfl, iteT ?_⟩
      have hf1 : 1 ≤ n ∧ n ≤ 64 := hf
      refine ⟨_, rfl, _, _, rfl, rfl, _, rfl, ?_⟩
      rw [decide_eq_true hf1.1]
      refine iteT ⟨_, _, rfl, rfl, _, rfl, ?_⟩
      rw [decide_eq_true hf1.2]
      exact iteT ⟨_, rfl, (by show 2 ≤ sizeLine; decide), fun p2 hp2 => q _ _ (s2.trans (same_new hp2)) ⟨p2, rfl, SqT.of upd_same⟩⟩
    | branch c n m =>
      obtain ⟨a, rfl, h2⟩ := hv
      have hd : Dp K H (.ref a) (.tuple [.str "branch", .str c, .str n, .int m]) := .tup h2 (.cons (.str _) (.cons (.str _) (.cons (.str _) (.cons (.int _) .nil))))
      refine ⟨_, rfl, _, _, rfl, .dat hd, fun H1 s1 => ⟨_, rfl, iteF ?_⟩⟩
      have h21 := sqT_same s1 h2
      refine ⟨_, rfl, a, _, rfl, .inr h21, (by show 2 ≤ sizeLine; decide), fun p hp => ?_⟩
      have s2 := s1.trans (same_new (o := .tup [V.int 2, V.int 4]) hp)
      have h22 := sqT_same s2 h2
      refine ⟨p, [V.int 2, V.int 4], rfl, .inr (SqT.of upd_same), rfl, rfl, _, rfl, iteF ?_⟩
      refine ⟨_, rfl, a, _, _, _, rfl, rfl, h22, at_of (i := 0) rfl, _, _, _, _, _, rfl, .ty "str", th_ty (.dat (.str _)), kit_str (.str _), _, rfl, iteF ?_⟩
      refine ⟨_, rfl, a, _, rfl, .inr h22, rfl, _, rfl, iteT ?_⟩
      refine ⟨_, rfl, a, _, _, _, rfl, rfl, h22, at_of (i := 0) rfl, rfl, _, rfl, kEq (by decide +kernel) ?_⟩
      refine ⟨_, rfl, a, _, _, _, rfl, rfl, h22, at_of (i := 1) rfl, _, rfl, a, _, _, _, rfl, rfl, h22, at_of (i := 2) rfl, _, rfl, a, _, _, _, rfl, rfl, h22, at_of (i := 3) rfl, ?_⟩
      exact ⟨c, n, m, rfl, hf, fun H' v' s3 hv' => q H' v' (s2.trans s3) hv'⟩
end

/-- y = {k: v for ..}, y a local name -/
theorem ps_setDc {X : Cx} {i : Nat} {y : Str} {py : Pos} {kx vx tg iter : Expr} {ifs : List Expr} {scope : Scope} {own : List (Str × Nat)} {pos spos : Pos} {wi : TI} {g : TG} {tt : TT} {tk tv : TE} (calm : X.calm = true) (nd : X.N.Nodup) (slot : X.N[i]? = some y) (isLoc : X.env.scope.names.lookup y = some .local)
    (sw : swapsWith (.DictComp kx vx [⟨tg, iter, ifs, 0⟩] scope pos) (some (.Name y py)) spos.line X.env = pure true) (hi : PI X tg iter wi) (ok : BlkOk X.N X.env.scope scope own)
    (p1 : ∀ (s : Shared) (H : Hp) (C : Addr) (cl : List (Str × Addr)) (fp : List Addr), PG (X.blk s H scope (compEnvC scope cl C X.env) fp) tg g)
    (p2 : ∀ (s : Shared) (H : Hp) (C : Addr) (cl : List (Str × Addr)) (fp : List Addr), PTs (X.blk s H scope (compEnvC scope cl C X.env) fp) ifs tt)
    (p3 : ∀ (s : Shared) (H : Hp) (C : Addr) (cl : List (Str × Addr)) (fp : List Addr), PE (X.blk s H scope (compEnvC scope cl C X.env) fp) kx tk)
    (p4 : ∀ (s : Shared) (H : Hp) (C : Addr) (cl : List (Str × Addr)) (fp : List Addr), PE (X.blk s H scope (compEnvC scope cl C X.env) fp) vx tv) (fold : ∀ x, foldedSetIterable iter X.env x = pure x := by intro _; rfl) :
    PS X (.Assign [.Name y py] (.DictComp kx vx [⟨tg, iter, ifs, 0⟩] scope pos) spos) (tAsg (tDc wi g tt tk tv (own.map (·.2))) (gName i)) := by
  constructor
  intro pins s σ H D I want
  rw [exec_Assign_Name_used _ _ _ _ sw]
  refine wpAny_bind (wpAny_standAt (wpAny_bind ?_))
  show wpAny _ X.A (do let _ ← comprehension (.DictComp kx vx [⟨tg, iter, ifs, 0⟩] scope pos) scope X.env (firstIterPos [⟨tg, iter, ifs, 0⟩] pos) newDict false (eval iter X.env) (some (assign (.Name y py) X.env))) _ _ s
  have want' : tDc wi g tt tk tv (own.map (·.2)) σ H (fun x H1 => gName i x σ H1 D.nx) := want
  refine wpAny_bind (thn (dc_core (Qf := fun _ s' => SP X pins D .next s') calm nd I hi ok p1 p2 p3 p4 fold want' fun L C s' m H' I' q hn ff => ?_) fun _ s' hq => wpAny_pure (wpAny_pure hq))
  show wpAny _ _ (assign (.Name y py) X.env (.ref L)) _ _ _
  refine wpAny_assign_Name (store_ok2 (v := V.ref L) I' nd slot (.inl isLoc) rfl (fun s2 I2 there => ?_) (.inr isLoc))
  obtain ⟨a, sb, ha⟩ := there
  have ⟨u0, u1, u2, u3, u4, u5⟩ := ff
  have apart : C ≠ a := by
    rcases ha with z | z
    · exact fun e => u1 (e.trans z)
    · exact fun e => u4 y a z e.symm
  exact ⟨m, hn.sameBut sb apart, fun h3 sb3 => ⟨_, H', I2.turned (t' := s2.toks) (fun b o hb e => (sb3.2 b hb).trans e) u0 u1 u3 u4 u5, q⟩⟩
theorem sw_dict {kx vx : Expr} {gs : List Comprehension} {scope : Scope} {pos py : Pos} {y : Str} {l : Nat} {env : Env} (isF : env.scope.kind = .function) (isL : env.scope.names.lookup y = some .local) (line : (py.line == pos.line) = true)
    (not : (scope.names.any fun (n, k) => n == y && (k == .local || k == .cell)) = false) : swapsWith (.DictComp kx vx gs scope pos) (some (.Name y py)) l env = pure true := by
  have k1 : env.kindOf y = some .local := isL
  have k2 : env.blockKind = .function := by
    unfold Env.blockKind
    rw [isF]
    rfl
  unfold swapsWith
  simp only [k2, k1, not, Expr.pos, line]
  rfl
/-- the labels of the first i rows, as keys -/
def labT (rs : List Row) : Nat → List (Key × V)
  | 0 => []
  | i + 1 => match labOf rs i with
    | some s => putK (labT rs i) (Sum.inr s) (.bl true)
    | none => labT rs i
theorem labT_len (rs : List Row) : ∀ i, (labT rs i).length ≤ i
  | 0 => Nat.le_refl _
  | i + 1 => by
    unfold labT
    have h := labT_len rs i
    split
    · have := length_putK (labT rs i) (Sum.inr (by assumption) : Key) (.bl true)
      omega
    · omega
theorem labT_val (rs : List Row) (n : Str) : ∀ i, (∀ j, j < i → labOf rs j ≠ some n) → valV (labT rs i) (Sum.inr n) = none
  | 0, _ => rfl
  | i + 1, h => by
    have ih := labT_val rs n i fun j hj => h j (by omega)
    unfold labT
    cases e : labOf rs i with
    | none => exact ih
    | some s =>
      dsimp only
      rw [valV_put]
      have hn : ¬ (Sum.inr n : Key) = Sum.inr s := fun z => h i (by omega) (by rw [e, Sum.inr.inj z])
      rw [if_neg hn]
      exact ih
theorem labT_succ {rs : List Row} {i : Nat} {r : Row} (h : rs[i]? = some r) : labT rs (i + 1) = match labR r with
    | some s => putK (labT rs i) (Sum.inr s) (.bl true)
    | none => labT rs i := by
  show (match labOf rs i with | some s => putK (labT rs i) (Sum.inr s) (.bl true) | none => labT rs i) = _
  rw [labOf_at h]
structure DrOk (rs : List Row) : Prop where
  fine : ∀ r ∈ rs, RowFine r
  len : rs.length ≤ 900
  uniq : ∀ (i : Nat) (s : Str), labOf rs i = some s → ∀ j, j < i → labOf rs j ≠ some s
  zero : ∀ (k : Nat) (c n : Str) (m : Int), rs[k]? = some (.branch c n m) → m ≠ 0 → ∀ j, labOf rs j ≠ some n
inductive RowsP (K : PySem.W.Frag) (H : Hp) : List V → List Row → Prop
  | nil : RowsP K H [] []
  | cons {v : V} {vs : List V} {r : Row} {rs : List Row} : RowP K H v r → RowsP K H vs rs → RowsP K H (v :: vs) (r :: rs)
theorem rowsP_of {K : PySem.W.Frag} {H H' : Hp} (e : KpT K H H') : ∀ {xs : List V} {rs : List Row}, RowsP K H xs rs → RowsP K H' xs rs
  | _, _, .nil => .nil
  | _, _, .cons h t => .cons (rowP_of e h) (rowsP_of e t)
theorem rowsP_V {K : PySem.W.Frag} {H : Hp} : ∀ {xs : List V} {rs : List Row}, RowsP K H xs rs → RowsV K H xs rs
  | _, _, .nil => .nil
  | _, _, .cons h t => .cons (rowP_V h) (rowsP_V t)
theorem rowsP_snoc {K : PySem.W.Frag} {H : Hp} {v : V} {r : Row} (hv : RowP K H v r) : ∀ {xs : List V} {rs : List Row}, RowsP K H xs rs → RowsP K H (xs ++ [v]) (rs ++ [r])
  | _, _, .nil => .cons hv .nil
  | _, _, .cons h t => .cons h (rowsP_snoc hv t)
inductive RowsL (K : PySem.W.Frag) (H : Hp) : List V → List Row → Prop
  | nil : RowsL K H [] []
  | cons {v : V} {vs : List V} {r : Row} {rs : List Row} : RowL K H v r → RowsL K H vs rs → RowsL K H (v :: vs) (r :: rs)
theorem rowsL_same {K : PySem.W.Frag} {H H' : Hp} (e : Same H H') : ∀ {xs : List V} {rs : List Row}, RowsL K H xs rs → RowsL K H' xs rs
  | _, _, .nil => .nil
  | _, _, .cons h t => .cons (rowL_same e h) (rowsL_same e t)
theorem rowsL_get {K : PySem.W.Frag} {H : Hp} : ∀ {xs : List V} {rs : List Row}, RowsL K H xs rs → ∀ {i : Nat} {v : V}, xs[i]? = some v → ∃ r, rs[i]? = some r ∧ RowL K H v r
  | _, _, .nil, i, v, h => by simp at h
  | _, _, .cons g t, 0, v, e => by
    obtain rfl : _ = v := Option.some.inj e
    exact ⟨_, rfl, g⟩
  | _, _, .cons g t, i + 1, v, e => rowsL_get t (i := i) e
theorem rowsL_V {K : PySem.W.Frag} {H : Hp} : ∀ {xs : List V} {rs : List Row}, RowsL K H xs rs → RowsV K H xs rs
  | _, _, .nil => .nil
  | _, _, .cons h t => .cons (rowL_V h) (rowsL_V t)
theorem rowsV_snoc {K : PySem.W.Frag} {H : Hp} {v : V} {r : Row} (hv : RowV K H v r) : ∀ {xs : List V} {rs : List Row}, RowsV K H xs rs → RowsV K H (xs ++ [v]) (rs ++ [r])
  | _, _, .nil => .cons hv .nil
  | _, _, .cons h t => .cons h (rowsV_snoc hv t)
theorem rowV_ref {K : PySem.W.Frag} {H : Hp} {v : V} {r : Row} (h : RowV K H v r) : decide (v = .non) = false := by
  obtain ⟨a, xs, rfl, _⟩ := rowV_tup h
  rfl
def spReadRows (K : PySem.W.Frag) : Sp := fun vs H Q _ => ∃ (L : Addr) (xs : List V) (rs : List Row), vs = [.ref L] ∧ SqL K H L xs ∧ RowsL K H xs rs ∧ DrOk rs ∧ ∀ H' p ys, Same H H' → H p = none → H' p = some (.lst ys) → RowsP K H' ys rs → Q (.ref p) H'
abbrev sReadRows : Stmt := topS 26
theorem scReadRows : FnScope ["rows", "found", "row", "labels", "stood", "index", "thing"] ["rows"] (defScope sReadRows) := ⟨rfl, rfl, rfl, by decide +kernel, rfl, by decide +kernel, by decide +kernel⟩
abbrev rNN : R2 := fun x y H Q => y = .non ∧ Q (.bl (!decide (x = .non))) H
section
variable {P : Program} {w : World} {K : PySem.W.Frag} {mg : Str → Option Value} {base : Heap}
theorem row0_is {H : Hp} {a : Addr} {xs : List V} {k z : Str} {b : Bool} {F : Bool → Hp → Prop} {σ : L2.St} {i : Nat} (hs : σ[i]? = some (some (.ref a))) (h : SqT K H a xs) (h0 : xs[0]? = some (.str k)) (hb : decide (k = z) = b) (q : F b H) : row0Is K i z σ H F := by
  refine ⟨_, hs, a, xs, 0, _, rfl, rfl, h, at_of (i := 0) h0, rfl, b, ?_, q⟩
  rw [strEq, hb]
theorem lab_kind (r : Row) : decide (kindOf r = ("label" : Str)) = (labR r).isSome := by
  cases r with
  | label s => exact (by decide +kernel : decide (("label" : Str) = "label") = true)
  | words n => exact (by decide +kernel : decide (("words" : Str) = "label") = false)
  | even n => exact (by decide +kernel : decide (("even" : Str) = "label") = false)
  | branch c n m => exact (by decide +kernel : decide (("branch" : Str) = "label") = false)
theorem br_kind (r : Row) : decide (kindOf r = ("branch" : Str)) = (match r with | .branch _ _ _ => true | _ => false) := by
  cases r with
  | label s => exact (by decide +kernel : decide (("label" : Str) = "branch") = false)
  | words n => exact (by decide +kernel : decide (("words" : Str) = "branch") = false)
  | even n => exact (by decide +kernel : decide (("even" : Str) = "branch") = false)
  | branch c n m => exact (by decide +kernel : decide (("branch" : Str) = "branch") = true)
theorem ok_readRows {f : Addr} {fd : FuncData} (F : Fun K "read_rows" "read_rows" sReadRows f fd) (T : Bi mg) (G1 : Has P w K mg base CX0 6 "is_row" ["thing"] (spIsRowR K)) (G2 : Has P w K mg base CX0 6 "read_row" ["thing"] (spReadRow K)) : FnOk P w K mg base CX0 7 f fd ["rows"] (spReadRows K) := by
  refine F.ok scReadRows (fun vs H Q E h => ?_) (fun cdv A outer s H vs Q E hr h => ?_)
  · obtain ⟨L, xs, rs, rfl, _⟩ := h
    rfl
  · obtain ⟨L, xs, rs, rfl, hL, hrs, ok, q⟩ := h
    have hu := hu_of hr
    refine ⟨_, (pss_cons (ps_if (pt_not (pt_val (pe_callH G1 hr (by rfl) pass0 (pa_cons (pv 0) pa_nil)))) (pss_one ps_never) pss_nil)
      (pss_cons (ps_setLc (i := 1) (own := [("thing", 6)]) (g := gName 6) (tt := tYes) rfl scReadRows.nd rfl rfl (sw_true rfl rfl rfl (by decide +kernel)) (pi_list (pv 0)) (blkOk_by (N := ["rows", "found", "row", "labels", "stood", "index", "thing"]) (sc := defScope sReadRows) (by decide +kernel)) (fun _ _ _ _ _ => pg_name (i := 6) scReadRows.nd rfl (.inl rfl)) (fun _ _ _ _ _ => pts_nil) (fun _ _ _ _ _ => (pe_callH G2 hr (by rfl) pass0 (pa_cons (pv 6) pa_nil))))
      (pss_cons (ps_setDc (i := 3) (own := [("row", 2)]) (g := gName 2) (tt := tAnd (tTest (tOp rNN (tVar 2) (tC .non))) (row0Is K 2 "label")) (tk := ixT K 2 1) (tv := tC (.bl true)) rfl scReadRows.nd rfl rfl (sw_dict rfl rfl rfl (by decide +kernel)) (pi_list (pv 1)) (blkOk_by (N := ["rows", "found", "row", "labels", "stood", "index", "thing"]) (sc := defScope sReadRows) (by decide +kernel)) (fun _ _ _ _ _ => pg_name (i := 2) scReadRows.nd rfl (.inl rfl))
          (fun _ _ _ _ _ => pts_one (PW.pt (pw_and (pt_cmpR op_notN (pv 2) pe_non (nomark _)) (pw_and1 (pt_cmpR op_eq (pe_ix ix_tup (pv 2) pe_int (fun _ _ => rfl)) pe_str (nomark _)))))) (fun _ _ _ _ _ => pe_ix ix_tup (pv 2) pe_int (fun _ _ => rfl)) (fun _ _ _ _ _ => pe_bl))
      (pss_cons (ps_set (i := 4) scReadRows.nd rfl (.inl rfl) (pe_dnewK))
      (pss_cons (ps_for PassesOwn.never rfl (pi_enum (by rfl) T.enumerate (pa_cons (pv 1) pa_nil)) (pg_tup rfl (pgs_cons (pg_name (i := 5) scReadRows.nd rfl (.inl rfl)) (pgs_cons (pg_name (i := 2) scReadRows.nd rfl (.inl rfl)) pgs_nil)))
          (pss_cons (ps_if (PW.pt (pw_or (pt_cmpR op_isN (pv 2) pe_non (nomark _)) (pw_or1 (PW.pt (pw_and (pt_cmpR op_eq (pe_ix ix_tup (pv 2) pe_int (fun _ _ => rfl)) pe_str (nomark _)) (pw_and1 (pt_cmp (pc_din hu (pe_ix ix_tup (pv 2) pe_int (fun _ _ => rfl)) (pv 4))))))))) (pss_one ps_never) pss_nil)
          (pss_cons (ps_if (pt_cmpR op_eq (pe_ix ix_tup (pv 2) pe_int (fun _ _ => rfl)) pe_str (nomark _)) (pss_one (ps_dput hu (pv 4) (pe_ix ix_tup (pv 2) pe_int (fun _ _ => rfl)) pe_bl rfl)) pss_nil)
          (pss_one (ps_if (PW.pt (pw_and (pt_cmpR op_eq (pe_ix ix_tup (pv 2) pe_int (fun _ _ => rfl)) pe_str (nomark _)) (pw_and (pt_cmpR op_ne (pe_ix ix_tup (pv 2) pe_int (fun _ _ => rfl)) pe_int (nomark _)) (pw_and1 (pt_cmp (pc_din hu (pe_ix ix_tup (pv 2) pe_int (fun _ _ => rfl)) (pv 3))))))) (pss_one ps_never) pss_nil)))))
      (pss_one (ps_ret (pv 1)))))))), ?_⟩
    refine ⟨_, rfl, L, xs, rfl, .inl hL, fun H1 s1 => ⟨_, rfl, iteF ?_⟩⟩
    have hL1 := sqL_same s1 hL
    have hrs1 := rowsL_same s1 hrs
    have lx := rowsV_len (rowsL_V hrs)
    have ol := ok.len
    refine ⟨_, rfl, L, rfl, ⟨_, hL1⟩, fun D hD => ?_⟩
    refine lc_it walk_list (fun i H4 => (∀ c o, c ≠ D → H1 c = some o → H4 c = some o) ∧ ∃ ys, H4 D = some (.lst ys) ∧ RowsP K H4 ys (rs.take i)) ⟨fun c o hc e => by rw [upd_ne hc]; exact e, [], upd_same, .nil⟩
      (fun i H4 _ ⟨kp, _⟩ => sqL_same (fun c o e => kp c o (ne_of_none e hD) e) hL1) ?_ ?_
    · rintro i x H4 H4' hi ⟨kp, ys, hD4, hys⟩ ⟨rfl, hx⟩
      obtain ⟨r, hri, hrv⟩ := rowsL_get hrs1 hx
      have hri2 : i < rs.length := (List.getElem?_eq_some_iff.mp hri).1
      have hrv4 : RowL K H4' x r := rowL_same (fun c o e => kp c o (ne_of_none e hD) e) hrv
      refine ⟨rfl, yes_go (iteT ⟨_, rfl, x, r, rfl, hrv4, ok.fine r (List.mem_of_getElem? hri), fun H5 v5 s5 hv5 => ?_⟩)⟩
      have hD5 := s5 _ _ hD4
      have yl : ys.length = i := by
        rw [rowsV_len (rowsP_V hys), List.length_take]
        omega
      refine ⟨ys, hD5, small1000 (by omega), fun c o hc ec => ?_, ys ++ [v5], upd_same, ?_⟩
      · rw [upd_ne hc]
        exact s5 _ _ (kp c o hc ec)
      · rw [List.take_add_one, hri]
        have put : ∀ (o : HO), KpT K H5 (upd H5 D o) := fun o => KpT.put hD5 trivial
        exact rowsP_snoc (rowP_of (put _) hv5) (rowsP_of ((KpT.of s5).trans (put _)) hys)
    · rintro H4 ⟨kp, ys, hD4, hys⟩
      rw [lx, List.take_length] at hys
      have yl := rowsV_len (rowsP_V hys)
      have hysV := rowsP_V hys
      have s4 : Same H H4 := fun c o e => kp c o (ne_of_none (s1 _ _ e) hD) (s1 _ _ e)
      have hDn : H D = none := by
        cases e : H D with
        | none => rfl
        | some o => rw [s1 _ _ e] at hD; cases hD
      -- the labels
      refine ⟨_, rfl, D, rfl, ⟨_, SqL.of hD4⟩, fun E1 hE1 => ?_⟩
      have hED : E1 ≠ D := fun z => by rw [z, hD4] at hE1; cases hE1
      refine dc_it walk_list (fun i H5 => (∀ c o, c ≠ E1 → H4 c = some o → H5 c = some o) ∧ H5 E1 = some (.dK (labT rs i))) ⟨fun c o hc e => by rw [upd_ne hc]; exact e, upd_same⟩ (fun i H5 _ ⟨kp5, _⟩ => SqL.of (kp5 _ _ hED.symm hD4)) ?_ ?_
      · rintro i x H5 H5' hi ⟨kp5, hE5⟩ ⟨rfl, hx⟩
        obtain ⟨r, hri, hrv⟩ := rowsV_get hysV hx
        have s45 : Same H4 H5' := fun c o e => kp5 c o (ne_of_none e hE1) e
        have hrv5 : RowV K H5' x r := rowV_same s45 hrv
        have hri2 : i < rs.length := (List.getElem?_eq_some_iff.mp hri).1
        refine ⟨rfl, _, rfl, rfl, _, rfl, ?_⟩
        rw [rowV_ref hrv5]
        obtain ⟨a, zs, rfl, ht, h0⟩ := rowV_tup hrv5
        refine iteT (row0_is rfl ht h0 (lab_kind r) ?_)
        have es := labT_succ hri
        cases el : labR r with
        | none =>
          rw [el] at es
          refine iteF ⟨kp5, ?_⟩
          rw [es]
          exact hE5
        | some z =>
          rw [el] at es
          obtain rfl : r = .label z := by
            cases r with
            | label z' => cases el; rfl
            | _ => cases el
          obtain ⟨a', ea, h2⟩ := hrv5
          refine iteT ⟨_, rfl, a', _, _, _, ea, rfl, h2, at_of (i := 1) rfl, labT rs i, Sum.inr z, rfl, hE5, ?_, fun c o hc e => ?_, ?_⟩
          · have := labT_len rs i
            exact small1000 (by omega)
          · rw [upd_ne hc]
            exact kp5 c o hc e
          · rw [upd_same, es]
      · rintro H5 ⟨kp5, hE5⟩
        rw [yl] at hE5
        have s45 : Same H4 H5 := fun c o e => kp5 c o (ne_of_none e hE1) e
        -- the loop
        refine fun S hS => ?_
        have s56 : Same H5 (upd H5 S (.dK [])) := same_new hS
        have hDS : D ≠ S := ne_of_none (s45 _ _ hD4) hS
        have hES : E1 ≠ S := ne_of_none hE5 hS
        refine ⟨_, rfl, D, ys, rfl, SqL.of (s56 _ _ (s45 _ _ hD4)), ?_⟩
        refine for_it walk_enum (fun i σ H6 => ∃ (a b : Option V), σ = [some (.ref L), some (.ref D), a, some (.ref E1), some (.ref S), b, none] ∧ Same H5 H6 ∧ H6 S = some (.dK (labT rs i))) ⟨none, none, rfl, s56, upd_same⟩ (fun i σ H6 _ ⟨_, _, _, s6, _⟩ => SqL.of (s6 _ _ (s45 _ _ hD4))) ?_ ?_
        · rintro i x σ H6 H6' hi ⟨a, b, rfl, s6, hS6⟩ ⟨TT, x', y, rfl, hT, rfl, hx', hy⟩
          cases hx'
          obtain ⟨r, hri, hrv⟩ := rowsV_get hysV hy
          have s67 : Same H6 (upd H6 TT (.tup [.int (i : Nat), y])) := same_new hT
          generalize hH7 : upd H6 TT (.tup [.int (i : Nat), y]) = H7 at s67
          have hTv : H7 TT = some (.tup [.int (i : Nat), y]) := by rw [← hH7]; exact upd_same
          have hrv7 : RowV K H7 y r := rowV_same ((s45.trans s6).trans s67) hrv
          have hri2 : i < rs.length := (List.getElem?_eq_some_iff.mp hri).1
          have hS7 := s67 _ _ hS6
          have hE7 := s67 _ _ (s6 _ _ hE5)
          have es := labT_succ hri
          have lab := labOf_at hri
          refine ⟨TT, _, rfl, SqT.of hTv, rfl, _, _, rfl, _, _, rfl, rfl, ?_⟩
          refine ⟨_, rfl, rfl, _, rfl, ?_⟩
          rw [rowV_ref hrv7]
          obtain ⟨ta, zs, rfl, ht, h0⟩ := rowV_tup hrv7
          have fin : ∀ {H8 : Hp}, Same H5 H8 → H8 S = some (.dK (labT rs (i + 1))) → ∃ (a b : Option V), ([some (.ref L), some (.ref D), some (.ref ta), some (.ref E1), some (.ref S), some (.int (i : Nat)), none] : L2.St) = [some (.ref L), some (.ref D), a, some (.ref E1), some (.ref S), b, none] ∧ Same H5 H8 ∧ H8 S = some (.dK (labT rs (i + 1))) := fun h1 h2 => ⟨_, _, rfl, h1, h2⟩
          have s57 := s6.trans s67
          refine iteF (row0_is rfl ht h0 (lab_kind r) ?_)
          cases el : labR r with
          | some z =>
            rw [el] at es lab
            obtain rfl : r = .label z := by
              cases r with
              | label z' => cases el; rfl
              | _ => cases el
            obtain ⟨a', ea, h2⟩ := hrv7
            cases ea
            have none1 : valV (labT rs i) (Sum.inr z) = none := labT_val rs z i fun j hj => ok.uniq i z lab j hj
            refine iteT ⟨_, rfl, ta, _, _, _, rfl, rfl, h2, at_of (i := 1) rfl, _, rfl, S, _, rfl, DGet.k (k := Sum.inr z) hS7, _, rfl, ?_⟩
            rw [none1]
            refine iteF ?_
            refine ⟨_, rfl, ta, _, _, _, rfl, rfl, h2, at_of (i := 0) rfl, rfl, _, rfl, kEq (by decide +kernel) ?_⟩
            refine ⟨_, rfl, _, rfl, ta, _, _, _, rfl, rfl, h2, at_of (i := 1) rfl, S, _, rfl, DPut.k (k := Sum.inr z) hS7 ?_, ?_⟩
            · have := labT_len rs i
              exact small1000 (by omega)
            · have h3 : SqT K (upd H7 S (.dK (putK (labT rs i) (Sum.inr z) (.bl true)))) ta [.str "label", .str z] := sqT_put h2 hS7 trivial
              refine ⟨_, rfl, ta, _, _, _, rfl, rfl, h3, at_of (i := 0) rfl, rfl, _, rfl, kNe (by decide +kernel) ?_⟩
              refine iteF (fin ?_ ?_)
              · intro c o hc
                have cS : c ≠ S := ne_of_none hc hS
                rw [upd_ne cS]
                exact s57 _ _ hc
              · rw [upd_same, es]
          | none =>
            rw [el] at es
            refine iteF ?_
            refine iteF ?_
            refine ⟨_, rfl, ta, zs, _, _, rfl, rfl, ht, at_of (i := 0) h0, rfl, _, rfl, ?_⟩
            rw [strEq, lab_kind, el]
            refine iteF ?_
            refine ⟨_, rfl, ta, zs, _, _, rfl, rfl, ht, at_of (i := 0) h0, rfl, _, rfl, ?_⟩
            rw [strEq, br_kind]
            have hS8 : H7 S = some (.dK (labT rs (i + 1))) := by rw [es]; exact hS7
            cases r with
            | branch c n m =>
              obtain ⟨a', ea, h2⟩ := hrv7
              cases ea
              refine iteT ⟨_, rfl, ta, _, _, _, rfl, rfl, h2, at_of (i := 3) rfl, rfl, _, rfl, ?_⟩
              rw [intEq]
              by_cases hm : m = 0
              · rw [decide_eq_true hm]
                exact iteF (iteF (fin s57 hS8))
              · rw [decide_eq_false hm]
                have none2 : valV (labT rs rs.length) (Sum.inr n) = none := labT_val rs n _ fun j _ => ok.zero i c n m hri hm j
                refine iteT ⟨_, rfl, ta, _, _, _, rfl, rfl, h2, at_of (i := 2) rfl, _, rfl, E1, _, rfl, DGet.k (k := Sum.inr n) hE7, _, rfl, ?_⟩
                rw [none2]
                exact iteF (fin s57 hS8)
            | words n => exact iteF (iteF (fin s57 hS8))
            | even n => exact iteF (iteF (fin s57 hS8))
            | label z => cases el
        · rintro σ H6 ⟨a, b, rfl, s6, hS6⟩
          refine ⟨_, rfl, q H6 D ys ((s4.trans s45).trans s6) hDn (s6 _ _ (s45 _ _ hD4)) (rowsP_of (KpT.of (s45.trans s6)) hys)⟩
end

/-! ### drafts -/
def drF (p q d o : Addr) : List (Str × V) := [("parts", .ref p), ("forks", .ref q), ("aims", .ref d), ("outs", .ref o)]
structure DrAt (K : PySem.W.Frag) (H : Hp) (C x : Addr) (rs : List Row) (dx p q d o : Addr) (xs : List V) : Prop where
  ins : H x = some (.ins C dx (drF p q d o))
  parts : SqT K H p xs
  rows : RowsP K H xs rs
  forks : SqT K H q (nats (brs rs))
  aims : H d = some (.dK (aimD rs))
  outs : SqT K H o (nats (outs rs))
theorem DrAt.same {K : PySem.W.Frag} {H H' : Hp} {C x : Addr} {rs : List Row} {dx p q d o : Addr} {xs : List V} (e : Same H H') (h : DrAt K H C x rs dx p q d o xs) : DrAt K H' C x rs dx p q d o xs :=
  ⟨e _ _ h.ins, sqT_same e h.parts, rowsP_of (KpT.of e) h.rows, sqT_same e h.forks, e _ _ h.aims, sqT_same e h.outs⟩
theorem take_not {α : Type} {l : List α} {i : Nat} {a : α} (nd : l.Nodup) (h : l[i]? = some a) : a ∉ l.take i := by
  intro hm
  obtain ⟨j, hj, ej⟩ := List.mem_iff_getElem.mp hm
  have hj2 : j < i := by
    rw [List.length_take] at hj
    omega
  have hi : i < l.length := (List.getElem?_eq_some_iff.mp h).1
  have e1 : l[i] = a := (List.getElem?_eq_some_iff.mp h).2
  have e2 : l[j] = a := by rw [← ej, List.getElem_take]
  exact List.pairwise_iff_getElem.mp nd j i (by omega) hi hj2 (e2.trans e1.symm)
/-- a draft of these rows at x -/
def DraftV (K : PySem.W.Frag) (H : Hp) (C x : Addr) (rs : List Row) : Prop := DrOk rs ∧ ∃ dx p q d o xs, DrAt K H C x rs dx p q d o xs
theorem draftV_same {K : PySem.W.Frag} {H H' : Hp} {C x : Addr} {rs : List Row} (e : Same H H') (h : DraftV K H C x rs) : DraftV K H' C x rs := by
  obtain ⟨ok, dx, p, q, d, o, xs, h⟩ := h
  exact ⟨ok, dx, p, q, d, o, xs, h.same e⟩
/-- what is known of the class -/
structure DrC (K : PySem.W.Frag) (C : Addr) : Prop where
  cl : Cls K C
  n1 : NoAttr K C "parts"
  n2 : NoAttr K C "forks"
  n3 : NoAttr K C "aims"
  n4 : NoAttr K C "outs"
theorem toOf_at {rs : List Row} {i : Nat} {r : Row} (h : rs[i]? = some r) : toOf rs i = match r with
    | .branch _ n _ => some n
    | _ => none := by
  have e : toOf rs i = (match some r with | some (.branch _ n _) => some n | _ => none) := by
    rw [← h]
    rfl
  rw [e]
  cases r <;> rfl
theorem isBr_at {rs : List Row} {i : Nat} {r : Row} (h : rs[i]? = some r) : isBr rs i = match r with
    | .branch _ _ _ => true
    | _ => false := by
  have e : isBr rs i = (match some r with | some (.branch _ _ _) => true | _ => false) := by
    rw [← h]
    rfl
  rw [e]
  cases r <;> rfl
theorem brsTo_succ (rs : List Row) (i : Nat) : brsTo rs (i + 1) = brsTo rs i ++ (if isBr rs i = true then [i] else []) := by
  unfold brsTo
  rw [List.range_succ, List.filter_append]
  congr 1
  cases e : isBr rs i <;> simp [List.filter, e]
theorem brsTo_len (rs : List Row) (i : Nat) : (brsTo rs i).length ≤ i := by
  unfold brsTo
  refine Nat.le_trans (List.length_filter_le _ _) ?_
  rw [List.length_range]
  exact Nat.le_refl _
theorem brs_nodup (rs : List Row) : (brs rs).Nodup := List.Nodup.sublist (List.filter_sublist ..) List.nodup_range
theorem brs_mem {rs : List Row} {k : Nat} (h : k ∈ brs rs) : ∃ c n m, rs[k]? = some (.branch c n m) := by
  unfold brs brsTo at h
  have h2 := (List.mem_filter.mp h).2
  unfold isBr at h2
  split at h2
  · rename_i c n m e
    exact ⟨c, n, m, e⟩
  · cases h2
theorem mem_inn {rs : List Row} {k : Nat} : k ∈ inn rs ↔ k < rs.length ∧ (aim rs k).isSome = true := by
  unfold inn innTo
  rw [List.mem_filter, List.mem_range]
theorem ne_of_none' {H : Hp} {x p : Addr} {o : HO} (h : H x = some o) (hp : H p = none) : p ≠ x := fun z => by
  rw [z, h] at hp
  cases hp
def spInit (K : PySem.W.Frag) (C : Addr) : Sp := fun vs H Q _ => ∃ (x L dx : Addr) (xs : List V) (rs : List Row), vs = [.ref x, .ref L] ∧ H x = some (.ins C dx []) ∧ SqL K H L xs ∧ RowsL K H xs rs ∧ DrOk rs ∧
  ∀ H', (∀ b o, b ≠ x → H b = some o → H' b = some o) → DraftV K H' C x rs → Q .non H'
abbrev sInit : Stmt := inClass (topS 37) 0
theorem scInit : FnScope ["self", "rows", "labels", "index", "row"] ["self", "rows"] (defScope sInit) := ⟨rfl, rfl, rfl, by decide +kernel, rfl, by decide +kernel, by decide +kernel⟩
abbrev tPart2 (K : PySem.W.Frag) : TE := tOp (rIxT K) (tOp (rIxT K) (tFld K (tVar 0) "parts") (tVar 3)) (tC (.int 2))
section
variable {P : Program} {w : World} {K : PySem.W.Frag} {mg : Str → Option Value} {base : Heap}
theorem ok_init {f C : Addr} {fd : FuncData} (F : Fun K "__init__" "Draft.__init__" sInit f fd) (T : Bi mg) (B : DrC K C) (G1 : Has P w K mg base CX0 7 "read_rows" ["rows"] (spReadRows K)) (G2 : Has P w K mg base CX0 7 "labels_in" ["rows"] (spLabelsIn K)) :
    FnOk P w K mg base CX0 8 f fd ["self", "rows"] (spInit K C) := by
  refine F.ok scInit (fun vs H Q E h => ?_) (fun cdv A outer s H vs Q E hr h => ?_)
  · obtain ⟨x, L, dx, xs, rs, rfl, _⟩ := h
    rfl
  · obtain ⟨x, L, dx, xs, rs, rfl, hx, hL, hrs, ok, qq⟩ := h
    have hu := hu_of hr
    refine ⟨_, (pss_cons (ps_fld (pv 0) (pe_callTy call_tuple_of (by rfl) T.tuple (by decide +kernel) (pa_cons (pe_callH G1 hr (by rfl) pass0 (pa_cons (pv 1) pa_nil)) pa_nil)) rfl)
      (pss_cons (ps_set (i := 2) scInit.nd rfl (.inr rfl) (pe_callH G2 hr (by rfl) pass0 (pa_cons (pe_fld (pv 0) rfl) pa_nil)))
      (pss_cons (ps_fld (pv 0) (pe_callTy call_tuple_of (by rfl) T.tuple (by decide +kernel) (pa_cons (pe_lc (own := [("index", 3), ("row", 4)]) (g := g2 K 3 4) (tt := row0Is K 4 "branch") rfl scInit.nd (pi_enumT (by rfl) T.enumerate (pa_cons (pe_fld (pv 0) rfl) pa_nil)) (blkOk_by (N := ["self", "rows", "labels", "index", "row"]) (sc := defScope sInit) (by decide +kernel))
          (fun _ _ _ _ _ => (pg_tup rfl (pgs_cons (pg_name (i := 3) scInit.nd rfl (.inl rfl) (.inr rfl)) (pgs_cons (pg_name (i := 4) scInit.nd rfl (.inl rfl) (.inr rfl)) pgs_nil)))) (fun _ _ _ _ _ => pts_one (pt_cmpR op_eq (pe_ix ix_tup (pv 4) pe_int (fun _ _ => rfl)) pe_str (nomark _))) (fun _ _ _ _ _ => pv 3)) pa_nil)) rfl)
      (pss_cons (ps_fld (pv 0) (pe_dc (own := [("index", 3)]) (g := gName 3) (tt := tB (tDIn (tPart2 K) (tVar 2))) (tk := tVar 3) (tv := tDGet (tVar 2) (tPart2 K)) rfl scInit.nd (pi_tup (pe_fld (pv 0) rfl)) (blkOk_by (N := ["self", "rows", "labels", "index", "row"]) (sc := defScope sInit) (by decide +kernel)) (fun _ _ _ _ _ => pg_name (i := 3) scInit.nd rfl (.inl rfl))
          (fun _ _ _ _ _ => pts_one (pt_cmp (pc_din hu (pe_ix ix_tup (pe_ix ix_tup (pe_fld (pv 0) rfl) (pv 3) (fun _ _ => rfl)) pe_int (fun _ _ => rfl)) (pv 2)))) (fun _ _ _ _ _ => pv 3) (fun _ _ _ _ _ => pe_dget hu (pv 2) (pe_ix ix_tup (pe_ix ix_tup (pe_fld (pv 0) rfl) (pv 3) (fun _ _ => rfl)) pe_int (fun _ _ => rfl)) (fun _ _ => rfl))) rfl)
      (pss_one (ps_fld (pv 0) (pe_callTy call_tuple_of (by rfl) T.tuple (by decide +kernel) (pa_cons (pe_lc (own := [("index", 3)]) (g := gName 3) (tt := tB (tDNotIn (tVar 3) (tFld K (tVar 0) "aims"))) rfl scInit.nd (pi_tup (pe_fld (pv 0) rfl)) (blkOk_by (N := ["self", "rows", "labels", "index", "row"]) (sc := defScope sInit) (by decide +kernel)) (fun _ _ _ _ _ => pg_name (i := 3) scInit.nd rfl (.inl rfl))
          (fun _ _ _ _ _ => pts_one (pt_cmp (pc_dnotin hu (pv 3) (pe_fld (pv 0) rfl)))) (fun _ _ _ _ _ => pv 3)) pa_nil)) rfl)))))), ?_⟩
    refine ⟨_, rfl, L, xs, rs, rfl, hL, hrs, ok, fun H1 D ys s1 hD0 hD hys => ⟨D, ys, rfl, .inl ⟨SqL.of hD, fun p hp => ?_⟩⟩⟩
    have lx := rowsV_len (rowsP_V hys)
    have ol := ok.len
    have pnx : p ≠ x := ne_of_none' (s1 _ _ hx) hp
    have s12 := s1.trans (same_new (o := .tup ys) hp)
    refine ⟨_, rfl, x, C, dx, [], rfl, s12 _ _ hx, B.cl, B.n1, (by decide), ?_⟩
    -- what stands but for x
    generalize hH3 : upd (upd H1 p (.tup ys)) x (.ins C dx (putF "parts" (.ref p) [])) = H3
    have k3 : ∀ b o, b ≠ x → H b = some o → H3 b = some o := fun b o hb e => by
      rw [← hH3, upd_ne hb]
      exact s12 _ _ e
    have x3 : H3 x = some (.ins C dx [("parts", .ref p)]) := by rw [← hH3, upd_same]; rfl
    have p3 : SqT K H3 p ys := SqT.of (by rw [← hH3, upd_ne pnx]; exact upd_same)
    have r3 : RowsP K H3 ys rs := by
      rw [← hH3]
      exact rowsP_of ((KpT.of (same_new hp)).trans (KpT.put (s12 _ _ hx) trivial)) hys
    refine ⟨_, rfl, x, C, dx, _, _, rfl, x3, B.cl, B.n1, rfl, p, ys, rs, rfl, p3, rowsP_V r3, ol, fun H4 l s4 hl0 hl => ?_⟩
    have x4 := s4 _ _ x3
    have p4 := sqT_same s4 p3
    have r4 : RowsP K H4 ys rs := rowsP_of (KpT.of s4) r3
    refine ⟨_, rfl, x, C, dx, _, _, rfl, x4, B.cl, B.n1, rfl, p, ys, rfl, p4, fun D2 hD2 => ?_⟩
    refine lc_it walk_enumT (fun i H5 => (∀ c o, c ≠ D2 → H4 c = some o → H5 c = some o) ∧ H5 D2 = some (.lst (nats (brsTo rs i)))) ⟨fun c o hc e => by rw [upd_ne hc]; exact e, upd_same⟩ (fun i H5 _ ⟨kp, _⟩ => sqT_same (fun c o e => kp c o (ne_of_none e hD2) e) p4) ?_ ?_
    · rintro i z H5 H5' hi ⟨kp, hD5⟩ ⟨TT, x', y, rfl, hT, rfl, hx', hy⟩
      cases hx'
      have s45 : Same H4 H5 := fun c o e => kp c o (ne_of_none e hD2) e
      have s5 : Same H5 (upd H5 TT (.tup [.int (i : Nat), y])) := same_new hT
      obtain ⟨r, hri, hrv⟩ := rowsV_get (rowsP_V r4) hy
      have hrv5 := rowV_same (s45.trans s5) hrv
      obtain ⟨ta, zs, rfl, ht, h0⟩ := rowV_tup hrv5
      have hD5' := s5 _ _ hD5
      have hi2 : i < rs.length := (List.getElem?_eq_some_iff.mp hri).1
      refine ⟨TT, _, rfl, SqT.of upd_same, rfl, _, _, rfl, _, _, rfl, rfl, rfl, row0_is rfl ht h0 (br_kind r) ?_⟩
      have eb := isBr_at hri
      have kp5 : ∀ (o' : HO) c o, c ≠ D2 → H4 c = some o → upd (upd H5 TT (.tup [.int (i : Nat), .ref ta])) D2 o' c = some o := fun o' c o hc e => by
        rw [upd_ne hc]
        exact s5 _ _ (kp c o hc e)
      have stay : isBr rs i = false → (∀ c o, c ≠ D2 → H4 c = some o → (upd H5 TT (.tup [.int (i : Nat), .ref ta])) c = some o) ∧ (upd H5 TT (.tup [.int (i : Nat), .ref ta])) D2 = some (.lst (nats (brsTo rs (i + 1)))) := by
        intro e
        refine ⟨fun c o hc e => s5 _ _ (kp c o hc e), ?_⟩
        rw [brsTo_succ, e]
        simpa using hD5'
      cases r with
      | branch c n m =>
        refine iteT ⟨_, rfl, _, hD5', ?_, kp5 _, ?_⟩
        · rw [nats_len]
          have := brsTo_len rs i
          exact small1000 (by omega)
        · rw [upd_same, brsTo_succ, eb, nats_app]
          rfl
      | words n => exact iteF (stay eb)
      | label n => exact iteF (stay eb)
      | even n => exact iteF (stay eb)
    · rintro H5 ⟨kp, hD5⟩
      rw [lx] at hD5
      have s45 : Same H4 H5 := fun c o e => kp c o (ne_of_none e hD2) e
      refine ⟨D2, _, rfl, .inl ⟨SqL.of hD5, fun q hq => ?_⟩⟩
      have s46 := s45.trans (same_new (o := .tup (nats (brsTo rs rs.length))) hq)
      have x6 := s46 _ _ x4
      have qnx : q ≠ x := ne_of_none' (s45 _ _ x4) hq
      refine ⟨_, rfl, x, C, dx, _, rfl, x6, B.cl, B.n2, (by show 1 < 1000; decide), ?_⟩
      generalize hH7 : upd (upd H5 q (.tup (nats (brsTo rs rs.length)))) x (.ins C dx (putF "forks" (.ref q) [("parts", .ref p)])) = H7
      have k7 : ∀ b o, b ≠ x → H b = some o → H7 b = some o := fun b o hb e => by
        rw [← hH7, upd_ne hb]
        exact s46 _ _ (s4 _ _ (k3 b o hb e))
      have x7 : H7 x = some (.ins C dx [("parts", .ref p), ("forks", .ref q)]) := by rw [← hH7, upd_same]; rfl
      have k7t : KpT K H4 H7 := by
        rw [← hH7]
        exact (KpT.of s46).trans (KpT.put x6 trivial)
      have t7 := k7t.sq
      have q7 : SqT K H7 q (nats (brs rs)) := SqT.of (by rw [← hH7, upd_ne qnx]; exact upd_same)
      have l7 : H7 l = some (.dK (spD rs rs.length)) := by
        rw [← hH7, upd_ne (ne_of (s4 _ _ (by exact x3)) hl (by intro z; cases z)).symm]
        exact s46 _ _ hl
      refine ⟨_, rfl, x, C, dx, _, _, rfl, x7, B.cl, B.n2, rfl, q, rfl, ⟨_, q7⟩, fun D3 hD3 => ?_⟩
      refine dc_it walk_tup (fun i H8 => (∀ c o, c ≠ D3 → H7 c = some o → H8 c = some o) ∧ H8 D3 = some (.dK (mapD (fun k => .int (((aim rs k).getD 0 : Nat) : Int)) (((brs rs).take i).filter fun k => (aim rs k).isSome)))) ⟨fun c o hc e => by rw [upd_ne hc]; exact e, upd_same⟩
        (fun i H8 _ ⟨kp, _⟩ => sqT_same (fun c o e => kp c o (ne_of_none e hD3) e) q7) ?_ ?_
      · rintro i z H8 H8' hi ⟨kp8, hD8⟩ ⟨rfl, hz⟩
        have s78 : Same H7 H8' := fun c o e => kp8 c o (ne_of_none e hD3) e
        obtain ⟨k, hk, rfl⟩ : ∃ k, (brs rs)[i]? = some k ∧ z = V.int ((k : Nat) : Int) := by
          unfold nats at hz
          rw [List.getElem?_map] at hz
          cases e : (brs rs)[i]? with
          | none => rw [e] at hz; cases hz
          | some k => rw [e] at hz; exact ⟨k, rfl, (Option.some.inj hz).symm⟩
        have hkm := List.mem_of_getElem? hk
        obtain ⟨c, n, m, hrk⟩ := brs_mem hkm
        obtain ⟨yk, hyk⟩ : ∃ yk, ys[k]? = some yk := ⟨ys[k]'(by rw [lx]; exact (List.getElem?_eq_some_iff.mp hrk).1), List.getElem?_eq_getElem _⟩
        obtain ⟨r', hr', hrv⟩ := rowsV_get (rowsP_V (rowsP_of k7t r4)) hyk
        obtain rfl : r' = .branch c n m := Option.some.inj (hr'.symm.trans hrk)
        obtain ⟨ta, rfl, ht⟩ := rowV_same s78 hrv
        have x8 := s78 _ _ x7
        have p8 := sqT_same s78 (t7 _ _ p4)
        have l8 := s78 _ _ l7
        have q8 : ∀ {W : V → Hp → Prop}, W (.str n) H8' → tPart2 K ((wipe [some (.ref x), some (.ref L), some (.ref l), none, none] [3]).set 3 (some (.int (k : Int)))) H8' W := fun {W} h => ⟨_, rfl, x, C, dx, _, _, rfl, x8, B.cl, B.n1, rfl, _, rfl, p, ys, _, _, rfl, rfl, p8, at_of hyk, ta, _, _, _, rfl, rfl, ht, at_of (i := 2) rfl, h⟩
        have ea : aim rs k = spot rs n := by
          unfold aim
          rw [toOf_at hrk]
          rfl
        have tk : (brs rs).take (i + 1) = (brs rs).take i ++ [k] := by
          rw [List.take_add_one, hk]
          rfl
        have sv := spot_spV rs n
        rw [← ea] at sv
        refine ⟨rfl, q8 ⟨_, rfl, l, _, rfl, DGet.k (k := Sum.inr n) l8, _, rfl, ?_⟩⟩
        show if (spV rs n).isSome = true then _ else _
        rw [sv]
        cases e : aim rs k with
        | none =>
          refine iteF ⟨kp8, ?_⟩
          rw [tk, List.filter_append]
          have z : [k].filter (fun k => (aim rs k).isSome) = [] := by simp [List.filter, e]
          rw [z, List.append_nil]
          exact hD8
        | some j =>
          rw [e] at sv
          refine iteT ⟨_, rfl, _, rfl, q8 ⟨l, _, rfl, (by
            have g := DGet.k (k := Sum.inr n) l8
            rw [show valV (spD rs rs.length) (Sum.inr n) = some (.int (j : Nat)) from sv] at g
            exact g), _, Sum.inl (k : Int), rfl, hD8, ?_, fun c o hc ec => ?_, ?_⟩⟩
          · rw [mapD_len]
            have h1 : (((brs rs).take i).filter fun k => (aim rs k).isSome).length ≤ ((brs rs).take i).length := List.length_filter_le _ _
            have h2 : ((brs rs).take i).length ≤ (brs rs).length := by rw [List.length_take]; omega
            have h3 := brsTo_len rs rs.length
            have h4 : (brs rs).length = (brsTo rs rs.length).length := rfl
            exact small1000 (by omega)
          · rw [upd_ne hc]
            exact kp8 c o hc ec
          · rw [upd_same, tk, List.filter_append]
            have z : [k].filter (fun k => (aim rs k).isSome) = [k] := by simp [List.filter, e]
            have nw : valV (mapD (fun k => .int (((aim rs k).getD 0 : Nat) : Int)) (((brs rs).take i).filter fun k => (aim rs k).isSome)) (Sum.inl (k : Int)) = none := by
              rw [mapD_val, if_neg]
              intro hm
              exact take_not (brs_nodup rs) hk (List.mem_filter.mp hm).1
            rw [z, putK_new _ nw]
            unfold mapD
            rw [List.map_append, List.map_singleton]
            have z2 : (fun (k : Nat) => V.int (((aim rs k).getD 0 : Nat) : Int)) k = V.int (j : Int) := by
              show V.int (((aim rs k).getD 0 : Nat) : Int) = _
              rw [e]
              rfl
            rw [z2]
      · rintro H8 ⟨kp8, hD8⟩
        rw [nats_len, List.take_length, brs_inn] at hD8
        have hD8 : H8 D3 = some (.dK (aimD rs)) := hD8
        have s78 : Same H7 H8 := fun c o e => kp8 c o (ne_of_none e hD3) e
        have x8 := s78 _ _ x7
        have D3x : D3 ≠ x := (ne_of_none' x7 hD3)
        refine ⟨_, rfl, x, C, dx, _, rfl, x8, B.cl, B.n3, (by show 2 < 1000; decide), ?_⟩
        generalize hH9 : upd H8 x (.ins C dx (putF "aims" (.ref D3) [("parts", .ref p), ("forks", .ref q)])) = H9
        have k9 : ∀ b o, b ≠ x → H7 b = some o → H9 b = some o := fun b o hb e => by
          rw [← hH9, upd_ne hb]
          exact s78 _ _ e
        have x9 : H9 x = some (.ins C dx [("parts", .ref p), ("forks", .ref q), ("aims", .ref D3)]) := by rw [← hH9, upd_same]; rfl
        have d9 : H9 D3 = some (.dK (aimD rs)) := by rw [← hH9, upd_ne D3x]; exact hD8
        have k9t : KpT K H7 H9 := by
          rw [← hH9]
          exact (KpT.of s78).trans (KpT.put x8 trivial)
        have t9 := k9t.sq
        refine ⟨_, rfl, x, C, dx, _, _, rfl, x9, B.cl, B.n2, rfl, q, rfl, ⟨_, t9 _ _ q7⟩, fun D4 hD4 => ?_⟩
        refine lc_it walk_tup (fun i Ha => (∀ c o, c ≠ D4 → H9 c = some o → Ha c = some o) ∧ Ha D4 = some (.lst (nats (((brs rs).take i).filter fun k => (aim rs k).isNone)))) ⟨fun c o hc e => by rw [upd_ne hc]; exact e, upd_same⟩
          (fun i Ha _ ⟨kp, _⟩ => sqT_same (fun c o e => kp c o (ne_of_none e hD4) e) (t9 _ _ q7)) ?_ ?_
        · rintro i z Ha Ha' hi ⟨kpa, hDa⟩ ⟨rfl, hz⟩
          have s9a : Same H9 Ha' := fun c o e => kpa c o (ne_of_none e hD4) e
          obtain ⟨k, hk, rfl⟩ : ∃ k, (brs rs)[i]? = some k ∧ z = V.int ((k : Nat) : Int) := by
            unfold nats at hz
            rw [List.getElem?_map] at hz
            cases e : (brs rs)[i]? with
            | none => rw [e] at hz; cases hz
            | some k => rw [e] at hz; exact ⟨k, rfl, (Option.some.inj hz).symm⟩
          have tk : (brs rs).take (i + 1) = (brs rs).take i ++ [k] := by
            rw [List.take_add_one, hk]
            rfl
          obtain ⟨c, n, m, hrk⟩ := brs_mem (List.mem_of_getElem? hk)
          have hlt : k < rs.length := (List.getElem?_eq_some_iff.mp hrk).1
          refine ⟨rfl, _, rfl, _, rfl, x, C, dx, _, _, rfl, s9a _ _ x9, B.cl, B.n3, rfl, D3, _, rfl, DGet.k (k := Sum.inl (k : Int)) (s9a _ _ d9), _, rfl, ?_⟩
          have ev : (valV (aimD rs) (Sum.inl (k : Int))).isSome = (aim rs k).isSome := by
            unfold aimD
            rw [mapD_val]
            cases e : aim rs k with
            | none =>
              rw [if_neg]
              · rfl
              · intro hm
                have := (mem_inn.mp hm).2
                rw [e] at this
                cases this
            | some j =>
              rw [if_pos (mem_inn.mpr ⟨hlt, by rw [e]; rfl⟩)]
              rfl
          rw [ev]
          cases e : aim rs k with
          | none =>
            refine iteT ⟨_, rfl, _, hDa, ?_, fun c o hc ec => ?_, ?_⟩
            · rw [nats_len]
              have h1 : (((brs rs).take i).filter fun k => (aim rs k).isNone).length ≤ ((brs rs).take i).length := List.length_filter_le _ _
              have h2 : ((brs rs).take i).length ≤ (brs rs).length := by rw [List.length_take]; omega
              have h3 := brsTo_len rs rs.length
              have h4 : (brs rs).length = (brsTo rs rs.length).length := rfl
              exact small1000 (by omega)
            · rw [upd_ne hc]
              exact kpa c o hc ec
            · rw [upd_same, tk, List.filter_append, nats_app]
              have z : [k].filter (fun k => (aim rs k).isNone) = [k] := by simp [List.filter, e]
              rw [z]
              rfl
          | some j =>
            refine iteF ⟨kpa, ?_⟩
            rw [tk, List.filter_append]
            have z : [k].filter (fun k => (aim rs k).isNone) = [] := by simp [List.filter, e]
            rw [z, List.append_nil]
            exact hDa
        · rintro Ha ⟨kpa, hDa⟩
          rw [nats_len, List.take_length] at hDa
          have s9a : Same H9 Ha := fun c o e => kpa c o (ne_of_none e hD4) e
          refine ⟨D4, _, rfl, .inl ⟨SqL.of hDa, fun o ho => ?_⟩⟩
          have s9b := s9a.trans (same_new (o := .tup (nats (outs rs))) ho)
          have xb := s9b _ _ x9
          have onx : o ≠ x := ne_of_none' (s9a _ _ x9) ho
          refine ⟨_, rfl, x, C, dx, _, rfl, xb, B.cl, B.n4, (by show 3 < 1000; decide), ?_⟩
          refine qq _ (fun b u hb e => ?_) ⟨ok, dx, p, q, D3, o, ys, ⟨upd_same, ?_, ?_, ?_, ?_, ?_⟩⟩
          · rw [upd_ne hb]
            exact s9b _ _ (k9 b u hb (k7 b u hb e))
          · exact sqT_put (sqT_same s9b (t9 _ _ (t7 _ _ p4))) xb trivial
          · exact rowsP_of (((k7t.trans k9t).trans (KpT.of s9b)).trans (KpT.put xb trivial)) r4
          · exact sqT_put (sqT_same s9b (t9 _ _ q7)) xb trivial
          · rw [upd_ne D3x]
            exact s9b _ _ d9
          · exact SqT.of (by rw [upd_ne onx]; exact upd_same)
end

/-- a method of the class at C that keeps its promise -/
structure HasM (P : Program) (w : World) (K : PySem.W.Frag) (mg : Str → Option Value) (base : Heap) (CX : CXT) (k : Nat) (C : Addr) (m : Str) (ps : List Str) (sp : Sp) : Prop where
  ex : ∃ (f : Addr) (fd : FuncData), Meth K C m f ∧ Binds K fd ps [] ∧ FnOk P w K mg base CX k f fd ps sp
  cl : Cls K C
theorem HasM.mono {P : Program} {w : World} {K : PySem.W.Frag} {mg : Str → Option Value} {base : Heap} {CX : CXT} {j k : Nat} {C : Addr} {m : Str} {ps : List Str} {sp : Sp} (h : HasM P w K mg base CX j C m ps sp) (l : j ≤ k) : HasM P w K mg base CX k C m ps sp := by
  obtain ⟨⟨f, fd, a, b, c⟩, d⟩ := h
  exact ⟨⟨f, fd, a, b, c.mono l⟩, d⟩
section
variable {X : Cx} {CX : CXT} {k : Nat} {C : Addr} {ps : List Str} {sp : Sp} {E : XK} {m : Str} {p pos apos : Pos} {e o : Expr} {es : List Expr} {t : TA} {ta : TE}
theorem pe_methH {pl : Sem Bool} (M : HasM X.prog X.w X.K X.mg X.base CX k C m ps sp) (he : PE X o ta) (hr : Room k X.A) (hx : Passes CX X E) (ha : PA X (e :: es) t)
    (hst : starEach (e :: es) X.env = (false, eval e X.env) :: starEach es X.env := by rfl) (hpl : (backTo pos (starEach es X.env)).any (·.1) = false := by rfl)
    (ht : eval (.Call (.Attribute o m apos) (e :: es) [] pos) X.env = (do
      let ov ← eval o X.env
      standAt apos.atName
      let (f, first) ← holding [ov] (getMethod ov m pl)
      callWith pos f first (backTo pos (starEach (e :: es) X.env)) (backToKw pos (keywordEach [] X.env))) := by rfl) : PE X (.Call (.Attribute o m apos) (e :: es) [] pos) (tMeth C m sp [] E ta t) := by
  obtain ⟨⟨f, fd, a, b, c⟩, d⟩ := M
  exact pe_meth he d a c hr b .nil hx ha hst hpl ht
theorem pe_methH0 {pl : Sem Bool} (M : HasM X.prog X.w X.K X.mg X.base CX k C m ps sp) (he : PE X o ta) (hr : Room k X.A) (hx : Passes CX X E)
    (ht : eval (.Call (.Attribute o m apos) [] [] pos) X.env = (do
      let ov ← eval o X.env
      standAt apos.atName
      let (f, first) ← holding [ov] (getMethod ov m pl)
      callWith pos f first (backTo pos (starEach [] X.env)) (backToKw pos (keywordEach [] X.env))) := by rfl) : PE X (.Call (.Attribute o m apos) [] [] pos) (tMeth C m sp [] E ta tNil) := by
  obtain ⟨⟨f, fd, a, b, c⟩, d⟩ := M
  exact pe_meth0 he d a c hr b .nil hx ht
end
abbrev mth (j : Nat) : Stmt := inClass (topS 37) j
abbrev sChosen : Stmt := mth 5
theorem scChosen : FnScope ["self", "thing", "choice", "index"] ["self", "thing"] (defScope sChosen) := ⟨rfl, rfl, rfl, by decide +kernel, rfl, by decide +kernel, by decide +kernel⟩
/-- a thing that is a branch of the rows -/
def brB (rs : List Row) : PyData → Bool
  | .int n => decide (n ∈ (brs rs).map fun (k : Nat) => (k : Int))
  | _ => false
/-- what BadChoice(v) comes to -/
def ThE (f : Str) (CE : Addr) (v : V) (H : Hp) (E : XK) : Prop := ∀ H' dx, Same H H' → H' dx = none → E (.ref CE) (some dx) (upd H' dx (.xd [(f, v)]))
/-- a right choice -/
structure ChOk (rs : List Row) (ns : List Int) : Prop where
  br : ∀ n ∈ ns, n ∈ (brs rs).map fun (k : Nat) => (k : Int)
  asc : ns.Pairwise (· < ·)
  out : ∀ k ∈ outs rs, ((k : Nat) : Int) ∈ ns
  len : ns.length ≤ 900
def spChosen (K : PySem.W.Frag) (C CE : Addr) : Sp := fun vs H Q E => ∃ (x : Addr) (v : V) (d : PyData) (rs : List Row), vs = [.ref x, v] ∧ DraftV K H C x rs ∧ Th K H v d ∧
  ((∃ ds, items d = some ds ∧ ∃ ns, ds = ns.map .int ∧ ChOk rs ns ∧ ∀ H' p, Same H H' → SqT K H' p (ns.map V.int) → Q (.ref p) H') ∨ ((items d = none ∨ ∃ ds, items d = some ds ∧ ds.length ≤ 900 ∧ ds.all (brB rs) = false) ∧ ThE "thing" CE v H E))
theorem asc_true {ns : List Int} (h : ns.Pairwise (· < ·)) : ascB ns = true := by
  unfold ascB ascN
  rw [List.all_eq_true]
  intro b hb
  obtain ⟨⟨x, y⟩, hxy, rfl⟩ := List.mem_map.mp hb
  obtain ⟨i, hi, e⟩ := List.mem_iff_getElem.mp (List.mem_of_mem_take hxy)
  have l1 : i < ns.length := by
    rw [List.length_zip] at hi
    omega
  have l2 : i + 1 < ns.length := by
    rw [List.length_zip, List.length_drop] at hi
    omega
  rw [List.getElem_zip, List.getElem_drop] at e
  have e1 := congrArg Prod.fst e
  have e2 := congrArg Prod.snd e
  dsimp only at e1 e2
  have := List.pairwise_iff_getElem.mp h i (1 + i) l1 (by omega) (by omega)
  show (decide (x < y)) = true
  rw [← e1, ← e2]
  exact decide_eq_true this
theorem sort_asc {ns ns' : List Int} (h : ns.Pairwise (· < ·)) (p : ns'.Perm ns) (o : ns'.Pairwise (· ≤ ·)) : ns' = ns :=
  p.eq_of_pairwise (fun a b _ _ h1 h2 => Int.le_antisymm h1 h2) o (h.imp fun z => Int.le_of_lt z)
theorem natsV (ks : List Nat) : nats ks = (ks.map fun (k : Nat) => (k : Int)).map V.int := nats_int ks
theorem dp_int {K : PySem.W.Frag} {H : Hp} {v : V} {i : Int} (h : Dp K H v (.int i)) : v = .int i := by cases h; rfl
theorem dps_int_eq {K : PySem.W.Frag} {H : Hp} : ∀ {xs : List V} {ns : List Int}, DpAll K H xs (ns.map .int) → xs = ns.map V.int
  | _, [], h => by cases h; rfl
  | _, n :: ns, h => by
    cases h with
    | cons h1 h2 => rw [dp_int h1, dps_int_eq h2, List.map_cons]
section
variable {P : Program} {w : World} {K : PySem.W.Frag} {mg : Str → Option Value} {base : Heap}
theorem ok_chosen {f C CE : Addr} {fd : FuncData} (F : Fun K "chosen" "Draft.chosen" sChosen f fd) (T : Bi mg) (B : DrC K C) (S : Err P w K mg base "BadChoice" CE "thing") (G1 : Has P w K mg base CX0 2 "is_row" ["thing"] (spIsRow K)) (G2 : Has P w K mg base CX0 2 "is_integer" ["thing"] (spIsInt K)) (G3 : Has P w K mg base CX0 2 "is_ascending" ["row"] (spAsc K)) :
    FnOk P w K mg base (L2.CX P w) 3 f fd ["self", "thing"] (spChosen K C CE) := by
  refine F.okX scChosen (fun vs H Q E h => ?_) (fun cdv A outer s H vs Q E hr h => ?_)
  · obtain ⟨x, v, d, rs, rfl, _⟩ := h
    rfl
  · obtain ⟨x, v, d, rs, rfl, ⟨ok, dx, p, fq, dd, o, ys, hx⟩, th, want⟩ := h
    refine ⟨_, (pss_cons (ps_if (PW.pt (pw_or (pt_not (pt_val (pe_callH G1 hr (by rfl) pass0 (pa_cons (pv 1) pa_nil)))) (pw_or1 (pt_not (pt_val (pe_callB (cr_all rfl) (by rfl) T.all (by decide +kernel) (pa_cons (pe_lc (own := [("index", 3)]) (g := gName 3) (tt := tYes) rfl scChosen.nd (pi_seq (pv 1)) (blkOk_by (N := ["self", "thing", "choice", "index"]) (sc := defScope sChosen) (by decide +kernel)) (fun _ _ _ _ _ => pg_name (i := 3) scChosen.nd rfl (.inl rfl)) (fun _ _ _ _ _ => pts_nil)
          (te := tAndV (tCall (spIsInt K) [] E00 (tCons (tVar 3) tNil)) (tOp (rIn K false) (tVar 3) (tFld K (tVar 0) "forks"))) (fun _ _ _ _ _ => pe_and (pe_callH G2 hr (by rfl) pass0 (pa_cons (pv 3) pa_nil)) (pe_one (pe_cmpR op_in_seq (pv 3) (pe_fld (pv 0) rfl) (by rfl))))) pa_nil))))))) (pss_one (ps_err rfl (takes_of rfl rfl rfl rfl) S hr (by decide) (pv 1))) pss_nil)
      (pss_cons (ps_set (i := 2) scChosen.nd rfl (.inr rfl) (pe_callTy call_tuple_of (by rfl) T.tuple (by decide +kernel) (pa_cons (pe_callB cr_sortedI (by rfl) T.sorted (by decide +kernel) (pa_cons (pe_callTy call_list_of (by rfl) T.list (by decide +kernel) (pa_cons (pv 1) pa_nil)) pa_nil)) pa_nil)))
      (pss_cons (ps_if (PW.pt (pw_or (pt_not (pt_val (pe_callH G3 hr (by rfl) pass0 (pa_cons (pv 2) pa_nil)))) (pw_or1 (pt_not (pt_val (pe_callB (cr_all rfl) (by rfl) T.all (by decide +kernel) (pa_cons (pe_lc (own := [("index", 3)]) (g := gName 3) (tt := tYes) rfl scChosen.nd (pi_tup (pe_fld (pv 0) rfl)) (blkOk_by (N := ["self", "thing", "choice", "index"]) (sc := defScope sChosen) (by decide +kernel)) (fun _ _ _ _ _ => pg_name (i := 3) scChosen.nd rfl (.inl rfl)) (fun _ _ _ _ _ => pts_nil)
          (te := tOp (rIn K false) (tVar 3) (tVar 2)) (fun _ _ _ _ _ => (pe_cmpR op_in_seq (pv 3) (pv 2) (by rfl)))) pa_nil))))))) (pss_one (ps_err rfl (takes_of rfl rfl rfl rfl) S hr (by decide) (pv 1))) pss_nil)
      (pss_one (ps_ret (pv 2)))))), ?_⟩
    refine ⟨_, rfl, v, d, rfl, th, fun H1 s1 => ⟨_, rfl, ?_⟩⟩
    rw [isR_items]
    cases ei : items d with
    | none =>
      refine iteT ⟨_, rfl, err_go fun dx' hdx => ?_⟩
      rcases want with ⟨ds, e, _⟩ | ⟨_, hE⟩
      · rw [ei] at e
        cases e
      · exact hE H1 dx' s1 hdx
    | some ds =>
      refine iteF ?_
      obtain ⟨a, xs, rfl, hs, ha⟩ := th_row (th_same s1 th) ei
      have hx1 := hx.same s1
      have ldx : xs.length = ds.length := dps_len ha
      have few : ds.length ≤ 900 := by
        rcases want with ⟨ds', e, ns, rfl, g, _⟩ | ⟨h | ⟨ds', e, h, _⟩, _⟩
        · rw [ei] at e
          rw [Option.some.inj e, List.length_map]
          exact g.len
        · rw [ei] at h
          cases h
        · rw [ei] at e
          rw [Option.some.inj e]
          exact h
      refine ⟨_, rfl, a, xs, rfl, hs, fun J G wk st D hD => ?_⟩
      refine lc_it wk (fun i H4 => (∀ c o, c ≠ D → H1 c = some o → H4 c = some o) ∧ H4 D = some (.lst (((ds.take i).map (brB rs)).map V.bl))) ⟨fun c o hc e => by rw [upd_ne hc]; exact e, upd_same⟩
        (fun i H4 _ ⟨kp, _⟩ => st H4 (sqL_same (fun c o e => kp c o (ne_of_none e hD) e)) (sqT_same (fun c o e => kp c o (ne_of_none e hD) e))) ?_ ?_
      · rintro i y H4 H4' hi ⟨kp, hD4⟩ ⟨rfl, hy⟩
        obtain ⟨dy, hdy, hyd⟩ := dps_get ha hy
        have s14 : Same H1 H4' := fun c o e => kp c o (ne_of_none e hD) e
        have hi2 : i < ds.length := (List.getElem?_eq_some_iff.mp hdy).1
        have hx4 := hx1.same s14
        refine ⟨rfl, yes_go (iteT ?_)⟩
        have fin : ∀ b : Bool, brB rs dy = b → ∃ zs, H4' D = some (.lst zs) ∧ zs.length < sizeLine ∧ ((∀ c o, c ≠ D → H1 c = some o → upd H4' D (.lst (zs ++ [V.bl b])) c = some o) ∧ upd H4' D (.lst (zs ++ [V.bl b])) D = some (.lst (((ds.take (i + 1)).map (brB rs)).map V.bl))) := by
          intro b eb
          refine ⟨_, hD4, ?_, fun c o hc e => ?_, ?_⟩
          · rw [List.length_map, List.length_map, List.length_take]
            exact small1000 (by omega)
          · rw [upd_ne hc]
            exact kp c o hc e
          · rw [upd_same, List.take_add_one, hdy]
            simp [eb]
        refine ⟨_, rfl, y, dy, rfl, .dat (dp_same s14 hyd), _, rfl, ?_⟩
        cases dy with
        | int n =>
          obtain rfl := dp_int hyd
          refine iteT ⟨_, rfl, _, rfl, x, C, dx, _, _, rfl, hx4.ins, B.cl, B.n2, rfl, fq, _, rfl, .inr hx4.forks, rfl, ?_, ?_⟩
          · rw [natsV]
            exact flat_ints _
          · refine fin _ ?_
            rw [natsV, inV_ints]
            rfl
        | none => exact iteF (fin false rfl)
        | bool b => exact iteF (fin false rfl)
        | str s => exact iteF (fin false rfl)
        | list l => exact iteF (fin false rfl)
        | tuple l => exact iteF (fin false rfl)
        | dict l => exact iteF (fin false rfl)
      · rintro H4 ⟨kp, hD4⟩
        rw [ldx, List.take_length] at hD4
        have s14 : Same H1 H4 := fun c o e => kp c o (ne_of_none e hD) e
        have s4 := s1.trans s14
        refine ⟨D, _, rfl, SqL.of hD4, _, rfl, ?_⟩
        have eall : ((ds.map (brB rs)).all id) = ds.all (brB rs) := by rw [List.all_map]; rfl
        rw [eall]
        rcases want with ⟨ds', e, ns, rfl, g, qq⟩ | ⟨h | ⟨ds', e, _, h⟩, hE⟩
        · rw [ei] at e
          have e := Option.some.inj e
          subst e
          have all1 : (ns.map PyData.int).all (brB rs) = true := by
            rw [List.all_map, List.all_eq_true]
            intro n hn
            exact decide_eq_true (g.br n hn)
          rw [all1]
          refine iteF ?_
          have hns : ∀ {H9 : Hp}, DpAll K H9 xs (ns.map .int) → xs = ns.map V.int := dps_int_eq
          obtain rfl := hns ha
          have hs4 : SqE K H4 a (ns.map V.int) := sqE_same s14 hs
          refine ⟨_, rfl, a, _, rfl, hs4, fun l hl => ?_⟩
          have sl := same_new (o := .lst (ns.map V.int)) hl
          refine ⟨l, ns, rfl, SqL.of upd_same, fun ns' m pm so hm => ?_⟩
          obtain rfl := sort_asc g.asc pm so
          have sm := same_new (o := .lst (ns'.map V.int)) hm
          refine ⟨m, _, rfl, .inl ⟨SqL.of upd_same, fun t ht => ?_⟩⟩
          have st5 := same_new (o := .tup (ns'.map V.int)) ht
          have s5 := ((s4.trans sl).trans sm).trans st5
          have et : upd (upd (upd H4 l (.lst (ns'.map V.int))) m (.lst (ns'.map V.int))) t (.tup (ns'.map V.int)) t = some (.tup (ns'.map V.int)) := upd_same
          generalize upd (upd (upd H4 l (.lst (ns'.map V.int))) m (.lst (ns'.map V.int))) t (.tup (ns'.map V.int)) = H5 at s5 et ⊢
          refine ⟨_, rfl, t, ns', rfl, .inr (SqT.of et), g.len, fun H6 s6 => ⟨_, rfl, ?_⟩⟩
          rw [asc_true g.asc]
          refine iteF ?_
          have hx6 := hx.same (s5.trans s6)
          have et6 := s6 _ _ et
          refine ⟨_, rfl, x, C, dx, _, _, rfl, hx6.ins, B.cl, B.n4, rfl, o, rfl, ⟨_, hx6.outs⟩, fun D2 hD2 => ?_⟩
          refine lc_it walk_tup (fun i H7 => (∀ c o, c ≠ D2 → H6 c = some o → H7 c = some o) ∧ H7 D2 = some (.lst ((List.replicate i true).map V.bl))) ⟨fun c o hc e => by rw [upd_ne hc]; exact e, upd_same⟩
            (fun i H7 _ ⟨kp, _⟩ => sqT_same (fun c o e => kp c o (ne_of_none e hD2) e) hx6.outs) ?_ ?_
          · rintro i y H7 H7' hi ⟨kp7, hD7⟩ ⟨rfl, hy⟩
            have s67 : Same H6 H7' := fun c o e => kp7 c o (ne_of_none e hD2) e
            obtain ⟨k, hk, rfl⟩ : ∃ k, (outs rs)[i]? = some k ∧ y = V.int ((k : Nat) : Int) := by
              unfold nats at hy
              rw [List.getElem?_map] at hy
              obtain ⟨k, hk, e⟩ := Option.map_eq_some_iff.mp hy
              exact ⟨k, hk, e.symm⟩
            have hin := g.out k (List.mem_of_getElem? hk)
            have hi3 : i < (outs rs).length := (List.getElem?_eq_some_iff.mp hk).1
            have ho9 : (outs rs).length ≤ 900 := by
              have h1 : (outs rs).length ≤ (brs rs).length := List.length_filter_le _ _
              have h2 := brsTo_len rs rs.length
              have h4 : (brs rs).length = (brsTo rs rs.length).length := rfl
              have := ok.len
              omega
            refine ⟨rfl, yes_go (iteT ⟨_, rfl, _, rfl, t, _, rfl, .inr (SqT.of (s67 _ _ et6)), rfl, flat_ints _, _, hD7, ?_, fun c o hc e => ?_, ?_⟩)⟩
            · rw [List.length_map, List.length_replicate]
              exact small1000 (by omega)
            · rw [upd_ne hc]
              exact kp7 c o hc e
            · rw [upd_same, inV_ints, decide_eq_true hin, List.replicate_succ']
              simp
          · rintro H7 ⟨kp7, hD7⟩
            have s67 : Same H6 H7 := fun c o e => kp7 c o (ne_of_none e hD2) e
            refine ⟨D2, _, rfl, SqL.of hD7, _, rfl, ?_⟩
            have er : ∀ n : Nat, (List.replicate n true).all id = true := fun n => by simp
            rw [er]
            exact iteF ⟨_, rfl, qq H7 t ((s5.trans s6).trans s67) (SqT.of (s67 _ _ et6))⟩
        · rw [ei] at h
          cases h
        · rw [ei] at e
          have e := Option.some.inj e
          subst e
          rw [h]
          exact iteT ⟨_, rfl, err_go fun dx' hdx => hE H4 dx' s4 hdx⟩
end

abbrev sLCell : Stmt := topS 40
abbrev sLRow : Stmt := topS 39
theorem scLCell : FnScope ["script", "k"] ["script", "k"] (defScope sLCell) := ⟨rfl, rfl, rfl, by decide +kernel, rfl, by decide +kernel, by decide +kernel⟩
theorem scLRow : FnScope ["cell", "sizes", "out", "size", "seed", "k", "mixed"] ["cell", "sizes"] (defScope sLRow) := ⟨rfl, rfl, rfl, by decide +kernel, rfl, by decide +kernel, by decide +kernel⟩
def spLCell (K : PySem.W.Frag) : Sp := fun vs H Q _ => ∃ (l : Addr) (ns : List Int) (j : Nat), vs = [.ref l, .int (j : Int)] ∧ SqL K H l (ns.map V.int) ∧ ∀ n : Int, Q (.int n) H
/-- drawn: one number below each of the sizes -/
def Drawn (sz out : List Int) : Prop := out.length = sz.length ∧ ∀ (i : Nat) (z : Int), sz[i]? = some z → ∃ d : Int, out[i]? = some d ∧ 0 ≤ d ∧ d < z
def SizesOk (sz : List Int) : Prop := sz.length ≤ 900 ∧ ∀ z ∈ sz, 0 < z ∧ z < 1000
def spLRow (K : PySem.W.Frag) : Sp := fun vs H Q _ => ∃ (n : Int) (l : Addr) (sz : List Int), vs = [.int n, .ref l] ∧ SqL K H l (sz.map V.int) ∧ SizesOk sz ∧ ∀ H' p out, Same H H' → H p = none → H' p = some (.lst (out.map V.int)) → Drawn sz out → Q (.ref p) H'
theorem drawn_step {sz out : List Int} {i : Nat} {z d : Int} (h : Drawn (sz.take i) out) (hz : sz[i]? = some z) (h0 : 0 ≤ d) (h1 : d < z) : Drawn (sz.take (i + 1)) (out ++ [d]) := by
  have hi : i < sz.length := (List.getElem?_eq_some_iff.mp hz).1
  have e : sz.take (i + 1) = sz.take i ++ [z] := by
    rw [List.take_add_one, hz]
    rfl
  rw [e]
  obtain ⟨h2, h3⟩ := h
  refine ⟨by rw [List.length_append, List.length_append, h2]; rfl, fun j y hy => ?_⟩
  by_cases c : j < (sz.take i).length
  · rw [List.getElem?_append_left c] at hy
    rw [List.getElem?_append_left (by omega)]
    exact h3 j y hy
  · rw [List.getElem?_append_right (by omega)] at hy
    rw [List.getElem?_append_right (by omega), h2]
    cases hj : j - (sz.take i).length with
    | zero =>
      rw [hj] at hy
      cases hy
      exact ⟨d, rfl, h0, h1⟩
    | succ m =>
      rw [hj] at hy
      cases hy
section
variable {P : Program} {w : World} {K : PySem.W.Frag} {mg : Str → Option Value} {base : Heap}
theorem ok_lcell {f : Addr} {fd : FuncData} (F : Fun K "_law_cell" "_law_cell" sLCell f fd) (T : Bi mg) : FnOk P w K mg base CX0 1 f fd ["script", "k"] (spLCell K) := by
  refine F.ok scLCell (fun vs H Q E h => ?_) (fun cdv A outer s H vs Q E hr h => ?_)
  · obtain ⟨l, ns, j, rfl, _⟩ := h
    rfl
  · obtain ⟨l, ns, j, rfl, hs, q⟩ := h
    refine ⟨_, (pss_one (ps_ret (pe_ifExp (pt_cmpR op_lt (pv 1) (pe_callB call_len_seq (by rfl) T.len (by decide +kernel) (pa_cons (pv 0) pa_nil)) (nomark _)) (pe_ix ix_list (pv 0) (pv 1) (fun _ _ => rfl)) pe_int))), ?_⟩
    refine ⟨_, rfl, _, rfl, l, _, rfl, .inl hs, _, _, rfl, rfl, _, rfl, ?_⟩
    by_cases hj : j < ns.length
    · have e : decide ((j : Int) < ((ns.map V.int).length : Int)) = true := by
        rw [List.length_map]
        exact decide_eq_true (by omega)
      rw [e]
      exact iteT ⟨_, rfl, _, rfl, l, _, _, .int ns[j], rfl, rfl, hs, at_of (by rw [List.getElem?_map, List.getElem?_eq_getElem hj]; rfl), q _⟩
    · have e : decide ((j : Int) < ((ns.map V.int).length : Int)) = false := by
        rw [List.length_map]
        exact decide_eq_false (by omega)
      rw [e]
      exact iteF (q 0)
theorem pw5 {b z : Int} (h0 : 0 ≤ b) (h1 : b < 2147483647) (h2 : 0 ≤ z) (h3 : z ≤ 100001) : CPow (b + 7919 * z + 104729) 5 := ⟨by decide, by decide, by omega⟩
theorem ok_lrow {f : Addr} {fd : FuncData} (F : Fun K "_law_row" "_law_row" sLRow f fd) (T : Bi mg) : FnOk P w K mg base CX0 1 f fd ["cell", "sizes"] (spLRow K) := by
  refine F.ok scLRow (fun vs H Q E h => ?_) (fun cdv A outer s H vs Q E hr h => ?_)
  · obtain ⟨n, l, sz, rfl, _⟩ := h
    rfl
  · obtain ⟨n, l, sz, rfl, hs, ⟨hl, hz⟩, q⟩ := h
    refine ⟨_, (pss_cons (ps_set (i := 2) scLRow.nd rfl (.inl rfl) (pe_lst pa_nil))
      (pss_cons (ps_if (pt_cmpR op_ge (pv 0) (pe_op op_pow pe_int pe_int) (nomark _)) (pss_cons (ps_for PassesOwn.never rfl (pi_list (pv 1)) (pg_name (i := 3) scLRow.nd rfl (.inl rfl)) (pss_cons (ps_expr (pe_bm PySem.F.plainAttrs_list PySem.F.slot_list_append PySem.F.type_list_append mt_append (pv 2) (pa_cons (pe_op op_mod (pe_callTy call_int1 (by rfl) T.int (by decide +kernel) (pa_cons (pv 0) pa_nil)) (pv 3)) pa_nil)))
        (pss_one (ps_set (i := 0) scLRow.nd rfl (.inl rfl) (pe_op op_fdivN (pv 0) (pv 3))))))
        (pss_one (ps_ret (pv 2)))) pss_nil)
      (pss_cons (ps_set (i := 4) scLRow.nd rfl (.inl rfl) (pe_op op_mod (pe_callTy call_int1 (by rfl) T.int (by decide +kernel) (pa_cons (pv 0) pa_nil)) pe_int))
      (pss_cons (ps_for PassesOwn.never rfl (pi_range1 (by rfl) T.range (pa_cons (pe_callB call_len_seq (by rfl) T.len (by decide +kernel) (pa_cons (pv 1) pa_nil)) pa_nil)) (pg_name (i := 5) scLRow.nd rfl (.inl rfl)) (pss_cons (ps_set (i := 6) scLRow.nd rfl (.inl rfl) (pe_op op_add (pe_op op_mod (pe_callTy call_int1 (by rfl) T.int (by decide +kernel) (pa_cons (pe_op op_pow (pe_op op_add (pe_op op_add (pv 4) (pe_op op_mul pe_int (pv 5))) pe_int) pe_int) pa_nil)) pe_int) (pv 5)))
        (pss_one (ps_expr (pe_bm PySem.F.plainAttrs_list PySem.F.slot_list_append PySem.F.type_list_append mt_append (pv 2) (pa_cons (pe_op op_mod (pe_callTy call_int1 (by rfl) T.int (by decide +kernel) (pa_cons (pe_op op_mod (pe_callTy call_int1 (by rfl) T.int (by decide +kernel) (pa_cons (pe_op op_mul (pv 6) pe_int) pa_nil)) pe_int) pa_nil)) (pe_ix ix_list (pv 1) (pv 5) (fun _ _ => rfl))) pa_nil))))))
      (pss_one (ps_ret (pv 2))))))), ?_⟩
    refine ⟨Nat.zero_le _, fun p hp => ?_⟩
    have s1 := same_new (o := .lst []) hp
    have hpl : p ≠ l ∨ True := .inr trivial
    refine ⟨_, rfl, _, _, rfl, rfl, ⟨by decide, by decide, by decide⟩, _, _, rfl, rfl, _, rfl, ?_⟩
    have szat : ∀ {i : Nat} {v : V}, (sz.map V.int)[i]? = some v → ∃ z, sz[i]? = some z ∧ v = .int z ∧ 0 < z ∧ z < 1000 := by
      intro i v hv
      rw [List.getElem?_map] at hv
      cases e : sz[i]? with
      | none => rw [e] at hv; cases hv
      | some z =>
        rw [e] at hv
        have := hz z (List.mem_of_getElem? e)
        exact ⟨z, rfl, (Option.some.inj hv).symm, this⟩
    have kpS : ∀ {H4 : Hp}, (∀ b o, b ≠ p → H b = some o → H4 b = some o) → Same H H4 := fun kp b o e => kp b o (ne_of_none e hp) e
    refine ite2 (fun c => ?_) (fun c => ?_)
    · refine ⟨_, rfl, l, rfl, ⟨_, sqL_same s1 hs⟩, ?_⟩
      refine for_it walk_list (fun i σ H4 => ∃ (n' : Int) (u : Option V) (out : List Int), σ = [some (.int n'), some (.ref l), some (.ref p), u, none, none, none] ∧ (∀ b o, b ≠ p → H b = some o → H4 b = some o) ∧ H4 p = some (.lst (out.map V.int)) ∧ Drawn (sz.take i) out)
        ⟨n, none, [], rfl, fun b o hb e => by rw [upd_ne hb]; exact e, upd_same, ⟨rfl, fun i z h => by simp at h⟩⟩ (fun i σ H4 _ ⟨_, _, _, _, kp, _⟩ => sqL_same (kpS kp) hs) ?_ ?_
      · rintro i y σ H4 H4' hi ⟨n', u, out, rfl, kp, h4, hd⟩ ⟨rfl, hy⟩
        obtain ⟨z, ez, rfl, z0, z1⟩ := szat hy
        have hlt : i < sz.length := (List.getElem?_eq_some_iff.mp ez).1
        have ol : out.length = i := by
          rw [hd.1, List.length_take]
          omega
        refine ⟨_, rfl, .inl ⟨rfl, _, SqL.of h4⟩, _, rfl, .inl ⟨_, rfl, _, rfl, _, _, rfl, rfl, z0, p, _, _, rfl, rfl, h4, ?_, ?_⟩⟩
        · rw [List.length_map]
          exact small1000 (by omega)
        refine ⟨_, rfl, _, rfl, _, _, rfl, rfl, ⟨by omega, by omega⟩, _, _, _, rfl, fun b o hb e => ?_, ?_, drawn_step (d := n' % z) hd ez (Int.emod_nonneg _ (by omega)) (Int.emod_lt_of_pos _ z0)⟩
        · rw [upd_ne hb]
          exact kp b o hb e
        · rw [upd_same, List.map_append]
          rfl
      · rintro σ H4 ⟨n', u, out, rfl, kp, h4, hd⟩
        rw [List.length_map, List.take_length] at hd
        exact ⟨_, rfl, q H4 p out (kpS kp) hp h4 hd⟩
    · refine ⟨_, rfl, .inl ⟨_, rfl, _, _, rfl, rfl, (by show (0 : Int) < 2147483647; decide), ?_⟩⟩
      refine ⟨_, rfl, l, _, rfl, .inl (sqL_same s1 hs), ?_⟩
      have es : ((sz.map V.int).length : Int).toNat = sz.length := by
        rw [List.length_map]
        exact Int.toNat_natCast _
      refine ⟨_, rfl, ?_, ?_, ?_⟩
      · omega
      · rw [List.length_map]
        omega
      rw [es]
      have m0 : 0 ≤ n % 2147483647 := Int.emod_nonneg _ (by decide)
      have m1 : n % 2147483647 < 2147483647 := Int.emod_lt_of_pos _ (by decide)
      refine for_it walk_range (fun i σ H4 => ∃ (u v : Option V) (out : List Int), σ = [some (.int n), some (.ref l), some (.ref p), none, some (.int (n % 2147483647)), u, v] ∧ (∀ b o, b ≠ p → H b = some o → H4 b = some o) ∧ H4 p = some (.lst (out.map V.int)) ∧ Drawn (sz.take i) out)
        ⟨none, none, [], rfl, fun b o hb e => by rw [upd_ne hb]; exact e, upd_same, ⟨rfl, fun i z h => by simp at h⟩⟩ (fun _ _ _ _ _ => trivial) ?_ ?_
      · rintro i y σ H4 H4' hi ⟨u, v, out, rfl, kp, h4, hd⟩ ⟨rfl, rfl⟩
        have hz1 : (sz.map V.int)[i]? = some (.int sz[i]) := by
          rw [List.getElem?_map, List.getElem?_eq_getElem hi]
          rfl
        obtain ⟨z0, z1⟩ := hz sz[i] (List.getElem_mem hi)
        have ol : out.length = i := by
          rw [hd.1, List.length_take]
          omega
        refine ⟨_, rfl, _, rfl, _, _, rfl, rfl, .inl ⟨by decide, by decide⟩, _, _, rfl, rfl, _, _, rfl, rfl, _, _, rfl, rfl, pw5 m0 m1 (by omega) (by omega), .inl ⟨_, rfl, _, _, rfl, rfl, (by show (0 : Int) < 2147483647; decide), _, rfl, _, _, rfl, rfl, ?_⟩⟩
        refine ⟨_, rfl, .inl ⟨rfl, _, SqL.of h4⟩, _, rfl, _, _, rfl, rfl, .inr ⟨by decide, by decide⟩, .inl ⟨_, rfl, _, _, rfl, rfl, (by show (0 : Int) < 2147483629; decide), .inl ⟨_, rfl, _, rfl, _, rfl, l, _, _, .int sz[i], rfl, congrArg V.int (Int.zero_add _), sqL_same (kpS kp) hs, at_of hz1, _, _, rfl, rfl, z0, p, _, _, rfl, rfl, h4, ?_, _, _, _, rfl, fun b o hb e => ?_, ?_, drawn_step (d := ((n % 2147483647 + 7919 * (0 + (i : Int)) + 104729) ^ (5 : Int).toNat % 2147483647 + (0 + (i : Int))) * 40692 % 2147483629 % sz[i]) hd (List.getElem?_eq_getElem hi) (Int.emod_nonneg _ (by omega)) (Int.emod_lt_of_pos _ z0)⟩⟩⟩
        · rw [List.length_map]
          exact small1000 (by omega)
        · rw [upd_ne hb]
          exact kp b o hb e
        · rw [upd_same, List.map_append]
          rfl
      · rintro σ H4 ⟨u, v, out, rfl, kp, h4, hd⟩
        rw [List.take_length] at hd
        exact ⟨_, rfl, q H4 p out (kpS kp) hp h4 hd⟩
end

/-! ### growth: the mathematics -/
def fN (ks : List Nat) : Int → Bool := mem (ks.map fun (k : Nat) => (k : Int))
theorem fN_mem {ks : List Nat} {k : Nat} : fN ks (k : Int) = decide (k ∈ ks) := by
  unfold fN mem
  by_cases h : k ∈ ks
  · rw [decide_eq_true h]
    exact decide_eq_true (List.mem_map.mpr ⟨k, h, rfl⟩)
  · rw [decide_eq_false h]
    refine decide_eq_false fun z => ?_
    obtain ⟨j, hj, e⟩ := List.mem_map.mp z
    exact h (by rw [← Int.ofNat.inj e]; exact hj)
/-- the branches that are not far yet -/
def rem (rs : List Row) (far : List Nat) : List Nat := (inn rs).filter fun k => !decide (k ∈ outs rs ++ far)
theorem filter_two {α : Type} (p : α → Bool) : ∀ l : List α, (l.filter p).length + (l.filter fun a => !p a).length = l.length
  | [] => rfl
  | a :: l => by
    have h := filter_two p l
    cases e : p a with
    | true => simp [List.filter, e]; omega
    | false => simp [List.filter, e]; omega
theorem long_rem (rs : List Row) (far : List Nat) : long (fN (outs rs ++ far)) rs = (rem rs far).filter fun k => tooL (way (fN (outs rs ++ far)) rs k) := by
  unfold long rem
  rw [List.filter_filter]
  congr 1
  funext k
  unfold isLong
  rw [fN_mem, Bool.and_comm]
theorem rem_next (rs : List Row) (far : List Nat) : (rem rs (far ++ long (fN (outs rs ++ far)) rs)).length + (long (fN (outs rs ++ far)) rs).length = (rem rs far).length := by
  have e : rem rs (far ++ long (fN (outs rs ++ far)) rs) = (rem rs far).filter fun k => !tooL (way (fN (outs rs ++ far)) rs k) := by
    unfold rem
    rw [List.filter_filter]
    apply List.filter_congr
    intro k hk
    have hm : k ∈ long (fN (outs rs ++ far)) rs ↔ k ∉ outs rs ++ far ∧ tooL (way (fN (outs rs ++ far)) rs k) = true := by
      unfold long
      rw [List.mem_filter]
      unfold isLong
      rw [fN_mem, Bool.and_eq_true]
      constructor
      · rintro ⟨_, h1, h2⟩
        exact ⟨by simpa using h1, h2⟩
      · rintro ⟨h1, h2⟩
        exact ⟨hk, by simpa using h1, h2⟩
    rw [← List.append_assoc]
    by_cases h1 : k ∈ outs rs ++ far
    · have h2 : k ∈ outs rs ++ far ++ long (fN (outs rs ++ far)) rs := List.mem_append_left _ h1
      simp only [decide_eq_true h2, decide_eq_true h1, Bool.not_true, Bool.and_false]
    · cases h3 : tooL (way (fN (outs rs ++ far)) rs k) with
      | true =>
        have h2 : k ∈ outs rs ++ far ++ long (fN (outs rs ++ far)) rs := List.mem_append_right _ (hm.mpr ⟨h1, h3⟩)
        simp only [decide_eq_true h2, decide_eq_false h1, Bool.not_true, Bool.not_false, Bool.and_true]
      | false =>
        have h2 : k ∉ outs rs ++ far ++ long (fN (outs rs ++ far)) rs := fun z => by
          rcases List.mem_append.mp z with z | z
          · exact h1 z
          · have := (hm.mp z).2
            rw [h3] at this
            cases this
        simp only [decide_eq_false h2, decide_eq_false h1, Bool.not_false, Bool.and_true]
  rw [e]
  have h := filter_two (fun k => tooL (way (fN (outs rs ++ far)) rs k)) (rem rs far)
  have l := long_rem rs far
  rw [← l] at h
  omega
def zs (ks : List Nat) : List Int := ks.map fun (k : Nat) => (k : Int)
theorem zs_len (ks : List Nat) : (zs ks).length = ks.length := List.length_map ..
theorem nats_zs (ks : List Nat) : nats ks = (zs ks).map V.int := nats_int ks
theorem mem_zs {ks : List Nat} {n : Int} : n ∈ zs ks ↔ ∃ k ∈ ks, (k : Int) = n := List.mem_map
theorem aim_of {rs : List Row} {k : Nat} {n : Str} (h : toOf rs k = some n) : aim rs k = spot rs n := by
  unfold aim
  rw [h]
  rfl
theorem outs_len (rs : List Row) : (outs rs).length ≤ rs.length := by
  have h1 : (outs rs).length ≤ (brs rs).length := List.length_filter_le _ _
  have h2 := brsTo_len rs rs.length
  have h3 : (brs rs).length = (brsTo rs rs.length).length := rfl
  omega
theorem brs_len (rs : List Row) : (brs rs).length ≤ rs.length := brsTo_len rs rs.length
theorem inn_nodup (rs : List Row) : (inn rs).Nodup := by
  rw [← brs_inn]
  exact List.Nodup.sublist (List.filter_sublist ..) (brs_nodup rs)
theorem nats_sq {K : PySem.W.Frag} {H : Hp} {a : Addr} {ks : List Nat} (h : SqL K H a (nats ks)) : SqL K H a ((ks.map fun (k : Nat) => (k : Int)).map V.int) := by
  rw [← nats_int]
  exact h
theorem nats_get {ks : List Nat} {i : Nat} {z : V} (h : (nats ks)[i]? = some z) : ∃ k, ks[i]? = some k ∧ z = V.int ((k : Nat) : Int) := by
  unfold nats at h
  rw [List.getElem?_map] at h
  cases e : ks[i]? with
  | none => rw [e] at h; cases h
  | some k => rw [e] at h; exact ⟨k, rfl, (Option.some.inj h).symm⟩
theorem long_len (f : Int → Bool) (rs : List Row) : (long f rs).length ≤ rs.length := by
  unfold long
  exact Nat.le_trans (List.length_filter_le _ _) (inn_len rs)
/-- the far branches after n turns -/
def fars (rs : List Row) : Nat → List Nat
  | 0 => []
  | n + 1 => fars rs n ++ long (fN (outs rs ++ fars rs n)) rs
theorem fars_stop {rs : List Row} {n : Nat} (h : long (fN (outs rs ++ fars rs n)) rs = []) : ∀ m, fars rs (n + m) = fars rs n
  | 0 => rfl
  | m + 1 => by
    show fars rs (n + m) ++ long (fN (outs rs ++ fars rs (n + m))) rs = _
    rw [fars_stop h m, h, List.append_nil]
theorem fars_end {rs : List Row} {n m : Nat} (hn : long (fN (outs rs ++ fars rs n)) rs = []) (hm : long (fN (outs rs ++ fars rs m)) rs = []) : fars rs n = fars rs m := by
  rcases Nat.le_total n m with h | h
  · obtain ⟨d, rfl⟩ := Nat.exists_eq_add_of_le h
    exact (fars_stop hn d).symm
  · obtain ⟨d, rfl⟩ := Nat.exists_eq_add_of_le h
    exact fars_stop hm d
/-- such a list of far branches as the law grows: in order, those that lead out and those of n turns -/
def Grown (rs : List Row) (g : List Int) : Prop := ∃ n, g.Perm (zs (outs rs ++ fars rs n)) ∧ g.Pairwise (· ≤ ·) ∧ long (fN (outs rs ++ fars rs n)) rs = []
theorem mem_perm {a b : List Int} (h : a.Perm b) : mem a = mem b := by
  funext k
  unfold mem
  by_cases c : k ∈ a
  · rw [decide_eq_true c, decide_eq_true (h.mem_iff.mp c)]
  · rw [decide_eq_false c, decide_eq_false fun z => c (h.mem_iff.mpr z)]
theorem fN_mem2 (ks : List Nat) : fN ks = mem (zs ks) := rfl
theorem outs_sorted (rs : List Row) : (zs (outs rs)).Pairwise (· ≤ ·) := by
  unfold zs outs brs brsTo
  rw [List.pairwise_map]
  refine List.Pairwise.sublist (List.Sublist.trans (List.filter_sublist ..) (List.filter_sublist ..)) ?_
  exact List.pairwise_lt_range.imp fun h => by omega
theorem inn_sorted (rs : List Row) : (inn rs).Pairwise (· < ·) := by
  unfold inn innTo
  exact List.Pairwise.sublist (List.filter_sublist ..) List.pairwise_lt_range
theorem long_sub {f : Int → Bool} {rs : List Row} {k : Nat} (h : k ∈ long f rs) : k ∈ inn rs ∧ f (k : Nat) = false ∧ tooL (way f rs k) = true := by
  unfold long isLong at h
  obtain ⟨h1, h2⟩ := List.mem_filter.mp h
  rw [Bool.and_eq_true] at h2
  exact ⟨h1, by simpa using h2.1, h2.2⟩
theorem inn_not_outs {rs : List Row} {k : Nat} (h : k ∈ inn rs) : k ∉ outs rs := by
  intro z
  rw [← brs_inn] at h
  have h1 := (List.mem_filter.mp h).2
  have h2 := (List.mem_filter.mp z).2
  cases e : aim rs k with
  | none => rw [e] at h1; cases h1
  | some j => rw [e] at h2; cases h2
theorem fars_inn (rs : List Row) : ∀ n, ∀ k ∈ fars rs n, k ∈ inn rs
  | 0, k, h => by cases h
  | n + 1, k, h => by
    rcases List.mem_append.mp h with h | h
    · exact fars_inn rs n k h
    · exact (long_sub h).1
theorem fars_nodup (rs : List Row) : ∀ n, (fars rs n).Nodup
  | 0 => List.nodup_nil
  | n + 1 => by
    refine List.nodup_append.mpr ⟨fars_nodup rs n, ?_, fun a ha b hb e => ?_⟩
    · unfold long
      exact List.Nodup.sublist (List.filter_sublist ..) (inn_nodup rs)
    · have := (long_sub hb).2.1
      rw [fN_mem] at this
      exact of_decide_eq_false this (List.mem_append_right _ (by rw [← e]; exact ha))
theorem fars_rem (rs : List Row) : ∀ n, (fars rs n).length + (rem rs (fars rs n)).length = (rem rs []).length
  | 0 => by simp [fars]
  | n + 1 => by
    have h := rem_next rs (fars rs n)
    have ih := fars_rem rs n
    show (fars rs n ++ long (fN (outs rs ++ fars rs n)) rs).length + (rem rs (fars rs n ++ long (fN (outs rs ++ fars rs n)) rs)).length = _
    rw [List.length_append]
    omega
theorem fars_len (rs : List Row) (n : Nat) : (fars rs n).length ≤ (inn rs).length := by
  have h := fars_rem rs n
  have h1 : (rem rs []).length ≤ (inn rs).length := List.length_filter_le _ _
  omega
theorem grown_len {rs : List Row} {g : List Int} (h : Grown rs g) : g.length ≤ rs.length + rs.length := by
  obtain ⟨n, pm, _, _⟩ := h
  have h1 := fars_len rs n
  have h2 := inn_len rs
  have h3 := outs_len rs
  rw [pm.length_eq, zs_len, List.length_append]
  omega
theorem sorted_perm {a b : List Int} (h : a.Perm b) (ha : a.Pairwise (· ≤ ·)) (hb : b.Pairwise (· ≤ ·)) : a = b := h.eq_of_pairwise (fun x y _ _ h1 h2 => Int.le_antisymm h1 h2) ha hb
theorem grown_one {rs : List Row} {a b : List Int} (ha : Grown rs a) (hb : Grown rs b) : a = b := by
  obtain ⟨n, p1, s1, e1⟩ := ha
  obtain ⟨m, p2, s2, e2⟩ := hb
  rw [fars_end e1 e2] at p1
  exact sorted_perm (p1.trans p2.symm) s1 s2

/-! ### rows as they are handed in -/
abbrev RowC := Row
abbrev rsC (rcs : List Row) : List Row := rcs
def rowR : Row → PyData
  | .words ws => .tuple [.str "words", .list (ws.map rawD)]
  | .label s => .tuple [.str "label", .str s]
  | .even n => .tuple [.str "even", .int n]
  | .branch c n m => .tuple [.str "branch", .str c, .str n, .int m]
theorem dp_str {K : PySem.W.Frag} {H : Hp} {v : V} {x : Str} (h : Dp K H v (.str x)) : v = .str x := by cases h; rfl
theorem dp_tup {K : PySem.W.Frag} {H : Hp} {v : V} {ds : List PyData} (h : Dp K H v (.tuple ds)) : ∃ a xs, v = .ref a ∧ SqT K H a xs ∧ DpAll K H xs ds := by
  cases h with
  | tup h1 h2 => exact ⟨_, _, rfl, h1, h2⟩
theorem dp_lst {K : PySem.W.Frag} {H : Hp} {v : V} {ds : List PyData} (h : Dp K H v (.list ds)) : ∃ a xs, v = .ref a ∧ SqL K H a xs ∧ DpAll K H xs ds := by
  cases h with
  | lst h1 h2 => exact ⟨_, _, rfl, h1, h2⟩
theorem dp_two {K : PySem.W.Frag} {H : Hp} {v : V} {k : Str} {d : PyData} (h : Dp K H v (.tuple [.str k, d])) : ∃ a y, v = .ref a ∧ SqT K H a [.str k, y] ∧ Dp K H y d := by
  obtain ⟨a, xs, rfl, h1, h2⟩ := dp_tup h
  cases h2 with
  | cons g1 g2 =>
    cases g2 with
    | cons g3 g4 =>
      cases g4
      cases dp_str g1
      exact ⟨a, _, rfl, h1, g3⟩
theorem dpR_rowL {K : PySem.W.Frag} {H : Hp} {v : V} {r : Row} (h : Dp K H v (rowR r)) : RowL K H v r := by
  cases r with
  | words ws =>
    obtain ⟨a, y, rfl, h1, h2⟩ := dp_two h
    obtain ⟨b, xs, rfl, h3, h4⟩ := dp_lst h2
    exact ⟨a, b, xs, rfl, h1, h3, h4⟩
  | label s =>
    obtain ⟨a, y, rfl, h1, h2⟩ := dp_two h
    cases dp_str h2
    exact ⟨a, rfl, h1⟩
  | even n =>
    obtain ⟨a, y, rfl, h1, h2⟩ := dp_two h
    cases dp_int h2
    exact ⟨a, rfl, h1⟩
  | branch c n m =>
    obtain ⟨a, xs, rfl, h1, h2⟩ := dp_tup h
    cases h2 with
    | cons g1 h2 => cases h2 with
      | cons g2 h2 => cases h2 with
        | cons g3 h2 => cases h2 with
          | cons g4 h2 =>
            cases h2
            cases dp_str g1
            cases dp_str g2
            cases dp_str g3
            cases dp_int g4
            exact ⟨a, rfl, h1⟩
theorem datR_rowsL {K : PySem.W.Frag} {H : Hp} : ∀ {xs : List V} {rs : List Row}, DpAll K H xs (rs.map rowR) → RowsL K H xs rs
  | _, [], h => by cases h; exact .nil
  | _, r :: rs, h => by
    cases h with
    | cons h1 h2 => exact .cons (dpR_rowL h1) (datR_rowsL h2)
theorem dps_app {K : PySem.W.Frag} {H : Hp} : ∀ {xs ys : List V} {ds es : List PyData}, DpAll K H xs ds → DpAll K H ys es → DpAll K H (xs ++ ys) (ds ++ es)
  | _, _, _, _, .nil, h => h
  | _, _, _, _, .cons x t, h => .cons x (dps_app t h)
theorem dps_take {K : PySem.W.Frag} {H : Hp} : ∀ {xs : List V} {ds : List PyData} (n : Nat), DpAll K H xs ds → DpAll K H (xs.take n) (ds.take n)
  | _, _, 0, _ => .nil
  | _, _, _ + 1, .nil => .nil
  | _, _, n + 1, .cons h t => .cons h (dps_take n t)
theorem dps_drop {K : PySem.W.Frag} {H : Hp} : ∀ {xs : List V} {ds : List PyData} (n : Nat), DpAll K H xs ds → DpAll K H (xs.drop n) (ds.drop n)
  | _, _, 0, h => h
  | _, _, _ + 1, .nil => .nil
  | _, _, n + 1, .cons h t => dps_drop n t
def isEv (rs : List Row) (i : Nat) : Bool := match rs[i]? with
  | some (.even _) => true
  | _ => false
def noEven (rs : List Row) : Prop := ∀ i, isEv rs i = false
/-- at i stands the first even row -/
def firstEv (rs : List Row) (i : Nat) : Prop := isEv rs i = true ∧ ∀ j, j < i → isEv rs j = false
theorem ev_kind (r : Row) : decide (kindOf r = ("even" : Str)) = (match r with | .even _ => true | _ => false) := by
  cases r with
  | label s => exact (by decide +kernel : decide (("label" : Str) = "even") = false)
  | words n => exact (by decide +kernel : decide (("words" : Str) = "even") = false)
  | even n => exact (by decide +kernel : decide (("even" : Str) = "even") = true)
  | branch c n m => exact (by decide +kernel : decide (("branch" : Str) = "even") = false)
theorem isEv_at {rs : List Row} {i : Nat} {r : Row} (h : rs[i]? = some r) : isEv rs i = match r with
    | .even _ => true
    | _ => false := by
  have e : isEv rs i = (match some r with | some (.even _) => true | _ => false) := by
    rw [← h]
    rfl
  rw [e]
  cases r <;> rfl

/-! ### what drafts are drawn -/
def labs4 : List Str := ["la", "lb", "lc", "ld"]
def nmL : List Str := ["la", "lb", "lc", "ld", "away"]
def RowG : Row → Prop
  | .words ws => ws.length ≤ 255 ∧ ∀ w ∈ ws, ∃ k, w = .num k
  | .label s => s ∈ labs4
  | .even n => 1 ≤ n ∧ n ≤ 64
  | .branch c n m => c ∈ nearL ∧ n ∈ nmL ∧ (m ≠ 0 → n = "away")
structure DraftG (rs : List Row) : Prop where
  rows : ∀ r ∈ rs, RowG r
  nod : (rs.filterMap labR).Nodup
  len : rs.length ≤ 20
theorem labs4_nm : ∀ s ∈ labs4, isNmS s = true ∧ s.length ≤ 1000 ∧ s ≠ "away" := by decide +kernel
theorem nmL_nm : ∀ s ∈ nmL, isNmS s = true ∧ s.length ≤ 1000 := by decide +kernel
theorem labR_some {r : Row} {s : Str} (h : labR r = some s) : r = .label s := by
  cases r <;> cases h
  rfl
theorem labOf_some {rs : List Row} {i : Nat} {s : Str} (h : labOf rs i = some s) : rs[i]? = some (.label s) := by
  cases e : rs[i]? with
  | none =>
    unfold labOf at h
    rw [e] at h
    cases h
  | some r =>
    rw [labOf_at e] at h
    rw [labR_some h]
theorem G_ok {rs : List Row} (h : DraftG rs) : DrOk rs := by
  refine ⟨fun r hr => ?_, by have := h.len; omega, fun i s hi j hj hjs => ?_, fun k c n m hk hm j hj => ?_⟩
  · have g := h.rows r hr
    cases r with
    | words ws => exact (by
        have g' : ws.length ≤ 255 ∧ ∀ w ∈ ws, ∃ k, w = .num k := g
        exact ⟨by omega, fun w hw => by
          obtain ⟨k, rfl⟩ := g'.2 w hw
          trivial⟩)
    | label s =>
      obtain ⟨a, b, _⟩ := labs4_nm s g
      exact ⟨a, b⟩
    | even n => exact g
    | branch c n m =>
      obtain ⟨a, b⟩ := nmL_nm n g.2.1
      exact ⟨g.1, a, b⟩
  · have h1 := labOf_some hi
    have h2 := labOf_some hjs
    have l1 : i < rs.length := (List.getElem?_eq_some_iff.mp h1).1
    have pw := List.pairwise_filterMap.mp h.nod
    have := List.pairwise_iff_getElem.mp pw j i (by omega) l1 hj
    have e1 : rs[i] = .label s := Option.some.inj (by rw [← List.getElem?_eq_getElem l1]; exact h1)
    have e2 : rs[j] = .label s := Option.some.inj (by rw [← List.getElem?_eq_getElem (by omega)]; exact h2)
    rw [e1, e2] at this
    exact this s rfl s rfl rfl
  · have g := h.rows _ (List.mem_of_getElem? hk)
    have e : n = "away" := g.2.2 hm
    have g2 := h.rows _ (List.mem_of_getElem? (labOf_some hj))
    exact (labs4_nm n g2).2.2 e
theorem G_ins {rs : List Row} {r : Row} (i : Nat) (h : DraftG rs) (hr : RowG r) (hl : rs.length < 20) (hn : ∀ s, labR r = some s → s ∉ rs.filterMap labR) : DraftG (rs.take i ++ [r] ++ rs.drop i) := by
  have pm : (rs.take i ++ [r] ++ rs.drop i).Perm (r :: rs) := by
    have : (rs.take i ++ [r] ++ rs.drop i).Perm ([r] ++ rs.take i ++ rs.drop i) := List.Perm.append_right _ List.perm_append_comm
    refine this.trans ?_
    rw [List.append_assoc, List.take_append_drop]
    exact List.Perm.refl _
  refine ⟨fun x hx => ?_, ?_, ?_⟩
  · rcases List.mem_cons.mp (pm.mem_iff.mp hx) with z | z
    · rw [z]; exact hr
    · exact h.rows x z
  · refine (pm.filterMap labR).nodup_iff.mpr ?_
    rw [List.filterMap_cons]
    cases e : labR r with
    | none => exact h.nod
    | some s => exact List.nodup_cons.mpr ⟨hn s e, h.nod⟩
  · rw [pm.length_eq, List.length_cons]
    omega
/-- which rows an inserted one stands among -/
theorem ins_perm {α : Type} (l : List α) (i : Nat) (x : α) : (l.take i ++ [x] ++ l.drop i).Perm (x :: l) := by
  have : (l.take i ++ [x] ++ l.drop i).Perm ([x] ++ l.take i ++ l.drop i) := List.Perm.append_right _ List.perm_append_comm
  refine this.trans ?_
  rw [List.append_assoc, List.take_append_drop]
  exact List.Perm.refl _
theorem dps_ins {K : PySem.W.Frag} {H : Hp} {xs : List V} {rcs : List RowC} {v : V} {rc : RowC} (i : Nat) (h : DpAll K H xs (rcs.map rowR)) (hv : Dp K H v (rowR rc)) : DpAll K H (xs.take i ++ [v] ++ xs.drop i) ((rcs.take i ++ [rc] ++ rcs.drop i).map rowR) := by
  rw [List.map_append, List.map_append, List.map_take, List.map_drop]
  exact dps_app (dps_app (dps_take i h) (.cons hv .nil)) (dps_drop i h)
theorem rsC_ins (rcs : List RowC) (i : Nat) (rc : RowC) : rsC (rcs.take i ++ [rc] ++ rcs.drop i) = (rsC rcs).take i ++ [rc] ++ (rsC rcs).drop i := rfl
theorem dpR_rowV {K : PySem.W.Frag} {H : Hp} {v : V} {rc : RowC} (h : Dp K H v (rowR rc)) : RowV K H v rc := rowL_V (dpR_rowL h)
theorem datR_rows {K : PySem.W.Frag} {H : Hp} {xs : List V} {rcs : List RowC} (h : DpAll K H xs (rcs.map rowR)) : RowsV K H xs (rsC rcs) := rowsL_V (datR_rowsL h)
theorem atEv {d : Int} (h0 : 0 ≤ d) (h1 : d < 12) : ∃ n : Int, 1 ≤ n ∧ n ≤ 64 ∧ atI ([1, 2, 3, 4, 5, 8, 16, 32, 40, 64, 7, 63].map V.int) d = some (.int n) := by
  obtain ⟨n, rfl⟩ := Int.eq_ofNat_of_zero_le h0
  have hn : n < 12 := by omega
  have : ∀ n, n < 12 → ∃ w : Int, 1 ≤ w ∧ w ≤ 64 ∧ ([1, 2, 3, 4, 5, 8, 16, 32, 40, 64, 7, 63] : List Int)[n]? = some w := by
    intro n hn
    match n, hn with
    | 0, _ => exact ⟨1, by omega, by omega, rfl⟩
    | 1, _ => exact ⟨2, by omega, by omega, rfl⟩
    | 2, _ => exact ⟨3, by omega, by omega, rfl⟩
    | 3, _ => exact ⟨4, by omega, by omega, rfl⟩
    | 4, _ => exact ⟨5, by omega, by omega, rfl⟩
    | 5, _ => exact ⟨8, by omega, by omega, rfl⟩
    | 6, _ => exact ⟨16, by omega, by omega, rfl⟩
    | 7, _ => exact ⟨32, by omega, by omega, rfl⟩
    | 8, _ => exact ⟨40, by omega, by omega, rfl⟩
    | 9, _ => exact ⟨64, by omega, by omega, rfl⟩
    | 10, _ => exact ⟨7, by omega, by omega, rfl⟩
    | 11, _ => exact ⟨63, by omega, by omega, rfl⟩
  obtain ⟨w, h1, h2, e⟩ := this n hn
  exact ⟨w, h1, h2, at_of (by rw [List.getElem?_map, e]; rfl)⟩
/-! ### the sizes drawn -/
def szD : List Int := [8] ++ (List.replicate 10 [8, 12, 5, 3]).flatten ++ (List.replicate 4 [11]).flatten
theorem szD_ok : SizesOk szD := ⟨by decide, by decide⟩
theorem szD_at : ∀ k, k < 10 → szD[1 + 4 * k]? = some 8 ∧ szD[2 + 4 * k]? = some 12 ∧ szD[3 + 4 * k]? = some 5 ∧ szD[4 + 4 * k]? = some 3 := by decide
theorem szD_end : ∀ i, i < 4 → szD[41 + i]? = some 11 := by decide
theorem cut4 {out : List Int} {k : Nat} {a b c d : Int} (hl : out.length = 45) (hk : k < 10) (h1 : out[1 + 4 * k]? = some a) (h2 : out[2 + 4 * k]? = some b) (h3 : out[3 + 4 * k]? = some c) (h4 : out[4 + 4 * k]? = some d) :
    cutV (out.map V.int) (some (1 + 4 * (k : Int))) (some (5 + 4 * (k : Int))) = [.int a, .int b, .int c, .int d] := by
  have e1 : HT.sIx (out.map V.int).length 0 (some (1 + 4 * (k : Int))) = 1 + 4 * k := by
    rw [List.length_map, hl]
    unfold HT.sIx
    dsimp only
    rw [if_neg (by omega)]
    omega
  have e2 : HT.sIx (out.map V.int).length (out.map V.int).length (some (5 + 4 * (k : Int))) = 5 + 4 * k := by
    rw [List.length_map, hl]
    unfold HT.sIx
    dsimp only
    rw [if_neg (by omega)]
    omega
  unfold cutV
  rw [e1, e2]
  have e3 : 5 + 4 * k - (1 + 4 * k) = 4 := by omega
  rw [e3]
  apply List.ext_getElem?
  intro i
  rw [List.getElem?_take, List.getElem?_drop, List.getElem?_map]
  match i with
  | 0 => simp [h1]
  | 1 => rw [if_pos (by omega), show 1 + 4 * k + 1 = 2 + 4 * k by omega, h2]; rfl
  | 2 => rw [if_pos (by omega), show 1 + 4 * k + 2 = 3 + 4 * k by omega, h3]; rfl
  | 3 => rw [if_pos (by omega), show 1 + 4 * k + 3 = 4 + 4 * k by omega, h4]; rfl
  | i + 4 => rw [if_neg (by omega)]; rfl
theorem at12 {d : Int} (h0 : 0 ≤ d) (h1 : d < 12) : ∃ w : Nat, w ≤ 255 ∧ atI ([0, 1, 2, 3, 40, 120, 127, 128, 250, 253, 254, 255].map V.int) d = some (.int (w : Int)) := by
  obtain ⟨n, rfl⟩ := Int.eq_ofNat_of_zero_le h0
  have hn : n < 12 := by omega
  have : ∀ n, n < 12 → ∃ w : Nat, w ≤ 255 ∧ ([0, 1, 2, 3, 40, 120, 127, 128, 250, 253, 254, 255] : List Int)[n]? = some (w : Int) := by
    intro n hn
    match n, hn with
    | 0, _ => exact ⟨0, by omega, rfl⟩
    | 1, _ => exact ⟨1, by omega, rfl⟩
    | 2, _ => exact ⟨2, by omega, rfl⟩
    | 3, _ => exact ⟨3, by omega, rfl⟩
    | 4, _ => exact ⟨40, by omega, rfl⟩
    | 5, _ => exact ⟨120, by omega, rfl⟩
    | 6, _ => exact ⟨127, by omega, rfl⟩
    | 7, _ => exact ⟨128, by omega, rfl⟩
    | 8, _ => exact ⟨250, by omega, rfl⟩
    | 9, _ => exact ⟨253, by omega, rfl⟩
    | 10, _ => exact ⟨254, by omega, rfl⟩
    | 11, _ => exact ⟨255, by omega, rfl⟩
  obtain ⟨w, hw, e⟩ := this n hn
  exact ⟨w, hw, at_of (by rw [List.getElem?_map, e]; rfl)⟩
theorem atStr {ss : List Str} {d : Int} (h0 : 0 ≤ d) (h1 : d < (ss.length : Int)) : ∃ s ∈ ss, atI (ss.map V.str) d = some (.str s) := by
  obtain ⟨n, rfl⟩ := Int.eq_ofNat_of_zero_le h0
  have hn : n < ss.length := by omega
  exact ⟨ss[n], List.getElem_mem hn, at_of (by rw [List.getElem?_map, List.getElem?_eq_getElem hn]; rfl)⟩

def RowN (ev : Bool) : Row → Prop
  | .words ws => ws.length ≤ 255 ∧ ∀ w ∈ ws, ∃ k, w = .num k
  | .branch c n m => c ∈ nearL ∧ n ∈ nmL ∧ (m ≠ 0 → n = "away")
  | .even n => ev = true ∧ 1 ≤ n ∧ n ≤ 64
  | _ => False
theorem N_G {ev : Bool} {rs : List Row} (h : ∀ r ∈ rs, RowN ev r) (hl : rs.length ≤ 20) : DraftG rs ∧ rs.filterMap labR = [] ∧ (ev = false → noEven rs) := by
  have e : rs.filterMap labR = [] := by
    rw [List.filterMap_eq_nil_iff]
    intro r hr
    have := h r hr
    cases r with
    | words n => rfl
    | branch c n m => rfl
    | even n => rfl
    | label s => exact absurd this id
  refine ⟨⟨fun r hr => ?_, by rw [e]; exact List.nodup_nil, hl⟩, e, fun ee i => ?_⟩
  · have := h r hr
    cases r with
    | words n => exact this
    | branch c n m => exact this
    | even n => exact this.2
    | label s => exact absurd this id
  · unfold isEv
    split
    · rename_i n z
      have := (h _ (List.mem_of_getElem? z)).1
      rw [ee] at this
      cases this
    · rfl
def isEvR : Row → Bool
  | .even _ => true
  | _ => false
theorem noEven_iff {rs : List Row} : noEven rs ↔ ∀ r ∈ rs, isEvR r = false := by
  constructor
  · intro h r hr
    obtain ⟨i, hi⟩ := List.getElem?_of_mem hr
    have := h i
    unfold isEv at this
    rw [hi] at this
    cases r <;> first | rfl | cases this
  · intro h i
    unfold isEv
    split
    · rename_i n e
      have := h _ (List.mem_of_getElem? e)
      cases this
    · rfl
theorem els1 {b : Bool} {S A C : Prop} (c : C) (h : b = true → C → S) : if b = true then S else (if false = true then A else C) := by
  cases b with
  | true => exact h rfl c
  | false => exact c
abbrev sLDraft : Stmt := topS 42
abbrev NLD : List Str := ["cell", "most", "is_even", "draws", "rows", "wide", "k", "kind", "size", "name", "called", "more", "at", "label"]
theorem scLDraft : FnScope NLD ["cell", "most", "is_even"] (defScope sLDraft) := ⟨rfl, rfl, rfl, by decide +kernel, rfl, by decide +kernel, by decide +kernel⟩
def spLDraft (K : PySem.W.Frag) : Sp := fun vs H Q _ => ∃ (n mo : Int) (ev : Bool), vs = [.int n, .int mo, .bl ev] ∧ 0 ≤ mo ∧ mo ≤ 9 ∧ ∀ H' p xs rcs, Same H H' → H p = none → H' p = some (.lst xs) → DpAll K H' xs (rcs.map rowR) → DraftG (rsC rcs) → (ev = false → noEven (rsC rcs)) → (∀ z ∈ labs4, z ∈ (rsC rcs).filterMap labR) → (rcs.length : Int) ≤ mo + 4 → Q (.ref p) H'
theorem labs4_inj : ∀ i, i < 4 → ∀ j, j < i → labs4[j]? ≠ labs4[i]? := by decide +kernel
section
variable {P : Program} {w : World} {K : PySem.W.Frag} {mg : Str → Option Value} {base : Heap}
theorem ok_ldraft {f : Addr} {fd : FuncData} (F : Fun K "_law_draft" "_law_draft" sLDraft f fd) (T : Bi mg) (G : Has P w K mg base CX0 1 "_law_row" ["cell", "sizes"] (spLRow K)) : FnOk P w K mg base CX0 2 f fd ["cell", "most", "is_even"] (spLDraft K) := by
  refine F.ok scLDraft (fun vs H Q E h => ?_) (fun cdv A outer s H vs Q E hr h => ?_)
  · obtain ⟨n, mo, ev, rfl, _⟩ := h
    rfl
  · obtain ⟨n, mo, ev, rfl, mo0, mo9, q⟩ := h
    refine ⟨_, (pss_cons (ps_par3 rfl scLDraft.nd (i := 3) (j := 4) (l := 5) rfl rfl rfl (by decide) (by decide) (by decide) rfl rfl rfl (pa_cons (pe_callH G hr (by rfl) pass0 (pa_cons (pv 0) (pa_cons (pe_op op_cat (pe_op op_cat (pe_lst (pa_cons pe_int pa_nil)) (pe_op op_rep (pe_lst (pa_cons pe_int (pa_cons pe_int (pa_cons pe_int (pa_cons pe_int pa_nil))))) pe_int)) (pe_op op_rep (pe_lst (pa_cons pe_int pa_nil)) pe_int)) pa_nil))) (pa_cons (pe_lst pa_nil) (pa_cons pe_int pa_nil))) (by rfl))
      (pss_cons (ps_for PassesOwn.never rfl (pi_range1 (by rfl) T.range (pa_cons (pe_callB (call_min2 rfl) (by rfl) T.min (by decide +kernel) (pa_cons (pe_op op_add pe_int (pe_ix ix_list (pv 3) pe_int (fun _ _ => rfl))) (pa_cons (pv 1) pa_nil))) pa_nil)) (pg_name (i := 6) scLDraft.nd rfl (.inl rfl)) (pss_cons (ps_asg (pe_slice sl_list (pv 3) (po_some (pe_op op_add pe_int (pe_op op_mul pe_int (pv 6)))) (po_some (pe_op op_add pe_int (pe_op op_mul pe_int (pv 6))))) (pg_lst rfl (pgs_cons (pg_name (i := 7) scLDraft.nd rfl (.inl rfl)) (pgs_cons (pg_name (i := 8) scLDraft.nd rfl (.inl rfl)) (pgs_cons (pg_name (i := 9) scLDraft.nd rfl (.inl rfl)) (pgs_cons (pg_name (i := 10) scLDraft.nd rfl (.inl rfl)) pgs_nil))))))
        (pss_one (ps_if (PW.pt (pw_and (pt_cmpR op_lt (pv 7) pe_int (nomark _)) (pw_and1 (pt_cmpR op_lt (pv 5) pe_int (nomark _))))) (pss_cons (ps_set (i := 5) scLDraft.nd rfl (.inl rfl) (pe_op op_add (pv 5) pe_int))
          (pss_one (ps_expr (pe_bm PySem.F.plainAttrs_list PySem.F.slot_list_append PySem.F.type_list_append mt_append (pv 4) (pa_cons (pe_tup (pa_cons pe_str (pa_cons (pe_op op_rep (pe_lst (pa_cons (pv 6) pa_nil)) (pe_ix ix_list (pe_lst (pa_cons pe_int (pa_cons pe_int (pa_cons pe_int (pa_cons pe_int (pa_cons pe_int (pa_cons pe_int (pa_cons pe_int (pa_cons pe_int (pa_cons pe_int (pa_cons pe_int (pa_cons pe_int (pa_cons pe_int pa_nil))))))))))))) (pv 8) (fun _ _ => rfl))) pa_nil))) pa_nil))))) (pss_one (ps_if (PW.pt (pw_and (pt_cmpR op_eq (pv 7) pe_int (nomark _)) (pw_and1 (pt_val (pv 2))))) (pss_one (ps_expr (pe_bm PySem.F.plainAttrs_list PySem.F.slot_list_append PySem.F.type_list_append mt_append (pv 4) (pa_cons (pe_tup (pa_cons pe_str (pa_cons (pe_ix ix_list (pe_lst (pa_cons pe_int (pa_cons pe_int (pa_cons pe_int (pa_cons pe_int (pa_cons pe_int (pa_cons pe_int (pa_cons pe_int (pa_cons pe_int (pa_cons pe_int (pa_cons pe_int (pa_cons pe_int (pa_cons pe_int pa_nil))))))))))))) (pv 8) (fun _ _ => rfl)) pa_nil))) pa_nil)))) (pss_cons (ps_set (i := 11) scLDraft.nd rfl (.inl rfl) (pe_ifExp (pt_cmpR op_eq (pv 9) pe_int (nomark _)) (pe_ix ix_list (pe_lst (pa_cons pe_int (pa_cons pe_int (pa_cons (pe_un un_neg pe_int) pa_nil)))) (pv 10) (fun _ _ => rfl)) pe_int))
          (pss_one (ps_expr (pe_bm PySem.F.plainAttrs_list PySem.F.slot_list_append PySem.F.type_list_append mt_append (pv 4) (pa_cons (pe_tup (pa_cons pe_str (pa_cons (pe_ix ix_list (pe_lst (pa_cons pe_str (pa_cons pe_str (pa_cons pe_str pa_nil)))) (pv 10) (fun _ _ => rfl)) (pa_cons (pe_ix ix_list (pe_lst (pa_cons pe_str (pa_cons pe_str (pa_cons pe_str (pa_cons pe_str (pa_cons pe_str pa_nil)))))) (pv 9) (fun _ _ => rfl)) (pa_cons (pv 11) pa_nil))))) pa_nil)))))))))))
      (pss_cons (ps_for PassesOwn.never rfl (pi_zip (by rfl) T.zip (pa_cons (pe_slice sl_list (pv 3) (po_some pe_int) po_none) (pa_cons (pe_lst (pa_cons pe_str (pa_cons pe_str (pa_cons pe_str (pa_cons pe_str pa_nil))))) pa_nil))) (pg_tup rfl (pgs_cons (pg_name (i := 12) scLDraft.nd rfl (.inl rfl)) (pgs_cons (pg_name (i := 13) scLDraft.nd rfl (.inl rfl)) pgs_nil)))
        (pss_one (ps_expr (pe_bm PySem.F.plainAttrs_list PySem.F.slot_list_insert PySem.F.type_list_insert mt_insert (pv 4) (pa_cons (pe_op op_mod (pv 12) (pe_op op_add (pe_callB call_len_seq (by rfl) T.len (by decide +kernel) (pa_cons (pv 4) pa_nil)) pe_int)) (pa_cons (pe_tup (pa_cons pe_str (pa_cons (pv 13) pa_nil))) pa_nil))))))
      (pss_one (ps_ret (pv 4)))))), ?_⟩
    refine ⟨_, rfl, (by show 1 ≤ sizeLine; decide), fun p1 hp1 => ⟨(by show 4 ≤ sizeLine; decide), fun p2 hp2 => ?_⟩⟩
    have n12 : p1 ≠ p2 := ne_of_none upd_same hp2
    refine ⟨p2, 10, _, rfl, rfl, upd_same, by decide, by decide, (by show 4 * 10 ≤ sizeLine; decide), fun p3 hp3 => ?_⟩
    have n13 : p1 ≠ p3 := ne_of_none (by rw [upd_ne n12]; exact upd_same) hp3
    refine ⟨p1, p3, _, _, rfl, rfl, by rw [upd_ne n13, upd_ne n12]; exact upd_same, upd_same, (by show 41 ≤ sizeLine; decide), fun p4 hp4 => ⟨(by show 1 ≤ sizeLine; decide), fun p5 hp5 => ?_⟩⟩
    have n45 : p4 ≠ p5 := ne_of_none upd_same hp5
    refine ⟨p5, 4, _, rfl, rfl, upd_same, by decide, by decide, (by show 1 * 4 ≤ sizeLine; decide), fun p6 hp6 => ?_⟩
    have n46 : p4 ≠ p6 := ne_of_none (by rw [upd_ne n45]; exact upd_same) hp6
    refine ⟨p4, p6, _, _, rfl, rfl, by rw [upd_ne n46, upd_ne n45]; exact upd_same, upd_same, (by show 45 ≤ sizeLine; decide), fun p7 hp7 => ?_⟩
    have t1 := same_new (o := .lst [V.int 8]) hp1
    have t2 := t1.trans (same_new (o := .lst ([8, 12, 5, 3].map V.int)) hp2)
    have t3 := t2.trans (same_new (o := .lst (List.replicate 10 ([8, 12, 5, 3].map V.int)).flatten) hp3)
    have t4 := t3.trans (same_new (o := .lst ([V.int 8] ++ (List.replicate 10 ([8, 12, 5, 3].map V.int)).flatten)) hp4)
    have t5 := t4.trans (same_new (o := .lst [V.int 11]) hp5)
    have t6 := t5.trans (same_new (o := .lst (List.replicate 4 [V.int 11]).flatten) hp6)
    have t7 := t6.trans (same_new (o := .lst (szD.map V.int)) hp7)
    refine ⟨n, p7, szD, rfl, SqL.of (by rw [upd_same]; rfl), szD_ok, fun H1 D out s1 hDn hD1 dr => ⟨Nat.zero_le _, fun L hL => ⟨_, _, _, rfl, ?_⟩⟩⟩
    have t8 : Same H H1 := t7.trans s1
    have t9 := t8.trans (same_new (o := .lst []) hL)
    have hLn : H L = none := by
      cases e : H L with
      | none => rfl
      | some u => rw [t8 _ _ e] at hL; cases hL
    have nDL : D ≠ L := ne_of_none hD1 hL
    generalize hH0 : upd H1 L (.lst []) = H0 at t9
    have hD0 : H0 D = some (.lst (out.map V.int)) := by rw [← hH0, upd_ne nDL]; exact hD1
    have hL0 : H0 L = some (.lst []) := by rw [← hH0]; exact upd_same
    have ol : out.length = 45 := dr.1
    have at_out : ∀ {i : Nat} {z : Int}, szD[i]? = some z → ∃ d, out[i]? = some d ∧ 0 ≤ d ∧ d < z := fun {i z} h => dr.2 i z h
    obtain ⟨d0, e0, d0a, d0b⟩ := at_out (i := 0) (z := 8) rfl
    refine ⟨_, rfl, D, _, _, _, rfl, rfl, SqL.of hD0, at_of (i := 0) (by rw [List.getElem?_map, e0]; rfl), _, _, rfl, rfl, _, rfl, _, _, rfl, _, rfl, ?_⟩
    generalize hj : (if mo < 2 + d0 then mo else 2 + d0) = j
    have j1 : 0 ≤ j ∧ j ≤ mo := by
      rw [← hj]
      split <;> omega
    refine ⟨by omega, by omega, ?_⟩
    obtain ⟨m, rfl⟩ := Int.eq_ofNat_of_zero_le j1.1
    rw [Int.toNat_natCast]
    have hm9 : m ≤ 9 := by omega
    have hmm : (m : Int) ≤ mo := j1.2
    refine for_it walk_range (fun i σ H4 => ∃ (w : Int) (a b c d e g : Option V) (xs : List V) (rcs : List RowC), σ = [some (.int n), some (.int mo), some (.bl ev), some (.ref D), some (.ref L), some (.int w), a, b, c, d, e, g, none, none] ∧ (∀ b o, b ≠ L → H0 b = some o → H4 b = some o) ∧ H4 L = some (.lst xs) ∧ DpAll K (del H4 L) xs (rcs.map rowR) ∧ rcs.length = i ∧ ∀ r ∈ rsC rcs, RowN ev r)
      ⟨0, none, none, none, none, none, none, [], [], rfl, fun _ _ _ h => h, hL0, .nil, rfl, fun r hr => by cases hr⟩ (fun _ _ _ _ _ => trivial) ?_ ?_
    · rintro i y σ H4 H4' hi ⟨wd, a, b, c, d, e, g, xs, rcs, rfl, kp, hL4, hrs, hlen, hN⟩ ⟨rfl, hy⟩
      have hy' : y = .int (i : Int) := by
        rw [hy]
        exact congrArg V.int (Int.zero_add _)
      subst hy'
      obtain ⟨z1, z2, z3, z4⟩ := szD_at i (by omega)
      obtain ⟨k1, o1, k1a, k1b⟩ := at_out z1
      obtain ⟨k2, o2, k2a, k2b⟩ := at_out z2
      obtain ⟨k3, o3, k3a, k3b⟩ := at_out z3
      obtain ⟨k4, o4, k4a, k4b⟩ := at_out z4
      have hD4 := kp _ _ nDL hD0
      have xl : xs.length = i := by
        rw [dps_len hrs, List.length_map]
        exact hlen
      refine ⟨_, rfl, _, rfl, _, _, rfl, rfl, .inl ⟨by decide, by decide⟩, _, _, rfl, rfl, _, rfl, _, rfl, _, _, rfl, rfl, .inl ⟨by decide, by decide⟩, _, _, rfl, rfl, _, rfl, D, _, rfl, SqL.of hD4, fun ps hps => ?_⟩
      rw [cut4 ol (by omega) o1 o2 o3 o4]
      refine ⟨ps, _, rfl, SqL.of upd_same, rfl, _, _, rfl, _, _, rfl, _, _, rfl, _, _, rfl, rfl, ?_⟩
      have s5 := same_new (o := .lst [V.int k1, V.int k2, V.int k3, V.int k4]) hps
      generalize hH5 : upd H4' ps (.lst [V.int k1, V.int k2, V.int k3, V.int k4]) = H5 at s5
      have hL5 := s5 _ _ hL4
      -- what an append comes to
      have fin : ∀ {H9 : Hp} {v : V} {rc : RowC}, Same H5 H9 → Dp K (del H9 L) v (rowR rc) → RowN ev rc → H9 L = some (.lst xs) ∧ xs.length < sizeLine ∧ ∀ (w : Int) (a b c d e g : Option V), (∃ (w' : Int) (a' b' c' d' e' g' : Option V) (xs' : List V) (rcs' : List RowC), ([some (.int n), some (.int mo), some (.bl ev), some (.ref D), some (.ref L), some (.int w), a, b, c, d, e, g, none, none] : L2.St) = [some (.int n), some (.int mo), some (.bl ev), some (.ref D), some (.ref L), some (.int w'), a', b', c', d', e', g', none, none] ∧ (∀ b o, b ≠ L → H0 b = some o → upd H9 L (.lst (xs ++ [v])) b = some o) ∧ upd H9 L (.lst (xs ++ [v])) L = some (.lst xs') ∧ DpAll K (del (upd H9 L (.lst (xs ++ [v]))) L) xs' (rcs'.map rowR) ∧ rcs'.length = i + 1 ∧ ∀ r ∈ rsC rcs', RowN ev r) := by
        intro H9 v rc s9 hr hn
        have s49 := s5.trans s9
        refine ⟨s9 _ _ hL5, small1000 (by omega), fun w a b c d e g => ⟨w, a, b, c, d, e, g, xs ++ [v], rcs ++ [rc], rfl, fun b o hb eb => ?_, upd_same, ?_, ?_, ?_⟩⟩
        · rw [upd_ne hb]
          exact s49 _ _ (kp b o hb eb)
        · rw [del_upd]
          rw [List.map_append]
          exact dps_app (dps_same (del_same_of s49) hrs) (.cons hr .nil)
        · rw [List.length_append, hlen]
          rfl
        · intro x hx
          rcases List.mem_append.mp hx with h | h
          · exact hN _ h
          · rw [List.mem_singleton.mp h]
            exact hn
      refine ⟨_, rfl, _, _, rfl, rfl, _, rfl, els1 ?c fun b1 C => ⟨_, rfl, _, _, rfl, rfl, _, rfl, ?_⟩⟩
      rotate_left
      · cases b2 : decide (wd < 6) with
        | false => exact iteF C
        | true =>
        obtain ⟨ww, hww, eww⟩ := at12 k2a k2b
        refine iteT ⟨_, rfl, _, _, rfl, rfl, _, rfl, .inl ⟨rfl, _, SqL.of hL5⟩, _, rfl, (by show 1 ≤ sizeLine; decide), fun p1 hp1 => ⟨(by show 12 ≤ sizeLine; decide), fun p2 hp2 => ?_⟩⟩
        have n12 : p1 ≠ p2 := ne_of_none upd_same hp2
        refine ⟨_, rfl, p2, _, _, _, rfl, rfl, SqL.of upd_same, eww, p1, ww, _, rfl, rfl, by rw [upd_ne n12]; exact upd_same, by omega, by omega, ?_, fun p3 hp3 => ⟨(by show 2 ≤ sizeLine; decide), fun p4 hp4 => ?_⟩⟩
        · show 1 * (ww : Int).toNat ≤ sizeLine
          rw [Int.toNat_natCast]
          have : 1 * ww ≤ 1000 := by omega
          exact Nat.le_trans this (by decide)
        have s8 := ((same_new (o := .lst [V.int (i : Int)]) hp1).trans (same_new (o := .lst ([0, 1, 2, 3, 40, 120, 127, 128, 250, 253, 254, 255].map V.int)) hp2)).trans (same_new (o := .lst (List.replicate (ww : Int).toNat [V.int (i : Int)]).flatten) hp3)
        have s9 := s8.trans (same_new (o := .tup [V.str "words", V.ref p3]) hp4)
        have l4 : L ≠ p4 := ne_of_none (s8 _ _ hL5) hp4
        have l3 : L ≠ p3 := ne_of_none (((same_new (o := .lst [V.int (i : Int)]) hp1).trans (same_new (o := .lst ([0, 1, 2, 3, 40, 120, 127, 128, 250, 253, 254, 255].map V.int)) hp2)) _ _ hL5) hp3
        have n34 : p3 ≠ p4 := ne_of_none upd_same hp4
        obtain ⟨f1, f2, f3⟩ := fin (rc := .words (List.replicate ww (.num (i : Int)))) s9 (.tup (SqT.of (by rw [del_ne l4.symm]; exact upd_same)) (.cons (.str _) (.cons (.lst (SqL.of (by
          rw [del_ne l3.symm, upd_ne n34, upd_same, Int.toNat_natCast])) (by
          have e : (List.replicate ww [V.int (i : Int)]).flatten = (List.replicate ww (i : Int)).map V.int := by simp
          have e2 : (List.replicate ww (WordM.num (i : Int))).map rawD = (List.replicate ww (i : Int)).map PyData.int := by simp [rawD]
          rw [e, e2]
          exact dps_ints _)) .nil))) ⟨by rw [List.length_replicate]; exact hww, fun w hw => ⟨_, List.eq_of_mem_replicate hw⟩⟩
        exact ⟨L, xs, _, rfl, rfl, f1, f2, f3 _ _ _ _ _ _ _⟩
      · refine ⟨_, rfl, rfl, _, rfl, els1 ?c2 fun b1 C => ⟨_, rfl, _, rfl, ?ev⟩⟩
        rotate_left
        · cases ev with
          | false => exact iteF C
          | true =>
            obtain ⟨ww, hw1, hw2, eww⟩ := atEv k2a k2b
            refine iteT ⟨_, rfl, .inl ⟨rfl, _, SqL.of hL5⟩, (by show 12 ≤ sizeLine; decide), fun p2 hp2 => ⟨_, rfl, p2, _, _, _, rfl, rfl, SqL.of upd_same, eww, (by show 2 ≤ sizeLine; decide), fun p4 hp4 => ?_⟩⟩
            have s8 := same_new (o := .lst ([1, 2, 3, 4, 5, 8, 16, 32, 40, 64, 7, 63].map V.int)) hp2
            have s9 := s8.trans (same_new (o := .tup [V.str "even", V.int ww]) hp4)
            have l4 : L ≠ p4 := ne_of_none (s8 _ _ hL5) hp4
            obtain ⟨f1, f2, f3⟩ := fin (rc := .even ww) s9 (.tup (SqT.of (by rw [del_ne l4.symm]; exact upd_same)) (.cons (.str _) (.cons (.int _) .nil))) ⟨rfl, hw1, hw2⟩
            exact ⟨L, xs, _, rfl, rfl, f1, f2, f3 _ _ _ _ _ _ _⟩
        have hk4 : ∃ v : Int, atI [V.int 0, V.int 5, V.int (-3)] k4 = some (.int v) := by
          obtain ⟨t, rfl⟩ := Int.eq_ofNat_of_zero_le k4a
          match t, k4b with
          | 0, _ => exact ⟨0, rfl⟩
          | 1, _ => exact ⟨5, rfl⟩
          | 2, _ => exact ⟨-3, rfl⟩
          | t + 3, z => omega
        obtain ⟨mv, hmv⟩ := hk4
        obtain ⟨cs, hcs, ecs⟩ := atStr (ss := nearL) k4a k4b
        refine ⟨_, rfl, rfl, _, rfl, ?_⟩
        rw [intEq]
        cases c3 : decide (k3 = 4) with
        | true =>
          obtain rfl := of_decide_eq_true c3
          refine iteT ⟨_, rfl, (by show 3 ≤ sizeLine; decide), fun p1 hp1 => ⟨_, rfl, p1, _, _, _, rfl, rfl, SqL.of upd_same, hmv, ?_⟩⟩
          have s6 := same_new (o := .lst [V.int 0, V.int 5, V.int (-3)]) hp1
          generalize hH6 : upd H5 p1 (.lst [V.int 0, V.int 5, V.int (-3)]) = H6 at s6
          have hm : mv ≠ 0 → ("away" : Str) = "away" := fun _ => rfl
          have hnm : ("away" : Str) ∈ nmL := by decide +kernel
          have enm : atI (nmL.map V.str) 4 = some (.str "away") := at_of (i := 4) rfl
          refine ⟨_, rfl, .inl ⟨rfl, _, SqL.of (s6 _ _ hL5)⟩, (by show 3 ≤ sizeLine; decide), fun p2 hp2 => ⟨_, rfl, p2, _, _, _, rfl, rfl, SqL.of upd_same, ecs, (by show 5 ≤ sizeLine; decide), fun p3 hp3 => ⟨_, rfl, p3, _, _, _, rfl, rfl, SqL.of upd_same, enm, _, rfl, (by show 4 ≤ sizeLine; decide), fun p4 hp4 => ?_⟩⟩⟩
          have s9 := ((s6.trans (same_new (o := .lst (nearL.map V.str)) hp2)).trans (same_new (o := .lst (nmL.map V.str)) hp3)).trans (same_new (o := .tup [V.str "branch", V.str cs, V.str "away", V.int mv]) hp4)
          have l4 : L ≠ p4 := ne_of_none (((s6.trans (same_new (o := .lst (nearL.map V.str)) hp2)).trans (same_new (o := .lst (nmL.map V.str)) hp3)) _ _ hL5) hp4
          obtain ⟨f1, f2, f3⟩ := fin (rc := .branch cs "away" mv) s9 (.tup (SqT.of (by rw [del_ne l4.symm]; exact upd_same)) (.cons (.str _) (.cons (.str _) (.cons (.str _) (.cons (.int _) .nil))))) ⟨hcs, hnm, hm⟩
          exact ⟨L, xs, _, rfl, rfl, f1, f2, f3 _ _ _ _ _ _ _⟩
        | false =>
          obtain ⟨nm, hnm, enm⟩ := atStr (ss := nmL) k3a k3b
          refine iteF ?_
          have s6 := Same.refl H5
          have hm : (0 : Int) ≠ 0 → nm = "away" := fun z => absurd rfl z
          refine ⟨_, rfl, .inl ⟨rfl, _, SqL.of (s6 _ _ hL5)⟩, (by show 3 ≤ sizeLine; decide), fun p2 hp2 => ⟨_, rfl, p2, _, _, _, rfl, rfl, SqL.of upd_same, ecs, (by show 5 ≤ sizeLine; decide), fun p3 hp3 => ⟨_, rfl, p3, _, _, _, rfl, rfl, SqL.of upd_same, enm, _, rfl, (by show 4 ≤ sizeLine; decide), fun p4 hp4 => ?_⟩⟩⟩
          have s9 := ((s6.trans (same_new (o := .lst (nearL.map V.str)) hp2)).trans (same_new (o := .lst (nmL.map V.str)) hp3)).trans (same_new (o := .tup [V.str "branch", V.str cs, V.str nm, V.int 0]) hp4)
          have l4 : L ≠ p4 := ne_of_none (((s6.trans (same_new (o := .lst (nearL.map V.str)) hp2)).trans (same_new (o := .lst (nmL.map V.str)) hp3)) _ _ hL5) hp4
          obtain ⟨f1, f2, f3⟩ := fin (rc := .branch cs nm 0) s9 (.tup (SqT.of (by rw [del_ne l4.symm]; exact upd_same)) (.cons (.str _) (.cons (.str _) (.cons (.str _) (.cons (.int _) .nil))))) ⟨hcs, hnm, hm⟩
          exact ⟨L, xs, _, rfl, rfl, f1, f2, f3 _ _ _ _ _ _ _⟩
    · rintro σ H4 ⟨wd, a, b, c, d, e, g, xs, rcs, rfl, kp, hL4, hrs, hlen, hN⟩
      have hD4 := kp _ _ nDL hD0
      have ec : cutV (out.map V.int) (some 41) none = (out.map V.int).drop 41 := cut_from (r := 41) (by rw [List.length_map, ol]; omega)
      refine ⟨_, rfl, 41, rfl, D, _, rfl, SqL.of hD4, fun pa hpa => ?_⟩
      rw [ec]
      refine ⟨(by show 4 ≤ sizeLine; decide), fun pb hpb => ?_⟩
      have nab : pa ≠ pb := ne_of_none upd_same hpb
      have s6 := (same_new (o := .lst ((out.map V.int).drop 41)) hpa).trans (same_new (o := .lst [V.str "la", V.str "lb", V.str "lc", V.str "ld"]) hpb)
      have la : L ≠ pa := ne_of_none hL4 hpa
      have lb : L ≠ pb := ne_of_none ((same_new (o := .lst ((out.map V.int).drop 41)) hpa) _ _ hL4) hpb
      have ha6 : upd (upd H4 pa (.lst ((out.map V.int).drop 41))) pb (.lst [V.str "la", V.str "lb", V.str "lc", V.str "ld"]) pa = some (.lst ((out.map V.int).drop 41)) := by rw [upd_ne nab]; exact upd_same
      have hb6 : upd (upd H4 pa (.lst ((out.map V.int).drop 41))) pb (.lst [V.str "la", V.str "lb", V.str "lc", V.str "ld"]) pb = some (.lst (labs4.map V.str)) := upd_same
      refine ⟨pa, pb, _, _, rfl, SqL.of ha6, SqL.of hb6, ?_⟩
      have hL6 := s6 _ _ hL4
      have hrs6 : DpAll K (del (upd (upd H4 pa (.lst ((out.map V.int).drop 41))) pb (.lst [V.str "la", V.str "lb", V.str "lc", V.str "ld"])) L) xs (rcs.map rowR) := dps_same (del_same_of s6) hrs
      have kp6 : ∀ b o, b ≠ L → H0 b = some o → upd (upd H4 pa (.lst ((out.map V.int).drop 41))) pb (.lst [V.str "la", V.str "lb", V.str "lc", V.str "ld"]) b = some o := fun b o hb eb => s6 _ _ (kp b o hb eb)
      generalize hH6 : upd (upd H4 pa (.lst ((out.map V.int).drop 41))) pb (.lst [V.str "la", V.str "lb", V.str "lc", V.str "ld"]) = H6 at *
      obtain ⟨G0, F0, E0⟩ := N_G hN (by show rcs.length ≤ 20; omega)
      refine for_it (walk_zip (n := 4) (xs := (out.map V.int).drop 41) (ys := labs4.map V.str) (by rw [List.length_drop, List.length_map, ol]; rfl))
        (fun i σ H5 => ∃ (u v : Option V) (xs : List V) (rcs : List RowC), σ = [some (.int n), some (.int mo), some (.bl ev), some (.ref D), some (.ref L), some (.int wd), a, b, c, d, e, g, u, v] ∧ (∀ b o, b ≠ L → H6 b = some o → H5 b = some o) ∧ H5 L = some (.lst xs) ∧ DpAll K (del H5 L) xs (rcs.map rowR) ∧ rcs.length = m + i ∧ DraftG (rsC rcs) ∧ (ev = false → noEven (rsC rcs)) ∧ (∀ s ∈ (rsC rcs).filterMap labR, ∃ j, j < i ∧ labs4[j]? = some s) ∧ ∀ j, j < i → ∀ z, labs4[j]? = some z → z ∈ (rsC rcs).filterMap labR)
        ⟨none, none, xs, rcs, rfl, fun _ _ _ h => h, hL6, hrs6, by omega, G0, E0, (fun s hs => by rw [F0] at hs; cases hs), fun j hj => absurd hj (Nat.not_lt_zero _)⟩ ?_ ?_ ?_
      · rintro i σ H5 _ ⟨u, v, xs, rcs, _, kp5, _⟩
        exact ⟨SqL.of (kp5 _ _ la.symm ha6), SqL.of (kp5 _ _ lb.symm hb6)⟩
      · rintro i y σ H5 H5' hi ⟨u, v, xs, rcs, rfl, kp5, hL5, hrs5, hlen5, hG5, hE5, hF5, hK5⟩ ⟨TT, x', y', rfl, hT, rfl, hx', hy'⟩
        have xl : xs.length = m + i := by
          rw [dps_len hrs5, List.length_map]
          exact hlen5
        obtain ⟨dv, od, dv0, dv1⟩ := at_out (szD_end i hi)
        have hx' : ((out.map V.int).drop 41)[i]? = some x' := hx'
        have hy' : (labs4.map V.str)[i]? = some y' := hy'
        obtain rfl : x' = .int dv := by
          rw [List.getElem?_drop, List.getElem?_map, od] at hx'
          exact (Option.some.inj hx').symm
        obtain ⟨sl, hsl, rfl⟩ : ∃ sl, labs4[i]? = some sl ∧ y' = .str sl := by
          rw [List.getElem?_map] at hy'
          cases es : labs4[i]? with
          | none => rw [es] at hy'; cases hy'
          | some sl =>
            rw [es] at hy'
            exact ⟨sl, rfl, (Option.some.inj hy').symm⟩
        have sT := same_new (o := .tup [V.int dv, V.str sl]) hT
        have hLT := sT _ _ hL5
        have pos : (0 : Int) < ((xs.length : Nat) : Int) + 1 := by omega
        refine ⟨TT, _, rfl, SqT.of upd_same, rfl, _, _, rfl, _, _, rfl, rfl, ?_⟩
        refine ⟨_, rfl, .inl ⟨rfl, _, SqL.of hLT⟩, _, rfl, _, rfl, L, _, rfl, .inl (SqL.of hLT), _, _, rfl, rfl, _, _, rfl, rfl, pos, _, rfl, (by show 2 ≤ sizeLine; decide), fun p4 hp4 => ?_⟩
        have s7 := sT.trans (same_new (o := .tup [V.str "label", V.str sl]) hp4)
        have l4 : L ≠ p4 := ne_of_none hLT hp4
        have i0 : 0 ≤ dv % (((xs.length : Nat) : Int) + 1) := Int.emod_nonneg _ (by omega)
        have i1 : dv % (((xs.length : Nat) : Int) + 1) < ((xs.length : Nat) : Int) + 1 := Int.emod_lt_of_pos _ pos
        refine ⟨L, xs, _, _, rfl, rfl, s7 _ _ hL5, small1000 (by omega), i0, by omega, ?_⟩
        generalize (dv % (((xs.length : Nat) : Int) + 1)).toNat = ix
        have pm := ins_perm (rsC rcs) ix (.label sl)
        have ri := rsC_ins rcs ix (.label sl)
        have fm := pm.filterMap labR
        refine ⟨_, _, _, rcs.take ix ++ [.label sl] ++ rcs.drop ix, rfl, fun b o hb eb => ?_, upd_same, ?_, ?_, ?_, ?_, ?_, ?_⟩
        · rw [upd_ne hb]
          exact s7 _ _ (kp5 b o hb eb)
        · rw [del_upd]
          exact dps_ins (rc := .label sl) ix (dps_same (del_same_of s7) hrs5) (.tup (SqT.of (by rw [del_ne l4.symm]; exact upd_same)) (.cons (.str _) (.cons (.str _) .nil)))
        · have e := (ins_perm rcs ix (.label sl)).length_eq
          rw [List.length_cons] at e
          omega
        · rw [ri]
          refine G_ins ix hG5 (List.mem_of_getElem? hsl) (by show rcs.length < 20; omega) fun s' hs' hm' => ?_
          cases hs'
          obtain ⟨j, hj, ej⟩ := hF5 _ hm'
          exact labs4_inj i hi j hj (ej.trans hsl.symm)
        · intro ee
          have hE5 := hE5 ee
          rw [ri]
          rw [noEven_iff] at hE5 ⊢
          intro r hr
          rcases List.mem_cons.mp (pm.mem_iff.mp hr) with z | z
          · rw [z]; rfl
          · exact hE5 r z
        · intro s' hs'
          rw [ri] at hs'
          have := fm.mem_iff.mp hs'
          rw [List.filterMap_cons] at this
          rcases List.mem_cons.mp this with z | z
          · exact ⟨i, by omega, by rw [z]; exact hsl⟩
          · obtain ⟨j, hj, ej⟩ := hF5 _ z
            exact ⟨j, by omega, ej⟩
        · intro j hj z hz
          rw [ri]
          refine fm.mem_iff.mpr ?_
          rw [List.filterMap_cons]
          by_cases c9 : j = i
          · rw [c9, hsl] at hz
            rw [Option.some.inj hz]
            exact List.mem_cons_self ..
          · exact List.mem_cons_of_mem _ (hK5 j (by omega) z hz)
      · rintro σ H5 ⟨u, v, xs, rcs, rfl, kp5, hL5, hrs5, hlen5, hG5, hE5, _, hK5⟩
        have hAll : ∀ z ∈ labs4, z ∈ (rsC rcs).filterMap labR := fun z hz => by
          obtain ⟨j, hj⟩ := List.getElem?_of_mem hz
          exact hK5 j (List.getElem?_eq_some_iff.mp hj).1 z hj
        refine ⟨_, rfl, q H5 L xs rcs (fun bb o eb => ?_) hLn hL5 (dps_same del_sub hrs5) hG5 hE5 hAll (by omega)⟩
        have nb : bb ≠ L := ne_of_none eb hLn
        exact kp5 bb o nb (kp6 bb o nb (t9 _ _ eb))
end

abbrev sLBr : Stmt := topS 43
abbrev sLSp : Stmt := topS 44
theorem scLBr : FnScope ["rows", "k", "row"] ["rows"] (defScope sLBr) := ⟨rfl, rfl, rfl, by decide +kernel, rfl, by decide +kernel, by decide +kernel⟩
theorem scLSp : FnScope ["rows", "k", "row"] ["rows"] (defScope sLSp) := ⟨rfl, rfl, rfl, by decide +kernel, rfl, by decide +kernel, by decide +kernel⟩
/-- the rows of a draft in a list -/
structure LRows (K : PySem.W.Frag) (H : Hp) (L : Addr) (xs : List V) (rs : List Row) : Prop where
  lst : SqL K H L xs
  rows : RowsV K H xs rs
  len : rs.length ≤ 900
theorem LRows.same {K : PySem.W.Frag} {H H' : Hp} {L : Addr} {xs : List V} {rs : List Row} (h : LRows K H L xs rs) (e : Same H H') : LRows K H' L xs rs := ⟨sqL_same e h.lst, rowsV_same e h.rows, h.len⟩
def spLBr (K : PySem.W.Frag) : Sp := fun vs H Q _ => ∃ (L : Addr) (xs : List V) (rs : List Row), vs = [.ref L] ∧ LRows K H L xs rs ∧ ∀ H' p, Same H H' → H p = none → H' p = some (.lst (nats (brs rs))) → Q (.ref p) H'
def spLSp (K : PySem.W.Frag) : Sp := fun vs H Q _ => ∃ (L : Addr) (xs : List V) (rs : List Row), vs = [.ref L] ∧ LRows K H L xs rs ∧ ∀ H' p, Same H H' → H p = none → H' p = some (.dK (spD rs rs.length)) → Q (.ref p) H'
theorem brsTo_s (rs : List Row) (i : Nat) : brsTo rs (i + 1) = brsTo rs i ++ (if isBr rs i = true then [i] else []) := by
  unfold brsTo
  rw [List.range_succ, List.filter_append]
  congr 1
  cases e : isBr rs i <;> simp [List.filter, e]
theorem isBr_k {rs : List Row} {i : Nat} {r : Row} (h : rs[i]? = some r) : isBr rs i = decide (kindOf r = ("branch" : Str)) := by
  unfold isBr
  rw [h, br_kind]
  cases r <;> rfl
def labK (rs : List Row) : Nat → List (Key × V)
  | 0 => []
  | i + 1 => labK rs i ++ (match labOf rs i with
    | some s => [(Sum.inr s, .int (i : Nat))]
    | none => [])
theorem merge_labK (rs : List Row) : ∀ i, mergeK [] (labK rs i) = spD rs i
  | 0 => rfl
  | i + 1 => by
    unfold labK spD mergeK
    rw [List.foldl_append]
    have := merge_labK rs i
    unfold mergeK at this
    rw [this]
    cases labOf rs i <;> rfl
theorem labK_len (rs : List Row) : ∀ i, (labK rs i).length ≤ i
  | 0 => Nat.le_refl _
  | i + 1 => by
    unfold labK
    have := labK_len rs i
    rw [List.length_append]
    cases labOf rs i <;> simp <;> omega
abbrev gE (K : PySem.W.Frag) (i j : Nat) : TG := gTup K 2 (gCons (gName i) (gCons (gName j) gNil))
section
variable {P : Program} {w : World} {K : PySem.W.Frag} {mg : Str → Option Value} {base : Heap}
theorem ok_lbr {f : Addr} {fd : FuncData} (F : Fun K "_law_branches" "_law_branches" sLBr f fd) (T : Bi mg) : FnOk P w K mg base CX0 1 f fd ["rows"] (spLBr K) := by
  refine F.ok scLBr (fun vs H Q E h => ?_) (fun cdv A outer s H vs Q E hr h => ?_)
  · obtain ⟨L, xs, rs, rfl, _⟩ := h
    rfl
  · obtain ⟨L, xs, rs, rfl, ⟨hL, hrs, hlen⟩, q⟩ := h
    refine ⟨_, (pss_one (ps_ret (pe_lc (own := [("k", 1), ("row", 2)]) (g := gE K 1 2) (tt := row0Is K 2 "branch") (te := tVar 1) rfl scLBr.nd (pi_enum (by rfl) T.enumerate (pa_cons (pv 0) pa_nil)) (blkOk_by (N := ["rows", "k", "row"]) (sc := defScope sLBr) (by decide +kernel)) (fun _ _ _ _ _ => (pg_tup rfl (pgs_cons (pg_name (i := 1) scLBr.nd rfl (.inl rfl) (.inr rfl)) (pgs_cons (pg_name (i := 2) scLBr.nd rfl (.inl rfl) (.inr rfl)) pgs_nil)))) (fun _ _ _ _ _ => pts_one (pt_cmpR op_eq (pe_ix ix_tup (pv 2) pe_int (fun _ _ => rfl)) pe_str (nomark _))) (fun _ _ _ _ _ => (pv 1))))), ?_⟩
    have lx := rowsV_len hrs
    refine ⟨_, rfl, L, xs, rfl, hL, fun D hD => ?_⟩
    refine lc_it walk_enum (fun i H4 => (∀ c o, c ≠ D → H c = some o → H4 c = some o) ∧ H4 D = some (.lst (nats (brsTo rs i)))) ⟨fun c o hc e => by rw [upd_ne hc]; exact e, upd_same⟩ (fun i H4 _ ⟨kp, _⟩ => sqL_same (fun c o e => kp c o (ne_of_none e hD) e) hL) ?_ ?_
    · rintro i x H4 H4' hi ⟨kp, hD4⟩ ⟨TT, x', y, rfl, hT, rfl, hx', hy⟩
      cases hx'
      have s4 : Same H H4 := fun c o e => kp c o (ne_of_none e hD) e
      have s5 : Same H4 (upd H4 TT (.tup [.int (i : Nat), y])) := same_new hT
      obtain ⟨r, hri, hrv⟩ := rowsV_get hrs hy
      obtain ⟨a, zs, rfl, ht, h0⟩ := rowV_tup (rowV_same (s4.trans s5) hrv)
      have eb := isBr_k hri
      refine ⟨TT, _, rfl, SqT.of upd_same, rfl, _, _, rfl, _, _, rfl, rfl, rfl, row0_is rfl ht h0 eb.symm ?_⟩
      have hD5 := s5 _ _ hD4
      have bl := brsTo_len rs i
      rw [brsTo_s]
      cases isBr rs i with
      | true =>
        refine iteT ⟨_, rfl, _, hD5, ?_, fun c o hc e => ?_, ?_⟩
        · rw [nats_len]
          exact small1000 (by omega)
        · rw [upd_ne hc]
          exact s5 _ _ (kp c o hc e)
        · rw [upd_same, if_pos rfl, nats_app]
          rfl
      | false =>
        refine iteF ⟨fun c o hc e => s5 _ _ (kp c o hc e), ?_⟩
        rw [if_neg (by decide), List.append_nil]
        exact hD5
    · rintro H4 ⟨kp, hD4⟩
      rw [lx] at hD4
      exact q H4 D (fun c o e => kp c o (ne_of_none e hD) e) hD hD4
theorem ok_lsp {f : Addr} {fd : FuncData} (F : Fun K "_law_spots" "_law_spots" sLSp f fd) (T : Bi mg) : FnOk P w K mg base CX0 1 f fd ["rows"] (spLSp K) := by
  refine F.ok scLSp (fun vs H Q E h => ?_) (fun cdv A outer s H vs Q E hr h => ?_)
  · obtain ⟨L, xs, rs, rfl, _⟩ := h
    rfl
  · obtain ⟨L, xs, rs, rfl, ⟨hL, hrs, hlen⟩, q⟩ := h
    refine ⟨_, (pss_one (ps_ret (pe_callTy (call_dictP rfl) (by rfl) T.dict (by decide +kernel) (pa_cons (pe_lc (own := [("k", 1), ("row", 2)]) (g := gE K 1 2) (tt := row0Is K 2 "label") (te := tTup (tCons (ixT K 2 1) (tCons (tVar 1) tNil))) rfl scLSp.nd (pi_enum (by rfl) T.enumerate (pa_cons (pv 0) pa_nil)) (blkOk_by (N := ["rows", "k", "row"]) (sc := defScope sLSp) (by decide +kernel)) (fun _ _ _ _ _ => (pg_tup rfl (pgs_cons (pg_name (i := 1) scLSp.nd rfl (.inl rfl) (.inr rfl)) (pgs_cons (pg_name (i := 2) scLSp.nd rfl (.inl rfl) (.inr rfl)) pgs_nil)))) (fun _ _ _ _ _ => pts_one (pt_cmpR op_eq (pe_ix ix_tup (pv 2) pe_int (fun _ _ => rfl)) pe_str (nomark _))) (fun _ _ _ _ _ => (pe_tup (pa_cons (pe_ix ix_tup (pv 2) pe_int (fun _ _ => rfl)) (pa_cons (pv 1) pa_nil))))) pa_nil)))), ?_⟩
    have lx := rowsV_len hrs
    refine ⟨_, rfl, L, xs, rfl, hL, fun D hD => ?_⟩
    refine lc_it walk_enum (fun i H4 => (∀ c o, c ≠ D → H c = some o → H4 c = some o) ∧ ∃ ps : List Addr, H4 D = some (.lst (ps.map V.ref)) ∧ Paired (fun p kv => SqT K H4 p [kV kv.1, kv.2]) ps (labK rs i)) ⟨fun c o hc e => by rw [upd_ne hc]; exact e, [], upd_same, .nil⟩ (fun i H4 _ ⟨kp, _⟩ => sqL_same (fun c o e => kp c o (ne_of_none e hD) e) hL) ?_ ?_
    · rintro i x H4 H4' hi ⟨kp, ps, hD4, hps⟩ ⟨TT, x', y, rfl, hT, rfl, hx', hy⟩
      cases hx'
      have s4 : Same H H4 := fun c o e => kp c o (ne_of_none e hD) e
      have s5 : Same H4 (upd H4 TT (.tup [.int (i : Nat), y])) := same_new hT
      obtain ⟨r, hri, hrv⟩ := rowsV_get hrs hy
      have hrv5 := rowV_same (s4.trans s5) hrv
      obtain ⟨a, zs, rfl, ht, h0⟩ := rowV_tup hrv5
      refine ⟨TT, _, rfl, SqT.of upd_same, rfl, _, _, rfl, _, _, rfl, rfl, rfl, row0_is rfl ht h0 (lab_kind r) ?_⟩
      have hD5 := s5 _ _ hD4
      have el := labOf_at hri
      have pl : ps.length ≤ i := by
        rw [hps.length]
        exact labK_len rs i
      have lk : labK rs (i + 1) = labK rs i ++ (match labR r with
        | some s => [(Sum.inr s, .int (i : Nat))]
        | none => []) := by
        rw [← el]
        rfl
      cases eR : labR r with
      | none =>
        rw [eR, List.append_nil] at lk
        refine iteF ⟨fun c o hc e => s5 _ _ (kp c o hc e), ps, hD5, ?_⟩
        rw [lk]
        exact hps.mono fun p kv h => sqT_same s5 h
      | some z =>
        rw [eR] at lk
        obtain rfl := labR_some eR
        obtain ⟨a', ea, h2⟩ := hrv5
        refine iteT ⟨_, rfl, a', _, _, _, ea, rfl, h2, at_of (i := 1) rfl, _, rfl, (by show 2 ≤ sizeLine; decide), fun p4 hp4 => ?_⟩
        have s6 := s5.trans (same_new (o := .tup [V.str z, V.int (i : Nat)]) hp4)
        have nD : p4 ≠ D := ne_of_none' hD5 hp4
        refine ⟨_, s6 _ _ hD4, ?_, fun c o hc e => ?_, ps ++ [p4], ?_, ?_⟩
        · rw [List.length_map]
          exact small1000 (by omega)
        · rw [upd_ne hc]
          exact s6 _ _ (kp c o hc e)
        · rw [upd_same, List.map_append]
          rfl
        · rw [lk]
          refine Paired.snoc (hps.mono fun p kv h => sqT_put (sqT_same s6 h) (s6 _ _ hD4) trivial) ?_
          exact sqT_put (SqT.of upd_same) (s6 _ _ hD4) trivial
    · rintro H4 ⟨kp, ps, hD4, hps⟩
      have s4 : Same H H4 := fun c o e => kp c o (ne_of_none e hD) e
      rw [lx] at hps
      refine ⟨D, ps, _, rfl, SqL.of hD4, hps, fun p hp => ?_⟩
      rw [merge_labK]
      have hpn : H p = none := by
        cases e : H p with
        | none => rfl
        | some u => rw [s4 _ _ e] at hp; cases hp
      exact q _ p (s4.trans (same_new hp)) hpn upd_same
end

abbrev sLOu : Stmt := topS 45
abbrev sLBe : Stmt := topS 46
theorem scLOu : FnScope ["rows", "spots", "k"] ["rows"] (defScope sLOu) := ⟨rfl, rfl, rfl, by decide +kernel, rfl, by decide +kernel, by decide +kernel⟩
theorem scLBe : FnScope ["rows", "far", "found", "k", "row", "size"] ["rows", "far"] (defScope sLBe) := ⟨rfl, rfl, rfl, by decide +kernel, rfl, by decide +kernel, by decide +kernel⟩
def spLOu (K : PySem.W.Frag) : Sp := fun vs H Q _ => ∃ (L : Addr) (xs : List V) (rs : List Row), vs = [.ref L] ∧ LRows K H L xs rs ∧ ∀ H' p, Same H H' → H p = none → H' p = some (.lst (nats (outs rs))) → Q (.ref p) H'
def spLBe (K : PySem.W.Frag) : Sp := fun vs H Q _ => ∃ (L l : Addr) (xs : List V) (rs : List Row) (ns : List Int), vs = [.ref L, .ref l] ∧ LRows K H L xs rs ∧ (∀ r ∈ rs, RowOk r) ∧ (SqL K H l (ns.map V.int) ∨ SqT K H l (ns.map V.int)) ∧ ∀ H' p, Same H H' → H p = none → H' p = some (.lst (offTo (mem ns) rs rs.length)) → Q (.ref p) H'
/-- a branch of the rows -/
theorem br_at {K : PySem.W.Frag} {H : Hp} {xs : List V} {rs : List Row} {k : Nat} (hrs : RowsV K H xs rs) (h : k ∈ brs rs) : ∃ (a : Addr) (c n : Str) (m : Int), xs[k]? = some (.ref a) ∧ SqT K H a [.str "branch", .str c, .str n, .int m] ∧ toOf rs k = some n ∧ k < rs.length := by
  obtain ⟨c, n, m, e⟩ := brs_mem h
  have hk : k < rs.length := (List.getElem?_eq_some_iff.mp e).1
  have lx := rowsV_len hrs
  have ex : xs[k]? = some xs[k] := List.getElem?_eq_getElem (by omega)
  obtain ⟨r, hr, hv⟩ := rowsV_get hrs ex
  rw [e] at hr
  cases hr
  obtain ⟨a, ea, ha⟩ := hv
  rw [ea] at ex
  refine ⟨a, c, n, m, ex, ha, ?_, hk⟩
  rw [toOf_at e]
theorem even_mod (n c : Int) : (n - c % n) % n = (-c) % n := by
  rw [Int.emod_def c n]
  have e : n - (c - n * (c / n)) = -c + n * (1 + c / n) := by
    rw [Int.mul_add, Int.mul_one]
    omega
  rw [e, Int.add_mul_emod_self_left]
section
variable {P : Program} {w : World} {K : PySem.W.Frag} {mg : Str → Option Value} {base : Heap}
theorem ok_lou {f : Addr} {fd : FuncData} (F : Fun K "_law_outs" "_law_outs" sLOu f fd) (T : Bi mg) (G1 : Has P w K mg base CX0 1 "_law_spots" ["rows"] (spLSp K)) (G2 : Has P w K mg base CX0 1 "_law_branches" ["rows"] (spLBr K)) : FnOk P w K mg base CX0 2 f fd ["rows"] (spLOu K) := by
  refine F.ok scLOu (fun vs H Q E h => ?_) (fun cdv A outer s H vs Q E hr h => ?_)
  · obtain ⟨L, xs, rs, rfl, _⟩ := h
    rfl
  · obtain ⟨L, xs, rs, rfl, hR, q⟩ := h
    have hu := hu_of hr
    refine ⟨_, (pss_cons (ps_set (i := 1) scLOu.nd rfl (.inr rfl) (pe_callH G1 hr (by rfl) pass0 (pa_cons (pv 0) pa_nil)))
      (pss_one (ps_ret (pe_lc (own := [("k", 2)]) (g := gName 2) (tt := tB (tDNotIn (tOp (rIxT K) (tOp (rIxL K) (tVar 0) (tVar 2)) (tC (.int 2))) (tVar 1))) (te := tVar 2) rfl scLOu.nd (pi_list (pe_callH G2 hr (by rfl) pass0 (pa_cons (pv 0) pa_nil))) (blkOk_by (N := ["rows", "spots", "k"]) (sc := defScope sLOu) (by decide +kernel)) (fun _ _ _ _ _ => pg_name (i := 2) scLOu.nd rfl (.inl rfl)) (fun _ _ _ _ _ => pts_one (pt_cmp (pc_dnotin hu (pe_ix ix_tup (pe_ix ix_list (pv 0) (pv 2) (fun _ _ => rfl)) pe_int (fun _ _ => rfl)) (pv 1)))) (fun _ _ _ _ _ => (pv 2)))))), ?_⟩
    refine ⟨_, rfl, L, xs, rs, rfl, hR, fun H1 d s1 hdn hd => ?_⟩
    refine ⟨_, rfl, L, xs, rs, rfl, hR.same s1, fun H2 B s2 hBn hB => ?_⟩
    have hR2 := hR.same (s1.trans s2)
    refine ⟨B, rfl, ⟨_, SqL.of hB⟩, fun D hD => ?_⟩
    have hd2 := s2 _ _ hd
    have sk : ∀ {H4 : Hp}, (∀ c o, c ≠ D → H2 c = some o → H4 c = some o) → Same H2 H4 := fun kp c o e => kp c o (ne_of_none e hD) e
    refine lc_it walk_list (fun i H4 => (∀ c o, c ≠ D → H2 c = some o → H4 c = some o) ∧ H4 D = some (.lst (nats (((brs rs).take i).filter fun k => (aim rs k).isNone)))) ⟨fun c o hc e => by rw [upd_ne hc]; exact e, upd_same⟩ (fun i H4 _ ⟨kp, _⟩ => SqL.of (sk kp _ _ hB)) ?_ ?_
    · rintro i x H4 H4' hi ⟨kp, hD4⟩ ⟨rfl, hx⟩
      have s4 := sk kp
      obtain ⟨k, hk, rfl⟩ := nats_get hx
      have hR4 := hR2.same s4
      obtain ⟨a, c, n, m, hxa, hta, hto, hkl⟩ := br_at hR4.rows (List.mem_of_getElem? hk)
      refine ⟨rfl, _, rfl, _, rfl, L, _, _, _, rfl, rfl, hR4.lst, at_of hxa, a, _, _, _, rfl, rfl, hta, at_of (i := 2) rfl, _, rfl, d, _, rfl, DGet.k (k := Sum.inr n) (s4 _ _ hd2), _, rfl, ?_⟩
      have ev : (!(valV (spD rs rs.length) (Sum.inr n)).isSome) = (aim rs k).isNone := by
        have : valV (spD rs rs.length) (Sum.inr n) = spV rs n := rfl
        rw [this, spot_spV, aim_of hto]
        cases spot rs n <;> rfl
      rw [ev]
      have tk : (brs rs).take (i + 1) = (brs rs).take i ++ [k] := by
        rw [List.take_add_one, hk]
        rfl
      have bl := brs_len rs
      have hl := hR.len
      rw [tk, List.filter_append]
      cases c9 : (aim rs k).isNone with
      | true =>
        refine iteT ⟨_, rfl, _, hD4, ?_, fun c o hc e => ?_, ?_⟩
        · rw [nats_len]
          have h1 : (((brs rs).take i).filter fun k => (aim rs k).isNone).length ≤ ((brs rs).take i).length := List.length_filter_le _ _
          have h2 : ((brs rs).take i).length ≤ (brs rs).length := by rw [List.length_take]; omega
          exact small1000 (by omega)
        · rw [upd_ne hc]
          exact kp c o hc e
        · rw [upd_same, nats_app]
          have : [k].filter (fun k => (aim rs k).isNone) = [k] := by simp [List.filter, c9]
          rw [this]
          rfl
      | false =>
        refine iteF ⟨kp, ?_⟩
        have : [k].filter (fun k => (aim rs k).isNone) = [] := by simp [List.filter, c9]
        rw [this, List.append_nil]
        exact hD4
    · rintro H4 ⟨kp, hD4⟩
      rw [nats_len, List.take_length] at hD4
      have s4 := (s1.trans s2).trans (sk kp)
      have hDn : H D = none := by
        cases e : H D with
        | none => rfl
        | some u => rw [(s1.trans s2) _ _ e] at hD; cases hD
      exact q H4 D s4 hDn hD4
theorem ok_lbe {f : Addr} {fd : FuncData} (F : Fun K "_law_begins" "_law_begins" sLBe f fd) (T : Bi mg) : FnOk P w K mg base CX0 1 f fd ["rows", "far"] (spLBe K) := by
  refine F.ok scLBe (fun vs H Q E h => ?_) (fun cdv A outer s H vs Q E hr h => ?_)
  · obtain ⟨L, l, xs, rs, ns, rfl, _⟩ := h
    rfl
  · obtain ⟨L, l, xs, rs, ns, rfl, hR, nE, hl, q⟩ := h
    refine ⟨_, (pss_cons (ps_set (i := 2) scLBe.nd rfl (.inl rfl) (pe_lst (pa_cons pe_int pa_nil)))
      (pss_cons (ps_for PassesOwn.never rfl (pi_enum (by rfl) T.enumerate (pa_cons (pv 0) pa_nil)) (pg_tup rfl (pgs_cons (pg_name (i := 3) scLBe.nd rfl (.inl rfl)) (pgs_cons (pg_name (i := 4) scLBe.nd rfl (.inl rfl)) pgs_nil))) (pss_cons (ps_set (i := 5) scLBe.nd rfl (.inl rfl) pe_int)
        (pss_cons (ps_if (pt_cmpR op_eq (pe_ix ix_tup (pv 4) pe_int (fun _ _ => rfl)) pe_str (nomark _)) (pss_one (ps_set (i := 5) scLBe.nd rfl (.inl rfl) (pe_callB call_len_seq (by rfl) T.len (by decide +kernel) (pa_cons (pe_ix ix_tup (pv 4) pe_int (fun _ _ => rfl)) pa_nil)))) (pss_one (ps_if (pt_cmpR op_eq (pe_ix ix_tup (pv 4) pe_int (fun _ _ => rfl)) pe_str (nomark _)) (pss_one (ps_set (i := 5) scLBe.nd rfl (.inl rfl) (pe_op op_mod (pe_op op_sub (pe_ix ix_tup (pv 4) pe_int (fun _ _ => rfl)) (pe_op op_mod (pe_ix ix_list (pv 2) (pe_un un_neg pe_int) (fun _ _ => rfl)) (pe_ix ix_tup (pv 4) pe_int (fun _ _ => rfl)))) (pe_ix ix_tup (pv 4) pe_int (fun _ _ => rfl))))) (pss_one (ps_if (pt_cmpR op_eq (pe_ix ix_tup (pv 4) pe_int (fun _ _ => rfl)) pe_str (nomark _)) (pss_one (ps_set (i := 5) scLBe.nd rfl (.inl rfl) (pe_op op_add pe_int (pe_callTy call_int1 (by rfl) T.int (by decide +kernel) (pa_cons (pe_cmpR op_in_seq (pv 3) (pv 1) (by rfl)) pa_nil))))) pss_nil)))))
        (pss_one (ps_expr (pe_bm PySem.F.plainAttrs_list PySem.F.slot_list_append PySem.F.type_list_append mt_append (pv 2) (pa_cons (pe_op op_add (pe_ix ix_list (pv 2) (pe_un un_neg pe_int) (fun _ _ => rfl)) (pv 5)) pa_nil)))))))
      (pss_one (ps_ret (pv 2))))), ?_⟩
    refine ⟨(by show 1 ≤ sizeLine; decide), fun p hp => ?_⟩
    refine ⟨_, rfl, L, xs, rfl, (hR.same (same_new hp)).lst, ?_⟩
    have lx := rowsV_len hR.rows
    have hlen := hR.len
    refine for_it walk_enum (fun i σ H4 => ∃ (a b c : Option V), σ = [some (.ref L), some (.ref l), some (.ref p), a, b, c] ∧ Same H H4 ∧ H4 p = some (.lst (offTo (mem ns) rs i))) ⟨none, none, none, rfl, same_new hp, upd_same⟩ (fun i σ H4 _ ⟨_, _, _, _, sm, _⟩ => (hR.same sm).lst) ?_ ?_
    · rintro i x σ H4 H4' hi ⟨a, b, c, rfl, sm, hp4⟩ ⟨TT, x', y, rfl, hT, rfl, hx', hy⟩
      cases hx'
      have sm5 : Same H4 (upd H4 TT (.tup [.int (i : Nat), y])) := same_new hT
      obtain ⟨r, hri, hrv⟩ := rowsV_get hR.rows hy
      have hrv5 := rowV_same (sm.trans sm5) hrv
      have hp5 := sm5 _ _ hp4
      have hi' : i < rs.length := by omega
      have s5 := sm.trans sm5
      refine ⟨TT, _, rfl, SqT.of upd_same, rfl, _, _, rfl, _, _, rfl, rfl, ?_⟩
      cases r with
      | words n =>
        obtain ⟨a, b, rfl, h2, zz, hz, hzl⟩ := hrv5
        refine ⟨_, rfl, a, _, _, _, rfl, rfl, h2, at_of (i := 0) rfl, rfl, _, rfl, kEq (by decide +kernel) ⟨_, rfl, a, _, _, _, rfl, rfl, h2, at_of (i := 1) rfl, b, zz, rfl, hz, ?_⟩⟩
        refine ⟨_, rfl, .inl ⟨rfl, _, SqL.of hp5⟩, _, rfl, _, rfl, p, _, _, _, rfl, rfl, SqL.of hp5, offTo_last _ _ _, _, rfl, _, _, rfl, rfl, p, _, _, rfl, rfl, hp5, ?_, _, _, _, rfl, same_upd s5 hp, ?_⟩
        · rw [offTo_len]
          exact small1000 (by omega)
        · rw [upd_same, offTo_succ, off_succ hri]
          rw [hzl]
          rfl
      | label z =>
        obtain ⟨a, rfl, h2⟩ := hrv5
        refine ⟨_, rfl, a, _, _, _, rfl, rfl, h2, at_of (i := 0) rfl, rfl, _, rfl, kNe (by decide +kernel) ⟨_, rfl, a, _, _, _, rfl, rfl, h2, at_of (i := 0) rfl, rfl, _, rfl, kNe (by decide +kernel) ⟨_, rfl, a, _, _, _, rfl, rfl, h2, at_of (i := 0) rfl, rfl, _, rfl, kNe (by decide +kernel) ?_⟩⟩⟩
        refine ⟨_, rfl, .inl ⟨rfl, _, SqL.of hp5⟩, _, rfl, _, rfl, p, _, _, _, rfl, rfl, SqL.of hp5, offTo_last _ _ _, _, rfl, _, _, rfl, rfl, p, _, _, rfl, rfl, hp5, ?_, _, _, _, rfl, same_upd s5 hp, ?_⟩
        · rw [offTo_len]
          exact small1000 (by omega)
        · rw [upd_same, offTo_succ, off_succ hri]
          rfl
      | even n =>
        obtain ⟨a, rfl, h2⟩ := hrv5
        have hpos : 0 < n := nE _ (List.mem_of_getElem? hri)
        refine ⟨_, rfl, a, _, _, _, rfl, rfl, h2, at_of (i := 0) rfl, rfl, _, rfl, kNe (by decide +kernel) ⟨_, rfl, a, _, _, _, rfl, rfl, h2, at_of (i := 0) rfl, rfl, _, rfl, kEq (by decide +kernel) ?_⟩⟩
        refine ⟨_, rfl, a, _, _, _, rfl, rfl, h2, at_of (i := 1) rfl, _, rfl, _, rfl, p, _, _, _, rfl, rfl, SqL.of hp5, offTo_last _ _ _, _, rfl, a, _, _, _, rfl, rfl, h2, at_of (i := 1) rfl, _, _, rfl, rfl, hpos, _, _, rfl, rfl, _, rfl, a, _, _, _, rfl, rfl, h2, at_of (i := 1) rfl, _, _, rfl, rfl, hpos, ?_⟩
        refine ⟨_, rfl, .inl ⟨rfl, _, SqL.of hp5⟩, _, rfl, _, rfl, p, _, _, _, rfl, rfl, SqL.of hp5, offTo_last _ _ _, _, rfl, _, _, rfl, rfl, p, _, _, rfl, rfl, hp5, ?_, _, _, _, rfl, same_upd s5 hp, ?_⟩
        · rw [offTo_len]
          exact small1000 (by omega)
        · rw [upd_same, offTo_succ, off_succ hri, even_mod]
          rfl
      | branch c n m =>
        obtain ⟨a, rfl, h2⟩ := hrv5
        refine ⟨_, rfl, a, _, _, _, rfl, rfl, h2, at_of (i := 0) rfl, rfl, _, rfl, kNe (by decide +kernel) ⟨_, rfl, a, _, _, _, rfl, rfl, h2, at_of (i := 0) rfl, rfl, _, rfl, kNe (by decide +kernel) ⟨_, rfl, a, _, _, _, rfl, rfl, h2, at_of (i := 0) rfl, rfl, _, rfl, kEq (by decide +kernel) ?_⟩⟩⟩
        refine ⟨_, rfl, _, rfl, l, _, rfl, hl.imp (sqL_same s5) (sqT_same s5), rfl, flat_ints ns, .inr ⟨_, rfl, _, _, rfl, rfl, ?_⟩⟩
        refine ⟨_, rfl, .inl ⟨rfl, _, SqL.of hp5⟩, _, rfl, _, rfl, p, _, _, _, rfl, rfl, SqL.of hp5, offTo_last _ _ _, _, rfl, _, _, rfl, rfl, p, _, _, rfl, rfl, hp5, ?_, _, _, _, rfl, same_upd s5 hp, ?_⟩
        · rw [offTo_len]
          exact small1000 (by omega)
        · rw [upd_same, offTo_succ, off_succ hri]
          have e : inV (.int (i : Nat)) (ns.map V.int) = mem ns (i : Nat) := inV_ints _ _
          have e2 : (if false = true then !inV (V.int (i : Nat)) (ns.map V.int) else inV (V.int (i : Nat)) (ns.map V.int)) = mem ns (i : Nat) := e
          rw [e2]
          cases mem ns (i : Nat) <;> rfl
    · rintro σ H4 ⟨a, b, c, rfl, sm, hp4⟩
      rw [lx] at hp4
      exact ⟨_, rfl, q H4 p sm hp hp4⟩
end

abbrev sLWa : Stmt := topS 47
abbrev sLLo : Stmt := topS 48
theorem scLWa : FnScope ["rows", "far", "begins", "spots", "inner", "k"] ["rows", "far"] (defScope sLWa) := ⟨rfl, rfl, rfl, by decide +kernel, rfl, by decide +kernel, by decide +kernel⟩
theorem scLLo : FnScope ["rows", "far", "gaps", "k"] ["rows", "far"] (defScope sLLo) := ⟨rfl, rfl, rfl, by decide +kernel, rfl, by decide +kernel, by decide +kernel⟩
def wayD (f : Int → Bool) (rs : List Row) : List (Key × V) := mapD (fun k => .int (way f rs k)) (inn rs)
def spLWa (K : PySem.W.Frag) : Sp := fun vs H Q _ => ∃ (L l : Addr) (xs : List V) (rs : List Row) (ns : List Int), vs = [.ref L, .ref l] ∧ LRows K H L xs rs ∧ (∀ r ∈ rs, RowOk r) ∧ (SqL K H l (ns.map V.int) ∨ SqT K H l (ns.map V.int)) ∧ ∀ H' p, Same H H' → H p = none → H' p = some (.dK (wayD (mem ns) rs)) → Q (.ref p) H'
def spLLo (K : PySem.W.Frag) : Sp := fun vs H Q _ => ∃ (L l : Addr) (xs : List V) (rs : List Row) (ns : List Int), vs = [.ref L, .ref l] ∧ LRows K H L xs rs ∧ (∀ r ∈ rs, RowOk r) ∧ (SqL K H l (ns.map V.int) ∨ SqT K H l (ns.map V.int)) ∧ ∀ H' p, Same H H' → H p = none → H' p = some (.lst (nats (long (mem ns) rs))) → Q (.ref p) H'
theorem merge_mapD (g : Nat → V) : ∀ (ks js : List Nat), (js ++ ks).Nodup → mergeK (mapD g js) (mapD g ks) = mapD g (js ++ ks)
  | [], js, _ => by rw [List.append_nil]; rfl
  | k :: ks, js, nd => by
    have e : mergeK (mapD g js) (mapD g (k :: ks)) = mergeK (putK (mapD g js) (Sum.inl (k : Int)) (g k)) (mapD g ks) := rfl
    have hk : k ∉ js := fun z => by
      have := (List.nodup_append.mp nd).2.2 k z k (by simp)
      exact this rfl
    have ep : putK (mapD g js) (Sum.inl (k : Int)) (g k) = mapD g (js ++ [k]) := by
      have hv : valV (mapD g js) (Sum.inl (k : Int)) = none := by rw [mapD_val, if_neg hk]
      rw [putK_new _ hv]
      unfold mapD
      rw [List.map_append]
      rfl
    rw [e, ep, merge_mapD g ks (js ++ [k]) (by rw [List.append_assoc]; exact nd), List.append_assoc]
    rfl
theorem inn_at {K : PySem.W.Frag} {H : Hp} {xs : List V} {rs : List Row} {k : Nat} (hrs : RowsV K H xs rs) (h : k ∈ inn rs) : ∃ (a : Addr) (c n : Str) (m : Int) (j : Nat), xs[k]? = some (.ref a) ∧ SqT K H a [.str "branch", .str c, .str n, .int m] ∧ spV rs n = some (.int (j : Nat)) ∧ aim rs k = some j ∧ j < rs.length ∧ k < rs.length := by
  rw [← brs_inn] at h
  obtain ⟨h1, h2⟩ := List.mem_filter.mp h
  obtain ⟨a, c, n, m, e1, e2, e3, e4⟩ := br_at hrs h1
  obtain ⟨j, ej⟩ := Option.isSome_iff_exists.mp h2
  have es := spot_spV rs n
  rw [← aim_of e3, ej] at es
  exact ⟨a, c, n, m, j, e1, e2, es, ej, (aim_lt ej).1, e4⟩
section
variable {P : Program} {w : World} {K : PySem.W.Frag} {mg : Str → Option Value} {base : Heap}
theorem ok_lwa {f : Addr} {fd : FuncData} (F : Fun K "_law_ways" "_law_ways" sLWa f fd) (T : Bi mg) (G1 : Has P w K mg base CX0 1 "_law_begins" ["rows", "far"] (spLBe K)) (G2 : Has P w K mg base CX0 1 "_law_spots" ["rows"] (spLSp K)) (G3 : Has P w K mg base CX0 1 "_law_branches" ["rows"] (spLBr K)) : FnOk P w K mg base CX0 2 f fd ["rows", "far"] (spLWa K) := by
  refine F.ok scLWa (fun vs H Q E h => ?_) (fun cdv A outer s H vs Q E hr h => ?_)
  · obtain ⟨L, l, xs, rs, ns, rfl, _⟩ := h
    rfl
  · obtain ⟨L, l, xs, rs, ns, rfl, hR, nE, hl, q⟩ := h
    have hu := hu_of hr
    refine ⟨_, (pss_cons (ps_asg (pe_tup (pa_cons (pe_callH G1 hr (by rfl) pass0 (pa_cons (pv 0) (pa_cons (pv 1) pa_nil))) (pa_cons (pe_callH G2 hr (by rfl) pass0 (pa_cons (pv 0) pa_nil)) pa_nil))) (pg_tup rfl (pgs_cons (pg_name (i := 2) scLWa.nd rfl (.inr rfl)) (pgs_cons (pg_name (i := 3) scLWa.nd rfl (.inr rfl)) pgs_nil))))
      (pss_cons (ps_setLc (i := 4) (own := [("k", 5)]) (g := gName 5) (tt := tB (tDIn (tOp (rIxT K) (tOp (rIxL K) (tVar 0) (tVar 5)) (tC (.int 2))) (tVar 3))) (te := tVar 5) rfl scLWa.nd rfl rfl (sw_true rfl rfl rfl (by decide +kernel)) (pi_list (pe_callH G3 hr (by rfl) pass0 (pa_cons (pv 0) pa_nil))) (blkOk_by (N := ["rows", "far", "begins", "spots", "inner", "k"]) (sc := defScope sLWa) (by decide +kernel)) (fun _ _ _ _ _ => pg_name (i := 5) scLWa.nd rfl (.inl rfl)) (fun _ _ _ _ _ => pts_one (pt_cmp (pc_din hu (pe_ix ix_tup (pe_ix ix_list (pv 0) (pv 5) (fun _ _ => rfl)) pe_int (fun _ _ => rfl)) (pv 3)))) (fun _ _ _ _ _ => (pv 5)))
      (pss_one (ps_ret (pe_callTy (call_dictP rfl) (by rfl) T.dict (by decide +kernel) (pa_cons (pe_lc (own := [("k", 5)]) (g := gName 5) (tt := tYes) (te := tTup (tCons (tVar 5) (tCons (tOp (rI0 fun i j => .int (i - j)) (tOp (rIxL K) (tVar 2) (tDGet (tVar 3) (tOp (rIxT K) (tOp (rIxL K) (tVar 0) (tVar 5)) (tC (.int 2))))) (tOp (rIxL K) (tVar 2) (tVar 5))) tNil))) rfl scLWa.nd (pi_list (pv 4)) (blkOk_by (N := ["rows", "far", "begins", "spots", "inner", "k"]) (sc := defScope sLWa) (by decide +kernel)) (fun _ _ _ _ _ => pg_name (i := 5) scLWa.nd rfl (.inl rfl)) (fun _ _ _ _ _ => pts_nil) (fun _ _ _ _ _ => (pe_tup (pa_cons (pv 5) (pa_cons (pe_op op_sub (pe_ix ix_list (pv 2) (pe_dget hu (pv 3) (pe_ix ix_tup (pe_ix ix_list (pv 0) (pv 5) (fun _ _ => rfl)) pe_int (fun _ _ => rfl)) (fun _ _ => rfl)) (fun _ _ => rfl)) (pe_ix ix_list (pv 2) (pv 5) (fun _ _ => rfl))) pa_nil))))) pa_nil)))))), ?_⟩
    refine ⟨_, rfl, _, rfl, L, l, xs, rs, ns, rfl, hR, nE, hl, fun H1 O s1 _ hO => ?_⟩
    refine ⟨_, rfl, L, xs, rs, rfl, hR.same s1, fun H2 S s2 _ hS => ⟨(by show 2 ≤ sizeLine; decide), fun p hp => ?_⟩⟩
    refine ⟨p, _, rfl, SqT.of upd_same, rfl, _, _, rfl, _, _, rfl, rfl, ?_⟩
    have s3 := same_new (o := .tup [V.ref O, V.ref S]) hp
    have s03 := (s1.trans s2).trans s3
    have hO3 := s3 _ _ (s2 _ _ hO)
    have hS3 := s3 _ _ hS
    generalize hH3 : upd H2 p (.tup [V.ref O, V.ref S]) = H3 at s3 s03 hO3 hS3
    refine ⟨_, rfl, L, xs, rs, rfl, hR.same s03, fun H4 B s4 _ hB => ⟨B, rfl, ⟨_, SqL.of hB⟩, fun D hD => ?_⟩⟩
    have hO4 := s4 _ _ hO3
    have hS4 := s4 _ _ hS3
    have s04 := s03.trans s4
    have bl := brs_len rs
    have hl9 := hR.len
    have sk : ∀ {H5 : Hp}, (∀ c o, c ≠ D → H4 c = some o → H5 c = some o) → Same H4 H5 := fun kp c o e => kp c o (ne_of_none e hD) e
    have hDn : H D = none := by
      cases e : H D with
      | none => rfl
      | some u => rw [s04 _ _ e] at hD; cases hD
    refine lc_it walk_list (fun i H5 => (∀ c o, c ≠ D → H4 c = some o → H5 c = some o) ∧ H5 D = some (.lst (nats (((brs rs).take i).filter fun k => (aim rs k).isSome)))) ⟨fun c o hc e => by rw [upd_ne hc]; exact e, upd_same⟩ (fun i H5 _ ⟨kp, _⟩ => SqL.of (sk kp _ _ hB)) ?_ ?_
    · rintro i x H5 H5' hi ⟨kp, hD5⟩ ⟨rfl, hx⟩
      have s5 := sk kp
      obtain ⟨k, hk, rfl⟩ := nats_get hx
      have hR5 := hR.same (s04.trans s5)
      obtain ⟨a, c, n, m, hxa, hta, hto, hkl⟩ := br_at hR5.rows (List.mem_of_getElem? hk)
      refine ⟨rfl, _, rfl, _, rfl, L, _, _, _, rfl, rfl, hR5.lst, at_of hxa, a, _, _, _, rfl, rfl, hta, at_of (i := 2) rfl, _, rfl, S, _, rfl, DGet.k (k := Sum.inr n) (s5 _ _ hS4), _, rfl, ?_⟩
      have ev : (valV (spD rs rs.length) (Sum.inr n)).isSome = (aim rs k).isSome := by
        have : valV (spD rs rs.length) (Sum.inr n) = spV rs n := rfl
        rw [this, spot_spV, aim_of hto]
        cases spot rs n <;> rfl
      rw [ev]
      have tk : (brs rs).take (i + 1) = (brs rs).take i ++ [k] := by
        rw [List.take_add_one, hk]
        rfl
      rw [tk, List.filter_append]
      cases c9 : (aim rs k).isSome with
      | true =>
        refine iteT ⟨_, rfl, _, hD5, ?_, fun c o hc e => ?_, ?_⟩
        · rw [nats_len]
          have h1 : (((brs rs).take i).filter fun k => (aim rs k).isSome).length ≤ ((brs rs).take i).length := List.length_filter_le _ _
          have h2 : ((brs rs).take i).length ≤ (brs rs).length := by rw [List.length_take]; omega
          exact small1000 (by omega)
        · rw [upd_ne hc]
          exact kp c o hc e
        · rw [upd_same, nats_app]
          have : [k].filter (fun k => (aim rs k).isSome) = [k] := by simp [List.filter, c9]
          rw [this]
          rfl
      | false =>
        refine iteF ⟨kp, ?_⟩
        have : [k].filter (fun k => (aim rs k).isSome) = [] := by simp [List.filter, c9]
        rw [this, List.append_nil]
        exact hD5
    · rintro H5 ⟨kp, hD5⟩
      rw [nats_len, List.take_length, brs_inn] at hD5
      have s5 := sk kp
      have s05 := s04.trans s5
      have il := inn_len rs
      refine ⟨_, rfl, D, rfl, ⟨_, SqL.of hD5⟩, fun E2 hE2 => ?_⟩
      have sk2 : ∀ {H6 : Hp}, (∀ c o, c ≠ E2 → H5 c = some o → H6 c = some o) → Same H5 H6 := fun kp c o e => kp c o (ne_of_none e hE2) e
      refine lc_it walk_list (fun i H6 => (∀ c o, c ≠ E2 → H5 c = some o → H6 c = some o) ∧ ∃ ps : List Addr, H6 E2 = some (.lst (ps.map V.ref)) ∧ Paired (fun p kv => SqT K H6 p [kV kv.1, kv.2]) ps (mapD (fun k => .int (way (mem ns) rs k)) ((inn rs).take i))) ⟨fun c o hc e => by rw [upd_ne hc]; exact e, [], upd_same, .nil⟩ (fun i H6 _ ⟨kp, _⟩ => SqL.of (sk2 kp _ _ hD5)) ?_ ?_
      · rintro i x H6 H6' hi ⟨kp2, ps, hE6, hps⟩ ⟨rfl, hx⟩
        have s6 := sk2 kp2
        obtain ⟨k, hk, rfl⟩ := nats_get hx
        have hR6 := hR.same (s05.trans s6)
        obtain ⟨a, c, n, m, j, hxa, hta, hsp, hai, hjl, hkl⟩ := inn_at hR6.rows (List.mem_of_getElem? hk)
        have hO6 := s6 _ _ (s5 _ _ hO4)
        have hS6 := s6 _ _ (s5 _ _ hS4)
        have hg : DGet H6' S (.str n) (some (.int (j : Nat))) := by
          have := DGet.k (k := Sum.inr n) hS6
          rw [show valV (spD rs rs.length) (Sum.inr n) = some (.int (j : Nat)) from hsp] at this
          exact this
        have tk : (inn rs).take (i + 1) = (inn rs).take i ++ [k] := by
          rw [List.take_add_one, hk]
          rfl
        have pl : ps.length ≤ i := by
          rw [hps.length, mapD_len, List.length_take]
          omega
        have hi2 : i < (inn rs).length := (List.getElem?_eq_some_iff.mp hk).1
        refine ⟨rfl, yes_go (iteT ⟨_, rfl, _, rfl, _, rfl, _, rfl, _, rfl, L, _, _, _, rfl, rfl, hR6.lst, at_of hxa, a, _, _, _, rfl, rfl, hta, at_of (i := 2) rfl, S, _, rfl, hg, O, _, _, _, rfl, rfl, SqL.of hO6, offTo_at (by omega), _, rfl, _, rfl, O, _, _, _, rfl, rfl, SqL.of hO6, offTo_at (by omega), _, _, rfl, rfl, (by show 2 ≤ sizeLine; decide), fun p4 hp4 => ?_⟩)⟩
        have s7 := same_new (o := .tup [V.int (k : Nat), V.int (off (mem ns) rs j - off (mem ns) rs k)]) hp4
        refine ⟨_, s7 _ _ hE6, ?_, fun c o hc e => ?_, ps ++ [p4], ?_, ?_⟩
        · rw [List.length_map]
          exact small1000 (by omega)
        · rw [upd_ne hc]
          exact s7 _ _ (kp2 c o hc e)
        · rw [upd_same, List.map_append]
          rfl
        · rw [tk]
          have e9 : mapD (fun k => V.int (way (mem ns) rs k)) ((inn rs).take i ++ [k]) = mapD (fun k => V.int (way (mem ns) rs k)) ((inn rs).take i) ++ [(Sum.inl ((k : Nat) : Int), V.int (way (mem ns) rs k))] := by
            unfold mapD
            rw [List.map_append]
            rfl
          rw [e9]
          refine Paired.snoc (hps.mono fun p kv h => sqT_put (sqT_same s7 h) (s7 _ _ hE6) trivial) ?_
          have ew : way (mem ns) rs k = off (mem ns) rs j - off (mem ns) rs k := by
            unfold way
            rw [hai]
            rfl
          show SqT K _ p4 [V.int (k : Nat), V.int (way (mem ns) rs k)]
          rw [ew]
          exact sqT_put (SqT.of upd_same) (s7 _ _ hE6) trivial
      · rintro H6 ⟨kp2, ps, hE6, hps⟩
        have s6 := sk2 kp2
        rw [nats_len, List.take_length] at hps
        refine ⟨E2, ps, _, rfl, SqL.of hE6, hps, fun p9 hp9 => ?_⟩
        have em : mergeK [] (mapD (fun k => V.int (way (mem ns) rs k)) (inn rs)) = wayD (mem ns) rs := merge_mapD _ (inn rs) [] (by rw [List.nil_append]; exact inn_nodup rs)
        rw [em]
        have s06 := s05.trans s6
        have hpn : H p9 = none := by
          cases e : H p9 with
          | none => rfl
          | some u => rw [s06 _ _ e] at hp9; cases hp9
        exact q _ p9 (s06.trans (same_new hp9)) hpn upd_same
end

section
variable {P : Program} {w : World} {K : PySem.W.Frag} {mg : Str → Option Value} {base : Heap}
theorem ok_llo {f : Addr} {fd : FuncData} (F : Fun K "_law_long" "_law_long" sLLo f fd) (T : Bi mg) (G1 : Has P w K mg base CX0 2 "_law_ways" ["rows", "far"] (spLWa K)) : FnOk P w K mg base CX0 3 f fd ["rows", "far"] (spLLo K) := by
  refine F.ok scLLo (fun vs H Q E h => ?_) (fun cdv A outer s H vs Q E hr h => ?_)
  · obtain ⟨L, l, xs, rs, ns, rfl, _⟩ := h
    rfl
  · obtain ⟨L, l, xs, rs, ns, rfl, hR, nE, hl, q⟩ := h
    have hu := hu_of hr
    refine ⟨_, (pss_cons (ps_set (i := 2) scLLo.nd rfl (.inr rfl) (pe_callH G1 hr (by rfl) pass0 (pa_cons (pv 0) (pa_cons (pv 1) pa_nil))))
      (pss_one (ps_ret (pe_lock (pe_lc (own := [("k", 3)]) (g := gName 3) (tt := tAnd (tTest (tOp (rIn K true) (tVar 3) (tVar 1))) (tOr (tTest (tOp (rI0 fun i j => .bl (decide (i < j))) (tDGet (tVar 2) (tVar 3)) (tUn (rU fun i => .int (-i)) (tC (.int 256))))) (tTest (tOp (rI0 fun i j => .bl (decide (j < i))) (tDGet (tVar 2) (tVar 3)) (tC (.int 255)))))) (te := tVar 3) rfl scLLo.nd (pi_keys (pv 2)) (blkOk_by (N := ["rows", "far", "gaps", "k"]) (sc := defScope sLLo) (by decide +kernel)) (fun _ _ _ _ _ => pg_name (i := 3) scLLo.nd rfl (.inl rfl))
        (fun _ _ _ _ _ => pts_one (PW.pt (pw_and (pt_cmpR op_notIn_seq (pv 3) (pv 1) (by rfl)) (pw_and1 (PW.pt (pw_or (pt_cmpR op_lt (pe_dget hu (pv 2) (pv 3) (fun _ _ => rfl)) (pe_un un_neg pe_int) (nomark _)) (pw_or1 (pt_cmpR op_gt (pe_dget hu (pv 2) (pv 3) (fun _ _ => rfl)) pe_int (nomark _))))))))) (fun _ _ _ _ _ => (pv 3))))))), ?_⟩
    refine ⟨_, rfl, _, rfl, L, l, xs, rs, ns, rfl, hR, nE, hl, fun H0 d s0 hdn hd => ?_⟩
    refine ⟨d, _, hd, trivial, fun od => ⟨_, rfl, d, od, rfl, .inl ⟨_, upd_same, fun D hD => ?_⟩⟩⟩
    have hDd : D ≠ d := by
      intro z
      rw [z, upd_same] at hD
      cases hD
    have hDn : H0 D = none := by
      rw [upd_ne hDd] at hD
      exact hD
    refine lc_it walk_keys (fun i H1 => (∀ b o, b ≠ D → upd H0 d (.frz od (.dK (wayD (mem ns) rs))) b = some o → H1 b = some o) ∧ H1 D = some (.lst (nats (((inn rs).take i).filter (isLong (mem ns) rs)))))
      ⟨fun b o hb e => by rw [upd_ne hb]; exact e, upd_same⟩ (fun i H1 _ ⟨kp, _⟩ => kp _ _ hDd.symm upd_same) ?_ ?_
    · rintro i x H1 H1' hi ⟨kp, hD1⟩ ⟨rfl, k, v, hk, rfl⟩
      obtain ⟨kk, hkk, hk2⟩ : ∃ kk, (inn rs)[i]? = some kk ∧ (k, v) = (Sum.inl (kk : Int), V.int (way (mem ns) rs kk)) := by
        unfold wayD mapD at hk
        rw [List.getElem?_map] at hk
        cases e : (inn rs)[i]? with
        | none => rw [e] at hk; cases hk
        | some kk =>
          rw [e] at hk
          exact ⟨kk, rfl, (Option.some.inj hk).symm⟩
      cases hk2
      have hmem := List.mem_of_getElem? hkk
      have hd1 : H1' d = some (.frz od (.dK (wayD (mem ns) rs))) := kp _ _ hDd.symm upd_same
      have keepR : ∀ {u : HO}, (∀ kv, u ≠ .dK kv) → Rd H0 l u → Rd H1' l u := fun {u} nd h => by
        rcases h with h | ⟨o, h⟩
        · refine .inl (kp _ _ (ne_of_none h hDn) ?_)
          rw [upd_ne (ne_of h hd (nd _))]
          exact h
        · refine .inr ⟨o, kp _ _ (ne_of_none h hDn) ?_⟩
          rw [upd_ne (ne_of h hd (by intro z; cases z))]
          exact h
      have hl1 : SqL K H1' l (ns.map V.int) ∨ SqT K H1' l (ns.map V.int) := by
        rcases hl with hl | hl
        · rcases sqL_same s0 hl with hq | hq
          · exact .inl (.inl (keepR (by intro kv z; cases z) hq))
          · exact .inl (.inr hq)
        · rcases sqT_same s0 hl with hq | hq
          · exact .inr (.inl (keepR (by intro kv z; cases z) hq))
          · exact .inr (.inr hq)
      have hg : DGet H1' d (.int (kk : Nat)) (some (.int (way (mem ns) rs kk))) := by
        refine .inl ⟨wayD (mem ns) rs, Sum.inl (kk : Int), .inr ⟨od, hd1⟩, rfl, ?_⟩
        unfold wayD
        rw [mapD_val, if_pos hmem]
      have tk : (inn rs).take (i + 1) = (inn rs).take i ++ [kk] := by
        rw [List.take_add_one, hkk]
        rfl
      have end1 : isLong (mem ns) rs kk = true → ∃ acc, H1' D = some (.lst acc) ∧ acc.length < sizeLine ∧ ((∀ b o, b ≠ D → upd H0 d (.frz od (.dK (wayD (mem ns) rs))) b = some o → upd H1' D (.lst (acc ++ [V.int (kk : Int)])) b = some o) ∧ upd H1' D (.lst (acc ++ [V.int (kk : Int)])) D = some (.lst (nats (((inn rs).take (i + 1)).filter (isLong (mem ns) rs))))) := by
        intro hlg
        refine ⟨_, hD1, ?_, fun b o hb e => ?_, ?_⟩
        · rw [nats_len]
          have h1 : (((inn rs).take i).filter (isLong (mem ns) rs)).length ≤ ((inn rs).take i).length := List.length_filter_le _ _
          have h2 : ((inn rs).take i).length ≤ (inn rs).length := by rw [List.length_take]; omega
          have h3 := inn_len rs
          have h4 := hR.len
          exact small1000 (by omega)
        · rw [upd_ne hb]
          exact kp b o hb e
        · rw [upd_same, tk, List.filter_append, nats_app]
          have z : [kk].filter (isLong (mem ns) rs) = [kk] := by simp [List.filter, hlg]
          rw [z]
          rfl
      have end0 : isLong (mem ns) rs kk = false → (∀ b o, b ≠ D → upd H0 d (.frz od (.dK (wayD (mem ns) rs))) b = some o → H1' b = some o) ∧ H1' D = some (.lst (nats (((inn rs).take (i + 1)).filter (isLong (mem ns) rs)))) := by
        intro hlg
        refine ⟨kp, ?_⟩
        rw [tk, List.filter_append]
        have z : [kk].filter (isLong (mem ns) rs) = [] := by simp [List.filter, hlg]
        rw [z, List.append_nil]
        exact hD1
      refine ⟨rfl, _, rfl, _, rfl, l, _, rfl, hl1, rfl, flat_ints ns, _, rfl, ?_⟩
      show if (!inV (.int (kk : Int)) (ns.map V.int)) = true then _ else _
      rw [inV_ints]
      have em : decide ((kk : Int) ∈ ns) = mem ns (kk : Int) := rfl
      rw [em]
      unfold isLong tooL at end1 end0
      cases c : mem ns (kk : Int) with
      | true =>
        rw [c] at end0
        exact iteF (iteF (end0 rfl))
      | false =>
        rw [c] at end0 end1
        refine iteT ⟨_, rfl, _, rfl, d, _, rfl, hg, _, rfl, _, _, rfl, rfl, _, rfl, ?_⟩
        cases c2 : decide (way (mem ns) rs kk < -256) with
        | true =>
          rw [c2] at end1
          exact iteT (iteT ⟨_, rfl, end1 rfl⟩)
        | false =>
          rw [c2] at end0 end1
          refine iteF ⟨_, rfl, _, rfl, d, _, rfl, hg, _, _, rfl, rfl, _, rfl, ?_⟩
          cases c3 : decide (255 < way (mem ns) rs kk) with
          | true =>
            have c3' : decide (way (mem ns) rs kk > 255) = true := c3
            rw [c3'] at end1
            exact iteT ⟨_, rfl, end1 rfl⟩
          | false =>
            have c3' : decide (way (mem ns) rs kk > 255) = false := c3
            rw [c3'] at end0
            exact iteF (end0 rfl)
    · rintro H1 ⟨kp, hD1⟩
      have tl : (inn rs).take (wayD (mem ns) rs).length = inn rs := by
        unfold wayD
        rw [mapD_len]
        exact List.take_length
      rw [tl] at hD1
      have hd1 : H1 d = some (.frz od (.dK (wayD (mem ns) rs))) := kp _ _ hDd.symm upd_same
      refine ⟨hd1, q _ D (s0.trans (same_unlock hd hDn kp)) ?_ ?_⟩
      · cases e : H D with
        | none => rfl
        | some o => rw [s0 _ _ e] at hDn; cases hDn
      · rw [upd_ne hDd]
        exact hD1
end

abbrev sSame : Stmt := topS 41
theorem scSame : FnScope ["found", "due", "u", "v"] ["found", "due"] (defScope sSame) := ⟨rfl, rfl, rfl, by decide +kernel, rfl, by decide +kernel, by decide +kernel⟩
theorem smallB {n : Nat} (h : n ≤ 200000) : n < sizeLine := Nat.lt_of_le_of_lt h (by decide)
/-- two values that are held to be the same; d tells their kind -/
inductive SmR (K : PySem.W.Frag) (R : Hp → V → V → Prop) (H : Hp) : V → V → PyData → Prop
  | non : SmR K R H .non .non .none
  | int (i : Int) : SmR K R H (.int i) (.int i) (.int 0)
  | bl (b : Bool) : SmR K R H (.bl b) (.bl b) (.bool true)
  | str (z : Str) : SmR K R H (.str z) (.str z) (.str "a")
  | dct {a : Addr} : H a = some (.dK []) → SmR K R H (.ref a) (.ref a) (.dict [])
  | lst {a b : Addr} {xs ys : List V} : SqL K H a xs → SqL K H b ys → xs.length = ys.length → xs.length ≤ 200000 → (∀ H', Same H H' → ∀ (i : Nat) x y, xs[i]? = some x → ys[i]? = some y → R H' x y) → SmR K R H (.ref a) (.ref b) (.list [])
  | tup {a b : Addr} {xs ys : List V} : SqT K H a xs → SqT K H b ys → xs.length = ys.length → xs.length ≤ 200000 → (∀ H', Same H H' → ∀ (i : Nat) x y, xs[i]? = some x → ys[i]? = some y → R H' x y) → SmR K R H (.ref a) (.ref b) (.tuple [])
theorem SmR.same {K : PySem.W.Frag} {R : Hp → V → V → Prop} {H H' : Hp} {v u : V} {d : PyData} (e : Same H H') (h : SmR K R H v u d) : SmR K R H' v u d := by
  cases h with
  | non => exact .non
  | int i => exact .int i
  | bl b => exact .bl b
  | str z => exact .str z
  | dct h => exact .dct (e _ _ h)
  | lst h1 h2 h3 h4 h5 => exact .lst (sqL_same e h1) (sqL_same e h2) h3 h4 fun H2 e2 => h5 H2 (e.trans e2)
  | tup h1 h2 h3 h4 h5 => exact .tup (sqT_same e h1) (sqT_same e h2) h3 h4 fun H2 e2 => h5 H2 (e.trans e2)
theorem SmR.ty {K : PySem.W.Frag} {R : Hp → V → V → Prop} {H : Hp} {v u : V} {d : PyData} (h : SmR K R H v u d) : TyX K H v (.type (tyN d)) ∧ TyX K H u (.type (tyN d)) := by
  cases h with
  | non => exact ⟨.base .non, .base .non⟩
  | int i => exact ⟨.base (.int i), .base (.int i)⟩
  | bl b => exact ⟨.base (.bl b), .base (.bl b)⟩
  | str z => exact ⟨.base (.str z), .base (.str z)⟩
  | dct h => exact ⟨.base (.dK h), .base (.dK h)⟩
  | lst h1 h2 => exact ⟨ty_list h1, ty_list h2⟩
  | tup h1 h2 => exact ⟨ty_tup h1, ty_tup h2⟩
def SmRel (K : PySem.W.Frag) : Nat → Hp → V → V → Prop
  | 0 => fun _ _ _ => False
  | n + 1 => fun H v u => ∃ d, SmR K (SmRel K n) H v u d
def spSame (K : PySem.W.Frag) (n : Nat) : Sp := fun vs H Q _ => ∃ v u, vs = [v, u] ∧ SmRel K n H v u ∧ ∀ H', Same H H' → Q (.bl true) H'
abbrev gUV (K : PySem.W.Frag) : TG := gTup K 2 (gCons (gName 2) (gCons (gName 3) gNil))
section
variable {P : Program} {w : World} {K : PySem.W.Frag} {mg : Str → Option Value} {base : Heap}
theorem kit_list1 {K : PySem.W.Frag} (d : PyData) : PySem.W.kitOne K (.type (tyN d)) (.type "list") = some (tyN d == "list") := kit_ty (kb_list _ (tyN_mem d))
theorem kit_tup1 {K : PySem.W.Frag} (d : PyData) : PySem.W.kitOne K (.type (tyN d)) (.type "tuple") = some (tyN d == "tuple") := kit_ty (kb_tup _ (tyN_mem d))
theorem kit_lt {K : PySem.W.Frag} (d : PyData) : PySem.W.kitAny K (.type (tyN d)) [.type "int", .type "list", .type "tuple"] = some (isIB d || isR d) := by
  have h0 := kb_int _ (tyN_mem d)
  have h1 := kb_list _ (tyN_mem d)
  have h2 := kb_tup _ (tyN_mem d)
  refine kitAny_cons (kit_ty h0) (fun z0 => kitAny_cons (kit_ty h1) (fun z => kitAny_cons (kit_ty h2) (fun z2 => ?_) fun z2 => ?_) fun z => ?_) fun z0 => ?_
  all_goals
    try revert z0
    try revert z
    try revert z2
    cases d <;> simp [tyN, isR, isIB, kitAny_nil]
theorem same_core {J : It} {n m : Nat} {G : Hp → Prop} {xs ys : List V} {σ : L2.St} {H1 : Hp} {D : Addr} {Q : VK} {x0 x1 : Option V} (hσ : σ = [x0, x1, none, none])
    (wk : Walk J n G (YPair (fun i => xs[i]?) (fun i => ys[i]?))) (hn : n = xs.length) (hl : xs.length ≤ 200000) (rel : ∀ H', Same H1 H' → ∀ (i : Nat) x y, xs[i]? = some x → ys[i]? = some y → SmRel K m H' x y) (hG : ∀ H4, (∀ b o, b ≠ D → H1 b = some o → H4 b = some o) → G H4) (hD : H1 D = none)
    (q : ∀ H' p, Same H1 H' → H' p = some (.lst ((List.replicate xs.length true).map V.bl)) → Q (.ref p) H') : LcW J (gUV K) tYes (tCall (spSame K m) [] E00 (tCons (tVar 2) (tCons (tVar 3) tNil))) [2, 3] σ H1 D (fun H' => Q (.ref D) H') := by
  subst hσ
  refine lc_it wk (fun i H4 => (∀ b o, b ≠ D → H1 b = some o → H4 b = some o) ∧ H4 D = some (.lst ((List.replicate i true).map V.bl))) ⟨fun b o hb e => by rw [upd_ne hb]; exact e, by rw [upd_same]; rfl⟩ (fun i H4 _ ⟨kp, _⟩ => hG H4 kp) ?_ ?_
  · rintro i x H4 H4' hi ⟨kp, hD4⟩ ⟨TT, x', y', rfl, hT, rfl, hx', hy'⟩
    have s4 : Same H1 H4 := fun b o e => kp b o (ne_of_none e hD) e
    have s5 := s4.trans (same_new (o := .tup [x', y']) hT)
    refine ⟨TT, _, rfl, SqT.of upd_same, rfl, _, _, rfl, _, _, rfl, rfl, rfl, ?_⟩
    refine yes_go (iteT ⟨_, rfl, _, rfl, x', y', rfl, rel _ s5 i x' y' hx' hy', fun H5 s6 => ⟨_, s6 _ _ ((same_new (o := .tup [x', y']) hT) _ _ hD4), ?_, fun b o hb e => ?_, ?_⟩⟩)
    · rw [List.length_map, List.length_replicate]
      exact smallB (by omega)
    · rw [upd_ne hb]
      exact s6 _ _ ((same_new (o := .tup [x', y']) hT) _ _ (kp b o hb e))
    · rw [upd_same, List.replicate_succ', List.map_append]
      rfl
  · rintro H4 ⟨kp, hD4⟩
    rw [hn] at hD4
    exact q H4 D (fun b o e => kp b o (ne_of_none e hD) e) hD4
theorem rep_all (n : Nat) : (List.replicate n true).all id = true := by
  rw [List.all_eq_true]
  intro x hx
  rw [(List.mem_replicate.mp hx).2]
  rfl
theorem bb_ne {b : Bool} {A B : Prop} (h : B) : if (!decide (V.bl b = V.bl b)) = true then A else B := by
  rw [decide_eq_true rfl]
  exact h
theorem ok_same {f : Addr} {fd : FuncData} {n k : Nat} (F : Fun K "_law_same" "_law_same" sSame f fd) (T : Bi mg) (G : Has P w K mg base CX0 k "_law_same" ["found", "due"] (spSame K n)) : FnOk P w K mg base CX0 (k + 1) f fd ["found", "due"] (spSame K (n + 1)) := by
  refine F.ok scSame (fun vs H Q E h => ?_) (fun cdv A outer s H vs Q E hr h => ?_)
  · obtain ⟨v, u, rfl, _⟩ := h
    rfl
  · obtain ⟨v, u, rfl, ⟨d, sm⟩, q⟩ := h
    have huc : (A.deeper (envOfC "_law_same" (defScope sSame) s.heap.objs.size f cdv)).units < cLine := by
      have := hr.units
      omega
    have hu65' := hu65 hr
    refine ⟨_, (pss_cons (ps_if (pt_val (pe_callB call_isiT (by rfl) T.isinstance (by decide +kernel) (pa_cons (pv 1) (pa_cons (pe_tup (pa_cons (pe_bltn (v := .ty "list") (by rfl) T.list (by decide +kernel) rfl) (pa_cons (pe_bltn (v := .ty "tuple") (by rfl) T.tuple (by decide +kernel) rfl) pa_nil))) pa_nil)))) (pss_cons (ps_if (PW.pt (pw_or (pt_cmpR op_ne (pe_callB call_isi (by rfl) T.isinstance (by decide +kernel) (pa_cons (pv 0) (pa_cons (pe_bltn (v := .ty "list") (by rfl) T.list (by decide +kernel) rfl) pa_nil))) (pe_callB call_isi (by rfl) T.isinstance (by decide +kernel) (pa_cons (pv 1) (pa_cons (pe_bltn (v := .ty "list") (by rfl) T.list (by decide +kernel) rfl) pa_nil))) (nomark _)) (pw_or1 (pt_cmpR op_ne (pe_callB call_isi (by rfl) T.isinstance (by decide +kernel) (pa_cons (pv 0) (pa_cons (pe_bltn (v := .ty "tuple") (by rfl) T.tuple (by decide +kernel) rfl) pa_nil))) (pe_callB call_isi (by rfl) T.isinstance (by decide +kernel) (pa_cons (pv 1) (pa_cons (pe_bltn (v := .ty "tuple") (by rfl) T.tuple (by decide +kernel) rfl) pa_nil))) (nomark _))))) (pss_one (ps_ret pe_bl)) pss_nil)
      (pss_one (ps_ret (pe_and (pe_cmpR op_eq (pe_callB call_len_seq (by rfl) T.len (by decide +kernel) (pa_cons (pv 0) pa_nil)) (pe_callB call_len_seq (by rfl) T.len (by decide +kernel) (pa_cons (pv 1) pa_nil)) (nomark _)) (pe_one (pe_callB (cr_all rfl) (by rfl) T.all (by decide +kernel) (pa_cons (pe_lc (own := [("u", 2), ("v", 3)]) (g := gUV K) (tt := tYes) (te := tCall (spSame K n) [] E00 (tCons (tVar 2) (tCons (tVar 3) tNil))) rfl scSame.nd (RZ.pi_zipA (by rfl) T.zip (pa_cons (pv 0) (pa_cons (pv 1) pa_nil))) (blkOk_by (N := ["found", "due", "u", "v"]) (sc := defScope sSame) (by decide +kernel)) (fun _ _ _ _ _ => (pg_tup rfl (pgs_cons (pg_name (i := 2) scSame.nd rfl (.inl rfl) (.inr rfl)) (pgs_cons (pg_name (i := 3) scSame.nd rfl (.inl rfl) (.inr rfl)) pgs_nil)))) (fun _ _ _ _ _ => pts_nil) (fun _ _ _ _ _ => (pe_callH G hr (by rfl) pass0 (pa_cons (pv 2) (pa_cons (pv 3) pa_nil))))) pa_nil))))))) pss_nil)
      (pss_cons (ps_if (pt_val (pe_callB call_isi (by rfl) T.isinstance (by decide +kernel) (pa_cons (pv 1) (pa_cons (pe_bltn (v := .ty "int") (by rfl) T.int (by decide +kernel) rfl) pa_nil)))) (pss_one (ps_ret (pe_and (pe_callB call_isi (by rfl) T.isinstance (by decide +kernel) (pa_cons (pv 0) (pa_cons (pe_bltn (v := .ty "int") (by rfl) T.int (by decide +kernel) rfl) pa_nil))) (pe_and (pe_cmpR op_eq (pe_callB call_isi (by rfl) T.isinstance (by decide +kernel) (pa_cons (pv 0) (pa_cons (pe_bltn (v := .ty "bool") (by rfl) T.bool (by decide +kernel) rfl) pa_nil))) (pe_callB call_isi (by rfl) T.isinstance (by decide +kernel) (pa_cons (pv 1) (pa_cons (pe_bltn (v := .ty "bool") (by rfl) T.bool (by decide +kernel) rfl) pa_nil))) (nomark _)) (pe_one (pe_cmpR op_eq (pv 0) (pv 1) (nomark _))))))) pss_nil)
      (pss_one (ps_ret (pe_and (pe_cmpR op_isBl (pe_callB call_isiT (by rfl) T.isinstance (by decide +kernel) (pa_cons (pv 0) (pa_cons (pe_tup (pa_cons (pe_bltn (v := .ty "int") (by rfl) T.int (by decide +kernel) rfl) (pa_cons (pe_bltn (v := .ty "list") (by rfl) T.list (by decide +kernel) rfl) (pa_cons (pe_bltn (v := .ty "tuple") (by rfl) T.tuple (by decide +kernel) rfl) pa_nil)))) pa_nil))) pe_bl (nomark _)) (pe_one (pe_cmpR (op_eq.or (op_eq_dictA huc)) (pv 0) (pv 1) (nomark _)))))))), ?_⟩
    refine ⟨_, rfl, (by show 2 ≤ sizeLine; decide), fun p hp => ?_⟩
    have s1 := same_new (o := .tup [V.ty "list", V.ty "tuple"]) hp
    have sm1 := sm.same s1
    refine ⟨u, p, _, _, _, _, rfl, upd_same, .cons (.ty "list") (.cons (.ty "tuple") .nil), sm1.ty.2, kit_row d, _, rfl, ?_⟩
    generalize hH1 : upd H p (.tup [V.ty "list", V.ty "tuple"]) = H1 at s1 sm1
    have ways : (∃ (a b : Addr) (xs ys : List V), isR d = true ∧ v = .ref a ∧ u = .ref b ∧ ((SqL K H1 a xs ∧ SqL K H1 b ys) ∨ (SqT K H1 a xs ∧ SqT K H1 b ys)) ∧ xs.length = ys.length ∧ xs.length ≤ 200000 ∧ (∀ H', Same H1 H' → ∀ (i : Nat) x y, xs[i]? = some x → ys[i]? = some y → SmRel K n H' x y)) ∨ isR d = false := by
      cases sm1 with
      | lst h1 h2 h3 h4 h5 => exact .inl ⟨_, _, _, _, rfl, rfl, rfl, .inl ⟨h1, h2⟩, h3, h4, h5⟩
      | tup h1 h2 h3 h4 h5 => exact .inl ⟨_, _, _, _, rfl, rfl, rfl, .inr ⟨h1, h2⟩, h3, h4, h5⟩
      | _ => exact .inr rfl
    rcases ways with ⟨a, b, xs, ys, hR, rfl, rfl, hs, hlen, l9, rel⟩ | hR
    · rw [hR]
      obtain ⟨tv, tu⟩ := sm1.ty
      refine iteT ⟨_, rfl, .ref a, _, _, _, _, rfl, .ty "list", tv, kit_list1 d, _, rfl, .ref b, _, _, _, _, rfl, .ty "list", tu, kit_list1 d, rfl, _, rfl, ?_⟩
      refine bb_ne ⟨_, rfl, .ref a, _, _, _, _, rfl, .ty "tuple", tv, kit_tup1 d, _, rfl, .ref b, _, _, _, _, rfl, .ty "tuple", tu, kit_tup1 d, rfl, _, rfl, ?_⟩
      refine bb_ne ⟨_, rfl, a, xs, rfl, hs.elim (fun h => .inl h.1) (fun h => .inr h.1), _, rfl, b, ys, rfl, hs.elim (fun h => .inl h.2) (fun h => .inr h.2), rfl, _, rfl, ?_⟩
      rw [hlen, decide_eq_true rfl]
      have fin : ∀ H' p, Same H1 H' → H' p = some (.lst ((List.replicate xs.length true).map V.bl)) → rAll K [.ref p] H' Q := fun H' p sm hp => by
        refine ⟨p, _, rfl, SqL.of hp, ?_⟩
        rw [rep_all]
        exact q H' (s1.trans sm)
      rcases hs with ⟨h1, h2⟩ | ⟨h1, h2⟩
      · refine iteT ⟨_, rfl, _, rfl, a, b, xs, ys, rfl, .inl ⟨h1, h2, fun D hD => ?_⟩⟩
        exact same_core (Q := fun v H' => rAll K [v] H' Q) rfl (walk_zip (n := xs.length) (by rw [hlen]; exact (Nat.min_self _).symm)) rfl l9 rel (fun H4 kp => ⟨sqL_same (fun b o e => kp b o (ne_of_none e hD) e) h1, sqL_same (fun b o e => kp b o (ne_of_none e hD) e) h2⟩) hD fin
      · refine iteT ⟨_, rfl, _, rfl, a, b, xs, ys, rfl, .inr ⟨h1, h2, fun D hD => ?_⟩⟩
        exact same_core (Q := fun v H' => rAll K [v] H' Q) rfl (walk_zipT (n := xs.length) (by rw [hlen]; exact (Nat.min_self _).symm)) rfl l9 rel (fun H4 kp => ⟨sqT_same (fun b o e => kp b o (ne_of_none e hD) e) h1, sqT_same (fun b o e => kp b o (ne_of_none e hD) e) h2⟩) hD fin
    cases sm1 with
    | lst h1 h2 h3 h4 h5 => cases hR
    | tup h1 h2 h3 h4 h5 => cases hR
    | int i =>
      refine iteF ⟨_, rfl, _, _, _, _, _, rfl, .ty "int", .base (.int i), kit_int (.int 0), _, rfl, ?_⟩
      refine iteT ⟨_, rfl, _, _, _, _, _, rfl, .ty "int", .base (.int i), kit_int (.int 0), _, rfl, ?_⟩
      refine iteT ⟨_, rfl, _, _, _, _, _, rfl, .ty "bool", .base (.int i), kit_bool (.int 0), _, rfl, _, _, _, _, _, rfl, .ty "bool", .base (.int i), kit_bool (.int 0), rfl, _, rfl, ?_⟩
      rw [decide_eq_true rfl]
      refine iteT ⟨_, rfl, _, rfl, rfl, ?_⟩
      rw [decide_eq_true rfl]
      exact q H1 s1
    | bl z =>
      refine iteF ⟨_, rfl, _, _, _, _, _, rfl, .ty "int", .base (.bl z), kit_int (.bool true), _, rfl, ?_⟩
      refine iteT ⟨_, rfl, _, _, _, _, _, rfl, .ty "int", .base (.bl z), kit_int (.bool true), _, rfl, ?_⟩
      refine iteT ⟨_, rfl, _, _, _, _, _, rfl, .ty "bool", .base (.bl z), kit_bool (.bool true), _, rfl, _, _, _, _, _, rfl, .ty "bool", .base (.bl z), kit_bool (.bool true), rfl, _, rfl, ?_⟩
      rw [decide_eq_true rfl]
      refine iteT ⟨_, rfl, _, rfl, rfl, ?_⟩
      rw [decide_eq_true rfl]
      exact q H1 s1
    | str z =>
      refine iteF ⟨_, rfl, _, _, _, _, _, rfl, .ty "int", .base (.str z), kit_int (.str "a"), _, rfl, ?_⟩
      refine iteF ⟨_, rfl, (by show 3 ≤ sizeLine; decide), fun p2 hp2 => ?_⟩
      have s2 := same_new (o := .tup [V.ty "int", V.ty "list", V.ty "tuple"]) hp2
      refine ⟨_, p2, _, _, _, _, rfl, upd_same, .cons (.ty "int") (.cons (.ty "list") (.cons (.ty "tuple") .nil)), .base (.str z), kit_lt (.str "a"), _, _, rfl, rfl, _, rfl, ?_⟩
      refine iteT ⟨_, rfl, _, rfl, .inl ⟨rfl, ?_⟩⟩
      rw [decide_eq_true rfl]
      exact q _ (s1.trans s2)
    | non =>
      refine iteF ⟨_, rfl, _, _, _, _, _, rfl, .ty "int", .base .non, kit_int .none, _, rfl, ?_⟩
      refine iteF ⟨_, rfl, (by show 3 ≤ sizeLine; decide), fun p2 hp2 => ?_⟩
      have s2 := same_new (o := .tup [V.ty "int", V.ty "list", V.ty "tuple"]) hp2
      refine ⟨_, p2, _, _, _, _, rfl, upd_same, .cons (.ty "int") (.cons (.ty "list") (.cons (.ty "tuple") .nil)), .base .non, kit_lt .none, _, _, rfl, rfl, _, rfl, ?_⟩
      refine iteT ⟨_, rfl, _, rfl, .inl ⟨rfl, ?_⟩⟩
      rw [decide_eq_true rfl]
      exact q _ (s1.trans s2)
    | dct h =>
      rename_i a
      refine iteF ⟨_, rfl, _, _, _, _, _, rfl, .ty "int", .base (.dK h), kit_int (.dict []), _, rfl, ?_⟩
      refine iteF ⟨_, rfl, (by show 3 ≤ sizeLine; decide), fun p2 hp2 => ?_⟩
      have s2 := same_new (o := .tup [V.ty "int", V.ty "list", V.ty "tuple"]) hp2
      have h2 := s2 _ _ h
      refine ⟨_, p2, _, _, _, _, rfl, upd_same, .cons (.ty "int") (.cons (.ty "list") (.cons (.ty "tuple") .nil)), .base (.dK h2), kit_lt (.dict []), _, _, rfl, rfl, _, rfl, ?_⟩
      refine iteT ⟨_, rfl, _, rfl, .inr ⟨a, a, [], [], rfl, rfl, h2, h2, rfl, (fun p hp => absurd hp (by simp)), ?_⟩⟩
      exact q _ (s1.trans s2)
theorem ok_same0 {f : Addr} {fd : FuncData} (F : Fun K "_law_same" "_law_same" sSame f fd) : FnOk P w K mg base CX0 1 f fd ["found", "due"] (spSame K 0) := by
  refine F.ok scSame (fun vs H Q E h => ?_) (fun cdv A outer s H vs Q E hr h => ?_)
  · obtain ⟨v, u, rfl, _⟩ := h
    rfl
  · obtain ⟨v, u, rfl, z, _⟩ := h
    exact absurd z id
end

theorem eqv_int (a b : Int) : PyData.eqv (.int a) (.int b) = decide (a = b) := by
  rw [PyData.eqv]
  by_cases h : a = b
  · subst h; simp
  · simp [h]
theorem eqv_ints : ∀ a b : List Int, PyData.eqv (.list (a.map .int)) (.list (b.map .int)) = decide (a = b)
  | [], [] => by simp [PyData.eqv, PyData.eqvAll]
  | [], _ :: _ => by simp [PyData.eqv, PyData.eqvAll]
  | _ :: _, [] => by simp [PyData.eqv, PyData.eqvAll]
  | x :: a, y :: b => by
    have ih := eqv_ints a b
    rw [PyData.eqv] at ih ⊢
    rw [List.map_cons, List.map_cons, PyData.eqvAll, ih, eqv_int]
    by_cases h : x = y
    · subst h; simp
    · simp [h]
theorem ints_lay : ∀ ks : List Int, PyData.canLayAll0 (ks.map .int) = true
  | [] => rfl
  | k :: ks => by
    rw [List.map_cons]
    simp [PyData.canLayAll0, PyData.canLay0, ints_lay ks]
theorem ints_depth : ∀ ks : List Int, PyData.depthAll (ks.map .int) ≤ 5
  | [] => by simp [PyData.depthAll]
  | k :: ks => by
    have h := ints_depth ks
    have h2 : (PyData.int k).depth ≤ 5 := by simp [PyData.depth]
    rw [List.map_cons]
    simp only [PyData.depthAll]
    omega
theorem ints_shaped (ks : List Int) : SeqAt.shaped (.list (ks.map .int)) = true := by
  unfold SeqAt.shaped
  have h := ints_depth ks
  have h1 := ints_lay ks
  rw [Bool.and_eq_true]
  refine ⟨by simpa [PyData.canLay0] using h1, decide_eq_true ?_⟩
  simp only [PyData.depth]
  omega
theorem dp_ints {K : PySem.W.Frag} {H : Hp} {a : Addr} {ks : List Int} (h : SqL K H a (ks.map V.int)) : Dp K H (.ref a) (.list (ks.map .int)) := .lst h (dps_ints ks)
/-! ### the law's grown -/
abbrev sLGr : Stmt := topS 50
theorem scLGr : FnScope ["rows", "far"] ["rows"] (defScope sLGr) := ⟨rfl, rfl, rfl, by decide +kernel, rfl, by decide +kernel, by decide +kernel⟩
def spLGr (K : PySem.W.Frag) : Sp := fun vs H Q _ => ∃ (L : Addr) (xs : List V) (rs : List Row), vs = [.ref L] ∧ LRows K H L xs rs ∧ rs.length ≤ 20 ∧ (∀ r ∈ rs, RowOk r) ∧ ∀ H' p g, Same H H' → SqT K H' p (g.map V.int) → Grown rs g → Q (.ref p) H'
section
variable {P : Program} {w : World} {K : PySem.W.Frag} {mg : Str → Option Value} {base : Heap}
theorem ok_lgr {f : Addr} {fd : FuncData} (F : Fun K "_law_grown" "_law_grown" sLGr f fd) (T : Bi mg) (G1 : Has P w K mg base CX0 3 "_law_outs" ["rows"] (spLOu K)) (G2 : Has P w K mg base CX0 3 "_law_long" ["rows", "far"] (spLLo K)) : FnOk P w K mg base CX0 4 f fd ["rows"] (spLGr K) := by
  refine F.ok scLGr (fun vs H Q E h => ?_) (fun cdv A outer s H vs Q E hr h => ?_)
  · obtain ⟨L, xs, rs, rfl, _⟩ := h
    rfl
  · obtain ⟨L, xs, rs, rfl, hR, hl20, nE, q⟩ := h
    have hu64 := hr.units
    refine ⟨_, (pss_cons (ps_set (i := 1) scLGr.nd rfl (.inl rfl) (pe_callH G1 hr (by rfl) pass0 (pa_cons (pv 0) pa_nil)))
      (pss_cons (ps_while PassesOwn.never (pt_cmpR (op_neD hu64) (pe_callH G2 hr (by rfl) pass0 (pa_cons (pv 0) (pa_cons (pv 1) pa_nil))) (pe_lst pa_nil) (nomark _)) (pss_one (ps_set (i := 1) scLGr.nd rfl (.inl rfl) (pe_callB cr_sortedQ (by rfl) T.sorted (by decide +kernel) (pa_cons (pe_op op_cat (pv 1) (pe_callH G2 hr (by rfl) pass0 (pa_cons (pv 0) (pa_cons (pv 1) pa_nil)))) pa_nil)))))
      (pss_one (ps_ret (pe_callTy call_tuple_of (by rfl) T.tuple (by decide +kernel) (pa_cons (pv 1) pa_nil)))))), ?_⟩
    refine ⟨_, rfl, L, xs, rs, rfl, hR, fun H1 O s1 _ hO => ?_⟩
    have il := inn_len rs
    have ol := outs_len rs
    refine ⟨fun m σ H4 => ∃ (a : Addr) (fs : List Int) (n : Nat), σ = [some (.ref L), some (.ref a)] ∧ Same H H4 ∧ H4 a = some (.lst (fs.map V.int)) ∧ fs.Perm (zs (outs rs ++ fars rs n)) ∧ fs.Pairwise (· ≤ ·) ∧ m = (rem rs (fars rs n)).length, ⟨_, O, zs (outs rs), 0, rfl, s1, by rw [hO, nats_zs], ?_, outs_sorted rs, rfl⟩, ?_⟩
    · show (zs (outs rs)).Perm (zs (outs rs ++ []))
      rw [List.append_nil]
    · rintro m σ H4 ⟨a, fs, n, rfl, s4, ha, pm, srt, rfl⟩
      refine ⟨_, rfl, _, rfl, L, a, xs, rs, fs, rfl, hR.same s4, nE, .inl (SqL.of ha), fun H5 p s5 _ hp => ⟨Nat.zero_le _, fun p2 hp2 => ?_⟩⟩
      have elg : long (mem fs) rs = long (fN (outs rs ++ fars rs n)) rs := by rw [mem_perm pm]; rfl
      rw [elg] at hp
      have s6 := s5.trans (same_new (o := .lst []) hp2)
      have hp6 := (same_new (o := .lst []) hp2) _ _ hp
      refine ⟨.list ((zs (long (fN (outs rs ++ fars rs n)) rs)).map .int), .list (([] : List Int).map .int), dp_ints (SqL.of (by rw [hp6, nats_zs])), .lst (SqL.of upd_same) .nil, ints_shaped _, ints_shaped [], _, rfl, ?_⟩
      rw [eqv_ints]
      have s46 := s4.trans s6
      have fl := fars_len rs n
      have ll : (long (fN (outs rs ++ fars rs n)) rs).length ≤ (inn rs).length := List.length_filter_le _ _
      have fsl : fs.length ≤ 40 := by
        rw [pm.length_eq, zs_len, List.length_append]
        omega
      by_cases hlg : zs (long (fN (outs rs ++ fars rs n)) rs) = []
      · rw [decide_eq_true hlg]
        have hlg' : long (fN (outs rs ++ fars rs n)) rs = [] := List.map_eq_nil_iff.mp hlg
        have ha6 := s6 _ _ ha
        exact iteF ⟨_, rfl, a, _, rfl, .inl ⟨SqL.of ha6, fun l hl => q _ l fs (s46.trans (same_new hl)) (SqT.of upd_same) ⟨n, pm, srt, hlg'⟩⟩⟩
      · rw [decide_eq_false hlg]
        refine iteT ⟨fun σ' H' => ∃ m', m' < (rem rs (fars rs n)).length ∧ ∃ (a : Addr) (fs : List Int) (n : Nat), σ' = [some (.ref L), some (.ref a)] ∧ Same H H' ∧ H' a = some (.lst (fs.map V.int)) ∧ fs.Perm (zs (outs rs ++ fars rs n)) ∧ fs.Pairwise (· ≤ ·) ∧ m' = (rem rs (fars rs n)).length, fun σ' H' h => h, ?_⟩
        refine ⟨_, rfl, _, rfl, _, rfl, L, a, xs, rs, fs, rfl, hR.same s46, nE, .inl (SqL.of (s6 _ _ ha)), fun H7 p3 s7 _ hp3 => ?_⟩
        rw [elg] at hp3
        have ha7 := s7 _ _ (s6 _ _ ha)
        refine ⟨a, p3, _, _, rfl, rfl, ha7, hp3, ?_, fun p4 hp4 => ?_⟩
        · rw [nats_len, List.length_map]
          have : fs.length + (long (fN (outs rs ++ fars rs n)) rs).length ≤ 1000 := by omega
          exact Nat.le_trans this (by decide)
        refine ⟨p4, fs ++ zs (long (fN (outs rs ++ fars rs n)) rs), rfl, .inl (SqL.of (by rw [upd_same, nats_zs, List.map_append])), ?_, fun ns' p5 pm' srt' hp5 => ?_⟩
        · rw [List.length_append, zs_len]
          omega
        have nx := rem_next rs (fars rs n)
        have lpos : 0 < (long (fN (outs rs ++ fars rs n)) rs).length := by
          refine List.length_pos_iff.mpr fun z => hlg ?_
          rw [z]
          rfl
        refine ⟨(rem rs (fars rs (n + 1))).length, ?_, p5, ns', n + 1, rfl, ?_, upd_same, ?_, srt', rfl⟩
        · show (rem rs (fars rs n ++ long (fN (outs rs ++ fars rs n)) rs)).length < _
          omega
        · exact ((s46.trans s7).trans (same_new hp4)).trans (same_new hp5)
        · refine pm'.trans ((pm.append_right _).trans ?_)
          show (zs (outs rs ++ fars rs n) ++ zs (long (fN (outs rs ++ fars rs n)) rs)).Perm (zs (outs rs ++ (fars rs n ++ long (fN (outs rs ++ fars rs n)) rs)))
          unfold zs
          rw [← List.map_append, List.append_assoc]
end

def spGrownFrom (K : PySem.W.Frag) : Sp := fun vs H Q _ => ∃ (t d o : Addr) (xs : List V) (rs : List Row), vs = [.ref t, .ref d, .ref o] ∧ SqT K H t xs ∧ RowsV K H xs rs ∧ (∀ r ∈ rs, RowOk r) ∧ rs.length ≤ 900 ∧ H d = some (.dK (aimD rs)) ∧ SqT K H o (nats (outs rs)) ∧
  ∀ H' p g, Same H H' → SqT K H' p (g.map V.int) → Grown rs g → Q (.ref p) H'
abbrev sGrownFrom : Stmt := topS 32
theorem scGrownFrom : FnScope ["parts", "aims", "far", "longer"] ["parts", "aims", "far"] (defScope sGrownFrom) := ⟨rfl, rfl, rfl, by decide +kernel, rfl, by decide +kernel, by decide +kernel⟩
section
variable {P : Program} {w : World} {K : PySem.W.Frag} {mg : Str → Option Value} {base : Heap}
theorem ok_grownFrom {f : Addr} {fd : FuncData} (F : Fun K "grown_from" "grown_from" sGrownFrom f fd) (T : Bi mg) (G1 : Has P w K mg base CX0 3 "too_long_ones" ["parts", "aims", "far"] (spTooLong K)) : FnOk P w K mg base CX0 4 f fd ["parts", "aims", "far"] (spGrownFrom K) := by
  refine F.ok scGrownFrom (fun vs H Q E h => ?_) (fun cdv A outer s H vs Q E hr h => ?_)
  · obtain ⟨t, d, o, xs, rs, rfl, _⟩ := h
    rfl
  · obtain ⟨t, d, o, xs, rs, rfl, ht, hrs, hok, hlen, hd, ho, q⟩ := h
    refine ⟨_, (pss_cons (ps_set (i := 2) scGrownFrom.nd rfl (.inl rfl) (pe_callTy call_list_of (by rfl) T.list (by decide +kernel) (pa_cons (pv 2) pa_nil)))
      (pss_one (ps_while PassesOwn.never (pt_val pe_bl)
        (pss_cons (ps_set (i := 3) scGrownFrom.nd rfl (.inl rfl) (pe_callH G1 hr (by rfl) pass0 (pa_cons (pv 0) (pa_cons (pv 1) (pa_cons (pv 2) pa_nil)))))
        (pss_cons (ps_if (pt_not (pt_truth (pv 3) (by intro _; rfl))) (pss_one (ps_ret (pe_callTy call_tuple_of (by rfl) T.tuple (by decide +kernel) (pa_cons (pe_callB cr_sortedI (by rfl) T.sorted (by decide +kernel) (pa_cons (pv 2) pa_nil)) pa_nil)))) pss_nil)
        (pss_one (ps_expr (pe_bm PySem.F.plainAttrs_list PySem.F.slot_list_extend PySem.F.type_list_extend mt_extend (pv 2) (pa_cons (pv 3) pa_nil))))))))), ?_⟩
    refine ⟨_, rfl, o, _, rfl, .inr ho, fun l hl => ?_⟩
    have s1 := same_new (o := .lst (nats (outs rs))) hl
    refine ⟨fun m σ H4 => ∃ (u : Option V) (n : Nat), σ = [some (.ref t), some (.ref d), some (.ref l), u] ∧ Same H H4 ∧ H4 l = some (.lst (nats (outs rs ++ fars rs n))) ∧ m = (rem rs (fars rs n)).length,
      ⟨_, none, 0, rfl, s1, by rw [upd_same]; show some _ = some (HO.lst (nats (outs rs ++ []))); rw [List.append_nil], rfl⟩, ?_⟩
    rintro m σ H4 ⟨u, n, rfl, s4, hl4, rfl⟩
    refine ⟨true, rfl, iteT ⟨fun σ' H' => ∃ m', m' < (rem rs (fars rs n)).length ∧ ∃ (u : Option V) (n : Nat), σ' = [some (.ref t), some (.ref d), some (.ref l), u] ∧ Same H H' ∧ H' l = some (.lst (nats (outs rs ++ fars rs n))) ∧ m' = (rem rs (fars rs n)).length, fun σ' H' h => h, ?_⟩⟩
    refine ⟨_, rfl, _, rfl, _, rfl, t, d, l, xs, rs, zs (outs rs ++ fars rs n), rfl, sqT_same s4 ht, rowsV_same s4 hrs, hok, hlen, s4 _ _ hd, .inl (by rw [← nats_zs]; exact SqL.of hl4), fun H5 p s5 hp0 hp => ?_⟩
    have elg : long (mem (zs (outs rs ++ fars rs n))) rs = long (fN (outs rs ++ fars rs n)) rs := rfl
    rw [elg] at hp
    have nx := rem_next rs (fars rs n)
    have s45 := s4.trans s5
    have hl5 := s5 _ _ hl4
    have ol := outs_len rs
    have fl := fars_len rs n
    have il := inn_len rs
    generalize hlg : long (fN (outs rs ++ fars rs n)) rs = lg at hp nx
    have hdef : fars rs (n + 1) = fars rs n ++ lg := by rw [← hlg]; rfl
    refine ⟨_, rfl, _, .inl ⟨_, SqL.of hp, rfl⟩, ?_⟩
    cases lg with
    | nil =>
      refine iteT ⟨_, rfl, l, zs (outs rs ++ fars rs n), rfl, by rw [← nats_zs]; exact SqL.of hl5, fun ns' a hperm hsort ha => ⟨a, _, rfl, .inl ⟨SqL.of upd_same, fun p2 hp2 => ?_⟩⟩⟩
      exact q _ p2 ns' ((s45.trans (same_new ha)).trans (same_new hp2)) (SqT.of upd_same) ⟨n, hperm, hsort, hlg⟩
    | cons k0 lg0 =>
      refine iteF ?_
      generalize hlg2 : k0 :: lg0 = lg at *
      have lgn : lg ≠ [] := by rw [← hlg2]; simp
      have lgl : lg.length ≤ rs.length := by
        rw [← hlg]
        exact long_len _ _
      have pl : p ≠ l := fun z => by rw [z, hl4] at hp0; cases hp0
      refine ⟨_, rfl, .inl ⟨rfl, _, SqL.of hl5⟩, _, rfl, l, p, _, _, rfl, rfl, hl5, hp, ?_, ?_⟩
      · rw [nats_len, nats_len, List.length_append]
        have : (outs rs).length + (fars rs n).length + lg.length ≤ 4000 := by omega
        exact Nat.le_trans this (by decide)
      · have lpos : 0 < lg.length := List.length_pos_iff.mpr lgn
        refine ⟨(rem rs (fars rs (n + 1))).length, by rw [hdef]; omega, _, n + 1, rfl, ?_, ?_, rfl⟩
        · intro b u hb
          have bl : b ≠ l := ne_of_none hb hl
          rw [upd_ne bl]
          exact s45 _ _ hb
        · rw [upd_same, hdef, ← List.append_assoc, nats_app (outs rs ++ fars rs n) lg]
/-! ### grown, check_even, check_at -/
def spGrown (K : PySem.W.Frag) (C : Addr) : Sp := fun vs H Q _ => ∃ (x : Addr) (rcs : List RowC), vs = [.ref x] ∧ DraftV K H C x rcs ∧ ∀ H' p g, Same H H' → SqT K H' p (g.map V.int) → Grown (rsC rcs) g → Q (.ref p) H'
abbrev sGrown : Stmt := mth 9
theorem scGrown : FnScope ["self"] ["self"] (defScope sGrown) := ⟨rfl, rfl, rfl, by decide +kernel, rfl, by decide +kernel, by decide +kernel⟩
theorem ok_grown {f C : Addr} {fd : FuncData} (F : Fun K "grown" "Draft.grown" sGrown f fd) (B : DrC K C) (G1 : Has P w K mg base CX0 4 "grown_from" ["parts", "aims", "far"] (spGrownFrom K)) : FnOk P w K mg base CX0 5 f fd ["self"] (spGrown K C) := by
  refine F.ok scGrown (fun vs H Q E h => ?_) (fun cdv A outer s H vs Q E hr h => ?_)
  · obtain ⟨x, rcs, rfl, _⟩ := h
    rfl
  · obtain ⟨x, rcs, rfl, ⟨ok, dx, p, q, d, o, ys, hx⟩, want⟩ := h
    refine ⟨_, pss_one (ps_ret (pe_callH G1 hr (by rfl) pass0 (pa_cons (pe_fld (pv 0) rfl) (pa_cons (pe_fld (pv 0) rfl) (pa_cons (pe_fld (pv 0) rfl) pa_nil))))), ?_⟩
    exact ⟨_, rfl, x, C, dx, _, _, rfl, hx.ins, B.cl, B.n1, rfl, _, rfl, x, C, dx, _, _, rfl, hx.ins, B.cl, B.n3, rfl, _, rfl, x, C, dx, _, _, rfl, hx.ins, B.cl, B.n4, rfl, p, d, o, ys, rsC rcs, rfl, hx.parts, (rowsP_V hx.rows), fun r hr => fine_ok (ok.fine r hr), ok.len, hx.aims, hx.outs, want⟩
end

theorem none_of_f {H H' : Hp} {p : Addr} (e : Same H H') (hp : H' p = none) : H p = none := by
  cases z : H p with
  | none => rfl
  | some o => rw [e _ _ z] at hp; cases hp
/-! ### without_one -/
def offI (n : Int) (ns : List Int) : List Int := ns.filter fun k => !decide (k = n)
def spWo (K : PySem.W.Frag) : Sp := fun vs H Q _ => ∃ (a : Addr) (ns : List Int) (n : Int), vs = [.ref a, .int n] ∧ SqT K H a (ns.map V.int) ∧ ns.length ≤ 900 ∧ ∀ H' p, Same H H' → H p = none → H' p = some (.tup ((offI n ns).map V.int)) → Q (.ref p) H'
abbrev sWo : Stmt := topS 35
theorem scWo : FnScope ["row", "index", "other"] ["row", "index"] (defScope sWo) := ⟨rfl, rfl, rfl, by decide +kernel, rfl, by decide +kernel, by decide +kernel⟩
section
variable {P : Program} {w : World} {K : PySem.W.Frag} {mg : Str → Option Value} {base : Heap}
theorem ok_wo {f : Addr} {fd : FuncData} (F : Fun K "without_one" "without_one" sWo f fd) (T : Bi mg) : FnOk P w K mg base CX0 1 f fd ["row", "index"] (spWo K) := by
  refine F.ok scWo (fun vs H Q E h => ?_) (fun cdv A outer s H vs Q E hr h => ?_)
  · obtain ⟨a, ns, n, rfl, _⟩ := h
    rfl
  · obtain ⟨a, ns, n, rfl, ha, l9, q⟩ := h
    refine ⟨_, (pss_one (ps_ret (pe_callTy call_tuple_of (by rfl) T.tuple (by decide +kernel) (pa_cons (pe_lc (own := [("other", 2)]) (g := gName 2) (te := tVar 2) rfl scWo.nd (pi_tup (pv 0)) (blkOk_by (N := ["row", "index", "other"]) (sc := defScope sWo) (by decide +kernel)) (fun _ _ _ _ _ => pg_name (i := 2) scWo.nd rfl (.inl rfl)) (fun _ _ _ _ _ => pts_one (pt_cmpR op_ne (pv 2) (pv 1) (nomark _))) (fun _ _ _ _ _ => (pv 2))) pa_nil)))), ?_⟩
    refine ⟨_, rfl, a, rfl, ⟨_, ha⟩, fun D hD => ?_⟩
    have sk : ∀ {H4 : Hp}, (∀ b o, b ≠ D → H b = some o → H4 b = some o) → Same H H4 := fun kp b o e => kp b o (ne_of_none e hD) e
    refine lc_it walk_tup (fun i H4 => (∀ b o, b ≠ D → H b = some o → H4 b = some o) ∧ H4 D = some (.lst ((offI n (ns.take i)).map V.int))) ⟨fun b o hb e => by rw [upd_ne hb]; exact e, upd_same⟩ (fun i H4 _ ⟨kp, _⟩ => sqT_same (sk kp) ha) ?_ ?_
    · rintro i y H4 H4' hi ⟨kp, hD4⟩ ⟨rfl, hy⟩
      rw [List.getElem?_map] at hy
      obtain ⟨k, hk, rfl⟩ := Option.map_eq_some_iff.mp hy
      have hi2 : i < ns.length := (List.getElem?_eq_some_iff.mp hk).1
      have tk : offI n (ns.take (i + 1)) = offI n (ns.take i) ++ offI n [k] := by
        unfold offI
        rw [List.take_add_one, hk, List.filter_append]
        rfl
      refine ⟨rfl, _, rfl, _, rfl, rfl, _, rfl, ?_⟩
      show if (!decide (V.int k = V.int n)) = true then _ else _
      rw [intEq]
      cases c : decide (k = n) with
      | true =>
        refine iteF ⟨kp, ?_⟩
        have z : offI n [k] = [] := by simp [offI, List.filter, c]
        rw [tk, z, List.append_nil]
        exact hD4
      | false =>
        have z : offI n [k] = [k] := by simp [offI, List.filter, c]
        refine iteT ⟨_, rfl, _, hD4, ?_, fun b o hb e => by rw [upd_ne hb]; exact kp b o hb e, ?_⟩
        · rw [List.length_map]
          have h1 : (offI n (ns.take i)).length ≤ (ns.take i).length := List.length_filter_le _ _
          rw [List.length_take] at h1
          exact small1000 (by omega)
        · rw [upd_same, tk, z, List.map_append]
          rfl
    · rintro H4 ⟨kp, hD4⟩
      rw [List.length_map, List.take_length] at hD4
      exact ⟨D, _, rfl, .inl ⟨SqL.of hD4, fun p hp => q _ p ((sk kp).trans (same_new hp)) (none_of_f (sk kp) hp) upd_same⟩⟩
end

/-! ### fits -/
def spFits (K : PySem.W.Frag) (C : Addr) : Sp := fun vs H Q _ => ∃ (x : Addr) (u : V) (rs : List Row) (d : PyData) (ns : List Int), vs = [.ref x, u] ∧ DraftV K H C x rs ∧ Th K H u d ∧ items d = some (ns.map .int) ∧ ChOk rs ns ∧ ∀ H', Same H H' → Q (.bl (decide (long (mem ns) rs = []))) H'
abbrev sFits : Stmt := mth 8
theorem scFits : FnScope ["self", "choice"] ["self", "choice"] (defScope sFits) := ⟨rfl, rfl, rfl, by decide +kernel, rfl, by decide +kernel, by decide +kernel⟩
section
variable {P : Program} {w : World} {K : PySem.W.Frag} {mg : Str → Option Value} {base : Heap}
theorem ok_fits {f C CC : Addr} {fd : FuncData} (F : Fun K "fits" "Draft.fits" sFits f fd) (B : DrC K C) (M1 : HasM P w K mg base (L2.CX P w) 3 C "chosen" ["self", "thing"] (spChosen K C CC)) (G2 : Has P w K mg base CX0 3 "too_long_ones" ["parts", "aims", "far"] (spTooLong K)) : FnOk P w K mg base (L2.CX P w) 4 f fd ["self", "choice"] (spFits K C) := by
  refine F.okX scFits (fun vs H Q E h => ?_) (fun cdv A outer s H vs Q E hr h => ?_)
  · obtain ⟨x, u, rs, d, ns, rfl, _⟩ := h
    rfl
  · obtain ⟨x, u, rs, d, ns, rfl, dv, th, it, ch, q⟩ := h
    refine ⟨_, (pss_one (ps_ret (pe_notT (pe_callH G2 hr (by rfl) pass0 (pa_cons (pe_fld (pv 0) rfl) (pa_cons (pe_fld (pv 0) rfl) (pa_cons (pe_methH M1 (pv 0) hr (passes_call (W := fun cls d _ H => E cls d H) (takes_of rfl rfl rfl rfl) (fun _ _ _ _ h => h)) (pa_cons (pv 1) pa_nil)) pa_nil))))))), ?_⟩
    obtain ⟨ok, dx, pa, fq, dd, oo, ys, hx⟩ := id dv
    have okr : ∀ r ∈ rs, RowOk r := fun r hr => fine_ok (ok.fine r hr)
    refine ⟨_, rfl, x, C, dx, _, _, rfl, hx.ins, B.cl, B.n1, rfl, _, rfl, x, C, dx, _, _, rfl, hx.ins, B.cl, B.n3, rfl, _, rfl, x, dx, _, rfl, hx.ins, rfl, _, rfl, x, u, d, rs, rfl, dv, th, .inl ⟨_, it, ns, rfl, ch, fun H2 l s2 hl => ?_⟩⟩
    have hx2 := hx.same s2
    refine ⟨pa, dd, l, ys, rs, ns, rfl, hx2.parts, rowsP_V hx2.rows, okr, ok.len, hx2.aims, .inr hl, fun H3 lo s3 _ hlo => ?_⟩
    have s03 := s2.trans s3
    refine ⟨_, .inl ⟨_, SqL.of hlo, rfl⟩, ?_⟩
    have qq := q H3 s03
    cases e : long (mem ns) rs with
    | nil =>
      rw [e] at qq
      exact qq
    | cons k ks =>
      rw [e] at qq
      have : decide (k :: ks = []) = false := decide_eq_false (by simp)
      rw [this] at qq
      exact qq
end

/-! ### shrunk: the mathematics -/
def zs_mem {ks : List Nat} {n : Int} : n ∈ zs ks ↔ ∃ k ∈ ks, (k : Int) = n := List.mem_map
/-- what can come near -/
def near (rs : List Row) (ns : List Int) : List Int := ns.filter fun k => decide (k ∈ zs (inn rs)) && decide (long (mem (offI k ns)) rs = [])
def shrN (rs : List Row) : Nat → List Int → List Int
  | 0, ns => ns
  | m + 1, ns => match near rs ns with
    | [] => ns
    | k :: _ => shrN rs m (offI k ns)
def shr (rs : List Row) : List Int := shrN rs (brs rs).length (zs (brs rs))
theorem offI_len {k : Int} {ns : List Int} (h : k ∈ ns) : (offI k ns).length < ns.length := by
  unfold offI
  exact List.length_filter_lt_length_iff_exists.mpr ⟨k, h, by simp⟩
theorem ch_off {rs : List Row} {ns : List Int} {k : Int} (h : ChOk rs ns) (hk : k ∈ zs (inn rs)) : ChOk rs (offI k ns) := by
  refine ⟨fun n hn => h.br n (List.mem_filter.mp hn).1, List.Pairwise.sublist (List.filter_sublist ..) h.asc, fun j hj => ?_, Nat.le_trans (List.length_filter_le _ _) h.len⟩
  refine List.mem_filter.mpr ⟨h.out j hj, ?_⟩
  obtain ⟨i, hi, rfl⟩ := mem_zs.mp hk
  have : ¬ ((j : Int) = (i : Int)) := fun e => inn_not_outs hi (by
    have : j = i := by omega
    rw [← this]
    exact hj)
  simp [this]
theorem near_mem {rs : List Row} {ns : List Int} {k : Int} (h : k ∈ near rs ns) : k ∈ ns ∧ k ∈ zs (inn rs) := by
  obtain ⟨h1, h2⟩ := List.mem_filter.mp h
  rw [Bool.and_eq_true] at h2
  exact ⟨h1, of_decide_eq_true h2.1⟩

/-- chosen, of choices that fit the rows -/
def spChosen0 (K : PySem.W.Frag) (C : Addr) : Sp := fun vs H Q _ => ∃ (x : Addr) (v : V) (d : PyData) (rs : List Row), vs = [.ref x, v] ∧ DraftV K H C x rs ∧ Th K H v d ∧ ∃ ds, items d = some ds ∧ ∃ ns, ds = ns.map .int ∧ ChOk rs ns ∧ ∀ H' p, Same H H' → SqT K H' p (ns.map V.int) → Q (.ref p) H'
section
variable {P : Program} {w : World} {K : PySem.W.Frag} {mg : Str → Option Value} {base : Heap}
theorem ok_chosen0 {f C : Addr} {fd : FuncData} (F : Fun K "chosen" "Draft.chosen" sChosen f fd) (T : Bi mg) (B : DrC K C) (G1 : Has P w K mg base CX0 2 "is_row" ["thing"] (spIsRow K)) (G2 : Has P w K mg base CX0 2 "is_integer" ["thing"] (spIsInt K)) (G3 : Has P w K mg base CX0 2 "is_ascending" ["row"] (spAsc K)) :
    FnOk P w K mg base CX0 3 f fd ["self", "thing"] (spChosen0 K C) := by
  refine F.ok scChosen (fun vs H Q E h => ?_) (fun cdv A outer s H vs Q E hr h => ?_)
  · obtain ⟨x, v, d, rs, rfl, _⟩ := h
    rfl
  · obtain ⟨x, v, d, rs, rfl, ⟨ok, dx, p, fq, dd, o, ys, hx⟩, th, want0⟩ := h
    have want : (∃ ds, items d = some ds ∧ ∃ ns, ds = ns.map .int ∧ ChOk rs ns ∧ ∀ H' p, Same H H' → SqT K H' p (ns.map V.int) → Q (.ref p) H') ∨ ((items d = none ∨ ∃ ds, items d = some ds ∧ ds.length ≤ 900 ∧ ds.all (brB rs) = false) ∧ False) := .inl want0
    refine ⟨_, (pss_cons (ps_if (PW.pt (pw_or (pt_not (pt_val (pe_callH G1 hr (by rfl) pass0 (pa_cons (pv 1) pa_nil)))) (pw_or1 (pt_not (pt_val (pe_callB (cr_all rfl) (by rfl) T.all (by decide +kernel) (pa_cons (pe_lc (own := [("index", 3)]) (g := gName 3) (tt := tYes) rfl scChosen.nd (pi_seq (pv 1)) (blkOk_by (N := ["self", "thing", "choice", "index"]) (sc := defScope sChosen) (by decide +kernel)) (fun _ _ _ _ _ => pg_name (i := 3) scChosen.nd rfl (.inl rfl)) (fun _ _ _ _ _ => pts_nil)
          (te := tAndV (tCall (spIsInt K) [] E00 (tCons (tVar 3) tNil)) (tOp (rIn K false) (tVar 3) (tFld K (tVar 0) "forks"))) (fun _ _ _ _ _ => pe_and (pe_callH G2 hr (by rfl) pass0 (pa_cons (pv 3) pa_nil)) (pe_one (pe_cmpR op_in_seq (pv 3) (pe_fld (pv 0) rfl) (by rfl))))) pa_nil))))))) (pss_one ps_never) pss_nil)
      (pss_cons (ps_set (i := 2) scChosen.nd rfl (.inr rfl) (pe_callTy call_tuple_of (by rfl) T.tuple (by decide +kernel) (pa_cons (pe_callB cr_sortedI (by rfl) T.sorted (by decide +kernel) (pa_cons (pe_callTy call_list_of (by rfl) T.list (by decide +kernel) (pa_cons (pv 1) pa_nil)) pa_nil)) pa_nil)))
      (pss_cons (ps_if (PW.pt (pw_or (pt_not (pt_val (pe_callH G3 hr (by rfl) pass0 (pa_cons (pv 2) pa_nil)))) (pw_or1 (pt_not (pt_val (pe_callB (cr_all rfl) (by rfl) T.all (by decide +kernel) (pa_cons (pe_lc (own := [("index", 3)]) (g := gName 3) (tt := tYes) rfl scChosen.nd (pi_tup (pe_fld (pv 0) rfl)) (blkOk_by (N := ["self", "thing", "choice", "index"]) (sc := defScope sChosen) (by decide +kernel)) (fun _ _ _ _ _ => pg_name (i := 3) scChosen.nd rfl (.inl rfl)) (fun _ _ _ _ _ => pts_nil)
          (te := tOp (rIn K false) (tVar 3) (tVar 2)) (fun _ _ _ _ _ => (pe_cmpR op_in_seq (pv 3) (pv 2) (by rfl)))) pa_nil))))))) (pss_one ps_never) pss_nil)
      (pss_one (ps_ret (pv 2)))))), ?_⟩
    refine ⟨_, rfl, v, d, rfl, th, fun H1 s1 => ⟨_, rfl, ?_⟩⟩
    rw [isR_items]
    cases ei : items d with
    | none =>
      refine iteT (show False from ?_)
      rcases want with ⟨ds, e, _⟩ | ⟨_, hE⟩
      · rw [ei] at e
        cases e
      · exact hE
    | some ds =>
      refine iteF ?_
      obtain ⟨a, xs, rfl, hs, ha⟩ := th_row (th_same s1 th) ei
      have hx1 := hx.same s1
      have ldx : xs.length = ds.length := dps_len ha
      have few : ds.length ≤ 900 := by
        rcases want with ⟨ds', e, ns, rfl, g, _⟩ | ⟨h | ⟨ds', e, h, _⟩, _⟩
        · rw [ei] at e
          rw [Option.some.inj e, List.length_map]
          exact g.len
        · rw [ei] at h
          cases h
        · rw [ei] at e
          rw [Option.some.inj e]
          exact h
      refine ⟨_, rfl, a, xs, rfl, hs, fun J G wk st D hD => ?_⟩
      refine lc_it wk (fun i H4 => (∀ c o, c ≠ D → H1 c = some o → H4 c = some o) ∧ H4 D = some (.lst (((ds.take i).map (brB rs)).map V.bl))) ⟨fun c o hc e => by rw [upd_ne hc]; exact e, upd_same⟩
        (fun i H4 _ ⟨kp, _⟩ => st H4 (sqL_same (fun c o e => kp c o (ne_of_none e hD) e)) (sqT_same (fun c o e => kp c o (ne_of_none e hD) e))) ?_ ?_
      · rintro i y H4 H4' hi ⟨kp, hD4⟩ ⟨rfl, hy⟩
        obtain ⟨dy, hdy, hyd⟩ := dps_get ha hy
        have s14 : Same H1 H4' := fun c o e => kp c o (ne_of_none e hD) e
        have hi2 : i < ds.length := (List.getElem?_eq_some_iff.mp hdy).1
        have hx4 := hx1.same s14
        refine ⟨rfl, yes_go (iteT ?_)⟩
        have fin : ∀ b : Bool, brB rs dy = b → ∃ zs, H4' D = some (.lst zs) ∧ zs.length < sizeLine ∧ ((∀ c o, c ≠ D → H1 c = some o → upd H4' D (.lst (zs ++ [V.bl b])) c = some o) ∧ upd H4' D (.lst (zs ++ [V.bl b])) D = some (.lst (((ds.take (i + 1)).map (brB rs)).map V.bl))) := by
          intro b eb
          refine ⟨_, hD4, ?_, fun c o hc e => ?_, ?_⟩
          · rw [List.length_map, List.length_map, List.length_take]
            exact small1000 (by omega)
          · rw [upd_ne hc]
            exact kp c o hc e
          · rw [upd_same, List.take_add_one, hdy]
            simp [eb]
        refine ⟨_, rfl, y, dy, rfl, .dat (dp_same s14 hyd), _, rfl, ?_⟩
        cases dy with
        | int n =>
          obtain rfl := dp_int hyd
          refine iteT ⟨_, rfl, _, rfl, x, C, dx, _, _, rfl, hx4.ins, B.cl, B.n2, rfl, fq, _, rfl, .inr hx4.forks, rfl, ?_, ?_⟩
          · rw [natsV]
            exact flat_ints _
          · refine fin _ ?_
            rw [natsV, inV_ints]
            rfl
        | none => exact iteF (fin false rfl)
        | bool b => exact iteF (fin false rfl)
        | str s => exact iteF (fin false rfl)
        | list l => exact iteF (fin false rfl)
        | tuple l => exact iteF (fin false rfl)
        | dict l => exact iteF (fin false rfl)
      · rintro H4 ⟨kp, hD4⟩
        rw [ldx, List.take_length] at hD4
        have s14 : Same H1 H4 := fun c o e => kp c o (ne_of_none e hD) e
        have s4 := s1.trans s14
        refine ⟨D, _, rfl, SqL.of hD4, _, rfl, ?_⟩
        have eall : ((ds.map (brB rs)).all id) = ds.all (brB rs) := by rw [List.all_map]; rfl
        rw [eall]
        rcases want with ⟨ds', e, ns, rfl, g, qq⟩ | ⟨h | ⟨ds', e, _, h⟩, hE⟩
        · rw [ei] at e
          have e := Option.some.inj e
          subst e
          have all1 : (ns.map PyData.int).all (brB rs) = true := by
            rw [List.all_map, List.all_eq_true]
            intro n hn
            exact decide_eq_true (g.br n hn)
          rw [all1]
          refine iteF ?_
          have hns : ∀ {H9 : Hp}, DpAll K H9 xs (ns.map .int) → xs = ns.map V.int := dps_int_eq
          obtain rfl := hns ha
          have hs4 : SqE K H4 a (ns.map V.int) := sqE_same s14 hs
          refine ⟨_, rfl, a, _, rfl, hs4, fun l hl => ?_⟩
          have sl := same_new (o := .lst (ns.map V.int)) hl
          refine ⟨l, ns, rfl, SqL.of upd_same, fun ns' m pm so hm => ?_⟩
          obtain rfl := sort_asc g.asc pm so
          have sm := same_new (o := .lst (ns'.map V.int)) hm
          refine ⟨m, _, rfl, .inl ⟨SqL.of upd_same, fun t ht => ?_⟩⟩
          have st5 := same_new (o := .tup (ns'.map V.int)) ht
          have s5 := ((s4.trans sl).trans sm).trans st5
          have et : upd (upd (upd H4 l (.lst (ns'.map V.int))) m (.lst (ns'.map V.int))) t (.tup (ns'.map V.int)) t = some (.tup (ns'.map V.int)) := upd_same
          generalize upd (upd (upd H4 l (.lst (ns'.map V.int))) m (.lst (ns'.map V.int))) t (.tup (ns'.map V.int)) = H5 at s5 et ⊢
          refine ⟨_, rfl, t, ns', rfl, .inr (SqT.of et), g.len, fun H6 s6 => ⟨_, rfl, ?_⟩⟩
          rw [asc_true g.asc]
          refine iteF ?_
          have hx6 := hx.same (s5.trans s6)
          have et6 := s6 _ _ et
          refine ⟨_, rfl, x, C, dx, _, _, rfl, hx6.ins, B.cl, B.n4, rfl, o, rfl, ⟨_, hx6.outs⟩, fun D2 hD2 => ?_⟩
          refine lc_it walk_tup (fun i H7 => (∀ c o, c ≠ D2 → H6 c = some o → H7 c = some o) ∧ H7 D2 = some (.lst ((List.replicate i true).map V.bl))) ⟨fun c o hc e => by rw [upd_ne hc]; exact e, upd_same⟩
            (fun i H7 _ ⟨kp, _⟩ => sqT_same (fun c o e => kp c o (ne_of_none e hD2) e) hx6.outs) ?_ ?_
          · rintro i y H7 H7' hi ⟨kp7, hD7⟩ ⟨rfl, hy⟩
            have s67 : Same H6 H7' := fun c o e => kp7 c o (ne_of_none e hD2) e
            obtain ⟨k, hk, rfl⟩ : ∃ k, (outs rs)[i]? = some k ∧ y = V.int ((k : Nat) : Int) := by
              unfold nats at hy
              rw [List.getElem?_map] at hy
              obtain ⟨k, hk, e⟩ := Option.map_eq_some_iff.mp hy
              exact ⟨k, hk, e.symm⟩
            have hin := g.out k (List.mem_of_getElem? hk)
            have hi3 : i < (outs rs).length := (List.getElem?_eq_some_iff.mp hk).1
            have ho9 : (outs rs).length ≤ 900 := by
              have h1 : (outs rs).length ≤ (brs rs).length := List.length_filter_le _ _
              have h2 := brsTo_len rs rs.length
              have h4 : (brs rs).length = (brsTo rs rs.length).length := rfl
              have := ok.len
              omega
            refine ⟨rfl, yes_go (iteT ⟨_, rfl, _, rfl, t, _, rfl, .inr (SqT.of (s67 _ _ et6)), rfl, flat_ints _, _, hD7, ?_, fun c o hc e => ?_, ?_⟩)⟩
            · rw [List.length_map, List.length_replicate]
              exact small1000 (by omega)
            · rw [upd_ne hc]
              exact kp7 c o hc e
            · rw [upd_same, inV_ints, decide_eq_true hin, List.replicate_succ']
              simp
          · rintro H7 ⟨kp7, hD7⟩
            have s67 : Same H6 H7 := fun c o e => kp7 c o (ne_of_none e hD2) e
            refine ⟨D2, _, rfl, SqL.of hD7, _, rfl, ?_⟩
            have er : ∀ n : Nat, (List.replicate n true).all id = true := fun n => by simp
            rw [er]
            exact iteF ⟨_, rfl, qq H7 t ((s5.trans s6).trans s67) (SqT.of (s67 _ _ et6))⟩
        · rw [ei] at h
          cases h
        · rw [ei] at e
          have e := Option.some.inj e
          subst e
          rw [h]
          exact iteT hE
end

/-! ### fits -/
section
variable {P : Program} {w : World} {K : PySem.W.Frag} {mg : Str → Option Value} {base : Heap}
theorem ok_fits0 {f C : Addr} {fd : FuncData} (F : Fun K "fits" "Draft.fits" sFits f fd) (B : DrC K C) (M1 : HasM P w K mg base CX0 3 C "chosen" ["self", "thing"] (spChosen0 K C)) (G2 : Has P w K mg base CX0 3 "too_long_ones" ["parts", "aims", "far"] (spTooLong K)) : FnOk P w K mg base CX0 4 f fd ["self", "choice"] (spFits K C) := by
  refine F.ok scFits (fun vs H Q E h => ?_) (fun cdv A outer s H vs Q E hr h => ?_)
  · obtain ⟨x, u, rs, d, ns, rfl, _⟩ := h
    rfl
  · obtain ⟨x, u, rs, d, ns, rfl, dv, th, it, ch, q⟩ := h
    refine ⟨_, (pss_one (ps_ret (pe_notT (pe_callH G2 hr (by rfl) pass0 (pa_cons (pe_fld (pv 0) rfl) (pa_cons (pe_fld (pv 0) rfl) (pa_cons (pe_methH M1 (pv 0) hr pass0 (pa_cons (pv 1) pa_nil)) pa_nil))))))), ?_⟩
    obtain ⟨ok, dx, pa, fq, dd, oo, ys, hx⟩ := id dv
    have okr : ∀ r ∈ rs, RowOk r := fun r hr => fine_ok (ok.fine r hr)
    refine ⟨_, rfl, x, C, dx, _, _, rfl, hx.ins, B.cl, B.n1, rfl, _, rfl, x, C, dx, _, _, rfl, hx.ins, B.cl, B.n3, rfl, _, rfl, x, dx, _, rfl, hx.ins, rfl, _, rfl, x, u, d, rs, rfl, dv, th, _, it, ns, rfl, ch, fun H2 l s2 hl => ?_⟩
    have hx2 := hx.same s2
    refine ⟨pa, dd, l, ys, rs, ns, rfl, hx2.parts, rowsP_V hx2.rows, okr, ok.len, hx2.aims, .inr hl, fun H3 lo s3 _ hlo => ?_⟩
    have s03 := s2.trans s3
    refine ⟨_, .inl ⟨_, SqL.of hlo, rfl⟩, ?_⟩
    have qq := q H3 s03
    cases e : long (mem ns) rs with
    | nil =>
      rw [e] at qq
      exact qq
    | cons k ks =>
      rw [e] at qq
      have : decide (k :: ks = []) = false := decide_eq_false (by simp)
      rw [this] at qq
      exact qq
end

/-! ### choices -/
theorem ch_sub {rs : List Row} {ks : List Nat} (h : ks.Sublist (brs rs)) (o : ∀ k ∈ outs rs, k ∈ ks) (l : rs.length ≤ 900) : ChOk rs (zs ks) := by
  refine ⟨fun n hn => ?_, ?_, fun k hk => mem_zs.mpr ⟨k, o k hk, rfl⟩, ?_⟩
  · obtain ⟨k, hk, e⟩ := mem_zs.mp hn
    exact List.mem_map.mpr ⟨k, h.subset hk, e⟩
  · unfold zs
    rw [List.pairwise_map]
    unfold brs brsTo at h
    exact (List.Pairwise.sublist (List.Sublist.trans h (List.filter_sublist ..)) List.pairwise_lt_range).imp fun h => by omega
  · rw [zs_len]
    have h1 := h.length_le
    have h2 := brs_len rs
    omega
theorem ch_outs {rs : List Row} (l : rs.length ≤ 900) : ChOk rs (zs (outs rs)) := ch_sub (List.filter_sublist ..) (fun _ h => h) l
theorem outs_brs {rs : List Row} {k : Nat} (h : k ∈ outs rs) : k ∈ brs rs := (List.mem_filter.mp h).1
theorem inn_brs {rs : List Row} {k : Nat} (h : k ∈ inn rs) : k ∈ brs rs := by
  rw [← brs_inn] at h
  exact (List.mem_filter.mp h).1
theorem ch_brs {rs : List Row} (l : rs.length ≤ 900) : ChOk rs (zs (brs rs)) := ch_sub (List.Sublist.refl _) (fun _ h => outs_brs h) l
theorem ch_grown {rs : List Row} {g : List Int} (h : Grown rs g) (l : rs.length ≤ 400) : ChOk rs g := by
  have gl := grown_len h
  obtain ⟨n, pm, srt, _⟩ := h
  have nod : (outs rs ++ fars rs n).Nodup := List.nodup_append.mpr ⟨List.Nodup.sublist (List.filter_sublist ..) (brs_nodup rs), fars_nodup rs n, fun a ha b hb e => by
    rw [e] at ha
    exact inn_not_outs (fars_inn rs n b hb) ha⟩
  have nodz : (zs (outs rs ++ fars rs n)).Nodup := by
    unfold zs
    exact List.Pairwise.map _ (fun a b h e => h (by omega)) nod
  have nodg : g.Nodup := pm.nodup_iff.mpr nodz
  refine ⟨fun m hm => ?_, ?_, fun k hk => pm.mem_iff.mpr (mem_zs.mpr ⟨k, List.mem_append_left _ hk, rfl⟩), by omega⟩
  · obtain ⟨k, hk, e⟩ := mem_zs.mp (pm.mem_iff.mp hm)
    refine List.mem_map.mpr ⟨k, ?_, e⟩
    rcases List.mem_append.mp hk with hk | hk
    · exact outs_brs hk
    · exact inn_brs (fars_inn rs n k hk)
  · exact (List.pairwise_and_iff.mpr ⟨srt, nodg⟩).imp fun ⟨h1, h2⟩ => by omega
theorem mapD_is (g : Nat → V) (n : Int) : ∀ ks : List Nat, (valV (mapD g ks) (Sum.inl n)).isSome = decide (n ∈ zs ks)
  | [] => rfl
  | j :: ks => by
    show (valV ((Sum.inl (j : Int), g j) :: mapD g ks) _).isSome = _
    by_cases h : (j : Int) = n
    · subst h
      rw [valV_pos rfl]
      have : (j : Int) ∈ zs (j :: ks) := List.mem_map.mpr ⟨j, by simp, rfl⟩
      rw [decide_eq_true this]
      rfl
    · have hk : ¬ ((Sum.inl (j : Int) : Key) = Sum.inl n) := fun z => h (Sum.inl.inj z)
      rw [valV_neg hk, mapD_is g n ks]
      have : n ∈ zs (j :: ks) ↔ n ∈ zs ks := by
        constructor
        · intro z
          rcases List.mem_cons.mp z with z | z
          · exact absurd z.symm h
          · exact z
        · intro z
          exact List.mem_cons_of_mem _ z
      by_cases c : n ∈ zs ks
      · rw [decide_eq_true c, decide_eq_true (this.mpr c)]
      · rw [decide_eq_false c, decide_eq_false fun z => c (this.mp z)]
theorem th_ints {K : PySem.W.Frag} {H : Hp} {u : Addr} {ns : List Int} (h : SqE K H u (ns.map V.int)) : ∃ d, Th K H (.ref u) d ∧ items d = some (ns.map .int) := by
  rcases h with h | h
  · exact ⟨.list (ns.map .int), .dat (.lst h (dps_ints ns)), rfl⟩
  · exact ⟨.tuple (ns.map .int), .dat (.tup h (dps_ints ns)), rfl⟩

def nearP (rs : List Row) (ns : List Int) (k : Int) : Bool := decide (k ∈ zs (inn rs)) && decide (long (mem (offI k ns)) rs = [])
theorem filt_step {α : Type} {l : List α} {i : Nat} {k : α} (p : α → Bool) (h : l[i]? = some k) : (l.take (i + 1)).filter p = (l.take i).filter p ++ (if p k = true then [k] else []) := by
  rw [List.take_add_one, h, List.filter_append]
  cases c : p k <;> simp [List.filter, c]
theorem filt_len {α : Type} (l : List α) (i : Nat) (p : α → Bool) : ((l.take i).filter p).length ≤ l.length := by
  have h1 : ((l.take i).filter p).length ≤ (l.take i).length := List.length_filter_le _ _
  rw [List.length_take] at h1
  omega
def spShr (K : PySem.W.Frag) (C : Addr) : Sp := fun vs H Q _ => ∃ (x : Addr) (rs : List Row), vs = [.ref x] ∧ DraftV K H C x rs ∧ rs.length ≤ 400 ∧ ∀ H' p, Same H H' → SqT K H' p ((shr rs).map V.int) → Q (.ref p) H'
abbrev sShr : Stmt := mth 14
theorem scShr : FnScope ["self", "choice", "nearer", "index"] ["self"] (defScope sShr) := ⟨rfl, rfl, rfl, by decide +kernel, rfl, by decide +kernel, by decide +kernel⟩
section
variable {P : Program} {w : World} {K : PySem.W.Frag} {mg : Str → Option Value} {base : Heap}
theorem ok_shr {f C : Addr} {fd : FuncData} (F : Fun K "shrunk" "Draft.shrunk" sShr f fd) (B : DrC K C) (M1 : HasM P w K mg base CX0 4 C "fits" ["self", "choice"] (spFits K C)) (G2 : Has P w K mg base CX0 4 "without_one" ["row", "index"] (spWo K)) : FnOk P w K mg base CX0 5 f fd ["self"] (spShr K C) := by
  refine F.ok scShr (fun vs H Q E h => ?_) (fun cdv A outer s H vs Q E hr h => ?_)
  · obtain ⟨x, rs, rfl, _⟩ := h
    rfl
  · obtain ⟨x, rs, rfl, dv, l4, q⟩ := h
    have hu := hu_of hr
    refine ⟨_, (pss_cons (ps_set (i := 1) scShr.nd rfl (.inr rfl) (pe_fld (pv 0) rfl))
      (pss_one (ps_while PassesOwn.never (pt_val pe_bl)
        (pss_cons (ps_setLc (i := 2) (own := [("index", 3)]) (g := gName 3) (tt := tAnd (tB (tDIn (tVar 3) (tFld K (tVar 0) "aims"))) (tB (tMeth C "fits" (spFits K C) [] E00 (tVar 0) (tCons (tCall (spWo K) [] E00 (tCons (tVar 1) (tCons (tVar 3) tNil))) tNil)))) (te := tVar 3) rfl scShr.nd rfl rfl (sw_true rfl rfl rfl (by decide +kernel)) (pi_tup (pv 1)) (blkOk_by (N := ["self", "choice", "nearer", "index"]) (sc := defScope sShr) (by decide +kernel)) (fun _ _ _ _ _ => pg_name (i := 3) scShr.nd rfl (.inl rfl)) (fun _ _ _ _ _ => pts_one (PW.pt (pw_and (pt_cmp (pc_din hu (pv 3) (pe_fld (pv 0) rfl))) (pw_and1 (pt_val (pe_methH M1 (pv 0) hr pass0 (pa_cons (pe_callH G2 hr (by rfl) pass0 (pa_cons (pv 1) (pa_cons (pv 3) pa_nil))) pa_nil))))))) (fun _ _ _ _ _ => pv 3))
        (pss_cons (ps_if (pt_not (pt_truth (pv 2) (by intro _; rfl))) (pss_one (ps_ret (pv 1))) pss_nil)
        (pss_one (ps_set (i := 1) scShr.nd rfl (.inr rfl) (pe_callH G2 hr (by rfl) pass0 (pa_cons (pv 1) (pa_cons (pe_ix ix_list (pv 2) pe_int (fun _ _ => rfl)) pa_nil)))))))))), ?_⟩
    have dv0 := dv
    obtain ⟨ok, dx, p, fq, dd, o, ys, hx⟩ := dv
    refine ⟨_, rfl, x, C, dx, _, _, rfl, hx.ins, B.cl, B.n2, rfl, ?_⟩
    refine ⟨fun m σ H4 => ∃ (c : Addr) (u2 u3 : Option V) (ns : List Int) (fl : Nat), σ = [some (.ref x), some (.ref c), u2, u3] ∧ Same H H4 ∧ SqT K H4 c (ns.map V.int) ∧ ChOk rs ns ∧ ns.length ≤ fl ∧ shr rs = shrN rs fl ns ∧ m = ns.length,
      ⟨_, fq, none, none, zs (brs rs), _, rfl, fun _ _ h => h, (by rw [← nats_zs]; exact hx.forks), ch_brs (by omega), (by rw [zs_len]; exact Nat.le_refl _), rfl, rfl⟩, ?_⟩
    rintro m σ H4 ⟨c, u2, u3, ns, fl, rfl, s4, hc, ch, lf, es, rfl⟩
    refine ⟨true, rfl, iteT ⟨fun σ' H' => ∃ m', m' < ns.length ∧ ∃ (c : Addr) (u2 u3 : Option V) (ns : List Int) (fl : Nat), σ' = [some (.ref x), some (.ref c), u2, u3] ∧ Same H H' ∧ SqT K H' c (ns.map V.int) ∧ ChOk rs ns ∧ ns.length ≤ fl ∧ shr rs = shrN rs fl ns ∧ m' = ns.length, fun σ' H' h => h, ?_⟩⟩
    have hx4 := hx.same s4
    have l9 := ch.len
    refine ⟨_, rfl, c, rfl, ⟨_, hc⟩, fun D hD => ?_⟩
    have sk : ∀ {H5 : Hp}, (∀ b o, b ≠ D → H4 b = some o → H5 b = some o) → Same H4 H5 := fun kp b o e => kp b o (ne_of_none e hD) e
    refine lc_it walk_tup (fun i H5 => (∀ b o, b ≠ D → H4 b = some o → H5 b = some o) ∧ H5 D = some (.lst (((ns.take i).filter (nearP rs ns)).map V.int))) ⟨fun b o hb e => by rw [upd_ne hb]; exact e, upd_same⟩ (fun i H5 _ ⟨kp, _⟩ => sqT_same (sk kp) hc) ?_ ?_
    · rintro i y H5 H5' hi ⟨kp, hD5⟩ ⟨rfl, hy⟩
      rw [List.getElem?_map] at hy
      obtain ⟨k, hk, rfl⟩ := Option.map_eq_some_iff.mp hy
      have hi2 : i < ns.length := (List.getElem?_eq_some_iff.mp hk).1
      have hx5 := hx4.same (sk kp)
      have hc5 := sqT_same (sk kp) hc
      have tk := filt_step (nearP rs ns) hk
      have fl9 := filt_len ns i (nearP rs ns)
      refine ⟨rfl, _, rfl, _, rfl, x, C, dx, _, _, rfl, hx5.ins, B.cl, B.n3, rfl, dd, _, rfl, .inl ⟨_, Sum.inl k, .inl hx5.aims, rfl, rfl⟩, _, rfl, ?_⟩
      have em : (valV (aimD rs) (Sum.inl k)).isSome = decide (k ∈ zs (inn rs)) := mapD_is _ k (inn rs)
      rw [em]
      cases c1 : decide (k ∈ zs (inn rs)) with
      | false =>
        have z : nearP rs ns k = false := by unfold nearP; rw [c1]; rfl
        rw [z] at tk
        refine iteF (iteF ⟨kp, ?_⟩)
        rw [tk]
        show _ = some (HO.lst (((ns.take i).filter _ ++ []).map _))
        rw [List.append_nil]
        exact hD5
      | true =>
        refine iteT ⟨_, rfl, x, dx, _, rfl, hx5.ins, rfl, _, rfl, _, rfl, c, ns, k, rfl, hc5, l9, fun H6 t s6 _ ht => ?_⟩
        obtain ⟨d6, th6, it6⟩ := th_ints (.inr (SqT.of ht))
        refine ⟨x, _, rs, d6, offI k ns, rfl, draftV_same ((s4.trans (sk kp)).trans s6) dv0, th6, it6, ch_off ch (of_decide_eq_true c1), fun H7 s7 => ⟨_, rfl, ?_⟩⟩
        have kp7 : ∀ b o, b ≠ D → H4 b = some o → H7 b = some o := fun b o hb e => s7 _ _ (s6 _ _ (kp b o hb e))
        have hD7 := s7 _ _ (s6 _ _ hD5)
        have z : nearP rs ns k = decide (long (mem (offI k ns)) rs = []) := by unfold nearP; rw [c1]; rfl
        rw [z] at tk
        cases c2 : decide (long (mem (offI k ns)) rs = []) with
        | false =>
          rw [c2] at tk
          refine iteF ⟨kp7, ?_⟩
          rw [tk]
          show _ = some (HO.lst (((ns.take i).filter _ ++ []).map _))
          rw [List.append_nil]
          exact hD7
        | true =>
          rw [c2] at tk
          refine iteT ⟨_, rfl, _, hD7, ?_, fun b o hb e => by rw [upd_ne hb]; exact kp7 b o hb e, ?_⟩
          · rw [List.length_map]
            exact small1000 (by omega)
          · rw [upd_same, tk, if_pos rfl, List.map_append]
            rfl
    · rintro H5 ⟨kp, hD5⟩
      rw [List.length_map, List.take_length] at hD5
      have enr : ns.filter (nearP rs ns) = near rs ns := rfl
      rw [enr] at hD5
      have s5 := s4.trans (sk kp)
      have hc5 := sqT_same (sk kp) hc
      refine ⟨_, rfl, _, .inl ⟨_, SqL.of hD5, rfl⟩, ?_⟩
      cases en : near rs ns with
      | nil =>
        refine iteT ⟨_, rfl, q H5 c s5 ?_⟩
        have : shr rs = ns := by
          rw [es]
          cases fl with
          | zero => rfl
          | succ fl =>
            show (match near rs ns with | [] => ns | k :: _ => shrN rs fl (offI k ns)) = ns
            rw [en]
        rw [this]
        exact hc5
      | cons k ks =>
        rw [en] at hD5
        refine iteF ?_
        obtain ⟨kn, ki⟩ := near_mem (by rw [en]; exact List.mem_cons_self : k ∈ near rs ns)
        have ln := offI_len kn
        refine ⟨_, rfl, _, rfl, D, _, 0, _, rfl, rfl, SqL.of hD5, at_of (i := 0) (v := V.int k) rfl, ?_⟩
        refine ⟨c, ns, k, rfl, hc5, l9, fun H6 t s6 _ ht => ?_⟩
        refine ⟨_, ln, t, _, _, offI k ns, fl - 1, rfl, s5.trans s6, SqT.of ht, ch_off ch ki, by omega, ?_, rfl⟩
        rw [es]
        cases fl with
        | zero => omega
        | succ fl =>
          show (match near rs ns with | [] => ns | k :: _ => shrN rs fl (offI k ns)) = _
          rw [en]
          rfl
end

/-! ### sorted(xs), xs a list of plain data -/
section
variable {prog : Program} {w : World} {A : Around} {s : Shared}
/-- one tuple alone, empty or not, can be sorted -/
theorem sortsAt_one {vs : List Value} {ds : List PyData} (e : PySem.W.EachIs (fun v d => ∃ as, Reads s.heap v d as) vs ds) (hal : PySem.W.AllAlike ds) (ht : ∀ d ∈ ds, ∃ r, d = .tuple r) (few : vs.length < 2) (hu : ∀ d, d ∈ ds → A.units + d.depth < cLine) : PySem.W.SortsAt prog w A s (PySem.W.dataKind s.heap ds) vs := by
  refine ⟨fun v hv => ?_, tuples' false, ?_, fun h2 => by omega⟩
  · obtain ⟨d, hd, as, r⟩ := e.left v hv
    exact ⟨_, PySem.W.dataKind_some hal hd r⟩
  · intro E x y a b Q ha hb hq
    obtain ⟨d, as, hd, ra, rfl⟩ := PySem.W.dataKind_inv ha
    obtain ⟨d', as', hd', rb, rfl⟩ := PySem.W.dataKind_inv hb
    have hdd := hal d hd d' hd'
    have hroom : A.units + min d.depth d'.depth < cLine := Nat.lt_of_le_of_lt (Nat.add_le_add_left (Nat.min_le_left _ _) _) (hu d hd)
    obtain ⟨r1, rfl⟩ := ht d hd
    obtain ⟨r2, rfl⟩ := ht d' hd'
    have hq' : Q (PySem.W.dataLt (.tuple r1) (.tuple r2)) s := hq
    rw [PySem.W.dataLt_tuple] at hq'
    cases ra with
    | @tuple l o xs n _ _ h1 h2 h3 h4 =>
      cases rb with
      | @tuple l' o' xs' n' _ _ k1 k2 k3 k4 =>
        have n1 : xs.size = r1.length := by simpa using SeqAt.ReadsAll.length _ _ _ h4
        have n2 : xs'.size = r2.length := by simpa using SeqAt.ReadsAll.length _ _ _ k4
        refine PySem.W.kat_lt h1 h3 k1 k3 (PySem.W.katLex_alike r1 r2 0 _ _ _ _ h4 k4 (by simpa [PySem.W.alike] using hdd) (by have q := SeqAt.room_in hroom; omega) (fun hb => by cases hb) (by rw [n1, n2]) hq')
end
abbrev leD (a b : V × PyData) : Bool := PySem.W.dataLe false Prod.snd a b
def rSortedD (K : PySem.W.Frag) : List V → Hp → VK → Prop := fun vs H Q => ∃ (a : Addr) (zs : List (V × PyData)), vs = [.ref a] ∧ SqL K H a (zs.map Prod.fst) ∧ (∀ z ∈ zs, Dp K H z.1 z.2 ∧ z.2.depth ≤ 5) ∧ PySem.W.AllAlike (zs.map Prod.snd) ∧
  (PySem.W.Sortable (zs.map Prod.snd) ∨ (zs.length < 2 ∧ ∀ d ∈ zs.map Prod.snd, ∃ r, d = .tuple r)) ∧ ∀ p, H p = none → Q (.ref p) (upd H p (.lst ((zs.mergeSort leD).map Prod.fst)))
theorem each_valsD : ∀ {zs : List (V × PyData)} {its : List Value}, Vals (zs.map Prod.fst) its → PySem.W.EachIs (fun v (z : V × PyData) => RelV z.1 v) its zs
  | [], _, h => by
    cases h
    exact .nil
  | z :: zs, _, h => by
    cases h with
    | cons h1 h2 => exact .cons h1 (each_valsD h2)
theorem vals_eachD : ∀ {zs : List (V × PyData)} {its : List Value}, PySem.W.EachIs (fun v (z : V × PyData) => RelV z.1 v) its zs → Vals (zs.map Prod.fst) its
  | _, _, .nil => .nil
  | _, _, .cons h t => .cons h (vals_eachD t)
theorem each_impD {α β : Type} {R S : α → β → Prop} : ∀ {as : List α} {bs : List β}, (∀ a b, b ∈ bs → R a b → S a b) → PySem.W.EachIs R as bs → PySem.W.EachIs S as bs
  | _, _, _, .nil => .nil
  | _, _, f, .cons h t => .cons (f _ _ (List.mem_cons_self ..) h) (each_impD (fun a b hb => f a b (List.mem_cons_of_mem _ hb)) t)
theorem cr_sortedD {X : Cx} {k : Nat} (hr : Room k X.A) : CallR X (.builtin "sorted") (rSortedD X.K) := by
  intro pn s σ H vs us Q I r h
  obtain ⟨a, zs, rfl, hs, hz, hal, hk, q⟩ := h
  obtain ⟨its, rv, hl, hz9⟩ := I.list hs
  obtain ⟨u, rfl, ru⟩ := vals1 r
  obtain rfl : u = Value.ref a := ru
  have e := each_valsD rv
  have er : PySem.W.EachIs (fun v (z : V × PyData) => ∃ as, Reads s.heap v z.2 as) its zs := each_impD (fun v z hm hv => Dp.reads I z.2 z.1 v (hz z hm).1 hv) e
  have er' : PySem.W.EachIs (fun v (z : V × PyData) => ∃ as, Reads (PySem.W.sortingHeap (PySem.W.copyHeap s.heap its) (s.heap.objs.size + 1) its) v z.2 as) its zs := each_impD (fun v z hm ⟨as, r⟩ => ⟨as, PyProof.Rows.Reads.keeps (fun _ _ => PySem.W.sorting_copy_old) r⟩) er
  have em : PySem.W.EachIs (fun v d => ∃ as, Reads (PySem.W.sortingHeap (PySem.W.copyHeap s.heap its) (s.heap.objs.size + 1) its) v d as) its (zs.map Prod.snd) := PySem.W.each_map (R := fun v d => ∃ as, Reads (PySem.W.sortingHeap (PySem.W.copyHeap s.heap its) (s.heap.objs.size + 1) its) v d as) Prod.snd er'
  have hu : ∀ d, d ∈ zs.map Prod.snd → X.A.in1.in1.units + d.depth < cLine := fun d hd => by
    obtain ⟨z, hm, rfl⟩ := List.mem_map.mp hd
    have h1 := (hz z hm).2
    have h2 := hr.units
    show X.A.units + 1 + 1 + _ < cLine
    omega
  have S : PySem.W.SortsAt X.prog X.w X.A.in1.in1 { s with heap := PySem.W.sortingHeap (PySem.W.copyHeap s.heap its) (s.heap.objs.size + 1) its } (PySem.W.dataKind (PySem.W.sortingHeap (PySem.W.copyHeap s.heap its) (s.heap.objs.size + 1) its) (zs.map Prod.snd)) its := by
    rcases hk with hk | ⟨hk, ht⟩
    · exact PySem.W.SortsAt.data (s := { s with heap := PySem.W.sortingHeap (PySem.W.copyHeap s.heap its) (s.heap.objs.size + 1) its }) em hal hk hu
    · exact sortsAt_one (s := { s with heap := PySem.W.sortingHeap (PySem.W.copyHeap s.heap its) (s.heap.objs.size + 1) its }) em hal ht (by rw [e.length]; exact hk) hu
  have hzl : its.length ≤ sizeLine := by rw [e.length]; rw [List.length_map] at hz9; exact hz9
  refine PySem.W.sorted_vals hl.isList S hzl ?_
  have srt := PySem.W.sortVals_data (h' := PySem.W.sortingHeap (PySem.W.copyHeap s.heap its) (s.heap.objs.size + 1) its) (R := fun v (z : V × PyData) => RelV z.1 v) (enc := Prod.snd) false e er' hal
  have rv2 := vals_eachD srt
  obtain ⟨n, hn⟩ := sortedAll_at s.heap its (PySem.W.sortVals (PySem.W.dataKind (PySem.W.sortingHeap (PySem.W.copyHeap s.heap its) (s.heap.objs.size + 1) its) (zs.map Prod.snd)) false its its).toArray
  refine ⟨.ref (s.heap.objs.size + 1), upd H (s.heap.objs.size + 1) (.lst ((zs.mergeSort leD).map Prod.fst)), I.laid (t' := s.toks) (fun b o e => sortedAll_old e) (Nat.le_succ _) ⟨?_, _, n, rv2, hn⟩, rfl, q _ (I.hok.fresh (Nat.le_succ _))⟩
  rw [List.length_map, (List.mergeSort_perm _ _).length_eq, ← e.length]
  exact hzl

/-! ### choices: the mathematics -/
/-- all choices of r of these, in their order -/
def chs : List Nat → Nat → List (List Nat)
  | _, 0 => [[]]
  | [], _ + 1 => []
  | x :: xs, r + 1 => (chs xs r).map (x :: ·) ++ chs xs (r + 1)
theorem chs_zero (xs : List Nat) : chs xs 0 = [[]] := by cases xs <;> rfl
theorem mem_chs : ∀ {xs : List Nat} {r : Nat} {c : List Nat}, c ∈ chs xs r ↔ c.Sublist xs ∧ c.length = r
  | xs, 0, c => by
    rw [chs_zero, List.mem_singleton]
    constructor
    · rintro rfl
      exact ⟨List.nil_sublist _, rfl⟩
    · rintro ⟨_, h⟩
      exact List.length_eq_zero_iff.mp h
  | [], r + 1, c => by
    show c ∈ [] ↔ _
    constructor
    · intro h
      cases h
    · rintro ⟨h1, h2⟩
      rw [List.sublist_nil.mp h1] at h2
      cases h2
  | x :: xs, r + 1, c => by
    show c ∈ (chs xs r).map (x :: ·) ++ chs xs (r + 1) ↔ _
    rw [List.mem_append, List.mem_map, mem_chs (xs := xs) (r := r + 1)]
    constructor
    · rintro (⟨c', h, rfl⟩ | ⟨h1, h2⟩)
      · obtain ⟨h1, h2⟩ := mem_chs.mp h
        exact ⟨h1.cons_cons x, by simp [h2]⟩
      · exact ⟨h1.cons x, h2⟩
    · rintro ⟨h1, h2⟩
      cases h1 with
      | cons _ h => exact .inr ⟨h, h2⟩
      | cons_cons _ h => exact .inl ⟨_, mem_chs.mpr ⟨h, by simpa using h2⟩, rfl⟩
theorem chs_nodup : ∀ {xs : List Nat} (r : Nat), xs.Nodup → (chs xs r).Nodup
  | xs, 0, _ => by
    rw [chs_zero]
    simp
  | [], r + 1, _ => List.nodup_nil
  | x :: xs, r + 1, h => by
    obtain ⟨h1, h2⟩ := List.nodup_cons.mp h
    show ((chs xs r).map (x :: ·) ++ chs xs (r + 1)).Nodup
    refine List.nodup_append.mpr ⟨?_, chs_nodup (r + 1) h2, fun a ha b hb e => ?_⟩
    · exact List.Pairwise.map _ (fun a b h e => h (List.cons.inj e).2) (chs_nodup r h2)
    · obtain ⟨c, _, rfl⟩ := List.mem_map.mp ha
      rw [← e] at hb
      exact h1 ((mem_chs.mp hb).1.subset (List.mem_cons_self ..))
theorem chs_len : ∀ (xs : List Nat) (r : Nat), (chs xs r).length ≤ 2 ^ xs.length
  | xs, 0 => by
    rw [chs_zero]
    exact Nat.one_le_two_pow
  | [], r + 1 => Nat.zero_le _
  | x :: xs, r + 1 => by
    show ((chs xs r).map (x :: ·) ++ chs xs (r + 1)).length ≤ _
    rw [List.length_append, List.length_map, List.length_cons, Nat.pow_succ]
    have h1 := chs_len xs r
    have h2 := chs_len xs (r + 1)
    omega
theorem pow8 {n : Nat} (h : n < 8) : 2 ^ n ≤ 128 := by
  have : n ≤ 7 := by omega
  exact Nat.le_trans (Nat.pow_le_pow_right (by decide) this) (by decide)
/-- a choice, all of it -/
def chW (rs : List Row) (c : List Nat) : List Int := zs ((brs rs).filter fun k => decide (k ∈ outs rs) || decide (k ∈ c))
abbrev leI (a b : List Int) : Bool := decide (a ≤ b)
def chM (rs : List Row) (m : Nat) : List (List Int) := ((chs (inn rs) m).map (chW rs)).mergeSort leI
def fitB (rs : List Row) (ns : List Int) : Bool := decide (long (mem ns) rs = [])
def fitsM (rs : List Row) (m : Nat) : List (List Int) := (chM rs m).filter (fitB rs)
/-- all choices that fit, as they are told -/
def allF (rs : List Row) : List (List Int) := (List.range ((inn rs).length + 1)).flatMap (fitsM rs)
theorem brs_asc (rs : List Row) : (brs rs).Pairwise (· < ·) := by
  unfold brs brsTo
  exact List.Pairwise.sublist (List.filter_sublist ..) List.pairwise_lt_range
theorem zs_asc {ks : List Nat} (h : ks.Pairwise (· < ·)) : (zs ks).Pairwise (· < ·) := by
  unfold zs
  rw [List.pairwise_map]
  exact h.imp fun z => by omega
theorem chW_mem {rs : List Row} {c : List Nat} (hc : ∀ k ∈ c, k ∈ inn rs) {k : Nat} : (k : Int) ∈ chW rs c ↔ k ∈ outs rs ∨ k ∈ c := by
  unfold chW
  rw [mem_zs]
  constructor
  · rintro ⟨j, hj, e⟩
    obtain rfl : j = k := by omega
    obtain ⟨_, h⟩ := List.mem_filter.mp hj
    simpa using h
  · intro h
    refine ⟨k, List.mem_filter.mpr ⟨?_, by simpa using h⟩, rfl⟩
    rcases h with h | h
    · exact (List.mem_filter.mp h).1
    · have h := hc k h
      rw [← brs_inn] at h
      exact (List.mem_filter.mp h).1
theorem chW_asc (rs : List Row) (c : List Nat) : (chW rs c).Pairwise (· < ·) := zs_asc (List.Pairwise.sublist (List.filter_sublist ..) (brs_asc rs))
theorem asc_ext {a b : List Int} (ha : a.Pairwise (· < ·)) (hb : b.Pairwise (· < ·)) (h : ∀ y, y ∈ a ↔ y ∈ b) : a = b := by
  have na : a.Nodup := ha.imp fun h => by omega
  have nb : b.Nodup := hb.imp fun h => by omega
  exact ((List.perm_ext_iff_of_nodup na nb).mpr h).eq_of_pairwise (fun x y _ _ h1 h2 => by omega) ha hb
theorem inn_asc (rs : List Row) : (inn rs).Pairwise (· < ·) := by
  rw [← brs_inn]
  exact List.Pairwise.sublist (List.filter_sublist ..) (brs_asc rs)
theorem outs_nodup (rs : List Row) : (outs rs).Nodup := List.Nodup.sublist (List.filter_sublist ..) (brs_nodup rs)
theorem sub_nodup {rs : List Row} {c : List Nat} (h : c.Sublist (inn rs)) : c.Nodup := List.Nodup.sublist h ((inn_asc rs).imp fun z => by omega)
/-- what sorted makes of outs and a choice of the others -/
theorem chW_perm {rs : List Row} {c : List Nat} (h : c.Sublist (inn rs)) {ns : List Int} (p : ns.Perm (zs (outs rs ++ c))) (s : ns.Pairwise (· ≤ ·)) : ns = chW rs c := by
  have hc : ∀ k ∈ c, k ∈ inn rs := fun k hk => h.subset hk
  have nod : (outs rs ++ c).Nodup := List.nodup_append.mpr ⟨outs_nodup rs, sub_nodup h, fun a ha b hb e => by
    rw [e] at ha
    exact inn_not_outs (hc b hb) ha⟩
  have nodz : (zs (outs rs ++ c)).Nodup := by
    unfold zs
    exact List.Pairwise.map _ (fun a b h e => h (by omega)) nod
  have nodn : ns.Nodup := p.nodup_iff.mpr nodz
  have asc : ns.Pairwise (· < ·) := (List.pairwise_and_iff.mpr ⟨s, nodn⟩).imp fun ⟨h1, h2⟩ => by omega
  refine asc_ext asc (chW_asc rs c) fun y => ?_
  rw [p.mem_iff, mem_zs]
  constructor
  · rintro ⟨k, hk, rfl⟩
    exact (chW_mem hc).mpr (List.mem_append.mp hk)
  · intro hy
    obtain ⟨k, _, e⟩ := mem_zs.mp hy
    rw [← e] at hy
    exact ⟨k, List.mem_append.mpr ((chW_mem hc).mp hy), e⟩
theorem chW_len {rs : List Row} {c : List Nat} (h : c.Sublist (inn rs)) : (chW rs c).length = (outs rs).length + c.length := by
  have := chW_perm (rs := rs) h (ns := (zs (outs rs ++ c)).mergeSort (fun a b => decide (a ≤ b))) (List.mergeSort_perm _ _) (by
    have := List.pairwise_mergeSort (le := fun a b : Int => decide (a ≤ b)) (fun a b c h1 h2 => by simp at *; omega) (fun a b => by simp; omega) (zs (outs rs ++ c))
    exact this.imp fun z => by simpa using z)
  rw [← this, (List.mergeSort_perm _ _).length_eq, zs_len, List.length_append]
theorem chW_inj {rs : List Row} {c d : List Nat} (hc : c.Sublist (inn rs)) (hd : d.Sublist (inn rs)) (e : chW rs c = chW rs d) : c = d := by
  have ac : c.Pairwise (· < ·) := List.Pairwise.sublist hc (inn_asc rs)
  have ad : d.Pairwise (· < ·) := List.Pairwise.sublist hd (inn_asc rs)
  have one : ∀ {c d : List Nat}, c.Sublist (inn rs) → d.Sublist (inn rs) → chW rs c = chW rs d → ∀ k ∈ c, k ∈ d := by
    intro c d hc hd e k hk
    have h1 := (chW_mem (fun k hk => hc.subset hk)).mpr (.inr hk : k ∈ outs rs ∨ k ∈ c)
    rw [e] at h1
    rcases (chW_mem (fun k hk => hd.subset hk)).mp h1 with h | h
    · exact absurd h (inn_not_outs (hc.subset hk))
    · exact h
  have nc : c.Nodup := sub_nodup hc
  have nd : d.Nodup := sub_nodup hd
  exact ((List.perm_ext_iff_of_nodup nc nd).mpr fun k => ⟨one hc hd e k, one hd hc e.symm k⟩).eq_of_pairwise (fun x y _ _ h1 h2 => by omega) ac ad
theorem ch_chW {rs : List Row} {c : List Nat} (h : c.Sublist (inn rs)) (l : rs.length ≤ 900) : ChOk rs (chW rs c) := by
  refine ⟨fun n hn => ?_, chW_asc rs c, fun k hk => (chW_mem fun k hk => h.subset hk).mpr (.inl hk), ?_⟩
  · obtain ⟨k, hk, e⟩ := mem_zs.mp hn
    exact List.mem_map.mpr ⟨k, (List.mem_filter.mp hk).1, e⟩
  · unfold chW
    rw [zs_len]
    have h1 := List.length_filter_le (fun k => decide (k ∈ outs rs) || decide (k ∈ c)) (brs rs)
    have h2 := brs_len rs
    omega
/-- any right choice is one of these -/
theorem chW_of {rs : List Row} {ns : List Int} (h : ChOk rs ns) : ∃ c, c.Sublist (inn rs) ∧ ns = chW rs c := by
  refine ⟨(inn rs).filter fun k => decide ((k : Int) ∈ ns), List.filter_sublist .., asc_ext h.asc (chW_asc rs _) fun y => ?_⟩
  constructor
  · intro hy
    obtain ⟨k, hk, e⟩ := List.mem_map.mp (h.br y hy)
    have e : (k : Int) = y := e
    subst e
    rw [chW_mem fun k hk => (List.mem_filter.mp hk).1]
    by_cases ho : k ∈ outs rs
    · exact .inl ho
    · refine .inr (List.mem_filter.mpr ⟨?_, by simpa using hy⟩)
      rw [← brs_inn]
      refine List.mem_filter.mpr ⟨hk, ?_⟩
      cases z : (aim rs k).isSome with
      | true => rfl
      | false =>
        refine absurd (List.mem_filter.mpr ⟨hk, ?_⟩) ho
        cases z2 : aim rs k with
        | none => rfl
        | some j => rw [z2] at z; cases z
  · intro hy
    obtain ⟨k, _, e⟩ := mem_zs.mp hy
    have e : (k : Int) = y := e
    subst e
    rcases (chW_mem fun k hk => (List.mem_filter.mp hk).1).mp hy with ho | hk
    · exact h.out k ho
    · simpa using (List.mem_filter.mp hk).2
theorem mem_chM {rs : List Row} {m : Nat} {ns : List Int} : ns ∈ chM rs m ↔ ∃ c, c.Sublist (inn rs) ∧ c.length = m ∧ ns = chW rs c := by
  unfold chM
  rw [List.mem_mergeSort, List.mem_map]
  constructor
  · rintro ⟨c, hc, rfl⟩
    obtain ⟨h1, h2⟩ := mem_chs.mp hc
    exact ⟨c, h1, h2, rfl⟩
  · rintro ⟨c, h1, h2, rfl⟩
    exact ⟨c, mem_chs.mpr ⟨h1, h2⟩, rfl⟩
theorem mem_allF {rs : List Row} (l : rs.length ≤ 900) {ns : List Int} : ns ∈ allF rs ↔ ChOk rs ns ∧ long (mem ns) rs = [] := by
  unfold allF fitsM
  rw [List.mem_flatMap]
  constructor
  · rintro ⟨m, hm, h⟩
    obtain ⟨h1, h2⟩ := List.mem_filter.mp h
    obtain ⟨c, hc, _, rfl⟩ := mem_chM.mp h1
    exact ⟨ch_chW hc l, of_decide_eq_true h2⟩
  · rintro ⟨h1, h2⟩
    obtain ⟨c, hc, rfl⟩ := chW_of h1
    refine ⟨c.length, List.mem_range.mpr ?_, List.mem_filter.mpr ⟨mem_chM.mpr ⟨c, hc, rfl, rfl⟩, decide_eq_true h2⟩⟩
    have := hc.length_le
    omega
/-- shorter ones first, those of one length as lists are compared -/
def lt2 (a b : List Int) : Prop := a.length < b.length ∨ (a.length = b.length ∧ a < b)
theorem lt2_irrefl (a : List Int) : ¬ lt2 a a := by
  rintro (h | ⟨_, h⟩)
  · omega
  · exact absurd h (List.lt_irrefl a)
theorem lt2_asymm {a b : List Int} (h1 : lt2 a b) : ¬ lt2 b a := by
  intro h2
  rcases h1 with h1 | ⟨e1, h1⟩ <;> rcases h2 with h2 | ⟨e2, h2⟩
  · omega
  · omega
  · omega
  · exact absurd (List.lt_trans h1 h2) (List.lt_irrefl a)
theorem lt2_ext {A B : List (List Int)} (ha : A.Pairwise lt2) (hb : B.Pairwise lt2) (h : ∀ y, y ∈ A ↔ y ∈ B) : A = B := by
  have na : A.Nodup := ha.imp fun h e => by rw [e] at h; exact lt2_irrefl _ h
  have nb : B.Nodup := hb.imp fun h e => by rw [e] at h; exact lt2_irrefl _ h
  exact ((List.perm_ext_iff_of_nodup na nb).mpr h).eq_of_pairwise (fun x y _ _ h1 h2 => absurd h2 (lt2_asymm h1)) ha hb
theorem chM_lt {rs : List Row} (m : Nat) : (chM rs m).Pairwise lt2 := by
  have nod : (chM rs m).Nodup := by
    unfold chM
    refine (List.mergeSort_perm _ _).nodup_iff.mpr ?_
    have nd := chs_nodup m ((inn_asc rs).imp fun z => by omega)
    unfold List.Nodup
    rw [List.pairwise_map]
    exact List.Pairwise.imp_of_mem (fun {a b} ha hb h e => h (chW_inj (mem_chs.mp ha).1 (mem_chs.mp hb).1 e)) nd
  have srt : (chM rs m).Pairwise (fun a b => leI a b = true) := List.pairwise_mergeSort (fun a b c h1 h2 => by
    have h1 := of_decide_eq_true h1
    have h2 := of_decide_eq_true h2
    exact decide_eq_true (List.le_trans h1 h2)) (fun a b => by
      rcases List.le_total a b with h | h
      · simp [leI, h]
      · simp [leI, h]) _
  refine List.Pairwise.imp_of_mem (fun {a b} ha hb h => ?_) (List.pairwise_and_iff.mpr ⟨srt, nod⟩)
  obtain ⟨c, hc, lc, rfl⟩ := mem_chM.mp ha
  obtain ⟨d, hd, ld, rfl⟩ := mem_chM.mp hb
  refine .inr ⟨by rw [chW_len hc, chW_len hd, lc, ld], ?_⟩
  have le : chW rs c ≤ chW rs d := of_decide_eq_true h.1
  by_cases z : chW rs c < chW rs d
  · exact z
  · exact absurd (List.le_antisymm le (List.not_lt.mp z)) h.2
theorem allF_lt (rs : List Row) : (allF rs).Pairwise lt2 := by
  unfold allF
  have : ∀ n, ((List.range n).flatMap (fitsM rs)).Pairwise lt2 := by
    intro n
    induction n with
    | zero => exact .nil
    | succ n ih =>
      rw [List.range_succ, List.flatMap_append]
      refine List.pairwise_append.mpr ⟨ih, ?_, fun a ha b hb => ?_⟩
      · simp only [List.flatMap_cons, List.flatMap_nil, List.append_nil]
        exact List.Pairwise.sublist (List.filter_sublist ..) (chM_lt n)
      · simp only [List.flatMap_cons, List.flatMap_nil, List.append_nil] at hb
        obtain ⟨m, hm, h⟩ := List.mem_flatMap.mp ha
        obtain ⟨c, hc, lc, rfl⟩ := mem_chM.mp (List.mem_filter.mp h).1
        obtain ⟨d, hd, ld, rfl⟩ := mem_chM.mp (List.mem_filter.mp hb).1
        refine .inl ?_
        rw [chW_len hc, chW_len hd, lc, ld]
        have := List.mem_range.mp hm
        omega
  exact this _
theorem fitsM_len {rs : List Row} (h : (inn rs).length < 8) (m : Nat) : (fitsM rs m).length ≤ 128 := by
  unfold fitsM chM
  refine Nat.le_trans (List.length_filter_le _ _) ?_
  rw [(List.mergeSort_perm _ _).length_eq, List.length_map]
  exact Nat.le_trans (chs_len _ m) (pow8 h)
theorem allTo_len {rs : List Row} (h : (inn rs).length < 8) : ∀ n, ((List.range n).flatMap (fitsM rs)).length ≤ 128 * n
  | 0 => Nat.le_refl _
  | n + 1 => by
    rw [List.range_succ, List.flatMap_append, List.length_append]
    simp only [List.flatMap_cons, List.flatMap_nil, List.append_nil]
    have h1 := allTo_len h n
    have h2 := fitsM_len h n
    omega
theorem allF_len {rs : List Row} (h : (inn rs).length < 8) : (allF rs).length ≤ 1024 := by
  have := allTo_len h ((inn rs).length + 1)
  unfold allF
  omega

/-! ### combinations of a list's members: what the table says -/
abbrev cmbT : String := "itertools.combinations"
abbrev cmbN : String := "itertools.combinations.__new__"
theorem cmb_mro : mroOf (.type cmbT) = pure [.type cmbT, .type "object"] := by
  rw [mroOf_type]
  kernel_rfl
theorem cmb_new : typeLookup (.type cmbT) "__new__" = pure (some (.builtin cmbN)) := by
  rw [typeLookup_type, builtinLookup_eq_fast]
  kernel_rfl
theorem cmb_sInit : Slot cmbT "__init__" "object.__init__" :=
  Slot.of (n := "__init__") (owner := "object") (by rw [typeLookup_type, builtinLookup_eq_fast]; kernel_rfl) (by decide +kernel) (by decide +kernel) (by decide +kernel) (by first | exact .inl (by decide +kernel) | exact .inr (by decide +kernel)) (by rw [isSubtype_type]; kernel_rfl)
theorem cmb_sNext : Slot cmbT "__next__" "itertools.combinations.__next__" :=
  Slot.of (n := "__next__") (owner := cmbT) (by rw [typeLookup_type, builtinLookup_eq_fast]; kernel_rfl) (by decide +kernel) (by decide +kernel) (by decide +kernel) (by first | exact .inl (by decide +kernel) | exact .inr (by decide +kernel)) (by rw [isSubtype_type]; kernel_rfl)
theorem cmb_sIter : Slot cmbT "__iter__" "itertools.combinations.__iter__" :=
  Slot.of (n := "__iter__") (owner := cmbT) (by rw [typeLookup_type, builtinLookup_eq_fast]; kernel_rfl) (by decide +kernel) (by decide +kernel) (by decide +kernel) (by first | exact .inl (by decide +kernel) | exact .inr (by decide +kernel)) (by rw [isSubtype_type]; kernel_rfl)
theorem cmb_sub : isSubtype (.type cmbT) (.type cmbT) = pure true := by
  rw [isSubtype_type]
  kernel_rfl
theorem cmb_called : TypeCalled cmbT cmbN "object.__init__" :=
  ⟨by decide +kernel, by decide +kernel, ⟨_, _, cmb_mro⟩, madeBy_type cmb_mro cmb_new (by decide +kernel), by decide +kernel, cmb_sub, cmb_sInit⟩
theorem cmb_tc (a b : Value) : checkTypeCall cmbT ⟨[a, b], []⟩ = pure () := by kernel_rfl
theorem cmb_nc (a b : Value) : checkBuiltinCall cmbN ⟨[.type cmbT, a, b], []⟩ = pure () := by kernel_rfl
theorem cmb_eNew : entryFor table cmbN = some Builtin.«itertools.combinations.__new__» := entryFor_of_tree (by kernel_rfl)
theorem cmb_eNext : entryFor table "itertools.combinations.__next__" = some Builtin.«itertools.combinations.__next__» := entryFor_of_tree (by kernel_rfl)

open AutoSeq1 (wpAny_loadPart') in
theorem meets_cmb (l : Addr) (its : Array Value) (ol : Obj) (co : ol.cls = .type "list") (n : Nat) (dd : ol.data = .seq its n) (m : Nat) (hm : m ≤ its.size) (h9 : its.size ≤ 1000) (t : Tok) :
    Meets (Builtin.«itertools.combinations.__new__» ⟨[.type cmbT, .ref l, .int (m : Int) t], []⟩) (fun _ R s => s.heap.get? l = some ol ∧
      ∀ g z p, (∀ b o, s.heap.get? b = some o → g.get? b = some o) → g.get? z = some { cls := .type cmbT, data := .fields ([.ref p, rawInt 0, .none] ++ (List.range m).map fun (i : Nat) => rawInt i).toArray } → g.get? p = some { cls := .type "tuple", data := .seq its } → (∀ b o, s.heap.get? b = some o → b < p ∧ b < z) → p ≠ z →
        R (.ok (.ret (.ref z))) { s with heap := g }) :=
  .of_wp fun prog w A R s goal => by
    obtain ⟨hp, gg, dp, tk, os⟩ := s
    obtain ⟨get, goal⟩ := goal
    obtain ⟨c0, d0, dt0, s0⟩ := ol
    dsimp only at co dd
    subst co
    subst dd
    have below := cmb_sub
    wp_walk using wpAny_loadPart' get
    rw [show ("itertools." ++ "combinations" : String) = cmbT from rfl, below]
    refine wpAny_pure ?_
    wp_walk using wpAny_loadPart' get
    have m0 : (0 : Int) ≤ (m : Int) := Int.natCast_nonneg m
    have m1 : ((m : Nat) : Int) ≤ 1000 := by omega
    have c1 : (decide (((m : Nat) : Int) < -2 ^ 63) || decide (((m : Nat) : Int) ≥ 2 ^ 63)) = false := by
      rw [decide_eq_false (by omega), decide_eq_false (by omega)]
      rfl
    rw [if_neg (by rw [c1]; exact Bool.false_ne_true)]
    refine wpAny_pure ?_
    refine wpAny_bind (wpAny_collect_seq l (.inl rfl) get rfl rfl (fun h1 k1 => ?_) (Nat.le_trans h9 (by decide)))
    dsimp only
    have c2 : Builtin.Itertools.itTooMany ((m : Nat) : Int) = false := decide_eq_false (by omega)
    rw [if_neg (by omega), if_neg (by rw [c2]; exact Bool.false_ne_true)]
    refine wpAny_bind (wpAny_newTuple ?_ (by rw [Array.length_toList]; exact Nat.le_trans h9 (by decide)))
    refine wpAny_pure ?_
    dsimp only
    have c3 : typeHasDict (.type cmbT) = false := by kernel_rfl
    unfold Builtin.Itertools.itNewRecord
    rw [c3]
    rw [if_pos (by rfl : (!false) = true), Int.toNat_natCast, if_neg (by rw [Array.length_toList]; omega), Array.toArray_toList]
    refine wpAny_bind (wpAny_newObj_type ?_ (by
      show ([Value.ref h1.objs.size, rawInt 0, Value.none] ++ (List.range m).map fun (i : Nat) => rawInt i).toArray.size ≤ sizeLine + 2
      rw [List.size_toArray, List.length_append, List.length_map, List.length_range]
      show 3 + m ≤ sizeLine + 2
      have : 1001 ≤ sizeLine := by decide
      omega))
    refine wpAny_pure ⟨_, rfl, ?_⟩
    have k2 : ∀ b o, h1.get? b = some o → (h1.push { cls := .type "tuple", data := .seq its }).get? b = some o := fun b o e => Heap.get?_push_of_some _ e
    have z1 : (h1.push { cls := .type "tuple", data := .seq its }).get? h1.objs.size = some { cls := .type "tuple", data := .seq its } := Heap.get?_push_size _ rfl
    have sz : (h1.push { cls := .type "tuple", data := .seq its }).objs.size = h1.objs.size + 1 := Heap.size_push ..
    refine goal _ _ h1.objs.size (fun b o e => Heap.get?_push_of_some _ (k2 b o (k1 b o e))) (Heap.get?_push_size _ rfl) (Heap.get?_push_of_some _ z1) (fun b o e => ?_) ?_
    · rw [sz]
      have := Heap.lt_size (k1 b o e)
      exact ⟨this, Nat.lt_succ_of_lt this⟩
    · rw [sz]
      exact Nat.ne_of_lt (Nat.lt_succ_self _)
theorem objOk_at {P : Program} {w : World} {H : Hp} {h : Heap} {a : Addr} : ∀ {o : HO}, ObjOk P w H h a o → ∃ u, h.get? a = some u
  | .lst _, ⟨_, _, _, _, e⟩ => ⟨_, e⟩
  | .tup _, ⟨_, _, _, _, e, _⟩ => ⟨_, e⟩
  | .dK _, ⟨_, _, _, _, _, _, _, e, _⟩ => ⟨_, e⟩
  | .dT _, ⟨_, _, _, _, _, _, _, e, _⟩ => ⟨_, e⟩
  | .set _ _, ⟨_, _, _, _, e, _⟩ => ⟨_, e⟩
  | .ins _ _ _, ⟨_, _, _, e, _⟩ => ⟨_, e⟩
  | .own _, ⟨_, e⟩ => ⟨_, e⟩
  | .xd _, ⟨_, ⟨_, _, _, e, _⟩, _⟩ => ⟨_, e⟩
  | .rng _ _, ⟨_, _, _, e⟩ => ⟨_, e⟩
  | .frz _ _, ⟨e, _⟩ => ⟨_, e⟩
  | .tbl ps, x => ⟨_, (show h.get? a = some _ from x)⟩
  | .met f y, x => ⟨_, (show h.get? a = some _ from x)⟩
  | .ext _, ⟨_, e, _⟩ => e
/-- new objects may turn -/
theorem fpOk_above {X : Cx} {pins : List (Addr × Obj)} {σ : L2.St} {H : Hp} {s : Shared} {p : Addr} (I : Inv X pins σ H s) (lt : ∀ b o, s.heap.get? b = some o → b < p) : FpOk X pins H p := by
  obtain ⟨m, ⟨o, es, ep, ho, _⟩, _⟩ := I.loc
  have lo := lt _ _ ho
  have ge : X.s_0.heap.objs.size ≤ p := Nat.le_trans I.ok.above (Nat.le_of_lt lo)
  refine ⟨?_, Nat.ne_of_gt lo, fun hb => ?_, .inr ge, fun x c e z => ?_, fun q hq z => ?_⟩
  · cases e : H p with
    | none => rfl
    | some u =>
      obtain ⟨o2, ho2⟩ := objOk_at (I.hok p u e)
      exact absurd (lt _ _ ho2) (Nat.lt_irrefl _)
  · obtain ⟨_, o2, ho2, _⟩ := I.ok.funs.mem hb
    exact absurd (Nat.lt_of_lt_of_le (Heap.lt_size ho2) ge) (Nat.lt_irrefl _)
  · obtain ⟨v, o2, ho2, _⟩ := I.cell x c e
    exact absurd (lt _ _ ho2) (by rw [z]; exact Nat.lt_irrefl _)
  · exact absurd (lt _ _ (I.pin q hq).1) (by rw [z]; exact Nat.lt_irrefl _)
theorem call_cmb {prog : Program} {w : World} {A : Around} {E : Value → Shared → Prop} {s : Shared} {l : Addr} {its : Array Value} {ol : Obj} (get : s.heap.get? l = some ol) (co : ol.cls = .type "list") {n : Nat} (dd : ol.data = .seq its n) {m : Nat} (hm : m ≤ its.size) (h9 : its.size ≤ 1000) {t : Tok} {Q : Value → Shared → Prop}
    (go : ∀ g z p, (∀ b o, s.heap.get? b = some o → g.get? b = some o) → g.get? z = some { cls := .type cmbT, data := .fields ([.ref p, rawInt 0, .none] ++ (List.range m).map fun (i : Nat) => rawInt i).toArray } → g.get? p = some { cls := .type "tuple", data := .seq its } → (∀ b o, s.heap.get? b = some o → b < p ∧ b < z) → p ≠ z → Q (.ref z) { s with heap := g }) :
    wpAny (model prog w) A (call (.type cmbT) [.ref l, .int (m : Int) t]) Q E s := by
  refine callType_new cmb_called (by decide) (cmb_tc _ _) (cmb_nc _ _) (fun obj => F.args_object_init_3 obj _ _) cmb_eNew (meets_cmb l its ol co n dd m hm h9 t) ⟨get, fun g z p k1 hz hp lt ne => ?_⟩
  exact ⟨⟨_, hz, rfl⟩, go g z p k1 hz hp lt ne⟩

theorem cmb_own : Manifest.owners.lookup (String.ofList (['s', 'n', 'o', 'i', 't', 'a', 'n', 'i', 'b', 'm', 'o', 'c', '.', 's', 'l', 'o', 'o', 't', 'r', 'e', 't', 'i'] : List Char).reverse) = some Manifest.sig_itertools_combinations := by kernel_rfl
theorem cmb_aNext (a : Value) : argsOk "itertools.combinations.__next__" ⟨[a], []⟩ := by
  unfold argsOk
  rw [signature?_of (id := "itertools.combinations.__next__") (n := ['_', '_', 't', 'x', 'e', 'n', '_', '_']) (o := ['s', 'n', 'o', 'i', 't', 'a', 'n', 'i', 'b', 'm', 'o', 'c', '.', 's', 'l', 'o', 'o', 't', 'r', 'e', 't', 'i']) (by kernel_rfl) cmb_own]
  kernel_rfl
theorem cmb_aIter (a : Value) : argsOk "itertools.combinations.__iter__" ⟨[a], []⟩ := by
  unfold argsOk
  rw [signature?_of (id := "itertools.combinations.__iter__") (n := ['_', '_', 'r', 'e', 't', 'i', '_', '_']) (o := ['s', 'n', 'o', 'i', 't', 'a', 'n', 'i', 'b', 'm', 'o', 'c', '.', 's', 'l', 'o', 'o', 't', 'r', 'e', 't', 'i']) (by kernel_rfl) cmb_own]
  kernel_rfl
theorem cmb_eIter : entryFor table "itertools.combinations.__iter__" = some Builtin.«dict_keyiterator.__iter__» :=
  entryFor_alias (id' := "dict_keyiterator.__iter__") (by kernel_rfl) (by first | rfl | decide +kernel | (unfold String.splitOn; simp +decide [String.splitOnAux])) (by decide +kernel) (by kernel_rfl)
theorem iter_cmb {prog : Program} {w : World} {A : Around} {E : Value → Shared → Prop} {s : Shared} {z : Addr} {o : Obj} {Q : Value → Shared → Prop} (hz : s.heap.get? z = some o) (hc : o.cls = .type cmbT) (q : Q (.ref z) s) : wpAny (model prog w) A (pyIter (.ref z)) Q E s := by
  have hT : s.TypeIs (.ref z) cmbT := ⟨_, hz, hc⟩
  refine wpAny_pyIter_slot hT cmb_sIter (wpAny_call_entry cmb_sIter hT cmb_eIter ?_ (cmb_aIter _))
  show wpAny _ _ (ret (.ref z)) _ _ s
  exact wpAny_pure ⟨_, rfl, cmbT, _, hT, cmb_sNext.lookup, q⟩
/-- all choices of r of the first n places, in order -/
def cmbs : Nat → Nat → Nat → List (List Nat)
  | _, _, 0 => [[]]
  | _, 0, _ + 1 => []
  | a, n + 1, r + 1 => (cmbs (a + 1) n r).map (a :: ·) ++ cmbs (a + 1) n (r + 1)
def Good (f : Nat → List Nat → Option (List Nat)) : Prop := ∀ n, n < 8 → ∀ r, r < n + 1 → ∀ i, i < (cmbs 0 n r).length → f n ((cmbs 0 n r).getD i []) = (cmbs 0 n r)[i + 1]?
/-- the iterator's own object -/
def CmbAt (h : Heap) (z p : Addr) (st : Int) (last : Value) (idx : List Nat) : Prop := h.get? z = some { cls := .type cmbT, data := .fields ([.ref p, rawInt st, last] ++ idx.map fun (i : Nat) => rawInt i).toArray }
theorem drop_idx (f : Value → Nat) (hf : ∀ n : Nat, f (rawInt n) = n) {a b c : Value} {idx : List Nat} : (([a, b, c] ++ idx.map fun (i : Nat) => rawInt i).toArray.toList.drop 3).map f = idx := by
  show (idx.map fun (i : Nat) => rawInt i).map f = idx
  rw [List.map_map]
  have : (f ∘ fun (i : Nat) => rawInt i) = id := funext hf
  rw [this, List.map_id]
theorem set_arr {a b c : Value} {l : List Value} (i : Nat) (v : Value) : ([a, b, c] ++ l).toArray.setIfInBounds i v = (([a, b, c] ++ l).set i v).toArray := by
  rw [List.setIfInBounds_toArray]
theorem obj_set {a b c : Value} {l : List Value} (i : Nat) (v : Value) : Obj.mapFields (fun x => x.setIfInBounds i v) { cls := .type cmbT, data := .fields ([a, b, c] ++ l).toArray } = { cls := .type cmbT, data := .fields (([a, b, c] ++ l).set i v).toArray } := by
  show ({ cls := .type cmbT, data := .fields (([a, b, c] ++ l).toArray.setIfInBounds i v) } : Obj) = _
  rw [set_arr]
open AutoSeq1 (wpAny_loadPart') in
theorem walk_next0 {prog : Program} {w : World} {A : Around} {E : Value → Shared → Prop} {Q : Value → Shared → Prop} {s : Shared} (z p : Addr) (its : Array Value) (last : Value) (idx : List Nat) (hl : idx.length ≤ 1000) (get : CmbAt s.heap z p 0 last idx) (getp : s.heap.get? p = some { cls := .type "tuple", data := .seq its }) (ne : z ≠ p)
    (goal : ∀ g T, (∀ b o, b ≠ z → s.heap.get? b = some o → g.get? b = some o) → CmbAt g z p 1 (.ref T) idx → g.get? T = some { cls := .type "tuple", data := .seq (idx.map fun i => its.toList.getD i .none).toArray } → s.heap.objs.size ≤ T → Q (.ref T) { s with heap := g }) :
    wpAny (model prog w) A (Builtin.«itertools.combinations.__next__» ⟨[.ref z], []⟩) (fun fin s' => ∃ v, fin = Fin.done (Flow.ret v) ∧ Q v s') E s := by
    obtain ⟨hp, gg, dp, tk, os⟩ := s
    unfold CmbAt at get
    dsimp only at get getp
    wp_walk using wpAny_loadPart' get
    rw [drop_idx _ (fun n => rfl)]
    have c1 : ¬ ((idx.map fun i => its.getD i Value.none).toArray.size > sizeLine) := by
      rw [List.size_toArray, List.length_map]
      have : 1000 ≤ sizeLine := by decide
      omega
    rw [if_neg c1]
    have get1 : (hp.update z (Obj.mapFields fun x => x.setIfInBounds 1 (rawInt 1))).get? z = some { cls := .type cmbT, data := .fields ([.ref p, rawInt 1, last] ++ idx.map fun (i : Nat) => rawInt i).toArray } := by
      have e := Heap.get?_update_self (Obj.mapFields fun x => x.setIfInBounds 1 (rawInt 1)) get rfl
      rw [e]
      exact congrArg some (obj_set 1 (rawInt 1))
    have kp1 : ∀ b o, b ≠ z → hp.get? b = some o → (hp.update z (Obj.mapFields fun x => x.setIfInBounds 1 (rawInt 1))).get? b = some o := fun b o nb e => (Heap.get?_update_other hp _ nb.symm).trans e
    have sz0 : (hp.update z (Obj.mapFields fun x => x.setIfInBounds 1 (rawInt 1))).objs.size = hp.objs.size := (Heap.SameBut.update ..).1
    generalize hp.update z (Obj.mapFields fun x => x.setIfInBounds 1 (rawInt 1)) = h1 at get1 kp1 sz0 ⊢
    refine wpAny_newObjAsIs_type ?_
    wp_walk using wpAny_loadPart' get1
    have z1 : (h1.push { cls := .type "tuple", data := .seq (idx.map fun i => its.getD i .none).toArray }).get? z = some { cls := .type cmbT, data := .fields ([.ref p, rawInt 1, last] ++ idx.map fun (i : Nat) => rawInt i).toArray } := Heap.get?_push_of_some _ get1
    have zl : z ≠ h1.objs.size := Nat.ne_of_lt (Heap.lt_size get1)
    have sz : hp.objs.size ≤ h1.objs.size := Nat.le_of_eq sz0.symm
    refine ⟨_, rfl, goal _ h1.objs.size (fun b o nb e => (Heap.get?_update_other _ _ nb.symm).trans (Heap.get?_push_of_some _ (kp1 b o nb e))) ?_ ?_ sz⟩
    · refine (Heap.get?_update_self _ z1 rfl).trans ?_
      exact congrArg some (obj_set 2 (.ref h1.objs.size))
    · refine (Heap.get?_update_other _ _ zl).trans ((Heap.get?_push_size _ rfl).trans ?_)
      have : (fun i => its.getD i Value.none) = fun i => its.toList.getD i Value.none := by
        funext i
        rw [Array.getD_eq_getD_getElem?, List.getD_eq_getElem?_getD, Array.getElem?_toList]
      rw [this]

theorem arr_cut {a b c : Value} {l m : List Value} : ([a, b, c] ++ l).toArray.extract 0 3 ++ m.toArray = ([a, b, c] ++ m).toArray := by
  simp
theorem good_next {f : Nat → List Nat → Option (List Nat)} {n i : Nat} {idx : List Nat} {x y : Option (List Nat)} (h : f n idx = x) (G : Good f) (h8 : n < 8) (hr : idx.length ≤ n) (hi : (cmbs 0 n idx.length)[i]? = some idx) (hn : (cmbs 0 n idx.length)[i + 1]? = y) : x = y := by
  have il : i < (cmbs 0 n idx.length).length := (List.getElem?_eq_some_iff.mp hi).1
  have g := G n h8 idx.length (Nat.lt_succ_of_le hr) i il
  have e : (cmbs 0 n idx.length).getD i [] = idx := by
    rw [List.getD_eq_getElem?_getD, hi]
    rfl
  rw [e, h, hn] at g
  exact g
open AutoSeq1 (wpAny_loadPart') in
theorem walk_next1 {prog : Program} {w : World} {A : Around} {E : Value → Shared → Prop} {Q : Value → Shared → Prop} {s : Shared} (z p : Addr) (its : Array Value) (last : Value) (idx : List Nat) (i : Nat) (h8 : its.size < 8) (hr : idx.length ≤ its.size) (hi : (cmbs 0 its.size idx.length)[i]? = some idx) (nx : List Nat) (hn : (cmbs 0 its.size idx.length)[i + 1]? = some nx) (hnx : nx.length = idx.length)
    (get : CmbAt s.heap z p 1 last idx) (getp : s.heap.get? p = some { cls := .type "tuple", data := .seq its }) (ne : z ≠ p)
    (goal : ∀ g T, (∀ b o, b ≠ z → s.heap.get? b = some o → g.get? b = some o) → CmbAt g z p 1 (.ref T) nx → g.get? T = some { cls := .type "tuple", data := .seq (nx.map fun i => its.toList.getD i .none).toArray } → s.heap.objs.size ≤ T → Q (.ref T) { s with heap := g }) :
    wpAny (model prog w) A (Builtin.«itertools.combinations.__next__» ⟨[.ref z], []⟩) (fun fin s' => ∃ v, fin = Fin.done (Flow.ret v) ∧ Q v s') E s := by
    obtain ⟨hp, gg, dp, tk, os⟩ := s
    unfold CmbAt at get
    dsimp only at get getp
    wp_walk using wpAny_loadPart' get
    rw [drop_idx _ (fun n => rfl)]
    split
    · rename_i next heq
      have e := good_next heq (by unfold Good; decide +kernel) h8 hr hi hn
      cases e
      clear heq
      wp_walk using wpAny_loadPart' get
      have sh : Obj.mapFields (fun fs => fs.extract 0 3 ++ (nx.map fun (n : Nat) => rawInt n).toArray) { cls := .type cmbT, data := .fields ([.ref p, rawInt 1, last] ++ idx.map fun (i : Nat) => rawInt i).toArray } = { cls := .type cmbT, data := .fields ([.ref p, rawInt 1, last] ++ nx.map fun (i : Nat) => rawInt i).toArray } := by
        show ({ cls := .type cmbT, data := .fields ((([.ref p, rawInt 1, last] ++ idx.map fun (i : Nat) => rawInt i).toArray).extract 0 3 ++ (nx.map fun (n : Nat) => rawInt n).toArray) } : Obj) = _
        rw [arr_cut]
      have get1 : (hp.update z (Obj.mapFields fun fs => fs.extract 0 3 ++ (nx.map fun (n : Nat) => rawInt n).toArray)).get? z = some { cls := .type cmbT, data := .fields ([.ref p, rawInt 1, last] ++ nx.map fun (i : Nat) => rawInt i).toArray } := by
        have e := Heap.get?_update_self (Obj.mapFields fun fs => fs.extract 0 3 ++ (nx.map fun (n : Nat) => rawInt n).toArray) get (by rw [sh]; rfl)
        rw [e, sh]
      have kp1 : ∀ b o, b ≠ z → hp.get? b = some o → (hp.update z (Obj.mapFields fun fs => fs.extract 0 3 ++ (nx.map fun (n : Nat) => rawInt n).toArray)).get? b = some o := fun b o nb e => (Heap.get?_update_other hp _ nb.symm).trans e
      have sz0 : (hp.update z (Obj.mapFields fun fs => fs.extract 0 3 ++ (nx.map fun (n : Nat) => rawInt n).toArray)).objs.size = hp.objs.size := (Heap.SameBut.update ..).1
      rw [sh]
      have pl : (Data.fields ([Value.ref p, rawInt 1, last] ++ nx.map fun (i : Nat) => rawInt i).toArray).pastItsLine = none := pastItsLine_fields (by
        rw [List.size_toArray, List.length_append, List.length_map]
        show 3 + nx.length ≤ sizeLine + 3
        have : 1000 ≤ sizeLine := by decide
        omega)
      dsimp only
      rw [pl]
      generalize hp.update z (Obj.mapFields fun fs => fs.extract 0 3 ++ (nx.map fun (n : Nat) => rawInt n).toArray) = h1 at get1 kp1 sz0 ⊢
      have getp1 := kp1 _ _ ne.symm getp
      refine wpAny_pure ?_
      wp_walk using wpAny_loadPart' get1
      have c1 : ¬ ((nx.map fun i => its.getD i Value.none).toArray.size > sizeLine) := by
        rw [List.size_toArray, List.length_map]
        have : 1000 ≤ sizeLine := by decide
        omega
      rw [if_neg c1]
      refine wpAny_newObjAsIs_type ?_
      wp_walk using wpAny_loadPart' get1
      have z1 : (h1.push { cls := .type "tuple", data := .seq (nx.map fun i => its.getD i .none).toArray }).get? z = some { cls := .type cmbT, data := .fields ([.ref p, rawInt 1, last] ++ nx.map fun (i : Nat) => rawInt i).toArray } := Heap.get?_push_of_some _ get1
      have zl : z ≠ h1.objs.size := Nat.ne_of_lt (Heap.lt_size get1)
      refine ⟨_, rfl, goal _ h1.objs.size (fun b o nb e => (Heap.get?_update_other _ _ nb.symm).trans (Heap.get?_push_of_some _ (kp1 b o nb e))) ?_ ?_ (Nat.le_of_eq sz0.symm)⟩
      · refine (Heap.get?_update_self _ z1 rfl).trans ?_
        exact congrArg some (obj_set 2 (.ref h1.objs.size))
      · refine (Heap.get?_update_other _ _ zl).trans ((Heap.get?_push_size _ rfl).trans ?_)
        have : (fun i => its.getD i Value.none) = fun i => its.toList.getD i Value.none := by
          funext i
          rw [Array.getD_eq_getD_getElem?, List.getD_eq_getElem?_getD, Array.getElem?_toList]
        rw [this]
    · rename_i heq
      have e := good_next heq (by unfold Good; decide +kernel) h8 hr hi hn
      cases e

theorem itStop_walk {prog : Program} {w : World} {A : Around} {α : Type} {Q : α → Shared → Prop} {E : Value → Shared → Prop} {s : Shared} (hh : A.handled = none) (q : ∀ g x o, (∀ b o, s.heap.get? b = some o → g.get? b = some o) → g.get? x = some o → o.cls = .type "StopIteration" → E (.ref x) { s with heap := g }) :
    wpAny (model prog w) A (Builtin.Itertools.itStop : Sem α) Q E s := by
  unfold Builtin.Itertools.itStop
  refine wpAny_bind ?_
  unfold newExc
  refine wpAny_bind (wpAny_newTuple ?_)
  refine wpAny_bind (wpAny_of_eq (a := Value.none) (by first | rfl | (simp only [firstArgMember]; rfl)) (wpAny_newObj_type ?_ (by size_fits)))
  unfold raiseNew
  refine wpAny_bind (wpAny_handled ?_)
  rw [hh]
  refine wpAny_bind (wpAny_pure (wpAny_throw (q _ _ _ (fun b o e => Heap.get?_push_of_some _ (Heap.get?_push_of_some _ e)) (Heap.get?_push_size _ rfl) rfl)))
open AutoSeq1 (wpAny_loadPart') in
theorem walk_nextE {prog : Program} {w : World} {A : Around} {E : Value → Shared → Prop} {Q : Value → Shared → Prop} {s : Shared} (hh : A.handled = none) (z p : Addr) (its : Array Value) (last : Value) (idx : List Nat) (i : Nat) (h8 : its.size < 8) (hr : idx.length ≤ its.size) (hi : (cmbs 0 its.size idx.length)[i]? = some idx) (hn : (cmbs 0 its.size idx.length)[i + 1]? = none)
    (get : CmbAt s.heap z p 1 last idx) (getp : s.heap.get? p = some { cls := .type "tuple", data := .seq its })
    (goal : ∀ g x o, (∀ b o, b ≠ z → s.heap.get? b = some o → g.get? b = some o) → g.get? x = some o → o.cls = .type "StopIteration" → E (.ref x) { s with heap := g }) :
    wpAny (model prog w) A (Builtin.«itertools.combinations.__next__» ⟨[.ref z], []⟩) (fun fin s' => ∃ v, fin = Fin.done (Flow.ret v) ∧ Q v s') E s := by
    obtain ⟨hp, gg, dp, tk, os⟩ := s
    unfold CmbAt at get
    dsimp only at get getp
    wp_walk using wpAny_loadPart' get
    rw [drop_idx _ (fun n => rfl)]
    split
    · rename_i next heq
      have e := good_next heq (by unfold Good; decide +kernel) h8 hr hi hn
      cases e
    · refine wpAny_bind (wpAny_setField get rfl (by simp) ?_)
      exact itStop_walk hh fun g x o k hx hc => goal g x o (fun b o nb e => k b o ((Heap.get?_update_other hp _ nb.symm).trans e)) hx hc

theorem cmbs_len : ∀ {a n r : Nat} {idx : List Nat}, idx ∈ cmbs a n r → idx.length = r
  | _, 0, 0, idx, h => by
    rw [List.mem_singleton.mp (show idx ∈ [[]] from h)]
    rfl
  | _, _ + 1, 0, idx, h => by
    rw [List.mem_singleton.mp (show idx ∈ [[]] from h)]
    rfl
  | _, 0, _ + 1, idx, h => by cases h
  | a, n + 1, r + 1, idx, h => by
    rcases List.mem_append.mp (show idx ∈ (cmbs (a + 1) n r).map (a :: ·) ++ cmbs (a + 1) n (r + 1) from h) with h | h
    · obtain ⟨t, ht, rfl⟩ := List.mem_map.mp h
      show t.length + 1 = r + 1
      rw [cmbs_len ht]
    · exact cmbs_len h
theorem cmbs_first : ∀ n, n < 8 → ∀ r, r < n + 1 → (cmbs 0 n r)[0]? = some (List.range r) := by decide +kernel
/-- the choices of r of the values, each a new tuple -/
def ItC (xs : List V) (r : Nat) : It :=
  ⟨fun i _ => i < (cmbs 0 xs.length r).length,
    fun i H v H' => ∃ T idx, v = .ref T ∧ H T = none ∧ H' = upd H T (.tup (idx.map fun k => xs.getD k .non)) ∧ (cmbs 0 xs.length r)[i]? = some idx,
    fun i _ => (cmbs 0 xs.length r).length ≤ i⟩
theorem vals_idx {xs : List V} {its : List Value} (h : Vals xs its) : ∀ idx : List Nat, Vals (idx.map fun k => xs.getD k .non) (idx.map fun k => its.getD k .none)
  | [] => .nil
  | k :: idx => by
    refine .cons ?_ (vals_idx h idx)
    have hl := h.length
    show L2.RelV (xs.getD k .non) (its.getD k .none)
    rw [List.getD_eq_getElem?_getD, List.getD_eq_getElem?_getD]
    cases e : xs[k]? with
    | none =>
      have : its[k]? = none := by
        rw [List.getElem?_eq_none_iff] at e ⊢
        omega
      rw [this]
      exact rfl
    | some x =>
      obtain ⟨u, hu, ru⟩ := h.get e
      rw [hu]
      exact ru
/-- how the iterator stands ahead of turn i -/
def CmbTn (xs : List V) (its : List Value) (r : Nat) (z p : Addr) (i : Nat) (h : Heap) : Prop := z ≠ p ∧ h.get? p = some { cls := .type "tuple", data := .seq its.toArray } ∧
  ((i = 0 ∧ CmbAt h z p 0 .none (List.range r)) ∨ ∃ k last idx, i = k + 1 ∧ (cmbs 0 xs.length r)[k]? = some idx ∧ CmbAt h z p 1 last idx)
theorem turn_cmb {P : Program} {w : World} {K : PySem.W.Frag} {tg : Expr} {xs : List V} {its : List Value} {r : Nat} {z p : Addr} (rv : Vals xs its) (h8 : xs.length < 8) (hr : r ≤ xs.length) : Turn P w K tg (ItC xs r) [z, p] z (CmbTn xs its r z p) where
  mem := List.mem_cons_self ..
  obj := by
    intro i h st b hb
    obtain ⟨ne, hp, st⟩ := st
    rcases List.mem_cons.mp hb with rfl | hb
    · rcases st with ⟨_, hz⟩ | ⟨_, _, _, _, _, hz⟩
      · exact ⟨_, hz, fun v q => nomatch q⟩
      · exact ⟨_, hz, fun v q => nomatch q⟩
    · obtain rfl := List.mem_singleton.mp hb
      exact ⟨_, hp, fun v q => nomatch q⟩
  keep := by
    intro i h h' st k
    obtain ⟨ne, hp, st⟩ := st
    refine ⟨ne, k p (by simp) _ hp, ?_⟩
    rcases st with ⟨e, hz⟩ | ⟨k', last, idx, e, hk, hz⟩
    · exact .inl ⟨e, k z (by simp) _ hz⟩
    · exact .inr ⟨k', last, idx, e, hk, k z (by simp) _ hz⟩
  item := by
    intro X hP hw hK hc i pins s σ H E I hf st hg
    subst hP hw hK
    obtain ⟨ne, hp, st⟩ := st
    have hl := rv.length
    have al : its.toArray.size = xs.length := by rw [List.size_toArray]; omega
    have hg : i < (cmbs 0 xs.length r).length := hg
    obtain ⟨nx, hnx⟩ : ∃ nx, (cmbs 0 xs.length r)[i]? = some nx := ⟨_, List.getElem?_eq_getElem hg⟩
    have ln := cmbs_len (List.mem_of_getElem? hnx)
    have hcls : s.TypeIs (.ref z) cmbT := by
      rcases st with ⟨_, hz⟩ | ⟨_, _, _, _, _, hz⟩
      · exact ⟨_, hz, rfl⟩
      · exact ⟨_, hz, rfl⟩
    have fin : ∀ g T, (∀ b o, b ≠ z → s.heap.get? b = some o → g.get? b = some o) → CmbAt g z p 1 (.ref T) nx → g.get? T = some { cls := .type "tuple", data := .seq (nx.map fun i => its.toArray.toList.getD i .none).toArray } → s.heap.objs.size ≤ T →
        wpAny (model X.prog X.w) X.A (letOwnedTupleGo tg (.ref z) (.ref T)) (fun _ s2 => ∃ x H', Inv X pins σ H' s2 ∧ RelV x (.ref T) ∧ (ItC xs r).yld i H x H' ∧ CmbTn xs its r z p (i + 1) s2.heap ∧ ∀ b ∈ [z, p], H' b = none) E { s with heap := g } := by
      intro g T kg hz hT sT
      refine letGo_of_cls (c := cmbT) hz rfl rfl (by decide) ?_
      have new : ObjOk X.prog X.w (upd H T (.tup (nx.map fun k => xs.getD k .non))) g T (.tup (nx.map fun k => xs.getD k .non)) :=
        ⟨by rw [List.length_map, ln]; exact Nat.le_trans (Nat.le_trans hr (Nat.le_of_lt h8)) (by decide), _, vals_idx rv nx, ⟨_, hT, rfl, _, rfl⟩⟩
      have I1 : Inv X pins σ (upd H T (.tup (nx.map fun k => xs.getD k .non))) { s with heap := g } :=
        I.turnedNew (t' := s.toks) (ch := [z, p]) (fun b o hb q => kg b o (fun e => hb (by simp [e])) q) hf sT new
      refine ⟨.ref T, _, I1, rfl, ⟨T, nx, rfl, I.hok.fresh sT, rfl, hnx⟩, ⟨ne, kg p _ ne.symm hp, .inr ⟨i, _, nx, rfl, hnx, hz⟩⟩, fun b hb => ?_⟩
      have bl : b < s.heap.objs.size := by
        rcases List.mem_cons.mp hb with rfl | hb
        · obtain ⟨o, ho, _⟩ := hcls
          exact Heap.lt_size ho
        · obtain rfl := List.mem_singleton.mp hb
          exact Heap.lt_size hp
      rw [upd_ne (Nat.ne_of_lt (Nat.lt_of_lt_of_le bl sT))]
      exact (hf b hb).1
    unfold pyNext
    refine wpAny_bind (wpAny_attempt (wpAny_callSpecial?_slot (name := Str.ofString "__next__") hcls cmb_sNext (wpAny_call_entry cmb_sNext hcls cmb_eNext ?_ (cmb_aNext _))))
    rcases st with ⟨rfl, hz⟩ | ⟨k, last, idx, rfl, hk, hz⟩
    · have e0 := cmbs_first xs.length h8 r (Nat.lt_succ_of_le hr)
      obtain rfl : nx = List.range r := Option.some.inj (hnx.symm.trans e0)
      exact walk_next0 z p its.toArray .none _ (by rw [List.length_range]; omega) hz hp ne fun g T kg hz' hT sT => wpAny_pure ⟨_, rfl, fin g T kg hz' hT sT⟩
    · have lk := cmbs_len (List.mem_of_getElem? hk)
      exact walk_next1 z p its.toArray last idx k (by omega) (by omega) (by rw [al, lk]; exact hk) nx (by rw [al, lk]; exact hnx) (by omega) hz hp ne fun g T kg hz' hT sT => wpAny_pure ⟨_, rfl, fin g T kg hz' hT sT⟩
  done := by
    intro X hP hw hK hc i pins s σ H E I hf st hg
    subst hP hw hK
    obtain ⟨ne, hp, st⟩ := st
    have hl := rv.length
    have al : its.toArray.size = xs.length := by rw [List.size_toArray]; omega
    have hg : (cmbs 0 xs.length r).length ≤ i := hg
    rcases st with ⟨rfl, hz⟩ | ⟨k, last, idx, rfl, hk, hz⟩
    · have e0 := cmbs_first xs.length h8 r (Nat.lt_succ_of_le hr)
      have := (List.getElem?_eq_some_iff.mp e0).1
      omega
    · have lk := cmbs_len (List.mem_of_getElem? hk)
      have hcls : s.TypeIs (.ref z) cmbT := ⟨_, hz, rfl⟩
      unfold pyNext
      refine wpAny_bind (wpAny_attempt (wpAny_callSpecial?_slot (name := Str.ofString "__next__") hcls cmb_sNext (wpAny_call_entry cmb_sNext hcls cmb_eNext ?_ (cmb_aNext _))))
      refine walk_nextE (A := X.A.in1) (show X.A.in1.handled = none from I.ok.hd hc) z p its.toArray last idx k (by omega) (by omega) (by rw [al, lk]; exact hk) (by rw [al, lk]; exact List.getElem?_eq_none hg) hz hp fun g x o kg hx hcl => ?_
      refine wpAny_bind (wpAny_isInstance (T := "StopIteration") (b := true) ⟨o, hx, hcl⟩ isSubtype_stop ?_)
      exact wpAny_pure ⟨rfl, I.turnedL (t' := s.toks) (ch := [z, p]) (fun b o hb q => kg b o (fun e => hb (by simp [e])) q) hf⟩
  self := fun A i s Q E st h => by
    obtain ⟨ne, hp, st⟩ := st
    rcases st with ⟨_, hz⟩ | ⟨_, _, _, _, _, hz⟩
    · exact iter_cmb hz rfl h
    · exact iter_cmb hz rfl h

/-- combinations(a list, a number) -/
def iCmb (K : PySem.W.Frag) (ta : TA) : TI := fun σ H R => ta σ H fun vs H1 => ∃ (l : Addr) (xs : List V) (m : Nat), vs = [.ref l, .int (m : Int)] ∧ SqL K H1 l xs ∧ xs.length < 8 ∧ m ≤ xs.length ∧ R (ItC xs m) H1
theorem pi_cmb {X : Cx} {e e2 tg : Expr} {ta : TA} {p pos : Pos} (hg : Gl X "combinations") (hm : X.mg "combinations" = some (.type cmbT)) (ha : PA X [e, e2] ta)
    (hs : starEach [e, e2] X.env = (false, eval e X.env) :: starEach [e2] X.env := by rfl) (hpl : (backTo pos (starEach [e2] X.env)).any (·.1) = false := by rfl) : PI X tg (.Call (.Name "combinations" p) [e, e2] [] pos) (iCmb X.K ta) := by
  refine ⟨fun pins s σ H R I h => ?_⟩
  refine Call_ (ld_glob I hg hm (PyProof.Rows.callWith_type1 (thn (ha.run pos pins s σ H _ I h) fun us s1 ⟨vs, H1, I1, r1, q1⟩ => ?_) hs hpl) (by decide))
  obtain ⟨l, xs, m, ex, hq, h8, hm8, q⟩ := q1
  subst ex
  cases r1 with
  | cons r rr =>
    cases rr with
    | cons r' rr =>
      cases rr
      cases r
      obtain ⟨t, rfl⟩ := r'
      obtain ⟨its, rv, ⟨ol, n, ho, hc, hdn, hd⟩, _⟩ := I1.list hq
      have hl := rv.length
      have as : its.toArray.size = xs.length := by
        rw [List.size_toArray]
        omega
      refine call_cmb ho hc hd (by omega) (by omega) fun g z pp k1 hz hp lt ne => iter_cmb hz rfl ?_
      refine ⟨z, [z, pp], _, _, H1, rfl, I1.kept (t' := s1.toks) k1, turn_cmb rv h8 hm8, ⟨ne.symm, hp, .inl ⟨rfl, hz⟩⟩, fun b hb => ?_, q⟩
      rcases List.mem_cons.mp hb with rfl | hb
      · exact fpOk_above I1 fun b o e => (lt b o e).2
      · obtain rfl := List.mem_singleton.mp hb
        exact fpOk_above I1 fun b o e => (lt b o e).1
/-- the walk over them -/
theorem walk_cmb {xs : List V} {r : Nat} : Walk (ItC xs r) (cmbs 0 xs.length r).length (fun _ => True) (fun i H v H' => ∃ T idx, v = .ref T ∧ H T = none ∧ H' = upd H T (.tup (idx.map fun k => xs.getD k .non)) ∧ (cmbs 0 xs.length r)[i]? = some idx) :=
  ⟨fun i _ hi _ => hi, fun _ _ => Nat.le_refl _, fun i H v H' _ _ y => y⟩

/-! ### lists of tuples of whole numbers -/
def TupI (K : PySem.W.Frag) (H : Hp) (v : V) (c : List Int) : Prop := ∃ a, v = .ref a ∧ H a = some (.tup (c.map V.int))
theorem tupI_same {K : PySem.W.Frag} {H H' : Hp} (e : Same H H') {v : V} {c : List Int} (h : TupI K H v c) : TupI K H' v c := by
  obtain ⟨a, rfl, h⟩ := h
  exact ⟨a, rfl, e _ _ h⟩
theorem tupsI_same {K : PySem.W.Frag} {H H' : Hp} (e : Same H H') {vs : List V} {cs : List (List Int)} (h : PySem.W.EachIs (TupI K H) vs cs) : PySem.W.EachIs (TupI K H') vs cs := each_impD (fun _ _ _ => tupI_same e) h
theorem each_app {α β : Type} {R : α → β → Prop} : ∀ {as as' : List α} {bs bs' : List β}, PySem.W.EachIs R as bs → PySem.W.EachIs R as' bs' → PySem.W.EachIs R (as ++ as') (bs ++ bs')
  | _, _, _, _, .nil, h => h
  | _, _, _, _, .cons h t, h' => .cons h (each_app t h')
theorem each_of {α β : Type} {R : α → β → Prop} : ∀ {zs : List (α × β)}, (∀ z ∈ zs, R z.1 z.2) → PySem.W.EachIs R (zs.map Prod.fst) (zs.map Prod.snd)
  | [], _ => .nil
  | z :: zs, h => .cons (h z (List.mem_cons_self ..)) (each_of fun y hy => h y (List.mem_cons_of_mem _ hy))
theorem each_zip {α β : Type} {R : α → β → Prop} : ∀ {as : List α} {bs : List β}, PySem.W.EachIs R as bs → (as.zip bs).map Prod.fst = as ∧ (as.zip bs).map Prod.snd = bs ∧ ∀ z ∈ as.zip bs, R z.1 z.2
  | _, _, .nil => ⟨rfl, rfl, fun z hz => by cases hz⟩
  | a :: as, b :: bs, .cons h t => by
    obtain ⟨h1, h2, h3⟩ := each_zip t
    refine ⟨by rw [List.zip_cons_cons, List.map_cons, h1], by rw [List.zip_cons_cons, List.map_cons, h2], fun z hz => ?_⟩
    rw [List.zip_cons_cons] at hz
    rcases List.mem_cons.mp hz with rfl | hz
    · exact h
    · exact h3 z hz
def datI (c : List Int) : PyData := .tuple (c.map .int)
theorem leD_I (a b : V × List Int) : leD (a.1, datI a.2) (b.1, datI b.2) = leI a.2 b.2 := by
  show PySem.W.dataLe false Prod.snd _ _ = _
  rw [PySem.W.dataLe_eq]
  show (!PySem.W.dataLt (.tuple (b.2.map .int)) (.tuple (a.2.map .int))) = _
  rw [PySem.W.dataLt_tuple]
  show (!PySem.W.rowLt (b.2.map .int) (a.2.map .int)) = _
  rw [PySem.W.dataLt_ints]
  by_cases h : b.2 < a.2
  · have h' : ¬ a.2 ≤ b.2 := fun r => List.not_lt.mpr r h
    simp [leI, h, h']
  · have h' : a.2 ≤ b.2 := List.not_lt.mp h
    simp [leI, h, h']
theorem sort_tups {K : PySem.W.Frag} {H : Hp} {vs : List V} {cs : List (List Int)} (h : PySem.W.EachIs (TupI K H) vs cs) (ne : (∀ c ∈ cs, c ≠ []) ∨ cs.length < 2) : ∃ zs : List (V × PyData), zs.map Prod.fst = vs ∧ (∀ z ∈ zs, Dp K H z.1 z.2 ∧ z.2.depth ≤ 5) ∧ PySem.W.AllAlike (zs.map Prod.snd) ∧
    (PySem.W.Sortable (zs.map Prod.snd) ∨ (zs.length < 2 ∧ ∀ d ∈ zs.map Prod.snd, ∃ r, d = .tuple r)) ∧ PySem.W.EachIs (TupI K H) ((zs.mergeSort leD).map Prod.fst) (cs.mergeSort leI) := by
  obtain ⟨h1, h2, h3⟩ := each_zip h
  generalize hz : vs.zip cs = zs at h1 h2 h3
  have e2 : (zs.map fun p => (p.1, datI p.2)).map Prod.snd = cs.map datI := by
    rw [List.map_map, ← h2, List.map_map]
    rfl
  refine ⟨zs.map fun p => (p.1, datI p.2), ?_, ?_, ?_, ?_, ?_⟩
  · rw [List.map_map, ← h1]
    rfl
  · intro z hz
    obtain ⟨p, hp, rfl⟩ := List.mem_map.mp hz
    obtain ⟨a, e, ha⟩ := h3 p hp
    refine ⟨?_, ?_⟩
    · show Dp K H p.1 _
      rw [e]
      exact .tup (SqT.of ha) (dps_ints _)
    · show (PyData.tuple (p.2.map .int)).depth ≤ 5
      have := PySem.W.depth_ints p.2
      simp only [PyData.depth]
      omega
  · rw [e2]
    exact PySem.W.AllAlike.of fun b b' => PySem.W.alike_ints b b'
  · rw [e2]
    rcases ne with ne | ne
    · refine .inl (.inl fun d hd => ?_)
      obtain ⟨c, hc, rfl⟩ := List.mem_map.mp hd
      cases c with
      | nil => exact absurd rfl (ne _ hc)
      | cons y ys => exact ⟨.int y, ys.map .int, rfl⟩
    · refine .inr ⟨?_, fun d hd => ?_⟩
      · rw [List.length_map]
        have : zs.length = cs.length := by rw [← h2, List.length_map]
        omega
      · obtain ⟨c, hc, rfl⟩ := List.mem_map.mp hd
        exact ⟨_, rfl⟩
  · have s1 : (zs.map fun p => (p.1, datI p.2)).mergeSort leD = (zs.mergeSort fun a b => leI a.2 b.2).map fun p => (p.1, datI p.2) := (List.map_mergeSort fun a _ b _ => (leD_I a b).symm).symm
    have s2 : (zs.mergeSort fun a b => leI a.2 b.2).map Prod.snd = cs.mergeSort leI := by
      rw [← h2]
      exact List.map_mergeSort fun a _ b _ => rfl
    rw [s1, List.map_map, ← s2]
    have : (zs.mergeSort fun a b => leI a.2 b.2).map (Prod.fst ∘ fun p => (p.1, datI p.2)) = (zs.mergeSort fun a b => leI a.2 b.2).map Prod.fst := rfl
    rw [this]
    exact each_of fun z hz => h3 z (List.mem_mergeSort.mp hz)
/-! ### the places that combinations tells -/
theorem cmbs_chs : ∀ (xs pre : List Nat) (r : Nat), (cmbs pre.length xs.length r).map (fun idx => idx.map fun i => (pre ++ xs).getD i 0) = chs xs r
  | xs, pre, 0 => by
    rw [chs_zero]
    cases xs <;> rfl
  | [], pre, r + 1 => rfl
  | x :: xs, pre, r + 1 => by
    have ih1 := cmbs_chs xs (pre ++ [x]) r
    have ih2 := cmbs_chs xs (pre ++ [x]) (r + 1)
    rw [List.length_append, List.append_assoc] at ih1 ih2
    show ((cmbs (pre.length + 1) xs.length r).map (pre.length :: ·) ++ cmbs (pre.length + 1) xs.length (r + 1)).map _ = (chs xs r).map (x :: ·) ++ chs xs (r + 1)
    rw [List.map_append, ← ih1, ← ih2, List.map_map, List.map_map]
    congr 1
    refine List.map_congr_left fun idx _ => ?_
    show (pre.length :: idx).map (fun i => (pre ++ x :: xs).getD i 0) = x :: idx.map fun i => (pre ++ x :: xs).getD i 0
    rw [List.map_cons]
    congr 1
    simp
theorem cmbs_lt : ∀ (n a r : Nat), ∀ idx ∈ cmbs a n r, ∀ i ∈ idx, i < a + n
  | n, a, 0, idx, h, i, hi => by
    have : cmbs a n 0 = [[]] := by cases n <;> rfl
    rw [this, List.mem_singleton] at h
    rw [h] at hi
    cases hi
  | 0, a, r + 1, idx, h, i, hi => by cases h
  | n + 1, a, r + 1, idx, h, i, hi => by
    rcases List.mem_append.mp h with h | h
    · obtain ⟨idx', h', rfl⟩ := List.mem_map.mp h
      rcases List.mem_cons.mp hi with rfl | hi
      · omega
      · have := cmbs_lt n (a + 1) r idx' h' i hi
        omega
    · have := cmbs_lt n (a + 1) (r + 1) idx h i hi
      omega
theorem cmb_at {xs : List Nat} {r i : Nat} {idx : List Nat} (h : (cmbs 0 xs.length r)[i]? = some idx) : ∃ c, (chs xs r)[i]? = some c ∧ idx.map (fun k => ((zs xs).map V.int).getD k .non) = (zs c).map V.int := by
  have e := cmbs_chs xs [] r
  refine ⟨idx.map fun i => xs.getD i 0, ?_, ?_⟩
  · rw [← e, List.getElem?_map]
    show Option.map _ ((cmbs 0 xs.length r)[i]?) = _
    rw [h]
    rfl
  · unfold zs
    have e0 : ((idx.map fun i => xs.getD i 0).map fun (k : Nat) => (k : Int)).map V.int = idx.map fun i => V.int ((xs.getD i 0 : Nat) : Int) := by
      rw [List.map_map, List.map_map]
      rfl
    rw [e0]
    refine List.map_congr_left fun k hk => ?_
    have lt := cmbs_lt _ _ _ idx (List.mem_of_getElem? h) k hk
    rw [Nat.zero_add] at lt
    show (List.map V.int (xs.map fun (k : Nat) => (k : Int))).getD k .non = V.int ((xs.getD k 0 : Nat) : Int)
    rw [List.map_map]
    have e1 : (List.map (V.int ∘ fun (k : Nat) => (k : Int)) xs)[k]? = some (V.int (xs[k] : Nat)) := by
      rw [List.getElem?_map, List.getElem?_eq_getElem lt]
      rfl
    rw [List.getD_eq_getElem?_getD, List.getD_eq_getElem?_getD, e1, List.getElem?_eq_getElem lt]
    rfl
theorem cmbs_num (xs : List Nat) (r : Nat) : (cmbs 0 xs.length r).length = (chs xs r).length := by
  rw [← cmbs_chs xs [] r, List.length_map]
  rfl

/-! ### all_fits -/
def rTupOf (K : PySem.W.Frag) : List V → Hp → VK → Prop := fun xs H Q => ∃ p ys, xs = [.ref p] ∧ ((SqL K H p ys ∧ ∀ l, H l = none → Q (.ref l) (upd H l (.tup ys))) ∨ (SqT K H p ys ∧ Q (.ref p) H))
theorem cr_tupOf {X : Cx} : CallR X (.type "tuple") (rTupOf X.K) := call_tuple_of
def rListOf (K : PySem.W.Frag) : List V → Hp → VK → Prop := fun xs H Q => ∃ p ys, xs = [.ref p] ∧ (SqL K H p ys ∨ SqT K H p ys) ∧ ∀ l, H l = none → Q (.ref l) (upd H l (.lst ys))
theorem cr_listOf {X : Cx} : CallR X (.type "list") (rListOf X.K) := call_list_of
theorem tupsI_kp {K : PySem.W.Frag} {H H' : Hp} (e : KpT K H H') {vs : List V} {cs : List (List Int)} (h : PySem.W.EachIs (TupI K H) vs cs) : PySem.W.EachIs (TupI K H') vs cs := each_impD (fun _ _ _ ⟨a, e1, h1⟩ => ⟨a, e1, e.tu _ _ h1⟩) h
theorem catA_go {K : PySem.W.Frag} {H : Hp} {a b : Addr} {xs ys : List V} {Q : VK} (ha : SqT K H a xs) (hb : SqT K H b ys) (l : xs.length + ys.length ≤ sizeLine) (q : ∀ H' t, Same H H' → SqT K H' t (xs ++ ys) → Q (.ref t) H') : rCatA K (.ref a) (.ref b) H Q := by
  refine ⟨a, b, xs, ys, rfl, rfl, ha, hb, l, fun e => ?_, fun _ e => ?_, fun _ _ p hp => q _ p (same_new hp) (SqT.of upd_same)⟩
  · subst e
    exact q H b (fun _ _ h => h) hb
  · subst e
    refine q H a (fun _ _ h => h) ?_
    rw [List.append_nil]
    exact ha
theorem aimD_keys (rs : List Row) : (aimD rs).map (fun kv => kV kv.1) = (zs (inn rs)).map V.int := by
  unfold aimD mapD zs
  rw [List.map_map, List.map_map]
  rfl
theorem aimD_len (rs : List Row) : (aimD rs).length = (inn rs).length := by
  unfold aimD mapD
  rw [List.length_map]
abbrev tPick (K : PySem.W.Frag) : TE := tCB (rTupOf K) (tCons (tCB (rSortedI K) (tCons (tCB (rListOf K) (tCons (tOp (rCatA K) (tFld K (tVar 0) "outs") (tVar 4)) tNil)) tNil)) tNil)
abbrev tShort (K : PySem.W.Frag) : TT := tNot (fun σ H Q => tCall (spTooLong K) [] E00 (tCons (tFld K (tVar 0) "parts") (tCons (tFld K (tVar 0) "aims") (tCons (tVar 5) tNil))) σ H fun x H' => ∃ k, TruV K x H' k ∧ Q k H')
def spAll (K : PySem.W.Frag) (C : Addr) : Sp := fun vs H Q _ => ∃ (x : Addr) (rs : List Row), vs = [.ref x] ∧ DraftV K H C x rs ∧ (inn rs).length < 8 ∧ rs.length ≤ 400 ∧ ∀ H' p ws, Same H H' → H p = none → H' p = some (.lst ws) → PySem.W.EachIs (TupI K H') ws (allF rs) → Q (.ref p) H'
abbrev sAll : Stmt := mth 10
theorem scAll : FnScope ["self", "found", "many", "choices", "some", "choice"] ["self"] (defScope sAll) := ⟨rfl, rfl, rfl, by decide +kernel, rfl, by decide +kernel, by decide +kernel⟩
section
variable {P : Program} {w : World} {K : PySem.W.Frag} {mg : Str → Option Value} {base : Heap}
theorem ok_all {f C : Addr} {fd : FuncData} (F : Fun K "all_fits" "Draft.all_fits" sAll f fd) (T : Bi mg) (hcm : mg "combinations" = some (.type cmbT)) (B : DrC K C) (G : Has P w K mg base CX0 4 "too_long_ones" ["parts", "aims", "far"] (spTooLong K)) : FnOk P w K mg base CX0 5 f fd ["self"] (spAll K C) := by
  refine F.ok scAll (fun vs H Q E h => ?_) (fun cdv A outer s H vs Q E hr h => ?_)
  · obtain ⟨x, rs, rfl, _⟩ := h
    rfl
  · obtain ⟨x, rs, rfl, dv, i8, l4, q⟩ := h
    refine ⟨_, (pss_cons (ps_set (i := 1) scAll.nd rfl (.inl rfl) (pe_lst pa_nil))
      (pss_cons (ps_for PassesOwn.never rfl (pi_range1 (by rfl) T.range (pa_cons (pe_op op_add (pe_callB call_lenD (by rfl) T.len (by decide +kernel) (pa_cons (pe_fld (pv 0) rfl) pa_nil)) pe_int) pa_nil)) (pg_name (i := 2) scAll.nd rfl (.inl rfl))
        (pss_cons (ps_setLc (i := 3) (own := [("some", 4)]) (g := gName 4) (tt := tYes) (te := tPick K) rfl scAll.nd rfl rfl (sw_true rfl rfl rfl (by decide +kernel)) (pi_cmb (by rfl) hcm (pa_cons (pe_callTy (call_list_dK rfl) (by rfl) T.list (by decide +kernel) (pa_cons (pe_fld (pv 0) rfl) pa_nil)) (pa_cons (pv 2) pa_nil))) (blkOk_by (N := ["self", "found", "many", "choices", "some", "choice"]) (sc := defScope sAll) (by decide +kernel)) (fun _ _ _ _ _ => pg_name (i := 4) scAll.nd rfl (.inl rfl)) (fun _ _ _ _ _ => pts_nil)
          (fun _ _ _ _ _ => (pe_callTy cr_tupOf (by rfl) T.tuple (by decide +kernel) (pa_cons (pe_callB cr_sortedI (by rfl) T.sorted (by decide +kernel) (pa_cons (pe_callTy cr_listOf (by rfl) T.list (by decide +kernel) (pa_cons (pe_op op_catA (pe_fld (pv 0) rfl) (pv 4)) pa_nil)) pa_nil)) pa_nil))))
        (pss_one (ps_expr (pe_bm PySem.F.plainAttrs_list PySem.F.slot_list_extend PySem.F.type_list_extend mt_extend (pv 1) (pa_cons (pe_lc (own := [("choice", 5)]) (g := gName 5) (te := tVar 5) (tt := tShort K) rfl scAll.nd (pi_list (pe_callB (cr_sortedD hr) (by rfl) T.sorted (by decide +kernel) (pa_cons (pv 3) pa_nil))) (blkOk_by (N := ["self", "found", "many", "choices", "some", "choice"]) (sc := defScope sAll) (by decide +kernel)) (fun _ _ _ _ _ => pg_name (i := 5) scAll.nd rfl (.inl rfl))
          (fun _ _ _ _ _ => pts_one (pt_not (pt_truth (pe_callH G hr (by rfl) pass0 (pa_cons (pe_fld (pv 0) rfl) (pa_cons (pe_fld (pv 0) rfl) (pa_cons (pv 5) pa_nil)))) (by intro _; rfl)))) (fun _ _ _ _ _ => pv 5)) pa_nil))))))
      (pss_one (ps_ret (pv 1))))), ?_⟩
    have dv0 := dv
    obtain ⟨ok, dx, p, fq, dd, o, ys, hx⟩ := dv
    refine ⟨Nat.zero_le _, fun l hl => ?_⟩
    have s1 := same_new (o := .lst []) hl
    have hx1 := hx.same s1
    refine ⟨_, rfl, x, C, dx, _, _, rfl, hx1.ins, B.cl, B.n3, rfl, dd, _, rfl, hx1.aims, _, _, rfl, rfl, ?_⟩
    rw [aimD_len]
    refine ⟨_, rfl, by omega, by omega, ?_⟩
    have en : (((inn rs).length : Int) + 1).toNat = (inn rs).length + 1 := by omega
    rw [en]
    have kpS : ∀ {H4 : Hp}, (∀ b o, b ≠ l → H b = some o → H4 b = some o) → Same H H4 := fun kp b o e => kp b o (ne_of_none e hl) e
    refine for_it walk_range (fun i σ H4 => ∃ (u2 u3 : Option V) (ws : List V), σ = [some (.ref x), some (.ref l), u2, u3, none, none] ∧ (∀ b o, b ≠ l → H b = some o → H4 b = some o) ∧ H4 l = some (.lst ws) ∧ PySem.W.EachIs (TupI K H4) ws ((List.range i).flatMap (fitsM rs)))
      ⟨none, none, [], rfl, fun b o hb e => by rw [upd_ne hb]; exact e, upd_same, .nil⟩ (fun _ _ _ _ _ => trivial) ?_ ?_
    · rintro i y σ H4 H4' hi ⟨u2, u3, ws, rfl, kp, h4, ea⟩ ⟨rfl, rfl⟩
      have s4 := kpS kp
      have hx4 := hx.same s4
      refine ⟨_, rfl, x, C, dx, _, _, rfl, hx4.ins, B.cl, B.n3, rfl, dd, _, rfl, hx4.aims, fun L hL => ?_⟩
      have sL := same_new (o := .lst ((aimD rs).map fun kv => kV kv.1)) hL
      have hLL : upd H4' L (.lst ((aimD rs).map fun kv => kV kv.1)) L = some (.lst ((zs (inn rs)).map V.int)) := by rw [upd_same, aimD_keys]
      generalize upd H4' L (.lst ((aimD rs).map fun kv => kV kv.1)) = H5 at sL hLL ⊢
      have ln : ((zs (inn rs)).map V.int).length = (inn rs).length := by rw [List.length_map, zs_len]
      refine ⟨_, rfl, L, _, i, (by show [V.ref L, V.int (0 + (i : Int))] = _; rw [Int.zero_add]), SqL.of hLL, by omega, by omega, fun D hD => ?_⟩
      have hxL := hx4.same sL
      have kD : ∀ {H6 : Hp}, (∀ b o, b ≠ D → H5 b = some o → H6 b = some o) → Same H5 H6 := fun kp b o e => kp b o (ne_of_none e hD) e
      refine lc_it walk_cmb (fun j H6 => (∀ b o, b ≠ D → H5 b = some o → H6 b = some o) ∧ ∃ vs, H6 D = some (.lst vs) ∧ PySem.W.EachIs (TupI K H6) vs (((chs (inn rs) i).take j).map (chW rs)))
        ⟨fun b o hb e => by rw [upd_ne hb]; exact e, [], upd_same, .nil⟩ (fun _ _ _ _ => trivial) ?_ ?_
      · rintro j y H6 H6' hj ⟨kp6, vs, hD6, ev⟩ ⟨t0, idx, rfl, ht0, rfl, hidx⟩
        rw [ln] at hidx
        obtain ⟨c, hc, ec⟩ := cmb_at hidx
        rw [ec]
        have csub := (mem_chs.mp (List.mem_of_getElem? hc)).1
        have st0 := same_new (o := .tup ((zs c).map V.int)) ht0
        have htt : SqT K (upd H6 t0 (.tup ((zs c).map V.int))) t0 ((zs c).map V.int) := SqT.of upd_same
        generalize upd H6 t0 (.tup ((zs c).map V.int)) = H7 at st0 htt ⊢
        have hx7 := (hxL.same (kD kp6)).same st0
        have cl := csub.length_le
        have ol := outs_len rs
        have jl : j < (chs (inn rs) i).length := (List.getElem?_eq_some_iff.mp hc).1
        have cl8 := chs_len (inn rs) i
        have c128 := pow8 i8
        refine ⟨rfl, yes_go (iteT ?_)⟩
        refine ⟨_, rfl, x, C, dx, _, _, rfl, hx7.ins, B.cl, B.n4, rfl, _, rfl, catA_go hx7.outs htt ?_ fun H8 t1 s8 ht1 => ?_⟩
        · rw [nats_len, List.length_map, zs_len]
          exact Nat.le_trans (by omega : _ ≤ 4000) (by decide)
        rw [nats_zs, ← List.map_append] at ht1
        refine ⟨t1, _, rfl, .inr ht1, fun l2 hl2 => ?_⟩
        have sl2 := same_new (o := .lst ((zs (outs rs) ++ zs c).map V.int)) hl2
        refine ⟨l2, _, rfl, SqL.of upd_same, fun ns' m pm so hm => ?_⟩
        have sm := same_new (o := .lst (ns'.map V.int)) hm
        have ens : ns' = chW rs c := chW_perm csub (by unfold zs at pm ⊢; rw [List.map_append]; exact pm) so
        refine ⟨m, _, rfl, .inl ⟨SqL.of upd_same, fun t2 ht2 => ?_⟩⟩
        have st2 := same_new (o := .tup (ns'.map V.int)) ht2
        have s69 := ((st0.trans s8).trans sl2).trans (sm.trans st2)
        have h2t : upd (upd (upd H8 l2 (.lst ((zs (outs rs) ++ zs c).map V.int))) m (.lst (ns'.map V.int))) t2 (.tup (ns'.map V.int)) t2 = some (.tup (ns'.map V.int)) := upd_same
        generalize upd (upd (upd H8 l2 (.lst ((zs (outs rs) ++ zs c).map V.int))) m (.lst (ns'.map V.int))) t2 (.tup (ns'.map V.int)) = H9 at s69 h2t ⊢
        have hD9 := s69 _ _ hD6
        have kput : KpT K H9 (upd H9 D (.lst (vs ++ [.ref t2]))) := KpT.put hD9 trivial
        refine ⟨_, hD9, ?_, fun b o hb e => ?_, _, upd_same, ?_⟩
        · have := ev.length
          rw [List.length_map, List.length_take] at this
          exact small1000 (by omega)
        · rw [upd_ne hb]
          exact s69 _ _ (kp6 b o hb e)
        · rw [List.take_add_one, hc]
          show PySem.W.EachIs _ _ (((chs (inn rs) i).take j ++ [c]).map (chW rs))
          rw [List.map_append]
          refine each_app (tupsI_kp ((KpT.of s69).trans kput) ev) (.cons ⟨t2, rfl, kput.tu _ _ ?_⟩ .nil)
          rw [← ens]
          exact h2t
      · rintro H6 ⟨kp6, vs, hD6, ev⟩
        rw [ln, cmbs_num, List.take_length] at ev
        have sD := kD kp6
        have s06 := (s4.trans sL).trans sD
        have hl6 : H6 l = some (.lst ws) := sD _ _ (sL _ _ h4)
        have ne : (∀ c ∈ (chs (inn rs) i).map (chW rs), c ≠ []) ∨ ((chs (inn rs) i).map (chW rs)).length < 2 := by
          cases i with
          | zero =>
            right
            rw [chs_zero]
            show 1 < 2
            decide
          | succ i =>
            left
            intro c hc e
            obtain ⟨c', hc', rfl⟩ := List.mem_map.mp hc
            obtain ⟨h1, h2⟩ := mem_chs.mp hc'
            have := chW_len (rs := rs) h1
            rw [e, h2] at this
            simp at this
        obtain ⟨zs', z1, z2, z3, z4, z5⟩ := sort_tups ev ne
        refine ⟨_, rfl, .inl ⟨rfl, _, SqL.of hl6⟩, _, rfl, D, zs', rfl, (by rw [z1]; exact SqL.of hD6), z2, z3, z4, fun pS hS => ?_⟩
        have sS := same_new (o := .lst ((zs'.mergeSort leD).map Prod.fst)) hS
        have hSS : upd H6 pS (.lst ((zs'.mergeSort leD).map Prod.fst)) pS = some (.lst ((zs'.mergeSort leD).map Prod.fst)) := upd_same
        generalize (zs'.mergeSort leD).map Prod.fst = vS at sS hSS z5 ⊢
        have z5 : PySem.W.EachIs (TupI K H6) vS (chM rs i) := z5
        generalize upd H6 pS (.lst vS) = H7 at sS hSS ⊢
        have z7 := tupsI_same sS z5
        have s07 := s06.trans sS
        have hx7 := hx.same s07
        have okr : ∀ r ∈ rs, RowOk r := fun r hr => fine_ok (ok.fine r hr)
        refine ⟨pS, rfl, ⟨_, SqL.of hSS⟩, fun D2 hD2 => ?_⟩
        have kD2 : ∀ {H8 : Hp}, (∀ b o, b ≠ D2 → H7 b = some o → H8 b = some o) → Same H7 H8 := fun kp b o e => kp b o (ne_of_none e hD2) e
        have lvS := z7.length
        have lcM : (chM rs i).length ≤ 128 := by
          unfold chM
          rw [(List.mergeSort_perm _ _).length_eq, List.length_map]
          exact Nat.le_trans (chs_len _ i) (pow8 i8)
        refine lc_it walk_list (fun j H8 => (∀ b o, b ≠ D2 → H7 b = some o → H8 b = some o) ∧ ∃ us, H8 D2 = some (.lst us) ∧ PySem.W.EachIs (TupI K H8) us (((chM rs i).take j).filter (fitB rs)))
          ⟨fun b o hb e => by rw [upd_ne hb]; exact e, [], upd_same, .nil⟩ (fun _ _ _ ⟨kp, _⟩ => sqL_same (kD2 kp) (SqL.of hSS)) ?_ ?_
        · rintro j y H8 H8' hj ⟨kp8, us, hD8, eu⟩ ⟨rfl, hy⟩
          obtain ⟨c, hc, a, rfl, ha⟩ := eachs_get z7 hy
          have s78 := kD2 kp8
          have hx8 := hx7.same s78
          have fst := filt_step (fitB rs) hc
          have fln := filt_len (chM rs i) j (fitB rs)
          refine ⟨rfl, _, rfl, x, C, dx, _, _, rfl, hx8.ins, B.cl, B.n1, rfl, _, rfl, x, C, dx, _, _, rfl, hx8.ins, B.cl, B.n3, rfl, _, rfl, p, dd, a, ys, rs, c, rfl, hx8.parts, rowsP_V hx8.rows, okr, ok.len, hx8.aims, .inr (SqT.of (s78 _ _ ha)), fun H9 lo s9 _ hlo => ⟨_, .inl ⟨_, SqL.of hlo, rfl⟩, ?_⟩⟩
          have kp9 : ∀ b o, b ≠ D2 → H7 b = some o → H9 b = some o := fun b o hb e => s9 _ _ (kp8 b o hb e)
          have hD9 := s9 _ _ hD8
          have eu9 := tupsI_same s9 eu
          cases e : long (mem c) rs with
          | nil =>
            have fb : fitB rs c = true := decide_eq_true e
            rw [fb, if_pos rfl] at fst
            have kput : KpT K H9 (upd H9 D2 (.lst (us ++ [.ref a]))) := KpT.put hD9 trivial
            refine iteT ⟨_, rfl, _, hD9, ?_, fun b o hb e => by rw [upd_ne hb]; exact kp9 b o hb e, _, upd_same, ?_⟩
            · rw [eu.length]
              exact small1000 (by omega)
            · rw [fst]
              exact each_app (tupsI_kp kput eu9) (.cons ⟨a, rfl, kput.tu _ _ ((s78.trans s9) _ _ ha)⟩ .nil)
          | cons k0 ks0 =>
            have fb : fitB rs c = false := decide_eq_false (by rw [e]; simp)
            rw [fb] at fst
            refine iteF ⟨kp9, us, hD9, ?_⟩
            rw [fst]
            show PySem.W.EachIs _ _ (((chM rs i).take j).filter (fitB rs) ++ [])
            rw [List.append_nil]
            exact eu9
        · rintro H8 ⟨kp8, us, hD8, eu⟩
          rw [lvS, List.take_length] at eu
          have eu : PySem.W.EachIs (TupI K H8) us (fitsM rs i) := eu
          have s78 := kD2 kp8
          have hl8 : H8 l = some (.lst ws) := s78 _ _ (sS _ _ hl6)
          have lD2 : D2 ≠ l := fun z => by
            have := sS _ _ hl6
            rw [← z, hD2] at this
            cases this
          have lw := ea.length
          have la := allTo_len i8 i
          have lu := eu.length
          have lf := fitsM_len i8 i
          refine ⟨l, D2, _, _, rfl, rfl, hl8, hD8, ?_, ?_⟩
          · exact Nat.le_trans (by omega : _ ≤ 4000) (by decide)
          · have kput : KpT K H8 (upd H8 l (.lst (ws ++ us))) := KpT.put hl8 trivial
            have s48 := ((sL.trans sD).trans sS).trans s78
            refine ⟨_, _, ws ++ us, rfl, fun b o hb e => ?_, upd_same, ?_⟩
            · rw [upd_ne hb]
              exact s48 _ _ (kp b o hb e)
            · rw [List.range_succ, List.flatMap_append]
              refine each_app (tupsI_kp ((KpT.of s48).trans kput) ea) ?_
              simp only [List.flatMap_cons, List.flatMap_nil, List.append_nil]
              exact tupsI_kp kput eu
    · rintro σ H4 ⟨u2, u3, ws, rfl, kp, h4, ea⟩
      exact ⟨_, rfl, q H4 l ws (kpS kp) hl h4 ea⟩
end

/-! ### dict comprehensions whose keys are tuples -/
/-- the heap behind D[y] = z, y a tuple -/
def PutT (D : Addr) (y z : V) (Ha Hb : Hp) : Prop := ∃ (ks : List (List Key × V)) (u : List Key) (b : Addr), Ha D = some (.dT ks) ∧ y = .ref b ∧ Ha b = some (.tup (u.map kV)) ∧ ks.length < sizeLine ∧ Hb = upd Ha D (.dT (putK ks u z))
theorem run_putT {X : Cx} {pn : List (Addr × Obj)} {σ : L2.St} {Ha Hb : Hp} {s : Shared} {Er : Value → Shared → Prop} {D : Addr} {y z : V} {vy vz : Value} {Fi : Unit → Shared → Prop} (hu : X.A.units + 1 < cLine) (I : Inv X pn σ Ha s) (g : PutT D y z Ha Hb)
    (r1 : L2.RelV y vy) (r2 : L2.RelV z vz) (go : ∀ s', Inv X pn σ Hb s' → Fi () s') : wpAny (model X.prog X.w) X.A (dictSet D vy vz) Fi Er s := by
  obtain ⟨ks, u, b, hD, rfl, hb, few, rfl⟩ := g
  obtain rfl : vy = Value.ref b := r1
  obtain ⟨size, notM, xs, pr, isD⟩ := dt_of I.hok hD
  have lx : xs.length ≤ sizeLine := (Paired.length pr) ▸ size
  have few2 : (putK ks u z).length ≤ sizeLine := Nat.le_trans (length_putK ks u z) few
  refine wpAny_dictSet_heap (hsz := lx) (show (tupleKind (mixKind X.prog X.w)).room X.A from Nat.lt_of_succ_lt hu) (key_of I.hok hb) isD fun g2 isD2 same => go _ ?_
  obtain ⟨ob, en, epo, i1, i2, i3, i4, _, i6⟩ := isD2
  have stays : ∀ c us, Ha c = some (.tup us) → upd Ha D (.dT (putK ks u z)) c = some (.tup us) := fun c us ec => by
    rw [upd_ne (ne_of ec hD (fun e => nomatch e))]
    exact ec
  exact d_write I (by rw [hD]; trivial) same ⟨ob, i1⟩ ⟨few2, notM, _, (pr.put u hb r2).keeps fun c us ec => stays c us ec, ob, en, epo, i1, i2, i3, i4, i6⟩
/-- one turn of such a comprehension -/
def turnT (g : TG) (tt : TT) (tk tv : TE) (σ0 : L2.St) (vs : List Nat) (D : Addr) (Nx : Hp → Prop) (x : V) (Ha : Hp) : Prop :=
  g x (wipe σ0 vs) Ha fun σ1 Hb => wipe σ1 vs = wipe σ0 vs ∧ tt σ1 Hb fun b Hc => if b = true then tk σ1 Hc fun y Hd => tv σ1 Hd fun z He => ∃ Hf, PutT D y z He Hf ∧ Nx Hf else Nx Hc
/-- what is asked of such a comprehension -/
def tDt (wi : TI) (g : TG) (tt : TT) (tk tv : TE) (vs : List Nat) : TE := fun σ H Q => wi σ H fun J Ha => ∀ D, Ha D = none → ∃ W : Nat → Nat → Hp → Prop, (∃ n, W 0 n (upd Ha D (.dT []))) ∧
  ∀ j n Hb, W j n Hb → (J.stop j Hb ∧ Q (.ref D) Hb) ∨ (J.go j Hb ∧ ∃ Nx : Hp → Prop, (∀ Hc, Nx Hc → ∃ n', n' < n ∧ W (j + 1) n' Hc) ∧ ∀ x Hc, J.yld j Hb x Hc → turnT g tt tk tv σ vs D Nx x Hc)
section
variable {X : Cx}
theorem run_dt {pn : List (Addr × Obj)} {s : Shared} {σ : L2.St} {H : Hp} {Q : VK} {ke ve tg src : Expr} {conds : List Expr} {sc : Scope} {own : List (Str × Nat)} {po po' : Pos} {wi : TI} {g : TG} {tt : TT} {tk tv : TE} {use : Option (Value → Sem Unit)} {Fi : Value → Shared → Prop}
    (hu : X.A.units + 1 < cLine) (calm : X.calm = true) (nod : X.N.Nodup) (I : Inv X pn σ H s) (walks : PI X tg src wi) (blk : BlkOk X.N X.env.scope sc own)
    (rg : ∀ (s : Shared) (H : Hp) (C : Addr) (cl : List (Str × Addr)) (fp : List Addr), PG (X.blk s H sc (compEnvC sc cl C X.env) fp) tg g) (rt : ∀ (s : Shared) (H : Hp) (C : Addr) (cl : List (Str × Addr)) (fp : List Addr), PTs (X.blk s H sc (compEnvC sc cl C X.env) fp) conds tt)
    (rk : ∀ (s : Shared) (H : Hp) (C : Addr) (cl : List (Str × Addr)) (fp : List Addr), PE (X.blk s H sc (compEnvC sc cl C X.env) fp) ke tk) (rv : ∀ (s : Shared) (H : Hp) (C : Addr) (cl : List (Str × Addr)) (fp : List Addr), PE (X.blk s H sc (compEnvC sc cl C X.env) fp) ve tv)
    (fold : ∀ x, foldedSetIterable src X.env x = pure x) (asks : tDt wi g tt tk tv (own.map (·.2)) σ H Q)
    (last : ∀ D C s' m H', Inv X pn σ H' s' → Q (.ref D) H' → s'.heap.Ns C m → FpOk X pn H' C → compPost (model X.prog X.w) X.A X.xe use Fi (.ref D) C (.ok .next) s') :
    wpAny (model X.prog X.w) X.A (comprehension (.DictComp ke ve [⟨tg, src, conds, 0⟩] sc po) sc X.env po' newDict false (eval src X.env) use) Fi X.xe s := by
  have freeOk : ∀ y ∈ sc.names, y.2 = .free → ∃ c, X.env.cells.lookup y.1 = some c := fun y hy e => (blk.free y hy e).elim (fun k => I.ok.has _ (.inl k)) fun k => I.ok.has _ (.inr k)
  refine wpAny_comprehension_free (use := use) rfl fold (closure_ok freeOk) blk.kind (fun y hy e => by rw [blk.uniq y hy, e]) (thn (walks.run pn s σ H _ I asks) fun _ sa ha => thn ha fun _ sb hb => ?_)
  obtain ⟨it, fp, tn, J, Hb, rfl, Ib, T, stb, fpb, q⟩ := hb
  refine wpAny_newObj_type (newEnv_comp ?_)
  -- the new dict
  have freeD : Hb sb.heap.objs.size = none := Ib.hok.fresh (Nat.le_refl _)
  obtain ⟨W, ⟨n0, w0⟩, turns⟩ := q _ freeD
  have Ic : Inv X pn σ (upd Hb sb.heap.objs.size (.dT [])) { sb with heap := sb.heap.push { cls := .type "dict", data := .dict #[] } } := Ib.laid (t' := sb.toks) (fun _ _ e => Heap.get?_push_of_some _ e) (Nat.le_refl _) (dt_empty sb.heap Ib.big)
  generalize eD : sb.heap.objs.size = D at freeD w0 turns Ic ⊢
  generalize ec : ({ sb with heap := sb.heap.push { cls := .type "dict", data := .dict #[] } } : Shared) = c at Ic
  have hc : c.heap = sb.heap.push { cls := .type "dict", data := .dict #[] } := by rw [← ec]
  have below : ∀ b ∈ fp, b < D := fun b hb => by
    obtain ⟨o, e, _⟩ := T.obj _ _ stb b hb
    rw [← eD]
    exact Heap.lt_size e
  generalize eH : upd Hb D (.dT []) = Hc at Ic w0
  have fpc : ∀ b ∈ fp, FpOk X pn Hc b ∧ b < c.heap.objs.size := fun b hb => by
    have lt := below b hb
    refine ⟨⟨?_, (fpb b hb).2⟩, ?_⟩
    · rw [← eH, upd_ne (Nat.ne_of_lt lt)]
      exact (fpb b hb).1
    · rw [hc, Heap.size_push, eD]
      exact Nat.lt_succ_of_lt lt
  have stc : tn 0 c.heap := T.keep _ _ _ stb fun b _ o e => by
    rw [hc]
    exact Heap.get?_push_of_some _ e
  have Id := block_start Ic blk nod fpc
  -- the block
  generalize eE : compEnvC sc (cellsFrom (c.heap.objs.size + 1) sc.names (cloFrom X.env.cells sc.names [])) c.heap.objs.size X.env = en at Id
  have pg : PG (X.blk c Hc sc en fp) tg g := eE ▸ rg c Hc _ _ fp
  have pt : PTs (X.blk c Hc sc en fp) conds tt := eE ▸ rt c Hc _ _ fp
  have pk : PE (X.blk c Hc sc en fp) ke tk := eE ▸ rk c Hc _ _ fp
  have pv' : PE (X.blk c Hc sc en fp) ve tv := eE ▸ rv c Hc _ _ fp
  have locs : en.locals = c.heap.objs.size := by rw [← eE]; rfl
  have quiet : ∀ b ∈ fp, Hc b = none := fun b hb => (fpc b hb).1.1
  generalize ed : ({ c with heap := pushCells (c.heap.push { cls := .type "dict", data := .dict #[] }) sc.names } : Shared) = d at Id
  have std : tn 0 d.heap := T.keep _ _ _ stc fun b _ o e => by
    rw [← ed]
    exact pushCells_keeps _ _ _ _ (Heap.get?_push_of_some _ e)
  have fpIn : ∀ {σ' : L2.St} {H' : Hp} {s' : Shared}, Inv (X.blk c Hc sc en fp) [] σ' H' s' → (∀ b ∈ fp, H' b = none) → ∀ b ∈ fp, FpOk (X.blk c Hc sc en fp) [] H' b := fun I' q b hb =>
    ⟨q b hb, (I'.ok.exf b hb).1, I'.ok.exfs b hb, .inl hb, fun x y e => (I'.ok.exf b hb).2 x y e, fun p hp => absurd (show p ∈ ([] : List (Addr × Obj)) ++ [] from hp) (by simp)⟩
  have goes : codeAny (model X.prog X.w) X.A (.compLoop (.DictComp ke ve [⟨tg, src, conds, 0⟩] sc po) 0 (.ref it) (.ref D) en) (compPost (model X.prog X.w) X.A X.xe use Fi (.ref D) c.heap.objs.size) d := by
    refine compLoop_anyD (fun n s' => ∃ j H', Inv (X.blk c Hc sc en fp) [] (wipe σ (own.map (·.2))) H' s' ∧ tn j s'.heap ∧ (∀ b ∈ fp, H' b = none) ∧ W j n H') (fun n s5 hs5 => ?_) n0 ⟨0, Hc, Id, std, quiet, w0⟩
    obtain ⟨j, H5, I5, st5, n5, w5⟩ := hs5
    rcases turns j n H5 w5 with ⟨over, qq⟩ | ⟨on, Nx, next, step⟩
    · refine thnF (T.done (X.blk c Hc sc en fp) rfl rfl rfl calm j [] s5 _ H5 (fun _ _ => False) I5 (fpIn I5 n5) st5 over) fun r s6 h6 => ?_
      obtain ⟨rfl, I6⟩ := h6
      have outer : Inv X pn σ H5 s6 := Ic.call' (ch := fp) I6.os I6.base I6.hok I6.bare fun b hb => by
        obtain ⟨⟨k0, k1, k2, k3, k4, k5⟩, _⟩ := fpc b hb
        exact ⟨k3, k1, k4, k5⟩
      have nL : H5 c.heap.objs.size = none := by
        rw [← locs]
        exact I6.free
      obtain ⟨m, hm, _⟩ := I6.loc
      have hm' : s6.heap.Ns c.heap.objs.size m := by
        rw [← locs]
        exact hm
      exact last D _ s6 m H5 outer qq hm' (Ic.fpOk (Nat.le_refl _) nL)
    · refine thnF (T.item (X.blk c Hc sc en fp) rfl rfl rfl calm j [] s5 _ H5 (fun _ _ => False) I5 (fpIn I5 n5) st5 on) fun r s6 h6 => ?_
      obtain ⟨u, rfl, h6⟩ := h6
      refine thnF h6 fun _ s7 h7 => ?_
      obtain ⟨x, H7, I7, r7, y7, st7, n7⟩ := h7
      refine thnF (pg.run _ s7 _ H7 x u _ (I7.pinned (fpIn I7 n7) (T.obj _ _ st7)) r7 (step x H7 y7)) fun _ s8 h8 => ?_
      obtain ⟨σ8, H8, I8, wip, q8⟩ := h8
      have over : ∀ {s' : Shared} {H' : Hp}, Inv (X.blk c Hc sc en fp) ([] ++ pinsAt fp s7.heap) σ8 H' s' → Nx H' → ∃ m, m < n ∧ ∃ j H', Inv (X.blk c Hc sc en fp) [] (wipe σ (own.map (·.2))) H' s' ∧ tn j s'.heap ∧ (∀ b ∈ fp, H' b = none) ∧ W j m H' := by
        intro s' H' I' nx
        obtain ⟨m', lt, w'⟩ := next H' nx
        have pinned : ∀ b ∈ fp, ∀ o, s7.heap.get? b = some o → s'.heap.get? b = some o ∧ H' b = none := fun b hb o e => by
          have z := I'.pin (b, o) (List.mem_append_right _ (List.mem_append_right _ (mem_pinsAt hb e)))
          exact ⟨z.1, z.2.1⟩
        refine ⟨m', lt, j + 1, H', (I'.unpinned (pins := [])).weak ?_ ?_, T.keep _ _ _ st7 fun b hb o e => (pinned b hb o e).1, fun b hb => ?_, w'⟩
        · rw [← wip, wipe_length]
        · intro i v e
          rw [← wip] at e
          exact (wipe_some e).1
        · obtain ⟨o, e, _⟩ := T.obj _ _ st7 b hb
          exact (pinned b hb o e).2
      refine thnF (pt.run _ s8 σ8 H8 _ I8 q8) fun b s9 h9 => ?_
      obtain ⟨H9, I9, q9⟩ := h9
      cases b with
      | false =>
        rw [if_neg Bool.false_ne_true] at q9 ⊢
        exact over I9 q9
      | true =>
        rw [if_pos rfl] at q9 ⊢
        refine thnF (pk.run _ s9 σ8 H9 _ I9 q9) fun _ s10 h10 => ?_
        obtain ⟨yk, H10, I10, r10, q10⟩ := h10
        refine thnF (pv'.run _ s10 σ8 H10 _ I10 q10) fun _ s11 h11 => ?_
        obtain ⟨yv, H11, I11, r11, Hf, put, nx⟩ := h11
        exact run_putT (X := X.blk c Hc sc en fp) hu I11 put r10 r11 fun s12 I12 => over I12 nx
  subst eE
  exact codeAny_compStart_dict goes (T.self X.A 0 _ _ _ std goes)
/-- such a comprehension as a value -/
theorem pe_dt {ke ve tg src : Expr} {conds : List Expr} {sc : Scope} {own : List (Str × Nat)} {po : Pos} {wi : TI} {g : TG} {tt : TT} {tk tv : TE} (hu : X.A.units + 1 < cLine) (calm : X.calm = true) (nod : X.N.Nodup) (walks : PI X tg src wi) (blk : BlkOk X.N X.env.scope sc own)
    (rg : ∀ (s : Shared) (H : Hp) (C : Addr) (cl : List (Str × Addr)) (fp : List Addr), PG (X.blk s H sc (compEnvC sc cl C X.env) fp) tg g) (rt : ∀ (s : Shared) (H : Hp) (C : Addr) (cl : List (Str × Addr)) (fp : List Addr), PTs (X.blk s H sc (compEnvC sc cl C X.env) fp) conds tt)
    (rk : ∀ (s : Shared) (H : Hp) (C : Addr) (cl : List (Str × Addr)) (fp : List Addr), PE (X.blk s H sc (compEnvC sc cl C X.env) fp) ke tk) (rv : ∀ (s : Shared) (H : Hp) (C : Addr) (cl : List (Str × Addr)) (fp : List Addr), PE (X.blk s H sc (compEnvC sc cl C X.env) fp) ve tv)
    (fold : ∀ x, foldedSetIterable src X.env x = pure x := by intro _; rfl) : PE X (.DictComp ke ve [⟨tg, src, conds, 0⟩] sc po) (tDt wi g tt tk tv (own.map (·.2))) := by
  constructor
  intro pn s σ H Q I asks
  rw [arm_eval_DictComp]
  refine run_dt hu calm nod I walks blk rg rt rk rv fold asks fun D C s' m H' I' q hm f => ⟨m, hm, fun g2 sb => ?_⟩
  obtain ⟨k0, k1, k2, k3, k4, k5⟩ := f
  exact ⟨.ref D, H', I'.turned (t' := s'.toks) (fun b o hb e => (sb.2 b hb).trans e) k0 k1 k3 k4 k5, rfl, q⟩
end
/-- over any walk -/
theorem dt_it {J : It} {n : Nat} {G : Hp → Prop} {Y : Nat → Hp → V → Hp → Prop} (w : Walk J n G Y) {g : TG} {tt : TT} {tk tv : TE} {vs : List Nat} {σ : L2.St} {Ha : Hp} {D : Addr} {Qd : Hp → Prop} (Pv : Nat → Hp → Prop) (zero : Pv 0 (upd Ha D (.dT []))) (stand : ∀ i H, i ≤ n → Pv i H → G H)
    (turn : ∀ i x H H', i < n → Pv i H → Y i H x H' → turnT g tt tk tv σ vs D (Pv (i + 1)) x H') (last : ∀ H, Pv n H → Qd H) :
    ∃ W : Nat → Nat → Hp → Prop, (∃ m, W 0 m (upd Ha D (.dT []))) ∧ ∀ j m Hb, W j m Hb → (J.stop j Hb ∧ Qd Hb) ∨ (J.go j Hb ∧ ∃ Nx : Hp → Prop, (∀ Hc, Nx Hc → ∃ n', n' < m ∧ W (j + 1) n' Hc) ∧ ∀ x Hc, J.yld j Hb x Hc → turnT g tt tk tv σ vs D Nx x Hc) := by
  refine ⟨fun j m Hb => m = n - j ∧ j ≤ n ∧ Pv j Hb, ⟨n, rfl, Nat.zero_le _, zero⟩, ?_⟩
  rintro j m Hb ⟨rfl, le, p⟩
  have q := stand j Hb le p
  rcases Nat.lt_or_eq_of_le le with lt | rfl
  · exact .inr ⟨w.goes j Hb lt q, Pv (j + 1), fun Hc p' => ⟨n - (j + 1), by omega, rfl, lt, p'⟩, fun x Hc y => turn j x Hb Hc lt p (w.yields j Hb x Hc lt q y)⟩
  · exact .inl ⟨w.stops Hb q, last Hb p⟩

/-! ### many_fits -/
def spMany (K : PySem.W.Frag) (C : Addr) : Sp := fun vs H Q _ => ∃ (x : Addr) (rs : List Row), vs = [.ref x] ∧ DraftV K H C x rs ∧ (inn rs).length < 8 ∧ rs.length ≤ 400 ∧ ∀ H', Same H H' → Q (.int ((allF rs).length : Nat)) H'
abbrev sMany : Stmt := mth 11
theorem scMany : FnScope ["self"] ["self"] (defScope sMany) := ⟨rfl, rfl, rfl, by decide +kernel, rfl, by decide +kernel, by decide +kernel⟩
section
variable {P : Program} {w : World} {K : PySem.W.Frag} {mg : Str → Option Value} {base : Heap}
theorem ok_many {f C : Addr} {fd : FuncData} (F : Fun K "many_fits" "Draft.many_fits" sMany f fd) (T : Bi mg) (M1 : HasM P w K mg base CX0 5 C "all_fits" ["self"] (spAll K C)) : FnOk P w K mg base CX0 6 f fd ["self"] (spMany K C) := by
  refine F.ok scMany (fun vs H Q E h => ?_) (fun cdv A outer s H vs Q E hr h => ?_)
  · obtain ⟨x, rs, rfl, _⟩ := h
    rfl
  · obtain ⟨x, rs, rfl, dv, i8, l4, q⟩ := h
    refine ⟨_, pss_one (ps_ret (pe_callB call_len_seq (by rfl) T.len (by decide +kernel) (pa_cons (pe_methH0 M1 (pv 0) hr pass0) pa_nil))), ?_⟩
    have dv0 := dv
    obtain ⟨ok, dx, p, fq, dd, o, ys, hx⟩ := dv
    refine ⟨_, rfl, x, dx, _, rfl, hx.ins, rfl, x, rs, rfl, dv0, i8, l4, fun H' p ws s _ hp ew => ⟨p, ws, rfl, .inl (SqL.of hp), ?_⟩⟩
    rw [ew.length]
    exact q H' s
end

/-! ### tight -/
def kI (c : List Int) : List Key := c.map Sum.inl
theorem kI_kV (c : List Int) : (kI c).map kV = c.map V.int := by
  unfold kI
  rw [List.map_map]
  rfl
theorem kI_inj {c d : List Int} (h : kI c = kI d) : c = d := by
  unfold kI at h
  exact List.map_inj_right (fun a b e => Sum.inl.inj e) |>.mp h
def fitD (cs : List (List Int)) : List (List Key × V) := cs.map fun c => (kI c, V.bl true)
theorem fitD_none {cs : List (List Int)} {c : List Int} (h : c ∉ cs) : valV (fitD cs) (kI c) = none := by
  unfold valV fitD
  rw [List.find?_map, Option.map_map, Option.map_eq_none_iff, List.find?_eq_none]
  intro d hd z
  have z : kI d = kI c := of_decide_eq_true z
  rw [kI_inj z] at hd
  exact h hd
theorem fitD_has (cs : List (List Int)) (c : List Int) : (valV (fitD cs) (kI c)).isSome = decide (c ∈ cs) := by
  by_cases h : c ∈ cs
  · rw [decide_eq_true h]
    unfold valV fitD
    rw [List.find?_map, Option.map_map, Option.isSome_map, List.find?_isSome]
    exact ⟨c, h, decide_eq_true rfl⟩
  · rw [decide_eq_false h, fitD_none h]
    rfl
theorem fitD_put {cs : List (List Int)} {c : List Int} (h : c ∉ cs) : putK (fitD cs) (kI c) (.bl true) = fitD (cs ++ [c]) := by
  rw [putK_new _ (fitD_none h)]
  unfold fitD
  rw [List.map_append]
  rfl
theorem fitD_get {cs : List (List Int)} {i : Nat} {k : List Key} {v : V} (h : (fitD cs)[i]? = some (k, v)) : ∃ c, cs[i]? = some c ∧ k = kI c := by
  unfold fitD at h
  rw [List.getElem?_map] at h
  obtain ⟨c, hc, e⟩ := Option.map_eq_some_iff.mp h
  exact ⟨c, hc, (congrArg Prod.fst e).symm⟩
theorem fitD_len (cs : List (List Int)) : (fitD cs).length = cs.length := List.length_map ..
theorem tupsI_put {K : PySem.W.Frag} {H : Hp} {S : Addr} {o o' : HO} (hS : H S = some o) (ho : ∀ xs, o ≠ .tup xs) {vs : List V} {cs : List (List Int)} (h : PySem.W.EachIs (TupI K H) vs cs) : PySem.W.EachIs (TupI K (upd H S o')) vs cs := each_impD (fun _ _ _ ⟨a, e1, h1⟩ => ⟨a, e1, by
  rw [upd_ne fun z => by
    rw [z, hS] at h1
    exact ho _ (Option.some.inj h1)]
  exact h1⟩) h
abbrev inB (rs : List Row) (k : Int) : Bool := decide (k ∈ zs (inn rs))
/-- what a choice comes to when one is near that may be -/
def nears (rs : List Row) (c : List Int) : List (List Int) := (c.filter (inB rs)).map fun k => offI k c
def tightB (rs : List Row) (c : List Int) : Bool := !((nears rs c).map fun o => decide (o ∈ allF rs)).any id
def tightL (rs : List Row) : List (List Int) := (allF rs).filter (tightB rs)
theorem allF_nodup (rs : List Row) : (allF rs).Nodup := (allF_lt rs).imp fun h e => by rw [e] at h; exact lt2_irrefl _ h
def spTight (K : PySem.W.Frag) (C : Addr) : Sp := fun vs H Q _ => ∃ (x : Addr) (rs : List Row), vs = [.ref x] ∧ DraftV K H C x rs ∧ (inn rs).length < 8 ∧ rs.length ≤ 400 ∧ ∀ H' p ws, Same H H' → H p = none → H' p = some (.lst ws) → PySem.W.EachIs (TupI K H') ws (tightL rs) → Q (.ref p) H'
abbrev sTight : Stmt := mth 13
theorem scTight : FnScope ["self", "fitting", "found", "choice", "nearer", "index", "other"] ["self"] (defScope sTight) := ⟨rfl, rfl, rfl, by decide +kernel, rfl, by decide +kernel, by decide +kernel⟩
section
variable {P : Program} {w : World} {K : PySem.W.Frag} {mg : Str → Option Value} {base : Heap}
theorem ok_tight {f C : Addr} {fd : FuncData} (F : Fun K "tight" "Draft.tight" sTight f fd) (T : Bi mg) (hany : mg "any" = none) (B : DrC K C) (M1 : HasM P w K mg base CX0 5 C "all_fits" ["self"] (spAll K C)) (G2 : Has P w K mg base CX0 5 "without_one" ["row", "index"] (spWo K)) : FnOk P w K mg base CX0 6 f fd ["self"] (spTight K C) := by
  refine F.ok scTight (fun vs H Q E h => ?_) (fun cdv A outer s H vs Q E hr h => ?_)
  · obtain ⟨x, rs, rfl, _⟩ := h
    rfl
  · obtain ⟨x, rs, rfl, dv, i8, l4, q⟩ := h
    have hu := hu_of hr
    refine ⟨_, (pss_cons (ps_set (i := 1) scTight.nd rfl (.inr rfl) (pe_dt (own := [("choice", 3)]) (g := gName 3) (tt := tYes) (tk := tVar 3) (tv := tC (.bl true)) hu rfl scTight.nd (pi_list (pe_methH0 M1 (pv 0) hr pass0)) (blkOk_by (N := ["self", "fitting", "found", "choice", "nearer", "index", "other"]) (sc := defScope sTight) (by decide +kernel)) (fun _ _ _ _ _ => pg_name (i := 3) scTight.nd rfl (.inl rfl)) (fun _ _ _ _ _ => pts_nil) (fun _ _ _ _ _ => pv 3) (fun _ _ _ _ _ => pe_bl) (by intro _; rfl)))
      (pss_cons (ps_set (i := 2) scTight.nd rfl (.inl rfl) (pe_lst pa_nil))
      (pss_cons (ps_lock (ps_for PassesOwn.never rfl (pi_keys (pv 1)) (pg_name (i := 3) scTight.nd rfl (.inr rfl))
        (pss_cons (ps_setLc (i := 4) (own := [("index", 5)]) (g := gName 5) (tt := tB (tDIn (tVar 5) (tFld K (tVar 0) "aims"))) (te := tCall (spWo K) [] E00 (tCons (tVar 3) (tCons (tVar 5) tNil))) rfl scTight.nd rfl rfl (sw_true rfl rfl rfl (by decide +kernel)) (pi_tup (pv 3)) (blkOk_by (N := ["self", "fitting", "found", "choice", "nearer", "index", "other"]) (sc := defScope sTight) (by decide +kernel)) (fun _ _ _ _ _ => pg_name (i := 5) scTight.nd rfl (.inl rfl)) (fun _ _ _ _ _ => pts_one (pt_cmp (pc_din hu (pv 5) (pe_fld (pv 0) rfl)))) (fun _ _ _ _ _ => pe_callH G2 hr (by rfl) pass0 (pa_cons (pv 3) (pa_cons (pv 5) pa_nil))))
        (pss_one (ps_if (pt_not (pt_val (pe_callB (cr_any rfl) (by rfl) hany (by decide +kernel) (pa_cons (pe_lc (own := [("other", 6)]) (g := gName 6) (tt := tYes) (te := tDIn (tVar 6) (tVar 1)) rfl scTight.nd (pi_list (pv 4)) (blkOk_by (N := ["self", "fitting", "found", "choice", "nearer", "index", "other"]) (sc := defScope sTight) (by decide +kernel)) (fun _ _ _ _ _ => pg_name (i := 6) scTight.nd rfl (.inl rfl)) (fun _ _ _ _ _ => pts_nil) (fun _ _ _ _ _ => pe_cmp (pc_din hu (pv 6) (pv 1)))) pa_nil)))) (pss_one (ps_expr (pe_bm PySem.F.plainAttrs_list PySem.F.slot_list_append PySem.F.type_list_append mt_append (pv 2) (pa_cons (pv 3) pa_nil)))) pss_nil)))))
      (pss_one (ps_ret (pv 2)))))), ?_⟩
    have dv0 := dv
    obtain ⟨ok, dx, p, fq, dd, o, ys, hx⟩ := dv
    refine ⟨_, rfl, x, dx, _, rfl, hx.ins, rfl, x, rs, rfl, dv0, i8, l4, fun H1 pf fs s1 hpf0 hpf ef => ?_⟩
    refine ⟨pf, rfl, ⟨_, SqL.of hpf⟩, fun D hD => ?_⟩
    have kD : ∀ {H2 : Hp}, (∀ b o, b ≠ D → H1 b = some o → H2 b = some o) → Same H1 H2 := fun kp b o e => kp b o (ne_of_none e hD) e
    have lF := ef.length
    have l24 := allF_len i8
    refine dt_it walk_list (fun i H2 => (∀ b o, b ≠ D → H1 b = some o → H2 b = some o) ∧ H2 D = some (.dT (fitD ((allF rs).take i)))) ⟨fun b o hb e => by rw [upd_ne hb]; exact e, upd_same⟩ (fun i H2 _ ⟨kp, _⟩ => sqL_same (kD kp) (SqL.of hpf)) ?_ ?_
    · rintro i y H2 H2' hi ⟨kp, hD2⟩ ⟨rfl, hy⟩
      obtain ⟨c, hc, a, rfl, ha⟩ := eachs_get ef hy
      have ha2 := kD kp _ _ ha
      refine ⟨rfl, yes_go (iteT ⟨_, rfl, _, ⟨_, kI c, a, hD2, rfl, by rw [kI_kV]; exact ha2, ?_, rfl⟩, fun b o hb e => by rw [upd_ne hb]; exact kp b o hb e, ?_⟩)⟩
      · rw [fitD_len, List.length_take]
        exact Nat.lt_of_le_of_lt (by omega : _ ≤ 4000) (by decide)
      · rw [upd_same, fitD_put (take_not (allF_nodup rs) hc), List.take_add_one, hc]
        rfl
    · rintro H2 ⟨kp, hD2⟩
      rw [lF, List.take_length] at hD2
      have s2 := s1.trans (kD kp)
      refine ⟨Nat.zero_le _, fun L hL => ?_⟩
      have sL := same_new (o := .lst []) hL
      have hL3 : upd H2 L (.lst []) L = some (.lst []) := upd_same
      generalize upd H2 L (.lst []) = H3 at sL hL3 ⊢
      have hD3 := sL _ _ hD2
      have s3 := s2.trans sL
      have DL : L ≠ D := fun z => by rw [z, hD2] at hL; cases hL
      refine ⟨D, _, hD3, trivial, fun od => ?_⟩
      have hx3 := hx.same s3
      have xD : x ≠ D := ne_of hx3.ins hD3 (by intro z; cases z)
      have hD4 : upd H3 D (.frz od (.dT (fitD (allF rs)))) D = some (.frz od (.dT (fitD (allF rs)))) := upd_same
      have kp34 : ∀ b o, b ≠ D → H3 b = some o → upd H3 D (.frz od (.dT (fitD (allF rs)))) b = some o := fun b o hb e => by rw [upd_ne hb]; exact e
      generalize upd H3 D (.frz od (.dT (fitD (allF rs)))) = H4 at hD4 kp34 ⊢
      have hL4 := kp34 _ _ DL hL3
      have hDH : H D = none := none_of_f (s1) hD
      have hLH : H L = none := none_of_f s2 hL
      refine ⟨_, rfl, D, od, rfl, .inr ⟨_, hD4, ?_⟩⟩
      refine for_it walk_keysT (fun i σ H5 => ∃ (u3 u4 : Option V) (ws : List V), σ = [some (.ref x), some (.ref D), some (.ref L), u3, u4, none, none] ∧ (∀ b o, b ≠ D → b ≠ L → H4 b = some o → H5 b = some o) ∧ H5 D = some (.frz od (.dT (fitD (allF rs)))) ∧ H5 L = some (.lst ws) ∧ PySem.W.EachIs (TupI K H5) ws (((allF rs).take i).filter (tightB rs)))
        ⟨none, none, [], rfl, fun b o _ _ e => e, hD4, hL4, .nil⟩ (fun i σ H5 _ ⟨_, _, _, _, _, h, _⟩ => h) ?_ ?_
      · rintro i y σ H5 H5' hi ⟨u3, u4, ws, rfl, kp5, hD5, hL5, ew⟩ ⟨rfl, k, v, a, hk, rfl, ha⟩
        obtain ⟨c, hc, rfl⟩ := fitD_get hk
        rw [kI_kV] at ha
        have cok := ((mem_allF (by omega : rs.length ≤ 900)).mp (List.mem_of_getElem? hc)).1
        have l9 := cok.len
        have kH : ∀ b o, H b = some o → H5' b = some o := fun b o e => kp5 b o (ne_of_none e hDH) (ne_of_none e hLH) (kp34 b o (ne_of_none e hDH) (s3 _ _ e))
        have hx5 := hx.same kH
        refine ⟨_, rfl, a, rfl, ⟨_, SqT.of ha⟩, fun N hN => ?_⟩
        have kN : ∀ {H6 : Hp}, (∀ b o, b ≠ N → H5' b = some o → H6 b = some o) → Same H5' H6 := fun kp b o e => kp b o (ne_of_none e hN) e
        refine lc_it walk_tup (fun j H6 => (∀ b o, b ≠ N → H5' b = some o → H6 b = some o) ∧ ∃ vs, H6 N = some (.lst vs) ∧ PySem.W.EachIs (TupI K H6) vs (((c.take j).filter (inB rs)).map fun k => offI k c)) ⟨fun b o hb e => by rw [upd_ne hb]; exact e, [], upd_same, .nil⟩ (fun j H6 _ ⟨kp, _⟩ => sqT_same (kN kp) (SqT.of ha)) ?_ ?_
        · rintro j y H6 H6' hj ⟨kp6, vs, hN6, ev⟩ ⟨rfl, hy⟩
          rw [List.getElem?_map] at hy
          obtain ⟨k, hk2, rfl⟩ := Option.map_eq_some_iff.mp hy
          have s56 := kN kp6
          have hx6 := hx5.same s56
          have ha6 := s56 _ _ ha
          have fst := filt_step (inB rs) hk2
          have fln := filt_len c j (inB rs)
          refine ⟨rfl, _, rfl, _, rfl, x, C, dx, _, _, rfl, hx6.ins, B.cl, B.n3, rfl, dd, _, rfl, .inl ⟨_, Sum.inl k, .inl hx6.aims, rfl, rfl⟩, _, rfl, ?_⟩
          have em : (valV (aimD rs) (Sum.inl k)).isSome = inB rs k := mapD_is _ k (inn rs)
          rw [em]
          cases c1 : inB rs k with
          | false =>
            rw [c1] at fst
            refine iteF ⟨kp6, vs, hN6, ?_⟩
            rw [fst]
            show PySem.W.EachIs _ _ (((c.take j).filter _ ++ []).map _)
            rw [List.append_nil]
            exact ev
          | true =>
            rw [c1, if_pos rfl] at fst
            refine iteT ⟨_, rfl, _, rfl, a, c, k, rfl, SqT.of ha6, l9, fun H7 t s7 _ ht => ⟨_, s7 _ _ hN6, ?_, fun b o hb e => by rw [upd_ne hb]; exact s7 _ _ (kp6 b o hb e), _, upd_same, ?_⟩⟩
            · rw [ev.length, List.length_map]
              exact small1000 (by omega)
            · rw [fst, List.map_append]
              have hN7 := s7 _ _ hN6
              refine each_app (tupsI_put hN7 (by intro xs z; cases z) (tupsI_same s7 ev)) (.cons ⟨t, rfl, ?_⟩ .nil)
              rw [upd_ne fun z => by rw [z, hN7] at ht; cases ht]
              exact ht
        · rintro H6 ⟨kp6, vs, hN6, ev⟩
          rw [List.length_map, List.take_length] at ev
          have ev : PySem.W.EachIs (TupI K H6) vs (nears rs c) := ev
          have s56 := kN kp6
          have hD6 := s56 _ _ hD5
          have hL6 := s56 _ _ hL5
          have ln : (nears rs c).length ≤ 900 := by
            unfold nears
            rw [List.length_map]
            exact Nat.le_trans (List.length_filter_le _ _) l9
          refine ⟨_, rfl, N, rfl, ⟨_, SqL.of hN6⟩, fun N2 hN2 => ?_⟩
          have kN2 : ∀ {H7 : Hp}, (∀ b o, b ≠ N2 → H6 b = some o → H7 b = some o) → Same H6 H7 := fun kp b o e => kp b o (ne_of_none e hN2) e
          refine lc_it walk_list (fun j H7 => (∀ b o, b ≠ N2 → H6 b = some o → H7 b = some o) ∧ H7 N2 = some (.lst ((((nears rs c).take j).map fun o => decide (o ∈ allF rs)).map V.bl))) ⟨fun b o hb e => by rw [upd_ne hb]; exact e, upd_same⟩ (fun j H7 _ ⟨kp, _⟩ => sqL_same (kN2 kp) (SqL.of hN6)) ?_ ?_
          · rintro j y H7 H7' hj ⟨kp7, hN7⟩ ⟨rfl, hy⟩
            obtain ⟨e, he, b, rfl, hb⟩ := eachs_get ev hy
            have s67 := kN2 kp7
            refine ⟨rfl, yes_go (iteT ?_)⟩
            refine ⟨_, rfl, _, rfl, D, _, rfl, .inr ⟨_, kI e, b, .inr ⟨od, s67 _ _ hD6⟩, rfl, (by rw [kI_kV]; exact s67 _ _ hb), rfl⟩, _, hN7, ?_, fun b o hb e => by rw [upd_ne hb]; exact kp7 b o hb e, ?_⟩
            · rw [List.length_map, List.length_map, List.length_take]
              exact small1000 (by omega)
            · rw [upd_same, fitD_has, List.take_add_one, he]
              simp
          · rintro H7 ⟨kp7, hN7⟩
            rw [ev.length, List.take_length] at hN7
            have s67 := kN2 kp7
            have s57 := s56.trans s67
            have ew7 := tupsI_same s57 ew
            have hL7 := s57 _ _ hL5
            have hD7 := s57 _ _ hD5
            have fst := filt_step (tightB rs) hc
            have fln := filt_len (allF rs) i (tightB rs)
            refine ⟨N2, _, rfl, SqL.of hN7, _, rfl, ?_⟩
            have kpo : ∀ b o, b ≠ D → b ≠ L → H4 b = some o → H7 b = some o := fun b o h1 h2 e => s57 _ _ (kp5 b o h1 h2 e)
            show if tightB rs c = true then _ else _
            cases ct : tightB rs c with
            | false =>
              rw [ct] at fst
              refine iteF ⟨_, _, ws, rfl, kpo, hD7, hL7, ?_⟩
              rw [fst]
              show PySem.W.EachIs _ _ (((allF rs).take i).filter (tightB rs) ++ [])
              rw [List.append_nil]
              exact ew7
            | true =>
              rw [ct, if_pos rfl] at fst
              refine iteT ⟨_, rfl, .inl ⟨rfl, _, SqL.of hL7⟩, _, rfl, L, ws, _, rfl, rfl, hL7, ?_, ?_⟩
              · rw [ew7.length]
                exact Nat.lt_of_le_of_lt (by omega : _ ≤ 4000) (by decide)
              · refine ⟨_, _, ws ++ [.ref a], rfl, fun b o h1 h2 e => by rw [upd_ne h2]; exact kpo b o h1 h2 e, by rw [upd_ne DL.symm]; exact hD7, upd_same, ?_⟩
                rw [fst]
                exact each_app (tupsI_put hL7 (by intro xs z; cases z) ew7) (.cons ⟨a, rfl, (by rw [upd_ne fun z => by rw [z] at ha; rw [ha] at hL5; cases hL5]; exact s57 _ _ ha)⟩ .nil)
      · rintro σ H5 ⟨u3, u4, ws, rfl, kp5, hD5, hL5, ew⟩
        rw [fitD_len, List.take_length] at ew
        refine ⟨hD5, _, rfl, q _ L ws (fun b o e => ?_) hLH ?_ (tupsI_put hD5 (by intro xs z; cases z) ew)⟩
        · rw [upd_ne (ne_of_none e hDH)]
          exact kp5 b o (ne_of_none e hDH) (ne_of_none e hLH) (kp34 b o (ne_of_none e hDH) (s3 _ _ e))
        · rw [upd_ne DL]
          exact hL5
end

/-! ### lambdas that are kept -/
/-- the function that a lambda made stands at f, its code at c' -/
def LamO (f c' : Addr) (q : Str) (params : Arguments) (body : Expr) (scope : Scope) (cl : List (Str × Addr)) : HO := .ext fun h => ∃ pm ctv : Value, h.get? f = some (PySem.W.kla_obj "<lambda>" q params body scope cl pm c' ctv)
theorem lamO_kind {f c' : Addr} {q : Str} {params : Arguments} {body : Expr} {scope : Scope} {cl : List (Str × Addr)} : ∃ φ, LamO f c' q params body scope cl = .ext φ := ⟨_, rfl⟩
theorem lamO_ok {prog : Program} {w : World} {H : Hp} {h : Heap} {f c' : Addr} {q : Str} {params : Arguments} {body : Expr} {scope : Scope} {cl : List (Str × Addr)} {pm ctv : Value} (e : h.get? f = some (PySem.W.kla_obj "<lambda>" q params body scope cl pm c' ctv)) : ObjOk prog w H h f (LamO f c' q params body scope cl) :=
  ⟨⟨pm, ctv, e⟩, ⟨_, e⟩, fun h1 h2 ⟨a, b, z⟩ st => ⟨a, b, st _ z⟩⟩
section
variable {X : Cx} {pins : List (Addr × Obj)} {σ : L2.St} {H : Hp} {s : Shared}
theorem lam_keep {T : List (Addr × Str)} {c P : Addr} {params : Arguments} {body : Expr} {scope : Scope} {pos : Pos} {E : Value → Shared → Prop} {Q : Value → Shared → Prop} (I : Inv X pins σ H s) (TB : LamX.TabB X.base X.mg c P) (hcode : X.env.code = .ref c)
    (hm : (P, X.env.qual ++ "<lambda>") ∈ T) (hu : ∀ p ∈ T, p.1 = P → p.2 = X.env.qual ++ "<lambda>") (tabs : LamX.Tabs T H) (hdef : defaultsOf params X.env = ([], [])) (hfree : ∀ y ∈ scope.names, y.2 = .free → ∃ c, X.env.cells.lookup y.1 = some c)
    (go : ∀ (f c' : Addr) (H1 : Hp) (s' : Shared), LamX.ExtN H H1 → LamX.Tabs T H1 → H1 f = none → H1 c' = some (LamX.CodeO c' (X.env.qual ++ "<lambda>")) →
      Inv X pins σ (upd H1 f (LamO f c' (X.env.qual ++ "<lambda>") params body scope (cloFrom X.env.cells scope.names []))) s' → Q (.ref f) s') :
    wpAny (model X.prog X.w) X.A (eval (.Lambda params body scope pos) X.env) Q E s := by
  obtain ⟨tb, eP, okT, told⟩ := tabs _ hm
  have gP : s.heap.get? P = some { cls := .none, data := .fields tb } := I.hok P _ eP
  refine PySem.W.kla_eval hdef ?_
  rcases hcd : codeAmong pos tb.toList with _ | cv
  · refine PySem.W.kla_makeFunction (P := P) (c := c) (ps := tb) (mg := X.mg) (closure_ok hfree) I.ok.glob (I.mod.glob.keeps I.bk) hcode (TB.code.keeps I.bk) gP okT hcd TB.gP (TB.bm.keeps I.bk) fun c' ctv hN tk grow above below rec atP => ?_
    obtain ⟨_, oc, vs, t, ec, goc, dc, vc⟩ := rec
    cases ec
    have free' : H c' = none := I.hok.fresh above
    have J := LamX.inv_table (q := X.env.qual ++ "<lambda>") (h' := hN) (t' := tk) (more := #[rawInt pos.line, rawInt pos.col, .ref c']) I eP grow atP above ⟨oc, vs, t, goc, dc, vc⟩
    have fresh : upd (upd H P (.tbl (tb ++ #[rawInt pos.line, rawInt pos.col, .ref c']))) c' (LamX.CodeO c' (X.env.qual ++ "<lambda>")) hN.objs.size = none := J.hok.fresh (Nat.le_refl _)
    have J2 := J.laid (t' := tk) (o := LamO hN.objs.size c' (X.env.qual ++ "<lambda>") params body scope (cloFrom X.env.cells scope.names [])) (fun b u e => Heap.get?_push_of_some (PySem.W.kla_obj "<lambda>" (X.env.qual ++ "<lambda>") params body scope (cloFrom X.env.cells scope.names []) ((X.mg "__name__").getD .none) c' ctv) e) (Nat.le_refl _) (lamO_ok (Heap.get?_push_size _ rfl))
    have keepN : LamX.ExtN H (upd (upd H P (.tbl (tb ++ #[rawInt pos.line, rawInt pos.col, .ref c']))) c' (LamX.CodeO c' (X.env.qual ++ "<lambda>"))) := fun b o e notT => by
      have bP : b ≠ P := fun z => by
        rw [z, eP] at e
        exact notT tb (Option.some.inj e).symm
      rw [upd_ne (ne_of_none e free'), upd_ne bP]
      exact e
    refine go _ c' _ _ keepN (fun p hp => ?_) fresh upd_same J2
    by_cases isP : p.1 = P
    · rw [hu p hp isP, isP]
      have eL : (tb ++ #[rawInt pos.line, rawInt pos.col, .ref c']).toList = tb.toList ++ [rawInt pos.line, rawInt pos.col, .ref c'] := by simp
      refine ⟨tb ++ #[rawInt pos.line, rawInt pos.col, .ref c'], ?_, ?_, fun p' cv' q' => ?_⟩
      · rw [upd_ne (ne_of_none eP free')]
        exact upd_same
      · rw [eL]
        exact PySem.TriplesOk_snoc _ _ _ _ okT
      · rw [eL] at q'
        rcases LamX.among_app _ okT q' with old | new
        · obtain ⟨c0, z1, z2⟩ := told p' cv' old
          exact ⟨c0, z1, keepN _ _ z2 LamX.codeO_ne⟩
        · exact ⟨c', new, upd_same⟩
    · obtain ⟨ps2, a1, a2, a3⟩ := tabs p hp
      refine ⟨ps2, ?_, a2, fun p' cv' q' => ?_⟩
      · rw [upd_ne (ne_of_none a1 free'), upd_ne isP]
        exact a1
      · obtain ⟨c0, z1, z2⟩ := a3 p' cv' q'
        exact ⟨c0, z1, keepN _ _ z2 LamX.codeO_ne⟩
  · obtain ⟨c', ecv, hco⟩ := told pos cv hcd
    subst ecv
    refine PySem.W.kla_makeFunctionHit (P := P) (c := c) (ps := tb) (mg := X.mg) (closure_ok hfree) I.ok.glob (I.mod.glob.keeps I.bk) hcode (TB.code.keeps I.bk) gP okT hcd (TB.bm.keeps I.bk) fun ctv hN tk grow big => ?_
    have J := I.laid (t' := tk) (a := hN.objs.size) (o := LamO hN.objs.size c' (X.env.qual ++ "<lambda>") params body scope (cloFrom X.env.cells scope.names [])) (h' := hN.push (PySem.W.kla_obj "<lambda>" (X.env.qual ++ "<lambda>") params body scope (cloFrom X.env.cells scope.names []) ((X.mg "__name__").getD .none) c' ctv))
      (fun b u e => Heap.get?_push_of_some _ (grow b u e)) big (lamO_ok (Heap.get?_push_size _ rfl))
    exact go _ c' H _ (LamX.ExtN.refl H) tabs (I.hok.fresh big) hco J
end
/-- a lambda as a value that is kept -/
def tLamV (T : List (Addr × Str)) (q : Str) (params : Arguments) (body : Expr) (scope : Scope) (cl : List (Str × Addr)) : TE := fun _ H Q => LamX.Tabs T H ∧ ∀ f c' H1, LamX.ExtN H H1 → LamX.Tabs T H1 → H1 f = none → H1 c' = some (LamX.CodeO c' q) → Q (.ref f) (upd H1 f (LamO f c' q params body scope cl))
theorem pe_lamV {X : Cx} {T : List (Addr × Str)} {c P : Addr} {params : Arguments} {body : Expr} {scope : Scope} {pos : Pos} (TB : LamX.TabB X.base X.mg c P) (hcode : X.env.code = .ref c) (hm : (P, X.env.qual ++ "<lambda>") ∈ T) (hu : ∀ p ∈ T, p.1 = P → p.2 = X.env.qual ++ "<lambda>")
    (L : LamX.LamS X.env.scope scope) (hdef : defaultsOf params X.env = ([], [])) : PE X (.Lambda params body scope pos) (tLamV T (X.env.qual ++ "<lambda>") params body scope (cloFrom X.env.cells scope.names [])) := by
  refine ⟨fun pins s σ H Q I h => ?_⟩
  exact lam_keep I TB hcode hm hu h.1 hdef (L.has I.ok) fun f c' H1 s' e t fn hc J => ⟨.ref f, _, J, rfl, h.2 f c' H1 e t fn hc⟩
/-- what is known of one thing is forgotten -/
theorem inv_forget {X : Cx} {pins : List (Addr × Obj)} {σ : L2.St} {H : Hp} {s : Shared} {f : Addr} {φ : Heap → Prop} (I : Inv X pins σ H s) (hf : H f = some (.ext φ)) : Inv X pins σ (del H f) s := by
  have ne : ∀ b o, H b = some o → (∀ ψ, o ≠ .ext ψ) → b ≠ f := fun b o e n z => by
    rw [z, hf] at e
    exact n φ (Option.some.inj e).symm
  have nn : ∀ b, H b = none → del H f b = none := fun b e => by
    unfold del
    split
    · rfl
    · exact e
  refine I.step (h' := s.heap) (g' := s.gens) (d' := s.drawn) (t' := s.toks) (ch := []) (fun b hb => absurd hb (by simp)) (fun b o _ _ _ e _ => e) (fun b o _ _ _ e _ => ⟨o.slots, e⟩) (fun b o _ _ e => nn b e) (fun b o _ e => ⟨o, e⟩) (fun b xs e => ?_) (fun b o u e => ?_) (fun b ps e => ⟨#[], ?_⟩) (fun m z => z) (fun b u e => ?_) I.bare
  · rw [del_ne (ne b _ e (fun ψ z => by cases z))]
    exact e
  · rw [del_ne (ne b _ e (fun ψ z => by cases z))]
    exact e
  · rw [del_ne (ne b _ e (fun ψ z => by cases z)), e]
    simp
  · by_cases bf : b = f
    · rw [bf, del_same] at e
      cases e
    · rw [del_ne bf] at e
      refine (I.hok b u e).stay (fun d v _ z => z) (fun d z => ?_) fun d xs z => ?_
      · rw [del_ne (ne d _ z (fun ψ y => by cases y))]
        exact z
      · rw [del_ne (ne d _ z (fun ψ y => by cases y))]
        exact z

/-! ### a kept lambda of one parameter, called -/
structure Lam1 (sc scope : Scope) (a : Str) : Prop where
  knd : scope.kind = .function
  nco : scope.isCoroutine = false
  ngn : scope.isGenerator = false
  par : scope.names.lookup a = some .local
  own : ∀ y ∈ scope.names, (y.2 = .local → y.1 = a) ∧ y.2 ≠ .cell
  fre : ∀ y ∈ scope.names, y.2 = .free → sc.names.lookup y.1 = some .cell ∨ sc.names.lookup y.1 = some .free
def lam1B (sc scope : Scope) (a : Str) : Bool :=
  decide (scope.kind = .function) && (!scope.isCoroutine && (!scope.isGenerator && (decide (scope.names.lookup a = some .local) && scope.names.all fun y => (!decide (y.2 = .local) || decide (y.1 = a)) && (!decide (y.2 = .cell) && (!decide (y.2 = .free) || (decide (sc.names.lookup y.1 = some .cell) || decide (sc.names.lookup y.1 = some .free)))))))
theorem lam1_by {sc scope : Scope} {a : Str} (h : lam1B sc scope a = true) : Lam1 sc scope a := by
  unfold lam1B at h
  simp only [Bool.and_eq_true, Bool.or_eq_true, Bool.not_eq_true', decide_eq_true_eq, decide_eq_false_iff_not, List.all_eq_true] at h
  obtain ⟨k1, k2, k3, k4, k5⟩ := h
  refine ⟨k1, k2, k3, k4, fun y m => ⟨fun e => ?_, (k5 y m).2.1⟩, fun y m e => ?_⟩
  · rcases (k5 y m).1 with z | z
    · exact absurd e z
    · exact z
  · rcases (k5 y m).2.2 with z | z
    · exact absurd e z
    · exact z
section
variable {X : Cx} {pins : List (Addr × Obj)} {σ : L2.St} {H : Hp} {s : Shared}
theorem lam1_start {A : Around} {E : XK} {scope : Scope} {a : Str} {f c' : Addr} {g : Heap} {tk j : Nat} {v : V} {u : Value} (I : Inv X pins σ H s) (L : Lam1 X.env.scope scope a) (e0 : Env0 X.prog X.w X.K X.mg X.base A X.stack s H) (hd : A.handled = none)
    (hns : g.Ns s.heap.objs.size fun y => ([(a, u)] : List (Str × Value)).reverse.lookup y) (kp : ∀ b o, s.heap.get? b = some o → g.get? b = some o) (hj : X.N[j]? = some a) (nod : X.N.Nodup) (rv : RelV v u) :
    Inv (LamX.lamCx X A X.stack s H E scope f c') [] (σ.set j (some v)) H { s with heap := g, toks := tk } := by
  have toCell : ∀ y ∈ scope.names, y.2 = .free → ∃ c, X.env.cells.lookup y.1 = some c := fun y m e => I.ok.has _ (L.fre y m e)
  have same : ∀ {y : Str} {c : Addr}, (cloFrom X.env.cells scope.names []).lookup y = some c → X.env.cells.lookup y = some c := fun {y c} e => by
    rcases cloFrom_mem (PySem.mem_of_lookup e) with m | ⟨m1, m2⟩
    · cases m
    · obtain ⟨d, q⟩ := toCell _ m1 rfl
      have q : X.env.cells.lookup y = some d := q
      obtain rfl : c = d := by
        rw [m2, q]
        rfl
      exact q
  have find : ∀ {y : Str}, scope.names.lookup y = some .free → ∃ c, (cloFrom X.env.cells scope.names []).lookup y = some c := fun {y} q => mem_lookup (cloFrom_has (cells := X.env.cells) (acc := []) (PySem.mem_of_lookup q : (y, NameKind.free) ∈ scope.names))
  have stays : ∀ {c : Addr} {x : Option Value}, s.heap.IsCell c x → g.IsCell c x := fun {c x} ⟨o, h1, h2⟩ => ⟨o, kp _ _ h1, h2⟩
  have nothing : ∀ b : Addr, b ∉ (LamX.lamCx X A X.stack s H E scope f c').ex := fun b z => (List.not_mem_nil (show b ∈ ([] : List Addr) from z)).elim
  refine ⟨⟨e0.mod, L.knd, rfl, rfl, Nat.le_refl _, fun y z c q1 q2 => I.ok.inj y z c (same q1) (same q2), fun y q => ?_, fun y c q _ => ?_, fun _ => hd, Around.frames_deeper e0.frames, .inr ⟨rfl, rfl⟩, fun b z => absurd z (nothing b), e0.bs, e0.bsz, fun b _ _ => nothing b,
      fun b z => absurd z (nothing b), e0.funs, e0.frf⟩,
    rfl, e0.bare, Un.kept kp, ⟨_, hns, fun i y v' q1 q2 q3 => ?_⟩, fun y c q => ?_, e0.hok.fresh (Nat.le_refl _), fun y c q => I.freeC y c (same q), fun q m => (List.not_mem_nil (show q ∈ ([] : List (Addr × Obj)) from m)).elim, e0.hok.kept kp, ?_⟩
  · rcases (show scope.names.lookup y = some .cell ∨ scope.names.lookup y = some .free from q) with q | q
    · exact absurd rfl (L.own _ (PySem.mem_of_lookup q)).2
    · exact find q
  · have q : false = true := q
    cases q
  · rcases (show Vis scope y from q3) with k | k | k
    · obtain rfl : y = a := (L.own _ (PySem.mem_of_lookup k)).1 rfl
      have q1 : X.N[i]? = some y := q1
      have hi : i < X.N.length := (List.getElem?_eq_some_iff.mp q1).1
      obtain rfl : i = j := by
        exact (List.getElem?_inj hi nod).mp (q1.trans hj.symm)
      have : i < σ.length := by rw [I.len]; exact hi
      rw [List.getElem?_set_self this] at q2
      obtain rfl : v = v' := Option.some.inj (Option.some.inj q2)
      refine ⟨u, rv, .inl ⟨k, ?_⟩⟩
      show ([(y, u)] : List (Str × Value)).reverse.lookup y = some u
      simp
    · exact absurd rfl (L.own _ (PySem.mem_of_lookup k)).2
    · have ne : j ≠ i := fun z => by
        subst z
        obtain rfl : y = a := Option.some.inj ((show X.N[j]? = some y from q1).symm.trans hj)
        rw [L.par] at k
        cases k
      rw [List.getElem?_set_ne ne] at q2
      obtain ⟨m, hn, look⟩ := I.loc
      have vis : Vis X.env.scope y := .inr (L.fre _ (PySem.mem_of_lookup k) rfl)
      obtain ⟨w', r, q⟩ := look i y v' q1 q2 vis
      obtain ⟨c2, h2⟩ := find k
      have c1 := same h2
      refine ⟨w', r, .inr ⟨.inr k, c2, h2, ?_⟩⟩
      rcases q with ⟨k', _⟩ | ⟨_, c3, e', z⟩
      · have k' : X.env.scope.names.lookup y = some .local := k'
        rcases L.fre _ (PySem.mem_of_lookup k) rfl with k2 | k2
        · rw [show X.env.scope.names.lookup y = _ from k2] at k'
          cases k'
        · rw [show X.env.scope.names.lookup y = _ from k2] at k'
          cases k'
      · obtain rfl : c2 = c3 := Option.some.inj (c1.symm.trans e')
        exact stays z
  · obtain ⟨x, z⟩ := I.cell y c (same q)
    exact ⟨x, stays z⟩
  · rw [List.length_set]
    exact I.len
/-- it is called from within what is built in -/
theorem lam1_call {params : Arguments} {body : Expr} {scope : Scope} {a : Str} {f c' : Addr} {j k : Nat} {v : V} {u : Value} {tb : TE} {Q : VK} (I : Inv X pins σ H s) (L : Lam1 X.env.scope scope a) (hf : H f = some (LamO f c' (X.env.qual ++ "<lambda>") params body scope (cloFrom X.env.cells scope.names [])))
    (hc : H c' = some (LamX.CodeO c' (X.env.qual ++ "<lambda>"))) (hb : ∀ (pm ctv x : Value), bindArgs (PySem.W.kla_fn "<lambda>" (X.env.qual ++ "<lambda>") params body scope (cloFrom X.env.cells scope.names []) pm (.ref c') ctv) ⟨[x], []⟩ = pure [(a, x)])
    (hr : Room (k + 2) X.A) (hbody : ∀ (A : Around) (outer : List Env) (s : Shared) (H : Hp) (E : XK), Room k (A.deeper (LamX.lamEnv X scope s.heap.objs.size f c')) → PE (LamX.lamCx X A outer s H E scope f c') body tb)
    (hj : X.N[j]? = some a) (nod : X.N.Nodup) (rv : RelV v u) (ht : tb (σ.set j (some v)) H Q) : wpAny (model X.prog X.w) X.A.in1 (call (.ref f) [u]) (EP X pins σ Q) (fun _ _ => False) s := by
  obtain ⟨⟨pm, ctv, of⟩, _⟩ := I.hok f _ hf
  obtain ⟨⟨oc, vs, t, hoc, hdc, hvc⟩, _, _⟩ := I.hok c' _ hc
  have e1 := I.env0.in1
  have hr1 : Room (k + 1) X.A.in1 := hr.in1
  have go : codeAny (model X.prog X.w) X.A.in1 (.call (.ref f) ⟨[u], []⟩) (CR (L2.CX X.prog X.w) X.stack X.prog X.w H s Q (fun _ _ _ => False)) s := by
    refine PySem.W.kla_callFunE hr1.depth of rfl L.nco L.ngn rfl ⟨c', oc, vs, t, rfl, hoc, hdc, hvc⟩ ?_
    rw [hb]
    refine wpAny_pure (wpAny_newFunctionEnv (fun y hy => (L.own y hy).2) (fun y hy => ?_) (fun g hns hsb => ⟨I.nolimit.fresh _ hsb, ?_⟩) L.knd)
    · rw [List.mem_singleton.mp hy]
      exact L.par
    have kp : ∀ b o, s.heap.get? b = some o → g.get? b = some o := fun b o e => hsb.extBut b o (Nat.ne_of_lt (Heap.lt_size e)) (Heap.get?_push_of_some _ e)
    have J : Inv (LamX.lamCx X X.A.in1 X.stack s H (fun _ _ _ => False) scope f c') [] (σ.set j (some v)) H { s with heap := g, toks := s.toks + ([(a, u)] : List (Str × Value)).length } := lam1_start I L e1 hr1.hd hns kp hj nod rv
    show codeAny _ _ (.expr body (LamX.lamEnv X scope s.heap.objs.size f c')) _ _
    refine PySem.W.kla_codeExpr (wpAny_mono ((hbody _ _ s H _ (hr1.deeper _)).run [] _ _ H Q J ht) (fun x s' hq => ?_) fun e s' hq => hq)
    obtain ⟨w', H', J', r', q⟩ := hq
    exact ⟨w', H', J'.os, J'.bare, J'.base, J'.hok, r', q⟩
  refine wpAny_call (codeAny_mono go fun r s' hq => ?_)
  cases r with
  | ok fl =>
    cases fl with
    | ret x => exact I.after hq
    | next => exact hq.elim
    | brk => exact hq.elim
    | cont => exact hq.elim
  | error e =>
    obtain ⟨_, _, _, _, _, _, _, _, _, _, _, _, z⟩ := hq
    exact z.elim
end

/-! ### min(a list, key=..) -/
section
variable {X : Cx} {pins : List (Addr × Obj)} {σ : L2.St}
/-- of the first n + 1 the one at i is the first least -/
def LeastTo (kf : Nat → Int) (i n : Nat) : Prop := ∀ j, j ≤ n → kf i ≤ kf j ∧ (j < i → kf i < kf j)
theorem min_turns {l q it sc : Addr} {xs : List V} {kf : Nat → Int} {G : Hp → Prop} {R : Result → Shared → Prop} (hh : X.A.handled = none) (hil : l ≠ it) (his : sc ≠ it) (hls : ∀ H, G H → SqL X.K H l xs)
    (turn : ∀ i v, xs[i]? = some v → ∀ (pl : List (Addr × Obj)) (H : Hp) (s : Shared) (u : Value), G H → Inv X pl σ H s → RelV v u → wpAny (model X.prog X.w) X.A.in1 (call (.ref q) [u]) (EP X pl σ fun y H' => y = .int (kf i) ∧ G H') (fun _ _ => False) s)
    (fin : ∀ i v u H s, LeastTo kf i (xs.length - 1) → xs[i]? = some v → RelV v u → G H → Inv X pins σ H s → R (.ok (.ret u)) s)
    (st : ∀ H, H it = none → H sc = none → ∀ b ∈ [it, sc], FpOk X pins H b) :
    ∀ (r j i : Nat) (H : Hp) (s : Shared) (vb : V) (ub : Value) (tb : Tok) (c : Nat), xs.length - (j + 1) = r → j + 1 ≤ xs.length → G H → Inv X pins σ H s → H it = none → H sc = none → s.heap.get? sc = some (seqObj "list" #[ub, .int (kf i) tb] c) →
      s.heap.IsListIter it l (j + 1) → xs[i]? = some vb → RelV vb ub → i ≤ j → LeastTo kf i j → codeAny (model X.prog X.w) X.A (.builtin "min.loop" ⟨[.ref it, .ref q, .ref sc], []⟩) R s := by
  have nm : (toString "min" ++ toString ".loop" : String) = "min.loop" := by decide
  intro r
  induction r with
  | zero =>
    intro j i H s vb ub tb c hr hj g I hI hS gS lt hvb rb ij best
    have jn : j + 1 = xs.length := by omega
    obtain ⟨its, rv, pl, hz⟩ := I.list (hls H g)
    have sz : its.toArray.size = xs.length := by
      rw [List.size_toArray]
      exact rv.length.symm
    have W := Walks.list (prog := X.prog) (w := X.w) (A := X.A.in1) hh it l hil its.toArray
    refine codeAny_builtin PySem.F.entry_min_loop ?_
    rw [Around.under_plainId PySem.F.plain_min_loop _]
    show wpAny _ X.A.in1 (seqItems? (.ref sc) >>= _) _ _ _
    refine wpAny_bind (wpAny_seqItems gS rfl ?_)
    show wpAny _ X.A.in1 (tryCatch (pyNext (.ref it)) _ >>= _) _ _ _
    refine wpAny_bind (wpAny_tryCatch (W.done _ _ _ ⟨by rw [sz, ← jn]; exact lt, pl.isList⟩ fun h' tk' hk' => ?_))
    have fp := st H hI hS
    have I1 : Inv X pins σ H { s with heap := h', toks := tk' } := I.turnedL (ch := [it]) hk' fun b hb => fp b (by rw [List.mem_singleton.mp hb]; simp)
    have gS1 := hk' sc _ (by simpa using his) gS
    have sb := Heap.SameBut.update h' sc (Obj.mapSeq fun _ => (#[] : Array Value))
    show wpAny _ X.A.in1 (updateSeq sc (fun _ => #[]) >>= _) _ _ _
    refine wpAny_bind (wpAny_updateSeq gS1 rfl (wpAny_bind (wpAny_letGo (wpAny_pure ?_))))
    refine fin i vb ub H _ (by rw [← jn]; exact best) hvb rb g (I1.turnedL (t' := tk') (ch := [sc]) (fun b o nb e => (sb.2 b (by simpa using nb)).trans e) fun b hb => fp b (by rw [List.mem_singleton.mp hb]; simp))
  | succ r ih =>
    intro j i H s vb ub tb c hr hj g I hI hS gS lt hvb rb ij best
    have jl : j + 1 < xs.length := by omega
    obtain ⟨its, rv, pl, hz⟩ := I.list (hls H g)
    have sz : its.toArray.size = xs.length := by
      rw [List.size_toArray]
      exact rv.length.symm
    have W := Walks.list (prog := X.prog) (w := X.w) (A := X.A.in1) hh it l hil its.toArray
    refine codeAny_builtin PySem.F.entry_min_loop ?_
    rw [Around.under_plainId PySem.F.plain_min_loop _]
    show wpAny _ X.A.in1 (seqItems? (.ref sc) >>= _) _ _ _
    refine wpAny_bind (wpAny_seqItems gS rfl ?_)
    show wpAny _ X.A.in1 (tryCatch (pyNext (.ref it)) _ >>= _) _ _ _
    refine wpAny_bind (wpAny_tryCatch (W.item (j + 1) _ _ _ (by rw [sz]; exact jl) ⟨lt, pl.isList⟩ fun u h' tk' hP hst' hk' => ?_))
    have hu : its[j + 1]? = some u := by simpa using hP
    have hx : xs[j + 1]? = some xs[j + 1] := List.getElem?_eq_getElem jl
    have ru : RelV xs[j + 1] u := by
      obtain ⟨u', h1, h2⟩ := Vals.get rv hx
      rw [hu] at h1
      rw [Option.some.inj h1]
      exact h2
    obtain ⟨oI, gI, oc, od⟩ := id hst'.1
    have fp := st H hI hS
    have I1 : Inv X pins σ H { s with heap := h', toks := tk' } := I.turnedL (ch := [it]) hk' fun b hb => fp b (by rw [List.mem_singleton.mp hb]; simp)
    have gS1 := hk' sc _ (by simpa using his) gS
    have I1p := I1.pinned (fp := [it, sc]) fp fun b hb => by
      rcases List.mem_cons.mp hb with rfl | hb
      · exact ⟨oI, gI, fun v z => by rw [od] at z; cases z⟩
      · rw [List.mem_singleton.mp hb]
        exact ⟨_, gS1, fun v z => by cases z⟩
    show wpAny _ X.A.in1 (tryCatch (holding [u] (call (.ref q) [u])) _ >>= _) _ _ _
    refine wpAny_bind (wpAny_tryCatch (wpAny_holding (wpAny_mono (turn (j + 1) _ hx _ H _ u g I1p ru) (fun y s2 he => ?_) fun _ _ z => z.elim)))
    obtain ⟨w2, H2, I2, r2, rfl, g2⟩ := he
    obtain ⟨t2, rfl⟩ := r2
    have pI := I2.pin (it, oI) (List.mem_append_right _ (List.mem_append_right _ (mem_pinsAt (by simp) gI)))
    have pS := I2.pin (sc, _) (List.mem_append_right _ (List.mem_append_right _ (mem_pinsAt (by simp) gS1)))
    have I2u := I2.unpinned
    have fp2 := st H2 pI.2.1 pS.2.1
    show wpAny _ X.A.in1 (tryCatch (holding [u, .int (kf (j + 1)) t2] (richCompare .Lt (.int (kf (j + 1)) t2) (.int (kf i) tb) >>= _)) _ >>= _) _ _ _
    refine wpAny_bind (wpAny_tryCatch (wpAny_holding (wpAny_bind (CmpOf.ints_lt (prog := X.prog) (w := X.w) (A := X.A.in1) (P := fun n v => ∃ t, v = .int (kf n) t) kf (fun _ _ h => h) (j + 1) i _ _ _ _ _ ⟨t2, rfl⟩ ⟨tb, rfl⟩ ?_))))
    refine wpAny_bind (wpAny_holding (wpAny_truthy_bool (wpAny_bind (wpAny_letGo (wpAny_pure ?_)))))
    by_cases lsr : kf (j + 1) < kf i
    · have sb := Heap.SameBut.update s2.heap sc (Obj.mapSeq fun _ => #[u, .int (kf (j + 1)) t2])
      obtain ⟨c2, hc2⟩ : ∃ c2, (s2.heap.update sc (Obj.mapSeq fun _ => #[u, .int (kf (j + 1)) t2])).get? sc = some (seqObj "list" #[u, .int (kf (j + 1)) t2] c2) := ⟨_, get?_update_seq pS.1 fun _ => #[u, .int (kf (j + 1)) t2]⟩
      simp only [lsr, decide_true, if_true]
      refine wpAny_bind (wpAny_updateSeq pS.1 rfl (wpAny_bind (wpAny_letGo ?_)))
      rw [nm]
      refine wpAny_pure ⟨plainId_quiet PySem.F.plain_min_loop _, ih (j + 1) (j + 1) H2 _ _ u t2 c2 (by omega) jl g2 (I2u.turnedL (t' := s2.toks) (ch := [sc]) (fun b o nb e => (sb.2 b (by simpa using nb)).trans e) fun b hb => fp2 b (by rw [List.mem_singleton.mp hb]; simp)) pI.2.1 pS.2.1 hc2 ⟨oI, (sb.2 it his.symm).trans pI.1, oc, od⟩ hx ru (Nat.le_refl _) fun n hn => ?_⟩
      by_cases e : n = j + 1
      · subst e
        exact ⟨Int.le_refl _, fun z => by omega⟩
      · have b1 := (best n (by omega)).1
        exact ⟨by omega, fun _ => by omega⟩
    · simp only [lsr, decide_false, Bool.false_eq_true, if_false]
      refine wpAny_bind (wpAny_letGo ?_)
      rw [nm]
      refine wpAny_pure ⟨plainId_quiet PySem.F.plain_min_loop _, ih (j + 1) i H2 _ vb ub tb c (by omega) jl g2 I2u pI.2.1 pS.2.1 pS.1 ⟨oI, pI.1, oc, od⟩ hvb rb (by omega) fun n hn => ?_⟩
      by_cases e : n = j + 1
      · subst e
        exact ⟨by omega, fun z => by omega⟩
      · exact best n (by omega)
end

theorem sqL_ext {K : PySem.W.Frag} {H H' : Hp} {a : Addr} {xs : List V} (e : LamX.ExtN H H') (h : SqL K H a xs) : SqL K H' a xs :=
  h.imp (fun h => h.imp (fun h => e _ _ h (by intro x z; cases z)) (fun ⟨o, h⟩ => ⟨o, e _ _ h (by intro x z; cases z)⟩)) id
theorem sqT_ext {K : PySem.W.Frag} {H H' : Hp} {a : Addr} {xs : List V} (e : LamX.ExtN H H') (h : SqT K H a xs) : SqT K H' a xs :=
  h.imp (fun h => h.imp (fun h => e _ _ h (by intro x z; cases z)) (fun ⟨o, h⟩ => ⟨o, e _ _ h (by intro x z; cases z)⟩)) id
section
variable {X : Cx} {pins : List (Addr × Obj)} {σ : L2.St}
theorem min_call {l q : Addr} {xs : List V} {kf : Nat → Int} {G : Hp → Prop} {H : Hp} {s : Shared} {Q E : Value → Shared → Prop} (hh : X.A.handled = none) (I : Inv X pins σ H s) (g : G H) (ne : xs ≠ []) (hls : ∀ H, G H → SqL X.K H l xs)
    (turn : ∀ i v, xs[i]? = some v → ∀ (pl : List (Addr × Obj)) (H : Hp) (s : Shared) (u : Value), G H → Inv X pl σ H s → RelV v u → wpAny (model X.prog X.w) X.A.in1 (call (.ref q) [u]) (EP X pl σ fun y H' => y = .int (kf i) ∧ G H') (fun _ _ => False) s)
    (fin : ∀ i v u H s, LeastTo kf i (xs.length - 1) → xs[i]? = some v → RelV v u → G H → Inv X pins σ H s → Q u s) : wpAny (model X.prog X.w) X.A (call (.builtin "min") [.ref l] [(Str.ofString "key", .ref q)]) Q E s := by
  have nm : (toString "min" ++ toString ".loop" : String) = "min.loop" := by decide
  have pos : 0 < xs.length := List.length_pos_iff.mpr ne
  obtain ⟨its, rv, pl, hz⟩ := I.list (hls H g)
  have pl0 := pl.isList
  obtain ⟨ol, gl, _⟩ := id pl0
  have ll : l < s.heap.objs.size := Heap.lt_size gl
  refine kmk_tree PySem.F.kind_min PySem.F.plain_min PySem.F.entry_min (kmk_min_key _ _) ?_
  show wpAny _ X.A.in1 (Builtin.Builtins.bindParams "min" ["key", "default"] 0 ⟨[], [(Str.ofString "key", .ref q)]⟩ >>= _) _ _ s
  refine wpAny_bind (wpAny_of_eq (show Builtin.Builtins.bindParams "min" ["key", "default"] 0 ⟨[], [(Str.ofString "key", .ref q)]⟩ = pure [some (.ref q), none] from rfl) (wpAny_bind (wpAny_pure ?_)))
  refine wpAny_bind (wpAny_pyIter_list pl0 (wpAny_bind (wpAny_newList ?_ (Nat.zero_le _))))
  rw [nm]
  generalize ei : s.heap.objs.size = it at ll
  generalize e1 : s.heap.push { cls := .type "list_iterator", data := .fields #[.ref l, .int 0 0] } = h1
  have z1 : h1.objs.size = it + 1 := by rw [← e1, ← ei]; exact size_push' ..
  generalize es : h1.objs.size = sc at z1
  have his : sc ≠ it := by omega
  have hil : l ≠ it := Nat.ne_of_lt ll
  have k1 : ∀ b o, s.heap.get? b = some o → h1.get? b = some o := fun b o e => by rw [← e1]; exact Heap.get?_push_of_some _ e
  have k2 : ∀ b o, h1.get? b = some o → (h1.push (seqObj "list" #[] 0)).get? b = some o := fun b o e => Heap.get?_push_of_some _ e
  have gI : (h1.push (seqObj "list" #[] 0)).get? it = some { cls := .type "list_iterator", data := .fields #[.ref l, .int 0 0] } := k2 _ _ (by rw [← e1, ← ei]; exact Heap.get?_push_size _ rfl)
  have gS : (h1.push (seqObj "list" #[] 0)).get? sc = some (seqObj "list" #[] 0) := by rw [← es]; exact Heap.get?_push_size _ rfl
  have hI : H it = none := I.hok.fresh (by omega)
  have hS : H sc = none := I.hok.fresh (by omega)
  have st : ∀ H', H' it = none → H' sc = none → ∀ b ∈ [it, sc], FpOk X pins H' b := fun H' n1 n2 b hb => by
    rcases List.mem_cons.mp hb with rfl | hb
    · exact I.fpOk (by omega) n1
    · rw [List.mem_singleton.mp hb]
      exact I.fpOk (by omega) n2
  generalize h1.push (seqObj "list" #[] 0) = h2 at k2 gI gS
  have I2 : Inv X pins σ H { s with heap := h2 } := I.kept (t' := s.toks) fun b o e => k2 _ _ (k1 _ _ e)
  refine wpAny_pure ⟨plainId_quiet PySem.F.plain_min_loop _, ?_⟩
  obtain ⟨its, rv, pl, hz⟩ := I2.list (hls H g)
  have sz : its.toArray.size = xs.length := by
    rw [List.size_toArray]
    exact rv.length.symm
  have W := Walks.list (prog := X.prog) (w := X.w) (A := X.A.in1) hh it l hil its.toArray
  refine codeAny_builtin PySem.F.entry_min_loop ?_
  rw [Around.under_plainId PySem.F.plain_min_loop _]
  show wpAny _ X.A.in1 (seqItems? (.ref sc) >>= _) _ _ _
  refine wpAny_bind (wpAny_seqItems gS rfl ?_)
  show wpAny _ X.A.in1 (tryCatch (pyNext (.ref it)) _ >>= _) _ _ _
  refine wpAny_bind (wpAny_tryCatch (W.item 0 _ _ _ (by rw [sz]; exact pos) ⟨⟨_, gI, rfl, rfl⟩, pl.isList⟩ fun u h' tk' hP hst' hk' => ?_))
  have hu : its[0]? = some u := by simpa using hP
  have hx : xs[0]? = some xs[0] := List.getElem?_eq_getElem pos
  have ru : RelV xs[0] u := by
    obtain ⟨u', q1, q2⟩ := Vals.get rv hx
    rw [hu] at q1
    rw [Option.some.inj q1]
    exact q2
  obtain ⟨oI, gI', oc, od⟩ := id hst'.1
  have fp := st H hI hS
  have I1 := I2.turnedL (h' := h') (t' := tk') (ch := [it]) hk' fun b hb => fp b (by rw [List.mem_singleton.mp hb]; simp)
  have gS1 := hk' sc _ (by simpa using his) gS
  have I1p := I1.pinned (fp := [it, sc]) fp fun b hb => by
    rcases List.mem_cons.mp hb with rfl | hb
    · exact ⟨oI, gI', fun v z => by rw [od] at z; cases z⟩
    · rw [List.mem_singleton.mp hb]
      exact ⟨_, gS1, fun v z => by cases z⟩
  show wpAny _ X.A.in1 (tryCatch (holding [u] (call (.ref q) [u])) _ >>= _) _ _ _
  refine wpAny_bind (wpAny_tryCatch (wpAny_holding (wpAny_mono (turn 0 _ hx _ H _ u g I1p ru) (fun y s2 he => ?_) fun _ _ z => z.elim)))
  obtain ⟨w2, H2, I3, r2, rfl, g2⟩ := he
  obtain ⟨t2, rfl⟩ := r2
  have pI := I3.pin (it, oI) (List.mem_append_right _ (List.mem_append_right _ (mem_pinsAt (by simp) gI')))
  have pS := I3.pin (sc, _) (List.mem_append_right _ (List.mem_append_right _ (mem_pinsAt (by simp) gS1)))
  have I3u := I3.unpinned
  have fp2 := st H2 pI.2.1 pS.2.1
  have sb := Heap.SameBut.update s2.heap sc (Obj.mapSeq fun _ => #[u, .int (kf 0) t2])
  obtain ⟨c2, hc2⟩ : ∃ c2, (s2.heap.update sc (Obj.mapSeq fun _ => #[u, .int (kf 0) t2])).get? sc = some (seqObj "list" #[u, .int (kf 0) t2] c2) := ⟨_, get?_update_seq pS.1 fun _ => #[u, .int (kf 0) t2]⟩
  show wpAny _ X.A.in1 (updateSeq sc (fun _ => #[u, .int (kf 0) t2]) >>= _) _ _ _
  refine wpAny_bind (wpAny_updateSeq pS.1 rfl ?_)
  rw [nm]
  refine wpAny_pure ⟨plainId_quiet PySem.F.plain_min_loop _, min_turns hh hil his hls turn fin st _ 0 0 H2 _ _ u t2 c2 rfl pos g2 (I3u.turnedL (t' := s2.toks) (ch := [sc]) (fun b o nb e => (sb.2 b (by simpa using nb)).trans e) fun b hb => fp2 b (by rw [List.mem_singleton.mp hb]; simp)) pI.2.1 pS.2.1 hc2 ⟨oI, (sb.2 it his.symm).trans pI.1, oc, od⟩ hx ru (Nat.le_refl _) fun n hn => ?_⟩
  obtain rfl : n = 0 := by omega
  exact ⟨Int.le_refl _, fun z => by omega⟩
end

/-- min(a list, key=a lambda of one parameter): the first of the least -/
def tMinL (K : PySem.W.Frag) (T : List (Addr × Str)) (j : Nat) (t : TA) (tb : TE) : TE := fun σ H Q => t σ H fun vs H1 => ∃ (l : Addr) (xs : List V) (kf : Nat → Int), vs = [.ref l] ∧ xs ≠ [] ∧ SqL K H1 l xs ∧ LamX.Tabs T H1 ∧
  (∀ i v H2, xs[i]? = some v → LamX.ExtN H1 H2 → tb (σ.set j (some v)) H2 fun y H3 => y = .int (kf i) ∧ Same H2 H3) ∧ ∀ i v H2, xs[i]? = some v → LeastTo kf i (xs.length - 1) → LamX.ExtN H1 H2 → LamX.Tabs T H2 → Q v H2
theorem pe_lam1 {X : Cx} {T : List (Addr × Str)} {c P : Addr} {params : Arguments} {body : Expr} {scope : Scope} {pos : Pos} {a : Str} (TB : LamX.TabB X.base X.mg c P) (hcode : X.env.code = .ref c) (hm : (P, X.env.qual ++ "<lambda>") ∈ T) (hu : ∀ p ∈ T, p.1 = P → p.2 = X.env.qual ++ "<lambda>")
    (L : Lam1 X.env.scope scope a) (hdef : defaultsOf params X.env = ([], [])) : PE X (.Lambda params body scope pos) (tLamV T (X.env.qual ++ "<lambda>") params body scope (cloFrom X.env.cells scope.names [])) := by
  refine ⟨fun pins s σ H Q I h => ?_⟩
  exact lam_keep I TB hcode hm hu h.1 hdef (fun y hy e => I.ok.has _ (L.fre y hy e)) fun f c' H1 s' e t fn hc J => ⟨.ref f, _, J, rfl, h.2 f c' H1 e t fn hc⟩
section
variable {X : Cx} {T : List (Addr × Str)} {c P : Addr} {params : Arguments} {body e : Expr} {scope : Scope} {a : Str} {j k : Nat} {t : TA} {tb : TE} {p lpos kpos pos : Pos}
theorem pe_minL (hg : Gl X "min") (hm : X.mg "min" = none) (calm : X.calm = true) (nod : X.N.Nodup) (ha : PA X [e] t) (TB : LamX.TabB X.base X.mg c P) (hcode : X.env.code = .ref c) (hmT : (P, X.env.qual ++ "<lambda>") ∈ T) (hu : ∀ p ∈ T, p.1 = P → p.2 = X.env.qual ++ "<lambda>")
    (L : Lam1 X.env.scope scope a) (hdef : defaultsOf params X.env = ([], []))
    (hb : ∀ (cl : List (Str × Addr)) (pm cv ctv x : Value), bindArgs (PySem.W.kla_fn "<lambda>" (X.env.qual ++ "<lambda>") params body scope cl pm cv ctv) ⟨[x], []⟩ = pure [(a, x)])
    (hr : Room (k + 2) X.A) (hbody : ∀ (A : Around) (outer : List Env) (s : Shared) (H : Hp) (E : XK) (f c' : Addr), Room k (A.deeper (LamX.lamEnv X scope s.heap.objs.size f c')) → PE (LamX.lamCx X A outer s H E scope f c') body tb)
    (hj : X.N[j]? = some a)
    (hst : backTo pos (starEach [e] X.env) = (false, eval e X.env) :: backTo pos (starEach [] X.env) := by rfl) (hpl : (backTo pos (starEach [e] X.env)).any (·.1) = false := by rfl) :
    PE X (.Call (.Name "min" p) [e] [⟨some "key", .Lambda params body scope lpos, kpos⟩] pos) (tMinL X.K T j t tb) := by
  refine ⟨fun pins s σ H Q I h => ?_⟩
  have hv : bootBuiltins "min" = some (.builtin "min") := by decide +kernel
  have hk := pk_cons (nm := some "key") (kpos := kpos) (pe_lam1 (pos := lpos) TB hcode hmT hu L hdef (body := body)) (pk_nil (X := X))
  refine wpAny_Call_Name_kw (ld_blt I hg hm hv ?_ (by decide) (by decide))
  refine PyProof.Rows.callWith_kw (thn (ha.run pos pins s σ H _ I h) fun us s1 ⟨vs, H1, I1, r1, l, xs, kf, ev, ne, hs, tabs, hq, fin⟩ => ?_) hst hpl rfl rfl
  subst ev
  refine thn (hk.run pos pins s1 σ H1 (fun zs H2 => ∃ f c', zs = [.ref f] ∧ LamX.ExtN H1 H2 ∧ LamX.Tabs T H2 ∧ H2 f = some (LamO f c' (X.env.qual ++ "<lambda>") params body scope (cloFrom X.env.cells scope.names [])) ∧ H2 c' = some (LamX.CodeO c' (X.env.qual ++ "<lambda>"))) I1 ⟨tabs, fun f c' H2 e t2 fn hc => ?_⟩) fun ws s2 ⟨zs, H2, I2, r2, f, c', ez, e2, t2, hf, hc⟩ => ?_
  · have s2 := same_new (o := LamO f c' (X.env.qual ++ "<lambda>") params body scope (cloFrom X.env.cells scope.names [])) fn
    exact ⟨f, c', rfl, e.trans (LamX.ExtN.of s2), t2.ext s2, upd_same, s2 _ _ hc⟩
  subst ez
  obtain ⟨u, rfl, ru⟩ := vals1 r1
  obtain rfl : u = Value.ref l := ru
  obtain ⟨u, rfl, ru⟩ := vals1 r2
  obtain rfl : u = Value.ref f := ru
  refine min_call (G := fun H => LamX.ExtN H1 H ∧ LamX.Tabs T H ∧ H f = some (LamO f c' (X.env.qual ++ "<lambda>") params body scope (cloFrom X.env.cells scope.names [])) ∧ H c' = some (LamX.CodeO c' (X.env.qual ++ "<lambda>"))) (xs := xs) (kf := kf) (I2.ok.hd calm) I2 ⟨e2, t2, hf, hc⟩ ne (fun H g => sqL_ext g.1 hs) ?_ ?_
  · intro i v hv2 pl H3 s3 u g I3 rv
    refine wpAny_mono (lam1_call I3 L g.2.2.1 g.2.2.2 (fun pm ctv x => hb _ pm _ ctv x) hr (fun A outer s H E => hbody A outer s H E f c') hj nod rv (hq i v H3 hv2 g.1)) (fun y s4 he => ?_) fun _ _ z => z
    obtain ⟨w, H4, I4, r4, ey, s34⟩ := he
    exact ⟨w, H4, I4, r4, ey, g.1.trans (LamX.ExtN.of s34), g.2.1.ext s34, s34 _ _ g.2.2.1, s34 _ _ g.2.2.2⟩
  · intro i v u H3 s3 best hv2 rv g I3
    exact ⟨v, H3, I3, rv, fin i v H3 hv2 best g.1 g.2.1⟩
end

/-! ### least -/
/-- a def whose code object is known to stand at c -/
structure FunM (K : PySem.W.Frag) (x q : Str) (st : Stmt) (c f : Addr) (fd : FuncData) : Prop where
  ex : ∃ (oc : Value) (od : Option Addr) (kV doc pm : Value) (an : Option Addr) (ct : Value) (osl : Array (Option Value)),
    fd = PySem.W.fnOf x q (defArgs st) (defBody st) (defScope st) .none kV doc pm an (.ref c) ct ∧ K.lookup f = some ⟨oc, od, .func fd, osl⟩ ∧ PySem.W.codeIn K (.ref c) q = true
  kp : PySem.W.keepIn K (.ref f) = true
theorem FunM.fn {K : PySem.W.Frag} {x q : Str} {st : Stmt} {c f : Addr} {fd : FuncData} (F : FunM K x q st c f fd) : Fun K x q st f fd := by
  obtain ⟨oc, od, kV, doc, pm, an, ct, osl, e, lk, hc⟩ := F.ex
  exact ⟨⟨oc, od, kV, doc, pm, an, _, ct, osl, e, lk, hc⟩, F.kp⟩
theorem FunM.okC {CX : CXT} {P : Program} {w : World} {K : PySem.W.Frag} {mg : Str → Option Value} {base : Heap} {x q : Str} {st : Stmt} {c f : Addr} {fd : FuncData} {N ps : List Str} {k : Nat} {sp : Sp} (F : FunM K x q st c f fd) (S : FnScope N ps (defScope st)) (len : ∀ vs H Q E, sp vs H Q E → vs.length = ps.length)
    (hbody : ∀ (A : Around) (outer : List Env) (s : Shared) (H : Hp) (vs : List V) (Q : VK) (E : XK), Room k (A.deeper (envOfC q (defScope st) s.heap.objs.size f (.ref c))) → sp vs H Q E →
      ∃ t, PSs (cxOf CX P w K mg base N q (defScope st) f (.ref c) A outer s H E) (defBody st) t ∧ t { nx := fun _ H' => Q .non H', rt := Q } (start N vs) H) : FnOk P w K mg base CX (k + 1) f fd ps sp := by
  obtain ⟨oc, od, kV, doc, pm, an, ct, osl, rfl, lk, hcd⟩ := F.ex
  exact fn_of lk hcd S len fun A outer s H vs Q E hr hsp => hbody A outer s H vs Q E hr hsp
/-- where a choice ends -/
def endF (rs : List Row) (c : List Int) : Int := off (mem c) rs rs.length
def endK (rs : List Row) (i : Nat) : Int := endF rs ((allF rs).getD i [])
abbrev sLeast : Stmt := mth 12
abbrev qLe : Str := (envOfC "Draft.least" (defScope sLeast) 0 0 .none).qual ++ "<lambda>"
abbrev tEnd (K : PySem.W.Frag) : TE := tOp (rIxL K) (tCall (spMeasured K) [] E00 (tCons (tFld K (tVar 0) "parts") (tCons (tVar 1) tNil))) (tUn (rU fun i => .int (-i)) (tC (.int 1)))
def spLeast (K : PySem.W.Frag) (C : Addr) (T : List (Addr × Str)) : Sp := fun vs H Q _ => ∃ (x : Addr) (rs : List Row), vs = [.ref x] ∧ DraftV K H C x rs ∧ (inn rs).length < 8 ∧ rs.length ≤ 400 ∧ LamX.Tabs T H ∧ allF rs ≠ [] ∧ ∀ i c H' p, LeastTo (endK rs) i ((allF rs).length - 1) → (allF rs)[i]? = some c → LamX.ExtN H H' → LamX.Tabs T H' → H' p = some (.tup (c.map V.int)) → Q (.ref p) H'
theorem scLeast : FnScope ["self", "choice"] ["self"] (defScope sLeast) := ⟨rfl, rfl, rfl, by decide +kernel, rfl, by decide +kernel, by decide +kernel⟩
theorem kp_ext {K : PySem.W.Frag} {H H' : Hp} (e : LamX.ExtN H H') : KpT K H H' := ⟨fun a xs h => sqT_ext e h, fun a xs h => e _ _ h (by intro ps z; cases z)⟩
theorem drAt_ext {K : PySem.W.Frag} {H H' : Hp} {C x : Addr} {rs : List Row} {dx p q d o : Addr} {xs : List V} (e : LamX.ExtN H H') (h : DrAt K H C x rs dx p q d o xs) : DrAt K H' C x rs dx p q d o xs :=
  ⟨e _ _ h.ins (by intro x z; cases z), sqT_ext e h.parts, rowsP_of (kp_ext e) h.rows, sqT_ext e h.forks, e _ _ h.aims (by intro x z; cases z), sqT_ext e h.outs⟩
theorem draft_ext {K : PySem.W.Frag} {H H' : Hp} {C x : Addr} {rs : List Row} (e : LamX.ExtN H H') (h : DraftV K H C x rs) : DraftV K H' C x rs := by
  obtain ⟨ok, a1, a2, a3, a4, a5, a6, h⟩ := h
  exact ⟨ok, a1, a2, a3, a4, a5, a6, drAt_ext e h⟩
section
variable {P : Program} {w : World} {K : PySem.W.Frag} {mg : Str → Option Value} {base : Heap}
theorem ok_least {f C c tb : Addr} {fd : FuncData} {T' : List (Addr × Str)} (F : FunM K "least" "Draft.least" sLeast c f fd) (T : Bi mg) (TB : LamX.TabB base mg c tb) (hmT : (tb, qLe) ∈ T') (hu : ∀ p ∈ T', p.1 = tb → p.2 = qLe) (B : DrC K C) (M1 : HasM P w K mg base CX0 5 C "all_fits" ["self"] (spAll K C)) (G : Has P w K mg base CX0 2 "measured" ["rows", "far"] (spMeasured K)) : FnOk P w K mg base CX0 6 f fd ["self"] (spLeast K C T') := by
  refine F.okC scLeast (fun vs H Q E h => ?_) (fun A outer s H vs Q E hr h => ?_)
  · obtain ⟨x, rs, rfl, _⟩ := h
    rfl
  · obtain ⟨x, rs, rfl, dv, i8, l4, tabs, ne, q⟩ := h
    refine ⟨_, pss_one (ps_ret (pe_minL (tb := tEnd K) (j := 1) (k := 2) (T := T') (by rfl) T.min rfl scLeast.nd (pa_cons (pe_methH0 M1 (pv 0) hr pass0) pa_nil) TB rfl hmT hu (lam1_by (sc := defScope sLeast) (by decide +kernel)) (by rfl) (fun _ _ _ _ _ => rfl) (hr.mono (by decide)) (fun A outer s H E f c' hrb => pe_ix ix_list (pe_callH G hrb (by rfl) pass0 (pa_cons (pe_fld (pv 0) rfl) (pa_cons (pv 1) pa_nil))) (pe_un un_neg pe_int) (fun _ _ => rfl)) rfl)), ?_⟩
    have dv0 := dv
    obtain ⟨ok, dx, p, fq, dd, o, ys, hx⟩ := dv
    have okr : ∀ r ∈ rs, RowOk r := fun r hr => fine_ok (ok.fine r hr)
    refine ⟨_, rfl, x, dx, _, rfl, hx.ins, rfl, x, rs, rfl, dv0, i8, l4, fun H1 pf fs s1 hpf0 hpf ef => ?_⟩
    have lf := ef.length
    refine ⟨pf, fs, endK rs, rfl, fun z => ?_, SqL.of hpf, tabs.ext s1, fun i v H2 hv e2 => ?_, fun i v H2 hv best e2 t2 => ?_⟩
    · rw [z] at lf
      exact ne (List.length_eq_zero_iff.mp lf.symm)
    · obtain ⟨c0, hc, a, rfl, ha⟩ := eachs_get ef hv
      have ha2 := e2 _ _ ha (by intro x z; cases z)
      have hx2 := drAt_ext e2 (hx.same s1)
      refine ⟨_, rfl, x, C, dx, _, _, rfl, hx2.ins, B.cl, B.n1, rfl, _, rfl, p, a, ys, rs, c0, rfl, hx2.parts, rowsP_V hx2.rows, okr, ok.len, .inr (SqT.of ha2), fun H3 O s3 hO0 hO => ?_⟩
      refine ⟨_, rfl, O, _, _, _, rfl, rfl, SqL.of hO, offTo_last _ _ _, ?_, s3⟩
      unfold endK endF
      rw [List.getD_eq_getElem?_getD, hc]
      rfl
    · obtain ⟨c0, hc, a, rfl, ha⟩ := eachs_get ef hv
      rw [lf] at best
      exact q i c0 H2 a best hc ((LamX.ExtN.of s1).trans e2) t2 (e2 _ _ ha (by intro x z; cases z))
end

/-! ### the law's choices -/
def LstI (H : Hp) (v : V) (c : List Int) : Prop := ∃ a, v = .ref a ∧ H a = some (.lst (c.map V.int))
theorem lstsI_same {H H' : Hp} (e : Same H H') {vs : List V} {cs : List (List Int)} (h : PySem.W.EachIs (LstI H) vs cs) : PySem.W.EachIs (LstI H') vs cs := each_impD (fun _ _ _ ⟨a, e1, h1⟩ => ⟨a, e1, e _ _ h1⟩) h
def addI (k : Int) (c : List Int) : List Int := c ++ [k]
/-- what is found behind another branch -/
def stepC (os : List Nat) (fs : List (List Int)) (k : Nat) : List (List Int) := if k ∈ os then fs.map (addI k) else fs ++ fs.map (addI k)
def fndC (os : List Nat) (ks : List Nat) : List (List Int) := ks.foldl (stepC os) [[]]
abbrev sLCh : Stmt := topS 49
abbrev NCh : List Str := ["rows", "outs", "found", "k", "marked", "some", "many"]
theorem scLCh : FnScope NCh ["rows"] (defScope sLCh) := ⟨rfl, rfl, rfl, by decide +kernel, rfl, by decide +kernel, by decide +kernel⟩
abbrev tCat1 : TE := tOp rCat (tVar 5) (tLst (tCons (tVar 3) tNil))
theorem cat_all {K : PySem.W.Frag} {H : Hp} {Q : VK} {u0 u1 u4 : Option V} {pf : Addr} {kk : Int} {vs : List V} {cs : List (List Int)} (hp : H pf = some (.lst vs)) (ev : PySem.W.EachIs (LstI H) vs cs) (l1 : cs.length ≤ 900) (l2 : ∀ c ∈ cs, c.length ≤ 900)
    (q : ∀ H' D ws, Same H H' → H D = none → H' D = some (.lst ws) → PySem.W.EachIs (LstI H') ws (cs.map (addI kk)) → Q (.ref D) H') : tLc (iList K (tVar 2)) (gName 5) tYes tCat1 [5] [u0, u1, some (.ref pf), some (.int kk), u4, none, none] H Q := by
  refine ⟨_, rfl, pf, rfl, ⟨_, SqL.of hp⟩, fun D hD => ?_⟩
  have kD : ∀ {H2 : Hp}, (∀ b o, b ≠ D → H b = some o → H2 b = some o) → Same H H2 := fun kp b o e => kp b o (ne_of_none e hD) e
  refine lc_it walk_list (fun j H4 => (∀ b o, b ≠ D → H b = some o → H4 b = some o) ∧ ∃ ws, H4 D = some (.lst ws) ∧ PySem.W.EachIs (LstI (del H4 D)) ws ((cs.take j).map (addI kk))) ⟨fun b o hb e => by rw [upd_ne hb]; exact e, [], upd_same, .nil⟩ (fun j H4 _ ⟨kp, _⟩ => sqL_same (kD kp) (SqL.of hp)) ?_ ?_
  · rintro j y H4 H4' hj ⟨kp, ws, hD4, ew⟩ ⟨rfl, hy⟩
    obtain ⟨c, hc, a, rfl, ha⟩ := eachs_get ev hy
    have ha4 := kD kp _ _ ha
    have lc9 := l2 c (List.mem_of_getElem? hc)
    refine ⟨rfl, yes_go (iteT ⟨_, rfl, _, rfl, (by show 1 ≤ sizeLine; decide), fun p1 hp1 => ?_⟩)⟩
    have s1 := same_new (o := .lst [V.int kk]) hp1
    refine ⟨a, p1, _, _, rfl, rfl, s1 _ _ ha4, upd_same, ?_, fun p2 hp2 => ?_⟩
    · rw [List.length_map]
      show c.length + 1 ≤ sizeLine
      exact Nat.le_trans (by omega : _ ≤ 1000) (by decide)
    have s2 := s1.trans (same_new (o := .lst (c.map V.int ++ [V.int kk])) hp2)
    have h2 : upd (upd H4' p1 (.lst [V.int kk])) p2 (.lst (c.map V.int ++ [V.int kk])) p2 = some (.lst ((addI kk c).map V.int)) := by
      rw [upd_same]
      unfold addI
      rw [List.map_append]
      rfl
    have n2 : p2 ≠ D := fun z => by
      have := s1 _ _ hD4
      rw [← z, hp2] at this
      cases this
    generalize upd (upd H4' p1 (.lst [V.int kk])) p2 (.lst (c.map V.int ++ [V.int kk])) = H5 at s2 h2 ⊢
    have ll := ew.length
    rw [List.length_map, List.length_take] at ll
    refine ⟨ws, s2 _ _ hD4, small1000 (by omega), fun b o hb e => by rw [upd_ne hb]; exact s2 _ _ (kp b o hb e), _, upd_same, ?_⟩
    rw [del_upd, List.take_add_one, hc]
    show PySem.W.EachIs _ _ ((cs.take j ++ [c]).map (addI kk))
    rw [List.map_append]
    exact each_app (lstsI_same (del_same_of s2) ew) (.cons ⟨p2, rfl, by rw [del_ne n2]; exact h2⟩ .nil)
  · rintro H4 ⟨kp, ws, hD4, ew⟩
    rw [ev.length, List.take_length] at ew
    exact q H4 D ws (kD kp) hD hD4 (lstsI_same del_sub ew)

/-! ### the law's choices: the mathematics -/
theorem mem_fold {os : List Nat} : ∀ (ks : List Nat) (fs : List (List Int)) (c : List Int), ks.Nodup → (c ∈ ks.foldl (stepC os) fs ↔ ∃ e ∈ fs, ∃ d : List Nat, d.Sublist ks ∧ (∀ k ∈ ks, k ∈ os → k ∈ d) ∧ c = e ++ zs d)
  | [], fs, c, _ => by
    show c ∈ fs ↔ _
    constructor
    · intro h
      exact ⟨c, h, [], .slnil, fun k hk => (List.not_mem_nil hk).elim, by simp [zs]⟩
    · rintro ⟨e, he, d, hd, _, rfl⟩
      rw [List.sublist_nil.mp hd]
      simpa [zs] using he
  | k :: ks, fs, c, nd => by
    obtain ⟨nk, nd⟩ := List.nodup_cons.mp nd
    show c ∈ ks.foldl (stepC os) (stepC os fs k) ↔ _
    rw [mem_fold ks _ c nd]
    have cons_of : ∀ {d : List Nat} {e : List Int}, addI (k : Int) e ++ zs d = e ++ zs (k :: d) := fun {d e} => by
      unfold addI zs
      rw [List.append_assoc]
      rfl
    by_cases ho : k ∈ os
    · have es : stepC os fs k = fs.map (addI (k : Int)) := if_pos ho
      rw [es]
      constructor
      · rintro ⟨e', he', d, hd, hall, rfl⟩
        obtain ⟨e, he, rfl⟩ := List.mem_map.mp he'
        refine ⟨e, he, k :: d, hd.cons_cons k, fun j hj hjo => ?_, cons_of⟩
        rcases List.mem_cons.mp hj with rfl | hj
        · exact List.mem_cons_self ..
        · exact List.mem_cons_of_mem _ (hall j hj hjo)
      · rintro ⟨e, he, d, hd, hall, rfl⟩
        have kd := hall k (List.mem_cons_self ..) ho
        cases hd with
        | cons _ h => exact absurd (h.subset kd) nk
        | cons_cons _ h =>
          rename_i d'
          refine ⟨addI (k : Int) e, List.mem_map.mpr ⟨e, he, rfl⟩, d', h, fun j hj hjo => ?_, cons_of.symm⟩
          rcases List.mem_cons.mp (hall j (List.mem_cons_of_mem _ hj) hjo) with z | z
          · rw [z] at hj
            exact absurd hj nk
          · exact z
    · have es : stepC os fs k = fs ++ fs.map (addI (k : Int)) := if_neg ho
      rw [es]
      constructor
      · rintro ⟨e', he', d, hd, hall, rfl⟩
        rcases List.mem_append.mp he' with he' | he'
        · refine ⟨e', he', d, hd.cons k, fun j hj hjo => ?_, rfl⟩
          rcases List.mem_cons.mp hj with rfl | hj
          · exact absurd hjo ho
          · exact hall j hj hjo
        · obtain ⟨e, he, rfl⟩ := List.mem_map.mp he'
          refine ⟨e, he, k :: d, hd.cons_cons k, fun j hj hjo => ?_, cons_of⟩
          rcases List.mem_cons.mp hj with rfl | hj
          · exact List.mem_cons_self ..
          · exact List.mem_cons_of_mem _ (hall j hj hjo)
      · rintro ⟨e, he, d, hd, hall, rfl⟩
        cases hd with
        | cons _ h => exact ⟨e, List.mem_append_left _ he, d, h, fun j hj hjo => hall j (List.mem_cons_of_mem _ hj) hjo, rfl⟩
        | cons_cons _ h =>
          rename_i d'
          refine ⟨addI (k : Int) e, List.mem_append_right _ (List.mem_map.mpr ⟨e, he, rfl⟩), d', h, fun j hj hjo => ?_, cons_of.symm⟩
          rcases List.mem_cons.mp (hall j (List.mem_cons_of_mem _ hj) hjo) with z | z
          · rw [z] at hj
            exact absurd hj nk
          · exact z
theorem addI_inj {k : Int} {a b : List Int} (h : addI k a = addI k b) : a = b := List.append_cancel_right h
theorem nodup_fold {os : List Nat} : ∀ (ks : List Nat) (fs : List (List Int)), ks.Pairwise (· < ·) → fs.Nodup → (∀ e ∈ fs, ∀ x ∈ e, ∀ k ∈ ks, x < ((k : Nat) : Int)) → (ks.foldl (stepC os) fs).Nodup
  | [], fs, _, h, _ => h
  | k :: ks, fs, asc, h, lt => by
    obtain ⟨a1, a2⟩ := List.pairwise_cons.mp asc
    have nm : (fs.map (addI (k : Int))).Nodup := List.Pairwise.map _ (fun a b h e => h (addI_inj e)) h
    have low : ∀ e ∈ fs.map (addI (k : Int)), ∀ x ∈ e, ∀ j ∈ ks, x < ((j : Nat) : Int) := by
      intro e' he' x hx j hj
      obtain ⟨e, he, rfl⟩ := List.mem_map.mp he'
      have kj := a1 j hj
      rcases List.mem_append.mp hx with hx | hx
      · exact lt e he x hx j (List.mem_cons_of_mem _ hj)
      · rw [List.mem_singleton.mp hx]
        omega
    show (ks.foldl (stepC os) (stepC os fs k)).Nodup
    by_cases ho : k ∈ os
    · have es : stepC os fs k = fs.map (addI (k : Int)) := if_pos ho
      rw [es]
      exact nodup_fold ks _ a2 nm low
    · have es : stepC os fs k = fs ++ fs.map (addI (k : Int)) := if_neg ho
      rw [es]
      refine nodup_fold ks _ a2 (List.nodup_append.mpr ⟨h, nm, fun a ha b hb e => ?_⟩) fun e he x hx j hj => ?_
      · obtain ⟨b', hb', rfl⟩ := List.mem_map.mp hb
        have := lt a ha (k : Int) (by rw [e]; exact List.mem_append_right _ (List.mem_singleton.mpr rfl)) k (List.mem_cons_self ..)
        omega
      · rcases List.mem_append.mp he with he | he
        · exact lt e he x hx j (List.mem_cons_of_mem _ hj)
        · exact low e he x hx j hj
theorem fold_len {os : List Nat} : ∀ (ks : List Nat) (fs : List (List Int)), (ks.foldl (stepC os) fs).length ≤ fs.length * 2 ^ ks.length
  | [], fs => by simp
  | k :: ks, fs => by
    show (ks.foldl (stepC os) (stepC os fs k)).length ≤ _
    have h := fold_len (os := os) ks (stepC os fs k)
    have l : (stepC os fs k).length ≤ 2 * fs.length := by
      unfold stepC
      split
      · rw [List.length_map]
        omega
      · rw [List.length_append, List.length_map]
        omega
    have e : fs.length * 2 ^ (k :: ks).length = 2 * fs.length * 2 ^ ks.length := by
      rw [List.length_cons, Nat.pow_succ]
      rw [Nat.mul_comm 2 fs.length, Nat.mul_assoc, Nat.mul_comm 2]
    rw [e]
    exact Nat.le_trans h (Nat.mul_le_mul_right _ l)
/-- shorter first, then as lists are compared -/
abbrev leP (a b : List Int) : Bool := decide (a.length < b.length ∨ (a.length = b.length ∧ a ≤ b))
theorem leP_trans (a b c : List Int) (h1 : leP a b = true) (h2 : leP b c = true) : leP a c = true := by
  have h1 := of_decide_eq_true h1
  have h2 := of_decide_eq_true h2
  refine decide_eq_true ?_
  rcases h1 with h1 | ⟨e1, h1⟩ <;> rcases h2 with h2 | ⟨e2, h2⟩
  · exact .inl (by omega)
  · exact .inl (by omega)
  · exact .inl (by omega)
  · exact .inr ⟨by omega, List.le_trans h1 h2⟩
theorem leP_total (a b : List Int) : (leP a b || leP b a) = true := by
  rw [Bool.or_eq_true]
  rcases Nat.lt_trichotomy a.length b.length with h | h | h
  · exact .inl (decide_eq_true (.inl h))
  · rcases List.le_total a b with z | z
    · exact .inl (decide_eq_true (.inr ⟨h, z⟩))
    · exact .inr (decide_eq_true (.inr ⟨h.symm, z⟩))
  · exact .inr (decide_eq_true (.inl h))
theorem sortP_lt {fs : List (List Int)} (nd : fs.Nodup) : (fs.mergeSort leP).Pairwise lt2 := by
  have srt : (fs.mergeSort leP).Pairwise (fun a b => leP a b = true) := List.pairwise_mergeSort leP_trans leP_total _
  have nod : (fs.mergeSort leP).Nodup := (List.mergeSort_perm _ _).nodup_iff.mpr nd
  refine (List.pairwise_and_iff.mpr ⟨srt, nod⟩).imp fun {a b} ⟨h, n⟩ => ?_
  rcases of_decide_eq_true h with h | ⟨e, h⟩
  · exact .inl h
  · refine .inr ⟨e, ?_⟩
    by_cases z : a < b
    · exact z
    · exact absurd (List.le_antisymm h (List.not_lt.mp z)) n
/-- the law's choices -/
def lawC (rs : List Row) : List (List Int) := (fndC (outs rs) (brs rs)).mergeSort leP
theorem lawC_lt (rs : List Row) : (lawC rs).Pairwise lt2 := sortP_lt (nodup_fold _ _ (brs_asc rs) (by simp) fun e he x hx => by
  rw [List.mem_singleton.mp he] at hx
  cases hx)
theorem mem_lawC {rs : List Row} (l : rs.length ≤ 900) {c : List Int} : c ∈ lawC rs ↔ ChOk rs c := by
  unfold lawC fndC
  rw [List.mem_mergeSort, mem_fold _ _ _ (brs_nodup rs)]
  constructor
  · rintro ⟨e, he, d, hd, hall, rfl⟩
    rw [List.mem_singleton.mp he, List.nil_append]
    exact ch_sub hd (fun k hk => hall k (outs_brs hk) hk) l
  · intro h
    refine ⟨[], List.mem_singleton.mpr rfl, (brs rs).filter fun k => decide ((k : Int) ∈ c), List.filter_sublist .., fun k hk ho => List.mem_filter.mpr ⟨hk, by simpa using h.out k ho⟩, ?_⟩
    rw [List.nil_append]
    refine asc_ext h.asc (zs_asc (List.Pairwise.sublist (List.filter_sublist ..) (brs_asc rs))) fun y => ?_
    rw [mem_zs]
    constructor
    · intro hy
      obtain ⟨k, hk, e⟩ := List.mem_map.mp (h.br y hy)
      have e : (k : Int) = y := e
      exact ⟨k, List.mem_filter.mpr ⟨hk, by simpa [e] using hy⟩, e⟩
    · rintro ⟨k, hk, rfl⟩
      simpa using (List.mem_filter.mp hk).2
theorem lawC_fits {rs : List Row} (l : rs.length ≤ 900) : (lawC rs).filter (fitB rs) = allF rs :=
  lt2_ext (List.Pairwise.sublist (List.filter_sublist ..) (lawC_lt rs)) (allF_lt rs) fun y => by
    rw [List.mem_filter, mem_lawC l, mem_allF l]
    unfold fitB
    rw [decide_eq_true_iff]
theorem fnd_asc {rs : List Row} {c : List Int} {i : Nat} (h : c ∈ fndC (outs rs) ((brs rs).take i)) : c.Pairwise (· < ·) ∧ c.length ≤ (brs rs).length := by
  have nd : ((brs rs).take i).Nodup := List.Nodup.sublist (List.take_sublist ..) (brs_nodup rs)
  obtain ⟨e, he, d, hd, _, rfl⟩ := (mem_fold _ _ _ nd).mp h
  rw [List.mem_singleton.mp he, List.nil_append]
  have sd := hd.trans (List.take_sublist i (brs rs))
  refine ⟨zs_asc (List.Pairwise.sublist sd (brs_asc rs)), ?_⟩
  rw [zs_len]
  exact sd.length_le
theorem fnd_len {rs : List Row} (h : (brs rs).length < 8) (i : Nat) : (fndC (outs rs) ((brs rs).take i)).length ≤ 128 := by
  have h1 := fold_len (os := outs rs) ((brs rs).take i) [[]]
  have h2 : 2 ^ ((brs rs).take i).length ≤ 128 := pow8 (by rw [List.length_take]; omega)
  unfold fndC
  simp only [List.length_cons, List.length_nil] at h1
  omega
/-- what a choice and its length come to as they are compared -/
def datP (c : List Int) : PyData := .tuple [.int (c.length : Nat), .list (c.map .int)]
theorem leD_P (v w : V) (a b : List Int) : leD (v, datP a) (w, datP b) = leP a b := by
  show PySem.W.dataLe false Prod.snd _ _ = _
  rw [PySem.W.dataLe_eq]
  show (!PySem.W.dataLt (.tuple [.int (b.length : Nat), .list (b.map .int)]) (.tuple [.int (a.length : Nat), .list (a.map .int)])) = _
  rw [PySem.W.dataLt_pair rfl (show PySem.W.alike (.list (b.map .int)) (.list (a.map .int)) = true from PySem.W.alike_ints b a), eqv_ints, PySem.W.dataLt_int, PySem.W.dataLt_list]
  have e1 : PyData.eqv (.int (b.length : Nat)) (.int (a.length : Nat)) = decide (b.length = a.length) := by
    simp only [PyData.eqv]
    by_cases z : b.length = a.length
    · rw [decide_eq_true z, z]
      simp
    · rw [decide_eq_false z]
      simp
      omega
  have e2 := PySem.W.dataLt_ints b a
  unfold PySem.W.rowLt at e2
  rw [e1, e2]
  unfold leP
  rcases Nat.lt_trichotomy a.length b.length with h | h | h
  · have n1 : ¬ b.length = a.length := by omega
    have n2 : ¬ ((b.length : Nat) : Int) < (a.length : Nat) := by omega
    simp [n1, n2, h]
  · by_cases z : b = a
    · subst z
      simp [List.le_refl]
    · have n3 : ¬ a.length < b.length := by omega
      by_cases y : b < a
      · have : ¬ a ≤ b := fun r => List.not_lt.mpr r y
        simp [h, z, y, this]
      · have : a ≤ b := List.not_lt.mp y
        simp [h, z, y, this]
  · have n1 : ¬ b.length = a.length := by omega
    have n2 : ((b.length : Nat) : Int) < (a.length : Nat) := by omega
    have n3 : ¬ a.length < b.length := by omega
    have n4 : ¬ a.length = b.length := by omega
    simp [n1, n2, n3, n4]
    try omega

/-! ### _law_choices -/
def PairI (H : Hp) (v : V) (c : List Int) : Prop := ∃ t s2, v = .ref t ∧ H t = some (.tup [.int (c.length : Nat), .ref s2]) ∧ H s2 = some (.lst (c.map V.int))
theorem pairsI_same {H H' : Hp} (e : Same H H') {vs : List V} {cs : List (List Int)} (h : PySem.W.EachIs (PairI H) vs cs) : PySem.W.EachIs (PairI H') vs cs := each_impD (fun _ _ _ ⟨a, b, e1, h1, h2⟩ => ⟨a, b, e1, e _ _ h1, e _ _ h2⟩) h
theorem sort_pairs {K : PySem.W.Frag} {H : Hp} {vs : List V} {cs : List (List Int)} (h : PySem.W.EachIs (PairI H) vs cs) : ∃ zs : List (V × PyData), zs.map Prod.fst = vs ∧ (∀ z ∈ zs, Dp K H z.1 z.2 ∧ z.2.depth ≤ 5) ∧ PySem.W.AllAlike (zs.map Prod.snd) ∧
    PySem.W.Sortable (zs.map Prod.snd) ∧ PySem.W.EachIs (PairI H) ((zs.mergeSort leD).map Prod.fst) (cs.mergeSort leP) := by
  obtain ⟨h1, h2, h3⟩ := each_zip h
  generalize hz : vs.zip cs = zs at h1 h2 h3
  have e2 : (zs.map fun p => (p.1, datP p.2)).map Prod.snd = cs.map datP := by
    rw [List.map_map, ← h2, List.map_map]
    rfl
  refine ⟨zs.map fun p => (p.1, datP p.2), ?_, ?_, ?_, ?_, ?_⟩
  · rw [List.map_map, ← h1]
    rfl
  · intro z hz
    obtain ⟨p, hp, rfl⟩ := List.mem_map.mp hz
    obtain ⟨a, b, e, ha, hb⟩ := h3 p hp
    refine ⟨?_, ?_⟩
    · show Dp K H p.1 _
      rw [e]
      exact .tup (SqT.of ha) (.cons (.int _) (.cons (.lst (SqL.of hb) (dps_ints _)) .nil))
    · show (PyData.tuple [.int (p.2.length : Nat), .list (p.2.map .int)]).depth ≤ 5
      have := PySem.W.depth_ints p.2
      simp only [PyData.depth, PyData.depthAll]
      omega
  · rw [e2]
    refine PySem.W.AllAlike.of fun b b' => ?_
    have := PySem.W.alike_ints b b'
    simp [datP, PySem.W.alike, PySem.W.alikeAll, this]
  · rw [e2]
    exact PySem.W.Sortable.tuples fun b => ⟨_, _, rfl⟩
  · have s1 : (zs.map fun p => (p.1, datP p.2)).mergeSort leD = (zs.mergeSort fun a b => leP a.2 b.2).map fun p => (p.1, datP p.2) := (List.map_mergeSort fun a _ b _ => (leD_P a.1 b.1 a.2 b.2).symm).symm
    have s2 : (zs.mergeSort fun a b => leP a.2 b.2).map Prod.snd = cs.mergeSort leP := by
      rw [← h2]
      exact List.map_mergeSort fun a _ b _ => rfl
    rw [s1, List.map_map, ← s2]
    have : (zs.mergeSort fun a b => leP a.2 b.2).map (Prod.fst ∘ fun p => (p.1, datP p.2)) = (zs.mergeSort fun a b => leP a.2 b.2).map Prod.fst := rfl
    rw [this]
    exact each_of fun z hz => h3 z (List.mem_mergeSort.mp hz)
def rLenOf (K : PySem.W.Frag) : List V → Hp → VK → Prop := fun xs H Q => ∃ p ys, xs = [.ref p] ∧ (SqL K H p ys ∨ SqT K H p ys) ∧ Q (.int ys.length) H
theorem cr_lenOf {X : Cx} : CallR X (.builtin "len") (rLenOf X.K) := call_len_seq
abbrev tMark (K : PySem.W.Frag) : TE := tTup (tCons (tCB (rLenOf K) (tCons (tVar 5) tNil)) (tCons (tCB (rSortedI K) (tCons (tVar 5) tNil)) tNil))
def spLCh (K : PySem.W.Frag) : Sp := fun vs H Q _ => ∃ (L : Addr) (xs : List V) (rs : List Row), vs = [.ref L] ∧ LRows K H L xs rs ∧ (brs rs).length < 8 ∧ ∀ H' p ws, Same H H' → H p = none → H' p = some (.lst ws) → PySem.W.EachIs (TupI K H') ws (lawC rs) → Q (.ref p) H'
section
variable {P : Program} {w : World} {K : PySem.W.Frag} {mg : Str → Option Value} {base : Heap}
theorem ok_lch {f : Addr} {fd : FuncData} (F : Fun K "_law_choices" "_law_choices" sLCh f fd) (T : Bi mg) (G1 : Has P w K mg base CX0 3 "_law_outs" ["rows"] (spLOu K)) (G2 : Has P w K mg base CX0 3 "_law_branches" ["rows"] (spLBr K)) : FnOk P w K mg base CX0 4 f fd ["rows"] (spLCh K) := by
  refine F.ok scLCh (fun vs H Q E h => ?_) (fun cdv A outer s H vs Q E hr h => ?_)
  · obtain ⟨L, xs, rs, rfl, _⟩ := h
    rfl
  · obtain ⟨L, xs, rs, rfl, hR, b8, q⟩ := h
    refine ⟨_, (pss_cons (ps_par (i := 1) (j := 2) rfl scLCh.nd rfl rfl (by decide) rfl rfl (pa_cons (pe_callH G1 hr (by rfl) pass0 (pa_cons (pv 0) pa_nil)) (pa_cons (pe_lst (pa_cons (pe_lst pa_nil) pa_nil)) pa_nil)) (by rfl))
      (pss_cons (ps_for PassesOwn.never rfl (pi_list (pe_callH G2 hr (by rfl) pass0 (pa_cons (pv 0) pa_nil))) (pg_name (i := 3) scLCh.nd rfl (.inr rfl))
        (pss_one (ps_if (pt_cmpR op_in_seq (pv 3) (pv 1) (by rfl))
          (pss_one (ps_setLc (i := 2) (own := [("some", 5)]) (g := gName 5) (tt := tYes) (te := tCat1) rfl scLCh.nd rfl rfl (sw_true rfl rfl rfl (by decide +kernel)) (pi_list (pv 2)) (blkOk_by (N := NCh) (sc := defScope sLCh) (by decide +kernel)) (fun _ _ _ _ _ => pg_name (i := 5) scLCh.nd rfl (.inl rfl)) (fun _ _ _ _ _ => pts_nil) (fun _ _ _ _ _ => pe_op op_cat (pv 5) (pe_lst (pa_cons (pv 3) pa_nil)))))
          (pss_one (ps_set (i := 2) scLCh.nd rfl (.inl rfl) (pe_op op_cat (pv 2) (pe_lc (own := [("some", 5)]) (g := gName 5) (tt := tYes) (te := tCat1) rfl scLCh.nd (pi_list (pv 2)) (blkOk_by (N := NCh) (sc := defScope sLCh) (by decide +kernel)) (fun _ _ _ _ _ => pg_name (i := 5) scLCh.nd rfl (.inl rfl)) (fun _ _ _ _ _ => pts_nil) (fun _ _ _ _ _ => pe_op op_cat (pv 5) (pe_lst (pa_cons (pv 3) pa_nil))))))))))
      (pss_cons (ps_set (i := 4) scLCh.nd rfl (.inl rfl) (pe_callB (cr_sortedD hr) (by rfl) T.sorted (by decide +kernel) (pa_cons (pe_lc (own := [("some", 5)]) (g := gName 5) (tt := tYes) (te := tMark K) rfl scLCh.nd (pi_list (pv 2)) (blkOk_by (N := NCh) (sc := defScope sLCh) (by decide +kernel)) (fun _ _ _ _ _ => pg_name (i := 5) scLCh.nd rfl (.inl rfl)) (fun _ _ _ _ _ => pts_nil) (fun _ _ _ _ _ => pe_tup (pa_cons (pe_callB cr_lenOf (by rfl) T.len (by decide +kernel) (pa_cons (pv 5) pa_nil)) (pa_cons (pe_callB cr_sortedI (by rfl) T.sorted (by decide +kernel) (pa_cons (pv 5) pa_nil)) pa_nil)))) pa_nil)))
      (pss_one (ps_ret (pe_lc (own := [("many", 6), ("some", 5)]) (g := gTup K 2 (gCons (gName 6) (gCons (gName 5) gNil))) (tt := tYes) (te := tCB (rTupOf K) (tCons (tVar 5) tNil)) rfl scLCh.nd (pi_list (pv 4)) (blkOk_by (N := NCh) (sc := defScope sLCh) (by decide +kernel)) (fun _ _ _ _ _ => pg_tup rfl (pgs_cons (pg_name (i := 6) scLCh.nd rfl (.inl rfl)) (pgs_cons (pg_name (i := 5) scLCh.nd rfl (.inl rfl)) pgs_nil))) (fun _ _ _ _ _ => pts_nil) (fun _ _ _ _ _ => pe_callTy cr_tupOf (by rfl) T.tuple (by decide +kernel) (pa_cons (pv 5) pa_nil)))))))), ?_⟩
    refine ⟨_, rfl, L, xs, rs, rfl, hR, fun H1 O s1 _ hO => ⟨Nat.zero_le _, fun p1 hp1 => ⟨(by show 1 ≤ sizeLine; decide), fun p2 hp2 => ⟨_, _, rfl, ?_⟩⟩⟩⟩
    have q1 := same_new (o := .lst []) hp1
    have q2 := same_new (o := .lst [V.ref p1]) hp2
    have s2 := s1.trans (q1.trans q2)
    have hp1' : upd (upd H1 p1 (.lst [])) p2 (.lst [V.ref p1]) p1 = some (.lst []) := q2 _ _ upd_same
    have hp2' : upd (upd H1 p1 (.lst [])) p2 (.lst [V.ref p1]) p2 = some (.lst [V.ref p1]) := upd_same
    have hO2 := (q1.trans q2) _ _ hO
    generalize upd (upd H1 p1 (.lst [])) p2 (.lst [V.ref p1]) = H2 at s2 hp1' hp2' hO2 ⊢
    refine ⟨_, rfl, L, xs, rs, rfl, hR.same s2, fun H3 B s3 _ hB => ?_⟩
    refine ⟨B, rfl, ⟨_, SqL.of hB⟩, ?_⟩
    have hO3 := s3 _ _ hO2
    refine for_it walk_list (fun i σ H4 => ∃ (u3 : Option V) (pf : Addr) (vs : List V), σ = [some (.ref L), some (.ref O), some (.ref pf), u3, none, none, none] ∧ Same H3 H4 ∧ H4 pf = some (.lst vs) ∧ PySem.W.EachIs (LstI H4) vs (fndC (outs rs) ((brs rs).take i)))
      ⟨none, p2, _, rfl, Same.refl _, s3 _ _ hp2', .cons ⟨p1, rfl, s3 _ _ hp1'⟩ .nil⟩ (fun i σ H4 _ ⟨_, _, _, _, s4, _⟩ => sqL_same s4 (SqL.of hB)) ?_ ?_
    · rintro i y σ H4 H4' hi ⟨u3, pf, vs, rfl, s4, hpf, ev⟩ ⟨rfl, hy⟩
      unfold nats at hy
      rw [List.getElem?_map] at hy
      obtain ⟨k, hk, rfl⟩ := Option.map_eq_some_iff.mp hy
      have hO4 := s4 _ _ hO3
      rw [nats_zs] at hO4
      have f1 : (fndC (outs rs) ((brs rs).take i)).length ≤ 900 := Nat.le_trans (fnd_len b8 i) (by decide)
      have f2 : ∀ c ∈ fndC (outs rs) ((brs rs).take i), c.length ≤ 900 := fun c hc => by
        have := (fnd_asc hc).2
        omega
      have nx : fndC (outs rs) ((brs rs).take (i + 1)) = stepC (outs rs) (fndC (outs rs) ((brs rs).take i)) k := by
        rw [List.take_add_one, hk]
        unfold fndC
        show ((brs rs).take i ++ [k]).foldl _ _ = _
        rw [List.foldl_append]
        rfl
      refine ⟨_, rfl, _, rfl, O, _, rfl, .inl (SqL.of hO4), rfl, flat_ints _, _, rfl, ?_⟩
      show if inV (.int (k : Int)) ((zs (outs rs)).map V.int) = true then _ else _
      rw [inV_ints]
      by_cases ho : k ∈ outs rs
      · rw [decide_eq_true (mem_zs.mpr ⟨k, ho, rfl⟩)]
        refine iteT (cat_all hpf ev f1 f2 fun H5 D ws s5 _ hD ew => ⟨_, D, ws, rfl, s4.trans s5, hD, ?_⟩)
        rw [nx]
        unfold stepC
        rw [if_pos ho]
        exact ew
      · have nz : ¬ (k : Int) ∈ zs (outs rs) := fun z => by
          obtain ⟨j, hj, e⟩ := mem_zs.mp z
          have : j = k := by omega
          rw [this] at hj
          exact ho hj
        rw [decide_eq_false nz]
        refine iteF ⟨_, rfl, cat_all hpf ev f1 f2 fun H5 D ws s5 _ hD ew => ⟨pf, D, _, _, rfl, rfl, s5 _ _ hpf, hD, ?_, fun p hp => ?_⟩⟩
        · rw [ev.length, ew.length, List.length_map]
          exact Nat.le_trans (by omega : _ ≤ 1800) (by decide)
        · have sp := same_new (o := .lst (vs ++ ws)) hp
          refine ⟨_, p, _, rfl, (s4.trans s5).trans sp, upd_same, ?_⟩
          rw [nx]
          unfold stepC
          rw [if_neg ho]
          exact each_app (lstsI_same (s5.trans sp) ev) (lstsI_same sp ew)
    · rintro σ H4 ⟨u3, pf, vs, rfl, s4, hpf, ev⟩
      rw [nats_len, List.take_length] at ev
      have f1 : (fndC (outs rs) (brs rs)).length ≤ 128 := by
        have := fnd_len b8 (brs rs).length
        rw [List.take_length] at this
        exact this
      have asc : ∀ c ∈ fndC (outs rs) (brs rs), c.Pairwise (· < ·) ∧ c.length ≤ (brs rs).length := fun c hc => fnd_asc (i := (brs rs).length) (by rw [List.take_length]; exact hc)
      have s04 := (s2.trans s3).trans s4
      refine ⟨_, rfl, pf, rfl, ⟨_, SqL.of hpf⟩, fun D hD => ?_⟩
      have kD : ∀ {H2 : Hp}, (∀ b o, b ≠ D → H4 b = some o → H2 b = some o) → Same H4 H2 := fun kp b o e => kp b o (ne_of_none e hD) e
      refine lc_it walk_list (fun j H5 => (∀ b o, b ≠ D → H4 b = some o → H5 b = some o) ∧ ∃ ws, H5 D = some (.lst ws) ∧ PySem.W.EachIs (PairI (del H5 D)) ws ((fndC (outs rs) (brs rs)).take j)) ⟨fun b o hb e => by rw [upd_ne hb]; exact e, [], upd_same, .nil⟩ (fun j H5 _ ⟨kp, _⟩ => sqL_same (kD kp) (SqL.of hpf)) ?_ ?_
      · rintro j y H5 H5' hj ⟨kp, ws, hD5, ew⟩ ⟨rfl, hy⟩
        obtain ⟨c, hc, a, rfl, ha⟩ := eachs_get ev hy
        have ha5 := kD kp _ _ ha
        obtain ⟨ca, cl⟩ := asc c (List.mem_of_getElem? hc)
        have ll := ew.length
        rw [List.length_take] at ll
        refine ⟨rfl, yes_go (iteT ⟨_, rfl, a, _, rfl, .inl (SqL.of ha5), _, rfl, a, c, rfl, SqL.of ha5, fun ns' m pm so hm => ⟨(by show 2 ≤ sizeLine; decide), fun t ht => ?_⟩⟩)⟩
        obtain rfl := sort_asc ca pm so
        have sm := same_new (o := .lst (ns'.map V.int)) hm
        rw [List.length_map]
        have st := same_new (o := .tup [.int (ns'.length : Nat), .ref m]) ht
        have htt : upd (upd H5' m (.lst (ns'.map V.int))) t (.tup [.int (ns'.length : Nat), .ref m]) t = some (.tup [.int (ns'.length : Nat), .ref m]) := upd_same
        have hmm : upd (upd H5' m (.lst (ns'.map V.int))) t (.tup [.int (ns'.length : Nat), .ref m]) m = some (.lst (ns'.map V.int)) := st _ _ upd_same
        have nm : m ≠ D := fun z => by
          rw [z, hD5] at hm
          cases hm
        have nt : t ≠ D := fun z => by
          have := sm _ _ hD5
          rw [← z, ht] at this
          cases this
        have s56 := sm.trans st
        generalize upd (upd H5' m (.lst (ns'.map V.int))) t (.tup [.int (ns'.length : Nat), .ref m]) = H6 at s56 htt hmm ⊢
        refine ⟨ws, s56 _ _ hD5, small1000 (by omega), fun b o hb e => by rw [upd_ne hb]; exact s56 _ _ (kp b o hb e), _, upd_same, ?_⟩
        rw [del_upd, List.take_add_one, hc]
        exact each_app (pairsI_same (del_same_of s56) ew) (.cons ⟨t, m, rfl, by rw [del_ne nt]; exact htt, by rw [del_ne nm]; exact hmm⟩ .nil)
      · rintro H5 ⟨kp, ws, hD5, ew⟩
        rw [ev.length, List.take_length] at ew
        have ew := pairsI_same del_sub ew
        have s45 := kD kp
        obtain ⟨zs', z1, z2, z3, z4, z5⟩ := sort_pairs (K := K) ew
        refine ⟨D, zs', rfl, (by rw [z1]; exact SqL.of hD5), z2, z3, .inl z4, fun pS hS => ?_⟩
        have z5 : PySem.W.EachIs (PairI H5) ((zs'.mergeSort leD).map Prod.fst) (lawC rs) := z5
        generalize (zs'.mergeSort leD).map Prod.fst = vS at z5 ⊢
        have sS := same_new (o := .lst vS) hS
        have hSS : upd H5 pS (.lst vS) pS = some (.lst vS) := upd_same
        generalize upd H5 pS (.lst vS) = H6 at sS hSS ⊢
        have z6 := pairsI_same sS z5
        have s06 := (s04.trans s45).trans sS
        have lC : (lawC rs).length ≤ 128 := by
          unfold lawC
          rw [(List.mergeSort_perm _ _).length_eq]
          exact f1
        refine ⟨_, rfl, pS, rfl, ⟨_, SqL.of hSS⟩, fun D2 hD2 => ?_⟩
        have kD2 : ∀ {H7 : Hp}, (∀ b o, b ≠ D2 → H6 b = some o → H7 b = some o) → Same H6 H7 := fun kp b o e => kp b o (ne_of_none e hD2) e
        refine lc_it walk_list (fun j H7 => (∀ b o, b ≠ D2 → H6 b = some o → H7 b = some o) ∧ ∃ us, H7 D2 = some (.lst us) ∧ PySem.W.EachIs (TupI K (del H7 D2)) us ((lawC rs).take j)) ⟨fun b o hb e => by rw [upd_ne hb]; exact e, [], upd_same, .nil⟩ (fun j H7 _ ⟨kp, _⟩ => sqL_same (kD2 kp) (SqL.of hSS)) ?_ ?_
        · rintro j y H7 H7' hj ⟨kp7, us, hD7, eu⟩ ⟨rfl, hy⟩
          obtain ⟨c, hc, t, m, rfl, ht, hm⟩ := eachs_get z6 hy
          have s67 := kD2 kp7
          have lu := eu.length
          rw [List.length_take] at lu
          refine ⟨t, _, rfl, SqT.of (s67 _ _ ht), rfl, _, _, rfl, _, _, rfl, rfl, rfl, yes_go (iteT ⟨_, rfl, m, _, rfl, .inl ⟨SqL.of (s67 _ _ hm), fun t2 ht2 => ?_⟩⟩)⟩
          have st := same_new (o := .tup (c.map V.int)) ht2
          have n2 : t2 ≠ D2 := fun z => by
            rw [z, hD7] at ht2
            cases ht2
          refine ⟨us, st _ _ hD7, small1000 (by omega), fun b o hb e => by rw [upd_ne hb]; exact st _ _ (kp7 b o hb e), _, upd_same, ?_⟩
          rw [del_upd, List.take_add_one, hc]
          exact each_app (tupsI_same (del_same_of st) eu) (.cons ⟨t2, rfl, by rw [del_ne n2]; exact upd_same⟩ .nil)
        · rintro H7 ⟨kp7, us, hD7, eu⟩
          rw [z6.length, List.take_length] at eu
          exact q H7 D2 us (s06.trans (kD2 kp7)) (none_of_f s06 hD2) hD7 (tupsI_same del_sub eu)
end

/-! ### _law_totals, _law_has_all, _law_is_tight -/
abbrev sLTo : Stmt := topS 51
abbrev sLHa : Stmt := topS 54
abbrev sLTi : Stmt := topS 52
theorem scLTo : FnScope ["rows", "choices", "far"] ["rows", "choices"] (defScope sLTo) := ⟨rfl, rfl, rfl, by decide +kernel, rfl, by decide +kernel, by decide +kernel⟩
theorem scLHa : FnScope ["far", "grown", "k"] ["far", "grown"] (defScope sLHa) := ⟨rfl, rfl, rfl, by decide +kernel, rfl, by decide +kernel, by decide +kernel⟩
theorem scLTi : FnScope ["rows", "outs", "far", "k", "one"] ["rows", "outs", "far"] (defScope sLTi) := ⟨rfl, rfl, rfl, by decide +kernel, rfl, by decide +kernel, by decide +kernel⟩
abbrev tEndL (K : PySem.W.Frag) : TE := tOp (rIxL K) (tCall (spLBe K) [] E00 (tCons (tVar 0) (tCons (tVar 2) tNil))) (tUn (rU fun i => .int (-i)) (tC (.int 1)))
def spLTo (K : PySem.W.Frag) : Sp := fun vs H Q _ => ∃ (L l : Addr) (xs ws : List V) (rs : List Row) (cs : List (List Int)), vs = [.ref L, .ref l] ∧ LRows K H L xs rs ∧ (∀ r ∈ rs, RowOk r) ∧ H l = some (.lst ws) ∧ PySem.W.EachIs (TupI K H) ws cs ∧ cs.length ≤ 2000 ∧ ∀ H' p, Same H H' → H p = none → H' p = some (.lst ((cs.map (endF rs)).map V.int)) → Q (.ref p) H'
def spLHa (K : PySem.W.Frag) : Sp := fun vs H Q _ => ∃ (a g : Addr) (ns gs : List Int), vs = [.ref a, .ref g] ∧ SqT K H a (ns.map V.int) ∧ SqT K H g (gs.map V.int) ∧ gs.length ≤ 900 ∧ ∀ H', Same H H' → Q (.bl (gs.all fun k => decide (k ∈ ns))) H'
/-- may be near by itself -/
def mayL (rs : List Row) (ns : List Int) (k : Int) : Bool := !decide (k ∈ zs (outs rs)) && decide (long (mem (offI k ns)) rs = [])
def lawTight (rs : List Row) (ns : List Int) : Bool := !ns.any (mayL rs ns)
def spLTi (K : PySem.W.Frag) : Sp := fun vs H Q _ => ∃ (L o a : Addr) (xs : List V) (rs : List Row) (ns : List Int), vs = [.ref L, .ref o, .ref a] ∧ LRows K H L xs rs ∧ (∀ r ∈ rs, RowOk r) ∧ H o = some (.lst (nats (outs rs))) ∧ SqT K H a (ns.map V.int) ∧ ns.length ≤ 900 ∧ ∀ H', Same H H' → Q (.bl (lawTight rs ns)) H'
theorem big_sz {n : Nat} (h : n ≤ 3000) : n < sizeLine := Nat.lt_of_le_of_lt h (by decide)
section
variable {P : Program} {w : World} {K : PySem.W.Frag} {mg : Str → Option Value} {base : Heap}
theorem ok_lto {f : Addr} {fd : FuncData} (F : Fun K "_law_totals" "_law_totals" sLTo f fd) (G : Has P w K mg base CX0 4 "_law_begins" ["rows", "far"] (spLBe K)) : FnOk P w K mg base CX0 5 f fd ["rows", "choices"] (spLTo K) := by
  refine F.ok scLTo (fun vs H Q E h => ?_) (fun cdv A outer s H vs Q E hr h => ?_)
  · obtain ⟨L, l, xs, ws, rs, cs, rfl, _⟩ := h
    rfl
  · obtain ⟨L, l, xs, ws, rs, cs, rfl, hR, okr, hl, ew, l9, q⟩ := h
    refine ⟨_, pss_one (ps_ret (pe_lc (own := [("far", 2)]) (g := gName 2) (tt := tYes) (te := tEndL K) rfl scLTo.nd (pi_list (pv 1)) (blkOk_by (N := ["rows", "choices", "far"]) (sc := defScope sLTo) (by decide +kernel)) (fun _ _ _ _ _ => pg_name (i := 2) scLTo.nd rfl (.inl rfl)) (fun _ _ _ _ _ => pts_nil) (fun _ _ _ _ _ => pe_ix ix_list (pe_callH G hr (by rfl) pass0 (pa_cons (pv 0) (pa_cons (pv 2) pa_nil))) (pe_un un_neg pe_int) (fun _ _ => rfl)))), ?_⟩
    refine ⟨_, rfl, l, rfl, ⟨_, SqL.of hl⟩, fun D hD => ?_⟩
    have kD : ∀ {H2 : Hp}, (∀ b o, b ≠ D → H b = some o → H2 b = some o) → Same H H2 := fun kp b o e => kp b o (ne_of_none e hD) e
    refine lc_it walk_list (fun j H4 => (∀ b o, b ≠ D → H b = some o → H4 b = some o) ∧ H4 D = some (.lst (((cs.take j).map (endF rs)).map V.int))) ⟨fun b o hb e => by rw [upd_ne hb]; exact e, upd_same⟩ (fun j H4 _ ⟨kp, _⟩ => sqL_same (kD kp) (SqL.of hl)) ?_ ?_
    · rintro j y H4 H4' hj ⟨kp, hD4⟩ ⟨rfl, hy⟩
      obtain ⟨c, hc, a, rfl, ha⟩ := eachs_get ew hy
      have s4 := kD kp
      refine ⟨rfl, yes_go (iteT ⟨_, rfl, _, rfl, L, a, xs, rs, c, rfl, hR.same s4, okr, .inr (SqT.of (s4 _ _ ha)), fun H5 O s5 _ hO => ?_⟩)⟩
      refine ⟨_, rfl, O, _, _, _, rfl, rfl, SqL.of hO, offTo_last _ _ _, _, s5 _ _ hD4, ?_, fun b o hb e => by rw [upd_ne hb]; exact s5 _ _ (kp b o hb e), ?_⟩
      · rw [List.length_map, List.length_map, List.length_take]
        exact big_sz (by omega)
      · rw [upd_same, List.take_add_one, hc]
        show _ = some (HO.lst (((cs.take j ++ [c]).map (endF rs)).map V.int))
        rw [List.map_append, List.map_append]
        rfl
    · rintro H4 ⟨kp, hD4⟩
      rw [ew.length, List.take_length] at hD4
      exact q H4 D (kD kp) hD hD4
theorem ok_lha {f : Addr} {fd : FuncData} (F : Fun K "_law_has_all" "_law_has_all" sLHa f fd) (T : Bi mg) : FnOk P w K mg base CX0 1 f fd ["far", "grown"] (spLHa K) := by
  refine F.ok scLHa (fun vs H Q E h => ?_) (fun cdv A outer s H vs Q E hr h => ?_)
  · obtain ⟨a, g, ns, gs, rfl, _⟩ := h
    rfl
  · obtain ⟨a, g, ns, gs, rfl, ha, hg, l9, q⟩ := h
    refine ⟨_, pss_one (ps_ret (pe_callB (cr_all rfl) (by rfl) T.all (by decide +kernel) (pa_cons (pe_lc (own := [("k", 2)]) (g := gName 2) (tt := tYes) (te := tOp (rIn K false) (tVar 2) (tVar 0)) rfl scLHa.nd (pi_tup (pv 1)) (blkOk_by (N := ["far", "grown", "k"]) (sc := defScope sLHa) (by decide +kernel)) (fun _ _ _ _ _ => pg_name (i := 2) scLHa.nd rfl (.inl rfl)) (fun _ _ _ _ _ => pts_nil) (fun _ _ _ _ _ => pe_cmpR op_in_seq (pv 2) (pv 0) (by rfl))) pa_nil))), ?_⟩
    refine ⟨_, rfl, g, rfl, ⟨_, hg⟩, fun D hD => ?_⟩
    have kD : ∀ {H2 : Hp}, (∀ b o, b ≠ D → H b = some o → H2 b = some o) → Same H H2 := fun kp b o e => kp b o (ne_of_none e hD) e
    refine lc_it walk_tup (fun j H4 => (∀ b o, b ≠ D → H b = some o → H4 b = some o) ∧ H4 D = some (.lst (((gs.take j).map fun k => decide (k ∈ ns)).map V.bl))) ⟨fun b o hb e => by rw [upd_ne hb]; exact e, upd_same⟩ (fun j H4 _ ⟨kp, _⟩ => sqT_same (kD kp) hg) ?_ ?_
    · rintro j y H4 H4' hj ⟨kp, hD4⟩ ⟨rfl, hy⟩
      rw [List.getElem?_map] at hy
      obtain ⟨k, hk, rfl⟩ := Option.map_eq_some_iff.mp hy
      have s4 := kD kp
      refine ⟨rfl, yes_go (iteT ⟨_, rfl, _, rfl, a, _, rfl, .inr (sqT_same s4 ha), rfl, flat_ints _, _, hD4, ?_, fun b o hb e => by rw [upd_ne hb]; exact kp b o hb e, ?_⟩)⟩
      · rw [List.length_map, List.length_map, List.length_take]
        exact big_sz (by omega)
      · rw [upd_same, inV_ints, List.take_add_one, hk]
        simp
    · rintro H4 ⟨kp, hD4⟩
      rw [List.length_map, List.take_length] at hD4
      refine ⟨D, _, rfl, SqL.of hD4, ?_⟩
      rw [List.all_map]
      exact q H4 (kD kp)
theorem ok_lti {f : Addr} {fd : FuncData} (F : Fun K "_law_is_tight" "_law_is_tight" sLTi f fd) (G : Has P w K mg base CX0 4 "_law_long" ["rows", "far"] (spLLo K)) : FnOk P w K mg base CX0 5 f fd ["rows", "outs", "far"] (spLTi K) := by
  refine F.ok scLTi (fun vs H Q E h => ?_) (fun cdv A outer s H vs Q E hr h => ?_)
  · obtain ⟨L, o, a, xs, rs, ns, rfl, _⟩ := h
    rfl
  · obtain ⟨L, o, a, xs, rs, ns, rfl, hR, okr, ho, ha, l9, q⟩ := h
    have hu64 := hr.units
    refine ⟨_, (pss_cons (ps_for PassesOwn.never rfl (pi_tup (pv 2)) (pg_name (i := 3) scLTi.nd rfl (.inr rfl))
        (pss_one (ps_if (PW.pt (pw_and (pt_cmpR op_notIn_seq (pv 3) (pv 1) (by rfl)) (pw_and1 (pt_cmpR (op_eqD hu64) (pe_callH G hr (by rfl) pass0 (pa_cons (pv 0) (pa_cons (pe_lc (own := [("one", 4)]) (g := gName 4) (te := tVar 4) rfl scLTi.nd (pi_tup (pv 2)) (blkOk_by (N := ["rows", "outs", "far", "k", "one"]) (sc := defScope sLTi) (by decide +kernel)) (fun _ _ _ _ _ => pg_name (i := 4) scLTi.nd rfl (.inl rfl)) (fun _ _ _ _ _ => pts_one (pt_cmpR op_ne (pv 4) (pv 3) (nomark _))) (fun _ _ _ _ _ => pv 4)) pa_nil))) (pe_lst pa_nil) (nomark _))))) (pss_one (ps_ret pe_bl)) pss_nil)))
      (pss_one (ps_ret pe_bl))), ?_⟩
    refine ⟨_, rfl, a, rfl, ⟨_, ha⟩, ?_⟩
    refine for_it walk_tup (fun i σ H4 => ∃ (u3 : Option V), σ = [some (.ref L), some (.ref o), some (.ref a), u3, none] ∧ Same H H4 ∧ (ns.take i).any (mayL rs ns) = false) ⟨none, rfl, Same.refl _, rfl⟩ (fun i σ H4 _ ⟨_, _, s4, _⟩ => sqT_same s4 ha) ?_ ?_
    · rintro i y σ H4 H4' hi ⟨u3, rfl, s4, no⟩ ⟨rfl, hy⟩
      rw [List.getElem?_map] at hy
      obtain ⟨k, hk, rfl⟩ := Option.map_eq_some_iff.mp hy
      have ho4 := s4 _ _ ho
      rw [nats_zs] at ho4
      have ha4 := sqT_same s4 ha
      refine ⟨_, rfl, _, rfl, o, _, rfl, .inl (SqL.of ho4), rfl, flat_ints _, _, rfl, ?_⟩
      show if (!inV (.int k) ((zs (outs rs)).map V.int)) = true then _ else _
      rw [inV_ints]
      have tk : (ns.take (i + 1)).any (mayL rs ns) = mayL rs ns k := by
        rw [List.take_add_one, hk, List.any_append, no]
        simp
      cases c1 : decide (k ∈ zs (outs rs)) with
      | true =>
        refine iteF (iteF ⟨_, rfl, s4, ?_⟩)
        rw [tk]
        unfold mayL
        rw [c1]
        rfl
      | false =>
        refine iteT ⟨_, rfl, _, rfl, a, rfl, ⟨_, ha4⟩, fun D hD => ?_⟩
        have kD : ∀ {H2 : Hp}, (∀ b o, b ≠ D → H4' b = some o → H2 b = some o) → Same H4' H2 := fun kp b o e => kp b o (ne_of_none e hD) e
        refine lc_it walk_tup (fun j H5 => (∀ b o, b ≠ D → H4' b = some o → H5 b = some o) ∧ H5 D = some (.lst ((offI k (ns.take j)).map V.int))) ⟨fun b o hb e => by rw [upd_ne hb]; exact e, upd_same⟩ (fun j H5 _ ⟨kp, _⟩ => sqT_same (kD kp) ha4) ?_ ?_
        · rintro j y H5 H5' hj ⟨kp, hD5⟩ ⟨rfl, hy⟩
          rw [List.getElem?_map] at hy
          obtain ⟨n, hn, rfl⟩ := Option.map_eq_some_iff.mp hy
          have st := filt_step (fun x => !decide (x = k)) hn
          have fl := filt_len ns j (fun x => !decide (x = k))
          refine ⟨rfl, _, rfl, _, rfl, rfl, _, rfl, ?_⟩
          show if (!decide (V.int n = V.int k)) = true then _ else _
          rw [intEq]
          cases c : decide (n = k) with
          | true =>
            rw [c] at st
            refine iteF ⟨kp, ?_⟩
            unfold offI
            rw [st]
            show _ = some (HO.lst (((ns.take j).filter _ ++ []).map _))
            rw [List.append_nil]
            exact hD5
          | false =>
            rw [c] at st
            refine iteT ⟨_, rfl, _, hD5, ?_, fun b o hb e => by rw [upd_ne hb]; exact kp b o hb e, ?_⟩
            · rw [List.length_map]
              exact big_sz (Nat.le_trans fl (by omega))
            · rw [upd_same]
              unfold offI
              rw [st, List.map_append]
              rfl
        · rintro H5 ⟨kp, hD5⟩
          rw [List.length_map, List.take_length] at hD5
          have s5 := s4.trans (kD kp)
          refine ⟨L, D, xs, rs, offI k ns, rfl, hR.same s5, okr, .inl (SqL.of hD5), fun H6 p6 s6 _ hp6 => ⟨Nat.zero_le _, fun p7 hp7 => ?_⟩⟩
          have s7 := same_new (o := .lst []) hp7
          have hp67 := s7 _ _ hp6
          refine ⟨.list ((zs (long (mem (offI k ns)) rs)).map .int), .list (([] : List Int).map .int), dp_ints (SqL.of (by rw [hp67, nats_zs])), .lst (SqL.of upd_same) .nil, ints_shaped _, ints_shaped [], _, rfl, ?_⟩
          rw [eqv_ints]
          have em : mayL rs ns k = decide (zs (long (mem (offI k ns)) rs) = []) := by
            unfold mayL
            rw [c1]
            show decide _ = decide _
            congr 1
            exact propext ⟨fun z => by rw [z]; rfl, fun z => List.map_eq_nil_iff.mp z⟩
          rw [← em]
          have s47 := (s5.trans s6).trans s7
          cases ct : mayL rs ns k with
          | false =>
            refine iteF ⟨_, rfl, s47, ?_⟩
            rw [tk, ct]
          | true =>
            have e : lawTight rs ns = false := by
              unfold lawTight
              rw [List.any_eq_true.mpr ⟨k, List.mem_of_getElem? hk, ct⟩]
              rfl
            have qq := q _ s47
            rw [e] at qq
            exact iteT qq
    · rintro σ H4 ⟨u3, rfl, s4, no⟩
      rw [List.length_map, List.take_length] at no
      have e : lawTight rs ns = true := by
        unfold lawTight
        rw [no]
        rfl
      have qq := q H4 s4
      rw [e] at qq
      exact qq
end

/-! ### _law_shrunk -/
abbrev sLSh : Stmt := topS 53
abbrev NSh : List Str := ["rows", "outs", "far", "at", "fewer"]
theorem scLSh : FnScope NSh ["rows", "outs"] (defScope sLSh) := ⟨rfl, rfl, rfl, by decide +kernel, rfl, by decide +kernel, by decide +kernel⟩
def spLSh (K : PySem.W.Frag) : Sp := fun vs H Q _ => ∃ (L o : Addr) (xs : List V) (rs : List Row), vs = [.ref L, .ref o] ∧ LRows K H L xs rs ∧ (∀ r ∈ rs, RowOk r) ∧ rs.length ≤ 400 ∧ H o = some (.lst (nats (outs rs))) ∧ ∀ H' p, Same H H' → H' p = some (.tup ((shr rs).map V.int)) → Q (.ref p) H'
theorem offI_at {ns : List Int} {i : Nat} {k : Int} (nd : ns.Nodup) (h : ns[i]? = some k) : ns.take i ++ ns.drop (i + 1) = offI k ns := by
  have hi : i < ns.length := (List.getElem?_eq_some_iff.mp h).1
  have e : ns = ns.take i ++ k :: ns.drop (i + 1) := by
    have : ns[i] = k := (List.getElem?_eq_some_iff.mp h).2
    rw [← this, List.getElem_cons_drop, List.take_append_drop]
  have nd2 := nd
  rw [e] at nd2
  obtain ⟨_, n2, n3⟩ := List.nodup_append.mp nd2
  have k1 : k ∉ ns.take i := fun z => n3 k z k (List.mem_cons_self ..) rfl
  have k2 : k ∉ ns.drop (i + 1) := (List.nodup_cons.mp n2).1
  unfold offI
  conv => rhs; rw [e]
  rw [List.filter_append, List.filter_cons_of_neg (by simp)]
  congr 1
  · exact (List.filter_eq_self.mpr fun x hx => by
      have : x ≠ k := fun z => k1 (z ▸ hx)
      simp [this]).symm
  · exact (List.filter_eq_self.mpr fun x hx => by
      have : x ≠ k := fun z => k2 (z ▸ hx)
      simp [this]).symm
theorem near_may {rs : List Row} {ns : List Int} (h : ChOk rs ns) {k : Int} (hk : k ∈ ns) : nearP rs ns k = mayL rs ns k := by
  unfold nearP mayL
  congr 1
  obtain ⟨j, hj, e⟩ := List.mem_map.mp (h.br k hk)
  have e : (j : Int) = k := e
  subst e
  by_cases ho : j ∈ outs rs
  · have n : ¬ (j : Int) ∈ zs (inn rs) := fun z => by
      obtain ⟨i, hi, ei⟩ := mem_zs.mp z
      have : i = j := by omega
      rw [this] at hi
      exact inn_not_outs hi ho
    rw [decide_eq_false n, decide_eq_true (mem_zs.mpr ⟨j, ho, rfl⟩)]
    rfl
  · have n : ¬ (j : Int) ∈ zs (outs rs) := fun z => by
      obtain ⟨i, hi, ei⟩ := mem_zs.mp z
      have : i = j := by omega
      rw [this] at hi
      exact ho hi
    have y : j ∈ inn rs := by
      rw [← brs_inn]
      refine List.mem_filter.mpr ⟨hj, ?_⟩
      cases z : (aim rs j).isSome with
      | true => rfl
      | false =>
        refine absurd (List.mem_filter.mpr ⟨hj, ?_⟩) ho
        cases z2 : aim rs j with
        | none => rfl
        | some i => rw [z2] at z; cases z
    rw [decide_eq_false n, decide_eq_true (mem_zs.mpr ⟨j, y, rfl⟩)]
    rfl
/-- the first that may be near -/
theorem near_head {rs : List Row} {ns : List Int} (h : ChOk rs ns) {i : Nat} {k : Int} (hk : ns[i]? = some k) (no : (ns.take i).any (mayL rs ns) = false) (yes : mayL rs ns k = true) : ∃ ks, near rs ns = k :: ks := by
  have hi : i < ns.length := (List.getElem?_eq_some_iff.mp hk).1
  have e : ns = ns.take i ++ k :: ns.drop (i + 1) := by
    have : ns[i] = k := (List.getElem?_eq_some_iff.mp hk).2
    rw [← this, List.getElem_cons_drop, List.take_append_drop]
  have e1 : near rs ns = ns.filter (nearP rs ns) := rfl
  have e2 : (ns.take i).filter (nearP rs ns) = [] := List.filter_eq_nil_iff.mpr fun x hx z => by
    rw [near_may h (List.mem_of_mem_take hx)] at z
    rw [List.any_eq_false] at no
    exact no x hx z
  have e3 : nearP rs ns k = true := by rw [near_may h (List.mem_of_getElem? hk)]; exact yes
  refine ⟨(ns.drop (i + 1)).filter (nearP rs ns), ?_⟩
  rw [e1]
  conv => lhs; rw [e]
  rw [List.filter_append]
  have e4 : nearP rs ns = nearP rs ns := rfl
  rw [← e, e2, List.nil_append, List.filter_cons_of_pos e3]
theorem near_none {rs : List Row} {ns : List Int} (h : ChOk rs ns) (no : ns.any (mayL rs ns) = false) : near rs ns = [] := List.filter_eq_nil_iff.mpr fun x hx z => by
  have z : nearP rs ns x = true := z
  rw [near_may h hx] at z
  rw [List.any_eq_false] at no
  exact no x hx z
section
variable {P : Program} {w : World} {K : PySem.W.Frag} {mg : Str → Option Value} {base : Heap}
theorem ok_lsh {f : Addr} {fd : FuncData} (F : Fun K "_law_shrunk" "_law_shrunk" sLSh f fd) (T : Bi mg) (G1 : Has P w K mg base CX0 4 "_law_branches" ["rows"] (spLBr K)) (G : Has P w K mg base CX0 4 "_law_long" ["rows", "far"] (spLLo K)) : FnOk P w K mg base CX0 5 f fd ["rows", "outs"] (spLSh K) := by
  refine F.ok scLSh (fun vs H Q E h => ?_) (fun cdv A outer s H vs Q E hr h => ?_)
  · obtain ⟨L, o, xs, rs, rfl, _⟩ := h
    rfl
  · obtain ⟨L, o, xs, rs, rfl, hR, okr, l4, ho, q⟩ := h
    have hu64 := hr.units
    refine ⟨_, (pss_cons (ps_par (i := 2) (j := 3) rfl scLSh.nd rfl rfl (by decide) rfl rfl (pa_cons (pe_callH G1 hr (by rfl) pass0 (pa_cons (pv 0) pa_nil)) (pa_cons pe_int pa_nil)) (by rfl))
      (pss_cons (ps_while PassesOwn.never (pt_cmpR op_lt (pv 3) (pe_callB call_len_seq (by rfl) T.len (by decide +kernel) (pa_cons (pv 2) pa_nil)) (nomark _))
        (pss_cons (ps_set (i := 4) scLSh.nd rfl (.inl rfl) (pe_op op_cat (pe_slice sl_list (pv 2) po_none (po_some (pv 3))) (pe_slice sl_list (pv 2) (po_some (pe_op op_add (pv 3) pe_int)) po_none)))
        (pss_one (ps_if (PW.pt (pw_and (pt_cmpR op_notIn_seq (pe_ix ix_list (pv 2) (pv 3) (fun _ _ => rfl)) (pv 1) (by rfl)) (pw_and1 (pt_cmpR (op_eqD hu64) (pe_callH G hr (by rfl) pass0 (pa_cons (pv 0) (pa_cons (pv 4) pa_nil))) (pe_lst pa_nil) (nomark _)))))
          (pss_one (ps_par (i := 2) (j := 3) rfl scLSh.nd rfl rfl (by decide) rfl rfl (pa_cons (pv 4) (pa_cons pe_int pa_nil)) (by rfl)))
          (pss_one (ps_set (i := 3) scLSh.nd rfl (.inl rfl) (pe_op op_add (pv 3) pe_int)))))))
      (pss_one (ps_ret (pe_callTy cr_tupOf (by rfl) T.tuple (by decide +kernel) (pa_cons (pv 2) pa_nil)))))), ?_⟩
    refine ⟨_, rfl, L, xs, rs, rfl, hR, fun H1 B s1 _ hB => ⟨_, _, rfl, ?_⟩⟩
    have eB : nats (brs rs) = (zs (brs rs)).map V.int := nats_zs _
    refine ⟨fun m σ H4 => ∃ (a : Addr) (i : Nat) (u4 : Option V) (ns : List Int) (fl : Nat), σ = [some (.ref L), some (.ref o), some (.ref a), some (.int (i : Int)), u4] ∧ Same H H4 ∧ H4 a = some (.lst (ns.map V.int)) ∧ ChOk rs ns ∧ ns.length ≤ fl ∧ shr rs = shrN rs fl ns ∧ i ≤ ns.length ∧ (ns.take i).any (mayL rs ns) = false ∧ m = ns.length * 1000 + (ns.length - i),
      ⟨_, B, 0, none, zs (brs rs), _, rfl, s1, (by rw [hB, eB]), ch_brs (by omega), (by rw [zs_len]; exact Nat.le_refl _), rfl, Nat.zero_le _, rfl, rfl⟩, ?_⟩
    rintro m σ H4 ⟨a, i, u4, ns, fl, rfl, s4, ha, ch, lf, es, il, no, rfl⟩
    have l9 := ch.len
    refine ⟨_, rfl, _, rfl, a, _, rfl, .inl (SqL.of ha), _, _, rfl, rfl, _, rfl, ?_⟩
    rw [List.length_map]
    by_cases c : i < ns.length
    · rw [decide_eq_true (by omega : (i : Int) < (ns.length : Nat))]
      refine iteT ⟨fun σ' H' => ∃ m', m' < ns.length * 1000 + (ns.length - i) ∧ ∃ (a : Addr) (i : Nat) (u4 : Option V) (ns : List Int) (fl : Nat), σ' = [some (.ref L), some (.ref o), some (.ref a), some (.int (i : Int)), u4] ∧ Same H H' ∧ H' a = some (.lst (ns.map V.int)) ∧ ChOk rs ns ∧ ns.length ≤ fl ∧ shr rs = shrN rs fl ns ∧ i ≤ ns.length ∧ (ns.take i).any (mayL rs ns) = false ∧ m' = ns.length * 1000 + (ns.length - i), fun σ' H' h => h, ?_⟩
      have hk : ns[i]? = some ns[i] := List.getElem?_eq_getElem c
      generalize ns[i] = k at hk
      have nd : ns.Nodup := ch.asc.imp fun h => by omega
      have tk : (ns.take (i + 1)).any (mayL rs ns) = mayL rs ns k := by
        rw [List.take_add_one, hk, List.any_append, no]
        simp
      refine ⟨_, rfl, _, rfl, (i : Int), rfl, a, _, rfl, SqL.of ha, fun p1 hp1 => ?_⟩
      have q1 := same_new (o := .lst (cutV (ns.map V.int) none (some (i : Int)))) hp1
      have hp1' : upd H4 p1 (.lst (cutV (ns.map V.int) none (some (i : Int)))) p1 = some (.lst ((ns.take i).map V.int)) := by
        rw [upd_same, cut_to (by rw [List.length_map]; exact il), List.map_take]
      generalize upd H4 p1 (.lst (cutV (ns.map V.int) none (some (i : Int)))) = H5 at q1 hp1' ⊢
      refine ⟨_, rfl, _, rfl, _, _, rfl, rfl, ((i : Int) + 1), rfl, a, _, rfl, SqL.of (q1 _ _ ha), fun p2 hp2 => ?_⟩
      have q2 := same_new (o := .lst (cutV (ns.map V.int) (some ((i : Int) + 1)) none)) hp2
      have hp2' : upd H5 p2 (.lst (cutV (ns.map V.int) (some ((i : Int) + 1)) none)) p2 = some (.lst ((ns.drop (i + 1)).map V.int)) := by
        have := cut_from (xs := ns.map V.int) (r := i + 1) (by rw [List.length_map]; exact c)
        rw [upd_same]
        show some (HO.lst (cutV (ns.map V.int) (some (((i + 1 : Nat) : Int))) none)) = _
        rw [this, List.map_drop]
      generalize upd H5 p2 (.lst (cutV (ns.map V.int) (some ((i : Int) + 1)) none)) = H6 at q2 hp2' ⊢
      refine ⟨p1, p2, _, _, rfl, rfl, q2 _ _ hp1', hp2', ?_, fun p3 hp3 => ?_⟩
      · rw [List.length_map, List.length_map, List.length_take, List.length_drop]
        exact Nat.le_trans (by omega : _ ≤ 1000) (by decide)
      have q3 := same_new (o := .lst ((ns.take i).map V.int ++ (ns.drop (i + 1)).map V.int)) hp3
      have hp3' : upd H6 p3 (.lst ((ns.take i).map V.int ++ (ns.drop (i + 1)).map V.int)) p3 = some (.lst ((offI k ns).map V.int)) := by
        rw [upd_same, ← List.map_append, offI_at nd hk]
      generalize upd H6 p3 (.lst ((ns.take i).map V.int ++ (ns.drop (i + 1)).map V.int)) = H7 at q3 hp3' ⊢
      have s47 := (q1.trans q2).trans q3
      have s07 := s4.trans s47
      have ho7 := s07 _ _ ho
      rw [nats_zs] at ho7
      have ha7 := s47 _ _ ha
      refine ⟨_, rfl, _, rfl, a, _, _, _, rfl, rfl, SqL.of ha7, at_of (i := i) (by rw [List.getElem?_map, hk]; rfl), _, rfl, o, _, rfl, .inl (SqL.of ho7), rfl, flat_ints _, _, rfl, ?_⟩
      show if (!inV (.int k) ((zs (outs rs)).map V.int)) = true then _ else _
      rw [inV_ints]
      have stay : ∀ {H8 : Hp}, Same H7 H8 → mayL rs ns k = false → ∃ m', m' < ns.length * 1000 + (ns.length - i) ∧ ∃ (a' : Addr) (i' : Nat) (u4 : Option V) (ns' : List Int) (fl : Nat), ([some (.ref L), some (.ref o), some (.ref a), some (.int ((i : Int) + 1)), some (.ref p3)] : L2.St) = [some (.ref L), some (.ref o), some (.ref a'), some (.int (i' : Int)), u4] ∧ Same H H8 ∧ H8 a' = some (.lst (ns'.map V.int)) ∧ ChOk rs ns' ∧ ns'.length ≤ fl ∧ shr rs = shrN rs fl ns' ∧ i' ≤ ns'.length ∧ (ns'.take i').any (mayL rs ns') = false ∧ m' = ns'.length * 1000 + (ns'.length - i') := by
        intro H8 s8 z
        exact ⟨ns.length * 1000 + (ns.length - (i + 1)), by omega, a, i + 1, _, ns, fl, rfl, s07.trans s8, s8 _ _ ha7, ch, lf, es, c, by rw [tk, z], rfl⟩
      cases c1 : decide (k ∈ zs (outs rs)) with
      | true => exact iteF (iteF ⟨_, rfl, _, _, rfl, rfl, stay (Same.refl _) (by unfold mayL; rw [c1]; rfl)⟩)
      | false =>
        refine iteT ⟨_, rfl, _, rfl, L, p3, xs, rs, offI k ns, rfl, hR.same s07, okr, .inl (SqL.of hp3'), fun H8 p6 s6 _ hp6 => ⟨Nat.zero_le _, fun p7 hp7 => ?_⟩⟩
        have s7 := same_new (o := .lst []) hp7
        have hp67 := s7 _ _ hp6
        refine ⟨.list ((zs (long (mem (offI k ns)) rs)).map .int), .list (([] : List Int).map .int), dp_ints (SqL.of (by rw [hp67, nats_zs])), .lst (SqL.of upd_same) .nil, ints_shaped _, ints_shaped [], _, rfl, ?_⟩
        rw [eqv_ints]
        have em : mayL rs ns k = decide (zs (long (mem (offI k ns)) rs) = []) := by
          unfold mayL
          rw [c1]
          show decide _ = decide _
          congr 1
          exact propext ⟨fun z => by rw [z]; rfl, fun z => List.map_eq_nil_iff.mp z⟩
        rw [← em]
        have s78 := s6.trans s7
        cases ct : mayL rs ns k with
        | false => exact iteF ⟨_, rfl, _, _, rfl, rfl, stay s78 ct⟩
        | true =>
          obtain ⟨ks, en⟩ := near_head ch hk no ct
          obtain ⟨kn, ki⟩ := near_mem (by rw [en]; exact List.mem_cons_self : k ∈ near rs ns)
          have lo := offI_len kn
          refine iteT ⟨_, rfl, _, _, rfl, (offI k ns).length * 1000 + ((offI k ns).length - 0), by omega, p3, 0, _, offI k ns, fl - 1, rfl, s07.trans s78, s78 _ _ hp3', ch_off ch ki, by omega, ?_, Nat.zero_le _, rfl, rfl⟩
          rw [es]
          cases fl with
          | zero => omega
          | succ fl =>
            show (match near rs ns with | [] => ns | k :: _ => shrN rs fl (offI k ns)) = _
            rw [en]
            rfl
    · rw [decide_eq_false (by omega : ¬ (i : Int) < (ns.length : Nat))]
      have ei : i = ns.length := by omega
      rw [ei, List.take_length] at no
      have en := near_none ch no
      have eq : shr rs = ns := by
        rw [es]
        cases fl with
        | zero => rfl
        | succ fl =>
          show (match near rs ns with | [] => ns | k :: _ => shrN rs fl (offI k ns)) = ns
          rw [en]
      refine iteF ⟨_, rfl, a, _, rfl, .inl ⟨SqL.of ha, fun t ht => q _ t (s4.trans (same_new ht)) ?_⟩⟩
      rw [upd_same, eq]
end

/-! ### _law_is_least_of_all -/
abbrev sLLe : Stmt := topS 55
abbrev NLe : List Str := ["rows", "grown", "fits", "one", "other", "far", "k"]
theorem scLLe : FnScope NLe ["rows", "grown", "fits"] (defScope sLLe) := ⟨rfl, rfl, rfl, by decide +kernel, rfl, by decide +kernel, by decide +kernel⟩
def meetI (a b : List Int) : List Int := a.filter fun k => decide (k ∈ b)
def spLLe (K : PySem.W.Frag) : Sp := fun vs H Q _ => ∃ (L g l : Addr) (xs ws : List V) (rs : List Row) (gs : List Int) (cs : List (List Int)), vs = [.ref L, .ref g, .ref l] ∧ LRows K H L xs rs ∧ (∀ r ∈ rs, RowOk r) ∧ SqT K H g (gs.map V.int) ∧ gs.length ≤ 900 ∧ H l = some (.lst ws) ∧ PySem.W.EachIs (TupI K H) ws cs ∧ cs.length ≤ 2000 ∧ (∀ c ∈ cs, c.length ≤ 900) ∧
  (∀ c ∈ cs, ∀ k ∈ gs, k ∈ c) ∧ (∀ c ∈ cs, ∀ d ∈ cs, long (mem (meetI c d)) rs = []) ∧ ∀ H', Same H H' → Q (.bl true) H'
theorem cut_mem {ws : List V} {lo hi : Option Int} {i : Nat} {y : V} (h : (cutV ws lo hi)[i]? = some y) : y ∈ ws := List.mem_of_mem_drop (List.mem_of_mem_take (List.mem_of_getElem? h))
theorem each_mem {K : PySem.W.Frag} {H : Hp} {ws : List V} {cs : List (List Int)} (e : PySem.W.EachIs (TupI K H) ws cs) {y : V} (h : y ∈ ws) : ∃ c ∈ cs, TupI K H y c := by
  obtain ⟨i, hi⟩ := List.getElem?_of_mem h
  obtain ⟨c, hc, t⟩ := eachs_get e hi
  exact ⟨c, List.mem_of_getElem? hc, t⟩
abbrev tHas (K : PySem.W.Frag) : TE := tCall (spLHa K) [] E00 (tCons (tVar 5) (tCons (tVar 1) tNil))
section
variable {P : Program} {w : World} {K : PySem.W.Frag} {mg : Str → Option Value} {base : Heap}
theorem ok_lle {f : Addr} {fd : FuncData} (F : Fun K "_law_is_least_of_all" "_law_is_least_of_all" sLLe f fd) (T : Bi mg) (G1 : Has P w K mg base CX0 4 "_law_has_all" ["far", "grown"] (spLHa K)) (G : Has P w K mg base CX0 4 "_law_long" ["rows", "far"] (spLLo K)) : FnOk P w K mg base CX0 5 f fd ["rows", "grown", "fits"] (spLLe K) := by
  refine F.ok scLLe (fun vs H Q E h => ?_) (fun cdv A outer s H vs Q E hr h => ?_)
  · obtain ⟨L, g, l, xs, ws, rs, gs, cs, rfl, _⟩ := h
    rfl
  · obtain ⟨L, g, l, xs, ws, rs, gs, cs, rfl, hR, okr, hg, g9, hl, ew, c9, cl, hall, hmeet, q⟩ := h
    have hu64 := hr.units
    refine ⟨_, (pss_cons (ps_if (pt_not (pt_val (pe_callB (cr_all rfl) (by rfl) T.all (by decide +kernel) (pa_cons (pe_lc (own := [("far", 5)]) (g := gName 5) (tt := tYes) (te := tHas K) rfl scLLe.nd (pi_list (pv 2)) (blkOk_by (N := NLe) (sc := defScope sLLe) (by decide +kernel)) (fun _ _ _ _ _ => pg_name (i := 5) scLLe.nd rfl (.inl rfl)) (fun _ _ _ _ _ => pts_nil) (fun _ _ _ _ _ => pe_callH G1 hr (by rfl) pass0 (pa_cons (pv 5) (pa_cons (pv 1) pa_nil)))) pa_nil)))) (pss_one (ps_ret pe_bl)) pss_nil)
      (pss_cons (ps_for PassesOwn.never rfl (pi_list (pe_slice sl_list (pv 2) po_none (po_some pe_int))) (pg_name (i := 3) scLLe.nd rfl (.inl rfl))
        (pss_one (ps_for PassesOwn.never rfl (pi_list (pe_slice sl_list (pv 2) (po_some (pe_un un_neg pe_int)) po_none)) (pg_name (i := 4) scLLe.nd rfl (.inr rfl))
          (pss_one (ps_if (pt_cmpR (op_neD hu64) (pe_callH G hr (by rfl) pass0 (pa_cons (pv 0) (pa_cons (pe_lc (own := [("k", 6)]) (g := gName 6) (tt := tTest (tOp (rIn K false) (tVar 6) (tVar 4))) (te := tVar 6) rfl scLLe.nd (pi_tup (pv 3)) (blkOk_by (N := NLe) (sc := defScope sLLe) (by decide +kernel)) (fun _ _ _ _ _ => pg_name (i := 6) scLLe.nd rfl (.inl rfl)) (fun _ _ _ _ _ => pts_one (pt_cmpR op_in_seq (pv 6) (pv 4) (by rfl))) (fun _ _ _ _ _ => pv 6)) pa_nil))) (pe_lst pa_nil) (nomark _)) (pss_one (ps_ret pe_bl)) pss_nil)))))
      (pss_one (ps_ret pe_bl)))), ?_⟩
    refine ⟨_, rfl, l, rfl, ⟨_, SqL.of hl⟩, fun D hD => ?_⟩
    have kD : ∀ {H2 : Hp}, (∀ b o, b ≠ D → H b = some o → H2 b = some o) → Same H H2 := fun kp b o e => kp b o (ne_of_none e hD) e
    refine lc_it walk_list (fun j H4 => (∀ b o, b ≠ D → H b = some o → H4 b = some o) ∧ H4 D = some (.lst ((List.replicate j true).map V.bl))) ⟨fun b o hb e => by rw [upd_ne hb]; exact e, upd_same⟩ (fun j H4 _ ⟨kp, _⟩ => sqL_same (kD kp) (SqL.of hl)) ?_ ?_
    · rintro j y H4 H4' hj ⟨kp, hD4⟩ ⟨rfl, hy⟩
      obtain ⟨c, hc, a, rfl, ha⟩ := eachs_get ew hy
      have s4 := kD kp
      have hm := List.mem_of_getElem? hc
      have jl : j < cs.length := (List.getElem?_eq_some_iff.mp hc).1
      refine ⟨rfl, yes_go (iteT ⟨_, rfl, _, rfl, a, g, c, gs, rfl, SqT.of (s4 _ _ ha), sqT_same s4 hg, g9, fun H5 s5 => ⟨_, s5 _ _ hD4, ?_, fun b o hb e => by rw [upd_ne hb]; exact s5 _ _ (kp b o hb e), ?_⟩⟩)⟩
      · rw [List.length_map, List.length_replicate]
        exact big_sz (by omega)
      · have e : (gs.all fun k => decide (k ∈ c)) = true := List.all_eq_true.mpr fun k hk => decide_eq_true (hall c hm k hk)
        rw [upd_same, e, List.replicate_succ']
        simp
    · rintro H4 ⟨kp, hD4⟩
      have s4 := kD kp
      refine ⟨D, _, rfl, SqL.of hD4, _, rfl, ?_⟩
      have er : ∀ n : Nat, (List.replicate n true).all id = true := fun n => by simp
      rw [er]
      refine iteF ?_
      refine ⟨_, rfl, _, rfl, l, _, rfl, SqL.of (s4 _ _ hl), fun p1 hp1 => ?_⟩
      have sp1 := s4.trans (same_new (o := .lst (cutV ws none (some 12))) hp1)
      have hp1' : upd H4 p1 (.lst (cutV ws none (some 12))) p1 = some (.lst (cutV ws none (some 12))) := upd_same
      generalize upd H4 p1 (.lst (cutV ws none (some 12))) = H5 at sp1 hp1' ⊢
      refine ⟨p1, rfl, ⟨_, SqL.of hp1'⟩, ?_⟩
      refine for_it walk_list (fun i σ H6 => ∃ (u3 u4 : Option V), σ = [some (.ref L), some (.ref g), some (.ref l), u3, u4, none, none] ∧ Same H5 H6) ⟨none, none, rfl, Same.refl _⟩ (fun i σ H6 _ ⟨_, _, _, s6⟩ => sqL_same s6 (SqL.of hp1')) ?_ ?_
      · rintro i y σ H6 H6' hi ⟨u3, u4, rfl, s6⟩ ⟨rfl, hy⟩
        have s06 := sp1.trans s6
        obtain ⟨c, hc, a, rfl, ha⟩ := each_mem ew (cut_mem hy)
        refine ⟨_, rfl, _, rfl, _, rfl, l, _, rfl, SqL.of (s06 _ _ hl), fun p2 hp2 => ?_⟩
        have sp2 := same_new (o := .lst (cutV ws (some (-12)) none)) hp2
        have hp2' : upd H6' p2 (.lst (cutV ws (some (-12)) none)) p2 = some (.lst (cutV ws (some (-12)) none)) := upd_same
        have s67 := s6.trans sp2
        have s07 := s06.trans sp2
        refine ⟨p2, rfl, ⟨_, SqL.of hp2'⟩, ?_⟩
        generalize upd H6' p2 (.lst (cutV ws (some (-12)) none)) = H7 at sp2 hp2' s67 s07 ⊢
        refine for_it walk_list (fun i σ H8 => ∃ (u4 : Option V), σ = [some (.ref L), some (.ref g), some (.ref l), some (.ref a), u4, none, none] ∧ Same H7 H8) ⟨u4, rfl, Same.refl _⟩ (fun i σ H8 _ ⟨_, _, s8⟩ => sqL_same s8 (SqL.of hp2')) ?_ ?_
        · rintro i y σ H8 H8' hi ⟨u4, rfl, s8⟩ ⟨rfl, hy⟩
          have s08 := s07.trans s8
          obtain ⟨d, hd, b, rfl, hb⟩ := each_mem ew (cut_mem hy)
          have ha8 := s08 _ _ ha
          have hb8 := s08 _ _ hb
          have lc := cl c hc
          refine ⟨_, rfl, _, rfl, a, rfl, ⟨_, SqT.of ha8⟩, fun D2 hD2 => ?_⟩
          have kD2 : ∀ {H2 : Hp}, (∀ b o, b ≠ D2 → H8' b = some o → H2 b = some o) → Same H8' H2 := fun kp b o e => kp b o (ne_of_none e hD2) e
          refine lc_it walk_tup (fun j H9 => (∀ b o, b ≠ D2 → H8' b = some o → H9 b = some o) ∧ H9 D2 = some (.lst ((meetI (c.take j) d).map V.int))) ⟨fun b o hb e => by rw [upd_ne hb]; exact e, upd_same⟩ (fun j H9 _ ⟨kp, _⟩ => sqT_same (kD2 kp) (SqT.of ha8)) ?_ ?_
          · rintro j y H9 H9' hj ⟨kp9, hD9⟩ ⟨rfl, hy⟩
            rw [List.getElem?_map] at hy
            obtain ⟨k, hk, rfl⟩ := Option.map_eq_some_iff.mp hy
            have s9 := kD2 kp9
            have st := filt_step (fun x => decide (x ∈ d)) hk
            have fl := filt_len c j (fun x => decide (x ∈ d))
            refine ⟨rfl, _, rfl, _, rfl, b, _, rfl, .inr (SqT.of (s9 _ _ hb8)), rfl, flat_ints _, _, rfl, ?_⟩
            rw [inV_ints]
            cases cd : decide (k ∈ d) with
            | false =>
              rw [cd] at st
              refine iteF ⟨kp9, ?_⟩
              unfold meetI
              rw [st]
              show _ = some (HO.lst (((c.take j).filter _ ++ []).map _))
              rw [List.append_nil]
              exact hD9
            | true =>
              rw [cd] at st
              refine iteT ⟨_, rfl, _, hD9, ?_, fun b o hb e => by rw [upd_ne hb]; exact kp9 b o hb e, ?_⟩
              · rw [List.length_map]
                exact big_sz (Nat.le_trans fl (by omega))
              · rw [upd_same]
                unfold meetI
                rw [st, List.map_append]
                rfl
          · rintro H9 ⟨kp9, hD9⟩
            rw [List.length_map, List.take_length] at hD9
            have s89 := kD2 kp9
            refine ⟨L, D2, xs, rs, meetI c d, rfl, hR.same (s08.trans s89), okr, .inl (SqL.of hD9), fun Ha p6 s6a _ hp6 => ⟨Nat.zero_le _, fun p7 hp7 => ?_⟩⟩
            have s7 := same_new (o := .lst []) hp7
            rw [hmeet c hc d hd] at hp6
            have hp67 := s7 _ _ hp6
            refine ⟨.list (([] : List Int).map .int), .list (([] : List Int).map .int), dp_ints (SqL.of hp67), .lst (SqL.of upd_same) .nil, ints_shaped [], ints_shaped [], _, rfl, ?_⟩
            rw [eqv_ints]
            exact iteF ⟨_, rfl, ((s8.trans s89).trans s6a).trans s7⟩
        · rintro σ H8 ⟨u4, rfl, s8⟩
          exact ⟨_, _, rfl, s67.trans s8⟩
      · rintro σ H6 ⟨u3, u4, rfl, s6⟩
        exact q H6 (sp1.trans s6)
end

/-! ### the law's mathematics: what is grown, what is least, what is tight -/
theorem inn_iff {rs : List Row} {k : Nat} : k ∈ inn rs ↔ (aim rs k).isSome = true := by
  unfold inn innTo
  rw [List.mem_filter, List.mem_range]
  refine ⟨fun h => h.2, fun h => ⟨?_, h⟩⟩
  obtain ⟨j, hj⟩ := Option.isSome_iff_exists.mp h
  exact (aim_lt hj).2
theorem off_sc (f : Int → Bool) {rs : List Row} {i : Nat} {r : Row} (h : rs[i]? = some r) : off f rs (i + 1) = off f rs i + rsize r (off f rs i) (f (i : Nat)) := by
  show off f rs i + (match rs[i]? with | some r => rsize r (off f rs i) (f (i : Nat)) | none => 0) = _
  rw [h]
theorem off_nn (f : Int → Bool) {rs : List Row} {i : Nat} (h : rs[i]? = none) : off f rs (i + 1) = off f rs i := by
  show off f rs i + (match rs[i]? with | some r => rsize r (off f rs i) (f (i : Nat)) | none => 0) = _
  rw [h]
  exact Int.add_zero _
theorem noEven_at {rs : List Row} (h : noEven rs) {i : Nat} {r : Row} (e : rs[i]? = some r) : ∀ n, r ≠ .even n := by
  rintro n rfl
  have := h i
  rw [isEv_at e] at this
  cases this
theorem off_step {f F : Int → Bool} {rs : List Row} (ne : noEven rs) (hF : ∀ k, f k = true → F k = true) (i : Nat) : 0 ≤ off f rs (i + 1) - off f rs i ∧ off f rs (i + 1) - off f rs i ≤ off F rs (i + 1) - off F rs i := by
  cases e : rs[i]? with
  | none => rw [off_nn f e, off_nn F e]; omega
  | some r =>
    rw [off_sc f e, off_sc F e]
    have hne := noEven_at ne e
    cases r with
    | even n => exact absurd rfl (hne n)
    | words n => simp only [rsize]; omega
    | label s => simp only [rsize]; omega
    | branch c n m =>
      simp only [rsize]
      cases e1 : f (i : Nat) with
      | true => rw [hF _ e1]; simp only [if_true]; omega
      | false =>
        have l : (if false = true then (2 : Int) else 1) = 1 := rfl
        rw [l]
        split <;> omega
theorem off_le {f F : Int → Bool} {rs : List Row} (ne : noEven rs) (hF : ∀ k, f k = true → F k = true) (i : Nat) : ∀ d, 0 ≤ off f rs (i + d) - off f rs i ∧ off f rs (i + d) - off f rs i ≤ off F rs (i + d) - off F rs i
  | 0 => by rw [Nat.add_zero]; omega
  | d + 1 => by
    have h1 := off_le ne hF i d
    have h2 := off_step ne hF (i + d)
    rw [show i + (d + 1) = i + d + 1 by omega]
    omega
theorem way_mono {f F : Int → Bool} {rs : List Row} (ne : noEven rs) (hF : ∀ k, f k = true → F k = true) {k j : Nat} (hj : aim rs k = some j) : (k ≤ j → 0 ≤ way f rs k ∧ way f rs k ≤ way F rs k) ∧ (j ≤ k → way f rs k ≤ 0 ∧ way F rs k ≤ way f rs k) := by
  unfold way
  rw [hj]
  show (k ≤ j → 0 ≤ off f rs j - off f rs k ∧ off f rs j - off f rs k ≤ off F rs j - off F rs k) ∧ (j ≤ k → off f rs j - off f rs k ≤ 0 ∧ off F rs j - off F rs k ≤ off f rs j - off f rs k)
  refine ⟨fun h => ?_, fun h => ?_⟩
  · obtain ⟨d, rfl⟩ := Nat.exists_eq_add_of_le h
    exact off_le ne hF k d
  · obtain ⟨d, rfl⟩ := Nat.exists_eq_add_of_le h
    have := off_le ne hF j d
    omega
theorem tooL_iff {w : Int} : tooL w = true ↔ w < -256 ∨ 255 < w := by
  unfold tooL
  rw [Bool.or_eq_true, decide_eq_true_iff, decide_eq_true_iff]
def closed (f : Int → Bool) (rs : List Row) : Prop := ∀ k ∈ inn rs, f (k : Nat) = false → tooL (way f rs k) = false
theorem closed_long {f : Int → Bool} {rs : List Row} : closed f rs ↔ long f rs = [] := by
  unfold closed long
  rw [List.filter_eq_nil_iff]
  refine forall_congr' fun k => forall_congr' fun _ => ?_
  unfold isLong
  cases f (k : Nat) <;> cases tooL (way f rs k) <;> simp
structure GrownM (rs : List Row) (g : List Int) : Prop where
  outs : ∀ k ∈ outs rs, (k : Int) ∈ g
  closed : closed (mem g) rs
  sub : ∀ y ∈ g, ∃ k : Nat, y = (k : Int) ∧ k ∈ brs rs
  sorted : g.Pairwise (· < ·)
theorem inn_br {rs : List Row} {k : Nat} (h : k ∈ inn rs) : k ∈ brs rs := by
  rw [← brs_inn] at h
  exact (List.mem_filter.mp h).1
theorem grown_nodup {rs : List Row} (n : Nat) : (zs (outs rs ++ fars rs n)).Nodup := by
  unfold zs
  unfold List.Nodup
  rw [List.pairwise_map]
  refine List.Pairwise.imp (R := (· ≠ ·)) (fun h z => h (Int.ofNat.inj z)) ?_
  refine List.nodup_append.mpr ⟨?_, fars_nodup rs n, fun x hx y hy e => inn_not_outs (fars_inn rs n y hy) (e ▸ hx)⟩
  unfold outs
  exact List.Nodup.sublist (List.filter_sublist ..) (brs_nodup rs)
theorem grown_m {rs : List Row} {g : List Int} (h : Grown rs g) : GrownM rs g := by
  obtain ⟨n, pm, srt, lg⟩ := h
  have em : mem g = fN (outs rs ++ fars rs n) := mem_perm pm
  refine ⟨fun k hk => ?_, ?_, fun y hy => ?_, ?_⟩
  · exact pm.mem_iff.mpr (mem_zs.mpr ⟨k, List.mem_append_left _ hk, rfl⟩)
  · rw [em]
    exact closed_long.mpr lg
  · obtain ⟨k, hk, e⟩ := mem_zs.mp (pm.mem_iff.mp hy)
    refine ⟨k, e.symm, ?_⟩
    rcases List.mem_append.mp hk with z | z
    · exact (List.mem_filter.mp z).1
    · exact inn_br (fars_inn rs n k z)
  · have nd : g.Nodup := pm.nodup_iff.mpr (grown_nodup n)
    exact (List.Pairwise.and srt nd).imp fun ⟨h1, h2⟩ => by omega
theorem grown_least {rs : List Row} (ne : noEven rs) {g : List Int} (h : Grown rs g) {F : Int → Bool} (hO : ∀ k ∈ outs rs, F (k : Nat) = true) (hC : closed F rs) : ∀ k : Nat, (k : Int) ∈ g → F (k : Nat) = true := by
  obtain ⟨n, pm, _, _⟩ := h
  have key : ∀ n, ∀ k ∈ fars rs n, F (k : Nat) = true := by
    intro n
    induction n with
    | zero => intro k hk; cases hk
    | succ n ih =>
      intro k hk
      rcases List.mem_append.mp hk with z | z
      · exact ih k z
      · obtain ⟨h1, h2, h3⟩ := long_sub z
        cases e : F (k : Nat) with
        | true => rfl
        | false =>
          have hc := hC k h1 e
          obtain ⟨j, hj⟩ := Option.isSome_iff_exists.mp (inn_iff.mp h1)
          have hF : ∀ y, fN (outs rs ++ fars rs n) y = true → F y = true := by
            intro y hy
            have hy2 : y ∈ zs (outs rs ++ fars rs n) := of_decide_eq_true hy
            obtain ⟨i, hi, rfl⟩ := mem_zs.mp hy2
            rcases List.mem_append.mp hi with z | z
            · exact hO i z
            · exact ih i z
          have wm := way_mono ne hF hj
          rw [tooL_iff] at h3
          have hc2 : ¬ (way F rs k < -256 ∨ 255 < way F rs k) := fun z => by
            rw [tooL_iff.mpr z] at hc
            cases hc
          rcases Nat.le_total k j with c | c
          · have := wm.1 c; omega
          · have := wm.2 c; omega
  intro k hk
  obtain ⟨i, hi, e⟩ := mem_zs.mp (pm.mem_iff.mp hk)
  obtain rfl : i = k := by omega
  rcases List.mem_append.mp hi with z | z
  · exact hO i z
  · exact key n i z
theorem up_mono {a b n : Int} (hn : 0 < n) (h : a ≤ b) : a + (-a) % n ≤ b + (-b) % n := by
  have e1 := Int.emod_add_mul_ediv (-a) n
  have e2 := Int.emod_add_mul_ediv (-b) n
  have d : (-b) / n ≤ (-a) / n := Int.ediv_le_ediv hn (by omega)
  have m : n * ((-b) / n) ≤ n * ((-a) / n) := Int.mul_le_mul_of_nonneg_left d (by omega)
  omega
theorem off_mono {f F : Int → Bool} {rs : List Row} (okr : ∀ r ∈ rs, RowOk r) (hF : ∀ k, f k = true → F k = true) : ∀ i, off f rs i ≤ off F rs i
  | 0 => Int.le_refl _
  | i + 1 => by
    have ih := off_mono okr hF i
    cases e : rs[i]? with
    | none => rw [off_nn f e, off_nn F e]; exact ih
    | some r =>
      rw [off_sc f e, off_sc F e]
      have ok := okr r (List.mem_of_getElem? e)
      cases r with
      | even n =>
        have ok : 0 < n := ok
        exact up_mono ok ih
      | words n => simp only [rsize]; omega
      | label s => simp only [rsize]; omega
      | branch c n m =>
        simp only [rsize]
        cases e1 : f (i : Nat) with
        | true => rw [hF _ e1]; simp only [if_true]; omega
        | false =>
          have l : (if false = true then (2 : Int) else 1) = 1 := rfl
          rw [l]
          split <;> omega
theorem endF_mono {rs : List Row} (okr : ∀ r ∈ rs, RowOk r) {a b : List Int} (h : ∀ k ∈ a, k ∈ b) : endF rs a ≤ endF rs b := off_mono okr (fun k hk => decide_eq_true (h k (of_decide_eq_true hk))) _
theorem near_sub {f F : Int → Bool} {rs : List Row} (ne : noEven rs) (hF : ∀ k, f k = true → F k = true) {k : Nat} (hk : k ∈ inn rs) (h : tooL (way F rs k) = false) : tooL (way f rs k) = false := by
  obtain ⟨j, hj⟩ := Option.isSome_iff_exists.mp (inn_iff.mp hk)
  have wm := way_mono ne hF hj
  have h2 : ¬ (way F rs k < -256 ∨ 255 < way F rs k) := fun z => by
    rw [tooL_iff.mpr z] at h
    cases h
  cases e : tooL (way f rs k) with
  | false => rfl
  | true =>
    have h3 := tooL_iff.mp e
    rcases Nat.le_total k j with c | c
    · have := wm.1 c; omega
    · have := wm.2 c; omega
theorem meet_fits {rs : List Row} (ne : noEven rs) {c d : List Int} (hc : long (mem c) rs = []) (hd : long (mem d) rs = []) : long (mem (meetI c d)) rs = [] := by
  have hc := closed_long.mpr hc
  have hd := closed_long.mpr hd
  refine closed_long.mp fun k hk hm => ?_
  by_cases k1 : (k : Int) ∈ c
  · by_cases k2 : (k : Int) ∈ d
    · have : (k : Int) ∈ meetI c d := List.mem_filter.mpr ⟨k1, decide_eq_true k2⟩
      rw [show mem (meetI c d) (k : Int) = true from decide_eq_true this] at hm
      cases hm
    · refine near_sub ne (F := mem d) (fun x hx => ?_) hk (hd k hk (decide_eq_false k2))
      have hx : x ∈ meetI c d := of_decide_eq_true hx
      exact decide_eq_true (of_decide_eq_true (List.mem_filter.mp hx).2)
  · refine near_sub ne (F := mem c) (fun x hx => ?_) hk (hc k hk (decide_eq_false k1))
    have hx : x ∈ meetI c d := of_decide_eq_true hx
    exact decide_eq_true (List.mem_filter.mp hx).1
theorem all_fit (rs : List Row) : long (mem (zs (brs rs))) rs = [] := closed_long.mp fun k hk hm => by
  rw [show mem (zs (brs rs)) (k : Int) = true from decide_eq_true (mem_zs.mpr ⟨k, inn_br hk, rfl⟩)] at hm
  cases hm
theorem allF_ne {rs : List Row} (l : rs.length ≤ 900) : allF rs ≠ [] := fun z => by
  have : zs (brs rs) ∈ allF rs := (mem_allF l).mpr ⟨ch_brs l, all_fit rs⟩
  rw [z] at this
  cases this
theorem grown_all {rs : List Row} (ne : noEven rs) (l : rs.length ≤ 900) {g : List Int} (h : Grown rs g) {c : List Int} (hc : c ∈ allF rs) : ∀ k ∈ g, k ∈ c := by
  obtain ⟨ch, lg⟩ := (mem_allF l).mp hc
  intro y hy
  obtain ⟨k, rfl, _⟩ := (grown_m h).sub y hy
  exact of_decide_eq_true (grown_least ne h (F := mem c) (fun k hk => decide_eq_true (ch.out k hk)) (closed_long.mpr lg) k hy)
theorem grown_in {rs : List Row} (l : rs.length ≤ 400) {g : List Int} (h : Grown rs g) : g ∈ allF rs := (mem_allF (by omega)).mpr ⟨ch_grown h l, closed_long.mp (grown_m h).closed⟩
/-- places in the list of all that fit -/
theorem lt2_before {A : List (List Int)} (h : A.Pairwise lt2) {i j : Nat} {a b : List Int} (ha : A[i]? = some a) (hb : A[j]? = some b) (lt : lt2 a b) : i < j := by
  have hi : i < A.length := (List.getElem?_eq_some_iff.mp ha).1
  have hj : j < A.length := (List.getElem?_eq_some_iff.mp hb).1
  have ea : A[i] = a := (List.getElem?_eq_some_iff.mp ha).2
  have eb : A[j] = b := (List.getElem?_eq_some_iff.mp hb).2
  rcases Nat.lt_trichotomy i j with z | z | z
  · exact z
  · subst z
    rw [ea] at eb
    rw [eb] at lt
    exact absurd lt (lt2_irrefl _)
  · have := List.pairwise_iff_getElem.mp h j i hj hi z
    rw [ea, eb] at this
    exact absurd this (lt2_asymm lt)
theorem endK_at {rs : List Row} {i : Nat} {c : List Int} (h : (allF rs)[i]? = some c) : endK rs i = endF rs c := by
  unfold endK
  rw [List.getD_eq_getElem?_getD, h]
  rfl
/-- none that comes earlier ends as early -/
theorem least_min {rs : List Row} {i : Nat} {c : List Int} (best : LeastTo (endK rs) i ((allF rs).length - 1)) (hc : (allF rs)[i]? = some c) {d : List Int} (hd : d ∈ allF rs) : endF rs c ≤ endF rs d ∧ (lt2 d c → endF rs c < endF rs d) := by
  obtain ⟨j, hj⟩ := List.getElem?_of_mem hd
  have jl : j < (allF rs).length := (List.getElem?_eq_some_iff.mp hj).1
  have b := best j (by omega)
  rw [endK_at hc, endK_at hj] at b
  exact ⟨b.1, fun lt => b.2 (lt2_before (allF_lt rs) hj hc lt)⟩
theorem least_tight {rs : List Row} (okr : ∀ r ∈ rs, RowOk r) (l : rs.length ≤ 900) {i : Nat} {c : List Int} (best : LeastTo (endK rs) i ((allF rs).length - 1)) (hc : (allF rs)[i]? = some c) : lawTight rs c = true := by
  cases e : lawTight rs c with
  | true => rfl
  | false =>
    have ch := ((mem_allF l).mp (List.mem_of_getElem? hc)).1
    unfold lawTight at e
    have e : c.any (mayL rs c) = true := by
      cases z : c.any (mayL rs c) with
      | true => rfl
      | false => rw [z] at e; cases e
    obtain ⟨k, hk, m⟩ := List.any_eq_true.mp e
    have np := (near_may ch hk).trans m
    unfold nearP at np
    rw [Bool.and_eq_true] at np
    have ki := of_decide_eq_true np.1
    have hd : offI k c ∈ allF rs := (mem_allF l).mpr ⟨ch_off ch ki, of_decide_eq_true np.2⟩
    have lm := least_min best hc hd
    have lt := lm.2 (.inl (offI_len hk))
    have le := endF_mono okr (a := offI k c) (b := c) fun x hx => (List.mem_filter.mp hx).1
    omega
theorem sub_len {a b : List Int} (ha : a.Pairwise (· < ·)) (hb : b.Pairwise (· < ·)) (h : ∀ k ∈ a, k ∈ b) (ne : a ≠ b) : a.length < b.length := by
  have e : a = b.filter fun k => decide (k ∈ a) := asc_ext ha (List.Pairwise.sublist (List.filter_sublist ..) hb) fun y => by
    rw [List.mem_filter, decide_eq_true_iff]
    exact ⟨fun hy => ⟨h y hy, hy⟩, fun z => z.2⟩
  have le : a.length ≤ b.length := by
    rw [e]
    exact List.length_filter_le _ _
  rcases Nat.lt_or_eq_of_le le with z | z
  · exact z
  · refine absurd ?_ ne
    have sb : a.Sublist b := by
      rw [e]
      exact List.filter_sublist ..
    exact sb.eq_of_length z
theorem least_grown {rs : List Row} (ne : noEven rs) (okr : ∀ r ∈ rs, RowOk r) (l : rs.length ≤ 400) {g : List Int} (h : Grown rs g) {i : Nat} {c : List Int} (best : LeastTo (endK rs) i ((allF rs).length - 1)) (hc : (allF rs)[i]? = some c) : c = g := by
  by_cases z : g = c
  · exact z.symm
  · have hm := List.mem_of_getElem? hc
    have sub := grown_all ne (by omega) h hm
    have lm := least_min best hc (grown_in l h)
    have lt := lm.2 (.inl (sub_len (grown_m h).sorted ((mem_allF (by omega)).mp hm).1.asc sub z))
    have le := endF_mono okr sub
    omega
theorem shrN_end {rs : List Row} : ∀ (fl : Nat) (ns : List Int), ns.length ≤ fl → ChOk rs ns → long (mem ns) rs = [] → ChOk rs (shrN rs fl ns) ∧ long (mem (shrN rs fl ns)) rs = [] ∧ near rs (shrN rs fl ns) = []
  | 0, ns, hl, ch, lg => by
    have : ns = [] := List.length_eq_zero_iff.mp (by omega)
    subst this
    exact ⟨ch, lg, rfl⟩
  | fl + 1, ns, hl, ch, lg => by
    cases en : near rs ns with
    | nil =>
      have e : shrN rs (fl + 1) ns = ns := by
        show (match near rs ns with | [] => ns | k :: _ => shrN rs fl (offI k ns)) = ns
        rw [en]
      rw [e]
      exact ⟨ch, lg, en⟩
    | cons k ks =>
      have e : shrN rs (fl + 1) ns = shrN rs fl (offI k ns) := by
        show (match near rs ns with | [] => ns | k :: _ => shrN rs fl (offI k ns)) = _
        rw [en]
      have hm : k ∈ near rs ns := by rw [en]; exact List.mem_cons_self ..
      obtain ⟨kn, ki⟩ := near_mem hm
      have h2 := (List.mem_filter.mp hm).2
      rw [Bool.and_eq_true] at h2
      have lo := offI_len kn
      rw [e]
      exact shrN_end fl _ (by omega) (ch_off ch ki) (of_decide_eq_true h2.2)
theorem near_tight {rs : List Row} {ns : List Int} (ch : ChOk rs ns) (h : near rs ns = []) : lawTight rs ns = true := by
  unfold lawTight
  have : ns.any (mayL rs ns) = false := List.any_eq_false.mpr fun x hx z => by
    rw [← near_may ch hx] at z
    exact List.filter_eq_nil_iff.mp h x hx z
  rw [this]
  rfl
theorem tightB_law {rs : List Row} (l : rs.length ≤ 900) {c : List Int} (ch : ChOk rs c) : tightB rs c = lawTight rs c := by
  unfold tightB lawTight nears
  congr 1
  rw [List.map_map, List.any_map]
  rw [Bool.eq_iff_iff, List.any_eq_true, List.any_eq_true]
  constructor
  · rintro ⟨k, hk, h⟩
    obtain ⟨hk, hi⟩ := List.mem_filter.mp hk
    have h : offI k c ∈ allF rs := of_decide_eq_true h
    refine ⟨k, hk, ?_⟩
    rw [← near_may ch hk]
    unfold nearP
    rw [show decide (k ∈ zs (inn rs)) = true from hi, decide_eq_true ((mem_allF l).mp h).2]
    rfl
  · rintro ⟨k, hk, h⟩
    rw [← near_may ch hk] at h
    unfold nearP at h
    rw [Bool.and_eq_true] at h
    refine ⟨k, List.mem_filter.mpr ⟨hk, h.1⟩, ?_⟩
    exact decide_eq_true ((mem_allF l).mpr ⟨ch_off ch (of_decide_eq_true h.1), of_decide_eq_true h.2⟩)
theorem tightL_law {rs : List Row} (l : rs.length ≤ 900) : tightL rs = (allF rs).filter (lawTight rs) := List.filter_congr fun c hc => tightB_law l ((mem_allF l).mp hc).1
theorem shr_tight {rs : List Row} (l : rs.length ≤ 900) : shr rs ∈ tightL rs := by
  obtain ⟨h1, h2, h3⟩ := shrN_end (brs rs).length (zs (brs rs)) (by rw [zs_len]; exact Nat.le_refl _) (ch_brs l) (all_fit rs)
  rw [tightL_law l]
  exact List.mem_filter.mpr ⟨(mem_allF l).mpr ⟨h1, h2⟩, near_tight h1 h3⟩
theorem least_in {rs : List Row} (okr : ∀ r ∈ rs, RowOk r) (l : rs.length ≤ 900) {i : Nat} {c : List Int} (best : LeastTo (endK rs) i ((allF rs).length - 1)) (hc : (allF rs)[i]? = some c) : c ∈ tightL rs := by
  rw [tightL_law l]
  exact List.mem_filter.mpr ⟨List.mem_of_getElem? hc, least_tight okr l best hc⟩

/-! ### lists of choices as data -/
def datC (cs : List (List Int)) : PyData := .list (cs.map datI)
theorem tup_lay (c : List Int) : (datI c).canLay0 = true := by
  have := ints_lay c
  simpa [datI, PyData.canLay0] using this
theorem tups_lay : ∀ cs : List (List Int), PyData.canLayAll0 (cs.map datI) = true
  | [] => rfl
  | c :: cs => by
    rw [List.map_cons]
    simp only [PyData.canLayAll0, tup_lay c, tups_lay cs, Bool.and_self]
theorem tup_depth (c : List Int) : (datI c).depth ≤ 6 := by
  have h := ints_depth c
  simp only [datI, PyData.depth]
  omega
theorem tups_depth : ∀ cs : List (List Int), PyData.depthAll (cs.map datI) ≤ 6
  | [] => by simp [PyData.depthAll]
  | c :: cs => by
    have h := tups_depth cs
    have h2 := tup_depth c
    rw [List.map_cons]
    simp only [PyData.depthAll]
    omega
theorem tup_shaped (c : List Int) : SeqAt.shaped (datI c) = true := by
  unfold SeqAt.shaped
  have := tup_depth c
  rw [tup_lay c, Bool.true_and]
  exact decide_eq_true (by omega)
theorem tups_shaped (cs : List (List Int)) : SeqAt.shaped (datC cs) = true := by
  unfold SeqAt.shaped
  have h := tups_depth cs
  have e : (datC cs).canLay0 = true := by
    have := tups_lay cs
    simpa [datC, PyData.canLay0] using this
  rw [e, Bool.true_and]
  refine decide_eq_true ?_
  simp only [datC, PyData.depth]
  omega
theorem datC_refl (cs : List (List Int)) : PyData.eqv (datC cs) (datC cs) = true := SeqAt.eqv_refl _ (SeqAt.canLay_of_shaped (tups_shaped cs))
theorem datI_eqv (a b : List Int) : PyData.eqv (datI a) (datI b) = decide (a = b) := by
  rw [← eqv_ints]
  simp only [datI, PyData.eqv]
theorem any_datI (cs : List (List Int)) (c : List Int) : ((cs.map datI).any fun z => PyData.eqv z (datI c)) = decide (c ∈ cs) := by
  rw [List.any_map, Bool.eq_iff_iff, List.any_eq_true, decide_eq_true_iff]
  constructor
  · rintro ⟨d, hd, e⟩
    have e : PyData.eqv (datI d) (datI c) = true := e
    rw [datI_eqv, decide_eq_true_iff] at e
    rw [← e]
    exact hd
  · intro h
    refine ⟨c, h, ?_⟩
    show PyData.eqv (datI c) (datI c) = true
    rw [datI_eqv]
    exact decide_eq_true rfl
def LtI (K : PySem.W.Frag) (H : Hp) (p : Addr) (cs : List (List Int)) : Prop := ∃ ws, H p = some (.lst ws) ∧ PySem.W.EachIs (TupI K H) ws cs
theorem ltI_ext {K : PySem.W.Frag} {H H' : Hp} {p : Addr} {cs : List (List Int)} (e : LamX.ExtN H H') (h : LtI K H p cs) : LtI K H' p cs := by
  obtain ⟨ws, h1, h2⟩ := h
  exact ⟨ws, e _ _ h1 (by intro ps z; cases z), each_impD (fun _ _ _ ⟨a, e1, h1⟩ => ⟨a, e1, e _ _ h1 (by intro ps z; cases z)⟩) h2⟩
theorem ltI_same {K : PySem.W.Frag} {H H' : Hp} {p : Addr} {cs : List (List Int)} (e : Same H H') (h : LtI K H p cs) : LtI K H' p cs := ltI_ext (LamX.ExtN.of e) h
theorem dps_tups {K : PySem.W.Frag} {H : Hp} : ∀ {ws : List V} {cs : List (List Int)}, PySem.W.EachIs (TupI K H) ws cs → DpAll K H ws (cs.map datI)
  | _, _, .nil => .nil
  | _, _, .cons ⟨a, e, h⟩ t => by
    subst e
    exact .cons (.tup (SqT.of h) (dps_ints _)) (dps_tups t)
theorem dp_ltI {K : PySem.W.Frag} {H : Hp} {p : Addr} {cs : List (List Int)} (h : LtI K H p cs) : Dp K H (.ref p) (datC cs) := by
  obtain ⟨ws, h1, h2⟩ := h
  exact .lst (SqL.of h1) (dps_tups h2)
/-! ### the law -/
abbrev sLaw : Stmt := topS 56
abbrev NL : List Str := ["script", "turn", "many", "rows", "made", "outs", "choices", "fits", "totals", "grown", "due", "found", "least", "far"]
theorem scLaw : FnScope NL ["script"] (defScope sLaw) := ⟨rfl, rfl, rfl, by decide +kernel, rfl, by decide +kernel, by decide +kernel⟩
abbrev forB : List Stmt := match (defBody sLaw).getD 0 (.Pass ⟨0, 0, 0, 0⟩) with
  | .For _ _ b _ _ => b
  | _ => []
abbrev lb (i : Nat) : Stmt := forB.getD i (.Pass ⟨0, 0, 0, 0⟩)
structure TL (P : Program) (w : World) (K : PySem.W.Frag) (mg : Str → Option Value) (base : Heap) (C : Addr) (T' : List (Addr × Str)) : Prop where
  bi : Bi mg
  cell : Has P w K mg base CX0 8 "_law_cell" ["script", "k"] (spLCell K)
  draft : Has P w K mg base CX0 8 "_law_draft" ["cell", "most", "is_even"] (spLDraft K)
  outs : Has P w K mg base CX0 8 "_law_outs" ["rows"] (spLOu K)
  chs : Has P w K mg base CX0 8 "_law_choices" ["rows"] (spLCh K)
  long : Has P w K mg base CX0 8 "_law_long" ["rows", "far"] (spLLo K)
  tots : Has P w K mg base CX0 8 "_law_totals" ["rows", "choices"] (spLTo K)
  grown : Has P w K mg base CX0 8 "_law_grown" ["rows"] (spLGr K)
  tight : Has P w K mg base CX0 8 "_law_is_tight" ["rows", "outs", "far"] (spLTi K)
  shr : Has P w K mg base CX0 8 "_law_shrunk" ["rows", "outs"] (spLSh K)
  leo : Has P w K mg base CX0 8 "_law_is_least_of_all" ["rows", "grown", "fits"] (spLLe K)
  same : ∀ n, n ≤ 7 → Has P w K mg base CX0 8 "_law_same" ["found", "due"] (spSame K n)
  drc : DrC K C
  dr : mg "Draft" = some (.ref C)
  mkx : ∃ (f : Addr) (fd : FuncData), _root_.L2.Mk K C f ∧ Binds K fd ["self", "rows"] [] ∧ FnOk P w K mg base CX0 8 f fd ["self", "rows"] (spInit K C)
  mgr : HasM P w K mg base CX0 8 C "grown" ["self"] (spGrown K C)
  mal : HasM P w K mg base CX0 8 C "all_fits" ["self"] (spAll K C)
  mmy : HasM P w K mg base CX0 8 C "many_fits" ["self"] (spMany K C)
  mti : HasM P w K mg base CX0 8 C "tight" ["self"] (spTight K C)
  msh : HasM P w K mg base CX0 8 C "shrunk" ["self"] (spShr K C)
  mle : HasM P w K mg base CX0 8 C "least" ["self"] (spLeast K C T')
abbrev XL (P : Program) (w : World) (K : PySem.W.Frag) (mg : Str → Option Value) (base : Heap) (f c : Addr) (A : Around) (outer : List Env) (s : Shared) (H : Hp) (E : XK) : Cx := cxOf (L2.CX P w) P w K mg base NL "law" (defScope sLaw) f (.ref c) A outer s H E
theorem pe_makeH {X : Cx} {C : Addr} {k : Nat} {ps : List Str} {sp : Sp} {x : Str} {p pos : Pos} {e : Expr} {es : List Expr} {t : TA} (M : ∃ (f : Addr) (fd : FuncData), _root_.L2.Mk X.K C f ∧ Binds X.K fd ps [] ∧ FnOk X.prog X.w X.K X.mg X.base CX0 k f fd ps sp) (hr : Room (k + 1) X.A) (hg : Gl X x) (hm : X.mg x = some (.ref C)) (ha : PA X (e :: es) t)
    (hdb : (x == ("__debug__" : Str)) = false := by decide) (he : starEach (e :: es) X.env = (false, eval e X.env) :: starEach es X.env := by rfl) (hpl : (backTo pos (starEach es X.env)).any (·.1) = false := by rfl) : PE X (.Call (.Name x p) (e :: es) [] pos) (tMake C sp [] E0 t) := by
  obtain ⟨f, fd, a, b, c⟩ := M
  exact pe_make a c hr hg hm b .nil pass0 ha hdb he hpl
abbrev sg (sc : Addr) (o1 o2 o3 o4 o5 o6 o7 o8 o9 o10 o11 o12 : Option V) : L2.St := [some (.ref sc), o1, o2, o3, o4, o5, o6, o7, o8, o9, o10, o11, o12, none]
/-- what is known of the rows -/
structure Lf (rs : List Row) : Prop where
  ok : DrOk rs
  okr : ∀ r ∈ rs, RowOk r
  len : rs.length ≤ 11
  br : (brs rs).length < 8
theorem Lf.in8 {rs : List Row} (h : Lf rs) : (inn rs).length < 8 := by
  have h1 : (inn rs).length ≤ (brs rs).length := by
    rw [← brs_inn]
    exact List.length_filter_le _ _
  have := h.br
  omega
/-- the rows at L, their draft at x, what leads out at o -/
structure Lw (K : PySem.W.Frag) (C : Addr) (T' : List (Addr × Str)) (rs : List Row) (L x o : Addr) (H : Hp) : Prop where
  tabs : LamX.Tabs T' H
  rows : ∃ ys, H L = some (.lst ys) ∧ RowsL K H ys rs
  dr : DraftV K H C x rs
  outs : H o = some (.lst (nats (outs rs)))
theorem Lw.rw {K : PySem.W.Frag} {C : Addr} {T' : List (Addr × Str)} {rs : List Row} {L x o : Addr} {H : Hp} (h : Lw K C T' rs L x o H) (f : Lf rs) : ∃ ys, LRows K H L ys rs := by
  obtain ⟨ys, h1, h2⟩ := h.rows
  have := f.len
  exact ⟨ys, SqL.of h1, rowsL_V h2, by omega⟩
mutual
theorem dp_ext {K : PySem.W.Frag} {H H' : Hp} (e : LamX.ExtN H H') : ∀ {v : V} {d : PyData}, Dp K H v d → Dp K H' v d
  | _, _, .non => .non
  | _, _, .bl b => .bl b
  | _, _, .int i => .int i
  | _, _, .str x => .str x
  | _, _, .lst h t => .lst (sqL_ext e h) (dps_ext e t)
  | _, _, .tup h t => .tup (sqT_ext e h) (dps_ext e t)
theorem dps_ext {K : PySem.W.Frag} {H H' : Hp} (e : LamX.ExtN H H') : ∀ {vs : List V} {ds : List PyData}, DpAll K H vs ds → DpAll K H' vs ds
  | _, _, .nil => .nil
  | _, _, .cons h t => .cons (dp_ext e h) (dps_ext e t)
end
theorem rowL_ext {K : PySem.W.Frag} {H H' : Hp} {v : V} {r : Row} (e : LamX.ExtN H H') (h : RowL K H v r) : RowL K H' v r := by
  cases r with
  | words ws =>
    obtain ⟨a, b, xs, h1, h2, h3, h4⟩ := h
    exact ⟨a, b, xs, h1, sqT_ext e h2, sqL_ext e h3, dps_ext e h4⟩
  | label s =>
    obtain ⟨a, h1, h2⟩ := h
    exact ⟨a, h1, sqT_ext e h2⟩
  | even n =>
    obtain ⟨a, h1, h2⟩ := h
    exact ⟨a, h1, sqT_ext e h2⟩
  | branch c n m =>
    obtain ⟨a, h1, h2⟩ := h
    exact ⟨a, h1, sqT_ext e h2⟩
theorem rowsL_ext {K : PySem.W.Frag} {H H' : Hp} (e : LamX.ExtN H H') : ∀ {xs : List V} {rs : List Row}, RowsL K H xs rs → RowsL K H' xs rs
  | _, _, .nil => .nil
  | _, _, .cons h t => .cons (rowL_ext e h) (rowsL_ext e t)
theorem Lw.ext {K : PySem.W.Frag} {C : Addr} {T' : List (Addr × Str)} {rs : List Row} {L x o : Addr} {H H' : Hp} (h : Lw K C T' rs L x o H) (e : LamX.ExtN H H') (t : LamX.Tabs T' H') : Lw K C T' rs L x o H' := by
  obtain ⟨ys, h1, h2⟩ := h.rows
  exact ⟨t, ⟨ys, e _ _ h1 (by intro x z; cases z), rowsL_ext e h2⟩, draft_ext e h.dr, e _ _ h.outs (by intro x z; cases z)⟩
theorem Lw.same {K : PySem.W.Frag} {C : Addr} {T' : List (Addr × Str)} {rs : List Row} {L x o : Addr} {H H' : Hp} (h : Lw K C T' rs L x o H) (e : Same H H') : Lw K C T' rs L x o H' := h.ext (LamX.ExtN.of e) (h.tabs.ext e)

theorem len_sub {α : Type} [DecidableEq α] : ∀ {l m : List α}, l.Nodup → (∀ x ∈ l, x ∈ m) → l.length ≤ m.length
  | [], m, _, _ => Nat.zero_le _
  | a :: l, m, nd, h => by
    obtain ⟨n1, n2⟩ := List.nodup_cons.mp nd
    have ha := h a (List.mem_cons_self ..)
    have ih := len_sub (m := m.erase a) n2 fun x hx => by
      have ne : x ≠ a := fun z => n1 (by rw [← z]; exact hx)
      exact (List.mem_erase_of_ne ne).mpr (h x (List.mem_cons_of_mem _ hx))
    have e := List.length_erase_of_mem ha
    have p : 0 < m.length := List.length_pos_of_mem ha
    rw [List.length_cons]
    omega
theorem br_lab {rs : List Row} : ∀ i, i ≤ rs.length → ((List.range i).filter (isBr rs)).length + ((rs.take i).filterMap labR).length ≤ i
  | 0, _ => by simp
  | i + 1, h => by
    have ih := br_lab (rs := rs) i (by omega)
    obtain ⟨r, hi⟩ : ∃ r, rs[i]? = some r := ⟨_, List.getElem?_eq_getElem (by omega)⟩
    rw [List.range_succ, List.filter_append, List.take_add_one, hi, List.filterMap_append, List.length_append, List.length_append]
    have ib := isBr_at hi
    have one : ([i].filter (isBr rs)).length + ([r].filterMap labR).length ≤ 1 := by
      cases r with
      | words ws =>
        have z : [Row.words ws].filterMap labR = [] := rfl
        simp [List.filter, ib, z]
      | label s => simp [List.filter, ib, labR]
      | even n =>
        have z : [Row.even n].filterMap labR = [] := rfl
        simp [List.filter, ib, z]
      | branch c n m =>
        have z : [Row.branch c n m].filterMap labR = [] := rfl
        simp [List.filter, ib, z]
    have e2 : (some r).toList = [r] := rfl
    rw [e2]
    omega
theorem lf_of {rs : List Row} (g : DraftG rs) (l : rs.length ≤ 11) (h : ∀ z ∈ labs4, z ∈ rs.filterMap labR) : Lf rs := by
  have ok := G_ok g
  refine ⟨ok, fun r hr => fine_ok (ok.fine r hr), l, ?_⟩
  have h1 := br_lab (rs := rs) rs.length (Nat.le_refl _)
  rw [List.take_length] at h1
  have h2 : labs4.length ≤ (rs.filterMap labR).length := len_sub (by decide +kernel) h
  have h3 : labs4.length = 4 := rfl
  have h4 : (brs rs).length = ((List.range rs.length).filter (isBr rs)).length := rfl
  omega
section
variable {P : Program} {w : World} {K : PySem.W.Frag} {mg : Str → Option Value} {base : Heap} {C f c : Addr} {T' : List (Addr × Str)} {A : Around} {outer : List Env} {s : Shared} {H0 : Hp} {E : XK}
theorem st0 (L : TL P w K mg base C T') (hr : Room 9 (XL P w K mg base f c A outer s H0 E).A) : ∃ t, PS (XL P w K mg base f c A outer s H0 E) (lb 0) t ∧
    ∀ (D : Ends) (H : Hp) (sc : Addr) (ns : List Int) (j : Nat) (o2 o3 o4 o5 o6 o7 o8 o9 o10 o11 o12 : Option V), SqL K H sc (ns.map V.int) →
      (∀ mo : Int, (mo = 7 ∨ mo = 5) → D.nx (sg sc (some (.int (j : Int))) (some (.int mo)) o3 o4 o5 o6 o7 o8 o9 o10 o11 o12) H) →
      t D (sg sc (some (.int (j : Int))) o2 o3 o4 o5 o6 o7 o8 o9 o10 o11 o12) H := by
  refine ⟨_, ps_set (i := 2) scLaw.nd rfl (.inl rfl) (pe_ifExp (pt_cmpR op_eq (pe_op op_mod (pe_callH L.cell (hr.mono (by decide)) (by rfl) pass0 (pa_cons (pv 0) (pa_cons (pv 1) pa_nil))) pe_int) pe_int (nomark _)) pe_int pe_int), ?_⟩
  intro D H sc ns j o2 o3 o4 o5 o6 o7 o8 o9 o10 o11 o12 hs q
  refine ⟨_, rfl, _, rfl, sc, ns, j, rfl, hs, fun n => ⟨_, _, rfl, rfl, (by show (0 : Int) < 8; decide), rfl, _, rfl, ?_⟩⟩
  exact ite2 (fun _ => q 7 (.inl rfl)) (fun _ => q 5 (.inr rfl))
theorem st1 (L : TL P w K mg base C T') (hr : Room 9 (XL P w K mg base f c A outer s H0 E).A) : ∃ t, PS (XL P w K mg base f c A outer s H0 E) (lb 1) t ∧
    ∀ (D : Ends) (H : Hp) (sc : Addr) (ns : List Int) (j : Nat) (mo : Int) (o3 o4 o5 o6 o7 o8 o9 o10 o11 o12 : Option V), SqL K H sc (ns.map V.int) → (mo = 7 ∨ mo = 5) →
      (∀ H' l ys rs, Same H H' → H' l = some (.lst ys) → RowsL K H' ys rs → Lf rs → (j = 0 → noEven rs) → D.nx (sg sc (some (.int (j : Int))) (some (.int mo)) (some (.ref l)) o4 o5 o6 o7 o8 o9 o10 o11 o12) H') →
      t D (sg sc (some (.int (j : Int))) (some (.int mo)) o3 o4 o5 o6 o7 o8 o9 o10 o11 o12) H := by
  refine ⟨_, ps_set (i := 3) scLaw.nd rfl (.inr rfl) (pe_callH L.draft (hr.mono (by decide)) (by rfl) pass0 (pa_cons (pe_callH L.cell (hr.mono (by decide)) (by rfl) pass0 (pa_cons (pv 0) (pa_cons (pv 1) pa_nil))) (pa_cons (pv 2) (pa_cons (pe_cmpR op_eq (pv 1) pe_int (nomark _)) pa_nil)))), ?_⟩
  intro D H sc ns j mo o3 o4 o5 o6 o7 o8 o9 o10 o11 o12 hs hm q
  refine ⟨_, rfl, _, rfl, sc, ns, j, rfl, hs, fun n => ⟨_, rfl, _, rfl, rfl, ?_⟩⟩
  refine ⟨n, mo, _, rfl, by omega, by omega, fun H1 p xs rcs s1 _ h1 h2 h3 h4 h5 h6 => q H1 p xs rcs s1 h1 (datR_rowsL h2) (lf_of h3 (by omega) h5) fun z => h4 ?_⟩
  subst z
  rw [intEq]
  rfl
theorem st2 (L : TL P w K mg base C T') (hr : Room 9 (XL P w K mg base f c A outer s H0 E).A) : ∃ t, PS (XL P w K mg base f c A outer s H0 E) (lb 2) t ∧
    ∀ (D : Ends) (H : Hp) (sc l : Addr) (ys : List V) (rs : List Row) (o1 o2 o4 o5 o6 o7 o8 o9 o10 o11 o12 : Option V), LamX.Tabs T' H → H l = some (.lst ys) → RowsL K H ys rs → Lf rs →
      (∀ H' x lo lc, Same H H' → Lw K C T' rs l x lo H' → LtI K H' lc (lawC rs) → D.nx (sg sc o1 o2 (some (.ref l)) (some (.ref x)) (some (.ref lo)) (some (.ref lc)) o7 o8 o9 o10 o11 o12) H') →
      t D (sg sc o1 o2 (some (.ref l)) o4 o5 o6 o7 o8 o9 o10 o11 o12) H := by
  refine ⟨_, (ps_asg (pe_tup (pa_cons (pe_makeH L.mkx (hr.mono (by decide)) (by rfl) L.dr (pa_cons (pv 3) pa_nil)) (pa_cons (pe_callH L.outs (hr.mono (by decide)) (by rfl) pass0 (pa_cons (pv 3) pa_nil)) (pa_cons (pe_callH L.chs (hr.mono (by decide)) (by rfl) pass0 (pa_cons (pv 3) pa_nil)) pa_nil)))) (pg_tup rfl (pgs_cons (pg_name (i := 4) scLaw.nd rfl (.inl rfl)) (pgs_cons (pg_name (i := 5) scLaw.nd rfl (.inr rfl)) (pgs_cons (pg_name (i := 6) scLaw.nd rfl (.inl rfl)) pgs_nil))))), ?_⟩
  intro D H sc l ys rs o1 o2 o4 o5 o6 o7 o8 o9 o10 o11 o12 hT hl hrs lf q
  have l11 := lf.len
  refine ⟨_, rfl, fun x dx hx hdx hne => ?_⟩
  have s1 := (same_new (o := .own x) hdx).trans (same_new (o := .ins C dx []) (H := upd H dx (.own x)) (by rw [upd_ne hne.symm]; exact hx))
  refine ⟨x, l, dx, ys, rs, rfl, upd_same, SqL.of (s1 _ _ hl), rowsL_same s1 hrs, lf.ok, fun H2 kp hdr => ⟨rfl, ?_⟩⟩
  have s2 : Same H H2 := fun b o e => kp b o (ne_of_none e hx) (s1 _ _ e)
  have hR2 : LRows K H2 l ys rs := ⟨SqL.of (s2 _ _ hl), rowsL_V (rowsL_same s2 hrs), by omega⟩
  refine ⟨_, rfl, l, ys, rs, rfl, hR2, fun H3 lo s3 _ hlo => ⟨_, rfl, l, ys, rs, rfl, hR2.same s3, lf.br, fun H4 lc ws s4 _ hlc ec => ⟨(by show 3 ≤ sizeLine; decide), fun t ht => ?_⟩⟩⟩
  have st := same_new (o := .tup [V.ref x, V.ref lo, V.ref lc]) ht
  have s24 := (s3.trans s4).trans st
  have s04 := s2.trans s24
  refine ⟨t, _, rfl, SqT.of upd_same, rfl, _, _, rfl, _, _, rfl, _, _, rfl, rfl, q _ x lo lc s04 ⟨hT.ext s04, ⟨ys, s04 _ _ hl, rowsL_same s04 hrs⟩, draftV_same s24 hdr, (s4.trans st) _ _ hlo⟩ (ltI_same st ⟨ws, hlc, ec⟩)⟩
end

section
variable {P : Program} {w : World} {K : PySem.W.Frag} {mg : Str → Option Value} {base : Heap} {C f c : Addr} {T' : List (Addr × Str)} {A : Around} {outer : List Env} {s : Shared} {H0 : Hp} {E : XK}
abbrev tFit (K : PySem.W.Frag) : TT := tTest (tOp (rEqD K) (tCall (spLLo K) [] E00 (tCons (tVar 3) (tCons (tVar 13) tNil))) (tLst tNil))
abbrev tDue (K : PySem.W.Frag) : TT := tB (tCall (spLTi K) [] E00 (tCons (tVar 3) (tCons (tVar 5) (tCons (tVar 13) tNil))))
theorem st3 (L : TL P w K mg base C T') (hr : Room 9 (XL P w K mg base f c A outer s H0 E).A) : ∃ t, PS (XL P w K mg base f c A outer s H0 E) (lb 3) t ∧
    ∀ (D : Ends) (H : Hp) (sc l x lo lc : Addr) (rs : List Row) (o1 o2 o7 o8 o9 o10 o11 o12 : Option V), Lw K C T' rs l x lo H → Lf rs → LtI K H lc (lawC rs) →
      (∀ H' lt, Same H H' → LtI K H' lt (allF rs) → D.nx (sg sc o1 o2 (some (.ref l)) (some (.ref x)) (some (.ref lo)) (some (.ref lc)) (some (.ref lt)) o8 o9 o10 o11 o12) H') →
      t D (sg sc o1 o2 (some (.ref l)) (some (.ref x)) (some (.ref lo)) (some (.ref lc)) o7 o8 o9 o10 o11 o12) H := by
  have hu64 : (XL P w K mg base f c A outer s H0 E).A.units + 64 < cLine := by have := hr.un; omega
  refine ⟨_, ps_setLc (i := 7) (own := [("far", 13)]) (g := gName 13) (tt := tFit K) (te := tVar 13) rfl scLaw.nd rfl rfl (sw_true rfl rfl rfl (by decide +kernel)) (pi_list (pv 6)) (blkOk_by (N := NL) (sc := defScope sLaw) (by decide +kernel)) (fun _ _ _ _ _ => pg_name (i := 13) scLaw.nd rfl (.inl rfl)) (fun _ _ _ _ _ => pts_one (pt_cmpR (op_eqD hu64) (pe_callH L.long (hr.mono (by decide)) (by rfl) pass0 (pa_cons (pv 3) (pa_cons (pv 13) pa_nil))) (pe_lst pa_nil) (nomark _))) (fun _ _ _ _ _ => pv 13), ?_⟩
  intro D H sc l x lo lc rs o1 o2 o7 o8 o9 o10 o11 o12 lw lf hc q
  obtain ⟨ws, hlc, ew⟩ := hc
  obtain ⟨ys, hR⟩ := lw.rw lf
  have l9 : rs.length ≤ 900 := by have := lf.len; omega
  have lcl : (lawC rs).length ≤ 128 := by
    have := fnd_len lf.br (brs rs).length
    rw [List.take_length] at this
    unfold lawC
    rw [(List.mergeSort_perm _ _).length_eq]
    exact this
  refine ⟨_, rfl, lc, rfl, ⟨_, SqL.of hlc⟩, fun Dd hD => ?_⟩
  have kD : ∀ {H2 : Hp}, (∀ b o, b ≠ Dd → H b = some o → H2 b = some o) → Same H H2 := fun kp b o e => kp b o (ne_of_none e hD) e
  refine lc_it walk_list (fun j H4 => (∀ b o, b ≠ Dd → H b = some o → H4 b = some o) ∧ ∃ vs, H4 Dd = some (.lst vs) ∧ PySem.W.EachIs (TupI K H4) vs (((lawC rs).take j).filter (fitB rs))) ⟨fun b o hb e => by rw [upd_ne hb]; exact e, [], upd_same, .nil⟩ (fun j H4 _ ⟨kp, _⟩ => sqL_same (kD kp) (SqL.of hlc)) ?_ ?_
  · rintro j y H4 H4' hj ⟨kp, vs, hD4, ev⟩ ⟨rfl, hy⟩
    obtain ⟨d, hd, a, rfl, ha⟩ := eachs_get ew hy
    have s4 := kD kp
    have st := filt_step (fitB rs) hd
    have fl := filt_len (lawC rs) j (fitB rs)
    refine ⟨rfl, _, rfl, _, rfl, l, a, ys, rs, d, rfl, hR.same s4, lf.okr, .inr (SqT.of (s4 _ _ ha)), fun H6 p6 s6 _ hp6 => ⟨Nat.zero_le _, fun p7 hp7 => ?_⟩⟩
    have s7 := same_new (o := .lst []) hp7
    have hp67 := s7 _ _ hp6
    refine ⟨.list ((zs (long (mem d) rs)).map .int), .list (([] : List Int).map .int), dp_ints (SqL.of (by rw [hp67, nats_zs])), .lst (SqL.of upd_same) .nil, ints_shaped _, ints_shaped [], _, rfl, ?_⟩
    rw [eqv_ints]
    have em : decide (zs (long (mem d) rs) = []) = fitB rs d := by
      unfold fitB
      congr 1
      exact propext ⟨fun z => List.map_eq_nil_iff.mp z, fun z => by rw [z]; rfl⟩
    rw [em]
    have s47 := s6.trans s7
    have kp7 : ∀ b o, b ≠ Dd → H b = some o → upd H6 p7 (.lst []) b = some o := fun b o hb e => s47 _ _ (kp b o hb e)
    have hD7 := s47 _ _ hD4
    have ev7 := tupsI_same s47 ev
    have ha7 := s47 _ _ (s4 _ _ ha)
    generalize upd H6 p7 (.lst []) = H7 at s7 s47 kp7 hD7 ev7 ha7 ⊢
    cases ct : fitB rs d with
    | false =>
      rw [ct] at st
      refine iteF ⟨kp7, vs, hD7, ?_⟩
      rw [st]
      show PySem.W.EachIs _ _ (((lawC rs).take j).filter (fitB rs) ++ [])
      rw [List.append_nil]
      exact ev7
    | true =>
      rw [ct, if_pos rfl] at st
      refine iteT ⟨_, rfl, _, hD7, ?_, fun b o hb e => by rw [upd_ne hb]; exact kp7 b o hb e, _, upd_same, ?_⟩
      · rw [ev7.length]
        exact big_sz (by omega)
      · rw [st]
        exact each_app (tupsI_put hD7 (by intro xs z; cases z) ev7) (.cons ⟨a, rfl, by rw [upd_ne fun z => by rw [z, hD7] at ha7; cases ha7]; exact ha7⟩ .nil)
  · rintro H4 ⟨kp, vs, hD4, ev⟩
    rw [ew.length, List.take_length, lawC_fits l9] at ev
    exact q H4 Dd (kD kp) ⟨vs, hD4, ev⟩
theorem st4 (L : TL P w K mg base C T') (hr : Room 9 (XL P w K mg base f c A outer s H0 E).A) : ∃ t, PS (XL P w K mg base f c A outer s H0 E) (lb 4) t ∧
    ∀ (D : Ends) (H : Hp) (sc l x lo lt : Addr) (rs : List Row) (o1 o2 o6 o8 o9 o10 o11 o12 : Option V), Lw K C T' rs l x lo H → Lf rs → LtI K H lt (allF rs) →
      (∀ H' tt g gs, Same H H' → H' tt = some (.lst (((allF rs).map (endF rs)).map V.int)) → SqT K H' g (gs.map V.int) → Grown rs gs → D.nx (sg sc o1 o2 (some (.ref l)) (some (.ref x)) (some (.ref lo)) o6 (some (.ref lt)) (some (.ref tt)) (some (.ref g)) o10 o11 o12) H') →
      t D (sg sc o1 o2 (some (.ref l)) (some (.ref x)) (some (.ref lo)) o6 (some (.ref lt)) o8 o9 o10 o11 o12) H := by
  refine ⟨_, ps_par (i := 8) (j := 9) rfl scLaw.nd rfl rfl (by decide) rfl rfl (pa_cons (pe_callH L.tots (hr.mono (by decide)) (by rfl) pass0 (pa_cons (pv 3) (pa_cons (pv 7) pa_nil))) (pa_cons (pe_callH L.grown (hr.mono (by decide)) (by rfl) pass0 (pa_cons (pv 3) pa_nil)) pa_nil)) (by rfl), ?_⟩
  intro D H sc l x lo lt rs o1 o2 o6 o8 o9 o10 o11 o12 lw lf hf q
  obtain ⟨ws, hlt, ew⟩ := hf
  obtain ⟨ys, hR⟩ := lw.rw lf
  have l11 := lf.len
  have lF := allF_len lf.in8
  refine ⟨_, rfl, _, rfl, l, lt, ys, ws, rs, allF rs, rfl, hR, lf.okr, hlt, ew, by omega, fun H1 tt s1 _ htt => ⟨_, rfl, l, ys, rs, rfl, hR.same s1, by omega, lf.okr, fun H2 g gs s2 hg gr => ⟨_, _, rfl, ?_⟩⟩⟩
  exact q H2 tt g gs (s1.trans s2) (s2 _ _ htt) hg gr
theorem st5 (L : TL P w K mg base C T') (hr : Room 9 (XL P w K mg base f c A outer s H0 E).A) : ∃ t, PS (XL P w K mg base f c A outer s H0 E) (lb 5) t ∧
    ∀ (D : Ends) (H : Hp) (sc l x lo lt : Addr) (rs : List Row) (o1 o2 o6 o8 o9 o10 o11 o12 : Option V), Lw K C T' rs l x lo H → Lf rs → LtI K H lt (allF rs) →
      (∀ H' ld, Same H H' → LtI K H' ld (tightL rs) → D.nx (sg sc o1 o2 (some (.ref l)) (some (.ref x)) (some (.ref lo)) o6 (some (.ref lt)) o8 o9 (some (.ref ld)) o11 o12) H') →
      t D (sg sc o1 o2 (some (.ref l)) (some (.ref x)) (some (.ref lo)) o6 (some (.ref lt)) o8 o9 o10 o11 o12) H := by
  refine ⟨_, ps_setLc (i := 10) (own := [("far", 13)]) (g := gName 13) (tt := tDue K) (te := tVar 13) rfl scLaw.nd rfl rfl (sw_true rfl rfl rfl (by decide +kernel)) (pi_list (pv 7)) (blkOk_by (N := NL) (sc := defScope sLaw) (by decide +kernel)) (fun _ _ _ _ _ => pg_name (i := 13) scLaw.nd rfl (.inl rfl)) (fun _ _ _ _ _ => pts_one (pt_val (pe_callH L.tight (hr.mono (by decide)) (by rfl) pass0 (pa_cons (pv 3) (pa_cons (pv 5) (pa_cons (pv 13) pa_nil)))))) (fun _ _ _ _ _ => pv 13), ?_⟩
  intro D H sc l x lo lt rs o1 o2 o6 o8 o9 o10 o11 o12 lw lf hf q
  obtain ⟨ws, hlt, ew⟩ := hf
  obtain ⟨ys, hR⟩ := lw.rw lf
  have l9 : rs.length ≤ 900 := by have := lf.len; omega
  have lF := allF_len lf.in8
  refine ⟨_, rfl, lt, rfl, ⟨_, SqL.of hlt⟩, fun Dd hD => ?_⟩
  have kD : ∀ {H2 : Hp}, (∀ b o, b ≠ Dd → H b = some o → H2 b = some o) → Same H H2 := fun kp b o e => kp b o (ne_of_none e hD) e
  refine lc_it walk_list (fun j H4 => (∀ b o, b ≠ Dd → H b = some o → H4 b = some o) ∧ ∃ vs, H4 Dd = some (.lst vs) ∧ PySem.W.EachIs (TupI K H4) vs (((allF rs).take j).filter (lawTight rs))) ⟨fun b o hb e => by rw [upd_ne hb]; exact e, [], upd_same, .nil⟩ (fun j H4 _ ⟨kp, _⟩ => sqL_same (kD kp) (SqL.of hlt)) ?_ ?_
  · rintro j y H4 H4' hj ⟨kp, vs, hD4, ev⟩ ⟨rfl, hy⟩
    obtain ⟨d, hd, a, rfl, ha⟩ := eachs_get ew hy
    have s4 := kD kp
    have st := filt_step (lawTight rs) hd
    have fl := filt_len (allF rs) j (lawTight rs)
    have dl := ((mem_allF l9).mp (List.mem_of_getElem? hd)).1.len
    refine ⟨rfl, _, rfl, _, rfl, _, rfl, l, lo, a, ys, rs, d, rfl, hR.same s4, lf.okr, s4 _ _ lw.outs, SqT.of (s4 _ _ ha), dl, fun H7 s47 => ⟨_, rfl, ?_⟩⟩
    have kp7 : ∀ b o, b ≠ Dd → H b = some o → H7 b = some o := fun b o hb e => s47 _ _ (kp b o hb e)
    have hD7 := s47 _ _ hD4
    have ev7 := tupsI_same s47 ev
    have ha7 := s47 _ _ (s4 _ _ ha)
    cases ct : lawTight rs d with
    | false =>
      rw [ct] at st
      refine iteF ⟨kp7, vs, hD7, ?_⟩
      rw [st]
      show PySem.W.EachIs _ _ (((allF rs).take j).filter (lawTight rs) ++ [])
      rw [List.append_nil]
      exact ev7
    | true =>
      rw [ct, if_pos rfl] at st
      refine iteT ⟨_, rfl, _, hD7, ?_, fun b o hb e => by rw [upd_ne hb]; exact kp7 b o hb e, _, upd_same, ?_⟩
      · rw [ev7.length]
        exact big_sz (by omega)
      · rw [st]
        exact each_app (tupsI_put hD7 (by intro xs z; cases z) ev7) (.cons ⟨a, rfl, by rw [upd_ne fun z => by rw [z, hD7] at ha7; cases ha7]; exact ha7⟩ .nil)
  · rintro H4 ⟨kp, vs, hD4, ev⟩
    rw [ew.length, List.take_length, ← tightL_law l9] at ev
    exact q H4 Dd (kD kp) ⟨vs, hD4, ev⟩
end

/-- what the draft told -/
def FoundV (K : PySem.W.Frag) (rs : List Row) (H : Hp) (fo : Addr) : Prop := ∃ (g1 a1 t1 s1 l1 : Addr) (gs : List Int) (i : Nat) (c : List Int), H fo = some (.lst [.ref g1, .ref a1, .int ((allF rs).length : Nat), .ref t1, .ref s1, .ref l1]) ∧
  SqT K H g1 (gs.map V.int) ∧ Grown rs gs ∧ LtI K H a1 (allF rs) ∧ LtI K H t1 (tightL rs) ∧ SqT K H s1 ((shr rs).map V.int) ∧ LeastTo (endK rs) i ((allF rs).length - 1) ∧ (allF rs)[i]? = some c ∧ H l1 = some (.tup (c.map V.int))
theorem foundV_same {K : PySem.W.Frag} {rs : List Row} {H H' : Hp} {fo : Addr} (e : Same H H') (h : FoundV K rs H fo) : FoundV K rs H' fo := by
  obtain ⟨g1, a1, t1, s1, l1, gs, i, c, h1, h2, h3, h4, h5, h6, h7, h8, h9⟩ := h
  exact ⟨g1, a1, t1, s1, l1, gs, i, c, e _ _ h1, sqT_same e h2, h3, ltI_same e h4, ltI_same e h5, sqT_same e h6, h7, h8, e _ _ h9⟩
theorem first_at {m : Int} : ∀ {ks : List Int}, m ∈ ks → ∃ i : Nat, ks[i]? = some m ∧ ∀ j : Nat, j < i → ks[j]? ≠ some m
  | k :: ks, h => by
    by_cases e : k = m
    · subst e
      exact ⟨0, rfl, fun j hj => absurd hj (Nat.not_lt_zero _)⟩
    · obtain ⟨i, h1, h2⟩ := first_at ((List.mem_cons.mp h).resolve_left fun z => e z.symm)
      refine ⟨i + 1, h1, fun j hj z => ?_⟩
      cases j with
      | zero => exact e (Option.some.inj z)
      | succ j => exact h2 j (by omega) z
section
variable {P : Program} {w : World} {K : PySem.W.Frag} {mg : Str → Option Value} {base : Heap} {C f c : Addr} {T' : List (Addr × Str)} {A : Around} {outer : List Env} {s : Shared} {H0 : Hp} {E : XK}
theorem st6 (L : TL P w K mg base C T') (hr : Room 9 (XL P w K mg base f c A outer s H0 E).A) : ∃ t, PS (XL P w K mg base f c A outer s H0 E) (lb 6) t ∧
    ∀ (D : Ends) (H : Hp) (sc l x lo : Addr) (rs : List Row) (o1 o2 o6 o7 o8 o9 o10 o11 o12 : Option V), Lw K C T' rs l x lo H → Lf rs →
      (∀ H' fo, LamX.ExtN H H' → LamX.Tabs T' H' → FoundV K rs H' fo → D.nx (sg sc o1 o2 (some (.ref l)) (some (.ref x)) (some (.ref lo)) o6 o7 o8 o9 o10 (some (.ref fo)) o12) H') →
      t D (sg sc o1 o2 (some (.ref l)) (some (.ref x)) (some (.ref lo)) o6 o7 o8 o9 o10 o11 o12) H := by
  refine ⟨_, ps_set (i := 11) scLaw.nd rfl (.inl rfl) (pe_lst (pa_cons (pe_methH0 L.mgr (pv 4) (hr.mono (by decide)) pass0) (pa_cons (pe_methH0 L.mal (pv 4) (hr.mono (by decide)) pass0) (pa_cons (pe_methH0 L.mmy (pv 4) (hr.mono (by decide)) pass0) (pa_cons (pe_methH0 L.mti (pv 4) (hr.mono (by decide)) pass0) (pa_cons (pe_methH0 L.msh (pv 4) (hr.mono (by decide)) pass0) (pa_cons (pe_methH0 L.mle (pv 4) (hr.mono (by decide)) pass0) pa_nil))))))), ?_⟩
  intro D H sc l x lo rs o1 o2 o6 o7 o8 o9 o10 o11 o12 lw lf q
  have l11 := lf.len
  have i8 := lf.in8
  have l4 : rs.length ≤ 400 := by omega
  have dv := lw.dr
  obtain ⟨ok, dx, p, fq, dd, o, ys, hx⟩ := id dv
  refine ⟨_, rfl, x, dx, _, rfl, hx.ins, rfl, x, rs, rfl, dv, fun H1 g1 gs s1 hg gr => ?_⟩
  have dv1 := draftV_same s1 dv
  refine ⟨_, rfl, x, dx, _, rfl, (hx.same s1).ins, rfl, x, rs, rfl, dv1, i8, l4, fun H2 a1 ws s2 _ ha ea => ?_⟩
  have s02 := s1.trans s2
  have dv2 := draftV_same s02 dv
  refine ⟨_, rfl, x, dx, _, rfl, (hx.same s02).ins, rfl, x, rs, rfl, dv2, i8, l4, fun H3 s3 => ?_⟩
  have s03 := s02.trans s3
  have dv3 := draftV_same s03 dv
  refine ⟨_, rfl, x, dx, _, rfl, (hx.same s03).ins, rfl, x, rs, rfl, dv3, i8, l4, fun H4 t1 us s4 _ ht et => ?_⟩
  have s04 := s03.trans s4
  have dv4 := draftV_same s04 dv
  refine ⟨_, rfl, x, dx, _, rfl, (hx.same s04).ins, rfl, x, rs, rfl, dv4, l4, fun H5 sh s5 hs => ?_⟩
  have s05 := s04.trans s5
  have dv5 := draftV_same s05 dv
  refine ⟨_, rfl, x, dx, _, rfl, (hx.same s05).ins, rfl, x, rs, rfl, dv5, i8, l4, lw.tabs.ext s05, allF_ne (by omega), fun i d H6 l1 best hd e6 t6 hl1 => ⟨(by show 6 ≤ sizeLine; decide), fun fo hfo => ?_⟩⟩
  have sf := same_new (o := .lst [.ref g1, .ref a1, .int ((allF rs).length : Nat), .ref t1, .ref sh, .ref l1]) hfo
  have e5 : LamX.ExtN H5 (upd H6 fo (.lst [.ref g1, .ref a1, .int ((allF rs).length : Nat), .ref t1, .ref sh, .ref l1])) := e6.trans (LamX.ExtN.of sf)
  have s25 := (s3.trans s4).trans s5
  have s15 := s2.trans s25
  refine q _ fo ((LamX.ExtN.of s05).trans e5) (t6.ext sf) ⟨g1, a1, t1, sh, l1, gs, i, d, upd_same, sqT_ext e5 (sqT_same s15 hg), gr, ltI_ext e5 (ltI_same s25 ⟨ws, ha, ea⟩), ltI_ext e5 (ltI_same s5 ⟨us, ht, et⟩), sqT_ext e5 hs, best, hd, sf _ _ hl1⟩
theorem st7 (L : TL P w K mg base C T') (hr : Room 9 (XL P w K mg base f c A outer s H0 E).A) : ∃ t, PS (XL P w K mg base f c A outer s H0 E) (lb 7) t ∧
    ∀ (D : Ends) (H : Hp) (sc lt tt : Addr) (rs : List Row) (o1 o2 o3 o4 o5 o6 o9 o10 o11 o12 : Option V), allF rs ≠ [] → LtI K H lt (allF rs) → H tt = some (.lst (((allF rs).map (endF rs)).map V.int)) →
      (∀ a i d, LeastTo (endK rs) i ((allF rs).length - 1) → (allF rs)[i]? = some d → H a = some (.tup (d.map V.int)) → D.nx (sg sc o1 o2 o3 o4 o5 o6 (some (.ref lt)) (some (.ref tt)) o9 o10 o11 (some (.ref a))) H) →
      t D (sg sc o1 o2 o3 o4 o5 o6 (some (.ref lt)) (some (.ref tt)) o9 o10 o11 o12) H := by
  refine ⟨_, ps_set (i := 12) scLaw.nd rfl (.inl rfl) (pe_ix ix_list (pv 7) (pe_bm PySem.F.plainAttrs_list PySem.F.slot_list_index PySem.F.type_list_index mt_index (pv 8) (pa_cons (pe_callB (cr_min rfl) (by rfl) L.bi.min (by decide +kernel) (pa_cons (pv 8) pa_nil)) pa_nil)) (fun _ _ => rfl)), ?_⟩
  intro D H sc lt tt rs o1 o2 o3 o4 o5 o6 o9 o10 o11 o12 ne hf htt q
  obtain ⟨ws, hlt, ew⟩ := hf
  refine ⟨_, rfl, _, rfl, .inl ⟨rfl, _, SqL.of htt⟩, _, rfl, tt, _, rfl, SqL.of htt, ?_, fun m hm hle => ?_⟩
  · rw [List.length_map]
    exact List.length_pos_iff.mpr ne
  obtain ⟨i, hi, hno⟩ := first_at hm
  have hi2 : ((allF rs).map (endF rs))[i]? = some m := hi
  rw [List.getElem?_map] at hi2
  obtain ⟨d, hd, em⟩ := Option.map_eq_some_iff.mp hi2
  have il : i < (allF rs).length := (List.getElem?_eq_some_iff.mp hd).1
  obtain ⟨v, hv⟩ : ∃ v, ws[i]? = some v := ⟨_, List.getElem?_eq_getElem (by rw [ew.length]; exact il)⟩
  obtain ⟨d', hd', a, rfl, ha⟩ := eachs_get ew hv
  obtain rfl : d = d' := Option.some.inj (hd.symm.trans hd')
  have best : LeastTo (endK rs) i ((allF rs).length - 1) := fun j hj => by
    have jl : j < (allF rs).length := by omega
    have hjg : (allF rs)[j]? = some (allF rs)[j] := List.getElem?_eq_getElem jl
    rw [endK_at hd, endK_at hjg, em]
    have mem : endF rs (allF rs)[j] ∈ (allF rs).map (endF rs) := List.mem_map.mpr ⟨_, List.getElem_mem jl, rfl⟩
    have le := hle _ mem
    refine ⟨le, fun ji => ?_⟩
    have nz := hno j ji
    rw [List.getElem?_map, hjg] at nz
    have nz : endF rs (allF rs)[j] ≠ m := fun z => nz (by rw [← z]; rfl)
    omega
  refine ⟨tt, _, .int m, i, .int m, rfl, rfl, SqL.of htt, rfl, flat_ints _, by rw [List.getElem?_map, hi]; rfl, ?_, fun j z' hj hz' => ?_, lt, _, _, _, rfl, rfl, SqL.of hlt, at_of hv, ?_⟩
  · simp [eqV]
  · rw [List.getElem?_map] at hz'
    obtain ⟨k, hk, rfl⟩ := Option.map_eq_some_iff.mp hz'
    have : k ≠ m := fun z => hno j hj (by rw [hk, z])
    simp [eqV, this]
  · exact q a i d best hd ha
end

theorem sm_int {K : PySem.W.Frag} {H : Hp} {i : Int} {n : Nat} : SmRel K (n + 1) H (.int i) (.int i) := ⟨_, .int i⟩
theorem sm_tupI {K : PySem.W.Frag} {H : Hp} {a b : Addr} {c : List Int} {n : Nat} (h1 : SqT K H a (c.map V.int)) (h2 : SqT K H b (c.map V.int)) (l : c.length ≤ 200000) : SmRel K (n + 2) H (.ref a) (.ref b) :=
  ⟨_, .tup h1 h2 rfl (by rw [List.length_map]; exact l) fun H' e i x y hx hy => by
    obtain rfl : x = y := Option.some.inj (hx.symm.trans hy)
    rw [List.getElem?_map] at hx
    obtain ⟨k, _, rfl⟩ := Option.map_eq_some_iff.mp hx
    exact sm_int⟩
theorem sm_ltI {K : PySem.W.Frag} {H : Hp} {a b : Addr} {cs : List (List Int)} {n : Nat} (h1 : LtI K H a cs) (h2 : LtI K H b cs) (l : cs.length ≤ 200000) (l2 : ∀ c ∈ cs, c.length ≤ 200000) : SmRel K (n + 3) H (.ref a) (.ref b) := by
  obtain ⟨ws, g1, e1⟩ := h1
  obtain ⟨us, g2, e2⟩ := h2
  refine ⟨_, .lst (SqL.of g1) (SqL.of g2) (by rw [e1.length, e2.length]) (by rw [e1.length]; exact l) fun H' e i x y hx hy => ?_⟩
  obtain ⟨c, hc, p, rfl, hp⟩ := eachs_get e1 hx
  obtain ⟨c', hc', p', rfl, hp'⟩ := eachs_get e2 hy
  obtain rfl : c = c' := Option.some.inj (hc.symm.trans hc')
  exact sm_tupI (SqT.of (e _ _ hp)) (SqT.of (e _ _ hp')) (l2 c (List.mem_of_getElem? hc))
theorem least_one {kf : Nat → Int} {i j n : Nat} (hi : LeastTo kf i n) (hj : LeastTo kf j n) (li : i ≤ n) (lj : j ≤ n) : i = j := by
  have h1 := hi j lj
  have h2 := hj i li
  rcases Nat.lt_trichotomy i j with z | z | z
  · have := h2.2 z
    omega
  · exact z
  · have := h1.2 z
    omega
section
variable {P : Program} {w : World} {K : PySem.W.Frag} {mg : Str → Option Value} {base : Heap} {C f c : Addr} {T' : List (Addr × Str)} {A : Around} {outer : List Env} {s : Shared} {H0 : Hp} {E : XK}
theorem st8 (L : TL P w K mg base C T') (hr : Room 9 (XL P w K mg base f c A outer s H0 E).A) : ∃ t, PS (XL P w K mg base f c A outer s H0 E) (lb 8) t ∧
    ∀ (D : Ends) (H : Hp) (sc l x lo lt g ld fo a : Addr) (rs : List Row) (gs d : List Int) (i : Nat) (o1 o2 o6 o8 : Option V), Lw K C T' rs l x lo H → Lf rs → LtI K H lt (allF rs) → SqT K H g (gs.map V.int) → Grown rs gs → LtI K H ld (tightL rs) → FoundV K rs H fo → LeastTo (endK rs) i ((allF rs).length - 1) → (allF rs)[i]? = some d → H a = some (.tup (d.map V.int)) →
      (∀ H', Same H H' → D.nx (sg sc o1 o2 (some (.ref l)) (some (.ref x)) (some (.ref lo)) o6 (some (.ref lt)) o8 (some (.ref g)) (some (.ref ld)) (some (.ref fo)) (some (.ref a))) H') →
      t D (sg sc o1 o2 (some (.ref l)) (some (.ref x)) (some (.ref lo)) o6 (some (.ref lt)) o8 (some (.ref g)) (some (.ref ld)) (some (.ref fo)) (some (.ref a))) H := by
  refine ⟨_, ps_if (pt_not (pt_val (pe_callH (L.same 5 (by decide)) (hr.mono (by decide)) (by rfl) pass0 (pa_cons (pv 11) (pa_cons (pe_lst (pa_cons (pv 9) (pa_cons (pv 7) (pa_cons (pe_callB call_len_seq (by rfl) L.bi.len (by decide +kernel) (pa_cons (pv 7) pa_nil)) (pa_cons (pv 10) (pa_cons (pe_callH L.shr (hr.mono (by decide)) (by rfl) pass0 (pa_cons (pv 3) (pa_cons (pv 5) pa_nil))) (pa_cons (pv 12) pa_nil))))))) pa_nil))))) (pss_one (ps_ret pe_bl)) pss_nil, ?_⟩
  intro D H sc l x lo lt g ld fo a rs gs d i o1 o2 o6 o8 lw lf hf hg gr hd hfo best hdi ha q
  have l11 := lf.len
  have l9 : rs.length ≤ 900 := by omega
  have lF := allF_len lf.in8
  obtain ⟨ys, hR⟩ := lw.rw lf
  obtain ⟨ws, hlt, ew⟩ := id hf
  obtain ⟨g1, a1, t1, s1, l1, gs', i', d', hfo, hg1, gr', ha1, ht1, hs1, best', hdi', hl1⟩ := hfo
  obtain rfl := grown_one gr gr'
  have il : i < (allF rs).length := (List.getElem?_eq_some_iff.mp hdi).1
  have il' : i' < (allF rs).length := (List.getElem?_eq_some_iff.mp hdi').1
  obtain rfl := least_one best best' (by omega) (by omega)
  obtain rfl : d = d' := Option.some.inj (hdi.symm.trans hdi')
  have fl : ∀ e ∈ allF rs, e.length ≤ 200000 := fun e he => by
    have := ((mem_allF l9).mp he).1.len
    omega
  have tl : ∀ e ∈ tightL rs, e.length ≤ 200000 := fun e he => fl e (List.mem_filter.mp he).1
  have tlen : (tightL rs).length ≤ 200000 := by
    have : (tightL rs).length ≤ (allF rs).length := List.length_filter_le _ _
    omega
  have dl := fl d (List.mem_of_getElem? hdi)
  have gl := grown_len gr
  have sl : (shr rs).length ≤ 200000 := tl _ (shr_tight l9)
  refine ⟨_, rfl, _, rfl, _, rfl, _, rfl, lt, _, rfl, .inl (SqL.of hlt), _, rfl, _, rfl, _, rfl, l, lo, ys, rs, rfl, hR, lf.okr, by omega, lw.outs, fun H1 s2 e1 hs2 => ?_⟩
  rw [ew.length]
  refine ⟨_, rfl, (by show 6 ≤ sizeLine; decide), fun p hp => ?_⟩
  have e2 := e1.trans (same_new (o := .lst [.ref g, .ref lt, .int ((allF rs).length : Nat), .ref ld, .ref s2, .ref a]) hp)
  have hs3 := (same_new (o := .lst [.ref g, .ref lt, .int ((allF rs).length : Nat), .ref ld, .ref s2, .ref a]) hp) _ _ hs2
  have hpp : upd H1 p (.lst [.ref g, .ref lt, .int ((allF rs).length : Nat), .ref ld, .ref s2, .ref a]) p = some (.lst [.ref g, .ref lt, .int ((allF rs).length : Nat), .ref ld, .ref s2, .ref a]) := upd_same
  generalize upd H1 p (.lst [.ref g, .ref lt, .int ((allF rs).length : Nat), .ref ld, .ref s2, .ref a]) = H2 at e2 hs3 hpp ⊢
  refine ⟨_, _, rfl, ⟨_, .lst (SqL.of (e2 _ _ hfo)) (SqL.of hpp) rfl (by show 6 ≤ 200000; decide) fun H3 e3 j v u hv hu => ?_⟩, fun H3 e3 => ⟨_, rfl, iteF (q H3 (e2.trans e3))⟩⟩
  have e03 := e2.trans e3
  match j with
  | 0 =>
    cases hv
    cases hu
    exact sm_tupI (sqT_same e03 hg1) (sqT_same e03 hg) (by omega)
  | 1 =>
    cases hv
    cases hu
    exact sm_ltI (ltI_same e03 ha1) (ltI_same e03 hf) (by omega) fl
  | 2 =>
    cases hv
    cases hu
    exact sm_int
  | 3 =>
    cases hv
    cases hu
    exact sm_ltI (ltI_same e03 ht1) (ltI_same e03 hd) tlen tl
  | 4 =>
    cases hv
    cases hu
    exact sm_tupI (sqT_same e03 hs1) (SqT.of (e3 _ _ hs3)) sl
  | 5 =>
    cases hv
    cases hu
    exact sm_tupI (SqT.of (e03 _ _ hl1)) (SqT.of (e03 _ _ ha)) dl
  | j + 6 => cases hv
theorem st9 (L : TL P w K mg base C T') (hr : Room 9 (XL P w K mg base f c A outer s H0 E).A) : ∃ t, PS (XL P w K mg base f c A outer s H0 E) (lb 9) t ∧
    ∀ (D : Ends) (H : Hp) (sc x : Addr) (rs : List Row) (o1 o2 o3 o5 o6 o7 o8 o9 o10 o11 o12 : Option V), DraftV K H C x rs → Lf rs →
      (∀ H', Same H H' → D.nx (sg sc o1 o2 o3 (some (.ref x)) o5 o6 o7 o8 o9 o10 o11 o12) H') →
      t D (sg sc o1 o2 o3 (some (.ref x)) o5 o6 o7 o8 o9 o10 o11 o12) H := by
  refine ⟨_, ps_expr (pe_bm PySem.F.plainAttrs_list PySem.F.slot_list_append PySem.F.type_list_append mt_append (pe_methH0 L.mal (pv 4) (hr.mono (by decide)) pass0) (pa_cons pe_str pa_nil)), ?_⟩
  intro D H sc x rs o1 o2 o3 o5 o6 o7 o8 o9 o10 o11 o12 dv lf q
  have l11 := lf.len
  have lF := allF_len lf.in8
  obtain ⟨ok, dx, p, fq, dd, o, ys, hx⟩ := id dv
  refine ⟨_, rfl, x, dx, _, rfl, hx.ins, rfl, x, rs, rfl, dv, lf.in8, by omega, fun H1 p ws s1 hp0 hp ew => ⟨.inl ⟨rfl, _, SqL.of hp⟩, p, ws, _, rfl, rfl, hp, ?_, q _ fun b o e => ?_⟩⟩
  · rw [ew.length]
    exact big_sz (by omega)
  · rw [upd_ne (ne_of_none e hp0)]
    exact s1 _ _ e
theorem st10 (L : TL P w K mg base C T') (hr : Room 9 (XL P w K mg base f c A outer s H0 E).A) : ∃ t, PS (XL P w K mg base f c A outer s H0 E) (lb 10) t ∧
    ∀ (D : Ends) (H : Hp) (sc x : Addr) (rs : List Row) (o1 o2 o3 o5 o6 o7 o8 o9 o10 o11 o12 : Option V), DraftV K H C x rs → Lf rs →
      (∀ H', Same H H' → D.nx (sg sc o1 o2 o3 (some (.ref x)) o5 o6 o7 o8 o9 o10 o11 o12) H') →
      t D (sg sc o1 o2 o3 (some (.ref x)) o5 o6 o7 o8 o9 o10 o11 o12) H := by
  refine ⟨_, ps_expr (pe_bm PySem.F.plainAttrs_list PySem.F.slot_list_append PySem.F.type_list_append mt_append (pe_methH0 L.mti (pv 4) (hr.mono (by decide)) pass0) (pa_cons pe_str pa_nil)), ?_⟩
  intro D H sc x rs o1 o2 o3 o5 o6 o7 o8 o9 o10 o11 o12 dv lf q
  have l11 := lf.len
  have lF := allF_len lf.in8
  have tlen : (tightL rs).length ≤ (allF rs).length := List.length_filter_le _ _
  obtain ⟨ok, dx, p, fq, dd, o, ys, hx⟩ := id dv
  refine ⟨_, rfl, x, dx, _, rfl, hx.ins, rfl, x, rs, rfl, dv, lf.in8, by omega, fun H1 p ws s1 hp0 hp ew => ⟨.inl ⟨rfl, _, SqL.of hp⟩, p, ws, _, rfl, rfl, hp, ?_, q _ fun b o e => ?_⟩⟩
  · rw [ew.length]
    exact big_sz (by omega)
  · rw [upd_ne (ne_of_none e hp0)]
    exact s1 _ _ e
end

section
variable {P : Program} {w : World} {K : PySem.W.Frag} {mg : Str → Option Value} {base : Heap} {C f c : Addr} {T' : List (Addr × Str)} {A : Around} {outer : List Env} {s : Shared} {H0 : Hp} {E : XK}
theorem st11 (L : TL P w K mg base C T') (hr : Room 9 (XL P w K mg base f c A outer s H0 E).A) : ∃ t, PS (XL P w K mg base f c A outer s H0 E) (lb 11) t ∧
    ∀ (D : Ends) (H : Hp) (sc x lt ld : Addr) (rs : List Row) (o1 o2 o3 o5 o6 o8 o9 o11 o12 : Option V), DraftV K H C x rs → Lf rs → LtI K H lt (allF rs) → LtI K H ld (tightL rs) →
      (∀ H', Same H H' → D.nx (sg sc o1 o2 o3 (some (.ref x)) o5 o6 (some (.ref lt)) o8 o9 (some (.ref ld)) o11 o12) H') →
      t D (sg sc o1 o2 o3 (some (.ref x)) o5 o6 (some (.ref lt)) o8 o9 (some (.ref ld)) o11 o12) H := by
  have hu64 : (XL P w K mg base f c A outer s H0 E).A.units + 64 < cLine := by have := hr.un; omega
  refine ⟨_, ps_if (PW.pt (pw_or (pt_cmpR (op_neD hu64) (pe_methH0 L.mal (pv 4) (hr.mono (by decide)) pass0) (pv 7) (nomark _)) (pw_or (pt_cmpR (op_neD hu64) (pe_methH0 L.mti (pv 4) (hr.mono (by decide)) pass0) (pv 10) (nomark _)) (pw_or1 (pt_cmpR op_ne (pe_methH0 L.mmy (pv 4) (hr.mono (by decide)) pass0) (pe_callB call_len_seq (by rfl) L.bi.len (by decide +kernel) (pa_cons (pv 7) pa_nil)) (nomark _)))))) (pss_one (ps_ret pe_bl)) pss_nil, ?_⟩
  intro D H sc x lt ld rs o1 o2 o3 o5 o6 o8 o9 o11 o12 dv lf hf hd q
  have l11 := lf.len
  have l4 : rs.length ≤ 400 := by omega
  have i8 := lf.in8
  obtain ⟨ok, dx, p, fq, dd, o, ys, hx⟩ := id dv
  obtain ⟨fs, hlt, ef⟩ := id hf
  refine ⟨_, rfl, x, dx, _, rfl, hx.ins, rfl, x, rs, rfl, dv, i8, l4, fun H1 p1 ws s1 _ hp1 e1 => ⟨_, rfl, datC (allF rs), datC (allF rs), dp_ltI ⟨ws, hp1, e1⟩, dp_ltI (ltI_same s1 hf), tups_shaped _, tups_shaped _, _, rfl, ?_⟩⟩
  rw [datC_refl]
  refine iteF ⟨_, rfl, x, dx, _, rfl, (hx.same s1).ins, rfl, x, rs, rfl, draftV_same s1 dv, i8, l4, fun H2 p2 us s2 _ hp2 e2 => ⟨_, rfl, datC (tightL rs), datC (tightL rs), dp_ltI ⟨us, hp2, e2⟩, dp_ltI (ltI_same (s1.trans s2) hd), tups_shaped _, tups_shaped _, _, rfl, ?_⟩⟩
  rw [datC_refl]
  have s02 := s1.trans s2
  refine iteF ⟨_, rfl, x, dx, _, rfl, (hx.same s02).ins, rfl, x, rs, rfl, draftV_same s02 dv, i8, l4, fun H3 s3 => ⟨_, rfl, lt, fs, rfl, .inl (SqL.of ((s02.trans s3) _ _ hlt)), rfl, _, rfl, ?_⟩⟩
  rw [ef.length]
  show if (!decide (V.int _ = V.int _)) = true then _ else _
  rw [intEq, decide_eq_true rfl]
  exact iteF (q H3 (s02.trans s3))
theorem st12 (L : TL P w K mg base C T') (hr : Room 9 (XL P w K mg base f c A outer s H0 E).A) : ∃ t, PS (XL P w K mg base f c A outer s H0 E) (lb 12) t ∧
    ∀ (D : Ends) (H : Hp) (sc x ld a : Addr) (rs : List Row) (d : List Int) (i : Nat) (o1 o2 o3 o5 o6 o7 o8 o9 o11 : Option V), DraftV K H C x rs → Lf rs → LtI K H ld (tightL rs) → LeastTo (endK rs) i ((allF rs).length - 1) → (allF rs)[i]? = some d → H a = some (.tup (d.map V.int)) →
      (∀ H', Same H H' → D.nx (sg sc o1 o2 o3 (some (.ref x)) o5 o6 o7 o8 o9 (some (.ref ld)) o11 (some (.ref a))) H') →
      t D (sg sc o1 o2 o3 (some (.ref x)) o5 o6 o7 o8 o9 (some (.ref ld)) o11 (some (.ref a))) H := by
  have hu65 : (XL P w K mg base f c A outer s H0 E).A.units + 65 < cLine := by have := hr.un; omega
  refine ⟨_, ps_if (PW.pt (pw_or (pt_cmpR (op_notInD hu65) (pv 12) (pv 10) (by rfl)) (pw_or1 (pt_cmpR (op_notInD hu65) (pe_methH0 L.msh (pv 4) (hr.mono (by decide)) pass0) (pv 10) (by rfl))))) (pss_one (ps_ret pe_bl)) pss_nil, ?_⟩
  intro D H sc x ld a rs d i o1 o2 o3 o5 o6 o7 o8 o9 o11 dv lf hd best hdi ha q
  have l11 := lf.len
  have l4 : rs.length ≤ 400 := by omega
  have l9 : rs.length ≤ 900 := by omega
  obtain ⟨ok, dx, p, fq, dd, o, ys, hx⟩ := id dv
  refine ⟨_, rfl, _, rfl, datI d, (tightL rs).map datI, .tup (SqT.of ha) (dps_ints _), dp_ltI hd, tup_shaped _, tups_shaped _, _, rfl, ?_⟩
  rw [any_datI, decide_eq_true (least_in lf.okr l9 best hdi)]
  refine iteF ⟨_, rfl, x, dx, _, rfl, hx.ins, rfl, x, rs, rfl, dv, l4, fun H1 p1 s1 hp1 => ⟨_, rfl, datI (shr rs), (tightL rs).map datI, .tup hp1 (dps_ints _), dp_ltI (ltI_same s1 hd), tup_shaped _, tups_shaped _, _, rfl, ?_⟩⟩
  rw [any_datI, decide_eq_true (shr_tight l9)]
  exact iteF (q H1 s1)
theorem st13 (L : TL P w K mg base C T') (hr : Room 9 (XL P w K mg base f c A outer s H0 E).A) : ∃ t, PS (XL P w K mg base f c A outer s H0 E) (lb 13) t ∧
    ∀ (D : Ends) (H : Hp) (sc l x lo lt g a : Addr) (rs : List Row) (gs d : List Int) (i j : Nat) (o2 o6 o8 o10 o11 : Option V), Lw K C T' rs l x lo H → Lf rs → (j = 0 → noEven rs) → LtI K H lt (allF rs) → SqT K H g (gs.map V.int) → Grown rs gs → LeastTo (endK rs) i ((allF rs).length - 1) → (allF rs)[i]? = some d → H a = some (.tup (d.map V.int)) →
      (∀ H', Same H H' → D.nx (sg sc (some (.int (j : Int))) o2 (some (.ref l)) (some (.ref x)) (some (.ref lo)) o6 (some (.ref lt)) o8 (some (.ref g)) o10 o11 (some (.ref a))) H') →
      t D (sg sc (some (.int (j : Int))) o2 (some (.ref l)) (some (.ref x)) (some (.ref lo)) o6 (some (.ref lt)) o8 (some (.ref g)) o10 o11 (some (.ref a))) H := by
  have hu64 : (XL P w K mg base f c A outer s H0 E).A.units + 64 < cLine := by have := hr.un; omega
  refine ⟨_, ps_if (PW.pt (pw_and (pt_cmpR op_eq (pv 1) pe_int (nomark _)) (pw_and1 (PW.pt (pw_or (pt_cmpR (op_neD hu64) (pv 12) (pv 9) (nomark _)) (pw_or1 (pt_not (pt_val (pe_callH L.leo (hr.mono (by decide)) (by rfl) pass0 (pa_cons (pv 3) (pa_cons (pv 9) (pa_cons (pv 7) pa_nil)))))))))))) (pss_one (ps_ret pe_bl)) pss_nil, ?_⟩
  intro D H sc l x lo lt g a rs gs d i j o2 o6 o8 o10 o11 lw lf ne hf hg gr best hdi ha q
  have l11 := lf.len
  have l4 : rs.length ≤ 400 := by omega
  have l9 : rs.length ≤ 900 := by omega
  have lF := allF_len lf.in8
  obtain ⟨ys, hR⟩ := lw.rw lf
  obtain ⟨fs, hlt, ef⟩ := id hf
  refine ⟨_, rfl, rfl, _, rfl, ?_⟩
  rw [intEq]
  by_cases z : j = 0
  · subst z
    have ne := ne rfl
    have e := least_grown ne lf.okr l4 gr best hdi
    subst e
    refine iteT ⟨_, rfl, _, rfl, datI d, datI d, .tup (SqT.of ha) (dps_ints _), .tup hg (dps_ints _), tup_shaped _, tup_shaped _, _, rfl, ?_⟩
    rw [datI_eqv, decide_eq_true rfl]
    have fl : ∀ e ∈ allF rs, e.length ≤ 900 := fun e he => ((mem_allF l9).mp he).1.len
    refine iteF ⟨_, rfl, _, rfl, _, rfl, l, g, lt, ys, fs, rs, d, allF rs, rfl, hR, lf.okr, hg, fl d (List.mem_of_getElem? hdi), hlt, ef, by omega, fl, fun c hc => grown_all ne l9 gr hc, fun c hc e he => meet_fits ne ((mem_allF l9).mp hc).2 ((mem_allF l9).mp he).2, fun H1 s1 => ⟨_, rfl, iteF (q H1 s1)⟩⟩
  · have : ¬ ((j : Nat) : Int) = 0 := by omega
    rw [decide_eq_false this]
    exact iteF (iteF (q H (Same.refl _)))
end

def spLaw (K : PySem.W.Frag) (T : List (Addr × Str)) : Sp := fun vs H Q _ => ∃ (sc : Addr) (ns : List Int), vs = [.ref sc] ∧ SqL K H sc (ns.map V.int) ∧ LamX.Tabs T H ∧ ∀ H', Q (.bl true) H'
theorem ok_law {P : Program} {w : World} {K : PySem.W.Frag} {mg : Str → Option Value} {base : Heap} {C f c : Addr} {fd : FuncData} {T' : List (Addr × Str)} (F : FunM K "law" "law" sLaw c f fd) (L : TL P w K mg base C T') : FnOk P w K mg base (L2.CX P w) 10 f fd ["script"] (spLaw K T') := by
  refine F.okC scLaw (fun vs H Q E h => ?_) (fun A outer s H vs Q E hr h => ?_)
  · obtain ⟨sc, ns, rfl, _⟩ := h
    rfl
  · obtain ⟨sc, ns, rfl, hs, hT, q⟩ := h
    obtain ⟨t0, h0, q0⟩ := st0 (E := E) (A := A) (outer := outer) (s := s) (H0 := H) (f := f) (c := c) L hr
    obtain ⟨t1, h1, q1⟩ := st1 (E := E) (A := A) (outer := outer) (s := s) (H0 := H) (f := f) (c := c) L hr
    obtain ⟨t2, h2, q2⟩ := st2 (E := E) (A := A) (outer := outer) (s := s) (H0 := H) (f := f) (c := c) L hr
    obtain ⟨t3, h3, q3⟩ := st3 (E := E) (A := A) (outer := outer) (s := s) (H0 := H) (f := f) (c := c) L hr
    obtain ⟨t4, h4, q4⟩ := st4 (E := E) (A := A) (outer := outer) (s := s) (H0 := H) (f := f) (c := c) L hr
    obtain ⟨t5, h5, q5⟩ := st5 (E := E) (A := A) (outer := outer) (s := s) (H0 := H) (f := f) (c := c) L hr
    obtain ⟨t6, h6, q6⟩ := st6 (E := E) (A := A) (outer := outer) (s := s) (H0 := H) (f := f) (c := c) L hr
    obtain ⟨t7, h7, q7⟩ := st7 (E := E) (A := A) (outer := outer) (s := s) (H0 := H) (f := f) (c := c) L hr
    obtain ⟨t8, h8, q8⟩ := st8 (E := E) (A := A) (outer := outer) (s := s) (H0 := H) (f := f) (c := c) L hr
    obtain ⟨t9, h9, q9⟩ := st9 (E := E) (A := A) (outer := outer) (s := s) (H0 := H) (f := f) (c := c) L hr
    obtain ⟨t10, h10, q10⟩ := st10 (E := E) (A := A) (outer := outer) (s := s) (H0 := H) (f := f) (c := c) L hr
    obtain ⟨t11, h11, q11⟩ := st11 (E := E) (A := A) (outer := outer) (s := s) (H0 := H) (f := f) (c := c) L hr
    obtain ⟨t12, h12, q12⟩ := st12 (E := E) (A := A) (outer := outer) (s := s) (H0 := H) (f := f) (c := c) L hr
    obtain ⟨t13, h13, q13⟩ := st13 (E := E) (A := A) (outer := outer) (s := s) (H0 := H) (f := f) (c := c) L hr
    refine ⟨_, (pss_cons (ps_for (passes_of rfl) rfl (pi_range1 (by rfl) L.bi.range (pa_cons pe_int pa_nil)) (pg_name (i := 1) scLaw.nd rfl (.inl rfl))
        (pss_cons h0 (pss_cons h1 (pss_cons h2 (pss_cons h3 (pss_cons h4 (pss_cons h5 (pss_cons h6 (pss_cons h7 (pss_cons h8 (pss_cons h9 (pss_cons h10 (pss_cons h11 (pss_cons h12 (pss_one h13)))))))))))))))
      (pss_one (ps_ret pe_bl))), ?_⟩
    refine ⟨_, rfl, by decide, by decide, ?_⟩
    refine for_it walk_range (fun i σ H4 => ∃ (o1 o2 o3 o4 o5 o6 o7 o8 o9 o10 o11 o12 : Option V), σ = sg sc o1 o2 o3 o4 o5 o6 o7 o8 o9 o10 o11 o12 ∧ SqL K H4 sc (ns.map V.int) ∧ LamX.Tabs T' H4)
      ⟨none, none, none, none, none, none, none, none, none, none, none, none, rfl, hs, hT⟩ (fun _ _ _ _ _ => trivial) ?_ ?_
    · rintro i y σ H4 H4' hi ⟨o1, o2, o3, o4, o5, o6, o7, o8, o9, o10, o11, o12, rfl, hs4, hT4⟩ ⟨rfl, hy⟩
      have hy' : y = .int (i : Int) := by
        rw [hy]
        exact congrArg V.int (Int.zero_add _)
      subst hy'
      refine q0 _ H4' sc ns i _ _ _ _ _ _ _ _ _ _ _ hs4 fun mo hm => ?_
      refine q1 _ H4' sc ns i mo _ _ _ _ _ _ _ _ _ _ hs4 hm fun H1 l ys rs s1 hl hrs lf ne => ?_
      refine q2 _ H1 sc l ys rs _ _ _ _ _ _ _ _ _ _ _ (hT4.ext s1) hl hrs lf fun H2 x lo lc s2 lw2 hc2 => ?_
      refine q3 _ H2 sc l x lo lc rs _ _ _ _ _ _ _ _ lw2 lf hc2 fun H3 lt s3 hf3 => ?_
      have lw3 := lw2.same s3
      refine q4 _ H3 sc l x lo lt rs _ _ _ _ _ _ _ _ lw3 lf hf3 fun H5 tt g gs s5 htt hg gr => ?_
      have lw5 := lw3.same s5
      have hf5 := ltI_same s5 hf3
      refine q5 _ H5 sc l x lo lt rs _ _ _ _ _ _ _ _ lw5 lf hf5 fun H6 ld s6 hd6 => ?_
      have lw6 := lw5.same s6
      have hf6 := ltI_same s6 hf5
      have hg6 := sqT_same s6 hg
      have htt6 := s6 _ _ htt
      refine q6 _ H6 sc l x lo rs _ _ _ _ _ _ _ _ _ lw6 lf fun H7 fo e7 t7 hfo => ?_
      have lw7 := lw6.ext e7 t7
      have hf7 := ltI_ext e7 hf6
      have hd7 := ltI_ext e7 hd6
      have hg7 := sqT_ext e7 hg6
      have htt7 := e7 _ _ htt6 (by intro ps z; cases z)
      have nef : allF rs ≠ [] := allF_ne (by have := lf.len; omega)
      refine q7 _ H7 sc lt tt rs _ _ _ _ _ _ _ _ _ _ nef hf7 htt7 fun a k d best hdk ha => ?_
      refine q8 _ H7 sc l x lo lt g ld fo a rs gs d k _ _ _ _ lw7 lf hf7 hg7 gr hd7 hfo best hdk ha fun H8 s8 => ?_
      have lw8 := lw7.same s8
      refine q9 _ H8 sc x rs _ _ _ _ _ _ _ _ _ _ _ lw8.dr lf fun H9 s9 => ?_
      have lw9 := lw8.same s9
      refine q10 _ H9 sc x rs _ _ _ _ _ _ _ _ _ _ _ lw9.dr lf fun H10 s10 => ?_
      have lw10 := lw9.same s10
      have s710 := (s8.trans s9).trans s10
      refine q11 _ H10 sc x lt ld rs _ _ _ _ _ _ _ _ _ lw10.dr lf (ltI_same s710 hf7) (ltI_same s710 hd7) fun H11 s11 => ?_
      have lw11 := lw10.same s11
      have s711 := s710.trans s11
      refine q12 _ H11 sc x ld a rs d k _ _ _ _ _ _ _ _ _ lw11.dr lf (ltI_same s711 hd7) best hdk (s711 _ _ ha) fun H12 s12 => ?_
      have lw12 := lw11.same s12
      have s712 := s711.trans s12
      refine q13 _ H12 sc l x lo lt g a rs gs d k i _ _ _ _ _ lw12 lf ne (ltI_same s712 hf7) (sqT_same s712 hg7) gr best hdk (s712 _ _ ha) fun H13 s13 => ?_
      have lw13 := lw12.same s13
      refine ⟨_, _, _, _, _, _, _, _, _, _, _, _, rfl, ?_, lw13.tabs⟩
      have s4 := ((((s1.trans s2).trans s3).trans s5).trans s6)
      exact sqL_same (s712.trans s13) (sqL_ext e7 (sqL_same s4 hs4))
    · rintro σ H4 ⟨o1, o2, o3, o4, o5, o6, o7, o8, o9, o10, o11, o12, rfl, hs4, hT4⟩
      exact q H4

/-! ### the head: what the top leaves -/
def dd (x : Str) (i : Nat) : He.DefD := ⟨(x, none), x, x, defArgs (topS i), defBody (topS i), defScope (topS i), [], []⟩
def fns : List He.DefD := [dd "is_integer" 9, dd "is_row" 10, dd "is_row_of" 11, dd "is_name" 12, dd "read_unknown" 15, dd "order_of" 16, dd "one_form" 17, dd "read_sum" 18, dd "read_words" 23, dd "read_branch" 24, dd "read_row" 25, dd "read_rows" 26, dd "length_of" 27, dd "measured" 28, dd "labels_in" 29, dd "is_too_long" 30, dd "grown_from" 32, dd "way_in" 33, dd "too_long_ones" 34, dd "without_one" 35, dd "is_ascending" 36, dd "_law_row" 39, dd "_law_cell" 40, dd "_law_same" 41, dd "_law_draft" 42, dd "_law_branches" 43, dd "_law_spots" 44, dd "_law_outs" 45, dd "_law_begins" 46, dd "_law_ways" 47, dd "_law_long" 48, dd "_law_choices" 49, dd "_law_grown" 50, dd "_law_totals" 51, dd "_law_is_tight" 52, dd "_law_shrunk" 53, dd "_law_has_all" 54, dd "_law_is_least_of_all" 55, dd "law" 56, ⟨("Draft", some "__init__"), "__init__", "Draft.__init__", defArgs sInit, defBody sInit, defScope sInit, [], []⟩, ⟨("Draft", some "chosen"), "chosen", "Draft.chosen", defArgs sChosen, defBody sChosen, defScope sChosen, [], []⟩, ⟨("Draft", some "fits"), "fits", "Draft.fits", defArgs sFits, defBody sFits, defScope sFits, [], []⟩, ⟨("Draft", some "grown"), "grown", "Draft.grown", defArgs sGrown, defBody sGrown, defScope sGrown, [], []⟩, ⟨("Draft", some "all_fits"), "all_fits", "Draft.all_fits", defArgs sAll, defBody sAll, defScope sAll, [], []⟩, ⟨("Draft", some "many_fits"), "many_fits", "Draft.many_fits", defArgs sMany, defBody sMany, defScope sMany, [], []⟩, ⟨("Draft", some "least"), "least", "Draft.least", defArgs sLeast, defBody sLeast, defScope sLeast, [], []⟩, ⟨("Draft", some "tight"), "tight", "Draft.tight", defArgs sTight, defBody sTight, defScope sTight, [], []⟩, ⟨("Draft", some "shrunk"), "shrunk", "Draft.shrunk", defArgs sShr, defBody sShr, defScope sShr, [], []⟩]
def fas : List He.Fa := [.glo "is_integer", .glo "is_row", .glo "is_row_of", .glo "is_name", .glo "read_unknown", .glo "order_of", .glo "one_form", .glo "read_sum", .glo "read_words", .glo "read_branch", .glo "read_row", .glo "read_rows", .glo "length_of", .glo "measured", .glo "labels_in", .glo "is_too_long", .glo "grown_from", .glo "way_in", .glo "too_long_ones", .glo "without_one", .glo "is_ascending", .glo "_law_row", .glo "_law_cell", .glo "_law_same", .glo "_law_draft", .glo "_law_branches", .glo "_law_spots", .glo "_law_outs", .glo "_law_begins", .glo "_law_ways", .glo "_law_long", .glo "_law_choices", .glo "_law_grown", .glo "_law_totals", .glo "_law_is_tight", .glo "_law_shrunk", .glo "_law_has_all", .glo "_law_is_least_of_all", .glo "law", .glo "Draft", .glo "RANKS", .glo "NEAR_CODES", .free "len", .free "int", .free "str", .free "bool", .free "list", .free "tuple", .free "isinstance", .free "all", .free "sorted", .free "range", .free "enumerate", .free "zip", .free "dict", .free "min", .free "set", .free "any", .str "LETTERS" lettersS, .int "LOWEST" (-256), .int "HIGHEST" 255, .meth "Draft" "__init__", .meth "Draft" "chosen", .meth "Draft" "fits", .meth "Draft" "grown", .meth "Draft" "all_fits", .meth "Draft" "many_fits", .meth "Draft" "least", .meth "Draft" "tight", .meth "Draft" "shrunk", .noat "Draft" "parts", .noat "Draft" "forks", .noat "Draft" "aims", .noat "Draft" "outs", .cls "Draft", .mkr "Draft"]
def tabs : List He.Tab := [(fun K => He.ga K "RANKS", ["piece", "name", "in"]), (fun K => He.ga K "NEAR_CODES", ["ask", "go", "call"])]
def tfs : List He.Defn := [("law", none), ("Draft", some "least")]
def ranksL : List (Str × He.Dv) := [("piece", .int 0), ("name", .int 1), ("in", .int 2)]
def nearV : List (Str × He.Dv) := [("ask", .int 3), ("go", .int 5), ("call", .int 14)]
def exs (K : PySem.W.Frag) : Bool := He.valsB K (He.ga K "RANKS") ranksL && (He.valsB K (He.ga K "NEAR_CODES") nearV && He.eqO (PySem.W.nsIn K mainGlobals "combinations") (some (some (.type cmbT))))
abbrev RR : PySem.W.OpenRow := PySem.W.OpenLaw.row PySem.Challenge.rw_loadanywhere_k55_whole_fitting_choices
abbrev hkk : PySem.W.Hook := He.hookX 5 fas fns tabs tfs exs
def obb (s : PySem.W.SharedT) : He.AlX := He.obsX 5 fas fns tabs tfs exs (HandSHeadRun.getT s)
theorem obb_eq (s : PySem.W.SharedT) : obb s = hkk.obs s.abs := He.obsX_eq (HandSHeadRun.getT_eq s)
abbrev loosL : List Str := (["_wall", "WordError", "BadDraft", "BadChoice", "NoBranch", "LETTERS", "is_integer", "is_row", "is_row_of", "is_name", "RANKS", "read_unknown", "order_of", "one_form", "read_sum", "NEAR_CODES", "LOWEST", "HIGHEST", "read_words", "read_branch", "read_row", "read_rows", "length_of", "measured", "labels_in", "is_too_long", "grown_from", "way_in", "too_long_ones", "without_one"] : List Str) ++ (["is_ascending", "Draft", "_law_row", "_law_cell", "_law_same", "_law_draft", "_law_branches", "_law_spots", "_law_outs", "_law_begins", "_law_ways", "_law_long", "_law_choices", "_law_grown", "_law_totals", "_law_is_tight", "_law_shrunk", "_law_has_all", "_law_is_least_of_all"] : List Str)
theorem run_false (w : World) : HandSHeadRun.RunEqI RR (PySem.W.view RR.prog [0, 56]) hkk obb 6000 loosL (w.withFollow "special-get-raises" false) := by
  unfold HandSHeadRun.RunEqI
  kernel_rfl
theorem run_true (w : World) : HandSHeadRun.RunEqI RR (PySem.W.view RR.prog [0, 56]) hkk obb 6000 loosL (w.withFollow "special-get-raises" true) := by
  unfold HandSHeadRun.RunEqI
  kernel_rfl
theorem runL (w : World) : HandSHeadRun.RunEqI RR (PySem.W.view RR.prog [0, 56]) hkk obb 6000 loosL w :=
  PySem.W.byRow2 "special-get-raises" (P := fun w => HandSHeadRun.RunEqI RR (PySem.W.view RR.prog [0, 56]) hkk obb 6000 loosL w) run_false run_true w

/-! ### the facts -/
theorem bb {a b : Bool} (h : (a && b) = true) : a = true ∧ b = true := by simpa using h
theorem fun_of {K : PySem.W.Frag} {x q : Str} {st : Stmt} {f : Addr} {fd : FuncData} (F : FunD K x q (defArgs st) (defBody st) (defScope st) [] [] f fd) : Fun K x q st f fd := by
  obtain ⟨oc, od, dV, kV, doc, pm, an, cdv, ct, osl, e, lk, hc, hD, hK⟩ := F.ex
  rcases hD with ⟨_, rfl⟩ | ⟨z, _⟩
  · exact ⟨⟨oc, od, kV, doc, pm, an, cdv, ct, osl, e, lk, hc⟩, F.kp⟩
  · exact absurd rfl z
theorem funM_of {K : PySem.W.Frag} {x q : Str} {st : Stmt} {p : Str × Option Str} {fd : FuncData} (F : FunD K x q (defArgs st) (defBody st) (defScope st) [] [] (He.fAd K p) fd) : FunM K x q st (He.cT K p).1 (He.fAd K p) fd := by
  obtain ⟨oc, od, dV, kV, doc, pm, an, cdv, ct, osl, e, lk, hc, hD, hK⟩ := F.ex
  rcases hD with ⟨_, rfl⟩ | ⟨z, _⟩
  · obtain ⟨c, rfl⟩ := He.codeIn_ref hc
    have ec : (He.cT K p).1 = c := He.codeOf_eq lk (by rw [e])
    rw [ec]
    exact ⟨⟨oc, od, kV, doc, pm, an, ct, osl, e, lk, hc⟩, F.kp⟩
  · exact absurd rfl z
theorem has_of {P : Program} {w : World} {K : PySem.W.Frag} {mg : Str → Option Value} {base : Heap} {CX : CXT} {k : Nat} {x : Str} {ps : List Str} {sp : Sp} {f : Addr} {fd : FuncData} (g : mg x = some (.ref f)) (kp : PySem.W.keepIn K (.ref f) = true) (b : Binds K fd ps []) (o : FnOk P w K mg base CX k f fd ps sp) : Has P w K mg base CX k x ps sp :=
  ⟨⟨f, fd, g, kp, b, o⟩⟩
theorem keys_find {P : Params} {z : Str} : ∀ {l : List DictEntry} {ks : List Str}, l.map He.keyOf = He.keysIn P ks → z ∉ ks → l.find? (·.key.isStr z) = none ∧ l.any (·.refKey) = false
  | [], _, _, _ => ⟨rfl, rfl⟩
  | e :: r, [], h, _ => by cases h
  | e :: r, k :: ks, h, hz => by
    have h1 : He.keyOf e :: r.map He.keyOf = some (k, PyData.keyHash P k) :: He.keysIn P ks := h
    injection h1 with h2 h3
    obtain ⟨i1, i2⟩ := keys_find h3 (fun m => hz (List.mem_cons_of_mem _ m))
    obtain ⟨eh, ek, ev⟩ := e
    unfold He.keyOf at h2
    dsimp only at h2
    cases ek with
    | str x t =>
      have h4 : (x, eh) = (k, PyData.keyHash P k) := Option.some.inj h2
      have h5 : x = k := congrArg Prod.fst h4
      subst h5
      have nz : (x == z) = false := by
        rw [beq_eq_false_iff_ne]
        intro q
        exact hz (by rw [← q]; exact List.mem_cons_self ..)
      constructor
      · rw [List.find?_cons]
        have e1 : Value.isStr (.str x t) z = false := nz
        show (match Value.isStr (.str x t) z with | true => some _ | false => r.find? _) = none
        rw [e1]
        exact i1
      · rw [List.any_cons, i2]
        rfl
    | _ => cases h2
theorem ns_no {K : PySem.W.Frag} {w : World} {a : Addr} {ks : List Str} (h : He.dicW K a = some (He.keysIn w.params ks)) {z : Str} (hz : z ∉ ks) : PySem.W.nsIn K a z = some none := by
  unfold He.dicW at h
  cases q : K.lookup a with
  | none => rw [q] at h; cases h
  | some o =>
    obtain ⟨oc, od, dt, osl⟩ := o
    rw [q] at h
    cases oc with
    | type c =>
      cases od with
      | none =>
        cases dt with
        | dict es n =>
          have h1 : (match decide (c = "dict") && (osl.isEmpty && !(a == sysModules)) with
            | true => some (es.toList.map He.keyOf)
            | false => none) = some (He.keysIn w.params ks) := h
          split at h1
          · obtain ⟨f1, f2⟩ := keys_find (Option.some.inj h1) hz
            unfold PySem.W.nsIn
            rw [q]
            dsimp only
            rw [f1, f2]
            rfl
          · cases h1
        | _ => cases h
      | some b => cases dt <;> cases h
    | _ => cases od <;> cases dt <;> cases h
theorem rank_some {z : Str} {i : Int} (h : rank z = some i) : (z, He.Dv.int i) ∈ ranksL := by
  unfold rank at h
  split at h
  · rename_i e; cases h; rw [e]; exact List.mem_cons_self ..
  · split at h
    · rename_i e; cases h; rw [e]; exact List.mem_cons_of_mem _ (List.mem_cons_self ..)
    · split at h
      · rename_i e; cases h; rw [e]; exact List.mem_cons_of_mem _ (List.mem_cons_of_mem _ (List.mem_cons_self ..))
      · cases h
theorem rank_none {z : Str} (h : rank z = none) : z ∉ (["piece", "name", "in"] : List Str) := by
  unfold rank at h
  split at h
  · cases h
  · split at h
    · cases h
    · split at h
      · cases h
      · rename_i a b c
        intro m
        rcases List.mem_cons.mp m with m | m
        · exact a m
        · rcases List.mem_cons.mp m with m | m
          · exact b m
          · exact c (List.mem_singleton.mp m)
section
variable {w : World} {K : PySem.W.Frag} {mg : Str → Option Value} {h : Heap}
theorem dics_of (c : He.SaysX fas fns tabs tfs exs w h K) : He.dicW K (He.ga K "RANKS") = some (He.keysIn w.params ["piece", "name", "in"]) ∧ He.dicW K (He.ga K "NEAR_CODES") = some (He.keysIn w.params ["ask", "go", "call"]) := by
  have e : tabs.map (fun t => He.dicW K (t.1 K)) = tabs.map fun t => some (He.keysIn w.params t.2) := congrArg (fun z : He.AlT => z.2) c.t
  have z : [He.dicW K (He.ga K "RANKS"), He.dicW K (He.ga K "NEAR_CODES")] = [some (He.keysIn w.params ["piece", "name", "in"]), some (He.keysIn w.params ["ask", "go", "call"])] := e
  injection z with z1 z
  injection z with z2 z
  exact ⟨z1, z2⟩
theorem ranks_of (X : K.In h) (G : h.Ns mainGlobals mg) (c : He.SaysX fas fns tabs tfs exs w h K) (v : He.valsB K (He.ga K "RANKS") ranksL = true) : Ranks K w mg (He.ga K "RANKS") := by
  obtain ⟨e2, _⟩ := dics_of c
  refine ⟨He.glo_ok X G (c.t.d.fact 40 (f := .glo "RANKS") rfl), He.dicW_ok e2, fun z i hz => ?_, fun z hz => ns_no e2 (rank_none hz)⟩
  obtain ⟨u, h1, h2⟩ := He.valsB_ok v (rank_some hz)
  obtain ⟨t, rfl⟩ := (show ∃ t, u = Value.int i t from h2)
  exact ⟨t, h1⟩
theorem near_cases {z : Str} (hz : z ∈ nearL) : z = "ask" ∨ z = "go" ∨ z = "call" := by
  rcases List.mem_cons.mp hz with h | h
  · exact .inl h
  · rcases List.mem_cons.mp h with h | h
    · exact .inr (.inl h)
    · exact .inr (.inr (List.mem_singleton.mp h))
theorem near_of (X : K.In h) (G : h.Ns mainGlobals mg) (c : He.SaysX fas fns tabs tfs exs w h K) (v : He.valsB K (He.ga K "NEAR_CODES") nearV = true) : Near K w mg (He.ga K "NEAR_CODES") := by
  obtain ⟨_, e2⟩ := dics_of c
  refine ⟨He.glo_ok X G (c.t.d.fact 41 (f := .glo "NEAR_CODES") rfl), He.dicW_ok e2, fun z hz => ?_⟩
  have hv : ∃ i, (z, He.Dv.int i) ∈ nearV := by
    rcases near_cases hz with rfl | rfl | rfl
    · exact ⟨3, List.mem_cons_self ..⟩
    · exact ⟨5, List.mem_cons_of_mem _ (List.mem_cons_self ..)⟩
    · exact ⟨14, List.mem_cons_of_mem _ (List.mem_cons_of_mem _ (List.mem_cons_self ..))⟩
  obtain ⟨i, hi⟩ := hv
  obtain ⟨u, h1, h2⟩ := He.valsB_ok v hi
  exact ⟨u, h1⟩
theorem bi_of (X : K.In h) (G : h.Ns mainGlobals mg) (c : He.SaysD fas fns K) : Bi mg :=
  ⟨He.free_ok X G (c.fact 42 (f := .free "len") rfl), He.free_ok X G (c.fact 43 (f := .free "int") rfl), He.free_ok X G (c.fact 44 (f := .free "str") rfl), He.free_ok X G (c.fact 45 (f := .free "bool") rfl), He.free_ok X G (c.fact 46 (f := .free "list") rfl), He.free_ok X G (c.fact 47 (f := .free "tuple") rfl), He.free_ok X G (c.fact 48 (f := .free "isinstance") rfl), He.free_ok X G (c.fact 49 (f := .free "all") rfl), He.free_ok X G (c.fact 50 (f := .free "sorted") rfl), He.free_ok X G (c.fact 51 (f := .free "range") rfl), He.free_ok X G (c.fact 52 (f := .free "enumerate") rfl), He.free_ok X G (c.fact 53 (f := .free "zip") rfl), He.free_ok X G (c.fact 54 (f := .free "dict") rfl), He.free_ok X G (c.fact 55 (f := .free "min") rfl), He.free_ok X G (c.fact 56 (f := .free "set") rfl)⟩
end
abbrev cL (K : PySem.W.Frag) : Addr × Addr := He.cT K ("Draft", some "least")
abbrev TT (K : PySem.W.Frag) : List (Addr × Str) := [((cL K).2, qLe)]
theorem facts {P : Program} {w : World} {K : PySem.W.Frag} {mg : Str → Option Value} {h : Heap} (X : K.In h) (G : h.Ns mainGlobals mg) (c : He.SaysX fas fns tabs tfs exs w h K) :
    ∃ fd : FuncData, (∀ (s : Shared) (u : Value), BindsTo s fd ⟨[u], []⟩ [("script", u)]) ∧ ∀ base : Heap, K.In base → base.Ns mainGlobals mg → LamX.TabB base mg (cL K).1 (cL K).2 →
      FnOk P w K mg base (L2.CX P w) 10 (He.ga K "law") fd ["script"] (spLaw K (TT K)) := by
  obtain ⟨x1, hx⟩ := bb c.more
  obtain ⟨x2, x3⟩ := bb hx
  have T := bi_of X G c.t.d
  have R := ranks_of X G c x1
  have N := near_of X G c x2
  have hcm : mg "combinations" = some (.type cmbT) := PySem.W.mg_of X G (He.eqO_ok x3)
  have hany := He.free_ok X G (c.t.d.fact 57 (f := .free "any") rfl)
  obtain ⟨tLet, gLet⟩ := He.str_ok X G (c.t.d.fact 58 (f := .str "LETTERS" lettersS) rfl)
  obtain ⟨tLow, gLow⟩ := He.int_ok X G (c.t.d.fact 59 (f := .int "LOWEST" (-256)) rfl)
  obtain ⟨tHi, gHi⟩ := He.int_ok X G (c.t.d.fact 60 (f := .int "HIGHEST" 255) rfl)
  have gD : mg "Draft" = some (.ref (He.ga K "Draft")) := He.glo_ok X G (c.t.d.fact 39 (f := .glo "Draft") rfl)
  have CD := He.cls_ok (c.t.d.fact 74 (f := .cls "Draft") rfl)
  have KD := He.mkr_ok (c.t.d.fact 75 (f := .mkr "Draft") rfl)
  have B : DrC K (He.ga K "Draft") := ⟨CD, He.noat_ok (c.t.d.fact 70 (f := .noat "Draft" "parts") rfl), He.noat_ok (c.t.d.fact 71 (f := .noat "Draft" "forks") rfl), He.noat_ok (c.t.d.fact 72 (f := .noat "Draft" "aims") rfl), He.noat_ok (c.t.d.fact 73 (f := .noat "Draft" "outs") rfl)⟩
  obtain ⟨d0, D0⟩ := c.t.d.def_ 0 (d := dd "is_integer" 9) rfl
  have F0 : Fun K "is_integer" "is_integer" sIsInt (He.ga K "is_integer") d0 := fun_of D0
  have g0 : mg "is_integer" = some (.ref (He.ga K "is_integer")) := He.glo_ok X G (c.t.d.fact 0 (f := .glo "is_integer") rfl)
  have b0 : Binds K d0 ["thing"] [] := F0.binds fun _ _ _ _ _ _ us hl => match us, hl with | [_], _ => rfl
  obtain ⟨d1, D1⟩ := c.t.d.def_ 1 (d := dd "is_row" 10) rfl
  have F1 : Fun K "is_row" "is_row" sIsRow (He.ga K "is_row") d1 := fun_of D1
  have g1 : mg "is_row" = some (.ref (He.ga K "is_row")) := He.glo_ok X G (c.t.d.fact 1 (f := .glo "is_row") rfl)
  have b1 : Binds K d1 ["thing"] [] := F1.binds fun _ _ _ _ _ _ us hl => match us, hl with | [_], _ => rfl
  obtain ⟨d2, D2⟩ := c.t.d.def_ 2 (d := dd "is_row_of" 11) rfl
  have F2 : Fun K "is_row_of" "is_row_of" sIsRowOf (He.ga K "is_row_of") d2 := fun_of D2
  have g2 : mg "is_row_of" = some (.ref (He.ga K "is_row_of")) := He.glo_ok X G (c.t.d.fact 2 (f := .glo "is_row_of") rfl)
  have b2 : Binds K d2 ["thing", "many"] [] := F2.binds fun _ _ _ _ _ _ us hl => match us, hl with | [_, _], _ => rfl
  obtain ⟨d3, D3⟩ := c.t.d.def_ 3 (d := dd "is_name" 12) rfl
  have F3 : Fun K "is_name" "is_name" sIsName (He.ga K "is_name") d3 := fun_of D3
  have g3 : mg "is_name" = some (.ref (He.ga K "is_name")) := He.glo_ok X G (c.t.d.fact 3 (f := .glo "is_name") rfl)
  have b3 : Binds K d3 ["thing"] [] := F3.binds fun _ _ _ _ _ _ us hl => match us, hl with | [_], _ => rfl
  obtain ⟨d4, D4⟩ := c.t.d.def_ 4 (d := dd "read_unknown" 15) rfl
  have F4 : Fun K "read_unknown" "read_unknown" sReadUnk (He.ga K "read_unknown") d4 := fun_of D4
  have g4 : mg "read_unknown" = some (.ref (He.ga K "read_unknown")) := He.glo_ok X G (c.t.d.fact 4 (f := .glo "read_unknown") rfl)
  have b4 : Binds K d4 ["thing"] [] := F4.binds fun _ _ _ _ _ _ us hl => match us, hl with | [_], _ => rfl
  obtain ⟨d5, D5⟩ := c.t.d.def_ 5 (d := dd "order_of" 16) rfl
  have F5 : Fun K "order_of" "order_of" sOrderOf (He.ga K "order_of") d5 := fun_of D5
  have g5 : mg "order_of" = some (.ref (He.ga K "order_of")) := He.glo_ok X G (c.t.d.fact 5 (f := .glo "order_of") rfl)
  have b5 : Binds K d5 ["unknown"] [] := F5.binds fun _ _ _ _ _ _ us hl => match us, hl with | [_], _ => rfl
  obtain ⟨d6, D6⟩ := c.t.d.def_ 6 (d := dd "one_form" 17) rfl
  have F6 : Fun K "one_form" "one_form" sOneForm (He.ga K "one_form") d6 := fun_of D6
  have g6 : mg "one_form" = some (.ref (He.ga K "one_form")) := He.glo_ok X G (c.t.d.fact 6 (f := .glo "one_form") rfl)
  have b6 : Binds K d6 ["number", "multiples"] [] := F6.binds fun _ _ _ _ _ _ us hl => match us, hl with | [_, _], _ => rfl
  obtain ⟨d7, D7⟩ := c.t.d.def_ 7 (d := dd "read_sum" 18) rfl
  have F7 : Fun K "read_sum" "read_sum" sReadSum (He.ga K "read_sum") d7 := fun_of D7
  have g7 : mg "read_sum" = some (.ref (He.ga K "read_sum")) := He.glo_ok X G (c.t.d.fact 7 (f := .glo "read_sum") rfl)
  have b7 : Binds K d7 ["thing"] [] := F7.binds fun _ _ _ _ _ _ us hl => match us, hl with | [_], _ => rfl
  obtain ⟨d8, D8⟩ := c.t.d.def_ 8 (d := dd "read_words" 23) rfl
  have F8 : Fun K "read_words" "read_words" sReadWords (He.ga K "read_words") d8 := fun_of D8
  have g8 : mg "read_words" = some (.ref (He.ga K "read_words")) := He.glo_ok X G (c.t.d.fact 8 (f := .glo "read_words") rfl)
  have b8 : Binds K d8 ["thing"] [] := F8.binds fun _ _ _ _ _ _ us hl => match us, hl with | [_], _ => rfl
  obtain ⟨d9, D9⟩ := c.t.d.def_ 9 (d := dd "read_branch" 24) rfl
  have F9 : Fun K "read_branch" "read_branch" sReadBranch (He.ga K "read_branch") d9 := fun_of D9
  have g9 : mg "read_branch" = some (.ref (He.ga K "read_branch")) := He.glo_ok X G (c.t.d.fact 9 (f := .glo "read_branch") rfl)
  have b9 : Binds K d9 ["called", "n", "more"] [] := F9.binds fun _ _ _ _ _ _ us hl => match us, hl with | [_, _, _], _ => rfl
  obtain ⟨d10, D10⟩ := c.t.d.def_ 10 (d := dd "read_row" 25) rfl
  have F10 : Fun K "read_row" "read_row" sReadRow (He.ga K "read_row") d10 := fun_of D10
  have g10 : mg "read_row" = some (.ref (He.ga K "read_row")) := He.glo_ok X G (c.t.d.fact 10 (f := .glo "read_row") rfl)
  have b10 : Binds K d10 ["thing"] [] := F10.binds fun _ _ _ _ _ _ us hl => match us, hl with | [_], _ => rfl
  obtain ⟨d11, D11⟩ := c.t.d.def_ 11 (d := dd "read_rows" 26) rfl
  have F11 : Fun K "read_rows" "read_rows" sReadRows (He.ga K "read_rows") d11 := fun_of D11
  have g11 : mg "read_rows" = some (.ref (He.ga K "read_rows")) := He.glo_ok X G (c.t.d.fact 11 (f := .glo "read_rows") rfl)
  have b11 : Binds K d11 ["rows"] [] := F11.binds fun _ _ _ _ _ _ us hl => match us, hl with | [_], _ => rfl
  obtain ⟨d12, D12⟩ := c.t.d.def_ 12 (d := dd "length_of" 27) rfl
  have F12 : Fun K "length_of" "length_of" sLengthOf (He.ga K "length_of") d12 := fun_of D12
  have g12 : mg "length_of" = some (.ref (He.ga K "length_of")) := He.glo_ok X G (c.t.d.fact 12 (f := .glo "length_of") rfl)
  have b12 : Binds K d12 ["row", "begin", "is_far"] [] := F12.binds fun _ _ _ _ _ _ us hl => match us, hl with | [_, _, _], _ => rfl
  obtain ⟨d13, D13⟩ := c.t.d.def_ 13 (d := dd "measured" 28) rfl
  have F13 : Fun K "measured" "measured" sMeasured (He.ga K "measured") d13 := fun_of D13
  have g13 : mg "measured" = some (.ref (He.ga K "measured")) := He.glo_ok X G (c.t.d.fact 13 (f := .glo "measured") rfl)
  have b13 : Binds K d13 ["rows", "far"] [] := F13.binds fun _ _ _ _ _ _ us hl => match us, hl with | [_, _], _ => rfl
  obtain ⟨d14, D14⟩ := c.t.d.def_ 14 (d := dd "labels_in" 29) rfl
  have F14 : Fun K "labels_in" "labels_in" sLabelsIn (He.ga K "labels_in") d14 := fun_of D14
  have g14 : mg "labels_in" = some (.ref (He.ga K "labels_in")) := He.glo_ok X G (c.t.d.fact 14 (f := .glo "labels_in") rfl)
  have b14 : Binds K d14 ["rows"] [] := F14.binds fun _ _ _ _ _ _ us hl => match us, hl with | [_], _ => rfl
  obtain ⟨d15, D15⟩ := c.t.d.def_ 15 (d := dd "is_too_long" 30) rfl
  have F15 : Fun K "is_too_long" "is_too_long" sIsTooLong (He.ga K "is_too_long") d15 := fun_of D15
  have g15 : mg "is_too_long" = some (.ref (He.ga K "is_too_long")) := He.glo_ok X G (c.t.d.fact 15 (f := .glo "is_too_long") rfl)
  have b15 : Binds K d15 ["way"] [] := F15.binds fun _ _ _ _ _ _ us hl => match us, hl with | [_], _ => rfl
  obtain ⟨d16, D16⟩ := c.t.d.def_ 16 (d := dd "grown_from" 32) rfl
  have F16 : Fun K "grown_from" "grown_from" sGrownFrom (He.ga K "grown_from") d16 := fun_of D16
  have g16 : mg "grown_from" = some (.ref (He.ga K "grown_from")) := He.glo_ok X G (c.t.d.fact 16 (f := .glo "grown_from") rfl)
  have b16 : Binds K d16 ["parts", "aims", "far"] [] := F16.binds fun _ _ _ _ _ _ us hl => match us, hl with | [_, _, _], _ => rfl
  obtain ⟨d17, D17⟩ := c.t.d.def_ 17 (d := dd "way_in" 33) rfl
  have F17 : Fun K "way_in" "way_in" sWayIn (He.ga K "way_in") d17 := fun_of D17
  have g17 : mg "way_in" = some (.ref (He.ga K "way_in")) := He.glo_ok X G (c.t.d.fact 17 (f := .glo "way_in") rfl)
  have b17 : Binds K d17 ["aims", "offsets", "index"] [] := F17.binds fun _ _ _ _ _ _ us hl => match us, hl with | [_, _, _], _ => rfl
  obtain ⟨d18, D18⟩ := c.t.d.def_ 18 (d := dd "too_long_ones" 34) rfl
  have F18 : Fun K "too_long_ones" "too_long_ones" sTooLong (He.ga K "too_long_ones") d18 := fun_of D18
  have g18 : mg "too_long_ones" = some (.ref (He.ga K "too_long_ones")) := He.glo_ok X G (c.t.d.fact 18 (f := .glo "too_long_ones") rfl)
  have b18 : Binds K d18 ["parts", "aims", "far"] [] := F18.binds fun _ _ _ _ _ _ us hl => match us, hl with | [_, _, _], _ => rfl
  obtain ⟨d19, D19⟩ := c.t.d.def_ 19 (d := dd "without_one" 35) rfl
  have F19 : Fun K "without_one" "without_one" sWo (He.ga K "without_one") d19 := fun_of D19
  have g19 : mg "without_one" = some (.ref (He.ga K "without_one")) := He.glo_ok X G (c.t.d.fact 19 (f := .glo "without_one") rfl)
  have b19 : Binds K d19 ["row", "index"] [] := F19.binds fun _ _ _ _ _ _ us hl => match us, hl with | [_, _], _ => rfl
  obtain ⟨d20, D20⟩ := c.t.d.def_ 20 (d := dd "is_ascending" 36) rfl
  have F20 : Fun K "is_ascending" "is_ascending" sAsc (He.ga K "is_ascending") d20 := fun_of D20
  have g20 : mg "is_ascending" = some (.ref (He.ga K "is_ascending")) := He.glo_ok X G (c.t.d.fact 20 (f := .glo "is_ascending") rfl)
  have b20 : Binds K d20 ["row"] [] := F20.binds fun _ _ _ _ _ _ us hl => match us, hl with | [_], _ => rfl
  obtain ⟨d21, D21⟩ := c.t.d.def_ 21 (d := dd "_law_row" 39) rfl
  have F21 : Fun K "_law_row" "_law_row" sLRow (He.ga K "_law_row") d21 := fun_of D21
  have g21 : mg "_law_row" = some (.ref (He.ga K "_law_row")) := He.glo_ok X G (c.t.d.fact 21 (f := .glo "_law_row") rfl)
  have b21 : Binds K d21 ["cell", "sizes"] [] := F21.binds fun _ _ _ _ _ _ us hl => match us, hl with | [_, _], _ => rfl
  obtain ⟨d22, D22⟩ := c.t.d.def_ 22 (d := dd "_law_cell" 40) rfl
  have F22 : Fun K "_law_cell" "_law_cell" sLCell (He.ga K "_law_cell") d22 := fun_of D22
  have g22 : mg "_law_cell" = some (.ref (He.ga K "_law_cell")) := He.glo_ok X G (c.t.d.fact 22 (f := .glo "_law_cell") rfl)
  have b22 : Binds K d22 ["script", "k"] [] := F22.binds fun _ _ _ _ _ _ us hl => match us, hl with | [_, _], _ => rfl
  obtain ⟨d23, D23⟩ := c.t.d.def_ 23 (d := dd "_law_same" 41) rfl
  have F23 : Fun K "_law_same" "_law_same" sSame (He.ga K "_law_same") d23 := fun_of D23
  have g23 : mg "_law_same" = some (.ref (He.ga K "_law_same")) := He.glo_ok X G (c.t.d.fact 23 (f := .glo "_law_same") rfl)
  have b23 : Binds K d23 ["found", "due"] [] := F23.binds fun _ _ _ _ _ _ us hl => match us, hl with | [_, _], _ => rfl
  obtain ⟨d24, D24⟩ := c.t.d.def_ 24 (d := dd "_law_draft" 42) rfl
  have F24 : Fun K "_law_draft" "_law_draft" sLDraft (He.ga K "_law_draft") d24 := fun_of D24
  have g24 : mg "_law_draft" = some (.ref (He.ga K "_law_draft")) := He.glo_ok X G (c.t.d.fact 24 (f := .glo "_law_draft") rfl)
  have b24 : Binds K d24 ["cell", "most", "is_even"] [] := F24.binds fun _ _ _ _ _ _ us hl => match us, hl with | [_, _, _], _ => rfl
  obtain ⟨d25, D25⟩ := c.t.d.def_ 25 (d := dd "_law_branches" 43) rfl
  have F25 : Fun K "_law_branches" "_law_branches" sLBr (He.ga K "_law_branches") d25 := fun_of D25
  have g25 : mg "_law_branches" = some (.ref (He.ga K "_law_branches")) := He.glo_ok X G (c.t.d.fact 25 (f := .glo "_law_branches") rfl)
  have b25 : Binds K d25 ["rows"] [] := F25.binds fun _ _ _ _ _ _ us hl => match us, hl with | [_], _ => rfl
  obtain ⟨d26, D26⟩ := c.t.d.def_ 26 (d := dd "_law_spots" 44) rfl
  have F26 : Fun K "_law_spots" "_law_spots" sLSp (He.ga K "_law_spots") d26 := fun_of D26
  have g26 : mg "_law_spots" = some (.ref (He.ga K "_law_spots")) := He.glo_ok X G (c.t.d.fact 26 (f := .glo "_law_spots") rfl)
  have b26 : Binds K d26 ["rows"] [] := F26.binds fun _ _ _ _ _ _ us hl => match us, hl with | [_], _ => rfl
  obtain ⟨d27, D27⟩ := c.t.d.def_ 27 (d := dd "_law_outs" 45) rfl
  have F27 : Fun K "_law_outs" "_law_outs" sLOu (He.ga K "_law_outs") d27 := fun_of D27
  have g27 : mg "_law_outs" = some (.ref (He.ga K "_law_outs")) := He.glo_ok X G (c.t.d.fact 27 (f := .glo "_law_outs") rfl)
  have b27 : Binds K d27 ["rows"] [] := F27.binds fun _ _ _ _ _ _ us hl => match us, hl with | [_], _ => rfl
  obtain ⟨d28, D28⟩ := c.t.d.def_ 28 (d := dd "_law_begins" 46) rfl
  have F28 : Fun K "_law_begins" "_law_begins" sLBe (He.ga K "_law_begins") d28 := fun_of D28
  have g28 : mg "_law_begins" = some (.ref (He.ga K "_law_begins")) := He.glo_ok X G (c.t.d.fact 28 (f := .glo "_law_begins") rfl)
  have b28 : Binds K d28 ["rows", "far"] [] := F28.binds fun _ _ _ _ _ _ us hl => match us, hl with | [_, _], _ => rfl
  obtain ⟨d29, D29⟩ := c.t.d.def_ 29 (d := dd "_law_ways" 47) rfl
  have F29 : Fun K "_law_ways" "_law_ways" sLWa (He.ga K "_law_ways") d29 := fun_of D29
  have g29 : mg "_law_ways" = some (.ref (He.ga K "_law_ways")) := He.glo_ok X G (c.t.d.fact 29 (f := .glo "_law_ways") rfl)
  have b29 : Binds K d29 ["rows", "far"] [] := F29.binds fun _ _ _ _ _ _ us hl => match us, hl with | [_, _], _ => rfl
  obtain ⟨d30, D30⟩ := c.t.d.def_ 30 (d := dd "_law_long" 48) rfl
  have F30 : Fun K "_law_long" "_law_long" sLLo (He.ga K "_law_long") d30 := fun_of D30
  have g30 : mg "_law_long" = some (.ref (He.ga K "_law_long")) := He.glo_ok X G (c.t.d.fact 30 (f := .glo "_law_long") rfl)
  have b30 : Binds K d30 ["rows", "far"] [] := F30.binds fun _ _ _ _ _ _ us hl => match us, hl with | [_, _], _ => rfl
  obtain ⟨d31, D31⟩ := c.t.d.def_ 31 (d := dd "_law_choices" 49) rfl
  have F31 : Fun K "_law_choices" "_law_choices" sLCh (He.ga K "_law_choices") d31 := fun_of D31
  have g31 : mg "_law_choices" = some (.ref (He.ga K "_law_choices")) := He.glo_ok X G (c.t.d.fact 31 (f := .glo "_law_choices") rfl)
  have b31 : Binds K d31 ["rows"] [] := F31.binds fun _ _ _ _ _ _ us hl => match us, hl with | [_], _ => rfl
  obtain ⟨d32, D32⟩ := c.t.d.def_ 32 (d := dd "_law_grown" 50) rfl
  have F32 : Fun K "_law_grown" "_law_grown" sLGr (He.ga K "_law_grown") d32 := fun_of D32
  have g32 : mg "_law_grown" = some (.ref (He.ga K "_law_grown")) := He.glo_ok X G (c.t.d.fact 32 (f := .glo "_law_grown") rfl)
  have b32 : Binds K d32 ["rows"] [] := F32.binds fun _ _ _ _ _ _ us hl => match us, hl with | [_], _ => rfl
  obtain ⟨d33, D33⟩ := c.t.d.def_ 33 (d := dd "_law_totals" 51) rfl
  have F33 : Fun K "_law_totals" "_law_totals" sLTo (He.ga K "_law_totals") d33 := fun_of D33
  have g33 : mg "_law_totals" = some (.ref (He.ga K "_law_totals")) := He.glo_ok X G (c.t.d.fact 33 (f := .glo "_law_totals") rfl)
  have b33 : Binds K d33 ["rows", "choices"] [] := F33.binds fun _ _ _ _ _ _ us hl => match us, hl with | [_, _], _ => rfl
  obtain ⟨d34, D34⟩ := c.t.d.def_ 34 (d := dd "_law_is_tight" 52) rfl
  have F34 : Fun K "_law_is_tight" "_law_is_tight" sLTi (He.ga K "_law_is_tight") d34 := fun_of D34
  have g34 : mg "_law_is_tight" = some (.ref (He.ga K "_law_is_tight")) := He.glo_ok X G (c.t.d.fact 34 (f := .glo "_law_is_tight") rfl)
  have b34 : Binds K d34 ["rows", "outs", "far"] [] := F34.binds fun _ _ _ _ _ _ us hl => match us, hl with | [_, _, _], _ => rfl
  obtain ⟨d35, D35⟩ := c.t.d.def_ 35 (d := dd "_law_shrunk" 53) rfl
  have F35 : Fun K "_law_shrunk" "_law_shrunk" sLSh (He.ga K "_law_shrunk") d35 := fun_of D35
  have g35 : mg "_law_shrunk" = some (.ref (He.ga K "_law_shrunk")) := He.glo_ok X G (c.t.d.fact 35 (f := .glo "_law_shrunk") rfl)
  have b35 : Binds K d35 ["rows", "outs"] [] := F35.binds fun _ _ _ _ _ _ us hl => match us, hl with | [_, _], _ => rfl
  obtain ⟨d36, D36⟩ := c.t.d.def_ 36 (d := dd "_law_has_all" 54) rfl
  have F36 : Fun K "_law_has_all" "_law_has_all" sLHa (He.ga K "_law_has_all") d36 := fun_of D36
  have g36 : mg "_law_has_all" = some (.ref (He.ga K "_law_has_all")) := He.glo_ok X G (c.t.d.fact 36 (f := .glo "_law_has_all") rfl)
  have b36 : Binds K d36 ["far", "grown"] [] := F36.binds fun _ _ _ _ _ _ us hl => match us, hl with | [_, _], _ => rfl
  obtain ⟨d37, D37⟩ := c.t.d.def_ 37 (d := dd "_law_is_least_of_all" 55) rfl
  have F37 : Fun K "_law_is_least_of_all" "_law_is_least_of_all" sLLe (He.ga K "_law_is_least_of_all") d37 := fun_of D37
  have g37 : mg "_law_is_least_of_all" = some (.ref (He.ga K "_law_is_least_of_all")) := He.glo_ok X G (c.t.d.fact 37 (f := .glo "_law_is_least_of_all") rfl)
  have b37 : Binds K d37 ["rows", "grown", "fits"] [] := F37.binds fun _ _ _ _ _ _ us hl => match us, hl with | [_, _, _], _ => rfl
  obtain ⟨d38, D38⟩ := c.t.d.def_ 38 (d := dd "law" 56) rfl
  have F38 : Fun K "law" "law" sLaw (He.ga K "law") d38 := fun_of D38
  have g38 : mg "law" = some (.ref (He.ga K "law")) := He.glo_ok X G (c.t.d.fact 38 (f := .glo "law") rfl)
  have b38 : Binds K d38 ["script"] [] := F38.binds fun _ _ _ _ _ _ us hl => match us, hl with | [_], _ => rfl
  obtain ⟨e0, E0⟩ := c.t.d.def_ 39 (d := ⟨("Draft", some "__init__"), "__init__", "Draft.__init__", defArgs sInit, defBody sInit, defScope sInit, [], []⟩) rfl
  have M0 : Fun K "__init__" "Draft.__init__" sInit (He.ma K (He.ga K "Draft") "__init__") e0 := fun_of E0
  have q0 : Binds K e0 ["self", "rows"] [] := M0.binds fun _ _ _ _ _ _ us hl => match us, hl with | [_, _], _ => rfl
  have a0 := He.meth_ok (c.t.d.fact 61 (f := .meth "Draft" "__init__") rfl)
  obtain ⟨e1, E1⟩ := c.t.d.def_ 40 (d := ⟨("Draft", some "chosen"), "chosen", "Draft.chosen", defArgs sChosen, defBody sChosen, defScope sChosen, [], []⟩) rfl
  have M1 : Fun K "chosen" "Draft.chosen" sChosen (He.ma K (He.ga K "Draft") "chosen") e1 := fun_of E1
  have q1 : Binds K e1 ["self", "thing"] [] := M1.binds fun _ _ _ _ _ _ us hl => match us, hl with | [_, _], _ => rfl
  have a1 := He.meth_ok (c.t.d.fact 62 (f := .meth "Draft" "chosen") rfl)
  obtain ⟨e2, E2⟩ := c.t.d.def_ 41 (d := ⟨("Draft", some "fits"), "fits", "Draft.fits", defArgs sFits, defBody sFits, defScope sFits, [], []⟩) rfl
  have M2 : Fun K "fits" "Draft.fits" sFits (He.ma K (He.ga K "Draft") "fits") e2 := fun_of E2
  have q2 : Binds K e2 ["self", "choice"] [] := M2.binds fun _ _ _ _ _ _ us hl => match us, hl with | [_, _], _ => rfl
  have a2 := He.meth_ok (c.t.d.fact 63 (f := .meth "Draft" "fits") rfl)
  obtain ⟨e3, E3⟩ := c.t.d.def_ 42 (d := ⟨("Draft", some "grown"), "grown", "Draft.grown", defArgs sGrown, defBody sGrown, defScope sGrown, [], []⟩) rfl
  have M3 : Fun K "grown" "Draft.grown" sGrown (He.ma K (He.ga K "Draft") "grown") e3 := fun_of E3
  have q3 : Binds K e3 ["self"] [] := M3.binds fun _ _ _ _ _ _ us hl => match us, hl with | [_], _ => rfl
  have a3 := He.meth_ok (c.t.d.fact 64 (f := .meth "Draft" "grown") rfl)
  obtain ⟨e4, E4⟩ := c.t.d.def_ 43 (d := ⟨("Draft", some "all_fits"), "all_fits", "Draft.all_fits", defArgs sAll, defBody sAll, defScope sAll, [], []⟩) rfl
  have M4 : Fun K "all_fits" "Draft.all_fits" sAll (He.ma K (He.ga K "Draft") "all_fits") e4 := fun_of E4
  have q4 : Binds K e4 ["self"] [] := M4.binds fun _ _ _ _ _ _ us hl => match us, hl with | [_], _ => rfl
  have a4 := He.meth_ok (c.t.d.fact 65 (f := .meth "Draft" "all_fits") rfl)
  obtain ⟨e5, E5⟩ := c.t.d.def_ 44 (d := ⟨("Draft", some "many_fits"), "many_fits", "Draft.many_fits", defArgs sMany, defBody sMany, defScope sMany, [], []⟩) rfl
  have M5 : Fun K "many_fits" "Draft.many_fits" sMany (He.ma K (He.ga K "Draft") "many_fits") e5 := fun_of E5
  have q5 : Binds K e5 ["self"] [] := M5.binds fun _ _ _ _ _ _ us hl => match us, hl with | [_], _ => rfl
  have a5 := He.meth_ok (c.t.d.fact 66 (f := .meth "Draft" "many_fits") rfl)
  obtain ⟨e6, E6⟩ := c.t.d.def_ 45 (d := ⟨("Draft", some "least"), "least", "Draft.least", defArgs sLeast, defBody sLeast, defScope sLeast, [], []⟩) rfl
  have M6 : Fun K "least" "Draft.least" sLeast (He.ma K (He.ga K "Draft") "least") e6 := fun_of E6
  have q6 : Binds K e6 ["self"] [] := M6.binds fun _ _ _ _ _ _ us hl => match us, hl with | [_], _ => rfl
  have a6 := He.meth_ok (c.t.d.fact 67 (f := .meth "Draft" "least") rfl)
  obtain ⟨e7, E7⟩ := c.t.d.def_ 46 (d := ⟨("Draft", some "tight"), "tight", "Draft.tight", defArgs sTight, defBody sTight, defScope sTight, [], []⟩) rfl
  have M7 : Fun K "tight" "Draft.tight" sTight (He.ma K (He.ga K "Draft") "tight") e7 := fun_of E7
  have q7 : Binds K e7 ["self"] [] := M7.binds fun _ _ _ _ _ _ us hl => match us, hl with | [_], _ => rfl
  have a7 := He.meth_ok (c.t.d.fact 68 (f := .meth "Draft" "tight") rfl)
  obtain ⟨e8, E8⟩ := c.t.d.def_ 47 (d := ⟨("Draft", some "shrunk"), "shrunk", "Draft.shrunk", defArgs sShr, defBody sShr, defScope sShr, [], []⟩) rfl
  have M8 : Fun K "shrunk" "Draft.shrunk" sShr (He.ma K (He.ga K "Draft") "shrunk") e8 := fun_of E8
  have q8 : Binds K e8 ["self"] [] := M8.binds fun _ _ _ _ _ _ us hl => match us, hl with | [_], _ => rfl
  have a8 := He.meth_ok (c.t.d.fact 69 (f := .meth "Draft" "shrunk") rfl)
  have CFn : FunM K "law" "law" sLaw (He.cT K ("law", none)).1 (He.ga K "law") d38 := funM_of (p := ("law", none)) D38
  have CLe : FunM K "least" "Draft.least" sLeast (cL K).1 (He.ma K (He.ga K "Draft") "least") e6 := funM_of (p := ("Draft", some "least")) E6
  refine ⟨d38, fun s u => ?_, fun base Xb Gb TL1 => ?_⟩
  · exact FunD.bindsA (ps := ["script"]) D38 (fun _ _ _ _ _ _ us hl => match us, hl with | [_], _ => rfl) s [u] rfl
  have H0 := has_of (base := base) (P := P) (w := w) g0 D0.kp b0 (ok_isInt F0 T)
  have H1 := has_of (base := base) (P := P) (w := w) g1 D1.kp b1 (ok_isRow F1 T)
  have H2 := has_of (base := base) (P := P) (w := w) g2 D2.kp b2 (ok_isRowOf F2 T (H1.mono (by decide)))
  have H3 := has_of (base := base) (P := P) (w := w) g3 D3.kp b3 (ok_isName F3 T gLet)
  have H4 := has_of (base := base) (P := P) (w := w) g4 D4.kp b4 (ok_readUnk F4 T R (H2.mono (by decide)) (H0.mono (by decide)) (H3.mono (by decide)))
  have H6 := has_of (base := base) (P := P) (w := w) g6 D6.kp b6 (ok_oneForm F6 T R F5 g5)
  have H7 := has_of (base := base) (P := P) (w := w) g7 D7.kp b7 (ok_readSum F7 (H0.mono (by decide)) (H2.mono (by decide)) (H1.mono (by decide)) (H4.mono (by decide)) (H6.mono (by decide)))
  have H8 := has_of (base := base) (P := P) (w := w) g8 D8.kp b8 (ok_readWords F8 T (H1.mono (by decide)) (H7.mono (by decide)))
  have H9 := has_of (base := base) (P := P) (w := w) g9 D9.kp b9 (ok_readBranch F9 T N (H3.mono (by decide)) (H0.mono (by decide)))
  have H10 := has_of (base := base) (P := P) (w := w) g10 D10.kp b10 (ok_readRow F10 T (H1.mono (by decide)) (H3.mono (by decide)) (H0.mono (by decide)) (H9.mono (by decide)) (H8.mono (by decide)))
  have HR := has_of (base := base) (P := P) (w := w) g1 D1.kp b1 (ok_isRowR F1 T)
  have H11 := has_of (base := base) (P := P) (w := w) g11 D11.kp b11 (ok_readRows F11 T (HR.mono (by decide)) (H10.mono (by decide)))
  have H12 := has_of (base := base) (P := P) (w := w) g12 D12.kp b12 (ok_lengthOf F12 T)
  have H13 := has_of (base := base) (P := P) (w := w) g13 D13.kp b13 (ok_measured F13 T (H12.mono (by decide)))
  have H14 := has_of (base := base) (P := P) (w := w) g14 D14.kp b14 (ok_labelsIn F14 T)
  have H15 := has_of (base := base) (P := P) (w := w) g15 D15.kp b15 (ok_isTooLong F15 gLow gHi)
  have H17 := has_of (base := base) (P := P) (w := w) g17 D17.kp b17 (ok_wayIn F17)
  have H18 := has_of (base := base) (P := P) (w := w) g18 D18.kp b18 (ok_tooLong F18 (H13.mono (by decide)) (H15.mono (by decide)) (H17.mono (by decide)))
  have H16 := has_of (base := base) (P := P) (w := w) g16 D16.kp b16 (ok_grownFrom F16 T (H18.mono (by decide)))
  have H19 := has_of (base := base) (P := P) (w := w) g19 D19.kp b19 (ok_wo F19 T)
  have H20 := has_of (base := base) (P := P) (w := w) g20 D20.kp b20 (ok_asc F20 T)
  have H21 := has_of (base := base) (P := P) (w := w) g21 D21.kp b21 (ok_lrow F21 T)
  have H22 := has_of (base := base) (P := P) (w := w) g22 D22.kp b22 (ok_lcell F22 T)
  have H24 := has_of (base := base) (P := P) (w := w) g24 D24.kp b24 (ok_ldraft F24 T (H21.mono (by decide)))
  have H25 := has_of (base := base) (P := P) (w := w) g25 D25.kp b25 (ok_lbr F25 T)
  have H26 := has_of (base := base) (P := P) (w := w) g26 D26.kp b26 (ok_lsp F26 T)
  have H27 := has_of (base := base) (P := P) (w := w) g27 D27.kp b27 (ok_lou F27 T (H26.mono (by decide)) (H25.mono (by decide)))
  have H28 := has_of (base := base) (P := P) (w := w) g28 D28.kp b28 (ok_lbe F28 T)
  have H29 := has_of (base := base) (P := P) (w := w) g29 D29.kp b29 (ok_lwa F29 T (H28.mono (by decide)) (H26.mono (by decide)) (H25.mono (by decide)))
  have H30 := has_of (base := base) (P := P) (w := w) g30 D30.kp b30 (ok_llo F30 T (H29.mono (by decide)))
  have H32 := has_of (base := base) (P := P) (w := w) g32 D32.kp b32 (ok_lgr F32 T (H27.mono (by decide)) (H30.mono (by decide)))
  have H31 := has_of (base := base) (P := P) (w := w) g31 D31.kp b31 (ok_lch F31 T (H27.mono (by decide)) (H25.mono (by decide)))
  have H33 := has_of (base := base) (P := P) (w := w) g33 D33.kp b33 (ok_lto F33 (H28.mono (by decide)))
  have H34 := has_of (base := base) (P := P) (w := w) g34 D34.kp b34 (ok_lti F34 (H30.mono (by decide)))
  have H35 := has_of (base := base) (P := P) (w := w) g35 D35.kp b35 (ok_lsh F35 T (H25.mono (by decide)) (H30.mono (by decide)))
  have H36 := has_of (base := base) (P := P) (w := w) g36 D36.kp b36 (ok_lha F36 T)
  have H37 := has_of (base := base) (P := P) (w := w) g37 D37.kp b37 (ok_lle F37 T (H36.mono (by decide)) (H30.mono (by decide)))
  have S0 := has_of (base := base) (P := P) (w := w) g23 D23.kp b23 (ok_same0 F23)
  have S1 := has_of (base := base) (P := P) (w := w) g23 D23.kp b23 (ok_same F23 T S0)
  have S2 := has_of (base := base) (P := P) (w := w) g23 D23.kp b23 (ok_same F23 T S1)
  have S3 := has_of (base := base) (P := P) (w := w) g23 D23.kp b23 (ok_same F23 T S2)
  have S4 := has_of (base := base) (P := P) (w := w) g23 D23.kp b23 (ok_same F23 T S3)
  have S5 := has_of (base := base) (P := P) (w := w) g23 D23.kp b23 (ok_same F23 T S4)
  have S6 := has_of (base := base) (P := P) (w := w) g23 D23.kp b23 (ok_same F23 T S5)
  have S7 := has_of (base := base) (P := P) (w := w) g23 D23.kp b23 (ok_same F23 T S6)
  have YC : HasM P w K mg base CX0 3 (He.ga K "Draft") "chosen" ["self", "thing"] (spChosen0 K (He.ga K "Draft")) := ⟨⟨_, e1, a1, q1, ok_chosen0 M1 T B (H1.mono (by decide)) (H0.mono (by decide)) (H20.mono (by decide))⟩, CD⟩
  have YF : HasM P w K mg base CX0 4 (He.ga K "Draft") "fits" ["self", "choice"] (spFits K (He.ga K "Draft")) := ⟨⟨_, e2, a2, q2, ok_fits0 M2 B YC (H18.mono (by decide))⟩, CD⟩
  have YG : HasM P w K mg base CX0 5 (He.ga K "Draft") "grown" ["self"] (spGrown K (He.ga K "Draft")) := ⟨⟨_, e3, a3, q3, ok_grown M3 B (H16.mono (by decide))⟩, CD⟩
  have YA : HasM P w K mg base CX0 5 (He.ga K "Draft") "all_fits" ["self"] (spAll K (He.ga K "Draft")) := ⟨⟨_, e4, a4, q4, ok_all M4 T hcm B (H18.mono (by decide))⟩, CD⟩
  have YM : HasM P w K mg base CX0 6 (He.ga K "Draft") "many_fits" ["self"] (spMany K (He.ga K "Draft")) := ⟨⟨_, e5, a5, q5, ok_many M5 T YA⟩, CD⟩
  have YL : HasM P w K mg base CX0 6 (He.ga K "Draft") "least" ["self"] (spLeast K (He.ga K "Draft") (TT K)) := ⟨⟨_, e6, a6, q6, ok_least CLe T TL1 (List.mem_cons_self ..) (fun p hp _ => by rw [List.mem_singleton.mp hp]) B YA (H13.mono (by decide))⟩, CD⟩
  have YT : HasM P w K mg base CX0 6 (He.ga K "Draft") "tight" ["self"] (spTight K (He.ga K "Draft")) := ⟨⟨_, e7, a7, q7, ok_tight M7 T hany B YA (H19.mono (by decide))⟩, CD⟩
  have YS : HasM P w K mg base CX0 5 (He.ga K "Draft") "shrunk" ["self"] (spShr K (He.ga K "Draft")) := ⟨⟨_, e8, a8, q8, ok_shr M8 B YF (H19.mono (by decide))⟩, CD⟩
  have SS : ∀ n, n ≤ 7 → Has P w K mg base CX0 8 "_law_same" ["found", "due"] (spSame K n) := fun n hn => by
    match n, hn with
    | 0, _ => exact S0.mono (by decide)
    | 1, _ => exact S1.mono (by decide)
    | 2, _ => exact S2.mono (by decide)
    | 3, _ => exact S3.mono (by decide)
    | 4, _ => exact S4.mono (by decide)
    | 5, _ => exact S5.mono (by decide)
    | 6, _ => exact S6.mono (by decide)
    | 7, _ => exact S7.mono (by decide)
    | n + 8, h => exact absurd h (by omega)
  have LL : TL P w K mg base (He.ga K "Draft") (TT K) := ⟨T, H22.mono (by decide), H24.mono (by decide), H27.mono (by decide), H31.mono (by decide), H30.mono (by decide), H33.mono (by decide), H32.mono (by decide), H34.mono (by decide), H35.mono (by decide), H37.mono (by decide), SS, B, gD, ⟨_, e0, KD, q0, ok_init M0 T B (H11.mono (by decide)) (H14.mono (by decide))⟩, YG.mono (by decide), YA.mono (by decide), YM.mono (by decide), YT.mono (by decide), YS.mono (by decide), YL.mono (by decide)⟩
  exact ok_law CFn LL

end DR
open PySem PySem.W PySem.Calls PyProof.Rows
theorem PySem.Challenge.cw_loadanywhere_k55_whole_fitting_choices_holds : PySem.Challenge.rw_loadanywhere_k55_whole_fitting_choices.Holds := by
  w_on; o_law
  refine HandSHeadRun.head_imp (r := DR.RR) (q := view DR.RR.prog [0, 56]) (H := DR.hkk) (ob := DR.obb) (M := 6000) (loose := DR.loosL) (d := HandSHeadRun.topDef DR.RR.prog 56) (kwd := []) DR.obb_eq
    DR.runL (by kernel_rfl) (by kernel_rfl) (by kernel_rfl) (by rfl) (by first | assumption | decide +kernel) (by decide +kernel) ⟨rfl, rfl, rfl, rfl, rfl, by decide +kernel⟩ ?hw ?hc
  case hw => w_witness2
  case hc =>
    refine LamX.walk_ofTsE (l := PySem.Challenge.rw_loadanywhere_k55_whole_fitting_choices) (n := 63) (k := 10) (x := "script") (CX := fun w => L2.CX PySem.Challenge.rw_loadanywhere_k55_whole_fitting_choices.prog w) rfl (by decide) (by kernel_rfl) ⟨rfl, by decide, by decide⟩ ?F (fun _ _ _ _ _ z => by
      obtain ⟨_, _, _, _, _, _, _, _, _, _, _, _, y⟩ := z
      exact y.elim)
    intro w mg fa h Y G hmg0
    obtain ⟨K, KX, c⟩ := Y
    have hmg : mg ("law" : PySem.Str) = some (.ref fa) := by
      have e : (HandSHeadRun.topDef DR.RR.prog 56).name = ("law" : PySem.Str) := by kernel_rfl
      rw [← e]
      exact hmg0
    have gL := He.glo_ok KX G (c.t.d.fact 38 (f := .glo "law") rfl)
    have efa := hmg.symm.trans gL
    cases efa
    obtain ⟨fd, hb, hF⟩ := DR.facts (P := PySem.Challenge.rw_loadanywhere_k55_whole_fitting_choices.prog) (w := w) KX G c
    refine ⟨K, KX, fd, [DR.cL K], DR.spLaw K (DR.TT K), ?_, ?_, ?_, hb, ?_, ?_⟩
    · intro p hp
      obtain rfl := List.mem_singleton.mp hp
      exact c.empty ("Draft", some "least") (List.mem_cons_of_mem _ (List.mem_cons_self ..))
    · intro p hp
      obtain rfl := List.mem_singleton.mp hp
      exact c.out ("Draft", some "least") (List.mem_cons_of_mem _ (List.mem_cons_self ..))
    · intro p hp
      obtain rfl := List.mem_singleton.mp hp
      exact codeHd_of_K KX (c.hd ("Draft", some "least") (List.mem_cons_of_mem _ (List.mem_cons_self ..)))
    · intro H a ns _ _ hT hS
      refine ⟨a, ns, rfl, hS, fun p hp => ?_, fun _ => rfl⟩
      obtain rfl := List.mem_singleton.mp hp
      exact LamX.TabS.nil (hT (DR.cL K) (List.mem_cons_self ..))
    · intro base Xb Gb hT
      exact hF base Xb Gb (hT _ (List.mem_cons_self ..))
