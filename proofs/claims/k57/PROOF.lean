import PyProof.Rows.All
import Wide.All
import OpenK.AllK
import Wide.FinOn
import HandS.ForMost
import HandS.ForExc
import HandS.IsInst
import HandS.Walk
import HandS.More
import HandS.Dict
import HandS.Style
import HandS.SortInts
import HandS.DictComp
import HandS.Zip
import HandS.Deep
import HandS.TryOnly
import HandS.TupAny
import HandS.TupMul
import KE.GoesMore
import PySem.Challenge.RW_loadanywhere_k57_one_row_more
import HandS.SetFor
import HandS.Strs
import HandS.ExcInit
import HandS.SortKw
import KE.SortData
import KE.SortKeyHeap
import KE.KSortKey
import HandS.ExcField
import HandS.Defaults
import HandS.RaiseFrom
import HandS.SuiteRaise
import HandS.ExcInitHot
import KE.DataMinMax
import HandS.OwnEq
import PyProof.InstNe
import PyProof.P3Eq
import HandS.Steps
import HandS.Lambda
import HandS.EndTab
import Wide.Once
import KE.KStateDown
import Lean
import HandS.Ends
import HandS.Head0
import HandS.Head1
import HandS.Head2
import HandS.HeadHook1
import HandS.HeadHook2
import HandS.HeadHook3
import HandS.HeadHook4
import HandS.HeadWalk
set_option Elab.async false
set_option linter.all false
set_option maxRecDepth 100000
set_option maxHeartbeats 0
namespace DR
open PySem PySem.Spec PyProof.Rows L2
/-! ### the text by places -/
def topS (i : Nat) : Stmt := PySem.Challenge.pw_loadanywhere_k57_one_row_more.main.body.getD i (.Pass ⟨0, 0, 0, 0⟩)
/-- a def of the text that stands at a global name and keeps its promise -/
structure Has (P : Program) (w : World) (K : PySem.W.Frag) (mg : Str → Option Value) (base : Heap) (CX : CXT) (k : Nat) (x : Str) (ps : List Str) (sp : Sp) : Prop where
  ex : ∃ (f : Addr) (fd : FuncData), mg x = some (.ref f) ∧ PySem.W.keepIn K (.ref f) = true ∧ Binds K fd ps [] ∧ FnOk P w K mg base CX k f fd ps sp
theorem Has.mono {P : Program} {w : World} {K : PySem.W.Frag} {mg : Str → Option Value} {base : Heap} {CX : CXT} {j k : Nat} {x : Str} {ps : List Str} {sp : Sp} (h : Has P w K mg base CX j x ps sp) (l : j ≤ k) : Has P w K mg base CX k x ps sp := by
  obtain ⟨f, fd, a, b, c, d⟩ := h.ex
  exact ⟨f, fd, a, b, c, d.mono l⟩
section
variable {X : Cx} {CX : CXT} {k : Nat} {ps : List Str} {sp : Sp} {E : XK} {x : Str} {p pos : Pos} {e : Expr} {es : List Expr} {t : TA}
theorem pe_callH (F : Has X.prog X.w X.K X.mg X.base CX k x ps sp) (hr : Room k X.A) (hg : Gl X x) (hx : Passes CX X E)
    (ha : PA X (e :: es) t) (hdb : (x == ("__debug__" : Str)) = false := by decide) (he : starEach (e :: es) X.env = (false, eval e X.env) :: starEach es X.env := by rfl) (hpl : (backTo pos (starEach es X.env)).any (·.1) = false := by rfl) :
    PE X (.Call (.Name x p) (e :: es) [] pos) (tCall sp [] E t) := by
  obtain ⟨f, fd, a, b, c, d⟩ := F.ex
  exact pe_call d hr hg a b c .nil hx ha hdb he hpl
end
/-- the names of built-ins that the law and the program ask -/
structure Bi (mg : Str → Option Value) : Prop where
  len : mg "len" = none
  int : mg "int" = none
  str : mg "str" = none
  bool : mg "bool" = none
  list : mg "list" = none
  tuple : mg "tuple" = none
  isinstance : mg "isinstance" = none
  all : mg "all" = none
  sorted : mg "sorted" = none
  range : mg "range" = none
  enumerate : mg "enumerate" = none
  zip : mg "zip" = none
  dict : mg "dict" = none
  min : mg "min" = none
  set : mg "set" = none

/-! ### things: data, and the empty dict -/
theorem rd_same {H H' : Hp} {a : Addr} {u : HO} (e : Same H H') (h : Rd H a u) : Rd H' a u := by
  rcases h with h | ⟨o, h⟩
  · exact .inl (e _ _ h)
  · exact .inr ⟨o, e _ _ h⟩
theorem sqL_same {K : PySem.W.Frag} {H H' : Hp} {a : Addr} {xs : List V} (e : Same H H') (h : SqL K H a xs) : SqL K H' a xs := e.seq h
theorem sqT_same {K : PySem.W.Frag} {H H' : Hp} {a : Addr} {xs : List V} (e : Same H H') (h : SqT K H a xs) : SqT K H' a xs := by
  rcases h with h | h
  · exact .inl (rd_same e h)
  · exact .inr h
mutual
theorem dp_same {K : PySem.W.Frag} {H H' : Hp} (e : Same H H') : ∀ {v : V} {d : PyData}, Dp K H v d → Dp K H' v d
  | _, _, .non => .non
  | _, _, .bl b => .bl b
  | _, _, .int i => .int i
  | _, _, .str x => .str x
  | _, _, .lst s a => .lst (sqL_same e s) (dps_same e a)
  | _, _, .tup s a => .tup (sqT_same e s) (dps_same e a)
theorem dps_same {K : PySem.W.Frag} {H H' : Hp} (e : Same H H') : ∀ {vs : List V} {ds : List PyData}, DpAll K H vs ds → DpAll K H' vs ds
  | _, _, .nil => .nil
  | _, _, .cons h t => .cons (dp_same e h) (dps_same e t)
end
theorem same_new {H : Hp} {p : Addr} {o : HO} (h : H p = none) : Same H (upd H p o) := fun b x e => by
  rw [upd_ne (ne_of_none e h)]
  exact e
/-- data, or a dict -/
inductive Th (K : PySem.W.Frag) (H : Hp) : V → PyData → Prop
  | dat {v : V} {d : PyData} : Dp K H v d → Th K H v d
  | dct {a : Addr} {kvs : List (Key × V)} : H a = some (.dK kvs) → Th K H (.ref a) (.dict [])
theorem th_same {K : PySem.W.Frag} {H H' : Hp} (e : Same H H') {v : V} {d : PyData} : Th K H v d → Th K H' v d
  | .dat h => .dat (dp_same e h)
  | .dct h => .dct (e _ _ h)
def tyN : PyData → String
  | .none => "NoneType"
  | .bool _ => "bool"
  | .int _ => "int"
  | .str _ => "str"
  | .list _ => "list"
  | .tuple _ => "tuple"
  | .dict _ => "dict"
theorem ty_list {K : PySem.W.Frag} {H : Hp} {a : Addr} {xs : List V} (h : SqL K H a xs) : TyX K H (.ref a) (.type "list") := by
  rcases h with (h | ⟨o, h⟩) | ⟨o, its, n, h, c, _⟩
  · exact .base (.lst h)
  · exact .base (.frz h)
  · exact .kList h c
theorem ty_tup {K : PySem.W.Frag} {H : Hp} {a : Addr} {xs : List V} (h : SqT K H a xs) : TyX K H (.ref a) (.type "tuple") := by
  rcases h with (h | ⟨o, h⟩) | ⟨o, its, n, h, c, _⟩
  · exact .base (.tup h)
  · exact .fTuple h
  · exact .kTuple h c
theorem th_ty {K : PySem.W.Frag} {H : Hp} {v : V} {d : PyData} (h : Th K H v d) : TyX K H v (.type (tyN d)) := by
  cases h with
  | dct h => exact .base (.dK h)
  | dat h =>
    cases h with
    | non => exact .base .non
    | bl b => exact .base (.bl b)
    | int i => exact .base (.int i)
    | str x => exact .base (.str x)
    | lst s _ => exact ty_list s
    | tup s _ => exact ty_tup s
def isI : PyData → Bool
  | .int _ => true
  | _ => false
def isIB : PyData → Bool
  | .int _ => true
  | .bool _ => true
  | _ => false
def isB : PyData → Bool
  | .bool _ => true
  | _ => false
def isS : PyData → Bool
  | .str _ => true
  | _ => false
def isR : PyData → Bool
  | .list _ => true
  | .tuple _ => true
  | _ => false
def tyNs : List String := ["NoneType", "bool", "int", "str", "list", "tuple", "dict"]
theorem tyN_mem (d : PyData) : tyN d ∈ tyNs := by cases d <;> simp [tyN, tyNs]
theorem kb_int : ∀ n ∈ tyNs, kitB n "int" = some (n == "int" || n == "bool") := by decide +kernel
theorem kb_bool : ∀ n ∈ tyNs, kitB n "bool" = some (n == "bool") := by decide +kernel
theorem kb_str : ∀ n ∈ tyNs, kitB n "str" = some (n == "str") := by decide +kernel
theorem kb_list : ∀ n ∈ tyNs, kitB n "list" = some (n == "list") := by decide +kernel
theorem kb_tup : ∀ n ∈ tyNs, kitB n "tuple" = some (n == "tuple") := by decide +kernel
theorem kit_int {K : PySem.W.Frag} (d : PyData) : PySem.W.kitOne K (.type (tyN d)) (.type "int") = some (isIB d) := by
  have h := kb_int _ (tyN_mem d)
  have e : (tyN d == "int" || tyN d == "bool") = isIB d := by cases d <;> rfl
  rw [e] at h
  exact kit_ty h
theorem kit_bool {K : PySem.W.Frag} (d : PyData) : PySem.W.kitOne K (.type (tyN d)) (.type "bool") = some (isB d) := by
  have h := kb_bool _ (tyN_mem d)
  have e : (tyN d == "bool") = isB d := by cases d <;> rfl
  rw [e] at h
  exact kit_ty h
theorem kit_str {K : PySem.W.Frag} (d : PyData) : PySem.W.kitOne K (.type (tyN d)) (.type "str") = some (isS d) := by
  have h := kb_str _ (tyN_mem d)
  have e : (tyN d == "str") = isS d := by cases d <;> rfl
  rw [e] at h
  exact kit_ty h
theorem kit_row {K : PySem.W.Frag} (d : PyData) : PySem.W.kitAny K (.type (tyN d)) [.type "list", .type "tuple"] = some (isR d) := by
  have h1 := kb_list _ (tyN_mem d)
  have h2 := kb_tup _ (tyN_mem d)
  refine kitAny_cons (kit_ty h1) (fun z => kitAny_cons (kit_ty h2) (fun z2 => ?_) fun z2 => ?_) fun z => ?_
  all_goals
    revert z
    try revert z2
    cases d <;> simp [tyN, isR, kitAny_nil]
/-- isinstance of a thing, one class -/
theorem isi1 {K : PySem.W.Frag} {H : Hp} {v : V} {d : PyData} {n : String} {b : Bool} {Q : VK} (h : Th K H v d) (k : PySem.W.kitOne K (.type (tyN d)) (.type n) = some b) (q : Q (.bl b) H) : rIsi K [v, .ty n] H Q :=
  ⟨v, .ty n, _, _, b, rfl, .ty n, th_ty h, k, q⟩
def spIsInt (K : PySem.W.Frag) : Sp := fun vs H Q _ => ∃ v d, vs = [v] ∧ Th K H v d ∧ Q (.bl (isI d)) H
def spIsRow (K : PySem.W.Frag) : Sp := fun vs H Q _ => ∃ v d, vs = [v] ∧ Th K H v d ∧ ∀ H', Same H H' → Q (.bl (isR d)) H'
/-- the items of a list or tuple -/
def items : PyData → Option (List PyData)
  | .list xs => some xs
  | .tuple xs => some xs
  | _ => none
def isRof (d : PyData) (n : Int) : Bool := match items d with
  | some xs => decide ((xs.length : Int) = n)
  | none => false
def spIsRowOf (K : PySem.W.Frag) : Sp := fun vs H Q _ => ∃ v d n, vs = [v, .int n] ∧ Th K H v d ∧ ∀ H', Same H H' → Q (.bl (isRof d n)) H'
theorem dps_len {K : PySem.W.Frag} {H : Hp} : ∀ {vs : List V} {ds : List PyData}, DpAll K H vs ds → vs.length = ds.length
  | _, _, .nil => rfl
  | _, _, .cons _ t => congrArg (· + 1) (dps_len t)
/-- a thing that is a row: its place and items -/
theorem th_row {K : PySem.W.Frag} {H : Hp} {v : V} {d : PyData} (h : Th K H v d) {ds : List PyData} (e : items d = some ds) : ∃ a xs, v = .ref a ∧ (SqL K H a xs ∨ SqT K H a xs) ∧ DpAll K H xs ds := by
  cases h with
  | dct h => cases e
  | dat h =>
    cases h with
    | non => cases e
    | bl b => cases e
    | int i => cases e
    | str x => cases e
    | lst s t =>
      cases e
      exact ⟨_, _, rfl, .inl s, t⟩
    | tup s t =>
      cases e
      exact ⟨_, _, rfl, .inr s, t⟩
theorem isR_items (d : PyData) : isR d = (items d).isSome := by cases d <;> rfl
abbrev sIsInt : Stmt := topS 10
abbrev sIsRow : Stmt := topS 11
abbrev sIsRowOf : Stmt := topS 12
abbrev sIsName : Stmt := topS 13
theorem scIsInt : FnScope ["thing"] ["thing"] (defScope sIsInt) := ⟨rfl, rfl, rfl, by decide +kernel, rfl, by decide +kernel, by decide +kernel⟩
theorem scIsRow : FnScope ["thing"] ["thing"] (defScope sIsRow) := ⟨rfl, rfl, rfl, by decide +kernel, rfl, by decide +kernel, by decide +kernel⟩
theorem scIsRowOf : FnScope ["thing", "many"] ["thing", "many"] (defScope sIsRowOf) := ⟨rfl, rfl, rfl, by decide +kernel, rfl, by decide +kernel, by decide +kernel⟩
theorem scIsName : FnScope ["thing", "letter"] ["thing"] (defScope sIsName) := ⟨rfl, rfl, rfl, by decide +kernel, rfl, by decide +kernel, by decide +kernel⟩
def lettersS : Str := "abcdefghijklmnopqrstuvwxyz"
def isNmS (s : Str) : Bool := decide (1 ≤ (s.length : Int)) && (decide ((s.length : Int) ≤ 8) && s.cps.toList.all fun c => decide (c ∈ lettersS.cps.toList))
def isNm : PyData → Bool
  | .str s => isNmS s
  | _ => false
/-- a thing whose text, if it is one, is not too long -/
def shortS : PyData → Prop
  | .str s => s.length ≤ 1000
  | _ => True
def spIsName (K : PySem.W.Frag) : Sp := fun vs H Q _ => ∃ v d, vs = [v] ∧ Th K H v d ∧ shortS d ∧ ∀ H', Same H H' → Q (.bl (isNm d)) H'
section
variable {P : Program} {w : World} {K : PySem.W.Frag} {mg : Str → Option Value} {base : Heap}
theorem ok_isInt {f : Addr} {fd : FuncData} (F : Fun K "is_integer" "is_integer" sIsInt f fd) (T : Bi mg) : FnOk P w K mg base CX0 1 f fd ["thing"] (spIsInt K) := by
  refine F.ok scIsInt (fun vs H Q E h => ?_) (fun cdv A outer s H vs Q E hr h => ?_)
  · obtain ⟨v, d, rfl, _⟩ := h
    rfl
  · obtain ⟨v, d, rfl, th, q⟩ := h
    refine ⟨_, (pss_one (ps_ret (pe_and (pe_callB call_isi (by rfl) T.isinstance (by decide +kernel) (pa_cons (pv 0) (pa_cons (pe_bltn (v := .ty "int") (by rfl) T.int (by decide +kernel) rfl) pa_nil))) (pe_one (pe_not (pe_callB call_isi (by rfl) T.isinstance (by decide +kernel) (pa_cons (pv 0) (pa_cons (pe_bltn (v := .ty "bool") (by rfl) T.bool (by decide +kernel) rfl) pa_nil)))))))), ?_⟩
    refine ⟨_, rfl, v, _, _, _, _, rfl, .ty "int", th_ty th, kit_int d, _, rfl, ?_⟩
    cases e : isIB d with
    | false =>
      refine iteF ?_
      have z : isI d = false := by cases d <;> first | rfl | cases e
      rw [z] at q
      exact q
    | true =>
      refine iteT ⟨_, rfl, v, _, _, _, _, rfl, .ty "bool", th_ty th, kit_bool d, _, rfl, ?_⟩
      have z : isI d = !isB d := by cases d <;> first | rfl | cases e
      rw [z] at q
      exact q
theorem ok_isRow {f : Addr} {fd : FuncData} (F : Fun K "is_row" "is_row" sIsRow f fd) (T : Bi mg) : FnOk P w K mg base CX0 1 f fd ["thing"] (spIsRow K) := by
  refine F.ok scIsRow (fun vs H Q E h => ?_) (fun cdv A outer s H vs Q E hr h => ?_)
  · obtain ⟨v, d, rfl, _⟩ := h
    rfl
  · obtain ⟨v, d, rfl, th, q⟩ := h
    refine ⟨_, (pss_one (ps_ret (pe_callB call_isiT (by rfl) T.isinstance (by decide +kernel) (pa_cons (pv 0) (pa_cons (pe_tup (pa_cons (pe_bltn (v := .ty "list") (by rfl) T.list (by decide +kernel) rfl) (pa_cons (pe_bltn (v := .ty "tuple") (by rfl) T.tuple (by decide +kernel) rfl) pa_nil))) pa_nil))))), ?_⟩
    refine ⟨_, rfl, (by show 2 ≤ sizeLine; decide), fun p hp => ?_⟩
    refine ⟨v, p, _, _, _, _, rfl, upd_same, .cons (.ty "list") (.cons (.ty "tuple") .nil), th_ty (th_same (same_new hp) th), kit_row d, q _ (same_new hp)⟩
theorem ok_isRowOf {f : Addr} {fd : FuncData} (F : Fun K "is_row_of" "is_row_of" sIsRowOf f fd) (T : Bi mg) (G : Has P w K mg base CX0 1 "is_row" ["thing"] (spIsRow K)) : FnOk P w K mg base CX0 2 f fd ["thing", "many"] (spIsRowOf K) := by
  refine F.ok scIsRowOf (fun vs H Q E h => ?_) (fun cdv A outer s H vs Q E hr h => ?_)
  · obtain ⟨v, d, n, rfl, _⟩ := h
    rfl
  · obtain ⟨v, d, n, rfl, th, q⟩ := h
    refine ⟨_, (pss_one (ps_ret (pe_and (pe_callH G hr (by rfl) pass0 (pa_cons (pv 0) pa_nil)) (pe_one (pe_cmpR op_eq (pe_callB call_len_seq (by rfl) T.len (by decide +kernel) (pa_cons (pv 0) pa_nil)) (pv 1) (nomark _)))))), ?_⟩
    refine ⟨_, rfl, v, d, rfl, th, fun H' sm => ⟨_, rfl, ?_⟩⟩
    rw [isR_items]
    have q' := q H' sm
    unfold isRof at q'
    cases e : items d with
    | none =>
      rw [e] at q'
      exact iteF q'
    | some ds =>
      rw [e] at q'
      obtain ⟨a, xs, rfl, hs, ha⟩ := th_row (th_same sm th) e
      refine iteT ⟨_, rfl, a, xs, rfl, hs, _, rfl, rfl, ?_⟩
      rw [dps_len ha]
      have z : decide (V.int (ds.length : Int) = V.int n) = decide ((ds.length : Int) = n) := by
        by_cases c : (ds.length : Int) = n
        · rw [c]; simp
        · rw [decide_eq_false c]
          exact decide_eq_false fun z => c (V.int.inj z)
      rw [z]
      exact q'
theorem yes_go {σ : L2.St} {H : Hp} {F : Bool → Hp → Prop} (h : F true H) : tYes σ H F := h
theorem ok_isName {f : Addr} {fd : FuncData} {t : Tok} (F : Fun K "is_name" "is_name" sIsName f fd) (T : Bi mg) (gL : mg "LETTERS" = some (.str lettersS t)) : FnOk P w K mg base CX0 1 f fd ["thing"] (spIsName K) := by
  refine F.ok scIsName (fun vs H Q E h => ?_) (fun cdv A outer s H vs Q E hr h => ?_)
  · obtain ⟨v, d, rfl, _⟩ := h
    rfl
  · obtain ⟨v, d, rfl, th, sh, q⟩ := h
    refine ⟨_, (pss_cons (ps_if (PW.pt (pw_or (pt_not (pt_val (pe_callB call_isi (by rfl) T.isinstance (by decide +kernel) (pa_cons (pv 0) (pa_cons (pe_bltn (v := .ty "str") (by rfl) T.str (by decide +kernel) rfl) pa_nil))))) (pw_or1 (pt_not (pt_chain op_le op_le pe_int (pe_callB call_len_str (by rfl) T.len (by decide +kernel) (pa_cons (pv 0) pa_nil)) pe_int))))) (pss_one (ps_ret pe_bl)) pss_nil)
      (pss_one (ps_ret (pe_callB (cr_all rfl) (by rfl) T.all (by decide +kernel) (pa_cons (pe_lc (own := [("letter", 1)]) (g := gName 1) (tt := tYes) rfl scIsName.nd (pi_str (pv 0)) (blkOk_by (N := ["thing", "letter"]) (sc := defScope sIsName) (by decide +kernel)) (fun _ _ _ _ _ => pg_name (i := 1) scIsName.nd rfl (.inl rfl)) (fun _ _ _ _ _ => pts_nil) (fun _ _ _ _ _ => (pe_cmpR op_in_sign (pv 1) (pe_glob (v := .str lettersS) rfl gL ⟨_, rfl⟩) (by rfl)))) pa_nil))))), ?_⟩
    refine ⟨_, rfl, v, _, _, _, _, rfl, .ty "str", th_ty th, kit_str d, _, rfl, ?_⟩
    cases d with
    | str s =>
      obtain rfl : v = .str s := by
        cases th with
        | dat h => cases h; rfl
      have hl : s.length ≤ sizeLine := Nat.le_trans sh (by decide)
      refine iteF ⟨_, rfl, s, rfl, hl, _, _, rfl, rfl, _, rfl, ?_⟩
      have q0 : Q (.bl (isNmS s)) H := q H (Same.refl H)
      unfold isNmS at q0
      cases c1 : decide (1 ≤ (s.length : Int)) with
      | false =>
        rw [c1] at q0
        exact iteF ⟨_, rfl, iteT q0⟩
      | true =>
        refine iteT ⟨_, _, rfl, rfl, _, rfl, ?_⟩
        cases c2 : decide ((s.length : Int) ≤ 8) with
        | false =>
          rw [c1, c2] at q0
          exact iteT q0
        | true =>
          refine iteF ⟨_, rfl, s, rfl, fun D hD => ?_⟩
          have e1 : (isNmS s) = s.cps.toList.all fun c => decide (c ∈ lettersS.cps.toList) := by
            unfold isNmS
            rw [c1, c2]
            rfl
          refine lc_it (walk_str (z := s)) (fun i H' => (∀ b o, b ≠ D → H b = some o → H' b = some o) ∧ H' D = some (.lst (((s.cps.toList.take i).map fun c => decide (c ∈ lettersS.cps.toList)).map V.bl))) ⟨fun b o hb e => by rw [upd_ne hb]; exact e, upd_same⟩ (fun _ _ _ _ => trivial) ?_ ?_
          · rintro i x H1 H2 hi ⟨kp, hd⟩ ⟨rfl, c, hc, rfl⟩
            have hc' : s.cps.toList[i]? = some c := by simpa using hc
            refine ⟨rfl, ?_⟩
            refine yes_go (iteT ?_)
            refine ⟨_, rfl, c, lettersS, rfl, rfl, _, hd, ?_, fun b o hb e => ?_, ?_⟩
            · rw [List.length_map, List.length_map, List.length_take]
              refine Nat.lt_of_le_of_lt (Nat.min_le_right _ _) (Nat.lt_of_le_of_lt (m := 1000) ?_ (by decide))
              have e2 : s.cps.toList.length = s.length := by simp [Str.length]
              have sh' : s.length ≤ 1000 := sh
              omega
            · rw [upd_ne hb]
              exact kp b o hb e
            · rw [upd_same, List.take_add_one, hc']
              simp
          · rintro H1 ⟨kp, hd⟩
            refine ⟨D, _, rfl, SqL.of hd, ?_⟩
            have e2 : s.cps.toList.take s.cps.size = s.cps.toList := by
              rw [← Array.length_toList]
              exact List.take_length
            have e3 : ((s.cps.toList.take s.cps.size).map fun c => decide (c ∈ lettersS.cps.toList)).all id = isNm (.str s) := by
              rw [e2, List.all_map]
              exact e1.symm
            rw [e3]
            exact q H1 fun b o e => kp b o (ne_of_none e hD) e
    | none => exact iteT (q H (Same.refl H))
    | bool b => exact iteT (q H (Same.refl H))
    | int i => exact iteT (q H (Same.refl H))
    | list xs => exact iteT (q H (Same.refl H))
    | tuple xs => exact iteT (q H (Same.refl H))
    | dict xs => exact iteT (q H (Same.refl H))
end

/-! ### enumerate over a tuple -/
open AutoSeq1 (wpAny_loadPart') in
theorem meets_enumT (tt : Addr) (its : Array Value) (ot : Obj) (co : ot.cls = .type "tuple") (n : Nat) (dd : ot.data = .seq its n) :
    Meets (Builtin.«enumerate.__new__» ⟨[.type "enumerate", .ref tt], []⟩) (fun _ R t => t.heap.get? tt = some ot ∧
      R (.ok (.ret (.ref (t.heap.push { cls := .type "tuple_iterator", data := .fields #[.ref tt, .int 0 0] }).objs.size)))
        { t with heap := (t.heap.push { cls := .type "tuple_iterator", data := .fields #[.ref tt, .int 0 0] }).push { cls := .type "enumerate", data := .fields #[.none, .bool false, .ref t.heap.objs.size, rawInt 0, .none, .none] } }) :=
  .of_wp fun prog w A R t goal => by
    obtain ⟨hp, gg, dp, tk, os⟩ := t
    obtain ⟨get, goal⟩ := goal
    obtain ⟨c0, d0, dt0, s0⟩ := ot
    dsimp only at co dd
    subst co
    subst dd
    have below := sub_enumerate
    have isT : Heap.IsTuple (Shared.heap ⟨hp, gg, dp, tk, os⟩) tt its := ⟨_, get, rfl, n, rfl⟩
    wp_walk using wpAny_loadPart' get
    refine wpAny_stack_any fun st => wpAny_pure ?_
    split
    · rename_i c _ _ _ _ _
      cases (c == Value.type "enumerate") <;>
      · wp_walk using wpAny_loadPart' get, wpAny_pyIter_tuple isT
        exact ⟨_, rfl, goal⟩
    · wp_walk using wpAny_loadPart' get, wpAny_pyIter_tuple isT
      exact ⟨_, rfl, goal⟩
theorem call_enumT {prog : Program} {w : World} {A : Around} {E : Value → Shared → Prop} {t : Shared} {tt : Addr} {its : Array Value} {Q : Value → Shared → Prop} (isT : t.heap.IsTuple tt its)
    (go : ∀ g, IsEnum g (t.heap.objs.size + 1) t.heap.objs.size 0 .none → g.IsTupleIter t.heap.objs.size tt 0 → (∀ b o, t.heap.get? b = some o → g.get? b = some o) → Q (.ref (t.heap.objs.size + 1)) { t with heap := g }) :
    wpAny (model prog w) A (call (.type "enumerate") [.ref tt]) Q E t := by
  obtain ⟨ot, get, co, n, dd⟩ := isT
  refine callType_new F.called_enumerate (by decide) (F.typeCall_enumerate_1 _) (F.newCall_enumerate_1 _) (fun obj => F.args_object_init_2 obj _) F.entry_enumerate_new (meets_enumT tt its ot co n dd) ⟨get, ?_⟩
  let oi : Obj := { cls := .type "tuple_iterator", data := .fields #[.ref tt, .int 0 0] }
  have sz : (t.heap.push oi).objs.size = t.heap.objs.size + 1 := Heap.size_push ..
  have eq2 : (t.heap.push { cls := .type "tuple_iterator", data := .fields #[.ref tt, .int 0 0] }).objs.size = t.heap.objs.size + 1 := sz
  show _ ∧ _
  rw [eq2]
  have top : IsEnum ((t.heap.push oi).push { cls := .type "enumerate", data := .fields #[.none, .bool false, .ref t.heap.objs.size, rawInt 0, .none, .none] }) (t.heap.objs.size + 1) t.heap.objs.size 0 .none := by
    have z := Heap.get?_push_size (t.heap.push oi) (o := { cls := .type "enumerate", data := .fields #[.none, .bool false, .ref t.heap.objs.size, rawInt 0, .none, .none] }) rfl
    rw [sz] at z
    exact z
  refine ⟨⟨_, top, rfl⟩, go _ top ⟨oi, Heap.get?_push_of_some _ (Heap.get?_push_size _ rfl), rfl, rfl⟩ fun b o e => Heap.get?_push_of_some _ (Heap.get?_push_of_some _ e)⟩
/-- the tuple at a, each item in a new pair -/
def Itu (K : PySem.W.Frag) (a : Addr) : It where
  go := fun i H => ∃ (xs : List V) (x : V), SqT K H a xs ∧ xs[i]? = some x
  yld := fun i H v H' => ∃ T x, v = .ref T ∧ H T = none ∧ H' = upd H T (.tup [.int (i : Nat), x]) ∧ ∀ xs, SqT K H a xs → xs[i]? = some x
  stop := fun i H => ∃ xs : List V, SqT K H a xs ∧ xs.length ≤ i
theorem turn_enumT {P : Program} {w : World} {K : PySem.W.Frag} {elts : List Expr} {kk : Nat} {tpos : Pos} (a e it : Addr) (ae : a ≠ e) (ai : a ≠ it) :
    Turn P w K (.Tuple elts kk tpos) (Itu K a) [e, it] e (fun i h => (∃ old, IsEnum h e it ((i : Nat) : Int) old) ∧ h.IsTupleIter it a i ∧ e ≠ it) where
  mem := List.mem_cons_self ..
  obj := by
    intro i h st b hb
    obtain ⟨⟨old, he⟩, ⟨o, ho, hc, hd⟩, _⟩ := st
    rcases List.mem_cons.mp hb with rfl | hb
    · exact ⟨_, he, fun v q => nomatch q⟩
    · obtain rfl := List.mem_singleton.mp hb
      exact ⟨o, ho, fun v q => by rw [hd] at q; cases q⟩
  keep := by
    intro i h h' st k
    obtain ⟨⟨old, he⟩, hi, hne⟩ := st
    exact ⟨⟨old, k e (by simp) _ he⟩, hi.at fun o q => k it (by simp) o q, hne⟩
  item := by
    intro X hP hw hK hc i pins s σ H E I hf st hg
    subst hP hw hK
    obtain ⟨⟨old, he⟩, hit, hne⟩ := st
    obtain ⟨xs, x, hq, hx⟩ := hg
    obtain ⟨its, rv, p, hz⟩ := I.tuple hq
    obtain ⟨u, hu, ru⟩ := rv.get hx
    have elt : e < s.heap.objs.size := Heap.lt_size he
    have ilt : it < s.heap.objs.size := by
      obtain ⟨_, q, _⟩ := hit
      exact Heap.lt_size q
    have DD := Draws.tuple (prog := X.prog) (w := X.w) (A := X.A.in1) (I.ok.hd hc) it a ai its.toArray
    have hlen : i < its.toArray.size := by
      have : its[i]? = some u := hu
      have := (List.getElem?_eq_some_iff.mp this).1
      simpa using this
    have ef : e ∉ ([it, a] : List Addr) := by simp [hne, ae.symm]
    refine wpAny_pyNext_enum_itemD DD he ⟨hit, (show s.heap.IsTuple a its.toArray from p)⟩ hlen hne ef fun y h' tk hy ho hs' hT hsz hk => ?_
    obtain ⟨hit', _⟩ := hs'
    obtain rfl : y = u := by
      have q : its.toArray[i]? = some y := hy
      rw [List.getElem?_toArray, hu] at q
      exact (Option.some.inj q).symm
    refine ⟨_, rfl, wpAny_letOwnedTupleGo_enum (s := { s with heap := h', toks := tk + 1 }) ho fun h'' he' sb => ?_⟩
    have hT2 : h''.get? s.heap.objs.size = some { cls := .type "tuple", data := .seq #[.int i tk, y] } := (sb.2 _ (Nat.ne_of_gt elt)).trans hT
    have new : ObjOk X.prog X.w (upd H s.heap.objs.size (.tup [.int (i : Nat), x])) h'' s.heap.objs.size (.tup [.int (i : Nat), x]) :=
      ⟨by show 2 ≤ sizeLine; decide, [.int i tk, y], .cons ⟨_, rfl⟩ (.cons ru .nil), ⟨_, hT2, rfl, _, rfl⟩⟩
    have I1 : Inv X pins σ (upd H s.heap.objs.size (.tup [.int (i : Nat), x])) { s with heap := h'', toks := tk + 1 } :=
      I.turnedNew (ch := [e, it]) (fun b ob hb q => (sb.2 b (fun z => hb (by simp [z]))).trans (hk b ob (fun z => hb (by simp [z])) (fun z => hb (by simp [z])) q)) hf (Nat.le_refl _) new
    refine ⟨.ref s.heap.objs.size, _, I1, rfl, ⟨_, x, rfl, I.hok.fresh (Nat.le_refl _), rfl, fun ys hy => by rw [I.tuple_inj hy hq]; exact hx⟩, ⟨⟨y, ?_⟩, hit'.at fun o q => (sb.2 it (Ne.symm hne)).trans q, hne⟩, fun b hb => ?_⟩
    · rw [show ((i + 1 : Nat) : Int) = (i : Int) + 1 by omega]
      exact he'
    · have blt : b < s.heap.objs.size := by
        rcases List.mem_cons.mp hb with rfl | hb
        · exact elt
        · obtain rfl := List.mem_singleton.mp hb
          exact ilt
      rw [upd_ne (Nat.ne_of_lt blt)]
      exact (hf b hb).1
  done := by
    intro X hP hw hK hc i pins s σ H E I hf st hg
    subst hP hw hK
    obtain ⟨⟨old, he⟩, hit, hne⟩ := st
    obtain ⟨xs, hq, hx⟩ := hg
    obtain ⟨its, rv, p, hz⟩ := I.tuple hq
    obtain ⟨f0, f1, f2, f3, f4, f5⟩ := hf it (by simp)
    have hl := rv.length
    have T : s.heap.IsTuple a its.toArray := p
    have hn : wpAny (model X.prog X.w) X.A (pyNext (.ref e)) (fun r s1 => r = none ∧ Inv X pins σ H s1) E s := by
      have hT : s.TypeIs (.ref e) "enumerate" := ⟨_, he, rfl⟩
      unfold pyNext
      refine wpAny_bind (wpAny_attempt (wpAny_callSpecial?_slot (name := Str.ofString "__next__") hT F.slot_enumerate_next (wpAny_call_entry F.slot_enumerate_next hT F.entry_enumerate_next ?_ (F.args_enumerate_next_1 _))))
      show wpAny _ _ (field (.ref e) 2 >>= _) _ _ _
      refine wpAny_bind (wpAny_field he rfl (x := .ref it) rfl ?_)
      refine wpAny_bind (wpAny_nextOf_tuple_end (A := X.A.in1) (I.ok.hd hc) hit T (by simp; omega) fun h' x he' hx' => ?_)
      obtain ⟨o, ho, hcl⟩ := hx'
      refine wpAny_bind (wpAny_isInstance (T := "StopIteration") (b := true) ⟨o, ho, hcl⟩ isSubtype_stop ?_)
      exact wpAny_pure ⟨rfl, I.turned (t' := s.toks) (fun b o hb q => he' b o hb q) f0 f1 f3 f4 f5⟩
    exact hn
  self := fun A i s Q E st h => by
    obtain ⟨⟨_, he⟩, _⟩ := st
    exact wpAny_pyIter_enum he h
def iEnumT (K : PySem.W.Frag) (ta : TA) : TI := fun σ H R => ta σ H fun vs H1 => ∃ a xs, vs = [.ref a] ∧ SqT K H1 a xs ∧ R (Itu K a) H1
theorem pi_enumT {X : Cx} {e : Expr} {ta : TA} {p pos tpos : Pos} {elts : List Expr} {kk : Nat} (hg : Gl X "enumerate") (hm : X.mg "enumerate" = none) (ha : PA X [e] ta) (hs : starEach [e] X.env = [(false, eval e X.env)] := by rfl) :
    PI X (.Tuple elts kk tpos) (.Call (.Name "enumerate" p) [e] [] pos) (iEnumT X.K ta) := by
  constructor
  intro pins s σ H R I h
  refine Call_ (ld_blt I hg hm boot_enumerate (PyProof.Rows.callWith_type1 (thn (ha.run pos pins s σ H _ I h) fun us s1 got => ?_) hs rfl))
  obtain ⟨vs, H1, I1, r1, a, xs, rfl, hq, q⟩ := got
  cases r1 with
  | cons r rr =>
    cases rr
    cases r
    obtain ⟨its, rv, p', hz⟩ := I1.tuple hq
    have alt : a < s1.heap.objs.size := by
      obtain ⟨o, g, _⟩ := id p'
      exact Heap.lt_size g
    refine call_enumT (show s1.heap.IsTuple a its.toArray from p') fun h' he hit hk => wpAny_pyIter_enum he ?_
    refine ⟨s1.heap.objs.size + 1, [s1.heap.objs.size + 1, s1.heap.objs.size], _, _, H1, rfl, I1.kept (t' := s1.toks) hk, turn_enumT a (s1.heap.objs.size + 1) s1.heap.objs.size (Nat.ne_of_lt (Nat.lt_succ_of_lt alt)) (Nat.ne_of_lt alt), ⟨⟨.none, he⟩, hit, Nat.succ_ne_self _⟩, fun b hb => ?_, q⟩
    have hle : s1.heap.objs.size ≤ b := by
      rcases List.mem_cons.mp hb with rfl | hb
      · exact Nat.le_add_right _ _
      · obtain rfl := List.mem_singleton.mp hb
        exact Nat.le_refl _
    exact I1.fpOk hle (I1.hok.fresh hle)
theorem walk_enumT {K : PySem.W.Frag} {a : Addr} {xs : List V} : Walk (Itu K a) xs.length (fun H => SqT K H a xs) (YPair (fun i => some (.int (i : Nat))) (fun i => xs[i]?)) := by
  refine ⟨fun i _ hi q => ⟨xs, xs[i], q, by simp [hi]⟩, fun _ q => ⟨xs, q, Nat.le_refl _⟩, fun i H v H' _ q y => ?_⟩
  obtain ⟨T, x, h1, h2, h3, h4⟩ := y
  exact ⟨T, .int (i : Nat), x, h1, h2, h3, rfl, h4 xs q⟩

/-! ### t[::-1], t a tuple -/
section
variable {prog : Program} {w : World} {A : Around} {E : Value → Shared → Prop} {s : Shared}
theorem fm_map {α β : Type} {f : α → Option β} {g : α → β} : ∀ {l : List α}, (∀ m ∈ l, f m = some (g m)) → l.filterMap f = l.map g
  | [], _ => rfl
  | a :: l, h => by
    rw [List.filterMap_cons, h a (List.mem_cons_self ..), List.map_cons, fm_map fun m hm => h m (List.mem_cons_of_mem _ hm)]
theorem back_pick (its : Array Value) : ((List.range its.size).filterMap fun (m : Nat) => its[((((its.size : Nat) : Int) - 1) + (m : Int) * (-1)).toNat]?) = its.toList.reverse := by
  obtain ⟨l⟩ := its
  simp only [List.size_toArray, List.getElem?_toArray]
  apply List.ext_getElem?
  intro i
  have e : (List.range l.length).filterMap (fun (m : Nat) => l[((((l.length : Nat) : Int) - 1) + (m : Int) * (-1)).toNat]?) = (List.range l.length).map fun m => l.getD (l.length - 1 - m) .none := by
    apply fm_map
    intro m hm
    have hm' : m < l.length := List.mem_range.mp hm
    have e1 : ((((l.length : Nat) : Int) - 1) + (m : Int) * (-1)).toNat = l.length - 1 - m := by omega
    rw [e1]
    have hlt : l.length - 1 - m < l.length := by omega
    rw [List.getElem?_eq_getElem hlt]
    simp [List.getD_eq_getElem?_getD, List.getElem?_eq_getElem hlt]
  show ((List.range l.length).filterMap _)[i]? = (l.reverse)[i]?
  rw [e]
  by_cases hi : i < l.length
  · rw [List.getElem?_map, List.getElem?_range hi, List.getElem?_reverse hi]
    have hlt : l.length - 1 - i < l.length := by omega
    simp [List.getD_eq_getElem?_getD, List.getElem?_eq_getElem hlt]
  · rw [List.getElem?_eq_none (by simp; omega), List.getElem?_eq_none (by simp; omega)]
theorem back_places (n : Nat) : Builtin.Slice.slicePlaces ((n : Int) - 1) (-1) (-1) = n := by
  unfold Builtin.Slice.slicePlaces
  rw [if_neg (by decide)]
  by_cases h : (n : Int) - 1 > -1
  · rw [if_pos h]
    simp only [Int.neg_neg, Int.ediv_one]
    omega
  · rw [if_neg h]
    omega
theorem back_adjust (n : Int) : Builtin.Slice.sliceAdjust none none (-1) n = (n - 1, -1) := by
  unfold Builtin.Slice.sliceAdjust
  simp
theorem back_item {tt sl : Addr} {its : Array Value} {vl vu vs : Value} {Q : Value → Shared → Prop} (ht : IsTup s.heap tt its) (hs : s.heap.IsSliceOf sl vl vu vs) (pl : IsPart vl none) (pu : IsPart vu none) (ps : IsPart vs (some (-1)))
    (h : Q (.ref s.heap.objs.size) { s with heap := s.heap.push { cls := .type "tuple", data := .seq its.toList.reverse.toArray } }) (hz : its.size ≤ sizeLine) : wpAny (model prog w) A (getItem (.ref tt) (.ref sl)) Q E s := by
  have room : (its.toList.reverse.toArray).size ≤ sizeLine := by
    rw [List.size_toArray, List.length_reverse, Array.length_toList]
    exact hz
  obtain ⟨os, hos, hcs, hds⟩ := id hs
  have sliceT : s.TypeIs (.ref sl) "slice" := ⟨os, hos, hcs⟩
  unfold getItem
  try with_reducible refine wpAny_holding ?_
  first | refine wpAny_bind (wpAny_pure ?_) | skip
  refine wpAny_bind (wpAny_sequenceKey ht.typeIs (by decide) ?_)
  refine wpAny_bind (wpAny_callSpecial?_slot (name := Str.ofString "__getitem__") ht.typeIs PyProof.Rows.slot_tuple_getitem (wpAny_call_entry PyProof.Rows.slot_tuple_getitem ht.typeIs entry_tuple_getitem ?_ (args_tuple_getitem _ _)))
  show wpAny _ _ (Builtin.Tuple.tupleItemsOf (.ref tt) >>= _) _ _ s
  refine wpAny_bind (tupleItemsOf_ ht ?_)
  refine wpAny_bind (wpAny_typeOf sliceT ?_)
  rw [if_pos (by decide)]
  refine wpAny_bind (m := Builtin.Slice.sliceApplied (.ref sl) (pure (its.size : Int))) ?_
  unfold Builtin.Slice.sliceApplied Builtin.Slice.sliceFields
  refine wpAny_bind (wpAny_bind (wpAny_field hos hds (x := vl) rfl (wpAny_bind (wpAny_field hos hds (x := vu) rfl (wpAny_bind (wpAny_field hos hds (x := vs) rfl (wpAny_pure ?_)))))))
  refine wpAny_bind (HT.slicePart_ ps ?_)
  show wpAny _ _ (if ((-1 : Int) == 0) = true then _ else _) _ _ s
  rw [if_neg (by decide)]
  refine wpAny_bind (HT.slicePart_ pl (wpAny_bind (HT.slicePart_ pu (wpAny_bind (wpAny_pure ?_)))))
  show wpAny _ _ (match Builtin.Slice.sliceAdjust none none (-1) (its.size : Int) with | (lo, hi) => pure (lo, (-1 : Int), Builtin.Slice.slicePlaces lo hi (-1))) _ _ s
  rw [back_adjust]
  show wpAny _ _ (pure ((its.size : Int) - 1, (-1 : Int), Builtin.Slice.slicePlaces ((its.size : Int) - 1) (-1) (-1))) _ _ s
  rw [back_places]
  refine wpAny_pure ?_
  show wpAny _ _ (if (((its.size : Int) - 1 == 0 && (-1 : Int) == 1) && its.size == its.size) = true then _ else _) _ _ s
  rw [if_neg (by simp)]
  rw [back_pick]
  first
    | exact wpAny_bind (m := Builtin.Tuple.tupleExact _) (wpAny_newObj_type (wpAny_pure ⟨_, rfl, wpAny_pure h⟩) room)
    | exact wpAny_bind (m := Builtin.Tuple.tupleExact _) (wpAny_newObj_type (wpAny_bind (wpAny_pure (wpAny_pure ⟨_, rfl, wpAny_pure h⟩))) room)
    | exact wpAny_bind (wpAny_bind (m := Builtin.Tuple.tupleExact _) (wpAny_newObj_type (wpAny_pure (wpAny_pure ⟨_, rfl, wpAny_pure h⟩)) room))
    | exact wpAny_bind (wpAny_bind (m := Builtin.Tuple.tupleExact _) (wpAny_newObj_type (wpAny_pure ⟨_, rfl, wpAny_pure h⟩) room))
end
def tRevT (K : PySem.W.Frag) (te : TE) : TE := fun σ H Q => te σ H fun x H1 => ∃ a xs, x = .ref a ∧ SqT K H1 a xs ∧ ∀ p, H1 p = none → Q (.ref p) (upd H1 p (.tup xs.reverse))
theorem pe_revT {X : Cx} {e : Expr} {te : TE} {k : Nat} {p1 p2 p3 pos : Pos} (he : PE X e te) : PE X (.Subscript e (.Slice none none (some (.UnaryOp .USub (.Constant (.int 1) k p1) p2)) p3) pos) (tRevT X.K te) := by
  constructor
  intro pins s σ H Q I h
  refine Subscript_ (thn (he.run pins s σ H _ I h) fun v s1 got => ?_)
  obtain ⟨x, H1, I1, r1, a, xs, rfl, hx, q⟩ := got
  cases r1
  have part : PO X (some (.UnaryOp .USub (.Constant (.int 1) k p1) p2)) (tPart (tUn (rU fun i => .int (-i)) (tC (.int 1)))) := po_some (pe_un un_neg pe_int)
  refine wpAny_Slice (thn (po_none.run pins s1 σ H1 (fun o H2 => o = none ∧ H2 = H1) I1 ⟨rfl, rfl⟩) fun vl s2 g2 => ?_)
  obtain ⟨l, H2, I2, pl, rfl, rfl⟩ := g2
  refine thn (po_none.run pins s2 σ H2 (fun o H3 => o = none ∧ H3 = H2) I2 ⟨rfl, rfl⟩) fun vu s3 g3 => ?_
  obtain ⟨u, H3, I3, pu, rfl, rfl⟩ := g3
  refine thn (part.run pins s3 σ H3 (fun o H4 => o = some (-1) ∧ H4 = H3) I3 ⟨1, rfl, -1, rfl, rfl, rfl⟩) fun vs s4 g4 => ?_
  obtain ⟨o, H4, I4, ps, rfl, rfl⟩ := g4
  have I5 : Inv X pins σ H4 { s4 with heap := s4.heap.push { cls := .type "slice", data := .fields #[vl, vu, vs] } } := I4.kept (t' := s4.toks) fun b ob q => Heap.get?_push_of_some _ q
  obtain ⟨its, r, ht, hz⟩ := I5.tuple hx
  have hl := r.length
  show wpAny (model X.prog X.w) X.A (subscriptTail e (.Slice none none (some (.UnaryOp .USub (.Constant (.int 1) k p1) p2)) p3) (.ref a) (.ref s4.heap.objs.size)) (EP X pins σ Q) X.xe { s4 with heap := s4.heap.push { cls := .type "slice", data := .fields #[vl, vu, vs] } }
  refine tail_any (ops := [.ref a, .ref s4.heap.objs.size]) ht.typeIs (PyProof.Rows.slot_tuple_getitem.lookup) ?_ (by with_unfolding_all rfl)
  refine back_item ht (Heap.IsSliceOf.new _ vl vu vs) pl pu ps ?_ (by rw [List.size_toArray]; omega)
  refine ⟨.ref _, _, I5.laid (t' := s4.toks) (o := .tup xs.reverse) (fun b ob q => Heap.get?_push_of_some _ q) (Nat.le_refl _) ?_, rfl, q _ (I5.hok.fresh (Nat.le_refl _))⟩
  exact ⟨by rw [List.length_reverse]; exact hz, its.reverse, r.reverse, IsTup.new _ _⟩
/-! ### sorted of a tuple of ints -/
section
variable {prog : Program} {w : World} {A : Around} {E : Value → Shared → Prop} {s : Shared}
theorem collectT {l : Addr} {vs : List Value} {Q : List Value → Shared → Prop} (hl : s.heap.IsTuple l vs.toArray) (h : Q vs { s with heap := (s.heap.push (seqObj "list" #[] 0)).update s.heap.objs.size (Obj.mapSeq (· ++ vs.toArray)) })
    (hsz : vs.length ≤ sizeLine) : wpAny (model prog w) A (collect (.ref l)) Q E s := by
  obtain ⟨o, ho, hc, n, hd⟩ := id hl
  unfold collect
  refine wpAny_bind (wpAny_runValue (codeAny_builtin entry_proto_collect' ?_))
  show wpAny _ _ (do again (.builtin "list.__iadd__" ⟨[← newList [], .ref l], []⟩)) _ _ s
  refine wpAny_bind (wpAny_newList (wpAny_pure ⟨Code.quiet_builtin _ (by decide +kernel), codeAny_builtin entry_list_iadd' ?_⟩))
  show wpAny _ _ (Builtin.List.listExtendWith (.ref s.heap.objs.size) (.ref l) (.ref s.heap.objs.size)) _ _ { s with heap := s.heap.push (seqObj "list" #[] 0) }
  unfold Builtin.List.listExtendWith
  have there : (s.heap.push (seqObj "list" #[] 0)).get? l = some o := Heap.get?_push_of_some _ ho
  refine wpAny_bind (wpAny_typeOf (T := "tuple") ⟨o, there, hc⟩ ?_)
  have same : (Value.type "tuple" == Value.type "tuple") = true := by rfl
  rw [if_pos (by rw [same]; simp)]
  refine wpAny_bind (listItems_at there hd ?_)
  refine wpAny_bind (listItems_at (xs := #[]) (n := 0) (Heap.get?_push_size _ rfl) rfl ?_)
  rw [if_neg (by simp)]
  refine wpAny_bind (listUpdate_at (xs := #[]) (n := 0) (Heap.get?_push_size _ rfl) rfl ?_ (Nat.zero_le _) (by show (#[] ++ vs.toArray).size ≤ sizeLine + 1; simp only [Array.size_append, List.size_toArray, List.length_nil]; omega))
  refine wpAny_pure ?_
  show wpAny (model prog w) A (do
      let o ← load s.heap.objs.size
      match o.data with
      | .seq xs _ => pure xs.toList
      | _ => unsupported "internal:collect") Q E { s with heap := (s.heap.push (seqObj "list" #[] 0)).update s.heap.objs.size (Obj.mapSeq (· ++ vs.toArray)) }
  refine wpAny_bind (wpAny_load (get?_update_seq (Heap.get?_push_size _ rfl) _) ?_)
  show wpAny _ _ (pure ((#[] : Array Value) ++ vs.toArray).toList) Q E _
  rw [show ((#[] : Array Value) ++ vs.toArray).toList = vs by simp]
  exact wpAny_pure h
theorem sortedT {l : Addr} {vs : List Value} {ns : List Int} {Q : Value → Shared → Prop} (hl : s.heap.IsTuple l vs.toArray) (hI : IntsAre vs ns) (few : vs.length < 64)
    (h : ∀ (out : Array Value) (ns' : List Int), IntsAre out.toList ns' → ns'.Perm ns → ns'.Pairwise (· ≤ ·) → Q (.ref (s.heap.objs.size + 1)) { s with heap := sortedAll s.heap vs out }) :
    wpAny (model prog w) A (call (.builtin "sorted") [.ref l]) Q E s := by
  refine Calls.call_function_entry kind_sorted plain_sorted entry_sorted (args_sorted1 _) ?_
  unfold Builtin.«sorted»
  refine wpAny_bind (m := checkCount "sorted" 1 1 _) (wpAny_pure ?_)
  refine wpAny_bind (collectT hl ?_ (by rw [sizeLine_eq]; omega))
  refine wpAny_bind (wpAny_newList ?_)
  have sz : ((s.heap.push (seqObj "list" #[] 0)).update s.heap.objs.size (Obj.mapSeq (· ++ vs.toArray))).objs.size = s.heap.objs.size + 1 := by
    rw [Heap.size_update, size_push']
  have at1 : (((s.heap.push (seqObj "list" #[] 0)).update s.heap.objs.size (Obj.mapSeq (· ++ vs.toArray))).push (seqObj "list" vs.toArray 0)).get? (s.heap.objs.size + 1) = some (seqObj "list" vs.toArray 0) := by
    rw [← sz]
    exact Heap.get?_push_size _ rfl
  show wpAny _ _ _ _ _ { s with heap := ((s.heap.push (seqObj "list" #[] 0)).update s.heap.objs.size (Obj.mapSeq (· ++ vs.toArray))).push (seqObj "list" vs.toArray 0) }
  rw [sz]
  refine wpAny_bind (wpAny_holding (wpAny_call_entry slot_list_sort ⟨_, at1, rfl⟩ entry_list_sort (list_sort_tree at1 hI few fun out ns' a1 a2 a3 => ⟨_, rfl, ?_⟩) (args_list_sort _)))
  exact wpAny_pure ⟨_, rfl, h out ns' a1 a2 a3⟩
end
theorem ints_rel : ∀ {ns : List Int} {us : List Value}, Vals (ns.map V.int) us → IntsAre us ns
  | [], _, r => by cases r; exact .nil
  | n :: ns, _, r => by
    cases r with
    | cons r1 r2 =>
      obtain ⟨t, rfl⟩ := r1
      exact .cons n t (ints_rel r2)
theorem rel_ints : ∀ {us : List Value} {ns : List Int}, IntsAre us ns → Vals (ns.map V.int) us
  | _, _, .nil => .nil
  | _, _, .cons n t r => .cons ⟨t, rfl⟩ (rel_ints r)
/-- sorted(xs), ints of a list or a tuple, fewer than 64 -/
def rSortedQ (K : PySem.W.Frag) : List V → Hp → VK → Prop := fun vs H Q => ∃ (a : Addr) (ns : List Int), vs = [V.ref a] ∧ (SqL K H a (ns.map V.int) ∨ SqT K H a (ns.map V.int)) ∧ ns.length < 64 ∧
  ∀ (ns' : List Int) (p : Addr), ns'.Perm ns → ns'.Pairwise (· ≤ ·) → H p = none → Q (.ref p) (upd H p (.lst (ns'.map V.int)))
theorem cr_sortedQ {X : Cx} : CallR X (.builtin "sorted") (rSortedQ X.K) := by
  intro pins s σ H vs us Q I r h
  obtain ⟨a, ns, rfl, hq, few, q⟩ := h
  rcases hq with hq | hq
  · exact cr_sortedI pins s σ H [.ref a] us Q I r ⟨a, ns, rfl, hq, q⟩
  · rw [Vals.ref1 r]
    obtain ⟨its, rv, p, hz⟩ := I.tuple hq
    have hlen := rv.length
    rw [List.length_map] at hlen
    refine sortedT (show s.heap.IsTuple a its.toArray from p) (ints_rel rv) (by omega) fun out ns' h1 h2 h3 => ?_
    obtain ⟨ep, he⟩ := sortedAll_at s.heap its out
    have hl2 : (ns'.map V.int).length ≤ sizeLine := by
      rw [List.length_map, h2.length_eq, sizeLine_eq]
      omega
    exact ⟨.ref _, upd H (s.heap.objs.size + 1) (.lst (ns'.map V.int)), I.laid (t' := s.toks) (fun _ _ => sortedAll_old) (Nat.le_succ _) ⟨hl2, out.toList, ep, rel_ints h1, by simpa using he⟩, rfl, q ns' _ h2 h3 (I.hok.fresh (Nat.le_succ _))⟩
/-! ### a, b = a list or a tuple -/
def gSeq (K : PySem.W.Frag) (n : Nat) (t : TGs) : TG := fun v σ H Q => ∃ a xs, v = .ref a ∧ (SqL K H a xs ∨ SqT K H a xs) ∧ xs.length = n ∧ t xs σ H Q
theorem pg_seq {X : Cx} {es : List Expr} {k n : Nat} {t : TGs} {pos : Pos} (hc : X.calm = true) (h : PGs X es t) (hn : (assignEach es X.env).length = n := by rfl) (hst : (assignEach es X.env).findIdx? (·.1) = none := by rfl) : PG X (.Tuple es k pos) (gSeq X.K n t) := by
  constructor
  intro pins s σ H v u Q I r hw
  obtain ⟨a, xs, rfl, hq, hl, hw⟩ := hw
  rcases hq with hq | hq
  · exact (pg_lst (k := k) (pos := pos) hc h hn hst).run pins s σ H _ u Q I r ⟨a, xs, rfl, hq, hl, hw⟩
  · exact (pg_tup (k := k) (pos := pos) hc h hn hst).run pins s σ H _ u Q I r ⟨a, xs, rfl, hq, hl, hw⟩

/-! ### set(xs) of a list of ints -/
/-- a new set's object -/
abbrev blank (w : World) : Obj := { cls := .type "set", dict := none, data := .set #[] 0 (.fresh 0 0 (!w.params.followText "set-order")) }
section
variable {P : Program} {w : World} {A : Around} {E : Value → Shared → Prop} {s : Shared}
theorem set_lst {l : Addr} {its : Array Value} (ns : List Int) {Q : Value → Shared → Prop} (calm : A.handled = none) (isL : s.heap.IsList l its) (are : IntsAre its.toList ns) (few : ns.length + 1 < scanBound)
    (go : ∀ (g : Heap) (tk c : Nat), SetR w g s.heap.objs.size (fun j => decide (j ∈ ns)) c → c ≤ ns.length → (∀ b o, s.heap.get? b = some o → g.get? b = some o) → Q (.ref s.heap.objs.size) { s with heap := g, toks := tk }) :
    wpAny (model P w) A (call (.type "set") [.ref l]) Q E s := by
  have size : its.size = ns.length := by
    have z := IntsAre.length are
    rwa [Array.length_toList] at z
  have ⟨c, tl, hmro⟩ := F.called_set.mro
  have hmade := F.called_set.made; have hsub := F.called_set.sub
  refine wpAny_call (codeAny_of_tree (?_ : wpAny _ _ (callAny (.type "set") _) _ _ _))
  refine wpAny_pure ⟨Code.quiet_builtin _ (by decide +kernel), codeAny_builtin F.entry_type_call (?_ : _)⟩
  rw [Around.under_plain (weight_type_call_type "set" [.ref l] []) (by rfl)]
  have h1 := F.called_set.notType; have h2 := F.called_set.canCreate; have hct := F.typeCall_set_1 (.ref l)
  repeat (any_goals (first | assumption | (wp_step)))
  refine codeAny_mono (code_set_led1 (.ref l) (E := E) (Q₁ := fun obj t => obj = .ref s.heap.objs.size ∧ t = { s with heap := s.heap.push (blank w) }) ⟨rfl, rfl⟩) fun r t made => ?_
  cases r with
  | error e => exact made
  | ok fl =>
    cases fl with
    | ret obj =>
      obtain ⟨rfl, rfl⟩ := made
      have atS : (s.heap.push (blank w)).get? s.heap.objs.size = some (blank w) := Heap.get?_push_size _ rfl
      have hT : Shared.TypeIs { s with heap := s.heap.push (blank w) } (.ref s.heap.objs.size) "set" := ⟨_, atS, rfl⟩
      have hli := F.called_set.init.lookup; have hbi := F.called_set.init.bind (.ref s.heap.objs.size)
      repeat (any_goals (first | assumption | (wp_step)))
      refine codeAny_mono (codeAny_call_builtin (R := wants (fun r t2 => r = .none ∧ ∃ g tk c, t2 = { s with heap := g, toks := tk } ∧ SetR w g s.heap.objs.size (fun j => decide (j ∈ ns)) c ∧ c ≤ ns.length ∧ (∀ b o, s.heap.get? b = some o → g.get? b = some o)) E)
        F.called_set.init.plain F.entry_set_init (check_set_init_1 hT ?_)) fun r2 t2 done2 => ?_
      · obtain ⟨⟨ocls, odict, odata, oslots⟩, hol, hcl, nl, hdl⟩ := isL
        simp only at hcl hdl
        subst hcl hdl
        have hol' : (s.heap.push (blank w)).get? l = some { cls := .type "list", dict := odict, data := .seq its nl, slots := oslots } := Heap.get?_push_of_some _ hol
        have hsls := F.sub_list_set; have hslf := F.sub_list_frozenset
        have hne : (Value.type "list" == Value.type "dict") = false := (by decide)
        have isL1 : (s.heap.push (blank w)).IsList l its := ⟨_, hol', rfl, nl, rfl⟩
        unfold Builtin.«set.__init__» noKeywords Builtin.Frozenset.updateFrom
        generalize hPI : pyIter = PI
        wp_walk
        subst hPI
        refine wpAny_pyIter_list isL1 ?_
        refine wpAny_bind (wpAny_runValue (?_ : _))
        have lS : l < s.heap.objs.size := Heap.lt_size hol
        have calm3 : A.in1.in1.in1.handled = none := by simp [calm]
        have z1 : (s.heap.push (blank w)).objs.size = s.heap.objs.size + 1 := Heap.size_push ..
        have apart : l ≠ (s.heap.push (blank w)).objs.size := by
          rw [z1]
          exact Nat.ne_of_lt (Nat.lt_succ_of_lt lS)
        have out : s.heap.objs.size ∉ [(s.heap.push (blank w)).objs.size, l] := by
          rw [z1]
          simp only [List.mem_cons, List.not_mem_nil, or_false, not_or]
          exact ⟨Nat.ne_of_lt (Nat.lt_succ_self _), (Nat.ne_of_gt lS)⟩
        have each : ∀ (i : Nat) (v : Value), its[i]? = some v → ∃ k t, ns[i]? = some k ∧ v = .int k t := by
          intro i v hv
          have hi : i < ns.length := size ▸ (Array.getElem?_eq_some_iff.mp hv).1
          obtain ⟨t, e⟩ := IntsAre.int_at are i v (by rw [Array.getElem?_toList]; exact hv)
          refine ⟨ns[i], t, List.getElem?_eq_getElem hi, e.trans ?_⟩
          rw [List.getD_eq_getElem?_getD, List.getElem?_eq_getElem hi]
          rfl
        refine set_update_ints ((Walks.list calm3 _ l apart its).toS) s.heap.objs.size out ns size few each (its.size - 0) 0 _ (by omega) (Nat.zero_le _) ⟨⟨_, Heap.get?_push_size _ rfl, rfl, rfl⟩, isL1.push _⟩ ?first ?last
        case first =>
          exact ⟨0, Nat.le_refl 0, setR_new_at (Heap.get?_push_of_some _ atS)⟩
        case last =>
          intro t3 c3 moved le3 R3
          obtain ⟨g3, gens3, drawn3, tk3, os3⟩ := t3
          obtain rfl : gens3 = s.gens := moved.gens
          obtain rfl : drawn3 = s.drawn := moved.drawn
          obtain rfl : os3 = s.os := moved.os
          refine wpAny_pure ?_
          show wpAny _ _ (ret Value.none) _ _ _
          rw [size] at le3
          refine wpAny_pure ⟨rfl, g3, tk3, c3, rfl, R3, le3, fun b o e => ?_⟩
          have b0 : b < s.heap.objs.size := Heap.lt_size e
          refine moved.heap b o ?_ (Heap.get?_push_of_some _ (Heap.get?_push_of_some _ e))
          simp only [List.mem_cons, List.not_mem_nil, or_false, not_or]
          refine ⟨Nat.ne_of_lt b0, ?_⟩
          rw [z1]
          exact Nat.ne_of_lt (Nat.lt_succ_of_lt b0)
      · cases r2 with
        | error e => exact done2
        | ok fl2 =>
          cases fl2 with
          | ret r =>
            obtain ⟨rfl, g, tk, c, rfl, R4, le4, kept⟩ := done2
            repeat (any_goals (first | assumption | (wp_step)))
            exact go g _ c R4 le4 kept
          | _ => exact done2.elim
    | _ => exact made.elim
end
/-- set(xs), ints of a list or a tuple -/
def rSetQ (K : PySem.W.Frag) (w : World) : List V → Hp → VK → Prop := fun xs H Q => ∃ (a : Addr) (ns : List Int), xs = [V.ref a] ∧ (SqL K H a (ns.map V.int) ∨ SqT K H a (ns.map V.int)) ∧ ns.length ≤ 1000 ∧
  ∀ (p : Addr) (c : Nat), c ≤ ns.length → H p = none → Q (.ref p) (upd H p (SetO w p (fun j => decide (j ∈ ns)) c))
theorem cr_setQ {X : Cx} (hc : X.calm = true) : CallR X (.type "set") (rSetQ X.K X.w) := by
  intro pins s σ H xs us Q I r h
  obtain ⟨a, ns, rfl, hq, few, q⟩ := h
  have room : ns.length + 1 < scanBound := by
    unfold scanBound
    omega
  rw [Vals.ref1 r]
  rcases hq with hq | hq
  · obtain ⟨its, rv, p, hz⟩ := I.list hq
    refine set_lst ns (I.ok.hd hc) p.isList (by simpa using ints_rel rv) room fun g tk c R le kept => ?_
    exact ⟨.ref _, _, I.laid (t' := tk) kept (Nat.le_refl _) (setO_new R), rfl, q _ c le (I.hok.fresh (Nat.le_refl _))⟩
  · obtain ⟨its, rv, p, hz⟩ := I.tuple hq
    refine call_set_tupI ns (I.ok.hd hc) (show s.heap.IsTuple a its.toArray from p) (by simpa using ints_rel rv) room fun g tk c R le kept => ?_
    exact ⟨.ref _, _, I.laid (t' := tk) kept (Nat.le_refl _) (setO_new R), rfl, q _ c le (I.hok.fresh (Nat.le_refl _))⟩

/-! ### rows of drafts: the mathematics -/
inductive Row where
  | words (n : Nat)
  | label (s : Str)
  | even (n : Int)
  | branch (c n : Str) (m : Int)
/-- how many words a row has that begins at c -/
def rsize (r : Row) (c : Int) (far : Bool) : Int := match r with
  | .words n => (n : Int)
  | .label _ => 0
  | .even n => (-c) % n
  | .branch _ _ _ => if far = true then 2 else 1
def off (f : Int → Bool) (rs : List Row) : Nat → Int
  | 0 => 0
  | i + 1 => off f rs i + (match rs[i]? with
    | some r => rsize r (off f rs i) (f (i : Nat))
    | none => 0)
def isBr (rs : List Row) (i : Nat) : Bool := match rs[i]? with
  | some (.branch _ _ _) => true
  | _ => false
/-- the label that stands at i -/
def labOf (rs : List Row) (i : Nat) : Option Str := match rs[i]? with
  | some (.label s) => some s
  | _ => none
/-- the label to which the branch at i leads -/
def toOf (rs : List Row) (i : Nat) : Option Str := match rs[i]? with
  | some (.branch _ n _) => some n
  | _ => none
/-- the dict from labels to the numbers of their rows, of the first i rows -/
def spD (rs : List Row) : Nat → List (Key × V)
  | 0 => []
  | i + 1 => match labOf rs i with
    | some s => putK (spD rs i) (Sum.inr s) (.int (i : Nat))
    | none => spD rs i
theorem spD_len (rs : List Row) : ∀ i, (spD rs i).length ≤ i
  | 0 => Nat.le_refl _
  | i + 1 => by
    unfold spD
    have h := spD_len rs i
    split
    · have := length_putK (spD rs i) (Sum.inr (by assumption) : Key) (.int (i : Nat))
      omega
    · omega
/-- where a label stands -/
def spV (rs : List Row) (n : Str) : Option V := valV (spD rs rs.length) (Sum.inr n)
theorem spD_val (rs : List Row) (n : Str) (v : V) : ∀ i, valV (spD rs i) (Sum.inr n) = some v → ∃ j, j < i ∧ v = .int (j : Nat) ∧ labOf rs j = some n
  | 0, h => by cases h
  | i + 1, h => by
    unfold spD at h
    cases e : labOf rs i with
    | none =>
      rw [e] at h
      obtain ⟨j, h1, h2⟩ := spD_val rs n v i h
      exact ⟨j, by omega, h2⟩
    | some s =>
      rw [e] at h
      dsimp only at h
      rw [valV_put] at h
      split at h
      · rename_i e2
        cases h
        have : n = s := Sum.inr.inj e2
        exact ⟨i, by omega, rfl, by rw [e, this]⟩
      · obtain ⟨j, h1, h2⟩ := spD_val rs n v i h
        exact ⟨j, by omega, h2⟩
def spot (rs : List Row) (n : Str) : Option Nat := match spV rs n with
  | some (.int k) => some k.toNat
  | _ => none
theorem spV_some {rs : List Row} {n : Str} {v : V} (h : spV rs n = some v) : ∃ j, spot rs n = some j ∧ v = .int (j : Nat) ∧ j < rs.length ∧ labOf rs j = some n := by
  obtain ⟨j, h1, rfl, h3⟩ := spD_val rs n v _ h
  refine ⟨j, ?_, rfl, h1, h3⟩
  unfold spot
  rw [h]
  simp
theorem spV_none {rs : List Row} {n : Str} (h : spV rs n = none) : spot rs n = none := by
  unfold spot
  rw [h]
theorem spot_spV (rs : List Row) (n : Str) : spV rs n = (spot rs n).map fun j => .int (j : Nat) := by
  cases e : spV rs n with
  | none => rw [spV_none e]; rfl
  | some v =>
    obtain ⟨j, h1, h2, _⟩ := spV_some e
    rw [h1, h2]
    rfl
theorem spot_lt {rs : List Row} {n : Str} {j : Nat} (h : spot rs n = some j) : j < rs.length := by
  have e := spot_spV rs n
  rw [h] at e
  obtain ⟨j', h1, h2, h3, _⟩ := spV_some e
  rw [h] at h1
  cases h1
  exact h3
/-- where the branch at k leads, if in the draft -/
def aim (rs : List Row) (k : Nat) : Option Nat := (toOf rs k).bind (spot rs)
theorem aim_lt {rs : List Row} {k j : Nat} (h : aim rs k = some j) : j < rs.length ∧ k < rs.length := by
  unfold aim at h
  cases e : toOf rs k with
  | none => rw [e] at h; cases h
  | some n =>
    rw [e] at h
    refine ⟨spot_lt h, ?_⟩
    unfold toOf at e
    cases e2 : rs[k]? with
    | none => rw [e2] at e; cases e
    | some r => exact (List.getElem?_eq_some_iff.mp e2).1
def brsTo (rs : List Row) (i : Nat) : List Nat := (List.range i).filter (isBr rs)
def brs (rs : List Row) : List Nat := brsTo rs rs.length
def innTo (rs : List Row) (i : Nat) : List Nat := (List.range i).filter fun k => (aim rs k).isSome
def inn (rs : List Row) : List Nat := innTo rs rs.length
def outs (rs : List Row) : List Nat := (brs rs).filter fun k => (aim rs k).isNone
def way (f : Int → Bool) (rs : List Row) (k : Nat) : Int := off f rs ((aim rs k).getD 0) - off f rs k
def tooL (w : Int) : Bool := decide (w < -256) || decide (w > 255)
def isLong (f : Int → Bool) (rs : List Row) (k : Nat) : Bool := !f (k : Nat) && tooL (way f rs k)
/-- the near branches that are too long if f are far -/
def long (f : Int → Bool) (rs : List Row) : List Nat := (inn rs).filter (isLong f rs)
def nats (ks : List Nat) : List V := ks.map fun (k : Nat) => V.int (k : Int)
theorem nats_int (ks : List Nat) : nats ks = (ks.map fun (k : Nat) => (k : Int)).map V.int := by
  unfold nats
  rw [List.map_map]
  rfl
theorem nats_len (ks : List Nat) : (nats ks).length = ks.length := List.length_map ..
theorem nats_app (ks js : List Nat) : nats (ks ++ js) = nats ks ++ nats js := List.map_append ..
/-- membership of a list of nats -/
def mem (ns : List Int) : Int → Bool := fun k => decide (k ∈ ns)
theorem isBr_to {rs : List Row} {k : Nat} : isBr rs k = (toOf rs k).isSome := by
  unfold isBr toOf
  cases rs[k]? with
  | none => rfl
  | some r => cases r <;> rfl
theorem brs_inn (rs : List Row) : (brs rs).filter (fun k => (aim rs k).isSome) = inn rs := by
  unfold brs brsTo inn innTo
  rw [List.filter_filter]
  congr 1
  funext k
  rw [isBr_to]
  unfold aim
  cases toOf rs k with
  | none => rfl
  | some n => simp
theorem long_cong {f g : Int → Bool} {rs : List Row} (h : ∀ k, f k = g k) : long f rs = long g rs := by
  have : f = g := funext h
  rw [this]
/-! ### inV over nats -/
theorem inV_ints (k : Int) (ns : List Int) : inV (.int k) (ns.map V.int) = decide (k ∈ ns) := by
  unfold inV
  induction ns with
  | nil => simp
  | cons n ns ih =>
    rw [List.map_cons, List.any_cons, ih]
    have e : eqV (.int n) (.int k) = decide (n = k) := by
      by_cases h : n = k
      · subst h; simp [eqV]
      · simp [eqV, h]
    rw [e]
    by_cases h1 : n = k
    · subst h1; simp
    · have h2 : ¬ k = n := fun z => h1 z.symm
      simp [h1, h2, List.mem_cons]
theorem flat_ints (ns : List Int) : (ns.map V.int).all flatV = true := by
  rw [List.all_eq_true]
  intro x hx
  obtain ⟨n, _, rfl⟩ := List.mem_map.mp hx
  rfl
/-! ### rows in the heap -/
def RowV (K : PySem.W.Frag) (H : Hp) (v : V) : Row → Prop
  | .words n => ∃ a b, v = .ref a ∧ SqT K H a [.str "words", .ref b] ∧ ∃ xs, (SqL K H b xs ∨ SqT K H b xs) ∧ xs.length = n
  | .label s => ∃ a, v = .ref a ∧ SqT K H a [.str "label", .str s]
  | .even n => ∃ a, v = .ref a ∧ SqT K H a [.str "even", .int n]
  | .branch c n m => ∃ a, v = .ref a ∧ SqT K H a [.str "branch", .str c, .str n, .int m]
theorem rowV_same {K : PySem.W.Frag} {H H' : Hp} {v : V} {r : Row} (e : Same H H') (h : RowV K H v r) : RowV K H' v r := by
  cases r with
  | words n =>
    obtain ⟨a, b, h1, h2, xs, h3, h4⟩ := h
    exact ⟨a, b, h1, sqT_same e h2, xs, h3.imp (sqL_same e) (sqT_same e), h4⟩
  | label s =>
    obtain ⟨a, h1, h2⟩ := h
    exact ⟨a, h1, sqT_same e h2⟩
  | even n =>
    obtain ⟨a, h1, h2⟩ := h
    exact ⟨a, h1, sqT_same e h2⟩
  | branch c n m =>
    obtain ⟨a, h1, h2⟩ := h
    exact ⟨a, h1, sqT_same e h2⟩
inductive RowsV (K : PySem.W.Frag) (H : Hp) : List V → List Row → Prop
  | nil : RowsV K H [] []
  | cons {v : V} {vs : List V} {r : Row} {rs : List Row} : RowV K H v r → RowsV K H vs rs → RowsV K H (v :: vs) (r :: rs)
theorem rowsV_same {K : PySem.W.Frag} {H H' : Hp} (e : Same H H') : ∀ {xs : List V} {rs : List Row}, RowsV K H xs rs → RowsV K H' xs rs
  | _, _, .nil => .nil
  | _, _, .cons h t => .cons (rowV_same e h) (rowsV_same e t)
theorem rowsV_get {K : PySem.W.Frag} {H : Hp} : ∀ {xs : List V} {rs : List Row}, RowsV K H xs rs → ∀ {i : Nat} {v : V}, xs[i]? = some v → ∃ r, rs[i]? = some r ∧ RowV K H v r
  | _, _, .nil, i, v, h => by simp at h
  | _, _, .cons g t, 0, v, e => by
    obtain rfl : _ = v := Option.some.inj e
    exact ⟨_, rfl, g⟩
  | _, _, .cons g t, i + 1, v, e => rowsV_get t (i := i) e
theorem rowsV_len {K : PySem.W.Frag} {H : Hp} : ∀ {xs : List V} {rs : List Row}, RowsV K H xs rs → xs.length = rs.length
  | _, _, .nil => rfl
  | _, _, .cons _ t => congrArg (· + 1) (rowsV_len t)
/-- the kind of a row -/
def kindOf : Row → Str
  | .words _ => "words"
  | .label _ => "label"
  | .even _ => "even"
  | .branch _ _ _ => "branch"
/-- what a row's tuple holds -/
theorem rowV_tup {K : PySem.W.Frag} {H : Hp} {v : V} {r : Row} (h : RowV K H v r) : ∃ a xs, v = .ref a ∧ SqT K H a xs ∧ xs[0]? = some (.str (kindOf r)) := by
  cases r with
  | words n =>
    obtain ⟨a, b, h1, h2, _⟩ := h
    exact ⟨a, _, h1, h2, rfl⟩
  | label s =>
    obtain ⟨a, h1, h2⟩ := h
    exact ⟨a, _, h1, h2, rfl⟩
  | even n =>
    obtain ⟨a, h1, h2⟩ := h
    exact ⟨a, _, h1, h2, rfl⟩
  | branch c n m =>
    obtain ⟨a, h1, h2⟩ := h
    exact ⟨a, _, h1, h2, rfl⟩
theorem at_of {xs : List V} {i : Nat} {v : V} (h : xs[i]? = some v) : atI xs (i : Int) = some v := by
  have hi : i < xs.length := (List.getElem?_eq_some_iff.mp h).1
  unfold atI ixN
  rw [if_pos (by omega), if_pos (by omega)]
  show xs[((i : Int)).toNat]? = _
  rw [Int.toNat_natCast]
  exact h
theorem at_last {xs : List V} {v : V} : atI (xs ++ [v]) (-1) = some v := by
  unfold atI ixN
  rw [if_neg (by omega), if_pos (by simp; omega)]
  show (xs ++ [v])[_]? = _
  have e : (-1 + ((xs ++ [v]).length : Int)).toNat = xs.length := by
    rw [List.length_append, List.length_singleton]
    omega
  rw [e]
  simp

theorem strEq (a b : Str) : decide (V.str a = V.str b) = decide (a = b) := by
  by_cases c : a = b
  · rw [c]; simp
  · rw [decide_eq_false c]
    exact decide_eq_false fun z => c (V.str.inj z)
theorem intEq (a b : Int) : decide (V.int a = V.int b) = decide (a = b) := by
  by_cases c : a = b
  · rw [c]; simp
  · rw [decide_eq_false c]
    exact decide_eq_false fun z => c (V.int.inj z)
/-- a text compared with one that it is, that it is not -/
theorem kEq {k s : Str} {A B : Prop} (c : decide (k = s) = true) (h : A) : if decide (V.str k = V.str s) = true then A else B := by
  rw [strEq, c]
  exact iteT h
theorem kNe {k s : Str} {A B : Prop} (c : decide (k = s) = false) (h : B) : if decide (V.str k = V.str s) = true then A else B := by
  rw [strEq, c]
  exact iteF h
theorem kEqb {k s : Str} {Q : Bool → Prop} (c : decide (k = s) = true) (h : Q true) : Q (decide (V.str k = V.str s)) := by
  rw [strEq, c]
  exact h
theorem kNeb {k s : Str} {Q : Bool → Prop} (c : decide (k = s) = false) (h : Q false) : Q (decide (V.str k = V.str s)) := by
  rw [strEq, c]
  exact h
def RowOk : Row → Prop
  | .even n => 0 < n
  | _ => True
def spLengthOf (K : PySem.W.Frag) : Sp := fun vs H Q _ => ∃ v r c b, vs = [v, .int c, .bl b] ∧ RowV K H v r ∧ RowOk r ∧ Q (.int (rsize r c b)) H
abbrev sLengthOf : Stmt := topS 28
theorem scLengthOf : FnScope ["row", "begin", "is_far"] ["row", "begin", "is_far"] (defScope sLengthOf) := ⟨rfl, rfl, rfl, by decide +kernel, rfl, by decide +kernel, by decide +kernel⟩
section
variable {P : Program} {w : World} {K : PySem.W.Frag} {mg : Str → Option Value} {base : Heap}
theorem ok_lengthOf {f : Addr} {fd : FuncData} (F : Fun K "length_of" "length_of" sLengthOf f fd) (T : Bi mg) : FnOk P w K mg base CX0 1 f fd ["row", "begin", "is_far"] (spLengthOf K) := by
  refine F.ok scLengthOf (fun vs H Q E h => ?_) (fun cdv A outer s H vs Q E hr h => ?_)
  · obtain ⟨v, r, c, b, rfl, _⟩ := h
    rfl
  · obtain ⟨v, r, c, b, rfl, hv, hk, q⟩ := h
    refine ⟨_, (pss_cons (ps_if (pt_cmpR op_eq (pe_ix ix_tup (pv 0) pe_int (fun _ _ => rfl)) pe_str (nomark _)) (pss_one (ps_ret (pe_callB call_len_seq (by rfl) T.len (by decide +kernel) (pa_cons (pe_ix ix_tup (pv 0) pe_int (fun _ _ => rfl)) pa_nil)))) pss_nil)
      (pss_cons (ps_if (pt_cmpR op_eq (pe_ix ix_tup (pv 0) pe_int (fun _ _ => rfl)) pe_str (nomark _)) (pss_one (ps_ret (pe_op op_mod (pe_un un_neg (pv 1)) (pe_ix ix_tup (pv 0) pe_int (fun _ _ => rfl))))) pss_nil)
      (pss_cons (ps_if (pt_cmpR op_eq (pe_ix ix_tup (pv 0) pe_int (fun _ _ => rfl)) pe_str (nomark _)) (pss_one (ps_ret (pe_ifExp (pt_val (pv 2)) pe_int pe_int))) pss_nil)
      (pss_one (ps_ret pe_int))))), ?_⟩
    cases r with
    | words n =>
      obtain ⟨a, d, rfl, h2, xs, h3, h4⟩ := hv
      refine ⟨_, rfl, a, _, _, _, rfl, rfl, h2, at_of (i := 0) rfl, rfl, _, rfl, kEq (by decide +kernel) ?_⟩
      refine ⟨_, rfl, a, _, _, _, rfl, rfl, h2, at_of (i := 1) rfl, d, xs, rfl, h3, ?_⟩
      rw [h4]
      exact q
    | label z =>
      obtain ⟨a, rfl, h2⟩ := hv
      refine ⟨_, rfl, a, _, _, _, rfl, rfl, h2, at_of (i := 0) rfl, rfl, _, rfl, kNe (by decide +kernel) ?_⟩
      refine ⟨_, rfl, a, _, _, _, rfl, rfl, h2, at_of (i := 0) rfl, rfl, _, rfl, kNe (by decide +kernel) ?_⟩
      refine ⟨_, rfl, a, _, _, _, rfl, rfl, h2, at_of (i := 0) rfl, rfl, _, rfl, kNe (by decide +kernel) ?_⟩
      exact q
    | even n =>
      obtain ⟨a, rfl, h2⟩ := hv
      refine ⟨_, rfl, a, _, _, _, rfl, rfl, h2, at_of (i := 0) rfl, rfl, _, rfl, kNe (by decide +kernel) ?_⟩
      refine ⟨_, rfl, a, _, _, _, rfl, rfl, h2, at_of (i := 0) rfl, rfl, _, rfl, kEq (by decide +kernel) ?_⟩
      exact ⟨_, rfl, _, rfl, _, rfl, a, _, _, _, rfl, rfl, h2, at_of (i := 1) rfl, _, _, rfl, rfl, hk, q⟩
    | branch z n m =>
      obtain ⟨a, rfl, h2⟩ := hv
      refine ⟨_, rfl, a, _, _, _, rfl, rfl, h2, at_of (i := 0) rfl, rfl, _, rfl, kNe (by decide +kernel) ?_⟩
      refine ⟨_, rfl, a, _, _, _, rfl, rfl, h2, at_of (i := 0) rfl, rfl, _, rfl, kNe (by decide +kernel) ?_⟩
      refine ⟨_, rfl, a, _, _, _, rfl, rfl, h2, at_of (i := 0) rfl, rfl, _, rfl, kEq (by decide +kernel) ?_⟩
      refine ⟨_, rfl, _, rfl, ?_⟩
      cases b with
      | true => exact iteT q
      | false => exact iteF q
end

theorem small1000 {n : Nat} (h : n ≤ 1000) : n < sizeLine := Nat.lt_of_le_of_lt h (by decide)
theorem same_upd {H H' : Hp} {p : Addr} {o : HO} (e : Same H H') (hp : H p = none) : Same H (upd H' p o) := fun b u hb => by
  rw [upd_ne (ne_of_none hb hp)]
  exact e _ _ hb
/-- the offsets of the first rows -/
def offTo (f : Int → Bool) (rs : List Row) (i : Nat) : List V := (List.range (i + 1)).map fun j => V.int (off f rs j)
theorem offTo_succ (f : Int → Bool) (rs : List Row) (i : Nat) : offTo f rs (i + 1) = offTo f rs i ++ [V.int (off f rs (i + 1))] := by
  unfold offTo
  rw [List.range_succ, List.map_append]
  rfl
theorem offTo_len (f : Int → Bool) (rs : List Row) (i : Nat) : (offTo f rs i).length = i + 1 := by
  unfold offTo
  rw [List.length_map, List.length_range]
theorem offTo_last (f : Int → Bool) (rs : List Row) (i : Nat) : atI (offTo f rs i) (-1) = some (.int (off f rs i)) := by
  unfold offTo
  rw [List.range_succ, List.map_append]
  exact at_last
theorem offTo_at {f : Int → Bool} {rs : List Row} {i j : Nat} (h : j ≤ i) : atI (offTo f rs i) (j : Nat) = some (.int (off f rs j)) := by
  refine at_of ?_
  unfold offTo
  rw [List.getElem?_map, List.getElem?_range (by omega)]
  rfl
theorem off_succ {f : Int → Bool} {rs : List Row} {i : Nat} {r : Row} (h : rs[i]? = some r) : off f rs (i + 1) = off f rs i + rsize r (off f rs i) (f (i : Nat)) := by
  show off f rs i + _ = _
  rw [h]
def spMeasured (K : PySem.W.Frag) : Sp := fun vs H Q _ => ∃ (t l : Addr) (xs : List V) (rs : List Row) (ns : List Int), vs = [.ref t, .ref l] ∧ SqT K H t xs ∧ RowsV K H xs rs ∧ (∀ r ∈ rs, RowOk r) ∧ rs.length ≤ 900 ∧ (SqL K H l (ns.map V.int) ∨ SqT K H l (ns.map V.int)) ∧
  ∀ H' p, Same H H' → H p = none → H' p = some (.lst (offTo (mem ns) rs rs.length)) → Q (.ref p) H'
abbrev sMeasured : Stmt := topS 29
theorem scMeasured : FnScope ["rows", "far", "found", "index", "row"] ["rows", "far"] (defScope sMeasured) := ⟨rfl, rfl, rfl, by decide +kernel, rfl, by decide +kernel, by decide +kernel⟩
section
variable {P : Program} {w : World} {K : PySem.W.Frag} {mg : Str → Option Value} {base : Heap}
theorem ok_measured {f : Addr} {fd : FuncData} (F : Fun K "measured" "measured" sMeasured f fd) (T : Bi mg) (G : Has P w K mg base CX0 1 "length_of" ["row", "begin", "is_far"] (spLengthOf K)) : FnOk P w K mg base CX0 2 f fd ["rows", "far"] (spMeasured K) := by
  refine F.ok scMeasured (fun vs H Q E h => ?_) (fun cdv A outer s H vs Q E hr h => ?_)
  · obtain ⟨t, l, xs, rs, ns, rfl, _⟩ := h
    rfl
  · obtain ⟨t, l, xs, rs, ns, rfl, ht, hrs, hok, hlen, hl, q⟩ := h
    refine ⟨_, (pss_cons (ps_set (i := 2) scMeasured.nd rfl (.inl rfl) (pe_lst (pa_cons pe_int pa_nil)))
      (pss_cons (ps_for PassesOwn.never rfl (pi_enumT (by rfl) T.enumerate (pa_cons (pv 0) pa_nil)) (pg_tup rfl (pgs_cons (pg_name (i := 3) scMeasured.nd rfl (.inl rfl)) (pgs_cons (pg_name (i := 4) scMeasured.nd rfl (.inl rfl)) pgs_nil))) (pss_one (ps_expr (pe_bm PySem.F.plainAttrs_list PySem.F.slot_list_append PySem.F.type_list_append mt_append (pv 2) (pa_cons (pe_op op_add (pe_ix ix_list (pv 2) (pe_un un_neg pe_int) (fun _ _ => rfl)) (pe_callH G hr (by rfl) pass0 (pa_cons (pv 4) (pa_cons (pe_ix ix_list (pv 2) (pe_un un_neg pe_int) (fun _ _ => rfl)) (pa_cons (pe_cmpR op_in_seq (pv 3) (pv 1) (by rfl)) pa_nil))))) pa_nil)))))
      (pss_one (ps_ret (pv 2))))), ?_⟩
    refine ⟨(by show 1 ≤ sizeLine; decide), fun L hL => ?_⟩
    refine ⟨_, rfl, t, xs, rfl, sqT_same (same_new hL) ht, ?_⟩
    have lx := rowsV_len hrs
    refine for_it walk_enumT (fun i σ H4 => ∃ (p u : Option V), σ = [some (.ref t), some (.ref l), some (.ref L), p, u] ∧ Same H H4 ∧ H4 L = some (.lst (offTo (mem ns) rs i))) ⟨none, none, rfl, same_new hL, upd_same⟩ (fun i σ H4 _ ⟨_, _, _, sm, _⟩ => sqT_same sm ht) ?_ ?_
    · rintro i x σ H4 H4' hi ⟨p, u, rfl, sm, hL4⟩ ⟨TT, x', y, rfl, hT, rfl, hx', hy⟩
      cases hx'
      have sm5 : Same H4 (upd H4 TT (.tup [.int (i : Nat), y])) := same_new hT
      obtain ⟨r, hri, hrv⟩ := rowsV_get hrs hy
      have hrv5 := rowV_same (sm.trans sm5) hrv
      have hL5 := sm5 _ _ hL4
      have hm : r ∈ rs := List.mem_of_getElem? hri
      have hi' : i < rs.length := by omega
      refine ⟨TT, _, rfl, SqT.of upd_same, rfl, _, _, rfl, _, _, rfl, rfl, ?_⟩
      refine ⟨_, rfl, .inl ⟨rfl, _, SqL.of hL5⟩, ?_⟩
      refine ⟨_, rfl, _, rfl, L, _, _, _, rfl, rfl, SqL.of hL5, offTo_last _ _ _, ?_⟩
      refine ⟨_, rfl, _, rfl, _, rfl, L, _, _, _, rfl, rfl, SqL.of hL5, offTo_last _ _ _, _, rfl, _, rfl, l, _, rfl, hl.imp (sqL_same (sm.trans sm5)) (sqT_same (sm.trans sm5)), rfl, flat_ints ns, ?_⟩
      rw [inV_ints]
      refine ⟨y, r, _, _, rfl, hrv5, hok r hm, _, _, rfl, rfl, ?_⟩
      refine ⟨L, _, _, rfl, rfl, hL5, ?_, _, _, rfl, ?_, ?_⟩
      · rw [offTo_len]
        exact small1000 (by omega)
      · exact same_upd (sm.trans sm5) hL
      · rw [upd_same, offTo_succ, off_succ hri]
        rfl
    · rintro σ H4 ⟨p, u, rfl, sm, hL4⟩
      rw [lx] at hL4
      exact ⟨_, rfl, q H4 L sm hL hL4⟩
end

/-- a dict comprehension over any walk -/
theorem dc_it {J : It} {n : Nat} {G : Hp → Prop} {Y : Nat → Hp → V → Hp → Prop} (w : Walk J n G Y) {g : TG} {tt : TT} {tk tv : TE} {vs : List Nat} {σ : L2.St} {H1 : Hp} {D : Addr} {Qd : Hp → Prop} (Pv : Nat → Hp → Prop) (h0 : Pv 0 (upd H1 D (.dK []))) (hG : ∀ i H, i ≤ n → Pv i H → G H)
    (hs : ∀ i x H H', i < n → Pv i H → Y i H x H' → g x (wipe σ vs) H' fun σ2 H2 => wipe σ2 vs = wipe σ vs ∧ tt σ2 H2 fun b H3 =>
      if b = true then tk σ2 H3 fun y H4 => tv σ2 H4 fun z H5 => ∃ kvs k, y = kV k ∧ H5 D = some (.dK kvs) ∧ kvs.length < sizeLine ∧ Pv (i + 1) (upd H5 D (.dK (putK kvs k z))) else Pv (i + 1) H3) (hd : ∀ H, Pv n H → Qd H) :
    ∃ W : Nat → Nat → Hp → Prop, (∃ m, W 0 m (upd H1 D (.dK []))) ∧ ∀ i m H, W i m H →
      (J.stop i H ∧ Qd H) ∨ (J.go i H ∧ ∃ Nx : Hp → Prop, (∀ H', Nx H' → ∃ m', m' < m ∧ W (i + 1) m' H') ∧ ∀ x H', J.yld i H x H' → g x (wipe σ vs) H' fun σ2 H2 => wipe σ2 vs = wipe σ vs ∧ tt σ2 H2 fun b H3 =>
        if b = true then tk σ2 H3 fun y H4 => tv σ2 H4 fun z H5 => ∃ kvs k, y = kV k ∧ H5 D = some (.dK kvs) ∧ kvs.length < sizeLine ∧ Nx (upd H5 D (.dK (putK kvs k z))) else Nx H3) := by
  refine ⟨fun i m H => m = n - i ∧ i ≤ n ∧ Pv i H, ⟨n, rfl, Nat.zero_le _, h0⟩, fun i m H hW => ?_⟩
  obtain ⟨rfl, hi, p⟩ := hW
  have q := hG i H hi p
  rcases Nat.lt_or_eq_of_le hi with lt | rfl
  · exact .inr ⟨w.goes i H lt q, Pv (i + 1), fun H' p' => ⟨n - (i + 1), by omega, rfl, lt, p'⟩, fun x H' y => hs i x H H' lt p (w.yields i H x H' lt q y)⟩
  · exact .inl ⟨w.stops H q, hd H p⟩
def labR : Row → Option Str
  | .label s => some s
  | _ => none
theorem labOf_at {rs : List Row} {i : Nat} {r : Row} (h : rs[i]? = some r) : labOf rs i = labR r := by
  unfold labOf labR
  rw [h]
  cases r <;> rfl
/-- terms that are given by hand within comprehensions -/
abbrev ixT (K : PySem.W.Frag) (i : Nat) (n : Int) : TE := tOp (rIxT K) (tVar i) (tC (.int n))
abbrev row0Is (K : PySem.W.Frag) (i : Nat) (s : Str) : TT := tTest (tOp rEq (ixT K i 0) (tC (.str s)))
def spLabelsIn (K : PySem.W.Frag) : Sp := fun vs H Q _ => ∃ (t : Addr) (xs : List V) (rs : List Row), vs = [.ref t] ∧ SqT K H t xs ∧ RowsV K H xs rs ∧ rs.length ≤ 900 ∧ ∀ H' p, Same H H' → H p = none → H' p = some (.dK (spD rs rs.length)) → Q (.ref p) H'
abbrev sLabelsIn : Stmt := topS 30
theorem scLabelsIn : FnScope ["rows", "index", "row"] ["rows"] (defScope sLabelsIn) := ⟨rfl, rfl, rfl, by decide +kernel, rfl, by decide +kernel, by decide +kernel⟩
section
variable {P : Program} {w : World} {K : PySem.W.Frag} {mg : Str → Option Value} {base : Heap}
theorem ok_labelsIn {f : Addr} {fd : FuncData} (F : Fun K "labels_in" "labels_in" sLabelsIn f fd) (T : Bi mg) : FnOk P w K mg base CX0 1 f fd ["rows"] (spLabelsIn K) := by
  refine F.ok scLabelsIn (fun vs H Q E h => ?_) (fun cdv A outer s H vs Q E hr h => ?_)
  · obtain ⟨t, xs, rs, rfl, _⟩ := h
    rfl
  · obtain ⟨t, xs, rs, rfl, ht, hrs, hlen, q⟩ := h
    refine ⟨_, pss_one (ps_ret (pe_dc (own := [("index", 1), ("row", 2)]) (g := gTup K 2 (gCons (gName 1) (gCons (gName 2) gNil))) (tt := row0Is K 2 "label") (tk := ixT K 2 1) (tv := tVar 1) rfl scLabelsIn.nd (pi_enumT (by rfl) T.enumerate (pa_cons (pv 0) pa_nil)) (blkOk_by (N := ["rows", "index", "row"]) (sc := defScope sLabelsIn) (by decide +kernel))
      (fun _ _ _ _ _ => (pg_tup rfl (pgs_cons (pg_name (i := 1) scLabelsIn.nd rfl (.inl rfl) (.inr rfl)) (pgs_cons (pg_name (i := 2) scLabelsIn.nd rfl (.inl rfl) (.inr rfl)) pgs_nil)))) (fun _ _ _ _ _ => pts_one (pt_cmpR op_eq (pe_ix ix_tup (pv 2) pe_int (fun _ _ => rfl)) pe_str (nomark _))) (fun _ _ _ _ _ => pe_ix ix_tup (pv 2) pe_int (fun _ _ => rfl)) (fun _ _ _ _ _ => pv 1))), ?_⟩
    refine ⟨_, rfl, t, xs, rfl, ht, fun D hD => ?_⟩
    have lx := rowsV_len hrs
    refine dc_it walk_enumT (fun i H4 => Same H H4 ∧ H4 D = some (.dK (spD rs i))) ⟨same_new hD, upd_same⟩ (fun i H4 _ ⟨sm, _⟩ => sqT_same sm ht) ?_ ?_
    · rintro i x H4 H4' hi ⟨sm, hD4⟩ ⟨TT, x', y, rfl, hT, rfl, hx', hy⟩
      cases hx'
      have sm5 : Same H4 (upd H4 TT (.tup [.int (i : Nat), y])) := same_new hT
      obtain ⟨r, hri, hrv⟩ := rowsV_get hrs hy
      have hrv5 := rowV_same (sm.trans sm5) hrv
      have hD5 := sm5 _ _ hD4
      have hi' : i < rs.length := by omega
      refine ⟨TT, _, rfl, SqT.of upd_same, rfl, _, _, rfl, _, _, rfl, rfl, rfl, ?_⟩
      have el := labOf_at hri
      have key : ∀ {b : Bool} {A : Prop}, b = false → el = el → (labOf rs i = none) → ((if b = true then A else (Same H (upd H4 TT (.tup [.int (i : Nat), y])) ∧ (upd H4 TT (.tup [.int (i : Nat), y])) D = some (.dK (spD rs (i + 1)))))) := by
        intro b A hb _ hn
        rw [hb]
        refine iteF ⟨sm.trans sm5, ?_⟩
        unfold spD
        rw [hn]
        exact hD5
      cases r with
      | words n =>
        obtain ⟨a, d, rfl, h2, _⟩ := hrv5
        exact ⟨_, rfl, a, _, _, _, rfl, rfl, h2, at_of (i := 0) rfl, rfl, _, rfl, key (by rw [strEq]; decide +kernel) rfl el⟩
      | even n =>
        obtain ⟨a, rfl, h2⟩ := hrv5
        exact ⟨_, rfl, a, _, _, _, rfl, rfl, h2, at_of (i := 0) rfl, rfl, _, rfl, key (by rw [strEq]; decide +kernel) rfl el⟩
      | branch c n m =>
        obtain ⟨a, rfl, h2⟩ := hrv5
        exact ⟨_, rfl, a, _, _, _, rfl, rfl, h2, at_of (i := 0) rfl, rfl, _, rfl, key (by rw [strEq]; decide +kernel) rfl el⟩
      | label z =>
        obtain ⟨a, rfl, h2⟩ := hrv5
        refine ⟨_, rfl, a, _, _, _, rfl, rfl, h2, at_of (i := 0) rfl, rfl, _, rfl, kEq (by decide +kernel) ?_⟩
        refine ⟨_, rfl, a, _, _, _, rfl, rfl, h2, at_of (i := 1) rfl, _, rfl, spD rs i, Sum.inr z, rfl, hD5, ?_, ?_, ?_⟩
        · have := spD_len rs i
          exact small1000 (by omega)
        · exact same_upd (sm.trans sm5) hD
        · rw [upd_same]
          have e2 : spD rs (i + 1) = putK (spD rs i) (Sum.inr z) (.int (i : Nat)) := by
            show (match labOf rs i with | some s => putK (spD rs i) (Sum.inr s) (.int (i : Nat)) | none => spD rs i) = _
            rw [show labOf rs i = some z from el]
          rw [e2]
    · rintro H4 ⟨sm, hD4⟩
      rw [lx] at hD4
      exact q H4 D sm hD hD4
end

abbrev E00 : XK := fun _ _ _ => False
def spIsTooLong : Sp := fun vs H Q _ => ∃ wy : Int, vs = [.int wy] ∧ Q (.bl (tooL wy)) H
def spWayIn (K : PySem.W.Frag) : Sp := fun vs H Q _ => ∃ (d l : Addr) (kvs : List (Key × V)) (os : List V) (k j a b : Int), vs = [.ref d, .ref l, .int k] ∧ Rd H d (.dK kvs) ∧ valV kvs (Sum.inl k) = some (.int j) ∧ SqL K H l os ∧ atI os j = some (.int a) ∧ atI os k = some (.int b) ∧ Q (.int (a - b)) H
def mapD (g : Nat → V) (ks : List Nat) : List (Key × V) := ks.map fun (k : Nat) => (Sum.inl ((k : Nat) : Int), g k)
theorem mapD_len (g : Nat → V) (ks : List Nat) : (mapD g ks).length = ks.length := List.length_map ..
theorem mapD_val (g : Nat → V) (k : Nat) : ∀ ks : List Nat, valV (mapD g ks) (Sum.inl (k : Int)) = if k ∈ ks then some (g k) else none
  | [] => rfl
  | j :: ks => by
    show valV ((Sum.inl (j : Int), g j) :: mapD g ks) _ = _
    by_cases h : j = k
    · subst h
      rw [valV_pos rfl]
      simp
    · rw [valV_neg (by intro z; exact h (by have := Sum.inl.inj z; omega)), mapD_val g k ks]
      have h2 : ¬ k = j := fun z => h z.symm
      simp [List.mem_cons, h2]
def aimD (rs : List Row) : List (Key × V) := mapD (fun k => .int (((aim rs k).getD 0 : Nat) : Int)) (inn rs)
def spTooLong (K : PySem.W.Frag) : Sp := fun vs H Q _ => ∃ (t d l : Addr) (xs : List V) (rs : List Row) (ns : List Int), vs = [.ref t, .ref d, .ref l] ∧ SqT K H t xs ∧ RowsV K H xs rs ∧ (∀ r ∈ rs, RowOk r) ∧ rs.length ≤ 900 ∧ H d = some (.dK (aimD rs)) ∧ SqL K H l (ns.map V.int) ∧
  ∀ H' p, Same H H' → H p = none → H' p = some (.lst (nats (long (mem ns) rs))) → Q (.ref p) H'
abbrev sIsTooLong : Stmt := topS 31
abbrev sWayIn : Stmt := topS 34
abbrev sTooLong : Stmt := topS 35
theorem scIsTooLong : FnScope ["way"] ["way"] (defScope sIsTooLong) := ⟨rfl, rfl, rfl, by decide +kernel, rfl, by decide +kernel, by decide +kernel⟩
theorem scWayIn : FnScope ["aims", "offsets", "index"] ["aims", "offsets", "index"] (defScope sWayIn) := ⟨rfl, rfl, rfl, by decide +kernel, rfl, by decide +kernel, by decide +kernel⟩
theorem scTooLong : FnScope ["parts", "aims", "far", "offsets", "index"] ["parts", "aims", "far"] (defScope sTooLong) := ⟨rfl, rfl, rfl, by decide +kernel, rfl, by decide +kernel, by decide +kernel⟩
theorem mem_lt {rs : List Row} {k : Nat} (h : k ∈ inn rs) : k < rs.length ∧ ∃ j, aim rs k = some j ∧ j < rs.length := by
  unfold inn innTo at h
  obtain ⟨h1, h2⟩ := List.mem_filter.mp h
  obtain ⟨j, e⟩ := Option.isSome_iff_exists.mp h2
  exact ⟨List.mem_range.mp h1, j, e, (aim_lt e).1⟩
theorem inn_len (rs : List Row) : (inn rs).length ≤ rs.length := by
  unfold inn innTo
  refine Nat.le_trans (List.length_filter_le _ _) ?_
  rw [List.length_range]
  exact Nat.le_refl _
/-- a dict that a walk has locked, free again -/
theorem same_unlock {H H1 : Hp} {d D : Addr} {od : Obj} {u : HO} (hd : H d = some u) (hD : H D = none) (kp : ∀ b o, b ≠ D → upd H d (.frz od u) b = some o → H1 b = some o) : Same H (upd H1 d u) := fun b o e => by
  by_cases hb : b = d
  · rw [hb] at e ⊢
    rw [upd_same]
    exact hd.symm.trans e
  · rw [upd_ne hb]
    refine kp b o (ne_of_none e hD) ?_
    rw [upd_ne hb]
    exact e
section
variable {P : Program} {w : World} {K : PySem.W.Frag} {mg : Str → Option Value} {base : Heap}
theorem ok_isTooLong {f : Addr} {fd : FuncData} {t1 t2 : Tok} (F : Fun K "is_too_long" "is_too_long" sIsTooLong f fd) (g1 : mg "LOWEST" = some (.int (-256) t1)) (g2 : mg "HIGHEST" = some (.int 255 t2)) : FnOk P w K mg base CX0 1 f fd ["way"] spIsTooLong := by
  refine F.ok scIsTooLong (fun vs H Q E h => ?_) (fun cdv A outer s H vs Q E hr h => ?_)
  · obtain ⟨wy, rfl, _⟩ := h
    rfl
  · obtain ⟨wy, rfl, q⟩ := h
    refine ⟨_, pss_one (ps_ret (pe_not (pe_chain op_le op_le (pe_glob (v := .int (-256)) rfl g1 ⟨_, rfl⟩) (pv 0) (pe_glob (v := .int 255) rfl g2 ⟨_, rfl⟩)))), ?_⟩
    refine ⟨_, rfl, _, _, rfl, rfl, _, rfl, ?_⟩
    have e : tooL wy = !(decide (-256 ≤ wy) && decide (wy ≤ 255)) := by
      unfold tooL
      by_cases c1 : -256 ≤ wy <;> by_cases c2 : wy ≤ 255 <;> simp [c1, c2] <;> omega
    rw [e] at q
    cases c1 : decide (-256 ≤ wy) with
    | true =>
      rw [c1] at q
      exact iteT ⟨_, _, rfl, rfl, _, rfl, q⟩
    | false =>
      rw [c1] at q
      exact iteF ⟨_, rfl, q⟩
theorem ok_wayIn {f : Addr} {fd : FuncData} (F : Fun K "way_in" "way_in" sWayIn f fd) : FnOk P w K mg base CX0 1 f fd ["aims", "offsets", "index"] (spWayIn K) := by
  refine F.ok scWayIn (fun vs H Q E h => ?_) (fun cdv A outer s H vs Q E hr h => ?_)
  · obtain ⟨d, l, kvs, os, k, j, a, b, rfl, _⟩ := h
    rfl
  · obtain ⟨d, l, kvs, os, k, j, a, b, rfl, hd, hk, hl, ha, hb, q⟩ := h
    have hu := hu_of hr
    refine ⟨_, pss_one (ps_ret (pe_op op_sub (pe_ix ix_list (pv 1) (pe_dget hu (pv 0) (pv 2) (fun _ _ => rfl)) (fun _ _ => rfl)) (pe_ix ix_list (pv 1) (pv 2) (fun _ _ => rfl)))), ?_⟩
    refine ⟨_, rfl, _, rfl, _, rfl, d, _, rfl, .inl ⟨kvs, Sum.inl k, hd, rfl, hk.symm⟩, l, os, _, _, rfl, rfl, hl, ha, ?_⟩
    exact ⟨_, rfl, _, rfl, l, os, _, _, rfl, rfl, hl, hb, _, _, rfl, rfl, q⟩
theorem ok_tooLong {f : Addr} {fd : FuncData} (F : Fun K "too_long_ones" "too_long_ones" sTooLong f fd) (G : Has P w K mg base CX0 2 "measured" ["rows", "far"] (spMeasured K)) (G2 : Has P w K mg base CX0 2 "is_too_long" ["way"] spIsTooLong)
    (G3 : Has P w K mg base CX0 2 "way_in" ["aims", "offsets", "index"] (spWayIn K)) : FnOk P w K mg base CX0 3 f fd ["parts", "aims", "far"] (spTooLong K) := by
  refine F.ok scTooLong (fun vs H Q E h => ?_) (fun cdv A outer s H vs Q E hr h => ?_)
  · obtain ⟨t, d, l, xs, rs, ns, rfl, _⟩ := h
    rfl
  · obtain ⟨t, d, l, xs, rs, ns, rfl, ht, hrs, hok, hlen, hd, hl, q⟩ := h
    refine ⟨_, (pss_cons (ps_set (i := 3) scTooLong.nd rfl (.inr rfl) (pe_callH G hr (by rfl) pass0 (pa_cons (pv 0) (pa_cons (pv 2) pa_nil))))
      (pss_one (ps_ret (pe_lock (pe_lc (own := [("index", 4)]) (g := gName 4) (tt := tAnd (tTest (tOp (rIn K true) (tVar 4) (tVar 2))) (tB (tCall spIsTooLong [] E00 (tCons (tCall (spWayIn K) [] E00 (tCons (tVar 1) (tCons (tVar 3) (tCons (tVar 4) tNil)))) tNil)))) rfl scTooLong.nd (pi_keys (pv 1)) (blkOk_by (N := ["parts", "aims", "far", "offsets", "index"]) (sc := defScope sTooLong) (by decide +kernel)) (fun _ _ _ _ _ => pg_name (i := 4) scTooLong.nd rfl (.inl rfl))
        (fun _ _ _ _ _ => pts_one (PW.pt (pw_and (pt_cmpR op_notIn_seq (pv 4) (pv 2) (by rfl)) (pw_and1 (pt_val (pe_callH G2 hr (by rfl) pass0 (pa_cons (pe_callH G3 hr (by rfl) pass0 (pa_cons (pv 1) (pa_cons (pv 3) (pa_cons (pv 4) pa_nil)))) pa_nil))))))) (fun _ _ _ _ _ => (pv 4))))))), ?_⟩
    refine ⟨_, rfl, _, rfl, t, l, xs, rs, ns, rfl, ht, hrs, hok, hlen, .inl hl, fun H0 O s0 hO0 hO => ?_⟩
    have hd0 := s0 _ _ hd
    refine ⟨d, _, hd0, trivial, fun od => ⟨_, rfl, d, od, rfl, .inl ⟨_, upd_same, fun D hD => ?_⟩⟩⟩
    have hDd : D ≠ d := by
      intro z
      rw [z, upd_same] at hD
      cases hD
    have hDn : H0 D = none := by
      rw [upd_ne hDd] at hD
      exact hD
    have hOd : O ≠ d := ne_of hO hd0 (by intro z; cases z)
    have hOD : O ≠ D := ne_of_none hO hDn
    refine lc_it walk_keys (fun i H1 => (∀ b o, b ≠ D → upd H0 d (.frz od (.dK (aimD rs))) b = some o → H1 b = some o) ∧ H1 D = some (.lst (nats (((inn rs).take i).filter (isLong (mem ns) rs)))))
      ⟨fun b o hb e => by rw [upd_ne hb]; exact e, upd_same⟩ (fun i H1 _ ⟨kp, _⟩ => kp _ _ hDd.symm upd_same) ?_ ?_
    · rintro i x H1 H1' hi ⟨kp, hD1⟩ ⟨rfl, k, v, hk, rfl⟩
      obtain ⟨kk, hkk, hk2⟩ : ∃ kk, (inn rs)[i]? = some kk ∧ (k, v) = (Sum.inl (kk : Int), V.int (((aim rs kk).getD 0 : Nat) : Int)) := by
        unfold aimD mapD at hk
        rw [List.getElem?_map] at hk
        cases e : (inn rs)[i]? with
        | none => rw [e] at hk; cases hk
        | some kk =>
          rw [e] at hk
          exact ⟨kk, rfl, (Option.some.inj hk).symm⟩
      cases hk2
      have hmem := List.mem_of_getElem? hkk
      obtain ⟨hlt, j, ej, hj⟩ := mem_lt hmem
      have hd1 : H1' d = some (.frz od (.dK (aimD rs))) := kp _ _ hDd.symm upd_same
      have hO1 : H1' O = some (.lst (offTo (mem ns) rs rs.length)) := kp _ _ hOD (by rw [upd_ne hOd]; exact hO)
      have hl1 : SqL K H1' l (ns.map V.int) := by
        rcases sqL_same s0 hl with hq | hq
        · rcases hq with hq | ⟨o, hq⟩
          · refine .inl (.inl (kp _ _ (ne_of_none hq hDn) ?_))
            rw [upd_ne (ne_of hq hd0 (by intro z; cases z))]
            exact hq
          · refine .inl (.inr ⟨o, kp _ _ (ne_of_none hq hDn) ?_⟩)
            rw [upd_ne (ne_of hq hd0 (by intro z; cases z))]
            exact hq
        · exact .inr hq
      have tk : (inn rs).take (i + 1) = (inn rs).take i ++ [kk] := by
        rw [List.take_add_one, hkk]
        rfl
      have end1 : isLong (mem ns) rs kk = true → ∃ acc, H1' D = some (.lst acc) ∧ acc.length < sizeLine ∧ ((∀ b o, b ≠ D → upd H0 d (.frz od (.dK (aimD rs))) b = some o → upd H1' D (.lst (acc ++ [V.int (kk : Int)])) b = some o) ∧ upd H1' D (.lst (acc ++ [V.int (kk : Int)])) D = some (.lst (nats (((inn rs).take (i + 1)).filter (isLong (mem ns) rs))))) := by
        intro hlg
        refine ⟨_, hD1, ?_, fun b o hb e => ?_, ?_⟩
        · rw [nats_len]
          have h1 : (((inn rs).take i).filter (isLong (mem ns) rs)).length ≤ ((inn rs).take i).length := List.length_filter_le _ _
          have h2 : ((inn rs).take i).length ≤ (inn rs).length := by rw [List.length_take]; omega
          have h3 := inn_len rs
          exact small1000 (by omega)
        · rw [upd_ne hb]
          exact kp b o hb e
        · rw [upd_same, tk, List.filter_append, nats_app]
          have z : [kk].filter (isLong (mem ns) rs) = [kk] := by simp [List.filter, hlg]
          rw [z]
          rfl
      have end0 : isLong (mem ns) rs kk = false → (∀ b o, b ≠ D → upd H0 d (.frz od (.dK (aimD rs))) b = some o → H1' b = some o) ∧ H1' D = some (.lst (nats (((inn rs).take (i + 1)).filter (isLong (mem ns) rs)))) := by
        intro hlg
        refine ⟨kp, ?_⟩
        rw [tk, List.filter_append]
        have z : [kk].filter (isLong (mem ns) rs) = [] := by simp [List.filter, hlg]
        rw [z, List.append_nil]
        exact hD1
      refine ⟨rfl, _, rfl, _, rfl, l, _, rfl, .inl hl1, rfl, flat_ints ns, _, rfl, ?_⟩
      show if (!inV (.int (kk : Int)) (ns.map V.int)) = true then _ else _
      rw [inV_ints]
      have em : decide ((kk : Int) ∈ ns) = mem ns (kk : Int) := rfl
      rw [em]
      unfold isLong at end1 end0
      cases c : mem ns (kk : Int) with
      | true =>
        rw [c] at end0
        exact iteF (iteF (end0 rfl))
      | false =>
        rw [c] at end0 end1
        refine iteT ⟨_, rfl, _, rfl, _, rfl, d, O, aimD rs, offTo (mem ns) rs rs.length, (kk : Int), (j : Int), off (mem ns) rs j, off (mem ns) rs kk, rfl, .inr ⟨od, hd1⟩, ?_, SqL.of hO1, offTo_at (by omega), offTo_at (by omega), ?_⟩
        · unfold aimD
          rw [mapD_val, if_pos hmem, ej]
          rfl
        · refine ⟨_, rfl, _, rfl, ?_⟩
          have ew : way (mem ns) rs kk = off (mem ns) rs j - off (mem ns) rs kk := by
            unfold way
            rw [ej]
            rfl
          rw [← ew]
          cases c2 : tooL (way (mem ns) rs kk) with
          | true =>
            rw [c2] at end1
            exact iteT ⟨_, rfl, end1 rfl⟩
          | false =>
            rw [c2] at end0
            exact iteF (end0 rfl)
    · rintro H1 ⟨kp, hD1⟩
      have tl : (inn rs).take (aimD rs).length = inn rs := by
        unfold aimD
        rw [mapD_len]
        exact List.take_length
      rw [tl] at hD1
      have hd1 : H1 d = some (.frz od (.dK (aimD rs))) := kp _ _ hDd.symm upd_same
      refine ⟨hd1, q _ D (s0.trans (same_unlock hd0 hDn kp)) ?_ ?_⟩
      · cases e : H D with
        | none => rfl
        | some o => rw [s0 _ _ e] at hDn; cases hDn
      · rw [upd_ne hDd]
        exact hD1
end

/-- what a comprehension wants of a walk -/
def LcW (J : It) (g : TG) (tt : TT) (te : TE) (vs : List Nat) (σ : L2.St) (H1 : Hp) (D : Addr) (Qd : Hp → Prop) : Prop :=
  ∃ W : Nat → Nat → Hp → Prop, (∃ m, W 0 m (upd H1 D (.lst []))) ∧ ∀ i m H, W i m H → (J.stop i H ∧ Qd H) ∨ (J.go i H ∧ ∃ Nx : Hp → Prop, (∀ H', Nx H' → ∃ m', m' < m ∧ W (i + 1) m' H') ∧
    ∀ x H', J.yld i H x H' → g x (wipe σ vs) H' fun σ2 H2 => wipe σ2 vs = wipe σ vs ∧ tt σ2 H2 fun b H3 => if b = true then te σ2 H3 fun y H4 => ∃ acc, H4 D = some (.lst acc) ∧ acc.length < sizeLine ∧ Nx (upd H4 D (.lst (acc ++ [y]))) else Nx H3)
theorem walk_zipT {K : PySem.W.Frag} {a b : Addr} {xs ys : List V} {n : Nat} (hn : n = min xs.length ys.length) : Walk (RZ.ItzT K a b) n (fun H => SqT K H a xs ∧ SqT K H b ys) (YPair (fun i => xs[i]?) (fun i => ys[i]?)) := by
  subst hn
  refine ⟨fun i H hi q => ?_, fun H q => ⟨xs, ys, q.1, q.2, by omega⟩, fun i H v H' hi q y => ?_⟩
  · have h1 : i < xs.length := by omega
    have h2 : i < ys.length := by omega
    exact ⟨xs, ys, xs[i], ys[i], q.1, q.2, List.getElem?_eq_getElem h1, List.getElem?_eq_getElem h2⟩
  · obtain ⟨T, x, z, h1, h2, h3, h4, h5⟩ := y
    exact ⟨T, x, z, h1, h2, h3, h4 xs q.1, h5 ys q.2⟩
theorem cut_from {xs : List V} {r : Nat} (h : r ≤ xs.length) : cutV xs (some (r : Int)) none = xs.drop r := by
  unfold cutV
  rw [HT.sIx_none, HT.sIx_nat, Nat.min_eq_left h]
  rw [List.take_of_length_le (by rw [List.length_drop]; exact Nat.le_refl _)]
theorem cut_to {xs : List V} {r : Nat} (h : r ≤ xs.length) : cutV xs none (some (r : Int)) = xs.take r := by
  unfold cutV
  rw [HT.sIx_none, HT.sIx_nat, List.drop_zero, Nat.sub_zero, Nat.min_eq_left h]
theorem cut_1 (xs : List V) : cutV xs (some 1) none = xs.drop 1 := by
  cases xs with
  | nil => rfl
  | cons x xs => exact cut_from (r := 1) (by simp)
def SqE (K : PySem.W.Frag) (H : Hp) (a : Addr) (xs : List V) : Prop := SqL K H a xs ∨ SqT K H a xs
theorem sqE_same {K : PySem.W.Frag} {H H' : Hp} {a : Addr} {xs : List V} (e : Same H H') (h : SqE K H a xs) : SqE K H' a xs := h.imp (sqL_same e) (sqT_same e)
/-- whether a row ascends -/
def ascN (ns : List Int) (i : Nat) : List Bool := ((ns.zip (ns.drop 1)).take i).map fun p => decide (p.1 < p.2)
def ascB (ns : List Int) : Bool := (ascN ns ns.length).all id
def spAsc (K : PySem.W.Frag) : Sp := fun vs H Q _ => ∃ (a : Addr) (ns : List Int), vs = [.ref a] ∧ SqE K H a (ns.map V.int) ∧ ns.length ≤ 900 ∧ ∀ H', Same H H' → Q (.bl (ascB ns)) H'
abbrev sAsc : Stmt := topS 36
theorem scAsc : FnScope ["row", "one", "other"] ["row"] (defScope sAsc) := ⟨rfl, rfl, rfl, by decide +kernel, rfl, by decide +kernel, by decide +kernel⟩
abbrev g2 (K : PySem.W.Frag) (i j : Nat) : TG := gTup K 2 (gCons (gName i) (gCons (gName j) gNil))
section
variable {P : Program} {w : World} {K : PySem.W.Frag} {mg : Str → Option Value} {base : Heap}
theorem asc_core {J : It} {n : Nat} {G : Hp → Prop} {ns : List Int} {σ : L2.St} {H H1 : Hp} {D : Addr} {Q : VK} {x0 : Option V} (hσ : σ = [x0, none, none]) (hn : n = (ns.zip (ns.drop 1)).length)
    (wk : Walk J n G (YPair (fun i => (ns.map V.int)[i]?) (fun i => ((ns.map V.int).drop 1)[i]?))) (s1 : Same H H1) (hl : ns.length ≤ 900) (hG : ∀ H4, (∀ b o, b ≠ D → H1 b = some o → H4 b = some o) → G H4) (hD : H1 D = none)
    (q : ∀ H' p, Same H H' → H' p = some (.lst ((ascN ns ns.length).map V.bl)) → Q (.ref p) H') : LcW J (g2 K 1 2) tYes (tOp (rI0 fun i j => .bl (decide (i < j))) (tVar 1) (tVar 2)) [1, 2] σ H1 D (fun H' => Q (.ref D) H') := by
  subst hσ
  have zl : (ns.zip (ns.drop 1)).length ≤ ns.length := by
    rw [List.length_zip]
    omega
  refine lc_it wk (fun i H4 => (∀ b o, b ≠ D → H1 b = some o → H4 b = some o) ∧ H4 D = some (.lst ((ascN ns i).map V.bl))) ⟨fun b o hb e => by rw [upd_ne hb]; exact e, by rw [upd_same]; rfl⟩ (fun i H4 _ ⟨kp, _⟩ => hG H4 kp) ?_ ?_
  · rintro i x H4 H4' hi ⟨kp, hD4⟩ ⟨TT, x', y', rfl, hT, rfl, hx', hy'⟩
    have hi2 : i < (ns.zip (ns.drop 1)).length := by omega
    have hz : (ns.zip (ns.drop 1))[i]? = some (ns.zip (ns.drop 1))[i] := List.getElem?_eq_getElem hi2
    obtain ⟨z1, z2⟩ := List.getElem?_zip_eq_some.mp hz
    generalize hp : (ns.zip (ns.drop 1))[i] = p at hz z1 z2
    have e1 : x' = V.int p.1 := by
      have h' : (ns.map V.int)[i]? = some x' := hx'
      rw [List.getElem?_map, z1] at h'
      exact (Option.some.inj h').symm
    have e2 : y' = V.int p.2 := by
      have h' : ((ns.map V.int).drop 1)[i]? = some y' := hy'
      rw [← List.map_drop, List.getElem?_map, z2] at h'
      exact (Option.some.inj h').symm
    subst e1 e2
    have hTD : TT ≠ D := fun z => by rw [z, hD4] at hT; cases hT
    have nx : ascN ns (i + 1) = ascN ns i ++ [decide (p.1 < p.2)] := by
      unfold ascN
      rw [List.take_add_one, hz]
      simp
    refine ⟨TT, _, rfl, SqT.of upd_same, rfl, _, _, rfl, _, _, rfl, rfl, rfl, ?_⟩
    refine yes_go (iteT ⟨_, rfl, _, rfl, _, _, rfl, rfl, _, by rw [upd_ne hTD.symm]; exact hD4, ?_, fun b o hb e => ?_, ?_⟩)
    · rw [List.length_map]
      unfold ascN
      rw [List.length_map, List.length_take]
      exact small1000 (by omega)
    · rw [upd_ne hb]
      have k := kp b o hb e
      rw [upd_ne (ne_of_none k hT)]
      exact k
    · rw [upd_same, nx, List.map_append]
      rfl
  · rintro H4 ⟨kp, hD4⟩
    refine q H4 D (fun b o e => kp b o (ne_of_none (s1 _ _ e) hD) (s1 _ _ e)) ?_
    have e : ascN ns n = ascN ns ns.length := by
      unfold ascN
      rw [List.take_of_length_le (by omega), List.take_of_length_le (by omega)]
    rw [← e]
    exact hD4
theorem ok_asc {f : Addr} {fd : FuncData} (F : Fun K "is_ascending" "is_ascending" sAsc f fd) (T : Bi mg) : FnOk P w K mg base CX0 1 f fd ["row"] (spAsc K) := by
  refine F.ok scAsc (fun vs H Q E h => ?_) (fun cdv A outer s H vs Q E hr h => ?_)
  · obtain ⟨a, ns, rfl, _⟩ := h
    rfl
  · obtain ⟨a, ns, rfl, ha, hl, q⟩ := h
    refine ⟨_, pss_one (ps_ret (pe_callB (cr_all rfl) (by rfl) T.all (by decide +kernel) (pa_cons (pe_lc (own := [("one", 1), ("other", 2)]) (g := g2 K 1 2) (tt := tYes) rfl scAsc.nd (RZ.pi_zipA (by rfl) T.zip (pa_cons (pv 0) (pa_cons (pe_slice (SlR.or sl_list sl_tupA) (pv 0) (po_some pe_int) po_none) pa_nil))) (blkOk_by (N := ["row", "one", "other"]) (sc := defScope sAsc) (by decide +kernel))
      (fun _ _ _ _ _ => (pg_tup rfl (pgs_cons (pg_name (i := 1) scAsc.nd rfl (.inl rfl) (.inr rfl)) (pgs_cons (pg_name (i := 2) scAsc.nd rfl (.inl rfl) (.inr rfl)) pgs_nil)))) (fun _ _ _ _ _ => pts_nil) (fun _ _ _ _ _ => (pe_cmpR op_lt (pv 1) (pv 2) (nomark _)))) pa_nil))), ?_⟩
    have fin : ∀ H' p, Same H H' → H' p = some (.lst ((ascN ns ns.length).map V.bl)) → rAll K [.ref p] H' Q := fun H' p sm hp => ⟨p, _, rfl, SqL.of hp, q H' sm⟩
    have zn : ∀ ys : List V, ys = (ns.map V.int).drop 1 → (ns.zip (ns.drop 1)).length = min (ns.map V.int).length ys.length := by
      intro ys e
      rw [e, List.length_zip, List.length_map, List.length_drop, List.length_drop, List.length_map]
    rcases ha with ha | ha
    · refine ⟨_, rfl, _, rfl, 1, rfl, .inl ⟨a, _, rfl, ha, fun p hp => ?_⟩⟩
      rw [cut_1]
      have sp := same_new (o := .lst ((ns.map V.int).drop 1)) hp
      refine ⟨a, p, _, _, rfl, .inl ⟨sqL_same sp ha, SqL.of upd_same, fun D hD => ?_⟩⟩
      have pD : p ≠ D := fun z => by rw [z, upd_same] at hD; cases hD
      have hDn : H D = none := by
        rw [upd_ne pD.symm] at hD
        exact hD
      refine asc_core (H := H) (x0 := some (.ref a)) (Q := fun v H' => rAll K [v] H' Q) rfl rfl (walk_zip (zn _ rfl)) sp hl (fun H4 kp => ⟨?_, SqL.of (kp _ _ pD upd_same)⟩) hD fin
      exact sqL_same (fun b o e => kp b o (ne_of_none e hDn) (sp _ _ e)) ha
    · refine ⟨_, rfl, _, rfl, 1, rfl, .inr ⟨a, _, rfl, ha, fun hw => ?_, fun hw p hp => ?_⟩⟩
      · have z0 : (ns.map V.int).drop 1 = ns.map V.int := by
          cases ns with
          | nil => rfl
          | cons n ns =>
            have h0 := hw.1
            simp [HT.sIx] at h0
        refine ⟨a, a, _, _, rfl, .inr ⟨ha, (by rw [z0]; exact ha : SqT K H a ((ns.map V.int).drop 1)), fun D hD => ?_⟩⟩
        refine asc_core (H := H) (x0 := some (.ref a)) (Q := fun v H' => rAll K [v] H' Q) rfl rfl (walk_zipT (zn _ rfl)) (Same.refl H) hl (fun H4 kp => ?_) hD fin
        have k1 := sqT_same (fun b o e => kp b o (ne_of_none e hD) e) ha
        exact ⟨k1, by rw [z0]; exact k1⟩
      · rw [cut_1]
        have sp := same_new (o := .tup ((ns.map V.int).drop 1)) hp
        refine ⟨a, p, _, _, rfl, .inr ⟨sqT_same sp ha, SqT.of upd_same, fun D hD => ?_⟩⟩
        have pD : p ≠ D := fun z => by rw [z, upd_same] at hD; cases hD
        have hDn : H D = none := by
          rw [upd_ne pD.symm] at hD
          exact hD
        refine asc_core (H := H) (x0 := some (.ref a)) (Q := fun v H' => rAll K [v] H' Q) rfl rfl (walk_zipT (zn _ rfl)) sp hl (fun H4 kp => ⟨?_, SqT.of (kp _ _ pD upd_same)⟩) hD fin
        exact sqT_same (fun b o e => kp b o (ne_of_none e hDn) (sp _ _ e)) ha
end

theorem dps_ints {K : PySem.W.Frag} {H : Hp} : ∀ ks : List Int, DpAll K H (ks.map V.int) (ks.map PyData.int)
  | [] => .nil
  | k :: ks => .cons (.int k) (dps_ints ks)
/-- a plain number as a sum -/
def sumI (k : Int) : PyData := .tuple [.int k, .tuple []]
theorem sumI_lay : ∀ ks : List Int, PyData.canLayAll0 (ks.map sumI) = true
  | [] => rfl
  | k :: ks => by
    rw [List.map_cons]
    simp [PyData.canLayAll0, sumI, PyData.canLay0, sumI_lay ks]
theorem sumI_depth : ∀ ks : List Int, PyData.depthAll (ks.map sumI) ≤ 5
  | [] => by simp [PyData.depthAll]
  | k :: ks => by
    have h := sumI_depth ks
    have h2 : (sumI k).depth ≤ 5 := by simp [sumI, PyData.depth, PyData.depthAll]
    rw [List.map_cons]
    simp only [PyData.depthAll]
    omega
theorem sumI_shaped (ks : List Int) : SeqAt.shaped (.list (ks.map sumI)) = true := by
  unfold SeqAt.shaped
  have h := sumI_depth ks
  have h1 := sumI_lay ks
  rw [Bool.and_eq_true]
  refine ⟨by simpa [PyData.canLay0] using h1, decide_eq_true ?_⟩
  simp only [PyData.depth]
  omega
theorem sumI_none : ∀ ks : List Int, ((ks.map sumI).any fun z => PyData.eqv z .none) = false
  | [] => rfl
  | k :: ks => by
    rw [List.map_cons, List.any_cons, sumI_none ks]
    simp [sumI, PyData.eqv]
theorem del_same_of {H H' : Hp} {D : Addr} (e : Same H H') : Same (del H D) (del H' D) := fun b o hb => by
  by_cases h : b = D
  · rw [h, del_same] at hb; cases hb
  · rw [del_ne h] at hb ⊢
    exact e _ _ hb
theorem del_sub {H : Hp} {D : Addr} : Same (del H D) H := fun b o hb => by
  by_cases h : b = D
  · rw [h, del_same] at hb; cases hb
  · rw [del_ne h] at hb
    exact hb
theorem del_upd {H : Hp} {D : Addr} {o : HO} : del (upd H D o) D = del H D := by
  funext b
  by_cases h : b = D
  · rw [h, del_same, del_same]
  · rw [del_ne h, del_ne h, upd_ne h]
theorem dps_snoc {K : PySem.W.Frag} {H : Hp} {v : V} {d : PyData} (hv : Dp K H v d) : ∀ {vs : List V} {ds : List PyData}, DpAll K H vs ds → DpAll K H (vs ++ [v]) (ds ++ [d])
  | _, _, .nil => .cons hv .nil
  | _, _, .cons h t => .cons h (dps_snoc hv t)
def spReadSumI (K : PySem.W.Frag) : Sp := fun vs H Q _ => ∃ k : Int, vs = [.int k] ∧ ∀ H' v', Same H H' → (∀ D, H D ≠ none → Dp K (del H' D) v' (sumI k)) → Q v' H'
abbrev sReadSum : Stmt := topS 19
theorem scReadSum : FnScope ["thing", "multiples", "part", "unknown"] ["thing"] (defScope sReadSum) := ⟨rfl, rfl, rfl, by decide +kernel, rfl, by decide +kernel, by decide +kernel⟩
/-- the dict NEAR_CODES -/
def nearL : List Str := ["ask", "go", "call"]
structure Near (K : PySem.W.Frag) (w : World) (mg : Str → Option Value) (d : Addr) : Prop where
  g : mg "NEAR_CODES" = some (.ref d)
  kd : ∃ es n, KDict K w d es n
  has : ∀ z ∈ nearL, ∃ r, PySem.W.nsIn K d z = some (some r)
def RowL (K : PySem.W.Frag) (H : Hp) (v : V) : Row → Prop
  | .words n => ∃ (a b : Addr) (ks : List Int), v = .ref a ∧ SqT K H a [.str "words", .ref b] ∧ SqL K H b (ks.map V.int) ∧ ks.length = n
  | .label s => ∃ a, v = .ref a ∧ SqT K H a [.str "label", .str s]
  | .even n => ∃ a, v = .ref a ∧ SqT K H a [.str "even", .int n]
  | .branch c n m => ∃ a, v = .ref a ∧ SqT K H a [.str "branch", .str c, .str n, .int m]
theorem rowL_V {K : PySem.W.Frag} {H : Hp} {v : V} {r : Row} (h : RowL K H v r) : RowV K H v r := by
  cases r with
  | words n =>
    obtain ⟨a, b, ks, h1, h2, h3, h4⟩ := h
    exact ⟨a, b, h1, h2, _, .inl h3, by rw [List.length_map]; exact h4⟩
  | label s => exact h
  | even n => exact h
  | branch c n m => exact h
theorem rowL_same {K : PySem.W.Frag} {H H' : Hp} {v : V} {r : Row} (e : Same H H') (h : RowL K H v r) : RowL K H' v r := by
  cases r with
  | words n =>
    obtain ⟨a, b, ks, h1, h2, h3, h4⟩ := h
    exact ⟨a, b, ks, h1, sqT_same e h2, sqL_same e h3, h4⟩
  | label s => exact rowV_same (r := .label s) e h
  | even n => exact rowV_same (r := .even n) e h
  | branch c n m => exact rowV_same (r := .branch c n m) e h
/-- a row that was read: tuples alone -/
def RowP (K : PySem.W.Frag) (H : Hp) (v : V) : Row → Prop
  | .words n => ∃ a b xs, v = .ref a ∧ SqT K H a [.str "words", .ref b] ∧ SqT K H b xs ∧ xs.length = n
  | .label s => ∃ a, v = .ref a ∧ SqT K H a [.str "label", .str s]
  | .even n => ∃ a, v = .ref a ∧ SqT K H a [.str "even", .int n]
  | .branch c n m => ∃ a, v = .ref a ∧ SqT K H a [.str "branch", .str c, .str n, .int m]
theorem rowP_V {K : PySem.W.Frag} {H : Hp} {v : V} {r : Row} (h : RowP K H v r) : RowV K H v r := by
  cases r with
  | words n =>
    obtain ⟨a, b, xs, h1, h2, h3, h4⟩ := h
    exact ⟨a, b, h1, h2, xs, .inr h3, h4⟩
  | label s => exact h
  | even n => exact h
  | branch c n m => exact h
theorem rowP_of {K : PySem.W.Frag} {H H' : Hp} {v : V} {r : Row} (e : ∀ a xs, SqT K H a xs → SqT K H' a xs) (h : RowP K H v r) : RowP K H' v r := by
  cases r with
  | words n =>
    obtain ⟨a, b, xs, h1, h2, h3, h4⟩ := h
    exact ⟨a, b, xs, h1, e _ _ h2, e _ _ h3, h4⟩
  | label s =>
    obtain ⟨a, h1, h2⟩ := h
    exact ⟨a, h1, e _ _ h2⟩
  | even n =>
    obtain ⟨a, h1, h2⟩ := h
    exact ⟨a, h1, e _ _ h2⟩
  | branch c n m =>
    obtain ⟨a, h1, h2⟩ := h
    exact ⟨a, h1, e _ _ h2⟩
def notTup : HO → Prop
  | .tup _ => False
  | .frz _ (.tup _) => False
  | _ => True
/-- a tuple stays where something else changes -/
theorem sqT_put {K : PySem.W.Frag} {H : Hp} {a S : Addr} {xs : List V} {o o' : HO} (h : SqT K H a xs) (hS : H S = some o) (ho : notTup o) : SqT K (upd H S o') a xs := by
  rcases h with (h | ⟨u, h⟩) | h
  · have aS : a ≠ S := fun z => by
      rw [z, hS] at h
      cases h
      exact ho
    exact .inl (.inl (by rw [upd_ne aS]; exact h))
  · have aS : a ≠ S := fun z => by
      rw [z, hS] at h
      cases h
      exact ho
    exact .inl (.inr ⟨u, by rw [upd_ne aS]; exact h⟩)
  · exact .inr h
/-- a row that is one -/
def RowFine : Row → Prop
  | .words n => n ≤ 900
  | .label s => isNmS s = true ∧ s.length ≤ 1000
  | .even n => 1 ≤ n ∧ n ≤ 64
  | .branch c n _ => c ∈ nearL ∧ isNmS n = true ∧ n.length ≤ 1000
theorem fine_ok {r : Row} (h : RowFine r) : RowOk r := by
  cases r with
  | even n => exact (by have h1 : 1 ≤ n ∧ n ≤ 64 := h; show 0 < n; omega)
  | _ => trivial
def spReadWords (K : PySem.W.Frag) : Sp := fun vs H Q _ => ∃ (b : Addr) (ks : List Int), vs = [.ref b] ∧ SqL K H b (ks.map V.int) ∧ ks.length ≤ 900 ∧ ∀ H' v', Same H H' → RowP K H' v' (.words ks.length) → Q v' H'
def spReadBranch (K : PySem.W.Frag) : Sp := fun vs H Q _ => ∃ (c n : Str) (m : Int), vs = [.str c, .str n, .int m] ∧ RowFine (.branch c n m) ∧ ∀ H' v', Same H H' → RowP K H' v' (.branch c n m) → Q v' H'
def spReadRow (K : PySem.W.Frag) : Sp := fun vs H Q _ => ∃ v r, vs = [v] ∧ RowL K H v r ∧ RowFine r ∧ ∀ H' v', Same H H' → RowP K H' v' r → Q v' H'
abbrev sReadWords : Stmt := topS 24
abbrev sReadBranch : Stmt := topS 25
abbrev sReadRow : Stmt := topS 26
theorem scReadWords : FnScope ["thing", "sums", "word"] ["thing"] (defScope sReadWords) := ⟨rfl, rfl, rfl, by decide +kernel, rfl, by decide +kernel, by decide +kernel⟩
theorem scReadBranch : FnScope ["called", "n", "more"] ["called", "n", "more"] (defScope sReadBranch) := ⟨rfl, rfl, rfl, by decide +kernel, rfl, by decide +kernel, by decide +kernel⟩
theorem scReadRow : FnScope ["thing", "kind", "of"] ["thing"] (defScope sReadRow) := ⟨rfl, rfl, rfl, by decide +kernel, rfl, by decide +kernel, by decide +kernel⟩
/-- is_row of a list or tuple, whatever it holds -/
def spIsRowR (K : PySem.W.Frag) : Sp := fun vs H Q _ => ∃ a xs, vs = [.ref a] ∧ SqE K H a xs ∧ ∀ H', Same H H' → Q (.bl true) H'
section
variable {P : Program} {w : World} {K : PySem.W.Frag} {mg : Str → Option Value} {base : Heap}
theorem ok_isRowR {f : Addr} {fd : FuncData} (F : Fun K "is_row" "is_row" sIsRow f fd) (T : Bi mg) : FnOk P w K mg base CX0 1 f fd ["thing"] (spIsRowR K) := by
  refine F.ok scIsRow (fun vs H Q E h => ?_) (fun cdv A outer s H vs Q E hr h => ?_)
  · obtain ⟨a, xs, rfl, _⟩ := h
    rfl
  · obtain ⟨a, xs, rfl, ha, q⟩ := h
    refine ⟨_, (pss_one (ps_ret (pe_callB call_isiT (by rfl) T.isinstance (by decide +kernel) (pa_cons (pv 0) (pa_cons (pe_tup (pa_cons (pe_bltn (v := .ty "list") (by rfl) T.list (by decide +kernel) rfl) (pa_cons (pe_bltn (v := .ty "tuple") (by rfl) T.tuple (by decide +kernel) rfl) pa_nil))) pa_nil))))), ?_⟩
    refine ⟨_, rfl, (by show 2 ≤ sizeLine; decide), fun p hp => ?_⟩
    rcases ha with ha | ha
    · exact ⟨.ref a, p, _, _, _, _, rfl, upd_same, .cons (.ty "list") (.cons (.ty "tuple") .nil), ty_list (sqL_same (same_new hp) ha), kit_row (.list []), q _ (same_new hp)⟩
    · exact ⟨.ref a, p, _, _, _, _, rfl, upd_same, .cons (.ty "list") (.cons (.ty "tuple") .nil), ty_tup (sqT_same (same_new hp) ha), kit_row (.tuple []), q _ (same_new hp)⟩
theorem hu65 {A : Around} {k : Nat} (hr : Room k A) : A.units + 65 < cLine := by
  have := hr.un
  omega
theorem ok_readSumI {f : Addr} {fd : FuncData} (F : Fun K "read_sum" "read_sum" sReadSum f fd) (G1 : Has P w K mg base CX0 1 "is_integer" ["thing"] (spIsInt K)) : FnOk P w K mg base CX0 2 f fd ["thing"] (spReadSumI K) := by
  refine F.ok scReadSum (fun vs H Q E h => ?_) (fun cdv A outer s H vs Q E hr h => ?_)
  · obtain ⟨k, rfl, _⟩ := h
    rfl
  · obtain ⟨k, rfl, q⟩ := h
    refine ⟨_, (pss_cons (ps_if (pt_val (pe_callH G1 hr (by rfl) pass0 (pa_cons (pv 0) pa_nil))) (pss_one (ps_ret (pe_tup (pa_cons (pv 0) (pa_cons (pe_tup pa_nil) pa_nil))))) pss_nil)
      (pss_cons ps_never (pss_cons ps_never (pss_cons ps_never (pss_one ps_never))))), ?_⟩
    refine ⟨_, rfl, _, _, rfl, .dat (.int k), _, rfl, iteT ⟨_, rfl, Nat.zero_le _, fun e he => ⟨(by show 2 ≤ sizeLine; decide), fun p hp => ?_⟩⟩⟩
    have hpn : H p = none := by
      cases z : H p with
      | none => rfl
      | some o => rw [same_new he _ _ z] at hp; cases hp
    refine q _ _ ((same_new he).trans (same_new hp)) fun D hD => ?_
    have pD : p ≠ D := fun z => hD (z ▸ hpn)
    have eD : e ≠ D := fun z => hD (z ▸ he)
    have hep : e ≠ p := fun z => by rw [z] at he; rw [← z, upd_same] at hp; cases hp
    refine .tup (SqT.of (by rw [del_ne pD]; exact upd_same)) (.cons (.int k) (.cons (.tup (xs := []) (SqT.of ?_) .nil) .nil))
    rw [del_ne eD, upd_ne hep]
    exact upd_same
theorem ok_readWords {f : Addr} {fd : FuncData} (F : Fun K "read_words" "read_words" sReadWords f fd) (T : Bi mg) (G1 : Has P w K mg base CX0 2 "is_row" ["thing"] (spIsRow K)) (G2 : Has P w K mg base CX0 2 "read_sum" ["thing"] (spReadSumI K)) : FnOk P w K mg base CX0 3 f fd ["thing"] (spReadWords K) := by
  refine F.ok scReadWords (fun vs H Q E h => ?_) (fun cdv A outer s H vs Q E hr h => ?_)
  · obtain ⟨b, ks, rfl, _⟩ := h
    rfl
  · obtain ⟨b, ks, rfl, hb, hl, q⟩ := h
    refine ⟨_, (pss_cons (ps_if (pt_not (pt_val (pe_callH G1 hr (by rfl) pass0 (pa_cons (pv 0) pa_nil)))) (pss_one (ps_ret pe_non)) pss_nil)
      (pss_cons (ps_setLc (i := 1) (own := [("word", 2)]) (g := gName 2) (tt := tYes) rfl scReadWords.nd rfl rfl (sw_true rfl rfl rfl (by decide +kernel)) (pi_list (pv 0)) (blkOk_by (N := ["thing", "sums", "word"]) (sc := defScope sReadWords) (by decide +kernel)) (fun _ _ _ _ _ => pg_name (i := 2) scReadWords.nd rfl (.inl rfl)) (fun _ _ _ _ _ => pts_nil) (fun _ _ _ _ _ => (pe_callH G2 hr (by rfl) pass0 (pa_cons (pv 2) pa_nil))))
      (pss_one (ps_ret (pe_ifExp (pt_cmpR (op_inD (hu65 hr)) pe_non (pv 1) (by rfl)) pe_non (pe_tup (pa_cons pe_str (pa_cons (pe_callTy call_tuple_of (by rfl) T.tuple (by decide +kernel) (pa_cons (pv 1) pa_nil)) pa_nil)))))))), ?_⟩
    refine ⟨_, rfl, _, _, rfl, .dat (.lst hb (dps_ints ks)), fun H1 s1 => ⟨_, rfl, iteF ?_⟩⟩
    have hb1 := sqL_same s1 hb
    refine ⟨_, rfl, b, rfl, ⟨_, hb1⟩, fun D hD => ?_⟩
    refine lc_it walk_list (fun i H4 => (∀ c o, c ≠ D → H1 c = some o → H4 c = some o) ∧ ∃ ys, H4 D = some (.lst ys) ∧ DpAll K (del H4 D) ys ((ks.take i).map sumI)) ⟨fun c o hc e => by rw [upd_ne hc]; exact e, [], upd_same, .nil⟩
      (fun i H4 _ ⟨kp, _⟩ => sqL_same (fun c o e => kp c o (ne_of_none e hD) e) hb1) ?_ ?_
    · rintro i x H4 H4' hi ⟨kp, ys, hD4, hys⟩ ⟨rfl, hx⟩
      obtain ⟨k, hk, rfl⟩ : ∃ k, ks[i]? = some k ∧ x = V.int k := by
        rw [List.getElem?_map] at hx
        cases e : ks[i]? with
        | none => rw [e] at hx; cases hx
        | some k => rw [e] at hx; exact ⟨k, rfl, (Option.some.inj hx).symm⟩
      have hi2 : i < ks.length := (List.getElem?_eq_some_iff.mp hk).1
      refine ⟨rfl, yes_go (iteT ⟨_, rfl, k, rfl, fun H5 v5 s5 hv5 => ?_⟩)⟩
      have hD5 := s5 _ _ hD4
      have yl : ys.length = i := by
        rw [dps_len hys, List.length_map, List.length_take]
        omega
      refine ⟨ys, hD5, small1000 (by omega), fun c o hc ec => ?_, ys ++ [v5], upd_same, ?_⟩
      · rw [upd_ne hc]
        exact s5 _ _ (kp c o hc ec)
      · rw [del_upd, List.take_add_one, hk, List.map_append]
        exact dps_snoc (hv5 D (by rw [hD4]; simp)) (dps_same (del_same_of s5) hys)
    · rintro H4 ⟨kp, ys, hD4, hys⟩
      rw [List.length_map, List.take_length] at hys
      have yl : ys.length = ks.length := by rw [dps_len hys, List.length_map]
      have s4 : Same H H4 := fun c o e => kp c o (ne_of_none (s1 _ _ e) hD) (s1 _ _ e)
      refine ⟨_, rfl, .none, ks.map sumI, .non, .lst (SqL.of hD4) (dps_same del_sub hys), rfl, sumI_shaped ks, _, rfl, ?_⟩
      rw [sumI_none]
      refine iteF ⟨_, rfl, D, ys, rfl, .inl ⟨SqL.of hD4, fun t ht => ⟨(by show 2 ≤ sizeLine; decide), fun p hp => ?_⟩⟩⟩
      exact q _ _ ((s4.trans (same_new ht)).trans (same_new hp)) ⟨p, t, ys, rfl, SqT.of upd_same, SqT.of (same_new hp _ _ upd_same), yl⟩
end

/-! ### a for over a list or a tuple -/
def iSeq (K : PySem.W.Frag) (tl : TE) : TI := fun σ H R => tl σ H fun x H1 => ∃ a xs, x = .ref a ∧ (SqL K H1 a xs ∨ SqT K H1 a xs) ∧ ∀ J G, Walk J xs.length G (YAt xs) → (∀ H4, (SqL K H1 a xs → SqL K H4 a xs) → (SqT K H1 a xs → SqT K H4 a xs) → G H4) → R J H1
theorem pi_seq {X : Cx} {tg l : Expr} {tl : TE} (hl : PE X l tl) : PI X tg l (iSeq X.K tl) := by
  refine ⟨fun pins s σ H R I h => ?_⟩
  refine thn (hl.run pins s σ H _ I h) fun v s1 ⟨x, H1, I1, r1, q1⟩ => ?_
  obtain ⟨a, xs, e, hq, q⟩ := q1
  subst e
  cases r1
  have fp : ∀ b ∈ [s1.heap.objs.size], FpOk X pins H1 b := fun b hb => by
    have e : b = s1.heap.objs.size := by simpa using hb
    subst e
    exact I1.fpOk (Nat.le_refl _) (I1.hok.fresh (Nat.le_refl _))
  rcases hq with hq | hq
  · obtain ⟨its, rv, p, hz⟩ := I1.list hq
    refine wpAny_pyIter_list p.isList ?_
    exact ⟨s1.heap.objs.size, [s1.heap.objs.size], _, _, H1, rfl, I1.kept (t' := s1.toks) fun b o e => Heap.get?_push_of_some _ e, turn_list a _, ⟨_, Heap.get?_push_size _ rfl, rfl, rfl⟩, fp, q _ (fun H4 => SqL X.K H4 a xs) walk_list fun H4 e _ => e hq⟩
  · obtain ⟨its, rv, p, hz⟩ := I1.tuple hq
    refine wpAny_pyIter_tuple (show s1.heap.IsTuple a its.toArray from p) ?_
    exact ⟨s1.heap.objs.size, [s1.heap.objs.size], _, _, H1, rfl, I1.kept (t' := s1.toks) fun b o e => Heap.get?_push_of_some _ e, turn_tuple a _, ⟨_, Heap.get?_push_size _ rfl, rfl, rfl⟩, fp, q _ (fun H4 => SqT X.K H4 a xs) walk_tup fun H4 _ e => e hq⟩
/-! ### sorted([], key=f) -/
theorem valsOne {z : V} {us : List Value} (r : Vals [z] us) : ∃ w, us = [w] ∧ L2.RelV z w := by
  cases r with
  | cons h t => cases t; exact ⟨_, rfl, h⟩
def rSorted0 (K : PySem.W.Frag) : List V → List V → Hp → VK → Prop := fun vs zs H Q => ∃ (a f : Addr), vs = [.ref a] ∧ zs = [.ref f] ∧ SqL K H a [] ∧ ∀ p, H p = none → Q (.ref p) (upd H p (.lst []))
theorem cr_sorted0 {X : Cx} {k : Nat} (hr : Room k X.A) : CallRK X (.builtin "sorted") [Str.ofString "key"] (rSorted0 X.K) := by
  intro pins s σ H vs zs us' ws Q I r rz h
  obtain ⟨a, f, rfl, rfl, hs, q⟩ := h
  obtain rfl := Vals.ref1 r
  obtain ⟨w1, rfl, e1⟩ := valsOne rz
  obtain rfl : w1 = Value.ref f := e1
  obtain ⟨its, rv, hl, hz⟩ := I.list hs
  cases rv
  refine PySem.W.sorted_key_data (bs := ([] : List PyData)) (R := fun v u => False) (b := false) (f := .ref f) id hl.isList .nil (by intro d hd; cases hd) (.inl (by intro d hd; cases hd)) (Nat.zero_le _) (fun u hu => by cases hu) (ksk_s1 _ _) (fun _ => ksk_l1 _ _) (fun x => ksk_t1 f x) (fun v u hR hu => by cases hu) fun out c h' tk kp hf hg hol ho => ?_
  have e0 : out = [] := List.eq_nil_of_length_eq_zero (by simpa using hol)
  subst e0
  exact ⟨.ref (s.heap.objs.size + 1), upd H (s.heap.objs.size + 1) (.lst []), I.laid (t' := tk) kp (Nat.le_succ _) ⟨Nat.zero_le _, [], c, .nil, hg⟩, rfl, q _ (I.hok.fresh (Nat.le_succ _))⟩
/-! ### one_form(k, {}) -/
/-- what is new in H' against H -/
def nw (H H' : Hp) : Hp := fun b => match H b with
  | none => H' b
  | some _ => none
theorem nw_at {H H' : Hp} {b : Addr} (h : H b = none) : nw H H' b = H' b := by
  unfold nw
  rw [h]
theorem nw_some {H H' : Hp} {b : Addr} {o : HO} (h : nw H H' b = some o) : H b = none ∧ H' b = some o := by
  unfold nw at h
  cases e : H b with
  | none => rw [e] at h; exact ⟨rfl, h⟩
  | some u => rw [e] at h; cases h
/-- what H0 holds stands in H, too -/
def Sub0 (H0 H : Hp) : Prop := ∀ b, H b = none → H0 b = none
theorem none_of {H H' : Hp} {p : Addr} (e : Same H H') (hp : H' p = none) : H p = none := by
  cases z : H p with
  | none => rfl
  | some o => rw [e _ _ z] at hp; cases hp
theorem Sub0.of {H0 H : Hp} (e : Same H0 H) : Sub0 H0 H := fun b hb => none_of e hb
theorem Sub0.trans {H0 H1 H2 : Hp} (a : Sub0 H0 H1) (b : Sub0 H1 H2) : Sub0 H0 H2 := fun c h => a c (b c h)
theorem Sub0.but {H0 H : Hp} {D : Addr} (h : ∀ b o, b ≠ D → H0 b = some o → H b = some o) (hD : H D ≠ none) : Sub0 H0 H := fun b hb => by
  cases z : H0 b with
  | none => rfl
  | some o =>
    have bD : b ≠ D := fun e => hD (e ▸ hb)
    rw [h b o bD z] at hb
    cases hb
theorem nw_sub {H H' : Hp} : Same (nw H H') H' := fun b o e => (nw_some e).2
theorem nw_dom {H0 H H' : Hp} (e : Sub0 H0 H) : Same (nw H H') (nw H0 H') := fun b o h => by
  obtain ⟨h1, h2⟩ := nw_some h
  rw [nw_at (e b h1)]
  exact h2
theorem nw_up {H H1 H2 : Hp} (e : Same H1 H2) : Same (nw H H1) (nw H H2) := fun b o h => by
  obtain ⟨h1, h2⟩ := nw_some h
  rw [nw_at h1]
  exact e _ _ h2
theorem nw_upd {H H' : Hp} {D : Addr} {o : HO} (h : H D ≠ none) : nw H (upd H' D o) = nw H H' := by
  funext b
  by_cases hb : b = D
  · rw [hb]
    unfold nw
    cases e : H D with
    | none => exact absurd e h
    | some u => rfl
  · unfold nw
    cases e : H b with
    | none => dsimp only; rw [upd_ne hb]
    | some u => rfl
/-- all but D stays: what is new, if D was there -/
theorem nw_but {H H1 H2 : Hp} {D : Addr} (k : ∀ b o, b ≠ D → H1 b = some o → H2 b = some o) (h : H D ≠ none) : Same (nw H H1) (nw H H2) := fun b o e => by
  obtain ⟨h1, h2⟩ := nw_some e
  have bD : b ≠ D := fun z => h (z ▸ h1)
  rw [nw_at h1]
  exact k b o bD h2
/-- data that rests on nothing that stood -/
abbrev NewD (K : PySem.W.Frag) (H H' : Hp) (v : V) (d : PyData) : Prop := Dp K (nw H H') v d
theorem NewD.of {K : PySem.W.Frag} {H0 H H' : Hp} {v : V} {d : PyData} (e : Sub0 H0 H) (h : NewD K H H' v d) : NewD K H0 H' v d := dp_same (nw_dom e) h
theorem NewD.dp {K : PySem.W.Frag} {H H' : Hp} {v : V} {d : PyData} (h : NewD K H H' v d) : Dp K H' v d := dp_same nw_sub h
def spOneForm0 (K : PySem.W.Frag) : Sp := fun vs H Q _ => ∃ (k : Int) (d : Addr), vs = [.int k, .ref d] ∧ H d = some (.dT []) ∧ ∀ H' v', Same H H' → NewD K H H' v' (sumI k) → Q v' H'
abbrev sOneForm : Stmt := topS 18
theorem scOneForm : FnScope ["number", "multiples", "held", "unknown"] ["number", "multiples"] (defScope sOneForm) := ⟨rfl, rfl, rfl, by decide +kernel, rfl, by decide +kernel, by decide +kernel⟩
theorem newSum {K : PySem.W.Frag} {H H1 : Hp} {k : Int} {e p : Addr} (s : Same H H1) (he : H1 e = none) (hp : upd H1 e (.tup []) p = none) : NewD K H (upd (upd H1 e (.tup [])) p (.tup [.int k, .ref e])) (.ref p) (sumI k) := by
  have hep : e ≠ p := fun z => by rw [← z, upd_same] at hp; cases hp
  have hp1 : H1 p = none := by
    rw [upd_ne hep.symm] at hp
    exact hp
  refine .tup (SqT.of (by rw [nw_at (none_of s hp1)]; exact upd_same)) (.cons (.int k) (.cons (.tup (xs := []) (SqT.of ?_) .nil) .nil))
  rw [nw_at (none_of s he), upd_ne hep]
  exact upd_same
section
variable {P : Program} {w : World} {K : PySem.W.Frag} {mg : Str → Option Value} {base : Heap}
theorem ok_oneForm0 {f fO : Addr} {fd : FuncData} (F : Fun K "one_form" "one_form" sOneForm f fd) (T : Bi mg) (gO : mg "order_of" = some (.ref fO)) :
    FnOk P w K mg base CX0 1 f fd ["number", "multiples"] (spOneForm0 K) := by
  refine F.ok scOneForm (fun vs H Q E h => ?_) (fun cdv A outer s H vs Q E hr h => ?_)
  · obtain ⟨n, d, rfl, _⟩ := h
    rfl
  · obtain ⟨n, d, rfl, hd, q⟩ := h
    have hu := hu_of hr
    refine ⟨_, pss_cons (ps_set (i := 2) scOneForm.nd rfl (.inl rfl) (pe_callBK (cr_sorted0 hr) (by rfl) T.sorted (by decide +kernel) (pa_cons (pe_lock (pe_lc (own := [("unknown", 3)]) (g := gName 3) (tt := _) rfl scOneForm.nd (pi_keys (pv 1)) (blkOk_by (N := ["number", "multiples", "held", "unknown"]) (sc := defScope sOneForm) (by decide +kernel)) (fun _ _ _ _ _ => pg_name (i := 3) scOneForm.nd rfl (.inl rfl)) (fun _ _ _ _ _ => pts_one (pt_cmpR op_ne (pe_dget hu (pv 1) (pv 3) (fun _ _ => rfl)) pe_int (nomark _))) (fun _ _ _ _ _ => (pv 3)))) pa_nil) (pk_cons (pe_glob (v := .ref fO) rfl gO rfl) pk_nil)))
      (pss_one (ps_ret (pe_tup (pa_cons (pv 0) (pa_cons (pe_callTy call_tuple_of (by rfl) T.tuple (by decide +kernel) (pa_cons (pe_lc (own := [("unknown", 3)]) (g := gName 3) (tt := tYes) rfl scOneForm.nd (pi_list (pv 2)) (blkOk_by (N := ["number", "multiples", "held", "unknown"]) (sc := defScope sOneForm) (by decide +kernel)) (fun _ _ _ _ _ => pg_name (i := 3) scOneForm.nd rfl (.inl rfl)) (fun _ _ _ _ _ => pts_nil) (fun _ _ _ _ _ => (pe_tup (pa_cons (pv 3) (pa_cons (pe_dget hu (pv 1) (pv 3) (fun _ _ => rfl)) pa_nil))))) pa_nil)) pa_nil))))), ?_⟩
    refine ⟨d, _, hd, trivial, fun od => ⟨_, rfl, d, od, rfl, .inr ⟨_, upd_same, fun D hD => ?_⟩⟩⟩
    have hDd : D ≠ d := by
      intro z
      rw [z, upd_same] at hD
      cases hD
    have hDn : H D = none := by
      rw [upd_ne hDd] at hD
      exact hD
    refine lc_it walk_keysT (fun i H1 => (∀ b o, b ≠ D → upd H d (.frz od (.dT [])) b = some o → H1 b = some o) ∧ H1 D = some (.lst []))
      ⟨fun b o hb e => by rw [upd_ne hb]; exact e, upd_same⟩ (fun i H1 _ ⟨kp, _⟩ => kp _ _ hDd.symm upd_same) (fun i x H1 H1' hi => absurd hi (Nat.not_lt_zero _)) ?_
    rintro H1 ⟨kp, hD1⟩
    have hd1 : H1 d = some (.frz od (.dT [])) := kp _ _ hDd.symm upd_same
    have sm : Same H (upd H1 d (.dT [])) := fun b o e => by
      by_cases hb : b = d
      · rw [hb] at e ⊢
        rw [upd_same]
        exact hd.symm.trans e
      · rw [upd_ne hb]
        refine kp b o (ne_of_none e hDn) ?_
        rw [upd_ne hb]
        exact e
    have eD : (upd H1 d (.dT [])) D = some (.lst []) := by
      rw [upd_ne hDd]
      exact hD1
    refine ⟨hd1, D, fO, rfl, rfl, SqL.of eD, fun p hp => ?_⟩
    have sm3 : Same (upd H1 d (.dT [])) (upd (upd H1 d (.dT [])) p (.lst [])) := same_new hp
    have h3p : (upd (upd H1 d (.dT [])) p (.lst [])) p = some (.lst []) := upd_same
    generalize hH3 : upd (upd H1 d (.dT [])) p (.lst []) = H3 at sm3 h3p ⊢
    refine ⟨_, rfl, _, rfl, p, rfl, ⟨_, SqL.of h3p⟩, fun D2 hD2 => ?_⟩
    have pD2 : p ≠ D2 := ne_of_none h3p hD2
    refine lc_it (walk_list (xs := [])) (fun i H4 => (∀ b o, b ≠ D2 → H3 b = some o → H4 b = some o) ∧ H4 D2 = some (.lst []))
      ⟨fun b o hb e => by rw [upd_ne hb]; exact e, upd_same⟩ (fun i H4 _ ⟨kp, _⟩ => SqL.of (kp _ _ pD2 h3p)) (fun i x H1 H1' hi => absurd hi (Nat.not_lt_zero _)) ?_
    rintro H4 ⟨kp4, h4D⟩
    refine ⟨D2, [], rfl, .inl ⟨SqL.of h4D, fun l hl4 => ⟨(by show 2 ≤ sizeLine; decide), fun r hr5 => ?_⟩⟩⟩
    have s4 : Same H3 H4 := fun b o e => kp4 b o (ne_of_none e hD2) e
    have s04 := (sm.trans sm3).trans s4
    exact q _ _ ((s04.trans (same_new hl4)).trans (same_new hr5)) (newSum s04 hl4 hr5)
end
/-! ### read_sum of a plain number, told either way -/
def SumIn (K : PySem.W.Frag) (H : Hp) (v : V) (k : Int) : Prop := v = .int k ∨ Dp K H v (sumI k)
theorem sumIn_same {K : PySem.W.Frag} {H H' : Hp} {v : V} {k : Int} (e : Same H H') (h : SumIn K H v k) : SumIn K H' v k := h.imp id (dp_same e)
def spReadSum2 (K : PySem.W.Frag) : Sp := fun vs H Q _ => ∃ (v : V) (k : Int), vs = [v] ∧ SumIn K H v k ∧ ∀ H' v', Same H H' → NewD K H H' v' (sumI k) → Q v' H'
section
variable {P : Program} {w : World} {K : PySem.W.Frag} {mg : Str → Option Value} {base : Heap}
theorem ok_readSum2 {f : Addr} {fd : FuncData} (F : Fun K "read_sum" "read_sum" sReadSum f fd) (G1 : Has P w K mg base CX0 2 "is_integer" ["thing"] (spIsInt K)) (G2 : Has P w K mg base CX0 2 "is_row_of" ["thing", "many"] (spIsRowOf K)) (G3 : Has P w K mg base CX0 2 "is_row" ["thing"] (spIsRow K))
    (G4 : Has P w K mg base CX0 2 "one_form" ["number", "multiples"] (spOneForm0 K)) : FnOk P w K mg base CX0 3 f fd ["thing"] (spReadSum2 K) := by
  refine F.ok scReadSum (fun vs H Q E h => ?_) (fun cdv A outer s H vs Q E hr h => ?_)
  · obtain ⟨v, k, rfl, _⟩ := h
    rfl
  · obtain ⟨v, k, rfl, hv, q⟩ := h
    refine ⟨_, (pss_cons (ps_if (pt_val (pe_callH G1 hr (by rfl) pass0 (pa_cons (pv 0) pa_nil))) (pss_one (ps_ret (pe_tup (pa_cons (pv 0) (pa_cons (pe_tup pa_nil) pa_nil))))) pss_nil)
      (pss_cons (ps_if (PW.pt (pw_or (pt_not (pt_val (pe_callH G2 hr (by rfl) pass0 (pa_cons (pv 0) (pa_cons pe_int pa_nil))))) (pw_or (pt_not (pt_val (pe_callH G1 hr (by rfl) pass0 (pa_cons (pe_ix ix_tup (pv 0) pe_int (fun _ _ => rfl)) pa_nil)))) (pw_or1 (pt_not (pt_val (pe_callH G3 hr (by rfl) pass0 (pa_cons (pe_ix ix_tup (pv 0) pe_int (fun _ _ => rfl)) pa_nil)))))))) (pss_one (ps_ret pe_non)) pss_nil)
      (pss_cons (ps_set (i := 1) scReadSum.nd rfl (.inl rfl) pe_dnewT)
      (pss_cons (ps_for PassesOwn.never rfl (pi_tup (pe_ix ix_tup (pv 0) pe_int (fun _ _ => rfl))) (pg_name (i := 2) scReadSum.nd rfl (.inl rfl)) (pss_cons ps_never (pss_cons ps_never (pss_cons ps_never (pss_one ps_never)))))
      (pss_one (ps_ret (pe_callH G4 hr (by rfl) pass0 (pa_cons (pe_ix ix_tup (pv 0) pe_int (fun _ _ => rfl)) (pa_cons (pv 1) pa_nil))))))))), ?_⟩
    rcases hv with rfl | hv
    · exact ⟨_, rfl, _, _, rfl, .dat (.int k), _, rfl, iteT ⟨_, rfl, Nat.zero_le _, fun e he => ⟨(by show 2 ≤ sizeLine; decide), fun p hp => q _ _ ((same_new he).trans (same_new hp)) (newSum (Same.refl H) he hp)⟩⟩⟩
    · obtain ⟨a, b, rfl, ha, hb⟩ : ∃ a b, v = .ref a ∧ SqT K H a [.int k, .ref b] ∧ SqT K H b [] := by
        cases hv with
        | tup hs hd =>
          cases hd with
          | cons h1 h2 =>
            cases h1
            cases h2 with
            | cons h3 h4 =>
              cases h4
              cases h3 with
              | tup h5 h6 =>
                cases h6
                exact ⟨_, _, rfl, hs, h5⟩
      have hd : Dp K H (.ref a) (sumI k) := .tup ha (.cons (.int k) (.cons (.tup hb .nil) .nil))
      refine ⟨_, rfl, _, _, rfl, .dat hd, _, rfl, iteF ?_⟩
      refine ⟨_, rfl, _, _, _, rfl, .dat hd, fun H1 s1 => ⟨_, rfl, iteF ?_⟩⟩
      have a1 := sqT_same s1 ha
      have b1 := sqT_same s1 hb
      refine ⟨_, rfl, a, _, _, _, rfl, rfl, a1, at_of (i := 0) rfl, _, _, rfl, .dat (.int k), _, rfl, iteF ?_⟩
      refine ⟨_, rfl, a, _, _, _, rfl, rfl, a1, at_of (i := 1) rfl, _, _, rfl, .dat (.tup b1 .nil), fun H2 s2 => ⟨_, rfl, iteF ?_⟩⟩
      have s12 := s1.trans s2
      refine fun m hm => ?_
      have s3 := s12.trans (same_new (o := .dT []) hm)
      refine ⟨_, rfl, a, _, _, _, rfl, rfl, sqT_same s3 ha, at_of (i := 1) rfl, b, rfl, ⟨_, sqT_same s3 hb⟩, ?_⟩
      refine for_it (walk_tup (xs := [])) (fun i σ H4 => σ = [some (.ref a), some (.ref m), none, none] ∧ H4 = upd H2 m (.dT [])) ⟨rfl, rfl⟩ (fun i σ H4 _ ⟨_, e⟩ => by rw [e]; exact sqT_same s3 hb) (fun i x σ H4 H4' hi => absurd hi (Nat.not_lt_zero _)) ?_
      rintro σ H4 ⟨rfl, rfl⟩
      refine ⟨_, rfl, a, _, _, _, rfl, rfl, sqT_same s3 ha, at_of (i := 0) rfl, _, rfl, k, m, rfl, upd_same, fun H' v' s' hn => q H' v' (s3.trans s') (hn.of (.of s3))⟩
end

/-! ### rows with what they hold -/
inductive RowC where
  | words (ks : List Int)
  | label (s : Str)
  | even (n : Int)
  | branch (c n : Str) (m : Int)
def RowC.r : RowC → Row
  | .words ks => .words ks.length
  | .label s => .label s
  | .even n => .even n
  | .branch c n m => .branch c n m
/-- a row as it is read -/
def rowD : RowC → PyData
  | .words ks => .tuple [.str "words", .tuple (ks.map sumI)]
  | .label s => .tuple [.str "label", .str s]
  | .even n => .tuple [.str "even", .int n]
  | .branch c n m => .tuple [.str "branch", .str c, .str n, .int m]
/-- a row as it is handed in -/
def rowR : RowC → PyData
  | .words ks => .tuple [.str "words", .list (ks.map .int)]
  | rc => rowD rc
theorem dps_get {K : PySem.W.Frag} {H : Hp} : ∀ {xs : List V} {ds : List PyData}, DpAll K H xs ds → ∀ {i : Nat} {v : V}, xs[i]? = some v → ∃ d, ds[i]? = some d ∧ Dp K H v d
  | _, _, .nil, i, v, h => by simp at h
  | _, _, .cons g t, 0, v, e => by
    obtain rfl : _ = v := Option.some.inj e
    exact ⟨_, rfl, g⟩
  | _, _, .cons g t, i + 1, v, e => dps_get t (i := i) e
theorem dp_str {K : PySem.W.Frag} {H : Hp} {v : V} {x : Str} (h : Dp K H v (.str x)) : v = .str x := by cases h; rfl
theorem dp_int {K : PySem.W.Frag} {H : Hp} {v : V} {i : Int} (h : Dp K H v (.int i)) : v = .int i := by cases h; rfl
theorem dp_tup {K : PySem.W.Frag} {H : Hp} {v : V} {ds : List PyData} (h : Dp K H v (.tuple ds)) : ∃ a xs, v = .ref a ∧ SqT K H a xs ∧ DpAll K H xs ds := by
  cases h with
  | tup h1 h2 => exact ⟨_, _, rfl, h1, h2⟩
theorem dp_lst {K : PySem.W.Frag} {H : Hp} {v : V} {ds : List PyData} (h : Dp K H v (.list ds)) : ∃ a xs, v = .ref a ∧ SqL K H a xs ∧ DpAll K H xs ds := by
  cases h with
  | lst h1 h2 => exact ⟨_, _, rfl, h1, h2⟩
theorem dp_two {K : PySem.W.Frag} {H : Hp} {v : V} {k : Str} {d : PyData} (h : Dp K H v (.tuple [.str k, d])) : ∃ a y, v = .ref a ∧ SqT K H a [.str k, y] ∧ Dp K H y d := by
  obtain ⟨a, xs, rfl, h1, h2⟩ := dp_tup h
  cases h2 with
  | cons g1 g2 =>
    cases g2 with
    | cons g3 g4 =>
      cases g4
      cases dp_str g1
      exact ⟨a, _, rfl, h1, g3⟩
/-- the words of a row, told either way -/
def WordsIn (K : PySem.W.Frag) (H : Hp) (v : V) (ks : List Int) : Prop := Dp K H v (.list (ks.map .int)) ∨ Dp K H v (.tuple (ks.map sumI))
theorem wordsIn_same {K : PySem.W.Frag} {H H' : Hp} {v : V} {ks : List Int} (e : Same H H') (h : WordsIn K H v ks) : WordsIn K H' v ks := h.imp (dp_same e) (dp_same e)
theorem wordsIn_parts {K : PySem.W.Frag} {H : Hp} {v : V} {ks : List Int} (h : WordsIn K H v ks) : ∃ b xs, v = .ref b ∧ (SqL K H b xs ∨ SqT K H b xs) ∧ xs.length = ks.length ∧ ∀ (i : Nat) x, xs[i]? = some x → ∃ k, ks[i]? = some k ∧ SumIn K H x k := by
  rcases h with h | h
  · obtain ⟨b, xs, rfl, h1, h2⟩ := dp_lst h
    refine ⟨b, xs, rfl, .inl h1, by rw [dps_len h2, List.length_map], fun i x hx => ?_⟩
    obtain ⟨d, hd, hv⟩ := dps_get h2 hx
    rw [List.getElem?_map] at hd
    cases e : ks[i]? with
    | none => rw [e] at hd; cases hd
    | some k =>
      rw [e] at hd
      obtain rfl := Option.some.inj hd
      exact ⟨k, rfl, .inl (dp_int hv)⟩
  · obtain ⟨b, xs, rfl, h1, h2⟩ := dp_tup h
    refine ⟨b, xs, rfl, .inr h1, by rw [dps_len h2, List.length_map], fun i x hx => ?_⟩
    obtain ⟨d, hd, hv⟩ := dps_get h2 hx
    rw [List.getElem?_map] at hd
    cases e : ks[i]? with
    | none => rw [e] at hd; cases hd
    | some k =>
      rw [e] at hd
      obtain rfl := Option.some.inj hd
      exact ⟨k, rfl, .inr hv⟩
theorem wordsIn_dat {K : PySem.W.Frag} {H : Hp} {v : V} {ks : List Int} (h : WordsIn K H v ks) : ∃ d, Dp K H v d ∧ isR d = true := by
  rcases h with h | h
  · exact ⟨_, h, rfl⟩
  · exact ⟨_, h, rfl⟩
def spReadWords2 (K : PySem.W.Frag) : Sp := fun vs H Q _ => ∃ (v : V) (ks : List Int), vs = [v] ∧ WordsIn K H v ks ∧ ks.length ≤ 900 ∧ ∀ H' v', Same H H' → NewD K H H' v' (rowD (.words ks)) → Q v' H'
def spReadBranch2 (K : PySem.W.Frag) : Sp := fun vs H Q _ => ∃ (c n : Str) (m : Int), vs = [.str c, .str n, .int m] ∧ RowFine (.branch c n m) ∧ ∀ H' v', Same H H' → NewD K H H' v' (rowD (.branch c n m)) → Q v' H'
section
variable {P : Program} {w : World} {K : PySem.W.Frag} {mg : Str → Option Value} {base : Heap}
theorem ok_readWords2 {f : Addr} {fd : FuncData} (F : Fun K "read_words" "read_words" sReadWords f fd) (T : Bi mg) (G1 : Has P w K mg base CX0 3 "is_row" ["thing"] (spIsRow K)) (G2 : Has P w K mg base CX0 3 "read_sum" ["thing"] (spReadSum2 K)) : FnOk P w K mg base CX0 4 f fd ["thing"] (spReadWords2 K) := by
  refine F.ok scReadWords (fun vs H Q E h => ?_) (fun cdv A outer s H vs Q E hr h => ?_)
  · obtain ⟨v, ks, rfl, _⟩ := h
    rfl
  · obtain ⟨v, ks, rfl, hv, hl, q⟩ := h
    refine ⟨_, (pss_cons (ps_if (pt_not (pt_val (pe_callH G1 hr (by rfl) pass0 (pa_cons (pv 0) pa_nil)))) (pss_one (ps_ret pe_non)) pss_nil)
      (pss_cons (ps_setLc (i := 1) (own := [("word", 2)]) (g := gName 2) (tt := tYes) rfl scReadWords.nd rfl rfl (sw_true rfl rfl rfl (by decide +kernel)) (pi_seq (pv 0)) (blkOk_by (N := ["thing", "sums", "word"]) (sc := defScope sReadWords) (by decide +kernel)) (fun _ _ _ _ _ => pg_name (i := 2) scReadWords.nd rfl (.inl rfl)) (fun _ _ _ _ _ => pts_nil) (fun _ _ _ _ _ => (pe_callH G2 hr (by rfl) pass0 (pa_cons (pv 2) pa_nil))))
      (pss_one (ps_ret (pe_ifExp (pt_cmpR (op_inD (hu65 hr)) pe_non (pv 1) (by rfl)) pe_non (pe_tup (pa_cons pe_str (pa_cons (pe_callTy call_tuple_of (by rfl) T.tuple (by decide +kernel) (pa_cons (pv 1) pa_nil)) pa_nil)))))))), ?_⟩
    obtain ⟨dv, hdv, hrv⟩ := wordsIn_dat hv
    refine ⟨_, rfl, _, _, rfl, .dat hdv, fun H1 s1 => ⟨_, rfl, ?_⟩⟩
    rw [hrv]
    refine iteF ?_
    obtain ⟨b, xs, rfl, hb, lx, each⟩ := wordsIn_parts (wordsIn_same s1 hv)
    refine ⟨_, rfl, b, xs, rfl, hb, fun J G wk st D hD => ?_⟩
    have D1 : (upd H1 D (.lst [])) D ≠ none := by rw [upd_same]; simp
    refine lc_it wk (fun i H4 => (∀ c o, c ≠ D → H1 c = some o → H4 c = some o) ∧ ∃ ys, H4 D = some (.lst ys) ∧ DpAll K (nw (upd H1 D (.lst [])) H4) ys ((ks.take i).map sumI)) ⟨fun c o hc e => by rw [upd_ne hc]; exact e, [], upd_same, .nil⟩
      (fun i H4 _ ⟨kp, _⟩ => st H4 (sqL_same (fun c o e => kp c o (ne_of_none e hD) e)) (sqT_same (fun c o e => kp c o (ne_of_none e hD) e))) ?_ ?_
    · rintro i x H4 H4' hi ⟨kp, ys, hD4, hys⟩ ⟨rfl, hx⟩
      obtain ⟨k, hk, hxk⟩ := each i x hx
      have hi2 : i < ks.length := (List.getElem?_eq_some_iff.mp hk).1
      have s14 : Same H1 H4' := fun c o e => kp c o (ne_of_none e hD) e
      refine ⟨rfl, yes_go (iteT ⟨_, rfl, x, k, rfl, sumIn_same s14 hxk, fun H5 v5 s5 hv5 => ?_⟩)⟩
      have hD5 := s5 _ _ hD4
      have yl : ys.length = i := by
        rw [dps_len hys, List.length_map, List.length_take]
        omega
      refine ⟨ys, hD5, small1000 (by omega), fun c o hc ec => ?_, ys ++ [v5], upd_same, ?_⟩
      · rw [upd_ne hc]
        exact s5 _ _ (kp c o hc ec)
      · rw [nw_upd D1, List.take_add_one, hk, List.map_append]
        refine dps_snoc (NewD.of (.but (D := D) (fun c o hc e => ?_) (by rw [hD4]; simp)) hv5) (dps_same (nw_up s5) hys)
        rw [upd_ne hc] at e
        exact kp c o hc e
    · rintro H4 ⟨kp, ys, hD4, hys⟩
      rw [lx, List.take_length] at hys
      have yl : ys.length = ks.length := by rw [dps_len hys, List.length_map]
      have s4 : Same H H4 := fun c o e => kp c o (ne_of_none (s1 _ _ e) hD) (s1 _ _ e)
      refine ⟨_, rfl, .none, ks.map sumI, .non, .lst (SqL.of hD4) (dps_same nw_sub hys), rfl, sumI_shaped ks, _, rfl, ?_⟩
      rw [sumI_none]
      refine iteF ⟨_, rfl, D, ys, rfl, .inl ⟨SqL.of hD4, fun t ht => ⟨(by show 2 ≤ sizeLine; decide), fun p hp => ?_⟩⟩⟩
      have s45 := (same_new (o := .tup ys) ht).trans (same_new (o := .tup [.str "words", .ref t]) hp)
      have tp : t ≠ p := fun z => by rw [← z, upd_same] at hp; cases hp
      have pH : H p = none := none_of (s4.trans (same_new ht)) hp
      have tH : H t = none := none_of s4 ht
      refine q _ _ (s4.trans s45) (.tup (SqT.of (by rw [nw_at pH]; exact upd_same)) (.cons (.str _) (.cons (.tup (SqT.of (by rw [nw_at tH, upd_ne tp]; exact upd_same)) ?_) .nil)))
      exact dps_same (nw_up s45) (dps_same (nw_dom (Sub0.trans (.of s1) (.of (same_new hD)))) hys)
theorem ok_readBranch2 {f d0 : Addr} {fd : FuncData} (F : Fun K "read_branch" "read_branch" sReadBranch f fd) (T : Bi mg) (N : Near K w mg d0) (G1 : Has P w K mg base CX0 2 "is_name" ["thing"] (spIsName K)) (G2 : Has P w K mg base CX0 2 "is_integer" ["thing"] (spIsInt K)) :
    FnOk P w K mg base CX0 3 f fd ["called", "n", "more"] (spReadBranch2 K) := by
  refine F.ok scReadBranch (fun vs H Q E h => ?_) (fun cdv A outer s H vs Q E hr h => ?_)
  · obtain ⟨c, n, m, rfl, _⟩ := h
    rfl
  · obtain ⟨c, n, m, rfl, hf, q⟩ := h
    obtain ⟨h1, h2, h3⟩ := hf
    obtain ⟨es, nn, kd⟩ := N.kd
    obtain ⟨r, hr1⟩ := N.has c h1
    refine ⟨_, (pss_cons (ps_if (PW.pt (pw_or (pt_not (pt_val (pe_callB call_isi (by rfl) T.isinstance (by decide +kernel) (pa_cons (pv 0) (pa_cons (pe_bltn (v := .ty "str") (by rfl) T.str (by decide +kernel) rfl) pa_nil))))) (pw_or (pt_cmpR (op_notIn_kd kd) (pv 0) (pe_glob (v := .ref d0) rfl N.g rfl) (by rfl)) (pw_or (pt_not (pt_val (pe_callH G1 hr (by rfl) pass0 (pa_cons (pv 1) pa_nil)))) (pw_or1 (pt_not (pt_val (pe_callH G2 hr (by rfl) pass0 (pa_cons (pv 2) pa_nil))))))))) (pss_one (ps_ret pe_non)) pss_nil)
      (pss_one (ps_ret (pe_tup (pa_cons pe_str (pa_cons (pv 0) (pa_cons (pv 1) (pa_cons (pv 2) pa_nil)))))))), ?_⟩
    refine ⟨_, rfl, _, _, _, _, _, rfl, .ty "str", th_ty (.dat (.str c)), kit_str (.str c), _, rfl, iteF ?_⟩
    refine ⟨_, rfl, c, _, rfl, rfl, hr1, _, rfl, iteF ?_⟩
    refine ⟨_, rfl, _, _, rfl, .dat (.str n), h3, fun H1 s1 => ⟨_, rfl, ?_⟩⟩
    have en : isNm (.str n) = true := h2
    rw [en]
    refine iteF ⟨_, rfl, _, _, rfl, .dat (.int m), _, rfl, iteF ?_⟩
    exact ⟨_, rfl, _, rfl, _, rfl, (by show 4 ≤ sizeLine; decide), fun p hp => q _ _ (s1.trans (same_new hp)) (.tup (SqT.of (by rw [nw_at (none_of s1 hp)]; exact upd_same)) (.cons (.str _) (.cons (.str _) (.cons (.str _) (.cons (.int _) .nil)))))⟩
end

/-! ### read_row -/
/-- what is handed in as a row, and what it is read as -/
inductive InD : PyData → Option RowC → Prop
  | raw {rc : RowC} : RowFine rc.r → InD (rowR rc) (some rc)
  | red {rc : RowC} : RowFine rc.r → InD (rowD rc) (some rc)
  | non : InD .none none
  | five {k : Int} : InD (.int k) none
  | even0 : InD (.tuple [.str "even", .int 0]) none
def OutD (K : PySem.W.Frag) (H H' : Hp) (v : V) : Option RowC → Prop
  | none => v = .non
  | some rc => NewD K H H' v (rowD rc)
def spReadRow2 (K : PySem.W.Frag) : Sp := fun vs H Q _ => ∃ (v : V) (d : PyData) (o : Option RowC), vs = [v] ∧ Dp K H v d ∧ InD d o ∧ ∀ H' v', Same H H' → OutD K H H' v' o → Q v' H'
/-- the ways of what is handed in -/
inductive InW (K : PySem.W.Frag) (H : Hp) : V → Option RowC → Prop
  | words {a : Addr} {y : V} {ks : List Int} : SqT K H a [.str "words", y] → WordsIn K H y ks → ks.length ≤ 900 → InW K H (.ref a) (some (.words ks))
  | label {a : Addr} {s : Str} : SqT K H a [.str "label", .str s] → RowFine (.label s) → InW K H (.ref a) (some (.label s))
  | even {a : Addr} {n : Int} : SqT K H a [.str "even", .int n] → RowFine (.even n) → InW K H (.ref a) (some (.even n))
  | branch {a : Addr} {c n : Str} {m : Int} : SqT K H a [.str "branch", .str c, .str n, .int m] → RowFine (.branch c n m) → InW K H (.ref a) (some (.branch c n m))
  | non : InW K H .non none
  | five {k : Int} : InW K H (.int k) none
  | even0 {a : Addr} : SqT K H a [.str "even", .int 0] → InW K H (.ref a) none
theorem inW_red {K : PySem.W.Frag} {H : Hp} {v : V} {rc : RowC} (h : Dp K H v (rowD rc)) (f : RowFine rc.r) : InW K H v (some rc) := by
  cases rc with
  | words ks =>
    obtain ⟨a, y, rfl, h1, h2⟩ := dp_two h
    exact .words h1 (.inr h2) f
  | label s =>
    obtain ⟨a, y, rfl, h1, h2⟩ := dp_two h
    cases dp_str h2
    exact .label h1 f
  | even n =>
    obtain ⟨a, y, rfl, h1, h2⟩ := dp_two h
    cases dp_int h2
    exact .even h1 f
  | branch c n m =>
    obtain ⟨a, xs, rfl, h1, h2⟩ := dp_tup h
    cases h2 with
    | cons g1 h2 => cases h2 with
      | cons g2 h2 => cases h2 with
        | cons g3 h2 => cases h2 with
          | cons g4 h2 =>
            cases h2
            cases dp_str g1
            cases dp_str g2
            cases dp_str g3
            cases dp_int g4
            exact .branch h1 f
theorem inW_of {K : PySem.W.Frag} {H : Hp} {v : V} {d : PyData} {o : Option RowC} (h : Dp K H v d) (i : InD d o) : InW K H v o := by
  cases i with
  | raw f =>
    rename_i rc
    cases rc with
    | words ks =>
      obtain ⟨a, y, rfl, h1, h2⟩ := dp_two h
      exact .words h1 (.inl h2) f
    | label s => exact inW_red h f
    | even n => exact inW_red h f
    | branch c n m => exact inW_red h f
  | red f => exact inW_red h f
  | non => cases h; exact .non
  | five => cases h; exact .five
  | even0 =>
    obtain ⟨a, y, rfl, h1, h2⟩ := dp_two h
    cases dp_int h2
    exact .even0 h1
theorem new2 {K : PySem.W.Frag} {H H1 : Hp} {p : Addr} {k : Str} {y : V} {d : PyData} (s : Same H H1) (hp : H1 p = none) (hy : ∀ H2, Dp K H2 y d) : NewD K H (upd H1 p (.tup [.str k, y])) (.ref p) (.tuple [.str k, d]) :=
  .tup (SqT.of (by rw [nw_at (none_of s hp)]; exact upd_same)) (.cons (.str _) (.cons (hy _) .nil))
section
variable {P : Program} {w : World} {K : PySem.W.Frag} {mg : Str → Option Value} {base : Heap}
theorem ok_readRow2 {f : Addr} {fd : FuncData} (F : Fun K "read_row" "read_row" sReadRow f fd) (T : Bi mg) (G1 : Has P w K mg base CX0 4 "is_row" ["thing"] (spIsRow K)) (G2 : Has P w K mg base CX0 4 "is_name" ["thing"] (spIsName K)) (G3 : Has P w K mg base CX0 4 "is_integer" ["thing"] (spIsInt K))
    (G4 : Has P w K mg base CX0 4 "read_branch" ["called", "n", "more"] (spReadBranch2 K)) (G5 : Has P w K mg base CX0 4 "read_words" ["thing"] (spReadWords2 K)) : FnOk P w K mg base CX0 5 f fd ["thing"] (spReadRow2 K) := by
  refine F.ok scReadRow (fun vs H Q E h => ?_) (fun cdv A outer s H vs Q E hr h => ?_)
  · obtain ⟨v, d, o, rfl, _⟩ := h
    rfl
  · obtain ⟨v, d, o, rfl, hd, hi, q⟩ := h
    have hv := inW_of hd hi
    refine ⟨_, (pss_cons (ps_if (PW.pt (pw_or (pt_not (pt_val (pe_callH G1 hr (by rfl) pass0 (pa_cons (pv 0) pa_nil)))) (pw_or (pt_cmpR op_notIn_seq (pe_callB call_len_seq (by rfl) T.len (by decide +kernel) (pa_cons (pv 0) pa_nil)) (pe_tup (pa_cons pe_int (pa_cons pe_int pa_nil))) (by rfl)) (pw_or1 (pt_not (pt_val (pe_callB call_isi (by rfl) T.isinstance (by decide +kernel) (pa_cons (pe_ix ix_tup (pv 0) pe_int (fun _ _ => rfl)) (pa_cons (pe_bltn (v := .ty "str") (by rfl) T.str (by decide +kernel) rfl) pa_nil))))))))) (pss_one (ps_ret pe_non)) pss_nil)
      (pss_cons (ps_if (pt_cmpR op_eq (pe_callB call_len_seq (by rfl) T.len (by decide +kernel) (pa_cons (pv 0) pa_nil)) pe_int (nomark _)) (pss_one (ps_ret (pe_ifExp (pt_cmpR op_eq (pe_ix ix_tup (pv 0) pe_int (fun _ _ => rfl)) pe_str (nomark _)) (pe_callH G4 hr (by rfl) pass0 (pa_cons (pe_ix ix_tup (pv 0) pe_int (fun _ _ => rfl)) (pa_cons (pe_ix ix_tup (pv 0) pe_int (fun _ _ => rfl)) (pa_cons (pe_ix ix_tup (pv 0) pe_int (fun _ _ => rfl)) pa_nil)))) pe_non))) pss_nil)
      (pss_cons (ps_asg (pv 0) (pg_tup rfl (pgs_cons (pg_name (i := 1) scReadRow.nd rfl (.inl rfl)) (pgs_cons (pg_name (i := 2) scReadRow.nd rfl (.inl rfl)) pgs_nil))))
      (pss_cons (ps_if (pt_cmpR op_eq (pv 1) pe_str (nomark _)) (pss_one (ps_ret (pe_callH G5 hr (by rfl) pass0 (pa_cons (pv 2) pa_nil)))) pss_nil)
      (pss_cons (ps_if (PW.pt (pw_and (pt_cmpR op_eq (pv 1) pe_str (nomark _)) (pw_and1 (pt_val (pe_callH G2 hr (by rfl) pass0 (pa_cons (pv 2) pa_nil)))))) (pss_one (ps_ret (pe_tup (pa_cons pe_str (pa_cons (pv 2) pa_nil))))) pss_nil)
      (pss_cons (ps_if (PW.pt (pw_and (pt_cmpR op_eq (pv 1) pe_str (nomark _)) (pw_and (pt_val (pe_callH G3 hr (by rfl) pass0 (pa_cons (pv 2) pa_nil))) (pw_and1 (pt_chain op_le op_le pe_int (pv 2) pe_int))))) (pss_one (ps_ret (pe_tup (pa_cons pe_str (pa_cons (pv 2) pa_nil))))) pss_nil)
      (pss_one (ps_ret pe_non)))))))), ?_⟩
    cases hv with
    | non => exact ⟨_, rfl, _, _, rfl, .dat .non, fun H1 s1 => ⟨_, rfl, iteT (q H1 .non s1 rfl)⟩⟩
    | five => exact ⟨_, rfl, _, _, rfl, .dat (.int _), fun H1 s1 => ⟨_, rfl, iteT (q H1 .non s1 rfl)⟩⟩
    | words h2 hy hl =>
      rename_i a y ks
      obtain ⟨dv, hdv, hrv⟩ := wordsIn_dat hy
      have hd : Dp K H (.ref a) (.tuple [.str "words", dv]) := .tup h2 (.cons (.str _) (.cons hdv .nil))
      refine ⟨_, rfl, _, _, rfl, .dat hd, fun H1 s1 => ⟨_, rfl, iteF ?_⟩⟩
      have h21 := sqT_same s1 h2
      refine ⟨_, rfl, a, _, rfl, .inr h21, (by show 2 ≤ sizeLine; decide), fun p hp => ?_⟩
      have s2 := s1.trans (same_new (o := .tup [V.int 2, V.int 4]) hp)
      have h22 := sqT_same s2 h2
      refine ⟨p, [V.int 2, V.int 4], rfl, .inr (SqT.of upd_same), rfl, rfl, _, rfl, iteF ?_⟩
      refine ⟨_, rfl, a, _, _, _, rfl, rfl, h22, at_of (i := 0) rfl, _, _, _, _, _, rfl, .ty "str", th_ty (.dat (.str _)), kit_str (.str _), _, rfl, iteF ?_⟩
      refine ⟨_, rfl, a, _, rfl, .inr h22, rfl, _, rfl, iteF ?_⟩
      refine ⟨_, rfl, a, _, rfl, h22, rfl, _, _, rfl, _, _, rfl, rfl, ?_⟩
      refine ⟨_, rfl, rfl, _, rfl, kEq (by decide +kernel) ?_⟩
      exact ⟨_, rfl, y, ks, rfl, wordsIn_same s2 hy, hl, fun H' v' s3 hv' => q H' v' (s2.trans s3) (hv'.of (.of s2))⟩
    | label h2 hf =>
      rename_i a z
      have hd : Dp K H (.ref a) (.tuple [.str "label", .str z]) := .tup h2 (.cons (.str _) (.cons (.str _) .nil))
      refine ⟨_, rfl, _, _, rfl, .dat hd, fun H1 s1 => ⟨_, rfl, iteF ?_⟩⟩
      have h21 := sqT_same s1 h2
      refine ⟨_, rfl, a, _, rfl, .inr h21, (by show 2 ≤ sizeLine; decide), fun p hp => ?_⟩
      have s2 := s1.trans (same_new (o := .tup [V.int 2, V.int 4]) hp)
      have h22 := sqT_same s2 h2
      refine ⟨p, [V.int 2, V.int 4], rfl, .inr (SqT.of upd_same), rfl, rfl, _, rfl, iteF ?_⟩
      refine ⟨_, rfl, a, _, _, _, rfl, rfl, h22, at_of (i := 0) rfl, _, _, _, _, _, rfl, .ty "str", th_ty (.dat (.str _)), kit_str (.str _), _, rfl, iteF ?_⟩
      refine ⟨_, rfl, a, _, rfl, .inr h22, rfl, _, rfl, iteF ?_⟩
      refine ⟨_, rfl, a, _, rfl, h22, rfl, _, _, rfl, _, _, rfl, rfl, ?_⟩
      refine ⟨_, rfl, rfl, _, rfl, kNe (by decide +kernel) ?_⟩
      refine ⟨_, rfl, rfl, _, rfl, kEq (by decide +kernel) ?_⟩
      refine ⟨_, rfl, _, _, rfl, .dat (.str z), hf.2, fun H3 s3 => ⟨_, rfl, ?_⟩⟩
      have en : isNm (.str z) = true := hf.1
      rw [en]
      exact iteT ⟨_, rfl, (by show 2 ≤ sizeLine; decide), fun p2 hp2 => q _ _ ((s2.trans s3).trans (same_new hp2)) (new2 (s2.trans s3) hp2 fun _ => .str _)⟩
    | even h2 hf =>
      rename_i a n
      have hd : Dp K H (.ref a) (.tuple [.str "even", .int n]) := .tup h2 (.cons (.str _) (.cons (.int _) .nil))
      refine ⟨_, rfl, _, _, rfl, .dat hd, fun H1 s1 => ⟨_, rfl, iteF ?_⟩⟩
      have h21 := sqT_same s1 h2
      refine ⟨_, rfl, a, _, rfl, .inr h21, (by show 2 ≤ sizeLine; decide), fun p hp => ?_⟩
      have s2 := s1.trans (same_new (o := .tup [V.int 2, V.int 4]) hp)
      have h22 := sqT_same s2 h2
      refine ⟨p, [V.int 2, V.int 4], rfl, .inr (SqT.of upd_same), rfl, rfl, _, rfl, iteF ?_⟩
      refine ⟨_, rfl, a, _, _, _, rfl, rfl, h22, at_of (i := 0) rfl, _, _, _, _, _, rfl, .ty "str", th_ty (.dat (.str _)), kit_str (.str _), _, rfl, iteF ?_⟩
      refine ⟨_, rfl, a, _, rfl, .inr h22, rfl, _, rfl, iteF ?_⟩
      refine ⟨_, rfl, a, _, rfl, h22, rfl, _, _, rfl, _, _, rfl, rfl, ?_⟩
      refine ⟨_, rfl, rfl, _, rfl, kNe (by decide +kernel) ?_⟩
      refine ⟨_, rfl, rfl, _, rfl, kNe (by decide +kernel) (iteF ?_)⟩
      refine ⟨_, rfl, rfl, _, rfl, kEq (by decide +kernel) ?_⟩
      refine ⟨_, rfl, _, _, rfl, .dat (.int n), _, rfl, iteT ?_⟩
      have hf1 : 1 ≤ n ∧ n ≤ 64 := hf
      refine ⟨_, rfl, _, _, rfl, rfl, _, rfl, ?_⟩
      rw [decide_eq_true hf1.1]
      refine iteT ⟨_, _, rfl, rfl, _, rfl, ?_⟩
      rw [decide_eq_true hf1.2]
      exact iteT ⟨_, rfl, (by show 2 ≤ sizeLine; decide), fun p2 hp2 => q _ _ (s2.trans (same_new hp2)) (new2 s2 hp2 fun _ => .int _)⟩
    | even0 h2 =>
      rename_i a
      have hd : Dp K H (.ref a) (.tuple [.str "even", .int 0]) := .tup h2 (.cons (.str _) (.cons (.int _) .nil))
      refine ⟨_, rfl, _, _, rfl, .dat hd, fun H1 s1 => ⟨_, rfl, iteF ?_⟩⟩
      have h21 := sqT_same s1 h2
      refine ⟨_, rfl, a, _, rfl, .inr h21, (by show 2 ≤ sizeLine; decide), fun p hp => ?_⟩
      have s2 := s1.trans (same_new (o := .tup [V.int 2, V.int 4]) hp)
      have h22 := sqT_same s2 h2
      refine ⟨p, [V.int 2, V.int 4], rfl, .inr (SqT.of upd_same), rfl, rfl, _, rfl, iteF ?_⟩
      refine ⟨_, rfl, a, _, _, _, rfl, rfl, h22, at_of (i := 0) rfl, _, _, _, _, _, rfl, .ty "str", th_ty (.dat (.str _)), kit_str (.str _), _, rfl, iteF ?_⟩
      refine ⟨_, rfl, a, _, rfl, .inr h22, rfl, _, rfl, iteF ?_⟩
      refine ⟨_, rfl, a, _, rfl, h22, rfl, _, _, rfl, _, _, rfl, rfl, ?_⟩
      refine ⟨_, rfl, rfl, _, rfl, kNe (by decide +kernel) ?_⟩
      refine ⟨_, rfl, rfl, _, rfl, kNe (by decide +kernel) (iteF ?_)⟩
      refine ⟨_, rfl, rfl, _, rfl, kEq (by decide +kernel) ?_⟩
      refine ⟨_, rfl, _, _, rfl, .dat (.int 0), _, rfl, iteT ?_⟩
      refine ⟨_, rfl, _, _, rfl, rfl, _, rfl, ?_⟩
      rw [decide_eq_false (by decide)]
      exact iteF ⟨_, rfl, iteF (q _ _ s2 rfl)⟩
    | branch h2 hf =>
      rename_i a c n m
      have hd : Dp K H (.ref a) (.tuple [.str "branch", .str c, .str n, .int m]) := .tup h2 (.cons (.str _) (.cons (.str _) (.cons (.str _) (.cons (.int _) .nil))))
      refine ⟨_, rfl, _, _, rfl, .dat hd, fun H1 s1 => ⟨_, rfl, iteF ?_⟩⟩
      have h21 := sqT_same s1 h2
      refine ⟨_, rfl, a, _, rfl, .inr h21, (by show 2 ≤ sizeLine; decide), fun p hp => ?_⟩
      have s2 := s1.trans (same_new (o := .tup [V.int 2, V.int 4]) hp)
      have h22 := sqT_same s2 h2
      refine ⟨p, [V.int 2, V.int 4], rfl, .inr (SqT.of upd_same), rfl, rfl, _, rfl, iteF ?_⟩
      refine ⟨_, rfl, a, _, _, _, rfl, rfl, h22, at_of (i := 0) rfl, _, _, _, _, _, rfl, .ty "str", th_ty (.dat (.str _)), kit_str (.str _), _, rfl, iteF ?_⟩
      refine ⟨_, rfl, a, _, rfl, .inr h22, rfl, _, rfl, iteT ?_⟩
      refine ⟨_, rfl, a, _, _, _, rfl, rfl, h22, at_of (i := 0) rfl, rfl, _, rfl, kEq (by decide +kernel) ?_⟩
      refine ⟨_, rfl, a, _, _, _, rfl, rfl, h22, at_of (i := 1) rfl, _, rfl, a, _, _, _, rfl, rfl, h22, at_of (i := 2) rfl, _, rfl, a, _, _, _, rfl, rfl, h22, at_of (i := 3) rfl, ?_⟩
      exact ⟨c, n, m, rfl, hf, fun H' v' s3 hv' => q H' v' (s2.trans s3) (hv'.of (.of s2))⟩
end

inductive Each2 {α β : Type} (R : β → α → Prop) : List β → List α → Prop
  | nil : Each2 R [] []
  | cons {v : β} {vs : List β} {a : α} {as : List α} : R v a → Each2 R vs as → Each2 R (v :: vs) (a :: as)
theorem Each2.imp {α β : Type} {R S : β → α → Prop} (h : ∀ v a, R v a → S v a) : ∀ {vs : List β} {as : List α}, Each2 R vs as → Each2 S vs as
  | _, _, .nil => .nil
  | _, _, .cons x t => .cons (h _ _ x) (t.imp h)
theorem Each2.len {α β : Type} {R : β → α → Prop} : ∀ {vs : List β} {as : List α}, Each2 R vs as → vs.length = as.length
  | _, _, .nil => rfl
  | _, _, .cons _ t => congrArg (· + 1) t.len
theorem Each2.app {α β : Type} {R : β → α → Prop} : ∀ {vs ws : List β} {as bs : List α}, Each2 R vs as → Each2 R ws bs → Each2 R (vs ++ ws) (as ++ bs)
  | _, _, _, _, .nil, h => h
  | _, _, _, _, .cons x t, h => .cons x (t.app h)
theorem Each2.get {α β : Type} {R : β → α → Prop} : ∀ {vs : List β} {as : List α}, Each2 R vs as → ∀ {i : Nat} {v : β}, vs[i]? = some v → ∃ a, as[i]? = some a ∧ R v a
  | _, _, .nil, i, v, h => by simp at h
  | _, _, .cons g t, 0, v, e => by
    obtain rfl : _ = v := Option.some.inj e
    exact ⟨_, rfl, g⟩
  | _, _, .cons g t, i + 1, v, e => t.get (i := i) e
/-! ### own errors of one field -/
/-- __init__ stores its argument under f -/
def spErrInit (K : PySem.W.Frag) (C : Addr) (f : Str) : Sp := fun vs H Q _ => ∃ a y, vs = [.ref a, y] ∧ H a = some (exo a C none) ∧ ∀ dx, H dx = none → dx ≠ a → Q .non (upd (upd H dx (exd dx [(f, y)])) a (exo a C (some dx)))
/-- what is known of such a class x at C -/
structure Err (P : Program) (w : World) (K : PySem.W.Frag) (mg : Str → Option Value) (base : Heap) (x : Str) (C : Addr) (f : Str) : Prop where
  g : mg x = some (.ref C)
  T : OexC K C
  no : PySem.W.findIn K (.ref C) f = some none
  xf : XfC K C
  te : PySem.W.exmOne K (.ref C) (.ref C) = some true
  ini : ∃ (fI : Addr) (fd : FuncData) (p2 : Str), PySem.W.findIn K (.ref C) "__init__" = some (some (.ref fI)) ∧ PySem.W.typeIn K (.ref fI) = some (.type "function") ∧ Binds K fd ["self", p2] [] ∧ FnOk P w K mg base CX0 1 fI fd ["self", p2] (spErrInit K C f)
theorem err_go {K : PySem.W.Frag} {C : Addr} {f : Str} {y : V} {H1 : Hp} {Q : XK} (q : ∀ dx, H1 dx = none → Q (.ref C) (some dx) (upd H1 dx (.xd [(f, y)]))) :
    [y].length ≤ 1000 ∧ ∀ a, H1 a = none → spErrInit K C f (.ref a :: ([y] ++ [])) (upd H1 a (exo a C none)) (fun v H2 => v = .non ∧ ∃ (d : Addr) (fs : List (Str × V)), H2 a = some (exo a C (some d)) ∧ H2 d = some (exd d fs) ∧ H1 d = none ∧ Q (.ref C) (some d) (upd (del H2 a) d (.xd fs))) (fun _ _ _ => False) := by
  refine ⟨(by show 1 ≤ 1000; decide), fun a ha => ⟨a, y, rfl, upd_same, fun dx hdx hne => ⟨rfl, dx, [(f, y)], upd_same, ?_, ?_, ?_⟩⟩⟩
  · rw [upd_ne hne, upd_same]
  · rw [upd_ne hne] at hdx
    exact hdx
  · have h1 : H1 dx = none := by
      rw [upd_ne hne] at hdx
      exact hdx
    have e : upd (del (upd (upd (upd H1 a (exo a C none)) dx (exd dx [(f, y)])) a (exo a C (some dx))) a) dx (.xd [(f, y)]) = upd H1 dx (.xd [(f, y)]) := by
      funext b
      by_cases hb : b = dx
      · rw [hb, upd_same, upd_same]
      · rw [upd_ne hb, upd_ne hb]
        by_cases hb2 : b = a
        · rw [hb2, del_same, ha]
        · rw [del_ne hb2, upd_ne hb2, upd_ne hb, upd_ne hb2]
    rw [e]
    exact q dx h1
def tRaise1 (K : PySem.W.Frag) (C : Addr) (f : Str) (te : TE) (W : WX) : TS := fun _ σ H => tMkO C (spErrInit K C f) [] (tCons te tNil) σ H fun cls d H' => W cls d σ H'
theorem ps_err {X : Cx} {W : WX} {x f : Str} {C : Addr} {e : Expr} {te : TE} {p pos pos2 : Pos} {k : Nat} (hc : X.calm = true) (tk : Takes X W) (T : Err X.prog X.w X.K X.mg X.base x C f) (hr : Room k X.A) (h2 : 2 ≤ k) (he : PE X e te) (hg : Gl X x := by rfl)
    (hdb : (x == ("__debug__" : Str)) = false := by decide) (hs : starEach (e :: []) X.env = (false, eval e X.env) :: starEach [] X.env := by rfl) (hpl : (backTo pos (starEach [] X.env)).any (·.1) = false := by rfl) :
    PS X (.Raise (some (.Call (.Name x p) [e] [] pos)) none pos2) (tRaise1 X.K C f te W) := by
  obtain ⟨fI, fd, p2, iC, tI, hb, F⟩ := T.ini
  exact ps_raise (pos := pos2) hc tk (pmk_oex (p := p) (pos := pos) T.T iC tI F (hr.mono h2) hb .nil pass0 hg T.g (pa_cons he pa_nil hs) hdb hs hpl)
/-- a method of the class at C that keeps its promise -/
structure HasM (P : Program) (w : World) (K : PySem.W.Frag) (mg : Str → Option Value) (base : Heap) (CX : CXT) (k : Nat) (C : Addr) (m : Str) (ps : List Str) (sp : Sp) : Prop where
  ex : ∃ (f : Addr) (fd : FuncData), Meth K C m f ∧ Binds K fd ps [] ∧ FnOk P w K mg base CX k f fd ps sp
  cl : Cls K C
theorem HasM.mono {P : Program} {w : World} {K : PySem.W.Frag} {mg : Str → Option Value} {base : Heap} {CX : CXT} {j k : Nat} {C : Addr} {m : Str} {ps : List Str} {sp : Sp} (h : HasM P w K mg base CX j C m ps sp) (l : j ≤ k) : HasM P w K mg base CX k C m ps sp := by
  obtain ⟨⟨f, fd, a, b, c⟩, d⟩ := h
  exact ⟨⟨f, fd, a, b, c.mono l⟩, d⟩
section
variable {X : Cx} {CX : CXT} {k : Nat} {C : Addr} {ps : List Str} {sp : Sp} {E : XK} {m : Str} {p pos apos : Pos} {e o : Expr} {es : List Expr} {t : TA} {ta : TE}
theorem pe_methH {pl : Sem Bool} (M : HasM X.prog X.w X.K X.mg X.base CX k C m ps sp) (he : PE X o ta) (hr : Room k X.A) (hx : Passes CX X E) (ha : PA X (e :: es) t)
    (hst : starEach (e :: es) X.env = (false, eval e X.env) :: starEach es X.env := by rfl) (hpl : (backTo pos (starEach es X.env)).any (·.1) = false := by rfl)
    (ht : eval (.Call (.Attribute o m apos) (e :: es) [] pos) X.env = (do
      let ov ← eval o X.env
      standAt apos.atName
      let (f, first) ← holding [ov] (getMethod ov m pl)
      callWith pos f first (backTo pos (starEach (e :: es) X.env)) (backToKw pos (keywordEach [] X.env))) := by rfl) : PE X (.Call (.Attribute o m apos) (e :: es) [] pos) (tMeth C m sp [] E ta t) := by
  obtain ⟨⟨f, fd, a, b, c⟩, d⟩ := M
  exact pe_meth he d a c hr b .nil hx ha hst hpl ht
theorem pe_methH0 {pl : Sem Bool} (M : HasM X.prog X.w X.K X.mg X.base CX k C m ps sp) (he : PE X o ta) (hr : Room k X.A) (hx : Passes CX X E)
    (ht : eval (.Call (.Attribute o m apos) [] [] pos) X.env = (do
      let ov ← eval o X.env
      standAt apos.atName
      let (f, first) ← holding [ov] (getMethod ov m pl)
      callWith pos f first (backTo pos (starEach [] X.env)) (backToKw pos (keywordEach [] X.env))) := by rfl) : PE X (.Call (.Attribute o m apos) [] [] pos) (tMeth C m sp [] E ta tNil) := by
  obtain ⟨⟨f, fd, a, b, c⟩, d⟩ := M
  exact pe_meth0 he d a c hr b .nil hx ht
end
/-! ### errors whose context is None -/
theorem _root_.L2.Fun.okN {P : Program} {w : World} {K : PySem.W.Frag} {mg : Str → Option Value} {base : Heap} {x qual : Str} {st : Stmt} {f : Addr} {fd : FuncData} {N ps : List Str} {k : Nat} {sp : Sp} (F : Fun K x qual st f fd) (S : FnScope N ps (defScope st)) (len : ∀ vs H Q E, sp vs H Q E → vs.length = ps.length)
    (hbody : ∀ (cdv : Value) (A : Around) (outer : List Env) (s : Shared) (H : Hp) (vs : List V) (Q : VK) (E : XK), Room k (A.deeper (envOfC qual (defScope st) s.heap.objs.size f cdv)) → sp vs H Q E →
      ∃ t, PSs (cxOf (L2N.CX P w) P w K mg base N qual (defScope st) f cdv A outer s H E) (defBody st) t ∧ t { nx := fun _ H' => Q .non H', rt := Q } (start N vs) H) : FnOk P w K mg base (L2N.CX P w) (k + 1) f fd ps sp := by
  obtain ⟨oc, od, kV, doc, pm, an, cdv, ct, osl, rfl, lk, hcd⟩ := F.ex
  exact fn_of lk hcd S len fun A outer s H vs Q E hr hsp => hbody cdv A outer s H vs Q E hr hsp
theorem passF {X : Cx} : Passes (L2N.CX X.prog X.w) X (fun _ _ _ => False) := fun pins σ H s e s' I c => by
  obtain ⟨a, B, H', cls, d, e1, fl, hok, ub, na, os, ag, hE⟩ := c
  exact hE.elim
theorem pmkN_oex {X : Cx} {CX : CXT} {x : Str} {C fI : Addr} {k : Nat} {fd : FuncData} {ps : List Str} {sp : Sp} {e : Expr} {es : List Expr} {ta : TA} {p pos : Pos} (T : OexC X.K C) (iC : PySem.W.findIn X.K (.ref C) "__init__" = some (some (.ref fI))) (tI : PySem.W.typeIn X.K (.ref fI) = some (.type "function"))
    (F1 : FnOk X.prog X.w X.K X.mg X.base CX k fI fd ps sp) (hr : Room (k + 1) X.A) (hb : Binds X.K fd ps []) (hx : Passes CX X (fun _ _ _ => False)) (hg : Gl X x) (hm : X.mg x = some (.ref C)) (ha : PA X (e :: es) ta)
    (hdb : (x == ("__debug__" : Str)) = false := by decide) (he : starEach (e :: es) X.env = (false, eval e X.env) :: starEach es X.env := by rfl) (hpl : (backTo pos (starEach es X.env)).any (·.1) = false := by rfl) :
    L2N.PMk X (.Call (.Name x p) (e :: es) [] pos) (tMkO C sp [] ta) := by
  intro pins s σ H Q I h
  obtain ⟨nm, q, N, bs, bm, sn, sub, ab, col, dd, k0, k1, k2, k3, k5, hC, hbm⟩ := T.cls
  refine wpAny_Call_Name_kw (ld_glob I hg hm ?_ hdb)
  refine PySem.W.callWith_K (h₀ := X.base) I.ok.mod.kin T.kC (thn (ha.run pos pins s σ H _ I h) fun us s1 ⟨vs, H1, I1, r1, hz, q1⟩ => ⟨I1.kIn, ?_⟩) he hpl
  show wpAny _ _ (call (.ref C) us) _ _ _
  obtain ⟨hp, g, dr, tk, os⟩ := s1
  have hsz : hp.objs.size ≤ hp.objs.size + 1 := Nat.le_succ _
  have hn : H1 (hp.objs.size + 1) = none := I1.hok.fresh hsz
  have hq := q1 (hp.objs.size + 1) hn
  rw [List.append_nil] at hq
  have kk : ∀ b o, hp.get? b = some o → ((hp.push (PySem.W.kdv_tup us)).push (PySem.HandSPX.excO C hp.objs.size)).get? b = some o := fun b o e => Heap.get?_push_of_some _ (Heap.get?_push_of_some _ e)
  have hget : ((hp.push (PySem.W.kdv_tup us)).push (PySem.HandSPX.excO C hp.objs.size)).get? (hp.objs.size + 1) = some (PySem.HandSPX.excO C hp.objs.size) := by heap_get
  have I2 : Inv X pins σ (upd H1 (hp.objs.size + 1) (exo (hp.objs.size + 1) C none)) ⟨(hp.push (PySem.W.kdv_tup us)).push (PySem.HandSPX.excO C hp.objs.size), g, dr, tk, os⟩ :=
    I1.laid (t' := tk) (a := hp.objs.size + 1) (o := exo (hp.objs.size + 1) C none) (h' := (hp.push (PySem.W.kdv_tup us)).push (PySem.HandSPX.excO C hp.objs.size)) kk hsz (exo_ok hget)
  have r2 : Vals (V.ref (hp.objs.size + 1) :: vs) (Value.ref (hp.objs.size + 1) :: us) := .cons rfl r1
  have hl : (Value.ref (hp.objs.size + 1) :: us ++ []).length = ps.length := by
    have e := r2.length
    rw [F1.len _ _ _ _ hq] at e
    rw [List.append_nil]
    exact e.symm
  have hus : us.length ≤ sizeLine := by
    rw [← Paired.length r1, sizeLine_eq]
    omega
  have b2 := hb _ (Value.ref (hp.objs.size + 1) :: us) I2.kIn hl
  rw [List.append_nil] at b2
  refine wpAny_call (PySem.HandSPX.call_own F.excBase_ValueError (fun Y => PySem.HandSPX.refsVE_contains Y bm hbm) (I1.kIn _ _ hC) (PySem.W.looks_findIn I1.kIn iC) (fun self => PySem.W.bind_fn I1.kIn self tI) hus
    (codeAny_mono (F1.run _ X.stack _ _ ⟨Value.ref (hp.objs.size + 1) :: us, []⟩ (Value.ref (hp.objs.size + 1) :: us) _ _ (fun _ _ _ => False) (hr.make C us []) (I2.env0.make C us []) b2 r2 hq) fun r s' hq' => ?_))
  cases r with
  | error er => exact hx pins σ _ _ er s' I2 hq'
  | ok fl =>
    cases fl with
    | ret u =>
      obtain ⟨v, H2, os2, bare2, un2, hok2, rv, ev, d, fs, ea, ed, hd1, q2⟩ := hq'
      subst ev
      obtain ⟨h2, g2, d2, t2, os'⟩ := s'
      obtain ⟨t0, G, J, kG, ge, hoe, na⟩ := mk_end0 (d2 := d2) (t2 := t2) I1 hsz kk un2 hok2 os2 bare2 ea ed hd1
      exact ⟨rv, _, _, _, ⟨G, g2, d2, t2, os'⟩, _, .ref C, some d, rfl, J, kG, ge, hoe, ⟨rfl, rfl, fun vs e => by cases e; rfl⟩, rfl, rfl, na, rfl, bare2, raises_own T.exC T.tyC, q2⟩
    | next => exact False.elim hq'
    | brk => exact False.elim hq'
    | cont => exact False.elim hq'
theorem ps_errN {X : Cx} {W : WX} {x f : Str} {C : Addr} {e : Expr} {te : TE} {p pos pos2 : Pos} {k : Nat} (hc : X.calm = true) (tk : L2N.Takes X W) (T : Err X.prog X.w X.K X.mg X.base x C f) (hr : Room k X.A) (h2 : 2 ≤ k) (he : PE X e te) (hg : Gl X x := by rfl)
    (hdb : (x == ("__debug__" : Str)) = false := by decide) (hs : starEach (e :: []) X.env = (false, eval e X.env) :: starEach [] X.env := by rfl) (hpl : (backTo pos (starEach [] X.env)).any (·.1) = false := by rfl) :
    PS X (.Raise (some (.Call (.Name x p) [e] [] pos)) none pos2) (tRaise1 X.K C f te W) := by
  obtain ⟨fI, fd, p2, iC, tI, hb, F⟩ := T.ini
  exact L2N.ps_raise (pos := pos2) hc tk (pmkN_oex (p := p) (pos := pos) T.T iC tI F (hr.mono h2) hb pass0 hg T.g (pa_cons he pa_nil hs) hdb hs hpl)
/-! ### C(e, ..) where what is raised is wished for at the caller's slots -/
def tMakeS (C : Addr) (sp : Sp) (W : WX) (t : TA) : TE := fun σ H Q => t σ H fun vs H1 => ∀ x dx, H1 x = none → H1 dx = none → dx ≠ x →
  sp (.ref x :: vs) (upd (upd H1 dx (.own x)) x (.ins C dx [])) (fun v H2 => v = .non ∧ Q (.ref x) H2) (fun cls d H' => W cls d σ H')
theorem pe_makeS {X : Cx} {CX : CXT} {k : Nat} {f C : Addr} {fd : FuncData} {ps : List Str} {sp : Sp} {W : WX} {x : Str} {p pos : Pos} {e : Expr} {es : List Expr} {t : TA} (M : _root_.L2.Mk X.K C f) (F : FnOk X.prog X.w X.K X.mg X.base CX k f fd ps sp) (hr : Room (k + 1) X.A) (hg : Gl X x) (hm : X.mg x = some (.ref C)) (hb : Binds X.K fd ps []) (hx : ∀ σ, PassesAt CX X σ (fun cls d H' => W cls d σ H'))
    (ha : PA X (e :: es) t) (hdb : (x == ("__debug__" : Str)) = false := by decide) (he : starEach (e :: es) X.env = (false, eval e X.env) :: starEach es X.env := by rfl) (hpl : (backTo pos (starEach es X.env)).any (·.1) = false := by rfl) :
    PE X (.Call (.Name x p) (e :: es) [] pos) (tMakeS C sp W t) := by
  refine ⟨fun pins s σ H Q I h => ?_⟩
  refine wpAny_Call_Name_kw (ld_glob I hg hm ?_ hdb)
  refine PySem.W.callWith_K (h₀ := X.base) I.ok.mod.kin M.kp (thn (ha.run pos pins s σ H _ I h) fun us s1 ⟨vs, H1, I1, r, q⟩ => ⟨I1.kIn, ?_⟩) he hpl
  have hq := q (s1.heap.objs.size + 1) s1.heap.objs.size (I1.hok.fresh (Nat.le_succ _)) (I1.hok.fresh (Nat.le_refl _)) (Nat.ne_of_lt (Nat.lt_succ_self _))
  have I2 := Inv.made (C := C) I1
  have r2 : Vals (V.ref (s1.heap.objs.size + 1) :: vs) (Value.ref (s1.heap.objs.size + 1) :: us) := .cons rfl r
  have hl : (Value.ref (s1.heap.objs.size + 1) :: us ++ []).length = ps.length := by
    have e := r2.length
    rw [F.len _ _ _ _ hq] at e
    rw [List.append_nil]
    exact e.symm
  have b2 := hb _ (Value.ref (s1.heap.objs.size + 1) :: us) I2.kIn hl
  rw [List.append_nil] at b2
  refine wpAny_call (make_map (f := f) I1.kIn M.makes M.init (beq_iff_eq.mp M.fn) (codeAny_mono (F.run _ X.stack _ _ ⟨Value.ref (s1.heap.objs.size + 1) :: us, []⟩ (Value.ref (s1.heap.objs.size + 1) :: us) _ _ _ (hr.make C us [])
    (I2.env0.make C us []) b2 r2 hq) fun r s' hq' => ?_))
  cases r with
  | error e => exact hx σ pins _ _ e s' I2 hq'
  | ok fl =>
    cases fl with
    | ret u =>
      obtain ⟨v, H', I3, rv, ev, q3⟩ := I2.after hq'
      subst ev
      exact ⟨rv, ⟨V.ref (s1.heap.objs.size + 1), H', I3, rfl, q3⟩⟩
    | next => exact False.elim hq'
    | brk => exact False.elim hq'
    | cont => exact False.elim hq'
/-- what Bad..(i) comes to, the class at CE with its number -/
def BadE (CE : Addr) (H : Hp) (E : XK) : Prop := ∀ (i : Int) H' dx, Same H H' → H' dx = none → E (.ref CE) (some dx) (upd H' dx (.xd [("index", .int i)]))
/-- y = {k: v for ..}, y a local name -/
theorem ps_setDc {X : Cx} {i : Nat} {y : Str} {py : Pos} {kx vx tg iter : Expr} {ifs : List Expr} {scope : Scope} {own : List (Str × Nat)} {pos spos : Pos} {wi : TI} {g : TG} {tt : TT} {tk tv : TE} (calm : X.calm = true) (nd : X.N.Nodup) (slot : X.N[i]? = some y) (isLoc : X.env.scope.names.lookup y = some .local)
    (sw : swapsWith (.DictComp kx vx [⟨tg, iter, ifs, 0⟩] scope pos) (some (.Name y py)) spos.line X.env = pure true) (hi : PI X tg iter wi) (ok : BlkOk X.N X.env.scope scope own)
    (p1 : ∀ (s : Shared) (H : Hp) (C : Addr) (cl : List (Str × Addr)) (fp : List Addr), PG (X.blk s H scope (compEnvC scope cl C X.env) fp) tg g)
    (p2 : ∀ (s : Shared) (H : Hp) (C : Addr) (cl : List (Str × Addr)) (fp : List Addr), PTs (X.blk s H scope (compEnvC scope cl C X.env) fp) ifs tt)
    (p3 : ∀ (s : Shared) (H : Hp) (C : Addr) (cl : List (Str × Addr)) (fp : List Addr), PE (X.blk s H scope (compEnvC scope cl C X.env) fp) kx tk)
    (p4 : ∀ (s : Shared) (H : Hp) (C : Addr) (cl : List (Str × Addr)) (fp : List Addr), PE (X.blk s H scope (compEnvC scope cl C X.env) fp) vx tv) (fold : ∀ x, foldedSetIterable iter X.env x = pure x := by intro _; rfl) :
    PS X (.Assign [.Name y py] (.DictComp kx vx [⟨tg, iter, ifs, 0⟩] scope pos) spos) (tAsg (tDc wi g tt tk tv (own.map (·.2))) (gName i)) := by
  constructor
  intro pins s σ H D I want
  rw [exec_Assign_Name_used _ _ _ _ sw]
  refine wpAny_bind (wpAny_standAt (wpAny_bind ?_))
  show wpAny _ X.A (do let _ ← comprehension (.DictComp kx vx [⟨tg, iter, ifs, 0⟩] scope pos) scope X.env (firstIterPos [⟨tg, iter, ifs, 0⟩] pos) newDict false (eval iter X.env) (some (assign (.Name y py) X.env))) _ _ s
  have want' : tDc wi g tt tk tv (own.map (·.2)) σ H (fun x H1 => gName i x σ H1 D.nx) := want
  refine wpAny_bind (thn (dc_core (Qf := fun _ s' => SP X pins D .next s') calm nd I hi ok p1 p2 p3 p4 fold want' fun L C s' m H' I' q hn ff => ?_) fun _ s' hq => wpAny_pure (wpAny_pure hq))
  show wpAny _ _ (assign (.Name y py) X.env (.ref L)) _ _ _
  refine wpAny_assign_Name (store_ok2 (v := V.ref L) I' nd slot (.inl isLoc) rfl (fun s2 I2 there => ?_) (.inr isLoc))
  obtain ⟨a, sb, ha⟩ := there
  have ⟨u0, u1, u2, u3, u4, u5⟩ := ff
  have apart : C ≠ a := by
    rcases ha with z | z
    · exact fun e => u1 (e.trans z)
    · exact fun e => u4 y a z e.symm
  exact ⟨m, hn.sameBut sb apart, fun h3 sb3 => ⟨_, H', I2.turned (t' := s2.toks) (fun b o hb e => (sb3.2 b hb).trans e) u0 u1 u3 u4 u5, q⟩⟩
theorem sw_dict {kx vx : Expr} {gs : List Comprehension} {scope : Scope} {pos py : Pos} {y : Str} {l : Nat} {env : Env} (isF : env.scope.kind = .function) (isL : env.scope.names.lookup y = some .local) (line : (py.line == pos.line) = true)
    (not : (scope.names.any fun (n, k) => n == y && (k == .local || k == .cell)) = false) : swapsWith (.DictComp kx vx gs scope pos) (some (.Name y py)) l env = pure true := by
  have k1 : env.kindOf y = some .local := isL
  have k2 : env.blockKind = .function := by
    unfold Env.blockKind
    rw [isF]
    rfl
  unfold swapsWith
  simp only [k2, k1, not, Expr.pos, line]
  rfl
/-- the labels of the first i rows, as keys -/
def labT (rs : List Row) : Nat → List (Key × V)
  | 0 => []
  | i + 1 => match labOf rs i with
    | some s => putK (labT rs i) (Sum.inr s) (.bl true)
    | none => labT rs i
theorem labT_len (rs : List Row) : ∀ i, (labT rs i).length ≤ i
  | 0 => Nat.le_refl _
  | i + 1 => by
    unfold labT
    have h := labT_len rs i
    split
    · have := length_putK (labT rs i) (Sum.inr (by assumption) : Key) (.bl true)
      omega
    · omega
theorem labT_val (rs : List Row) (n : Str) : ∀ i, (∀ j, j < i → labOf rs j ≠ some n) → valV (labT rs i) (Sum.inr n) = none
  | 0, _ => rfl
  | i + 1, h => by
    have ih := labT_val rs n i fun j hj => h j (by omega)
    unfold labT
    cases e : labOf rs i with
    | none => exact ih
    | some s =>
      dsimp only
      rw [valV_put]
      have hn : ¬ (Sum.inr n : Key) = Sum.inr s := fun z => h i (by omega) (by rw [e, Sum.inr.inj z])
      rw [if_neg hn]
      exact ih
theorem labT_succ {rs : List Row} {i : Nat} {r : Row} (h : rs[i]? = some r) : labT rs (i + 1) = match labR r with
    | some s => putK (labT rs i) (Sum.inr s) (.bl true)
    | none => labT rs i := by
  show (match labOf rs i with | some s => putK (labT rs i) (Sum.inr s) (.bl true) | none => labT rs i) = _
  rw [labOf_at h]
structure DrOk (rs : List Row) : Prop where
  fine : ∀ r ∈ rs, RowFine r
  len : rs.length ≤ 900
  uniq : ∀ (i : Nat) (s : Str), labOf rs i = some s → ∀ j, j < i → labOf rs j ≠ some s
  zero : ∀ (k : Nat) (c n : Str) (m : Int), rs[k]? = some (.branch c n m) → m ≠ 0 → ∀ j, labOf rs j ≠ some n
theorem rowV_ref {K : PySem.W.Frag} {H : Hp} {v : V} {r : Row} (h : RowV K H v r) : decide (v = .non) = false := by
  obtain ⟨a, xs, rfl, _⟩ := rowV_tup h
  rfl
/-! ### the rows: which are right -/
def rO : Option RowC → Row
  | some rc => rc.r
  | none => .words 0
def rsO (os : List (Option RowC)) : List Row := os.map rO
def Good (os : List (Option RowC)) : Prop := ∃ rcs : List RowC, os = rcs.map some ∧ DrOk (rcs.map RowC.r)
theorem rsO_some (rcs : List RowC) : rsO (rcs.map some) = rcs.map RowC.r := by
  unfold rsO
  rw [List.map_map]
  rfl
theorem rsO_at {os : List (Option RowC)} {i : Nat} {o : Option RowC} (h : os[i]? = some o) : (rsO os)[i]? = some (rO o) := by
  unfold rsO
  rw [List.getElem?_map, h]
  rfl
/-- no fault stands ahead of i -/
structure Clean (os : List (Option RowC)) (i : Nat) : Prop where
  row : ∀ j, j < i → os[j]? ≠ some none
  uniq : ∀ (k : Nat) (s : Str), k < i → labOf (rsO os) k = some s → ∀ j, j < k → labOf (rsO os) j ≠ some s
  zero : ∀ (k : Nat) (c n : Str) (m : Int), k < i → (rsO os)[k]? = some (.branch c n m) → m ≠ 0 → ∀ j, labOf (rsO os) j ≠ some n
theorem Clean.zeroth {os : List (Option RowC)} : Clean os 0 := ⟨fun j hj => absurd hj (Nat.not_lt_zero _), fun k s hj => absurd hj (Nat.not_lt_zero _), fun k c n m hj => absurd hj (Nat.not_lt_zero _)⟩
theorem Clean.step {os : List (Option RowC)} {i : Nat} (c : Clean os i) (row : os[i]? ≠ some none) (uniq : ∀ s, labOf (rsO os) i = some s → ∀ j, j < i → labOf (rsO os) j ≠ some s)
    (zero : ∀ (c n : Str) (m : Int), (rsO os)[i]? = some (.branch c n m) → m ≠ 0 → ∀ j, labOf (rsO os) j ≠ some n) : Clean os (i + 1) := by
  refine ⟨fun j hj => ?_, fun k s hk => ?_, fun k c' n m hk => ?_⟩
  · rcases Nat.lt_or_eq_of_le (Nat.le_of_lt_succ hj) with h | h
    · exact c.row j h
    · rw [h]; exact row
  · rcases Nat.lt_or_eq_of_le (Nat.le_of_lt_succ hk) with h | h
    · exact c.uniq k s h
    · rw [h]; exact uniq s
  · rcases Nat.lt_or_eq_of_le (Nat.le_of_lt_succ hk) with h | h
    · exact c.zero k c' n m h
    · rw [h]; exact zero c' n m
theorem Good.clean {os : List (Option RowC)} (g : Good os) (i : Nat) : Clean os i := by
  obtain ⟨rcs, rfl, ok⟩ := g
  refine ⟨fun j _ h => ?_, fun k s _ h => ?_, fun k c n m _ h hm => ?_⟩
  · rw [List.getElem?_map] at h
    cases e : rcs[j]? with
    | none => rw [e] at h; cases h
    | some x => rw [e] at h; cases Option.some.inj h
  · rw [rsO_some] at h ⊢
    exact ok.uniq k s h
  · rw [rsO_some] at h ⊢
    exact ok.zero k c n m h hm
theorem all_some {α : Type} : ∀ {os : List (Option α)}, (∀ j, j < os.length → os[j]? ≠ some none) → ∃ rcs : List α, os = rcs.map some
  | [], _ => ⟨[], rfl⟩
  | none :: os, h => absurd rfl (h 0 (by simp))
  | some a :: os, h => by
    obtain ⟨rcs, e⟩ := all_some (os := os) fun j hj => h (j + 1) (by simp; omega)
    exact ⟨a :: rcs, by rw [e]; rfl⟩
theorem Clean.good {os : List (Option RowC)} (c : Clean os os.length) (fine : ∀ rc, some rc ∈ os → RowFine rc.r) (hl : os.length ≤ 900) : Good os := by
  obtain ⟨rcs, e⟩ := all_some c.row
  subst e
  rw [List.length_map] at hl c
  have e := rsO_some rcs
  refine ⟨rcs, rfl, ⟨fun r hr => ?_, by rw [List.length_map]; exact hl, fun i s h => ?_, fun k c' n m h hm => ?_⟩⟩
  · obtain ⟨rc, h1, rfl⟩ := List.mem_map.mp hr
    exact fine rc (List.mem_map.mpr ⟨rc, h1, rfl⟩)
  · rw [← e] at h ⊢
    refine c.uniq i s ?_ h
    unfold labOf at h
    split at h
    · rename_i z hz
      have := (List.getElem?_eq_some_iff.mp hz).1
      rw [e, List.length_map] at this
      exact this
    · cases h
  · rw [← e] at h ⊢
    refine c.zero k c' n m ?_ h hm
    have := (List.getElem?_eq_some_iff.mp h).1
    rw [e, List.length_map] at this
    exact this
theorem dp_rowV {K : PySem.W.Frag} {H : Hp} {v : V} {rc : RowC} (h : Dp K H v (rowD rc)) : RowV K H v rc.r := by
  cases rc with
  | words ks =>
    obtain ⟨a, y, rfl, h1, h2⟩ := dp_two h
    obtain ⟨b, xs, rfl, h3, h4⟩ := dp_tup h2
    exact ⟨a, b, rfl, h1, xs, .inr h3, by rw [dps_len h4, List.length_map]⟩
  | label s =>
    obtain ⟨a, y, rfl, h1, h2⟩ := dp_two h
    cases dp_str h2
    exact ⟨a, rfl, h1⟩
  | even n =>
    obtain ⟨a, y, rfl, h1, h2⟩ := dp_two h
    cases dp_int h2
    exact ⟨a, rfl, h1⟩
  | branch c n m =>
    obtain ⟨a, xs, rfl, h1, h2⟩ := dp_tup h
    cases h2 with
    | cons g1 h2 => cases h2 with
      | cons g2 h2 => cases h2 with
        | cons g3 h2 => cases h2 with
          | cons g4 h2 =>
            cases h2
            cases dp_str g1
            cases dp_str g2
            cases dp_str g3
            cases dp_int g4
            exact ⟨a, rfl, h1⟩
def OutV (K : PySem.W.Frag) (H : Hp) (v : V) : Option RowC → Prop
  | none => v = .non
  | some rc => Dp K H v (rowD rc)
theorem outV_same {K : PySem.W.Frag} {H H' : Hp} (e : Same H H') {v : V} {o : Option RowC} (h : OutV K H v o) : OutV K H' v o := by
  cases o with
  | none => exact h
  | some rc => exact dp_same e h
theorem outV_of {K : PySem.W.Frag} {H0 H H' : Hp} (e : Sub0 H0 H) {v : V} {o : Option RowC} (h : OutD K H H' v o) : OutV K (nw H0 H') v o := by
  cases o with
  | none => exact h
  | some rc => exact dp_same (nw_dom e) h
theorem outs_dps {K : PySem.W.Frag} {H : Hp} : ∀ {ys : List V} {rcs : List RowC}, Each2 (OutV K H) ys (rcs.map some) → DpAll K H ys (rcs.map rowD)
  | _, [], h => by cases h; exact .nil
  | _, rc :: rcs, h => by
    cases h with
    | cons h1 h2 => exact .cons h1 (outs_dps h2)
theorem labOf_lt {rs : List Row} {j : Nat} {s : Str} (h : labOf rs j = some s) : j < rs.length := by
  unfold labOf at h
  split at h
  · rename_i z hz
    exact (List.getElem?_eq_some_iff.mp hz).1
  · cases h
theorem labT_has {rs : List Row} {n : Str} {j : Nat} : ∀ {i : Nat}, j < i → labOf rs j = some n → (valV (labT rs i) (Sum.inr n)).isSome = true
  | 0, h, _ => absurd h (Nat.not_lt_zero _)
  | i + 1, h, e => by
    unfold labT
    cases e2 : labOf rs i with
    | none =>
      have hj : j < i := by
        rcases Nat.lt_or_eq_of_le (Nat.le_of_lt_succ h) with z | z
        · exact z
        · rw [z, e2] at e; cases e
      exact labT_has hj e
    | some s =>
      dsimp only
      rw [valV_put]
      by_cases hs : (Sum.inr n : Key) = Sum.inr s
      · rw [if_pos hs]; rfl
      · rw [if_neg hs]
        have hj : j < i := by
          rcases Nat.lt_or_eq_of_le (Nat.le_of_lt_succ h) with z | z
          · exact z
          · rw [z, e2] at e
            cases e
            exact absurd rfl hs
        exact labT_has hj e


def spReadRows2 (K : PySem.W.Frag) (CB : Addr) : Sp := fun vs H Q E => ∃ (L : Addr) (xs : List V) (ds : List PyData) (os : List (Option RowC)), vs = [.ref L] ∧ SqE K H L xs ∧ DpAll K H xs ds ∧ Each2 InD ds os ∧ os.length ≤ 900 ∧
  (∀ rcs : List RowC, os = rcs.map some → DrOk (rcs.map RowC.r) → ∀ H' p ys, Same H H' → H p = none → H' p = some (.lst ys) → DpAll K (nw H H') ys (rcs.map rowD) → Q (.ref p) H') ∧ (¬ Good os → BadE CB H E)
abbrev sReadRows : Stmt := topS 27
theorem scReadRows : FnScope ["rows", "found", "row", "labels", "stood", "index", "thing"] ["rows"] (defScope sReadRows) := ⟨rfl, rfl, rfl, by decide +kernel, rfl, by decide +kernel, by decide +kernel⟩
abbrev rNN : R2 := fun x y H Q => y = .non ∧ Q (.bl (!decide (x = .non))) H
abbrev NR : List Str := ["rows", "found", "row", "labels", "stood", "index", "thing"]
theorem fine_of {ds : List PyData} {os : List (Option RowC)} (h : Each2 InD ds os) : ∀ rc, some rc ∈ os → RowFine rc.r := by
  induction h with
  | nil => intro rc hm; cases hm
  | cons h1 h2 ih =>
    intro rc hm
    rcases List.mem_cons.mp hm with e | hm
    · subst e
      cases h1 with
      | raw f => exact f
      | red f => exact f
    · exact ih rc hm
section
variable {P : Program} {w : World} {K : PySem.W.Frag} {mg : Str → Option Value} {base : Heap}
theorem row0_is {H : Hp} {a : Addr} {xs : List V} {k z : Str} {b : Bool} {F : Bool → Hp → Prop} {σ : L2.St} {i : Nat} (hs : σ[i]? = some (some (.ref a))) (h : SqT K H a xs) (h0 : xs[0]? = some (.str k)) (hb : decide (k = z) = b) (q : F b H) : row0Is K i z σ H F := by
  refine ⟨_, hs, a, xs, 0, _, rfl, rfl, h, at_of (i := 0) h0, rfl, b, ?_, q⟩
  rw [strEq, hb]
theorem lab_kind (r : Row) : decide (kindOf r = ("label" : Str)) = (labR r).isSome := by
  cases r with
  | label s => exact (by decide +kernel : decide (("label" : Str) = "label") = true)
  | words n => exact (by decide +kernel : decide (("words" : Str) = "label") = false)
  | even n => exact (by decide +kernel : decide (("even" : Str) = "label") = false)
  | branch c n m => exact (by decide +kernel : decide (("branch" : Str) = "label") = false)
theorem br_kind (r : Row) : decide (kindOf r = ("branch" : Str)) = (match r with | .branch _ _ _ => true | _ => false) := by
  cases r with
  | label s => exact (by decide +kernel : decide (("label" : Str) = "branch") = false)
  | words n => exact (by decide +kernel : decide (("words" : Str) = "branch") = false)
  | even n => exact (by decide +kernel : decide (("even" : Str) = "branch") = false)
  | branch c n m => exact (by decide +kernel : decide (("branch" : Str) = "branch") = true)
theorem ok_readRows2 {f CB : Addr} {fd : FuncData} (F : Fun K "read_rows" "read_rows" sReadRows f fd) (T : Bi mg) (S : Err P w K mg base "BadDraft" CB "index") (G1 : Has P w K mg base CX0 5 "is_row" ["thing"] (spIsRowR K)) (G2 : Has P w K mg base CX0 5 "read_row" ["thing"] (spReadRow2 K)) : FnOk P w K mg base (L2N.CX P w) 6 f fd ["rows"] (spReadRows2 K CB) := by
  refine F.okN scReadRows (fun vs H Q E h => ?_) (fun cdv A outer s H vs Q E hr h => ?_)
  · obtain ⟨L, xs, ds, os, rfl, _⟩ := h
    rfl
  · obtain ⟨L, xs, ds, os, rfl, hL, hxs, hin, hlen, q, bad⟩ := h
    have hu := hu_of hr
    refine ⟨_, (pss_cons (ps_if (pt_not (pt_val (pe_callH G1 hr (by rfl) pass0 (pa_cons (pv 0) pa_nil)))) (pss_one ps_never) pss_nil)
      (pss_cons (ps_setLc (i := 1) (own := [("thing", 6)]) (g := gName 6) (tt := tYes) rfl scReadRows.nd rfl rfl (sw_true rfl rfl rfl (by decide +kernel)) (pi_seq (pv 0)) (blkOk_by (N := NR) (sc := defScope sReadRows) (by decide +kernel)) (fun _ _ _ _ _ => pg_name (i := 6) scReadRows.nd rfl (.inl rfl)) (fun _ _ _ _ _ => pts_nil) (fun _ _ _ _ _ => (pe_callH G2 hr (by rfl) pass0 (pa_cons (pv 6) pa_nil))))
      (pss_cons (ps_setDc (i := 3) (own := [("row", 2)]) (g := gName 2) (tt := tAnd (tTest (tOp rNN (tVar 2) (tC .non))) (row0Is K 2 "label")) (tk := ixT K 2 1) (tv := tC (.bl true)) rfl scReadRows.nd rfl rfl (sw_dict rfl rfl rfl (by decide +kernel)) (pi_list (pv 1)) (blkOk_by (N := NR) (sc := defScope sReadRows) (by decide +kernel)) (fun _ _ _ _ _ => pg_name (i := 2) scReadRows.nd rfl (.inl rfl))
          (fun _ _ _ _ _ => pts_one (PW.pt (pw_and (pt_cmpR op_notN (pv 2) pe_non (nomark _)) (pw_and1 (pt_cmpR op_eq (pe_ix ix_tup (pv 2) pe_int (fun _ _ => rfl)) pe_str (nomark _)))))) (fun _ _ _ _ _ => pe_ix ix_tup (pv 2) pe_int (fun _ _ => rfl)) (fun _ _ _ _ _ => pe_bl))
      (pss_cons (ps_set (i := 4) scReadRows.nd rfl (.inl rfl) (pe_dnewK))
      (pss_cons (ps_for (passes_of rfl) rfl (pi_enum (by rfl) T.enumerate (pa_cons (pv 1) pa_nil)) (pg_tup rfl (pgs_cons (pg_name (i := 5) scReadRows.nd rfl (.inl rfl)) (pgs_cons (pg_name (i := 2) scReadRows.nd rfl (.inl rfl)) pgs_nil)))
          (pss_cons (ps_if (PW.pt (pw_or (pt_cmpR op_isN (pv 2) pe_non (nomark _)) (pw_or1 (PW.pt (pw_and (pt_cmpR op_eq (pe_ix ix_tup (pv 2) pe_int (fun _ _ => rfl)) pe_str (nomark _)) (pw_and1 (pt_cmp (pc_din hu (pe_ix ix_tup (pv 2) pe_int (fun _ _ => rfl)) (pv 4))))))))) (pss_one (ps_errN rfl (L2N.takes_of rfl rfl rfl rfl) S hr (by decide) (pv 5))) pss_nil)
          (pss_cons (ps_if (pt_cmpR op_eq (pe_ix ix_tup (pv 2) pe_int (fun _ _ => rfl)) pe_str (nomark _)) (pss_one (ps_dput hu (pv 4) (pe_ix ix_tup (pv 2) pe_int (fun _ _ => rfl)) pe_bl rfl)) pss_nil)
          (pss_one (ps_if (PW.pt (pw_and (pt_cmpR op_eq (pe_ix ix_tup (pv 2) pe_int (fun _ _ => rfl)) pe_str (nomark _)) (pw_and (pt_cmpR op_ne (pe_ix ix_tup (pv 2) pe_int (fun _ _ => rfl)) pe_int (nomark _)) (pw_and1 (pt_cmp (pc_din hu (pe_ix ix_tup (pv 2) pe_int (fun _ _ => rfl)) (pv 3))))))) (pss_one (ps_errN rfl (L2N.takes_of rfl rfl rfl rfl) S hr (by decide) (pv 5))) pss_nil)))))
      (pss_one (ps_ret (pv 1)))))))), ?_⟩
    refine ⟨_, rfl, L, xs, rfl, hL, fun H1 s1 => ⟨_, rfl, iteF ?_⟩⟩
    have hL1 := sqE_same s1 hL
    have hxs1 := dps_same s1 hxs
    have lx : xs.length = os.length := by rw [dps_len hxs, hin.len]
    refine ⟨_, rfl, L, xs, rfl, hL1, fun J G wk st D hD => ?_⟩
    have hDn : H D = none := none_of s1 hD
    refine lc_it wk (fun i H4 => (∀ c o, c ≠ D → H1 c = some o → H4 c = some o) ∧ ∃ ys, H4 D = some (.lst ys) ∧ Each2 (OutV K (nw (upd H1 D (.lst [])) H4)) ys (os.take i)) ⟨fun c o hc e => by rw [upd_ne hc]; exact e, [], upd_same, .nil⟩
      (fun i H4 _ ⟨kp, _⟩ => st H4 (sqL_same (fun c o e => kp c o (ne_of_none e hD) e)) (sqT_same (fun c o e => kp c o (ne_of_none e hD) e))) ?_ ?_
    · rintro i x H4 H4' hi ⟨kp, ys, hD4, hys⟩ ⟨rfl, hx⟩
      obtain ⟨d, hd, hv⟩ := dps_get hxs1 hx
      obtain ⟨o, ho, hio⟩ := hin.get hd
      have s14 : Same H1 H4' := fun c o e => kp c o (ne_of_none e hD) e
      have hi2 : i < os.length := (List.getElem?_eq_some_iff.mp ho).1
      refine ⟨rfl, yes_go (iteT ⟨_, rfl, x, d, o, rfl, dp_same s14 hv, hio, fun H5 v5 s5 hv5 => ?_⟩)⟩
      have hD5 := s5 _ _ hD4
      have yl : ys.length = i := by
        rw [hys.len, List.length_take]
        omega
      refine ⟨ys, hD5, small1000 (by omega), fun c o hc ec => ?_, ys ++ [v5], upd_same, ?_⟩
      · rw [upd_ne hc]
        exact s5 _ _ (kp c o hc ec)
      · rw [nw_upd (by rw [upd_same]; simp), List.take_add_one, ho]
        refine (hys.imp fun v a h => outV_same (nw_up s5) h).app (.cons (outV_of (.but (D := D) (fun c o hc e => ?_) (by rw [hD4]; simp)) hv5) .nil)
        rw [upd_ne hc] at e
        exact kp c o hc e
    · rintro H4 ⟨kp, ys, hD4, hysN⟩
      rw [lx, List.take_length] at hysN
      have yl := hysN.len
      have hys : Each2 (OutV K H4) ys os := hysN.imp fun v a h => outV_same nw_sub h
      have s4 : Same H H4 := fun c o e => kp c o (ne_of_none (s1 _ _ e) hD) (s1 _ _ e)
      have len9 : (rsO os).length = os.length := List.length_map ..
      -- the labels
      refine ⟨_, rfl, D, rfl, ⟨_, SqL.of hD4⟩, fun E1 hE1 => ?_⟩
      have hED : E1 ≠ D := fun z => by rw [z, hD4] at hE1; cases hE1
      refine dc_it walk_list (fun i H5 => (∀ c o, c ≠ E1 → H4 c = some o → H5 c = some o) ∧ H5 E1 = some (.dK (labT (rsO os) i))) ⟨fun c o hc e => by rw [upd_ne hc]; exact e, upd_same⟩ (fun i H5 _ ⟨kp5, _⟩ => SqL.of (kp5 _ _ hED.symm hD4)) ?_ ?_
      · rintro i x H5 H5' hi ⟨kp5, hE5⟩ ⟨rfl, hx⟩
        obtain ⟨o, ho, hov⟩ := hys.get hx
        have s45 : Same H4 H5' := fun c o e => kp5 c o (ne_of_none e hE1) e
        have es := labT_succ (rsO_at ho)
        refine ⟨rfl, _, rfl, rfl, _, rfl, ?_⟩
        cases o with
        | none =>
          obtain rfl : x = .non := hov
          refine iteF (iteF ⟨kp5, ?_⟩)
          rw [es]
          exact hE5
        | some rc =>
          have hrv5 : RowV K H5' x rc.r := rowV_same s45 (dp_rowV hov)
          have hri2 : i < os.length := (List.getElem?_eq_some_iff.mp ho).1
          rw [rowV_ref hrv5]
          obtain ⟨a, zs, rfl, ht, h0⟩ := rowV_tup hrv5
          refine iteT (row0_is rfl ht h0 (lab_kind rc.r) ?_)
          cases rc with
          | label z =>
            obtain ⟨a', ea, h2⟩ := hrv5
            refine iteT ⟨_, rfl, a', _, _, _, ea, rfl, h2, at_of (i := 1) rfl, labT (rsO os) i, Sum.inr z, rfl, hE5, ?_, fun c o hc e => ?_, ?_⟩
            · have := labT_len (rsO os) i
              exact small1000 (by omega)
            · rw [upd_ne hc]
              exact kp5 c o hc e
            · rw [upd_same, es]
              rfl
          | words ks => exact iteF ⟨kp5, by rw [es]; exact hE5⟩
          | even n => exact iteF ⟨kp5, by rw [es]; exact hE5⟩
          | branch c n m => exact iteF ⟨kp5, by rw [es]; exact hE5⟩
      · rintro H5 ⟨kp5, hE5⟩
        rw [yl] at hE5
        have s45 : Same H4 H5 := fun c o e => kp5 c o (ne_of_none e hE1) e
        -- the loop
        refine fun S9 hS => ?_
        have s56 : Same H5 (upd H5 S9 (.dK [])) := same_new hS
        have hDS : D ≠ S9 := ne_of_none (s45 _ _ hD4) hS
        have hES : E1 ≠ S9 := ne_of_none hE5 hS
        refine ⟨_, rfl, D, ys, rfl, SqL.of (s56 _ _ (s45 _ _ hD4)), ?_⟩
        refine for_it walk_enum (fun i σ H6 => ∃ (a b : Option V), σ = [some (.ref L), some (.ref D), a, some (.ref E1), some (.ref S9), b, none] ∧ Same H5 H6 ∧ H6 S9 = some (.dK (labT (rsO os) i)) ∧ Clean os i) ⟨none, none, rfl, s56, upd_same, .zeroth⟩ (fun i σ H6 _ ⟨_, _, _, s6, _⟩ => SqL.of (s6 _ _ (s45 _ _ hD4))) ?_ ?_
        · rintro i x σ H6 H6' hi ⟨a, b, rfl, s6, hS6, cl⟩ ⟨TT, x', y, rfl, hT, rfl, hx', hy⟩
          cases hx'
          obtain ⟨o, ho, hov⟩ := hys.get hy
          have s67 : Same H6 (upd H6 TT (.tup [.int (i : Nat), y])) := same_new hT
          generalize hH7 : upd H6 TT (.tup [.int (i : Nat), y]) = H7 at s67
          have hTv : H7 TT = some (.tup [.int (i : Nat), y]) := by rw [← hH7]; exact upd_same
          have hS7 := s67 _ _ hS6
          have hE7 := s67 _ _ (s6 _ _ hE5)
          have es := labT_succ (rsO_at ho)
          have lab := labOf_at (rsO_at ho)
          have s57 := s6.trans s67
          have s07 := ((s4.trans s45).trans s57)
          have hi2 : i < os.length := (List.getElem?_eq_some_iff.mp ho).1
          refine ⟨TT, _, rfl, SqT.of hTv, rfl, _, _, rfl, _, _, rfl, rfl, ?_⟩
          refine ⟨_, rfl, rfl, _, rfl, ?_⟩
          cases o with
          | none =>
            obtain rfl : y = .non := hov
            show if true = true then _ else _
            refine iteT ?_
            refine iteT ?_
            exact ⟨_, rfl, err_go fun dd hd => bad (fun g => (g.clean (i + 1)).row i (Nat.lt_succ_self i) ho) i _ dd s07 hd⟩
          | some rc =>
            have hrv7 : RowV K H7 y rc.r := rowV_same (s45.trans s57) (dp_rowV hov)
            rw [rowV_ref hrv7]
            obtain ⟨ta, zs, rfl, ht, h0⟩ := rowV_tup hrv7
            have fin : ∀ {H8 : Hp}, Same H5 H8 → H8 S9 = some (.dK (labT (rsO os) (i + 1))) → Clean os (i + 1) → ∃ (a b : Option V), ([some (.ref L), some (.ref D), some (.ref ta), some (.ref E1), some (.ref S9), some (.int (i : Nat)), none] : L2.St) = [some (.ref L), some (.ref D), a, some (.ref E1), some (.ref S9), b, none] ∧ Same H5 H8 ∧ H8 S9 = some (.dK (labT (rsO os) (i + 1))) ∧ Clean os (i + 1) := fun h1 h2 h3 => ⟨_, _, rfl, h1, h2, h3⟩
            have rowI : os[i]? ≠ some none := fun e => by rw [ho] at e; cases e
            refine iteF (row0_is rfl ht h0 (lab_kind rc.r) ?_)
            cases rc with
            | label z =>
              obtain ⟨a', ea, h2⟩ := hrv7
              cases ea
              refine iteT ⟨_, rfl, ta, _, _, _, rfl, rfl, h2, at_of (i := 1) rfl, _, rfl, S9, _, rfl, DGet.k (k := Sum.inr z) hS7, _, rfl, ?_⟩
              have labz : labOf (rsO os) i = some z := lab
              by_cases dup : ∃ j, j < i ∧ labOf (rsO os) j = some z
              · have yes : (valV (labT (rsO os) i) (Sum.inr z)).isSome = true := by
                  obtain ⟨j, hj, ej⟩ := dup
                  exact labT_has hj ej
                rw [yes]
                refine iteT ?_
                refine ⟨_, rfl, err_go fun dd hd => bad (fun g => ?_) i _ dd s07 hd⟩
                obtain ⟨j, hj, ej⟩ := dup
                exact (g.clean (i + 1)).uniq i z (Nat.lt_succ_self i) labz j hj ej
              · have uni : ∀ j, j < i → labOf (rsO os) j ≠ some z := fun j hj ej => dup ⟨j, hj, ej⟩
                have none1 : valV (labT (rsO os) i) (Sum.inr z) = none := labT_val (rsO os) z i uni
                rw [none1]
                refine iteF ?_
                have cl1 : Clean os (i + 1) := cl.step rowI (fun s e => by rw [labz] at e; cases e; exact uni) (fun c n m e => by rw [rsO_at ho] at e; cases e)
                refine ⟨_, rfl, ta, _, _, _, rfl, rfl, h2, at_of (i := 0) rfl, rfl, _, rfl, kEq (by decide +kernel) ?_⟩
                refine ⟨_, rfl, _, rfl, ta, _, _, _, rfl, rfl, h2, at_of (i := 1) rfl, S9, _, rfl, DPut.k (k := Sum.inr z) hS7 ?_, ?_⟩
                · have := labT_len (rsO os) i
                  exact small1000 (by omega)
                · have h3 : SqT K (upd H7 S9 (.dK (putK (labT (rsO os) i) (Sum.inr z) (.bl true)))) ta [.str "label", .str z] := sqT_put h2 hS7 trivial
                  refine ⟨_, rfl, ta, _, _, _, rfl, rfl, h3, at_of (i := 0) rfl, rfl, _, rfl, kNe (by decide +kernel) ?_⟩
                  refine iteF (fin ?_ ?_ cl1)
                  · intro c o hc
                    have cS : c ≠ S9 := ne_of_none hc hS
                    rw [upd_ne cS]
                    exact s57 _ _ hc
                  · rw [upd_same, es]
                    rfl
            | branch c n m =>
              have labn : labOf (rsO os) i = none := lab
              have hS8 : H7 S9 = some (.dK (labT (rsO os) (i + 1))) := by rw [es]; exact hS7
              obtain ⟨a', ea, h2⟩ := hrv7
              cases ea
              refine iteF ?_
              refine iteF ?_
              refine ⟨_, rfl, ta, _, _, _, rfl, rfl, h2, at_of (i := 0) rfl, rfl, _, rfl, kNe (by decide +kernel) ?_⟩
              refine ⟨_, rfl, ta, _, _, _, rfl, rfl, h2, at_of (i := 0) rfl, rfl, _, rfl, kEq (by decide +kernel) ?_⟩
              refine ⟨_, rfl, ta, _, _, _, rfl, rfl, h2, at_of (i := 3) rfl, rfl, _, rfl, ?_⟩
              rw [intEq]
              have cl1 : (m ≠ 0 → ∀ j, labOf (rsO os) j ≠ some n) → Clean os (i + 1) := fun ok => cl.step rowI (fun s e => by rw [labn] at e; cases e) (fun c' n' m' e => by rw [rsO_at ho] at e; cases e; exact ok)
              by_cases hm : m = 0
              · rw [decide_eq_true hm]
                exact iteF (iteF (fin s57 hS8 (cl1 fun z => absurd hm z)))
              · rw [decide_eq_false hm]
                by_cases has : ∃ j, labOf (rsO os) j = some n
                · refine iteT ⟨_, rfl, ta, _, _, _, rfl, rfl, h2, at_of (i := 2) rfl, _, rfl, E1, _, rfl, DGet.k (k := Sum.inr n) hE7, _, rfl, ?_⟩
                  have yes : (valV (labT (rsO os) os.length) (Sum.inr n)).isSome = true := by
                    obtain ⟨j, ej⟩ := has
                    refine labT_has ?_ ej
                    have := labOf_lt ej
                    rw [len9] at this
                    exact this
                  rw [yes]
                  refine iteT ?_
                  refine ⟨_, rfl, err_go fun dd hd => bad (fun g => ?_) i _ dd s07 hd⟩
                  obtain ⟨j, ej⟩ := has
                  exact (g.clean (i + 1)).zero i c n m (Nat.lt_succ_self i) (rsO_at ho) hm j ej
                · have no : ∀ j, labOf (rsO os) j ≠ some n := fun j ej => has ⟨j, ej⟩
                  have none2 : valV (labT (rsO os) os.length) (Sum.inr n) = none := labT_val (rsO os) n _ fun j _ => no j
                  refine iteT ⟨_, rfl, ta, _, _, _, rfl, rfl, h2, at_of (i := 2) rfl, _, rfl, E1, _, rfl, DGet.k (k := Sum.inr n) hE7, _, rfl, ?_⟩
                  rw [none2]
                  exact iteF (fin s57 hS8 (cl1 fun _ => no))
            | words ks =>
              have labn : labOf (rsO os) i = none := lab
              have hS8 : H7 S9 = some (.dK (labT (rsO os) (i + 1))) := by rw [es]; exact hS7
              have cl1 : Clean os (i + 1) := cl.step rowI (fun s e => by rw [labn] at e; cases e) (fun c' n' m' e => by rw [rsO_at ho] at e; cases e)
              refine iteF (iteF ?_)
              refine ⟨_, rfl, ta, zs, _, _, rfl, rfl, ht, at_of (i := 0) h0, rfl, _, rfl, kNe (k := "words") (by decide +kernel) ?_⟩
              exact ⟨_, rfl, ta, zs, _, _, rfl, rfl, ht, at_of (i := 0) h0, rfl, _, rfl, kNe (k := "words") (by decide +kernel) (iteF (fin s57 hS8 cl1))⟩
            | even n =>
              have labn : labOf (rsO os) i = none := lab
              have hS8 : H7 S9 = some (.dK (labT (rsO os) (i + 1))) := by rw [es]; exact hS7
              have cl1 : Clean os (i + 1) := cl.step rowI (fun s e => by rw [labn] at e; cases e) (fun c' n' m' e => by rw [rsO_at ho] at e; cases e)
              refine iteF (iteF ?_)
              refine ⟨_, rfl, ta, zs, _, _, rfl, rfl, ht, at_of (i := 0) h0, rfl, _, rfl, kNe (k := "even") (by decide +kernel) ?_⟩
              exact ⟨_, rfl, ta, zs, _, _, rfl, rfl, ht, at_of (i := 0) h0, rfl, _, rfl, kNe (k := "even") (by decide +kernel) (iteF (fin s57 hS8 cl1))⟩
        · rintro σ H6 ⟨a, b, rfl, s6, hS6, cl⟩
          rw [yl] at cl
          obtain ⟨rcs, e, ok⟩ := cl.good (fine_of hin) hlen
          subst e
          have s46 := s45.trans s6
          refine ⟨_, rfl, q rcs rfl ok H6 D ys (s4.trans s46) hDn (s46 _ _ hD4) ?_⟩
          exact dps_same (nw_up s46) (dps_same (nw_dom (Sub0.trans (.of s1) (.of (same_new hD)))) (outs_dps hysN))
end

/-! ### drafts -/
def drF (p q d o : Addr) : List (Str × V) := [("parts", .ref p), ("forks", .ref q), ("aims", .ref d), ("outs", .ref o)]
abbrev rsC (rcs : List RowC) : List Row := rcs.map RowC.r
theorem dat_rows {K : PySem.W.Frag} {H : Hp} : ∀ {xs : List V} {rcs : List RowC}, DpAll K H xs (rcs.map rowD) → RowsV K H xs (rsC rcs)
  | _, [], h => by cases h; exact .nil
  | _, rc :: rcs, h => by
    cases h with
    | cons h1 h2 => exact .cons (dp_rowV h1) (dat_rows h2)
structure DrAt (K : PySem.W.Frag) (H : Hp) (C x : Addr) (rcs : List RowC) (dx p q d o : Addr) (xs : List V) : Prop where
  ins : H x = some (.ins C dx (drF p q d o))
  parts : SqT K H p xs
  dat : DpAll K H xs (rcs.map rowD)
  forks : SqT K H q (nats (brs (rsC rcs)))
  aims : H d = some (.dK (aimD (rsC rcs)))
  outs : SqT K H o (nats (outs (rsC rcs)))
theorem DrAt.rows {K : PySem.W.Frag} {H : Hp} {C x : Addr} {rcs : List RowC} {dx p q d o : Addr} {xs : List V} (h : DrAt K H C x rcs dx p q d o xs) : RowsV K H xs (rsC rcs) := dat_rows h.dat
theorem DrAt.same {K : PySem.W.Frag} {H H' : Hp} {C x : Addr} {rcs : List RowC} {dx p q d o : Addr} {xs : List V} (e : Same H H') (h : DrAt K H C x rcs dx p q d o xs) : DrAt K H' C x rcs dx p q d o xs :=
  ⟨e _ _ h.ins, sqT_same e h.parts, dps_same e h.dat, sqT_same e h.forks, e _ _ h.aims, sqT_same e h.outs⟩
/-- a draft of these rows at x -/
def DraftV (K : PySem.W.Frag) (H : Hp) (C x : Addr) (rcs : List RowC) : Prop := DrOk (rsC rcs) ∧ ∃ dx p q d o xs, DrAt K H C x rcs dx p q d o xs
theorem draftV_same {K : PySem.W.Frag} {H H' : Hp} {C x : Addr} {rcs : List RowC} (e : Same H H') (h : DraftV K H C x rcs) : DraftV K H' C x rcs := by
  obtain ⟨ok, dx, p, q, d, o, xs, h⟩ := h
  exact ⟨ok, dx, p, q, d, o, xs, h.same e⟩
/-- what is known of the class -/
structure DrC (K : PySem.W.Frag) (C : Addr) : Prop where
  cl : Cls K C
  n1 : NoAttr K C "parts"
  n2 : NoAttr K C "forks"
  n3 : NoAttr K C "aims"
  n4 : NoAttr K C "outs"
theorem toOf_at {rs : List Row} {i : Nat} {r : Row} (h : rs[i]? = some r) : toOf rs i = match r with
    | .branch _ n _ => some n
    | _ => none := by
  have e : toOf rs i = (match some r with | some (.branch _ n _) => some n | _ => none) := by
    rw [← h]
    rfl
  rw [e]
  cases r <;> rfl
theorem isBr_at {rs : List Row} {i : Nat} {r : Row} (h : rs[i]? = some r) : isBr rs i = match r with
    | .branch _ _ _ => true
    | _ => false := by
  have e : isBr rs i = (match some r with | some (.branch _ _ _) => true | _ => false) := by
    rw [← h]
    rfl
  rw [e]
  cases r <;> rfl
theorem brsTo_succ (rs : List Row) (i : Nat) : brsTo rs (i + 1) = brsTo rs i ++ (if isBr rs i = true then [i] else []) := by
  unfold brsTo
  rw [List.range_succ, List.filter_append]
  congr 1
  cases e : isBr rs i <;> simp [List.filter, e]
theorem brsTo_len (rs : List Row) (i : Nat) : (brsTo rs i).length ≤ i := by
  unfold brsTo
  refine Nat.le_trans (List.length_filter_le _ _) ?_
  rw [List.length_range]
  exact Nat.le_refl _
theorem brs_nodup (rs : List Row) : (brs rs).Nodup := List.Nodup.sublist (List.filter_sublist ..) List.nodup_range
theorem brs_mem {rs : List Row} {k : Nat} (h : k ∈ brs rs) : ∃ c n m, rs[k]? = some (.branch c n m) := by
  unfold brs brsTo at h
  have h2 := (List.mem_filter.mp h).2
  unfold isBr at h2
  split at h2
  · rename_i c n m e
    exact ⟨c, n, m, e⟩
  · cases h2
theorem take_not {α : Type} {l : List α} {i : Nat} {a : α} (nd : l.Nodup) (h : l[i]? = some a) : a ∉ l.take i := by
  intro hm
  obtain ⟨j, hj, ej⟩ := List.mem_iff_getElem.mp hm
  have hj2 : j < i := by
    rw [List.length_take] at hj
    omega
  have hi : i < l.length := (List.getElem?_eq_some_iff.mp h).1
  have e1 : l[i] = a := (List.getElem?_eq_some_iff.mp h).2
  have e2 : l[j] = a := by rw [← ej, List.getElem_take]
  exact List.pairwise_iff_getElem.mp nd j i (by omega) hi hj2 (e2.trans e1.symm)
theorem mem_inn {rs : List Row} {k : Nat} : k ∈ inn rs ↔ k < rs.length ∧ (aim rs k).isSome = true := by
  unfold inn innTo
  rw [List.mem_filter, List.mem_range]
theorem ne_of_none' {H : Hp} {x p : Addr} {o : HO} (h : H x = some o) (hp : H p = none) : p ≠ x := fun z => by
  rw [z, h] at hp
  cases hp
def spInit (K : PySem.W.Frag) (C CB : Addr) : Sp := fun vs H Q E => ∃ (x L dx : Addr) (xs : List V) (ds : List PyData) (os : List (Option RowC)), vs = [.ref x, .ref L] ∧ H x = some (.ins C dx []) ∧ SqE K H L xs ∧ DpAll K H xs ds ∧ Each2 InD ds os ∧ os.length ≤ 900 ∧
  (∀ rcs : List RowC, os = rcs.map some → DrOk (rsC rcs) → ∀ H', (∀ b o, b ≠ x → H b = some o → H' b = some o) → DraftV K H' C x rcs → Q .non H') ∧ (¬ Good os → BadE CB H E)
abbrev sInit : Stmt := inClass (topS 37) 0
theorem scInit : FnScope ["self", "rows", "labels", "index", "row"] ["self", "rows"] (defScope sInit) := ⟨rfl, rfl, rfl, by decide +kernel, rfl, by decide +kernel, by decide +kernel⟩
abbrev tPart2 (K : PySem.W.Frag) : TE := tOp (rIxT K) (tOp (rIxT K) (tFld K (tVar 0) "parts") (tVar 3)) (tC (.int 2))
section
variable {P : Program} {w : World} {K : PySem.W.Frag} {mg : Str → Option Value} {base : Heap}
theorem ok_init {f C CB : Addr} {fd : FuncData} (F : Fun K "__init__" "Draft.__init__" sInit f fd) (T : Bi mg) (B : DrC K C) (G1 : Has P w K mg base (L2N.CX P w) 6 "read_rows" ["rows"] (spReadRows2 K CB)) (G2 : Has P w K mg base CX0 6 "labels_in" ["rows"] (spLabelsIn K)) :
    FnOk P w K mg base (L2N.CX P w) 7 f fd ["self", "rows"] (spInit K C CB) := by
  refine F.okN scInit (fun vs H Q E h => ?_) (fun cdv A outer s H vs Q E hr h => ?_)
  · obtain ⟨x, L, dx, xs, ds, os, rfl, _⟩ := h
    rfl
  · obtain ⟨x, L, dx, xs, ds, os, rfl, hx, hL, hxs, hin, hlen, good, bad⟩ := h
    have hu := hu_of hr
    refine ⟨_, (pss_cons (ps_fld (pv 0) (pe_callTy call_tuple_of (by rfl) T.tuple (by decide +kernel) (pa_cons (pe_callH G1 hr (by rfl) (L2N.passes_call (W := fun cls d _ H => E cls d H) (L2N.takes_of rfl rfl rfl rfl) (fun _ _ _ _ h => h)) (pa_cons (pv 1) pa_nil)) pa_nil)) rfl)
      (pss_cons (ps_set (i := 2) scInit.nd rfl (.inr rfl) (pe_callH G2 hr (by rfl) pass0 (pa_cons (pe_fld (pv 0) rfl) pa_nil)))
      (pss_cons (ps_fld (pv 0) (pe_callTy call_tuple_of (by rfl) T.tuple (by decide +kernel) (pa_cons (pe_lc (own := [("index", 3), ("row", 4)]) (g := g2 K 3 4) (tt := row0Is K 4 "branch") rfl scInit.nd (pi_enumT (by rfl) T.enumerate (pa_cons (pe_fld (pv 0) rfl) pa_nil)) (blkOk_by (N := ["self", "rows", "labels", "index", "row"]) (sc := defScope sInit) (by decide +kernel))
          (fun _ _ _ _ _ => (pg_tup rfl (pgs_cons (pg_name (i := 3) scInit.nd rfl (.inl rfl) (.inr rfl)) (pgs_cons (pg_name (i := 4) scInit.nd rfl (.inl rfl) (.inr rfl)) pgs_nil)))) (fun _ _ _ _ _ => pts_one (pt_cmpR op_eq (pe_ix ix_tup (pv 4) pe_int (fun _ _ => rfl)) pe_str (nomark _))) (fun _ _ _ _ _ => pv 3)) pa_nil)) rfl)
      (pss_cons (ps_fld (pv 0) (pe_dc (own := [("index", 3)]) (g := gName 3) (tt := tB (tDIn (tPart2 K) (tVar 2))) (tk := tVar 3) (tv := tDGet (tVar 2) (tPart2 K)) rfl scInit.nd (pi_tup (pe_fld (pv 0) rfl)) (blkOk_by (N := ["self", "rows", "labels", "index", "row"]) (sc := defScope sInit) (by decide +kernel)) (fun _ _ _ _ _ => pg_name (i := 3) scInit.nd rfl (.inl rfl))
          (fun _ _ _ _ _ => pts_one (pt_cmp (pc_din hu (pe_ix ix_tup (pe_ix ix_tup (pe_fld (pv 0) rfl) (pv 3) (fun _ _ => rfl)) pe_int (fun _ _ => rfl)) (pv 2)))) (fun _ _ _ _ _ => pv 3) (fun _ _ _ _ _ => pe_dget hu (pv 2) (pe_ix ix_tup (pe_ix ix_tup (pe_fld (pv 0) rfl) (pv 3) (fun _ _ => rfl)) pe_int (fun _ _ => rfl)) (fun _ _ => rfl))) rfl)
      (pss_one (ps_fld (pv 0) (pe_callTy call_tuple_of (by rfl) T.tuple (by decide +kernel) (pa_cons (pe_lc (own := [("index", 3)]) (g := gName 3) (tt := tB (tDNotIn (tVar 3) (tFld K (tVar 0) "aims"))) rfl scInit.nd (pi_tup (pe_fld (pv 0) rfl)) (blkOk_by (N := ["self", "rows", "labels", "index", "row"]) (sc := defScope sInit) (by decide +kernel)) (fun _ _ _ _ _ => pg_name (i := 3) scInit.nd rfl (.inl rfl))
          (fun _ _ _ _ _ => pts_one (pt_cmp (pc_dnotin hu (pv 3) (pe_fld (pv 0) rfl)))) (fun _ _ _ _ _ => pv 3)) pa_nil)) rfl)))))), ?_⟩
    refine ⟨_, rfl, L, xs, ds, os, rfl, hL, hxs, hin, hlen, fun rcs eo ok H1 D ys s1 hD0 hD hys => ⟨D, ys, rfl, .inl ⟨SqL.of hD, fun p hp => ?_⟩⟩, fun ng i H' dd s hd => bad ng i H' dd s hd⟩
    have qq := good rcs eo ok
    have hxn : H x ≠ none := by rw [hx]; simp
    have lx := rowsV_len (dat_rows (dps_same nw_sub hys))
    have ol : (rsC rcs).length ≤ 900 := ok.len
    have pnx : p ≠ x := ne_of_none' (s1 _ _ hx) hp
    have s12 := s1.trans (same_new (o := .tup ys) hp)
    refine ⟨_, rfl, x, C, dx, [], rfl, s12 _ _ hx, B.cl, B.n1, (by decide), ?_⟩
    -- what stands but for x
    generalize hH3 : upd (upd H1 p (.tup ys)) x (.ins C dx (putF "parts" (.ref p) [])) = H3
    have k3 : ∀ b o, b ≠ x → H b = some o → H3 b = some o := fun b o hb e => by
      rw [← hH3, upd_ne hb]
      exact s12 _ _ e
    have x3 : H3 x = some (.ins C dx [("parts", .ref p)]) := by rw [← hH3, upd_same]; rfl
    have p3 : SqT K H3 p ys := SqT.of (by rw [← hH3, upd_ne pnx]; exact upd_same)
    have r3N : DpAll K (nw H H3) ys (rcs.map rowD) := by
      rw [← hH3, nw_upd hxn]
      exact dps_same (nw_up (same_new hp)) hys
    have r3 : RowsV K H3 ys (rsC rcs) := dat_rows (dps_same nw_sub r3N)
    refine ⟨_, rfl, x, C, dx, _, _, rfl, x3, B.cl, B.n1, rfl, p, ys, (rsC rcs), rfl, p3, r3, ol, fun H4 l s4 hl0 hl => ?_⟩
    have x4 := s4 _ _ x3
    have p4 := sqT_same s4 p3
    have r4N : DpAll K (nw H H4) ys (rcs.map rowD) := dps_same (nw_up s4) r3N
    have r4 : RowsV K H4 ys (rsC rcs) := dat_rows (dps_same nw_sub r4N)
    refine ⟨_, rfl, x, C, dx, _, _, rfl, x4, B.cl, B.n1, rfl, p, ys, rfl, p4, fun D2 hD2 => ?_⟩
    refine lc_it walk_enumT (fun i H5 => (∀ c o, c ≠ D2 → H4 c = some o → H5 c = some o) ∧ H5 D2 = some (.lst (nats (brsTo (rsC rcs) i)))) ⟨fun c o hc e => by rw [upd_ne hc]; exact e, upd_same⟩ (fun i H5 _ ⟨kp, _⟩ => sqT_same (fun c o e => kp c o (ne_of_none e hD2) e) p4) ?_ ?_
    · rintro i z H5 H5' hi ⟨kp, hD5⟩ ⟨TT, x', y, rfl, hT, rfl, hx', hy⟩
      cases hx'
      have s45 : Same H4 H5 := fun c o e => kp c o (ne_of_none e hD2) e
      have s5 : Same H5 (upd H5 TT (.tup [.int (i : Nat), y])) := same_new hT
      obtain ⟨r, hri, hrv⟩ := rowsV_get r4 hy
      have hrv5 := rowV_same (s45.trans s5) hrv
      obtain ⟨ta, zs, rfl, ht, h0⟩ := rowV_tup hrv5
      have hD5' := s5 _ _ hD5
      have hi2 : i < (rsC rcs).length := (List.getElem?_eq_some_iff.mp hri).1
      refine ⟨TT, _, rfl, SqT.of upd_same, rfl, _, _, rfl, _, _, rfl, rfl, rfl, row0_is rfl ht h0 (br_kind r) ?_⟩
      have eb := isBr_at hri
      have kp5 : ∀ (o' : HO) c o, c ≠ D2 → H4 c = some o → upd (upd H5 TT (.tup [.int (i : Nat), .ref ta])) D2 o' c = some o := fun o' c o hc e => by
        rw [upd_ne hc]
        exact s5 _ _ (kp c o hc e)
      have stay : isBr (rsC rcs) i = false → (∀ c o, c ≠ D2 → H4 c = some o → (upd H5 TT (.tup [.int (i : Nat), .ref ta])) c = some o) ∧ (upd H5 TT (.tup [.int (i : Nat), .ref ta])) D2 = some (.lst (nats (brsTo (rsC rcs) (i + 1)))) := by
        intro e
        refine ⟨fun c o hc e => s5 _ _ (kp c o hc e), ?_⟩
        rw [brsTo_succ, e]
        simpa using hD5'
      cases r with
      | branch c n m =>
        refine iteT ⟨_, rfl, _, hD5', ?_, kp5 _, ?_⟩
        · rw [nats_len]
          have := brsTo_len (rsC rcs) i
          exact small1000 (by omega)
        · rw [upd_same, brsTo_succ, eb, nats_app]
          rfl
      | words n => exact iteF (stay eb)
      | label n => exact iteF (stay eb)
      | even n => exact iteF (stay eb)
    · rintro H5 ⟨kp, hD5⟩
      rw [lx] at hD5
      have s45 : Same H4 H5 := fun c o e => kp c o (ne_of_none e hD2) e
      refine ⟨D2, _, rfl, .inl ⟨SqL.of hD5, fun q hq => ?_⟩⟩
      have s46 := s45.trans (same_new (o := .tup (nats (brsTo (rsC rcs) (rsC rcs).length))) hq)
      have x6 := s46 _ _ x4
      have qnx : q ≠ x := ne_of_none' (s45 _ _ x4) hq
      refine ⟨_, rfl, x, C, dx, _, rfl, x6, B.cl, B.n2, (by show 1 < 1000; decide), ?_⟩
      generalize hH7 : upd (upd H5 q (.tup (nats (brsTo (rsC rcs) (rsC rcs).length)))) x (.ins C dx (putF "forks" (.ref q) [("parts", .ref p)])) = H7
      have k7 : ∀ b o, b ≠ x → H b = some o → H7 b = some o := fun b o hb e => by
        rw [← hH7, upd_ne hb]
        exact s46 _ _ (s4 _ _ (k3 b o hb e))
      have x7 : H7 x = some (.ins C dx [("parts", .ref p), ("forks", .ref q)]) := by rw [← hH7, upd_same]; rfl
      have t7 : ∀ a zs, SqT K H4 a zs → SqT K H7 a zs := fun a zs h => by
        rw [← hH7]
        exact sqT_put (sqT_same s46 h) x6 trivial
      have r7N : DpAll K (nw H H7) ys (rcs.map rowD) := by
        rw [← hH7, nw_upd hxn]
        exact dps_same (nw_up s46) r4N
      have r7 : RowsV K H7 ys (rsC rcs) := dat_rows (dps_same nw_sub r7N)
      have q7 : SqT K H7 q (nats (brs (rsC rcs))) := SqT.of (by rw [← hH7, upd_ne qnx]; exact upd_same)
      have l7 : H7 l = some (.dK (spD (rsC rcs) (rsC rcs).length)) := by
        rw [← hH7, upd_ne (ne_of (s4 _ _ (by exact x3)) hl (by intro z; cases z)).symm]
        exact s46 _ _ hl
      refine ⟨_, rfl, x, C, dx, _, _, rfl, x7, B.cl, B.n2, rfl, q, rfl, ⟨_, q7⟩, fun D3 hD3 => ?_⟩
      refine dc_it walk_tup (fun i H8 => (∀ c o, c ≠ D3 → H7 c = some o → H8 c = some o) ∧ H8 D3 = some (.dK (mapD (fun k => .int (((aim (rsC rcs) k).getD 0 : Nat) : Int)) (((brs (rsC rcs)).take i).filter fun k => (aim (rsC rcs) k).isSome)))) ⟨fun c o hc e => by rw [upd_ne hc]; exact e, upd_same⟩
        (fun i H8 _ ⟨kp, _⟩ => sqT_same (fun c o e => kp c o (ne_of_none e hD3) e) q7) ?_ ?_
      · rintro i z H8 H8' hi ⟨kp8, hD8⟩ ⟨rfl, hz⟩
        have s78 : Same H7 H8' := fun c o e => kp8 c o (ne_of_none e hD3) e
        obtain ⟨k, hk, rfl⟩ : ∃ k, (brs (rsC rcs))[i]? = some k ∧ z = V.int ((k : Nat) : Int) := by
          unfold nats at hz
          rw [List.getElem?_map] at hz
          cases e : (brs (rsC rcs))[i]? with
          | none => rw [e] at hz; cases hz
          | some k => rw [e] at hz; exact ⟨k, rfl, (Option.some.inj hz).symm⟩
        have hkm := List.mem_of_getElem? hk
        obtain ⟨c, n, m, hrk⟩ := brs_mem hkm
        obtain ⟨yk, hyk⟩ : ∃ yk, ys[k]? = some yk := ⟨ys[k]'(by rw [lx]; exact (List.getElem?_eq_some_iff.mp hrk).1), List.getElem?_eq_getElem _⟩
        obtain ⟨r', hr', hrv⟩ := rowsV_get r7 hyk
        obtain rfl : r' = .branch c n m := Option.some.inj (hr'.symm.trans hrk)
        obtain ⟨ta, rfl, ht⟩ := rowV_same s78 hrv
        have x8 := s78 _ _ x7
        have p8 := sqT_same s78 (t7 _ _ p4)
        have l8 := s78 _ _ l7
        have q8 : ∀ {W : V → Hp → Prop}, W (.str n) H8' → tPart2 K ((wipe [some (.ref x), some (.ref L), some (.ref l), none, none] [3]).set 3 (some (.int (k : Int)))) H8' W := fun {W} h => ⟨_, rfl, x, C, dx, _, _, rfl, x8, B.cl, B.n1, rfl, _, rfl, p, ys, _, _, rfl, rfl, p8, at_of hyk, ta, _, _, _, rfl, rfl, ht, at_of (i := 2) rfl, h⟩
        have ea : aim (rsC rcs) k = spot (rsC rcs) n := by
          unfold aim
          rw [toOf_at hrk]
          rfl
        have tk : (brs (rsC rcs)).take (i + 1) = (brs (rsC rcs)).take i ++ [k] := by
          rw [List.take_add_one, hk]
          rfl
        have sv := spot_spV (rsC rcs) n
        rw [← ea] at sv
        refine ⟨rfl, q8 ⟨_, rfl, l, _, rfl, DGet.k (k := Sum.inr n) l8, _, rfl, ?_⟩⟩
        show if (spV (rsC rcs) n).isSome = true then _ else _
        rw [sv]
        cases e : aim (rsC rcs) k with
        | none =>
          refine iteF ⟨kp8, ?_⟩
          rw [tk, List.filter_append]
          have z : [k].filter (fun k => (aim (rsC rcs) k).isSome) = [] := by simp [List.filter, e]
          rw [z, List.append_nil]
          exact hD8
        | some j =>
          rw [e] at sv
          refine iteT ⟨_, rfl, _, rfl, q8 ⟨l, _, rfl, (by
            have g := DGet.k (k := Sum.inr n) l8
            rw [show valV (spD (rsC rcs) (rsC rcs).length) (Sum.inr n) = some (.int (j : Nat)) from sv] at g
            exact g), _, Sum.inl (k : Int), rfl, hD8, ?_, fun c o hc ec => ?_, ?_⟩⟩
          · rw [mapD_len]
            have h1 : (((brs (rsC rcs)).take i).filter fun k => (aim (rsC rcs) k).isSome).length ≤ ((brs (rsC rcs)).take i).length := List.length_filter_le _ _
            have h2 : ((brs (rsC rcs)).take i).length ≤ (brs (rsC rcs)).length := by rw [List.length_take]; omega
            have h3 := brsTo_len (rsC rcs) (rsC rcs).length
            have h4 : (brs (rsC rcs)).length = (brsTo (rsC rcs) (rsC rcs).length).length := rfl
            exact small1000 (by omega)
          · rw [upd_ne hc]
            exact kp8 c o hc ec
          · rw [upd_same, tk, List.filter_append]
            have z : [k].filter (fun k => (aim (rsC rcs) k).isSome) = [k] := by simp [List.filter, e]
            have nw : valV (mapD (fun k => .int (((aim (rsC rcs) k).getD 0 : Nat) : Int)) (((brs (rsC rcs)).take i).filter fun k => (aim (rsC rcs) k).isSome)) (Sum.inl (k : Int)) = none := by
              rw [mapD_val, if_neg]
              intro hm
              exact take_not (brs_nodup (rsC rcs)) hk (List.mem_filter.mp hm).1
            rw [z, putK_new _ nw]
            unfold mapD
            rw [List.map_append, List.map_singleton]
            have z2 : (fun (k : Nat) => V.int (((aim (rsC rcs) k).getD 0 : Nat) : Int)) k = V.int (j : Int) := by
              show V.int (((aim (rsC rcs) k).getD 0 : Nat) : Int) = _
              rw [e]
              rfl
            rw [z2]
      · rintro H8 ⟨kp8, hD8⟩
        rw [nats_len, List.take_length, brs_inn] at hD8
        have hD8 : H8 D3 = some (.dK (aimD (rsC rcs))) := hD8
        have s78 : Same H7 H8 := fun c o e => kp8 c o (ne_of_none e hD3) e
        have x8 := s78 _ _ x7
        have D3x : D3 ≠ x := (ne_of_none' x7 hD3)
        refine ⟨_, rfl, x, C, dx, _, rfl, x8, B.cl, B.n3, (by show 2 < 1000; decide), ?_⟩
        generalize hH9 : upd H8 x (.ins C dx (putF "aims" (.ref D3) [("parts", .ref p), ("forks", .ref q)])) = H9
        have k9 : ∀ b o, b ≠ x → H7 b = some o → H9 b = some o := fun b o hb e => by
          rw [← hH9, upd_ne hb]
          exact s78 _ _ e
        have r9N : DpAll K (nw H H9) ys (rcs.map rowD) := by
          rw [← hH9, nw_upd hxn]
          exact dps_same (nw_up s78) r7N
        have x9 : H9 x = some (.ins C dx [("parts", .ref p), ("forks", .ref q), ("aims", .ref D3)]) := by rw [← hH9, upd_same]; rfl
        have d9 : H9 D3 = some (.dK (aimD (rsC rcs))) := by rw [← hH9, upd_ne D3x]; exact hD8
        have t9 : ∀ a zs, SqT K H7 a zs → SqT K H9 a zs := fun a zs h => by
          rw [← hH9]
          exact sqT_put (sqT_same s78 h) x8 trivial
        refine ⟨_, rfl, x, C, dx, _, _, rfl, x9, B.cl, B.n2, rfl, q, rfl, ⟨_, t9 _ _ q7⟩, fun D4 hD4 => ?_⟩
        refine lc_it walk_tup (fun i Ha => (∀ c o, c ≠ D4 → H9 c = some o → Ha c = some o) ∧ Ha D4 = some (.lst (nats (((brs (rsC rcs)).take i).filter fun k => (aim (rsC rcs) k).isNone)))) ⟨fun c o hc e => by rw [upd_ne hc]; exact e, upd_same⟩
          (fun i Ha _ ⟨kp, _⟩ => sqT_same (fun c o e => kp c o (ne_of_none e hD4) e) (t9 _ _ q7)) ?_ ?_
        · rintro i z Ha Ha' hi ⟨kpa, hDa⟩ ⟨rfl, hz⟩
          have s9a : Same H9 Ha' := fun c o e => kpa c o (ne_of_none e hD4) e
          obtain ⟨k, hk, rfl⟩ : ∃ k, (brs (rsC rcs))[i]? = some k ∧ z = V.int ((k : Nat) : Int) := by
            unfold nats at hz
            rw [List.getElem?_map] at hz
            cases e : (brs (rsC rcs))[i]? with
            | none => rw [e] at hz; cases hz
            | some k => rw [e] at hz; exact ⟨k, rfl, (Option.some.inj hz).symm⟩
          have tk : (brs (rsC rcs)).take (i + 1) = (brs (rsC rcs)).take i ++ [k] := by
            rw [List.take_add_one, hk]
            rfl
          obtain ⟨c, n, m, hrk⟩ := brs_mem (List.mem_of_getElem? hk)
          have hlt : k < (rsC rcs).length := (List.getElem?_eq_some_iff.mp hrk).1
          refine ⟨rfl, _, rfl, _, rfl, x, C, dx, _, _, rfl, s9a _ _ x9, B.cl, B.n3, rfl, D3, _, rfl, DGet.k (k := Sum.inl (k : Int)) (s9a _ _ d9), _, rfl, ?_⟩
          have ev : (valV (aimD (rsC rcs)) (Sum.inl (k : Int))).isSome = (aim (rsC rcs) k).isSome := by
            unfold aimD
            rw [mapD_val]
            cases e : aim (rsC rcs) k with
            | none =>
              rw [if_neg]
              · rfl
              · intro hm
                have := (mem_inn.mp hm).2
                rw [e] at this
                cases this
            | some j =>
              rw [if_pos (mem_inn.mpr ⟨hlt, by rw [e]; rfl⟩)]
              rfl
          rw [ev]
          cases e : aim (rsC rcs) k with
          | none =>
            refine iteT ⟨_, rfl, _, hDa, ?_, fun c o hc ec => ?_, ?_⟩
            · rw [nats_len]
              have h1 : (((brs (rsC rcs)).take i).filter fun k => (aim (rsC rcs) k).isNone).length ≤ ((brs (rsC rcs)).take i).length := List.length_filter_le _ _
              have h2 : ((brs (rsC rcs)).take i).length ≤ (brs (rsC rcs)).length := by rw [List.length_take]; omega
              have h3 := brsTo_len (rsC rcs) (rsC rcs).length
              have h4 : (brs (rsC rcs)).length = (brsTo (rsC rcs) (rsC rcs).length).length := rfl
              exact small1000 (by omega)
            · rw [upd_ne hc]
              exact kpa c o hc ec
            · rw [upd_same, tk, List.filter_append, nats_app]
              have z : [k].filter (fun k => (aim (rsC rcs) k).isNone) = [k] := by simp [List.filter, e]
              rw [z]
              rfl
          | some j =>
            refine iteF ⟨kpa, ?_⟩
            rw [tk, List.filter_append]
            have z : [k].filter (fun k => (aim (rsC rcs) k).isNone) = [] := by simp [List.filter, e]
            rw [z, List.append_nil]
            exact hDa
        · rintro Ha ⟨kpa, hDa⟩
          rw [nats_len, List.take_length] at hDa
          have s9a : Same H9 Ha := fun c o e => kpa c o (ne_of_none e hD4) e
          refine ⟨D4, _, rfl, .inl ⟨SqL.of hDa, fun o ho => ?_⟩⟩
          have s9b := s9a.trans (same_new (o := .tup (nats (outs (rsC rcs)))) ho)
          have xb := s9b _ _ x9
          have onx : o ≠ x := ne_of_none' (s9a _ _ x9) ho
          refine ⟨_, rfl, x, C, dx, _, rfl, xb, B.cl, B.n4, (by show 3 < 1000; decide), ?_⟩
          refine qq _ (fun b u hb e => ?_) ⟨ok, dx, p, q, D3, o, ys, ⟨upd_same, ?_, ?_, ?_, ?_, ?_⟩⟩
          · rw [upd_ne hb]
            exact s9b _ _ (k9 b u hb (k7 b u hb e))
          · exact sqT_put (sqT_same s9b (t9 _ _ (t7 _ _ p4))) xb trivial
          · refine dps_same (nw_sub (H := H)) ?_
            rw [nw_upd hxn]
            exact dps_same (nw_up s9b) r9N
          · exact sqT_put (sqT_same s9b (t9 _ _ q7)) xb trivial
          · rw [upd_ne D3x]
            exact s9b _ _ d9
          · exact SqT.of (by rw [upd_ne onx]; exact upd_same)
end

/-! ### min(xs, default=z) of ints -/
def rMinD (K : PySem.W.Frag) : List V → List V → Hp → VK → Prop := fun vs zs H Q => ∃ (a : Addr) (ns : List Int) (z : V), vs = [.ref a] ∧ zs = [z] ∧ SqL K H a (ns.map V.int) ∧ (ns = [] → Q z H) ∧ ∀ n ns', ns = n :: ns' → Q (.int (ns'.foldl min n)) H
theorem reads_ints {h : Heap} : ∀ {ns : List Int} {its : List Value}, Vals (ns.map V.int) its → ReadsAll h its (ns.map .int) []
  | [], _, r => by cases r; exact .nil
  | n :: ns, _, r => by
    cases r with
    | cons r1 r2 =>
      obtain ⟨t, rfl⟩ := r1
      exact .cons (as := []) (bs := []) (.int n t) (reads_ints r2)
theorem ints_depth1 : ∀ ks : List Int, PyData.depthAll (ks.map .int) ≤ 5
  | [] => by simp [PyData.depthAll]
  | k :: ks => by
    have h := ints_depth1 ks
    have h2 : (PyData.int k).depth ≤ 5 := by simp [PyData.depth]
    rw [List.map_cons]
    simp only [PyData.depthAll]
    omega
theorem alike_ints (ns : List Int) : PySem.W.AlikeAll (ns.map .int) := by
  refine ⟨fun x hx y hy => ?_, fun x hx => ?_⟩
  · obtain ⟨a, _, rfl⟩ := List.mem_map.mp hx
    obtain ⟨b, _, rfl⟩ := List.mem_map.mp hy
    rfl
  · obtain ⟨a, _, rfl⟩ := List.mem_map.mp hx
    intro z
    cases z
theorem cr_minD {X : Cx} (hc : X.calm = true) (hu : X.A.units + 64 < cLine) : CallRK X (.builtin "min") [Str.ofString "default"] (rMinD X.K) := by
  intro pins s σ H vs zs us ws Q I r rz h
  obtain ⟨a, ns, z, rfl, rfl, hs, q0, q1⟩ := h
  obtain ⟨w1, rfl, e1⟩ := valsOne rz
  obtain ⟨its, rv, hl, hz⟩ := I.list hs
  rw [Vals.ref1 r]
  have dl := ints_depth1 ns
  refine PySem.W.min_list_default (d := w1) (I.ok.hd hc) hl.isList (xs := ns.map .int) (as := []) (by simpa using reads_ints rv) (alike_ints ns) (by omega) (fun e h' tk k => ?_) fun y ys i v h' tk bs e hv rd k => ?_
  · exact ⟨z, H, I.kept k, e1, q0 (List.map_eq_nil_iff.mp e)⟩
  · cases ns with
    | nil => cases e
    | cons n ns' =>
      rw [List.map_cons] at e
      cases e
      rw [PySem.W.minD_ints] at rd
      cases rd
      exact ⟨.int (ns'.foldl min n), H, I.kept k, ⟨_, rfl⟩, q1 n ns' rfl⟩

/-! ### growth: the mathematics -/
def fN (ks : List Nat) : Int → Bool := mem (ks.map fun (k : Nat) => (k : Int))
theorem fN_mem {ks : List Nat} {k : Nat} : fN ks (k : Int) = decide (k ∈ ks) := by
  unfold fN mem
  by_cases h : k ∈ ks
  · rw [decide_eq_true h]
    exact decide_eq_true (List.mem_map.mpr ⟨k, h, rfl⟩)
  · rw [decide_eq_false h]
    refine decide_eq_false fun z => ?_
    obtain ⟨j, hj, e⟩ := List.mem_map.mp z
    exact h (by rw [← Int.ofNat.inj e]; exact hj)
/-- the branches that are not far yet -/
def rem (rs : List Row) (far : List Nat) : List Nat := (inn rs).filter fun k => !decide (k ∈ outs rs ++ far)
theorem filter_two {α : Type} (p : α → Bool) : ∀ l : List α, (l.filter p).length + (l.filter fun a => !p a).length = l.length
  | [] => rfl
  | a :: l => by
    have h := filter_two p l
    cases e : p a with
    | true => simp [List.filter, e]; omega
    | false => simp [List.filter, e]; omega
theorem long_rem (rs : List Row) (far : List Nat) : long (fN (outs rs ++ far)) rs = (rem rs far).filter fun k => tooL (way (fN (outs rs ++ far)) rs k) := by
  unfold long rem
  rw [List.filter_filter]
  congr 1
  funext k
  unfold isLong
  rw [fN_mem, Bool.and_comm]
theorem rem_next (rs : List Row) (far : List Nat) : (rem rs (far ++ long (fN (outs rs ++ far)) rs)).length + (long (fN (outs rs ++ far)) rs).length = (rem rs far).length := by
  have e : rem rs (far ++ long (fN (outs rs ++ far)) rs) = (rem rs far).filter fun k => !tooL (way (fN (outs rs ++ far)) rs k) := by
    unfold rem
    rw [List.filter_filter]
    apply List.filter_congr
    intro k hk
    have hm : k ∈ long (fN (outs rs ++ far)) rs ↔ k ∉ outs rs ++ far ∧ tooL (way (fN (outs rs ++ far)) rs k) = true := by
      unfold long
      rw [List.mem_filter]
      unfold isLong
      rw [fN_mem, Bool.and_eq_true]
      constructor
      · rintro ⟨_, h1, h2⟩
        exact ⟨by simpa using h1, h2⟩
      · rintro ⟨h1, h2⟩
        exact ⟨hk, by simpa using h1, h2⟩
    rw [← List.append_assoc]
    by_cases h1 : k ∈ outs rs ++ far
    · have h2 : k ∈ outs rs ++ far ++ long (fN (outs rs ++ far)) rs := List.mem_append_left _ h1
      simp only [decide_eq_true h2, decide_eq_true h1, Bool.not_true, Bool.and_false]
    · cases h3 : tooL (way (fN (outs rs ++ far)) rs k) with
      | true =>
        have h2 : k ∈ outs rs ++ far ++ long (fN (outs rs ++ far)) rs := List.mem_append_right _ (hm.mpr ⟨h1, h3⟩)
        simp only [decide_eq_true h2, decide_eq_false h1, Bool.not_true, Bool.not_false, Bool.and_true]
      | false =>
        have h2 : k ∉ outs rs ++ far ++ long (fN (outs rs ++ far)) rs := fun z => by
          rcases List.mem_append.mp z with z | z
          · exact h1 z
          · have := (hm.mp z).2
            rw [h3] at this
            cases this
        simp only [decide_eq_false h2, decide_eq_false h1, Bool.not_false, Bool.and_true]
  rw [e]
  have h := filter_two (fun k => tooL (way (fN (outs rs ++ far)) rs k)) (rem rs far)
  have l := long_rem rs far
  rw [← l] at h
  omega
def zs (ks : List Nat) : List Int := ks.map fun (k : Nat) => (k : Int)
theorem zs_len (ks : List Nat) : (zs ks).length = ks.length := List.length_map ..
theorem nats_zs (ks : List Nat) : nats ks = (zs ks).map V.int := nats_int ks
theorem mem_zs {ks : List Nat} {n : Int} : n ∈ zs ks ↔ ∃ k ∈ ks, (k : Int) = n := List.mem_map
theorem aim_of {rs : List Row} {k : Nat} {n : Str} (h : toOf rs k = some n) : aim rs k = spot rs n := by
  unfold aim
  rw [h]
  rfl
theorem outs_len (rs : List Row) : (outs rs).length ≤ rs.length := by
  have h1 : (outs rs).length ≤ (brs rs).length := List.length_filter_le _ _
  have h2 := brsTo_len rs rs.length
  have h3 : (brs rs).length = (brsTo rs rs.length).length := rfl
  omega
theorem brs_len (rs : List Row) : (brs rs).length ≤ rs.length := brsTo_len rs rs.length
theorem inn_nodup (rs : List Row) : (inn rs).Nodup := by
  rw [← brs_inn]
  exact List.Nodup.sublist (List.filter_sublist ..) (brs_nodup rs)
theorem nats_sq {K : PySem.W.Frag} {H : Hp} {a : Addr} {ks : List Nat} (h : SqL K H a (nats ks)) : SqL K H a ((ks.map fun (k : Nat) => (k : Int)).map V.int) := by
  rw [← nats_int]
  exact h
theorem nats_get {ks : List Nat} {i : Nat} {z : V} (h : (nats ks)[i]? = some z) : ∃ k, ks[i]? = some k ∧ z = V.int ((k : Nat) : Int) := by
  unfold nats at h
  rw [List.getElem?_map] at h
  cases e : ks[i]? with
  | none => rw [e] at h; cases h
  | some k => rw [e] at h; exact ⟨k, rfl, (Option.some.inj h).symm⟩
theorem long_len (f : Int → Bool) (rs : List Row) : (long f rs).length ≤ rs.length := by
  unfold long
  exact Nat.le_trans (List.length_filter_le _ _) (inn_len rs)
/-- the far branches after n turns -/
def fars (rs : List Row) : Nat → List Nat
  | 0 => []
  | n + 1 => fars rs n ++ long (fN (outs rs ++ fars rs n)) rs
theorem fars_stop {rs : List Row} {n : Nat} (h : long (fN (outs rs ++ fars rs n)) rs = []) : ∀ m, fars rs (n + m) = fars rs n
  | 0 => rfl
  | m + 1 => by
    show fars rs (n + m) ++ long (fN (outs rs ++ fars rs (n + m))) rs = _
    rw [fars_stop h m, h, List.append_nil]
theorem fars_end {rs : List Row} {n m : Nat} (hn : long (fN (outs rs ++ fars rs n)) rs = []) (hm : long (fN (outs rs ++ fars rs m)) rs = []) : fars rs n = fars rs m := by
  rcases Nat.le_total n m with h | h
  · obtain ⟨d, rfl⟩ := Nat.exists_eq_add_of_le h
    exact (fars_stop hn d).symm
  · obtain ⟨d, rfl⟩ := Nat.exists_eq_add_of_le h
    exact fars_stop hm d
/-- such a list of far branches as the law grows: in order, those that lead out and those of n turns -/
def Grown (rs : List Row) (g : List Int) : Prop := ∃ n, g.Perm (zs (outs rs ++ fars rs n)) ∧ g.Pairwise (· ≤ ·) ∧ long (fN (outs rs ++ fars rs n)) rs = []
theorem mem_perm {a b : List Int} (h : a.Perm b) : mem a = mem b := by
  funext k
  unfold mem
  by_cases c : k ∈ a
  · rw [decide_eq_true c, decide_eq_true (h.mem_iff.mp c)]
  · rw [decide_eq_false c, decide_eq_false fun z => c (h.mem_iff.mpr z)]
theorem fN_mem2 (ks : List Nat) : fN ks = mem (zs ks) := rfl
theorem outs_sorted (rs : List Row) : (zs (outs rs)).Pairwise (· ≤ ·) := by
  unfold zs outs brs brsTo
  rw [List.pairwise_map]
  refine List.Pairwise.sublist (List.Sublist.trans (List.filter_sublist ..) (List.filter_sublist ..)) ?_
  exact List.pairwise_lt_range.imp fun h => by omega
theorem inn_sorted (rs : List Row) : (inn rs).Pairwise (· < ·) := by
  unfold inn innTo
  exact List.Pairwise.sublist (List.filter_sublist ..) List.pairwise_lt_range
theorem long_sub {f : Int → Bool} {rs : List Row} {k : Nat} (h : k ∈ long f rs) : k ∈ inn rs ∧ f (k : Nat) = false ∧ tooL (way f rs k) = true := by
  unfold long isLong at h
  obtain ⟨h1, h2⟩ := List.mem_filter.mp h
  rw [Bool.and_eq_true] at h2
  exact ⟨h1, by simpa using h2.1, h2.2⟩
theorem inn_not_outs {rs : List Row} {k : Nat} (h : k ∈ inn rs) : k ∉ outs rs := by
  intro z
  rw [← brs_inn] at h
  have h1 := (List.mem_filter.mp h).2
  have h2 := (List.mem_filter.mp z).2
  cases e : aim rs k with
  | none => rw [e] at h1; cases h1
  | some j => rw [e] at h2; cases h2
theorem fars_inn (rs : List Row) : ∀ n, ∀ k ∈ fars rs n, k ∈ inn rs
  | 0, k, h => by cases h
  | n + 1, k, h => by
    rcases List.mem_append.mp h with h | h
    · exact fars_inn rs n k h
    · exact (long_sub h).1
theorem fars_nodup (rs : List Row) : ∀ n, (fars rs n).Nodup
  | 0 => List.nodup_nil
  | n + 1 => by
    refine List.nodup_append.mpr ⟨fars_nodup rs n, ?_, fun a ha b hb e => ?_⟩
    · unfold long
      exact List.Nodup.sublist (List.filter_sublist ..) (inn_nodup rs)
    · have := (long_sub hb).2.1
      rw [fN_mem] at this
      exact of_decide_eq_false this (List.mem_append_right _ (by rw [← e]; exact ha))
theorem fars_rem (rs : List Row) : ∀ n, (fars rs n).length + (rem rs (fars rs n)).length = (rem rs []).length
  | 0 => by simp [fars]
  | n + 1 => by
    have h := rem_next rs (fars rs n)
    have ih := fars_rem rs n
    show (fars rs n ++ long (fN (outs rs ++ fars rs n)) rs).length + (rem rs (fars rs n ++ long (fN (outs rs ++ fars rs n)) rs)).length = _
    rw [List.length_append]
    omega
theorem fars_len (rs : List Row) (n : Nat) : (fars rs n).length ≤ (inn rs).length := by
  have h := fars_rem rs n
  have h1 : (rem rs []).length ≤ (inn rs).length := List.length_filter_le _ _
  omega
theorem grown_len {rs : List Row} {g : List Int} (h : Grown rs g) : g.length ≤ rs.length + rs.length := by
  obtain ⟨n, pm, _, _⟩ := h
  have h1 := fars_len rs n
  have h2 := inn_len rs
  have h3 := outs_len rs
  rw [pm.length_eq, zs_len, List.length_append]
  omega
theorem sorted_perm {a b : List Int} (h : a.Perm b) (ha : a.Pairwise (· ≤ ·)) (hb : b.Pairwise (· ≤ ·)) : a = b := h.eq_of_pairwise (fun x y _ _ h1 h2 => Int.le_antisymm h1 h2) ha hb
theorem grown_one {rs : List Row} {a b : List Int} (ha : Grown rs a) (hb : Grown rs b) : a = b := by
  obtain ⟨n, p1, s1, e1⟩ := ha
  obtain ⟨m, p2, s2, e2⟩ := hb
  rw [fars_end e1 e2] at p1
  exact sorted_perm (p1.trans p2.symm) s1 s2

abbrev mth (j : Nat) : Stmt := inClass (topS 37) j
def spGrownFrom (K : PySem.W.Frag) : Sp := fun vs H Q _ => ∃ (t d o : Addr) (xs : List V) (rs : List Row), vs = [.ref t, .ref d, .ref o] ∧ SqT K H t xs ∧ RowsV K H xs rs ∧ (∀ r ∈ rs, RowOk r) ∧ rs.length ≤ 900 ∧ H d = some (.dK (aimD rs)) ∧ SqT K H o (nats (outs rs)) ∧
  ∀ H' p g, Same H H' → SqT K H' p (g.map V.int) → Grown rs g → Q (.ref p) H'
abbrev sGrownFrom : Stmt := topS 33
theorem scGrownFrom : FnScope ["parts", "aims", "far", "longer"] ["parts", "aims", "far"] (defScope sGrownFrom) := ⟨rfl, rfl, rfl, by decide +kernel, rfl, by decide +kernel, by decide +kernel⟩
section
variable {P : Program} {w : World} {K : PySem.W.Frag} {mg : Str → Option Value} {base : Heap}
theorem ok_grownFrom {f : Addr} {fd : FuncData} (F : Fun K "grown_from" "grown_from" sGrownFrom f fd) (T : Bi mg) (G1 : Has P w K mg base CX0 3 "too_long_ones" ["parts", "aims", "far"] (spTooLong K)) : FnOk P w K mg base CX0 4 f fd ["parts", "aims", "far"] (spGrownFrom K) := by
  refine F.ok scGrownFrom (fun vs H Q E h => ?_) (fun cdv A outer s H vs Q E hr h => ?_)
  · obtain ⟨t, d, o, xs, rs, rfl, _⟩ := h
    rfl
  · obtain ⟨t, d, o, xs, rs, rfl, ht, hrs, hok, hlen, hd, ho, q⟩ := h
    refine ⟨_, (pss_cons (ps_set (i := 2) scGrownFrom.nd rfl (.inl rfl) (pe_callTy call_list_of (by rfl) T.list (by decide +kernel) (pa_cons (pv 2) pa_nil)))
      (pss_one (ps_while PassesOwn.never (pt_val pe_bl)
        (pss_cons (ps_set (i := 3) scGrownFrom.nd rfl (.inl rfl) (pe_callH G1 hr (by rfl) pass0 (pa_cons (pv 0) (pa_cons (pv 1) (pa_cons (pv 2) pa_nil)))))
        (pss_cons (ps_if (pt_not (pt_truth (pv 3) (by intro _; rfl))) (pss_one (ps_ret (pe_callTy call_tuple_of (by rfl) T.tuple (by decide +kernel) (pa_cons (pe_callB cr_sortedI (by rfl) T.sorted (by decide +kernel) (pa_cons (pv 2) pa_nil)) pa_nil)))) pss_nil)
        (pss_one (ps_expr (pe_bm PySem.F.plainAttrs_list PySem.F.slot_list_extend PySem.F.type_list_extend mt_extend (pv 2) (pa_cons (pv 3) pa_nil))))))))), ?_⟩
    refine ⟨_, rfl, o, _, rfl, .inr ho, fun l hl => ?_⟩
    have s1 := same_new (o := .lst (nats (outs rs))) hl
    refine ⟨fun m σ H4 => ∃ (u : Option V) (n : Nat), σ = [some (.ref t), some (.ref d), some (.ref l), u] ∧ Same H H4 ∧ H4 l = some (.lst (nats (outs rs ++ fars rs n))) ∧ m = (rem rs (fars rs n)).length,
      ⟨_, none, 0, rfl, s1, by rw [upd_same]; show some _ = some (HO.lst (nats (outs rs ++ []))); rw [List.append_nil], rfl⟩, ?_⟩
    rintro m σ H4 ⟨u, n, rfl, s4, hl4, rfl⟩
    refine ⟨true, rfl, iteT ⟨fun σ' H' => ∃ m', m' < (rem rs (fars rs n)).length ∧ ∃ (u : Option V) (n : Nat), σ' = [some (.ref t), some (.ref d), some (.ref l), u] ∧ Same H H' ∧ H' l = some (.lst (nats (outs rs ++ fars rs n))) ∧ m' = (rem rs (fars rs n)).length, fun σ' H' h => h, ?_⟩⟩
    refine ⟨_, rfl, _, rfl, _, rfl, t, d, l, xs, rs, zs (outs rs ++ fars rs n), rfl, sqT_same s4 ht, rowsV_same s4 hrs, hok, hlen, s4 _ _ hd, by rw [← nats_zs]; exact SqL.of hl4, fun H5 p s5 hp0 hp => ?_⟩
    have elg : long (mem (zs (outs rs ++ fars rs n))) rs = long (fN (outs rs ++ fars rs n)) rs := rfl
    rw [elg] at hp
    have nx := rem_next rs (fars rs n)
    have s45 := s4.trans s5
    have hl5 := s5 _ _ hl4
    have ol := outs_len rs
    have fl := fars_len rs n
    have il := inn_len rs
    generalize hlg : long (fN (outs rs ++ fars rs n)) rs = lg at hp nx
    have hdef : fars rs (n + 1) = fars rs n ++ lg := by rw [← hlg]; rfl
    refine ⟨_, rfl, _, .inl ⟨_, SqL.of hp, rfl⟩, ?_⟩
    cases lg with
    | nil =>
      refine iteT ⟨_, rfl, l, zs (outs rs ++ fars rs n), rfl, by rw [← nats_zs]; exact SqL.of hl5, fun ns' a hperm hsort ha => ⟨a, _, rfl, .inl ⟨SqL.of upd_same, fun p2 hp2 => ?_⟩⟩⟩
      exact q _ p2 ns' ((s45.trans (same_new ha)).trans (same_new hp2)) (SqT.of upd_same) ⟨n, hperm, hsort, hlg⟩
    | cons k0 lg0 =>
      refine iteF ?_
      generalize hlg2 : k0 :: lg0 = lg at *
      have lgn : lg ≠ [] := by rw [← hlg2]; simp
      have lgl : lg.length ≤ rs.length := by
        rw [← hlg]
        exact long_len _ _
      have pl : p ≠ l := fun z => by rw [z, hl4] at hp0; cases hp0
      refine ⟨_, rfl, .inl ⟨rfl, _, SqL.of hl5⟩, _, rfl, l, p, _, _, rfl, rfl, hl5, hp, ?_, ?_⟩
      · rw [nats_len, nats_len, List.length_append]
        have : (outs rs).length + (fars rs n).length + lg.length ≤ 4000 := by omega
        exact Nat.le_trans this (by decide)
      · have lpos : 0 < lg.length := List.length_pos_iff.mpr lgn
        refine ⟨(rem rs (fars rs (n + 1))).length, by rw [hdef]; omega, _, n + 1, rfl, ?_, ?_, rfl⟩
        · intro b u hb
          have bl : b ≠ l := ne_of_none hb hl
          rw [upd_ne bl]
          exact s45 _ _ hb
        · rw [upd_same, hdef, ← List.append_assoc, nats_app (outs rs ++ fars rs n) lg]
/-! ### grown, check_even, check_at -/
def spGrown (K : PySem.W.Frag) (C : Addr) : Sp := fun vs H Q _ => ∃ (x : Addr) (rcs : List RowC), vs = [.ref x] ∧ DraftV K H C x rcs ∧ ∀ H' p g, Same H H' → SqT K H' p (g.map V.int) → Grown (rsC rcs) g → Q (.ref p) H'
abbrev sGrown : Stmt := mth 9
theorem scGrown : FnScope ["self"] ["self"] (defScope sGrown) := ⟨rfl, rfl, rfl, by decide +kernel, rfl, by decide +kernel, by decide +kernel⟩
theorem ok_grown {f C : Addr} {fd : FuncData} (F : Fun K "grown" "Draft.grown" sGrown f fd) (B : DrC K C) (G1 : Has P w K mg base CX0 4 "grown_from" ["parts", "aims", "far"] (spGrownFrom K)) : FnOk P w K mg base CX0 5 f fd ["self"] (spGrown K C) := by
  refine F.ok scGrown (fun vs H Q E h => ?_) (fun cdv A outer s H vs Q E hr h => ?_)
  · obtain ⟨x, rcs, rfl, _⟩ := h
    rfl
  · obtain ⟨x, rcs, rfl, ⟨ok, dx, p, q, d, o, ys, hx⟩, want⟩ := h
    refine ⟨_, pss_one (ps_ret (pe_callH G1 hr (by rfl) pass0 (pa_cons (pe_fld (pv 0) rfl) (pa_cons (pe_fld (pv 0) rfl) (pa_cons (pe_fld (pv 0) rfl) pa_nil))))), ?_⟩
    exact ⟨_, rfl, x, C, dx, _, _, rfl, hx.ins, B.cl, B.n1, rfl, _, rfl, x, C, dx, _, _, rfl, hx.ins, B.cl, B.n3, rfl, _, rfl, x, C, dx, _, _, rfl, hx.ins, B.cl, B.n4, rfl, p, d, o, ys, rsC rcs, rfl, hx.parts, hx.rows, fun r hr => fine_ok (ok.fine r hr), ok.len, hx.aims, hx.outs, want⟩
end
/-! ### check_even -/
def isEv (rs : List Row) (i : Nat) : Bool := match rs[i]? with
  | some (.even _) => true
  | _ => false
def noEven (rs : List Row) : Prop := ∀ i, isEv rs i = false
/-- at i stands the first even row -/
def firstEv (rs : List Row) (i : Nat) : Prop := isEv rs i = true ∧ ∀ j, j < i → isEv rs j = false
theorem ev_kind (r : Row) : decide (kindOf r = ("even" : Str)) = (match r with | .even _ => true | _ => false) := by
  cases r with
  | label s => exact (by decide +kernel : decide (("label" : Str) = "even") = false)
  | words n => exact (by decide +kernel : decide (("words" : Str) = "even") = false)
  | even n => exact (by decide +kernel : decide (("even" : Str) = "even") = true)
  | branch c n m => exact (by decide +kernel : decide (("branch" : Str) = "even") = false)
theorem isEv_at {rs : List Row} {i : Nat} {r : Row} (h : rs[i]? = some r) : isEv rs i = match r with
    | .even _ => true
    | _ => false := by
  have e : isEv rs i = (match some r with | some (.even _) => true | _ => false) := by
    rw [← h]
    rfl
  rw [e]
  cases r <;> rfl
def spCheckEven (K : PySem.W.Frag) (C : Addr) : Sp := fun vs H Q _ => ∃ (x : Addr) (rcs : List RowC), vs = [.ref x] ∧ DraftV K H C x rcs ∧ noEven (rsC rcs) ∧ ∀ H', Same H H' → Q .non H'
abbrev sCheckEven : Stmt := mth 15
theorem scCheckEven : FnScope ["self", "index", "row"] ["self"] (defScope sCheckEven) := ⟨rfl, rfl, rfl, by decide +kernel, rfl, by decide +kernel, by decide +kernel⟩
/-- a place that check_at lets -/
def okAt (d : PyData) (m : Int) : Bool := match d with
  | .int k => decide (0 ≤ k) && decide (k ≤ m)
  | _ => false
def AtE (CA : Addr) (v : V) (H : Hp) (E : XK) : Prop := ∀ H' dx, Same H H' → H' dx = none → E (.ref CA) (some dx) (upd H' dx (.xd [("index", v)]))
def spCheckAt (K : PySem.W.Frag) (CA : Addr) : Sp := fun vs H Q E => ∃ (x : Addr) (v : V) (d : PyData) (m : Int), vs = [.ref x, v, .int m] ∧ Th K H v d ∧ (okAt d m = true → Q .non H) ∧ (okAt d m = false → AtE CA v H E)
abbrev sCheckAt : Stmt := mth 19
theorem scCheckAt : FnScope ["self", "at", "most"] ["self", "at", "most"] (defScope sCheckAt) := ⟨rfl, rfl, rfl, by decide +kernel, rfl, by decide +kernel, by decide +kernel⟩
section
variable {P : Program} {w : World} {K : PySem.W.Frag} {mg : Str → Option Value} {base : Heap}
theorem ok_checkEven {f C : Addr} {fd : FuncData} (F : Fun K "check_even" "Draft.check_even" sCheckEven f fd) (T : Bi mg) (B : DrC K C) : FnOk P w K mg base CX0 1 f fd ["self"] (spCheckEven K C) := by
  refine F.ok scCheckEven (fun vs H Q E h => ?_) (fun cdv A outer s H vs Q E hr h => ?_)
  · obtain ⟨x, rcs, rfl, _⟩ := h
    rfl
  · obtain ⟨x, rcs, rfl, ⟨ok, dx, p, q, d, o, ys, hx⟩, nE, qq⟩ := h
    refine ⟨_, pss_one (ps_for PassesOwn.never rfl (pi_enumT (by rfl) T.enumerate (pa_cons (pe_fld (pv 0) rfl) pa_nil)) (pg_tup rfl (pgs_cons (pg_name (i := 1) scCheckEven.nd rfl (.inl rfl)) (pgs_cons (pg_name (i := 2) scCheckEven.nd rfl (.inl rfl)) pgs_nil)))
      (pss_one (ps_if (pt_cmpR op_eq (pe_ix ix_tup (pv 2) pe_int (fun _ _ => rfl)) pe_str (nomark _)) (pss_one ps_never) pss_nil))), ?_⟩
    refine ⟨_, rfl, x, C, dx, _, _, rfl, hx.ins, B.cl, B.n1, rfl, p, ys, rfl, hx.parts, ?_⟩
    refine for_it walk_enumT (fun i σ H4 => ∃ (a b : Option V), σ = [some (.ref x), a, b] ∧ Same H H4) ⟨none, none, rfl, Same.refl H⟩ (fun i σ H4 _ ⟨_, _, _, sm⟩ => sqT_same sm hx.parts) ?_ ?_
    · rintro i z σ H4 H4' hi ⟨a, b, rfl, sm⟩ ⟨TT, x', y, rfl, hT, rfl, hx', hy⟩
      cases hx'
      have s5 : Same H4 (upd H4 TT (.tup [.int (i : Nat), y])) := same_new hT
      obtain ⟨r, hri, hrv⟩ := rowsV_get hx.rows hy
      have hrv5 := rowV_same (sm.trans s5) hrv
      obtain ⟨ta, zs, rfl, ht, h0⟩ := rowV_tup hrv5
      have eb := isEv_at hri
      rw [nE i] at eb
      refine ⟨TT, _, rfl, SqT.of upd_same, rfl, _, _, rfl, _, _, rfl, rfl, ?_⟩
      refine ⟨_, rfl, ta, zs, _, _, rfl, rfl, ht, at_of (i := 0) h0, rfl, _, rfl, ?_⟩
      have e9 : decide (kindOf r = ("even" : Str)) = false := by
        rw [ev_kind]
        cases r with
        | even n => cases eb
        | _ => rfl
      rw [strEq, e9]
      exact iteF ⟨_, _, rfl, sm.trans s5⟩
    · rintro σ H4 ⟨a, b, rfl, sm⟩
      exact qq H4 sm
theorem ok_checkAt {f CA : Addr} {fd : FuncData} (F : Fun K "check_at" "Draft.check_at" sCheckAt f fd) (S : Err P w K mg base "BadAt" CA "index") (G1 : Has P w K mg base CX0 2 "is_integer" ["thing"] (spIsInt K)) : FnOk P w K mg base (L2.CX P w) 3 f fd ["self", "at", "most"] (spCheckAt K CA) := by
  refine F.okX scCheckAt (fun vs H Q E h => ?_) (fun cdv A outer s H vs Q E hr h => ?_)
  · obtain ⟨x, v, d, m, rfl, _⟩ := h
    rfl
  · obtain ⟨x, v, d, m, rfl, th, q, bad⟩ := h
    refine ⟨_, pss_one (ps_if (PW.pt (pw_or (pt_not (pt_val (pe_callH G1 hr (by rfl) pass0 (pa_cons (pv 1) pa_nil)))) (pw_or1 (pt_not (pt_chain op_le op_le pe_int (pv 1) (pv 2)))))) (pss_one (ps_err rfl (takes_of rfl rfl rfl rfl) S hr (by decide) (pv 1))) pss_nil), ?_⟩
    refine ⟨_, rfl, v, d, rfl, th, _, rfl, ?_⟩
    have raise : okAt d m = false → ∀ H2, H2 = H → _ := fun e H2 e2 => err_go (K := K) (C := CA) (f := "index") (y := v) (H1 := H) (Q := E) fun dd hd => bad e H dd (Same.refl H) hd
    cases d with
    | int k =>
      obtain rfl : v = .int k := by
        cases th with
        | dat h => cases h; rfl
      refine iteF ⟨_, rfl, _, _, rfl, rfl, _, rfl, ?_⟩
      cases c1 : decide (0 ≤ k) with
      | false => exact iteF ⟨_, rfl, iteT ⟨_, rfl, raise (by simp [okAt, c1]) H rfl⟩⟩
      | true =>
        refine iteT ⟨_, rfl, _, _, rfl, rfl, _, rfl, ?_⟩
        cases c2 : decide (k ≤ m) with
        | false => exact iteT ⟨_, rfl, raise (by simp [okAt, c2]) H rfl⟩
        | true => exact iteF (q (by simp [okAt, c1, c2]))
    | none => exact iteT (iteT ⟨_, rfl, raise rfl H rfl⟩)
    | bool b => exact iteT (iteT ⟨_, rfl, raise rfl H rfl⟩)
    | str s => exact iteT (iteT ⟨_, rfl, raise rfl H rfl⟩)
    | list xs => exact iteT (iteT ⟨_, rfl, raise rfl H rfl⟩)
    | tuple xs => exact iteT (iteT ⟨_, rfl, raise rfl H rfl⟩)
    | dict xs => exact iteT (iteT ⟨_, rfl, raise rfl H rfl⟩)
end

/-! ### room -/
def crossL (f : Int → Bool) (rs : List Row) (a : Int) (k : Nat) : List Int :=
  (if f (k : Nat) = false ∧ (k : Int) < a ∧ a ≤ (((aim rs k).getD 0 : Nat) : Int) then [255 - way f rs k] else []) ++ (if f (k : Nat) = false ∧ (((aim rs k).getD 0 : Nat) : Int) < a ∧ a ≤ (k : Int) then [way f rs k - (-256)] else [])
def leftL (f : Int → Bool) (rs : List Row) (a : Int) (ks : List Nat) : List Int := ks.flatMap (crossL f rs a)
def minO : List Int → V
  | [] => .non
  | n :: ns => .int (ns.foldl min n)
def spRoom (K : PySem.W.Frag) (C CA : Addr) : Sp := fun vs H Q E => ∃ (x : Addr) (v : V) (d : PyData) (rcs : List RowC), vs = [.ref x, v] ∧ DraftV K H C x rcs ∧ noEven (rsC rcs) ∧ Th K H v d ∧
  (∀ k : Int, d = .int k → okAt d (rcs.length : Nat) = true → ∀ H' g, Same H H' → Grown (rsC rcs) g → Q (minO (leftL (mem g) (rsC rcs) k (inn (rsC rcs)))) H') ∧ (okAt d (rcs.length : Nat) = false → AtE CA v H E)
abbrev sRoom : Stmt := mth 20
abbrev NRo : List Str := ["self", "at", "far", "offsets", "left", "index", "aim"]
theorem scRoom : FnScope NRo ["self", "at"] (defScope sRoom) := ⟨rfl, rfl, rfl, by decide +kernel, rfl, by decide +kernel, by decide +kernel⟩
theorem okAt_int {d : PyData} {m : Int} (h : okAt d m = true) : ∃ k, d = .int k ∧ 0 ≤ k ∧ k ≤ m := by
  cases d with
  | int k =>
    unfold okAt at h
    rw [Bool.and_eq_true] at h
    exact ⟨k, rfl, of_decide_eq_true h.1, of_decide_eq_true h.2⟩
  | _ => cases h
theorem cross_len (f : Int → Bool) (rs : List Row) (a : Int) (k : Nat) : (crossL f rs a k).length ≤ 2 := by
  unfold crossL
  rw [List.length_append]
  split <;> split <;> simp
theorem left_len (f : Int → Bool) (rs : List Row) (a : Int) : ∀ ks : List Nat, (leftL f rs a ks).length ≤ 2 * ks.length
  | [] => Nat.le_refl _
  | k :: ks => by
    have h := left_len f rs a ks
    have h2 := cross_len f rs a k
    unfold leftL at h ⊢
    rw [List.flatMap_cons, List.length_append, List.length_cons]
    omega
theorem left_snoc (f : Int → Bool) (rs : List Row) (a : Int) (ks : List Nat) (k : Nat) : leftL f rs a (ks ++ [k]) = leftL f rs a ks ++ crossL f rs a k := by
  unfold leftL
  rw [List.flatMap_append]
  simp
theorem sq_frz {K : PySem.W.Frag} {H H' : Hp} {d a : Addr} {o : HO} {xs : List V} (hd : H d = some o) (hn : notTup o) (e : ∀ b u, b ≠ d → H b = some u → H' b = some u) (h : SqT K H a xs) : SqT K H' a xs := by
  rcases h with (h | ⟨u, h⟩) | h
  · have : a ≠ d := fun z => by
      rw [z, hd] at h
      cases h
      exact hn
    exact .inl (.inl (e _ _ this h))
  · have : a ≠ d := fun z => by
      rw [z, hd] at h
      cases h
      exact hn
    exact .inl (.inr ⟨u, e _ _ this h⟩)
  · exact .inr h
def forB : Stmt → List Stmt
  | .For _ _ b _ _ => b
  | _ => []
abbrev rmB (j : Nat) : Stmt := (forB ((defBody sRoom).getD 5 (.Pass ⟨0, 0, 0, 0⟩))).getD j (.Pass ⟨0, 0, 0, 0⟩)
abbrev XR (P : Program) (w : World) (K : PySem.W.Frag) (mg : Str → Option Value) (base : Heap) (f : Addr) (cdv : Value) (A : Around) (outer : List Env) (s : Shared) (H : Hp) (E : XK) : Cx := cxOf (L2.CX P w) P w K mg base NRo "Draft.room" (defScope sRoom) f cdv A outer s H E
/-- what stands while the dict is walked -/
structure RmH (K : PySem.W.Frag) (C x dx p fq d o pg O L : Addr) (od : Obj) (rs : List Row) (g : List Int) (acc : List Int) (H : Hp) : Prop where
  ins : H x = some (.ins C dx (drF p fq d o))
  dic : H d = some (.frz od (.dK (aimD rs)))
  off : H O = some (.lst (offTo (mem g) rs rs.length))
  far : SqT K H pg (g.map V.int)
  lst : H L = some (.lst (acc.map V.int))
theorem RmH.put {K : PySem.W.Frag} {C x dx p fq d o pg O L : Addr} {od : Obj} {rs : List Row} {g acc acc' : List Int} {H : Hp} (h : RmH K C x dx p fq d o pg O L od rs g acc H) (hOL : O ≠ L) : RmH K C x dx p fq d o pg O L od rs g acc' (upd H L (.lst (acc'.map V.int))) :=
  ⟨by rw [upd_ne (ne_of h.ins h.lst (by intro z; cases z))]; exact h.ins, by rw [upd_ne (ne_of h.dic h.lst (by intro z; cases z))]; exact h.dic, by rw [upd_ne hOL]; exact h.off, sqT_put h.far h.lst trivial, upd_same⟩
section
variable {P : Program} {w : World} {K : PySem.W.Frag} {mg : Str → Option Value} {base : Heap} {C f : Addr} {cdv : Value} {A : Around} {outer : List Env} {s : Shared} {H0 : Hp} {E : XK}
theorem rm_val {rs : List Row} {kk j : Nat} (hmem : kk ∈ inn rs) (ej : aim rs kk = some j) : valV (aimD rs) (Sum.inl (kk : Int)) = some (.int (j : Int)) := by
  unfold aimD
  rw [mapD_val, if_pos hmem, ej]
  rfl
theorem rm_way {f : Int → Bool} {rs : List Row} {kk j : Nat} (ej : aim rs kk = some j) : way f rs kk = off f rs j - off f rs kk := by
  unfold way
  rw [ej]
  rfl
theorem rm_if1 {t2 : Tok} (B : DrC K C) (g2 : mg "HIGHEST" = some (.int 255 t2)) (G5 : Has P w K mg base CX0 5 "way_in" ["aims", "offsets", "index"] (spWayIn K)) (hr : Room 5 (XR P w K mg base f cdv A outer s H0 E).A) : ∃ t, PS (XR P w K mg base f cdv A outer s H0 E) (rmB 0) t ∧
    ∀ (x dx p fq d o pg O L : Addr) (od : Obj) (D : Ends) (H : Hp) (rs : List Row) (g acc : List Int) (k : Int) (kk j : Nat), RmH K C x dx p fq d o pg O L od rs g acc H → O ≠ L → kk ∈ inn rs → aim rs kk = some j → j < rs.length → kk < rs.length → acc.length ≤ 1900 →
      (∀ H', (∀ c u, c ≠ L → H c = some u → H' c = some u) → RmH K C x dx p fq d o pg O L od rs g (acc ++ (if mem g (kk : Nat) = false ∧ (kk : Int) < k ∧ k ≤ (j : Int) then [255 - way (mem g) rs kk] else [])) H' → D.nx [some (.ref x), some (.int k), some (.ref pg), some (.ref O), some (.ref L), some (.int (kk : Int)), some (.int (j : Int))] H') →
      t D [some (.ref x), some (.int k), some (.ref pg), some (.ref O), some (.ref L), some (.int (kk : Int)), some (.int (j : Int))] H := by
  refine ⟨_, (ps_if (PW.pt (pw_and (pt_cmpR op_notIn_seq (pv 5) (pv 2) (by rfl)) (pw_and1 (pt_chain op_lt op_le (pv 5) (pv 1) (pv 6))))) (pss_one (ps_expr (pe_bm PySem.F.plainAttrs_list PySem.F.slot_list_append PySem.F.type_list_append mt_append (pv 4) (pa_cons (pe_op op_sub (pe_glob (v := .int 255) rfl g2 ⟨_, rfl⟩) (pe_callH G5 hr (by rfl) pass0 (pa_cons (pe_fld (pv 0) rfl) (pa_cons (pv 3) (pa_cons (pv 5) pa_nil))))) pa_nil)))) pss_nil), ?_⟩
  intro x dx p fq d o pg O L od D H rs g acc k kk j h hOL hmem ej hj hlt ha q
  refine ⟨_, rfl, _, rfl, pg, _, rfl, .inr h.far, rfl, flat_ints g, _, rfl, ?_⟩
  show if (!inV (.int (kk : Int)) (g.map V.int)) = true then _ else _
  rw [inV_ints]
  have em : decide ((kk : Int) ∈ g) = mem g (kk : Int) := rfl
  rw [em]
  have stay : ¬ (mem g (kk : Nat) = false ∧ (kk : Int) < k ∧ k ≤ (j : Int)) → D.nx [some (.ref x), some (.int k), some (.ref pg), some (.ref O), some (.ref L), some (.int (kk : Int)), some (.int (j : Int))] H := fun no => by
    refine q H (fun _ _ _ e => e) ?_
    rw [if_neg no, List.append_nil]
    exact h
  cases c : mem g (kk : Int) with
  | true => exact iteF (iteF (stay fun z => by have := z.1; rw [c] at this; cases this))
  | false =>
    refine iteT ⟨_, rfl, _, rfl, _, _, rfl, rfl, _, rfl, ?_⟩
    by_cases c1 : (kk : Int) < k
    · rw [decide_eq_true c1]
      refine iteT ⟨_, rfl, _, _, rfl, rfl, _, rfl, ?_⟩
      by_cases c2 : k ≤ (j : Int)
      · rw [decide_eq_true c2]
        refine iteT ⟨_, rfl, .inl ⟨rfl, _, SqL.of h.lst⟩, _, rfl, x, C, dx, _, _, rfl, h.ins, B.cl, B.n3, rfl, _, rfl, _, rfl, d, O, aimD rs, offTo (mem g) rs rs.length, (kk : Int), (j : Int), off (mem g) rs j, off (mem g) rs kk, rfl, .inr ⟨od, h.dic⟩, rm_val hmem ej, SqL.of h.off, offTo_at (by omega), offTo_at (by omega), _, _, rfl, rfl, L, _, _, rfl, rfl, h.lst, ?_, ?_⟩
        · rw [List.length_map]
          exact Nat.lt_of_le_of_lt ha (by decide)
        · rw [← rm_way (f := mem g) ej]
          have e : (acc.map V.int ++ [V.int (255 - way (mem g) rs kk)]) = (acc ++ [255 - way (mem g) rs kk]).map V.int := by
            rw [List.map_append]
            rfl
          rw [e]
          refine q _ (fun c u hc e => by rw [upd_ne hc]; exact e) ?_
          rw [if_pos ⟨c, c1, c2⟩]
          exact h.put hOL
      · rw [decide_eq_false c2]
        exact iteF (stay fun z => c2 z.2.2)
    · rw [decide_eq_false c1]
      exact iteF ⟨_, rfl, iteF (stay fun z => c1 z.2.1)⟩
theorem rm_if2 {t1 : Tok} (B : DrC K C) (g1 : mg "LOWEST" = some (.int (-256) t1)) (G5 : Has P w K mg base CX0 5 "way_in" ["aims", "offsets", "index"] (spWayIn K)) (hr : Room 5 (XR P w K mg base f cdv A outer s H0 E).A) : ∃ t, PS (XR P w K mg base f cdv A outer s H0 E) (rmB 1) t ∧
    ∀ (x dx p fq d o pg O L : Addr) (od : Obj) (D : Ends) (H : Hp) (rs : List Row) (g acc : List Int) (k : Int) (kk j : Nat), RmH K C x dx p fq d o pg O L od rs g acc H → O ≠ L → kk ∈ inn rs → aim rs kk = some j → j < rs.length → kk < rs.length → acc.length ≤ 1901 →
      (∀ H', (∀ c u, c ≠ L → H c = some u → H' c = some u) → RmH K C x dx p fq d o pg O L od rs g (acc ++ (if mem g (kk : Nat) = false ∧ (j : Int) < k ∧ k ≤ (kk : Int) then [way (mem g) rs kk - (-256)] else [])) H' → D.nx [some (.ref x), some (.int k), some (.ref pg), some (.ref O), some (.ref L), some (.int (kk : Int)), some (.int (j : Int))] H') →
      t D [some (.ref x), some (.int k), some (.ref pg), some (.ref O), some (.ref L), some (.int (kk : Int)), some (.int (j : Int))] H := by
  refine ⟨_, (ps_if (PW.pt (pw_and (pt_cmpR op_notIn_seq (pv 5) (pv 2) (by rfl)) (pw_and1 (pt_chain op_lt op_le (pv 6) (pv 1) (pv 5))))) (pss_one (ps_expr (pe_bm PySem.F.plainAttrs_list PySem.F.slot_list_append PySem.F.type_list_append mt_append (pv 4) (pa_cons (pe_op op_sub (pe_callH G5 hr (by rfl) pass0 (pa_cons (pe_fld (pv 0) rfl) (pa_cons (pv 3) (pa_cons (pv 5) pa_nil)))) (pe_glob (v := .int (-256)) rfl g1 ⟨_, rfl⟩)) pa_nil)))) pss_nil), ?_⟩
  intro x dx p fq d o pg O L od D H rs g acc k kk j h hOL hmem ej hj hlt ha q
  refine ⟨_, rfl, _, rfl, pg, _, rfl, .inr h.far, rfl, flat_ints g, _, rfl, ?_⟩
  show if (!inV (.int (kk : Int)) (g.map V.int)) = true then _ else _
  rw [inV_ints]
  have em : decide ((kk : Int) ∈ g) = mem g (kk : Int) := rfl
  rw [em]
  have stay : ¬ (mem g (kk : Nat) = false ∧ (j : Int) < k ∧ k ≤ (kk : Int)) → D.nx [some (.ref x), some (.int k), some (.ref pg), some (.ref O), some (.ref L), some (.int (kk : Int)), some (.int (j : Int))] H := fun no => by
    refine q H (fun _ _ _ e => e) ?_
    rw [if_neg no, List.append_nil]
    exact h
  cases c : mem g (kk : Int) with
  | true => exact iteF (iteF (stay fun z => by have := z.1; rw [c] at this; cases this))
  | false =>
    refine iteT ⟨_, rfl, _, rfl, _, _, rfl, rfl, _, rfl, ?_⟩
    by_cases c1 : (j : Int) < k
    · rw [decide_eq_true c1]
      refine iteT ⟨_, rfl, _, _, rfl, rfl, _, rfl, ?_⟩
      by_cases c2 : k ≤ (kk : Int)
      · rw [decide_eq_true c2]
        refine iteT ⟨_, rfl, .inl ⟨rfl, _, SqL.of h.lst⟩, _, rfl, x, C, dx, _, _, rfl, h.ins, B.cl, B.n3, rfl, _, rfl, _, rfl, d, O, aimD rs, offTo (mem g) rs rs.length, (kk : Int), (j : Int), off (mem g) rs j, off (mem g) rs kk, rfl, .inr ⟨od, h.dic⟩, rm_val hmem ej, SqL.of h.off, offTo_at (by omega), offTo_at (by omega), _, _, rfl, rfl, L, _, _, rfl, rfl, h.lst, ?_, ?_⟩
        · rw [List.length_map]
          exact Nat.lt_of_le_of_lt ha (by decide)
        · rw [← rm_way (f := mem g) ej]
          have e : (acc.map V.int ++ [V.int (way (mem g) rs kk - (-256))]) = (acc ++ [way (mem g) rs kk - (-256)]).map V.int := by
            rw [List.map_append]
            rfl
          rw [e]
          refine q _ (fun c u hc e => by rw [upd_ne hc]; exact e) ?_
          rw [if_pos ⟨c, c1, c2⟩]
          exact h.put hOL
      · rw [decide_eq_false c2]
        exact iteF (stay fun z => c2 z.2.2)
    · rw [decide_eq_false c1]
      exact iteF ⟨_, rfl, iteF (stay fun z => c1 z.2.1)⟩
end
section
variable {P : Program} {w : World} {K : PySem.W.Frag} {mg : Str → Option Value} {base : Heap}
theorem ok_room {f C CA : Addr} {fd : FuncData} {t1 t2 : Tok} (F : Fun K "room" "Draft.room" sRoom f fd) (T : Bi mg) (B : DrC K C) (g1 : mg "LOWEST" = some (.int (-256) t1)) (g2 : mg "HIGHEST" = some (.int 255 t2)) (G1 : HasM P w K mg base CX0 5 C "check_even" ["self"] (spCheckEven K C)) (G2 : HasM P w K mg base (L2.CX P w) 5 C "check_at" ["self", "at", "most"] (spCheckAt K CA))
    (G3 : HasM P w K mg base CX0 5 C "grown" ["self"] (spGrown K C)) (G4 : Has P w K mg base CX0 5 "measured" ["rows", "far"] (spMeasured K)) (G5 : Has P w K mg base CX0 5 "way_in" ["aims", "offsets", "index"] (spWayIn K)) : FnOk P w K mg base (L2.CX P w) 6 f fd ["self", "at"] (spRoom K C CA) := by
  refine F.okX scRoom (fun vs H Q E h => ?_) (fun cdv A outer s H vs Q E hr h => ?_)
  · obtain ⟨x, v, d, rcs, rfl, _⟩ := h
    rfl
  · obtain ⟨x, v, d0, rcs, rfl, hdr, nE, th, q, bad⟩ := h
    obtain ⟨ok, dx, p, fq, d, o, ys, hx⟩ := id hdr
    have hu64 := hr.units
    obtain ⟨tA, p1, r1⟩ := rm_if1 (w := w) (P := P) (f := f) (cdv := cdv) (outer := outer) (s := s) (H0 := H) (E := E) B g2 G5 hr
    obtain ⟨tB, p2, r2⟩ := rm_if2 (w := w) (P := P) (f := f) (cdv := cdv) (outer := outer) (s := s) (H0 := H) (E := E) B g1 G5 hr

    refine ⟨_, (pss_cons (ps_expr (pe_methH0 G1 (pv 0) hr pass0))
      (pss_cons (ps_expr (pe_methH G2 (pv 0) hr (passes_call (W := fun cls d _ H => E cls d H) (takes_of rfl rfl rfl rfl) (fun _ _ _ _ h => h)) (pa_cons (pv 1) (pa_cons (pe_callB call_len_seq (by rfl) T.len (by decide +kernel) (pa_cons (pe_fld (pv 0) rfl) pa_nil)) pa_nil))))
      (pss_cons (ps_set (i := 2) scRoom.nd rfl (.inl rfl) (pe_methH0 G3 (pv 0) hr pass0))
      (pss_cons (ps_set (i := 3) scRoom.nd rfl (.inl rfl) (pe_callH G4 hr (by rfl) pass0 (pa_cons (pe_fld (pv 0) rfl) (pa_cons (pv 2) pa_nil))))
      (pss_cons (ps_set (i := 4) scRoom.nd rfl (.inl rfl) (pe_lst pa_nil))
      (pss_cons (ps_lock (ps_for (passes_of rfl) rfl (pi_items (pe_fld (pv 0) rfl)) (pg_tup rfl (pgs_cons (pg_name (i := 5) scRoom.nd rfl (.inl rfl)) (pgs_cons (pg_name (i := 6) scRoom.nd rfl (.inl rfl)) pgs_nil)))
        (pss_cons p1 (pss_one p2))))
      (pss_one (ps_ret (pe_callBK (cr_minD rfl hu64) (by rfl) T.min (by decide +kernel) (pa_cons (pv 4) pa_nil) (pk_cons pe_non pk_nil)))))))))), ?_⟩
    refine ⟨_, rfl, x, dx, _, rfl, hx.ins, rfl, x, rcs, rfl, hdr, nE, fun H1 s1 => ?_⟩
    have hx1 := hx.same s1
    have th1 := th_same s1 th
    have yl : ys.length = rcs.length := by
      rw [rowsV_len hx.rows, List.length_map]
    refine ⟨_, rfl, x, dx, _, rfl, hx1.ins, rfl, _, rfl, _, rfl, x, C, dx, _, _, rfl, hx1.ins, B.cl, B.n1, rfl, p, ys, rfl, .inr hx1.parts, ?_⟩
    rw [yl]
    refine ⟨x, v, d0, _, rfl, th1, fun okk => ?_, fun no => fun H' dd s hd => bad no H' dd (s1.trans s) hd⟩
    obtain ⟨k, rfl, k0, k1⟩ := okAt_int okk
    obtain rfl : v = .int k := by
      cases th with
      | dat h => cases h; rfl
    have q2 := q k rfl okk
    refine ⟨_, rfl, x, dx, _, rfl, hx1.ins, rfl, x, rcs, rfl, ⟨ok, dx, p, fq, d, o, ys, hx1⟩, fun H2 pg g s2 hg gr => ?_⟩
    have hx2 := hx1.same s2
    have ol : (rsC rcs).length ≤ 900 := ok.len
    refine ⟨_, rfl, x, C, dx, _, _, rfl, hx2.ins, B.cl, B.n1, rfl, _, rfl, p, pg, ys, rsC rcs, g, rfl, hx2.parts, hx2.rows, fun r hr => fine_ok (ok.fine r hr), ol, .inr hg, fun H3 O s3 hO0 hO => ?_⟩
    refine ⟨Nat.zero_le _, fun L hL => ?_⟩
    have s4 := s3.trans (same_new (o := .lst []) hL)
    have hx4 := hx2.same s4
    have hO4 := (same_new (o := .lst []) hL) _ _ hO
    have hg4 := sqT_same s4 hg
    have s04 := (s1.trans s2).trans s4
    generalize hH4 : upd H3 L (.lst []) = H4 at *
    have hL4 : H4 L = some (.lst []) := by rw [← hH4]; exact upd_same
    refine ⟨d, _, hx4.aims, trivial, fun od => ?_⟩
    have xd : x ≠ d := ne_of hx4.ins hx4.aims (by intro z; cases z)
    have Od : O ≠ d := ne_of hO4 hx4.aims (by intro z; cases z)
    have Ld : L ≠ d := ne_of hL4 hx4.aims (by intro z; cases z)
    have OL : O ≠ L := ne_of_none hO hL
    have xL : x ≠ L := ne_of hx4.ins hL4 (by intro z; cases z)
    refine ⟨_, rfl, x, C, dx, _, _, rfl, by rw [upd_ne xd]; exact hx4.ins, B.cl, B.n3, rfl, d, od, _, rfl, upd_same, ?_⟩
    have il := inn_len (rsC rcs)
    have len2 := left_len (mem g) (rsC rcs) k
    refine for_it walk_items (fun i σ H5 => ∃ (a b : Option V), σ = [some (.ref x), some (.int k), some (.ref pg), some (.ref O), some (.ref L), a, b] ∧ (∀ c u, c ≠ d → c ≠ L → H4 c = some u → H5 c = some u) ∧ RmH K C x dx p fq d o pg O L od (rsC rcs) g (leftL (mem g) (rsC rcs) k ((inn (rsC rcs)).take i)) H5)
      ⟨none, none, rfl, fun c u h1 h2 e => by rw [upd_ne h1]; exact e, ⟨by rw [upd_ne xd]; exact hx4.ins, upd_same, by rw [upd_ne Od]; exact hO4, sqT_put hg4 hx4.aims trivial, by rw [upd_ne Ld]; exact hL4⟩⟩ (fun i σ H5 _ ⟨_, _, _, _, h⟩ => h.dic) ?_ ?_
    · rintro i z σ H5 H5' hi ⟨a, b, rfl, kp, rm⟩ ⟨TT, x', y', rfl, hT, rfl, hx', hy'⟩
      obtain ⟨kk, hkk⟩ : ∃ kk, (inn (rsC rcs))[i]? = some kk := by
        have : i < (inn (rsC rcs)).length := by
          unfold aimD at hi
          rw [mapD_len] at hi
          exact hi
        exact ⟨_, List.getElem?_eq_getElem this⟩
      have hmem := List.mem_of_getElem? hkk
      obtain ⟨hlt, j, ej, hj⟩ := mem_lt hmem
      have hkv : (aimD (rsC rcs))[i]? = some (Sum.inl (kk : Int), V.int (j : Int)) := by
        unfold aimD mapD
        rw [List.getElem?_map, hkk]
        show some (Sum.inl (kk : Int), V.int (((aim (rsC rcs) kk).getD 0 : Nat) : Int)) = _
        rw [ej]
        rfl
      obtain rfl : x' = V.int (kk : Int) := by
        have hx2 : ((aimD (rsC rcs))[i]?.map fun kv => kV kv.1) = some x' := hx'
        rw [hkv] at hx2
        exact (Option.some.inj hx2).symm
      obtain rfl : y' = V.int (j : Int) := by
        have hx2 : ((aimD (rsC rcs))[i]?.map Prod.snd) = some y' := hy'
        rw [hkv] at hx2
        exact (Option.some.inj hx2).symm
      have s5 : Same H5 (upd H5 TT (.tup [V.int (kk : Int), V.int (j : Int)])) := same_new hT
      have hT6 : (upd H5 TT (.tup [V.int (kk : Int), V.int (j : Int)])) TT = some (.tup [V.int (kk : Int), V.int (j : Int)]) := upd_same
      generalize hH6 : upd H5 TT (.tup [V.int (kk : Int), V.int (j : Int)]) = H6 at s5 hT6
      have kp6 : ∀ c u, c ≠ d → c ≠ L → H4 c = some u → H6 c = some u := fun c u h1 h2 e => s5 _ _ (kp c u h1 h2 e)
      have rm6 : RmH K C x dx p fq d o pg O L od (rsC rcs) g (leftL (mem g) (rsC rcs) k ((inn (rsC rcs)).take i)) H6 := ⟨s5 _ _ rm.ins, s5 _ _ rm.dic, s5 _ _ rm.off, sqT_same s5 rm.far, s5 _ _ rm.lst⟩
      have tk : (inn (rsC rcs)).take (i + 1) = (inn (rsC rcs)).take i ++ [kk] := by
        rw [List.take_add_one, hkk]
        rfl
      have ll := len2 ((inn (rsC rcs)).take i)
      have tl : ((inn (rsC rcs)).take i).length ≤ (inn (rsC rcs)).length := by
        rw [List.length_take]
        omega
      refine ⟨TT, _, rfl, SqT.of hT6, rfl, _, _, rfl, _, _, rfl, rfl, ?_⟩
      refine r1 x dx p fq d o pg O L od _ H6 (rsC rcs) g _ k kk j rm6 OL hmem ej hj hlt (by omega) fun H7 k7 rm7 => ?_
      refine r2 x dx p fq d o pg O L od _ H7 (rsC rcs) g _ k kk j rm7 OL hmem ej hj hlt ?_ fun H8 k8 rm8 => ?_
      · rw [List.length_append]
        split
        · simp only [List.length_singleton]; omega
        · simp only [List.length_nil]; omega
      · refine ⟨_, _, rfl, fun c u h1 h2 e => k8 c u h2 (k7 c u h2 (kp6 c u h1 h2 e)), ?_⟩
        rw [tk, left_snoc]
        unfold crossL
        rw [ej, ← List.append_assoc]
        exact rm8
    · rintro σ H5 ⟨a, b, rfl, kp, rm⟩
      have tl : (inn (rsC rcs)).take (aimD (rsC rcs)).length = inn (rsC rcs) := by
        unfold aimD
        rw [mapD_len]
        exact List.take_length
      rw [tl] at rm
      refine ⟨rm.dic, ?_⟩
      have hL9 : upd H5 d (.dK (aimD (rsC rcs))) L = some (.lst ((leftL (mem g) (rsC rcs) k (inn (rsC rcs))).map V.int)) := by
        rw [upd_ne Ld]
        exact rm.lst
      have s9 : Same H (upd H5 d (.dK (aimD (rsC rcs)))) := fun c u e => by
        have e4 := s04 _ _ e
        by_cases hcd : c = d
        · rw [hcd] at e4 ⊢
          rw [upd_same]
          exact hx4.aims.symm.trans e4
        · have cL : c ≠ L := ne_of_none (((s1.trans s2).trans s3) _ _ e) hL
          rw [upd_ne hcd]
          exact kp _ _ hcd cL e4
      refine ⟨_, rfl, L, _, .non, rfl, rfl, SqL.of hL9, fun e => ?_, fun n ns' e => ?_⟩
      · have := q2 _ g s9 gr
        rw [e] at this
        exact this
      · have := q2 _ g s9 gr
        rw [e] at this
        exact this
end

/-! ### != by an own == -/
section
open PySem.W
variable {prog : Program} {w : World} {A : Around} {E : Value → Shared → Prop} {s : Shared} {K : Frag} {x C f : Addr} {ox : Obj} {od : Option Obj} {b : Value}
theorem ifBound_slotK {M : Model} {args : List Value} {Q : Option Value → Shared → Prop} (X : K.In s.heap) (I : InstAt s.heap x ox C od) (hs : findIn K (.ref C) "__ne__" = some (some (.builtin "object.__ne__")))
    (h : wpAny M A (call (.builtin "object.__ne__") (.ref x :: args)) (fun v => Q (some v)) E s) : wpAny M A (callSpecialIfBound? (.ref x) "__ne__" args) Q E s := by
  simp only [callSpecialIfBound?, bindSpecialIfBound?]
  refine wpAny_holding (wpAny_bind (wpAny_bind (wpAny_bind (I.type.here ((looks_findIn X hs).here ?_)))))
  simp only [PySem.F.slot_enumerate_ne.bind]
  refine wpAny_bind (wpAny_askSetting (wpAny_ite ?_))
  have fin : wpAny M A (call (.builtin "object.__ne__") ([.ref x] ++ args) >>= fun v => pure (some v)) Q E s := wpAny_bind (wpAny_mono h (fun v s' h' => wpAny_pure h') fun _ _ h' => h')
  split
  · exact wpAny_bind (wpAny_pure (wpAny_pure fin))
  · exact wpAny_tryCatch (wpAny_bind (wpAny_pure (wpAny_pure fin)))
theorem check_slotK {M : Model} {rest : List Value} {Q : Unit → Shared → Prop} (X : K.In s.heap) (I : InstAt s.heap x ox C od) (hm : mroIn K C (.type "object") = some true)
    (ha : argsOk "object.__ne__" ⟨.ref x :: rest, []⟩) (hq : Q () s) : wpAny M A (checkBuiltinCall "object.__ne__" ⟨.ref x :: rest, []⟩) Q E s := by
  simp only [checkBuiltinCall, F.cmpKind_ne, F.cmpSplit_ne]
  refine wpAny_bind ?_
  unfold isInstance
  refine wpAny_bind (I.type.here ((looks_mroIn X hm).here ?_))
  simp only [Bool.not_true, Bool.false_eq_true, if_false]
  cases hsig : Manifest.signature? "object.__ne__" with
  | none => first | exact wpAny_pure hq | exact wpAny_pure (wpAny_pure hq) | exact wpAny_bind (wpAny_pure (wpAny_pure hq))
  | some sig =>
    simp only [argsOk, hsig] at ha
    have h2 : Bind.checkArgs "object.__ne__" sig ⟨.ref x :: rest, []⟩ = pure () := ha
    first
    | (show wpAny M A (Bind.checkArgs "object.__ne__" sig ⟨.ref x :: rest, []⟩) Q E _
       rw [h2]; exact wpAny_pure hq)
    | (refine wpAny_pure ?_
       show wpAny M A (Bind.checkArgs "object.__ne__" sig ⟨.ref x :: rest, []⟩) Q E _
       rw [h2]; exact wpAny_pure hq)
theorem objNeK (X : K.In s.heap) (I : InstAt s.heap x ox C od) (hs : findIn K (.ref C) "__eq__" = some (some (.ref f))) (hf : isFn K (.ref f) = true) (hu : A.units < cLine) {Q : Fin → Shared → Prop}
    (hcall : wpAny (model prog w) A (call (.ref f) [.ref x, b]) (fun v s' => ∃ r, v = .bool r ∧ Q (.done (.ret (.bool (!r)))) s') E s) : wpAny (model prog w) A (Builtin.«object.__ne__» ⟨[.ref x, b], []⟩) Q E s := by
  unfold Builtin.«object.__ne__»
  repeat (first
    | with_reducible refine wpAny_cRoomFor hu ?_
    | (refine wpAny_bind (m := callSpecialIfBound? (.ref x) (Str.ofString "__eq__") [b])
        (ifBound_K X I hs hf (wpAny_mono hcall (fun r s' hr => by
          obtain ⟨b, rfl, hq⟩ := hr
          repeat (first | exact hq | exact wpAny_pure hq | exact wpAny_truthy_bool hq | (refine wpAny_bind (m := truthy (.bool _)) (wpAny_truthy_bool ?_)) | wp_step)) fun _ _ e => e)))
    | wp_step)
theorem ne_K {Q : Value → Shared → Prop} (X : K.In s.heap) (I : InstAt s.heap x ox C od) (hb : Looks (model prog w) s.heap (typeOf b) (.ref C)) (hne : findIn K (.ref C) "__ne__" = some (some (.builtin "object.__ne__"))) (hm : mroIn K C (.type "object") = some true)
    (hs : findIn K (.ref C) "__eq__" = some (some (.ref f))) (hf : isFn K (.ref f) = true) (hu : A.units + 1 < cLine)
    (h : wpAny (model prog w) A.in1 (call (.ref f) [.ref x, b]) (fun v s' => ∃ r, v = .bool r ∧ Q (.bool (!r)) s') E s) : wpAny (model prog w) A (richCompare .NotEq (.ref x) b) Q E s := by
  have one : wpAny (model prog w) A (tryCompare (.ref x) "__ne__" b) (fun r s' => ∃ v, r = some v ∧ Q v s') E s := by
    unfold tryCompare
    refine wpAny_bind (ifBound_slotK X I hne (wpAny_call (codeAny_call_builtin PySem.F.slot_enumerate_ne.plain PySem.F.cmpEntry_ne (check_slotK X I hm (PySem.F.cmpArgs_ne _ _) (objNeK (A := A.in1) X I hs hf hu (wpAny_mono h (fun v s' hv => ?_) fun _ _ e => e))))))
    obtain ⟨r, rfl, hq⟩ := hv
    exact ⟨r, rfl, wpAny_pure ⟨_, rfl, hq⟩⟩
  unfold richCompare
  simp only [oneThing_ref]
  refine wpAny_holding (wpAny_bind (wpAny_cRoomFor (Nat.lt_of_succ_lt hu) ?_))
  rw [cmpInfo_NotEq]
  dsimp only
  refine wpAny_bind (I.type.here (wpAny_bind (hb.here ?_)))
  rw [show (Value.ref C != Value.ref C) = false from by simp]
  simp only [Bool.false_eq_true, if_false]
  refine wpAny_bind (wpAny_pure ?_)
  simp only [Bool.false_eq_true, if_false]
  refine wpAny_bind (wpAny_mono one (fun r s' z => ?_) fun _ _ e => e)
  obtain ⟨v, rfl, hq⟩ := z
  exact wpAny_pure hq
end

/-! ### drafts compared -/
structure DrQ (K : PySem.W.Frag) (C fe : Addr) : Prop where
  cls : PySem.W.findIn K (.ref C) "__class__" = some (some (.builtin "object.__class__"))
  spc : PySem.W.specialIn K (.builtin "object.__class__") "__get__" = some (some (.builtin "getset_descriptor.__get__"))
  tks : PySem.W.takesIn K (.builtin "object.__class__") = some true
  mro : PySem.W.mroIn K C (.type "object") = some true
  kit : PySem.W.kitOne K (.ref C) (.ref C) = some true
  ne : PySem.W.findIn K (.ref C) "__ne__" = some (some (.builtin "object.__ne__"))
  eq : PySem.W.findIn K (.ref C) "__eq__" = some (some (.ref fe))
  fn : PySem.W.isFn K (.ref fe) = true
def RD (K : PySem.W.Frag) (C : Addr) : Addr → Addr → Hp → Prop := fun a b H => ∃ rcs, DraftV K H C a rcs ∧ DraftV K H C b rcs
theorem letters_low : ∀ c ∈ lettersS.cps.toList, c < 0x110000 := by decide +kernel
theorem nm_ok {s : Str} (h : isNmS s = true) : PyData.strOk s = true := by
  unfold isNmS at h
  rw [Bool.and_eq_true, Bool.and_eq_true] at h
  have h3 := h.2.2
  rw [List.all_eq_true] at h3
  unfold PyData.strOk
  rw [Array.all_eq_true']
  intro c hc
  have := of_decide_eq_true (h3 c (Array.mem_toList_iff.mpr hc))
  exact decide_eq_true (letters_low c this)
theorem near_ok : ∀ z ∈ nearL, PyData.strOk z = true := by decide +kernel
theorem str_words : PyData.strOk "words" = true := by decide +kernel
theorem str_label : PyData.strOk "label" = true := by decide +kernel
theorem str_even : PyData.strOk "even" = true := by decide +kernel
theorem str_branch : PyData.strOk "branch" = true := by decide +kernel
theorem rowD_lay {rc : RowC} (f : RowFine rc.r) : (rowD rc).canLay0 = true := by
  cases rc with
  | words ks =>
    have h := sumI_lay ks
    simp [rowD, PyData.canLay0, PyData.canLayAll0, h, str_words]
  | label s => simp [rowD, PyData.canLay0, PyData.canLayAll0, str_label, nm_ok f.1]
  | even n => simp [rowD, PyData.canLay0, PyData.canLayAll0, str_even]
  | branch c n m => simp [rowD, PyData.canLay0, PyData.canLayAll0, str_branch, near_ok c f.1, nm_ok f.2.1]
theorem rowD_depth (rc : RowC) : (rowD rc).depth ≤ 9 := by
  cases rc with
  | words ks =>
    have h := sumI_depth ks
    simp only [rowD, PyData.depth, PyData.depthAll]
    omega
  | label s => simp [rowD, PyData.depth, PyData.depthAll]
  | even n => simp [rowD, PyData.depth, PyData.depthAll]
  | branch c n m => simp [rowD, PyData.depth, PyData.depthAll]
theorem rowsD_lay : ∀ {rcs : List RowC}, (∀ r ∈ rsC rcs, RowFine r) → PyData.canLayAll0 (rcs.map rowD) = true
  | [], _ => rfl
  | rc :: rcs, f => by
    have h1 := rowD_lay (rc := rc) (f _ (List.mem_cons_self ..))
    have h2 := rowsD_lay (rcs := rcs) fun r hr => f r (List.mem_cons_of_mem _ hr)
    rw [List.map_cons]
    simp [PyData.canLayAll0, h1, h2]
theorem rowsD_depth : ∀ rcs : List RowC, PyData.depthAll (rcs.map rowD) ≤ 10
  | [] => by simp [PyData.depthAll]
  | rc :: rcs => by
    have h := rowsD_depth rcs
    have h2 := rowD_depth rc
    rw [List.map_cons]
    simp only [PyData.depthAll]
    omega
theorem rowsD_shaped {rcs : List RowC} (f : ∀ r ∈ rsC rcs, RowFine r) : SeqAt.shaped (.tuple (rcs.map rowD)) = true := by
  unfold SeqAt.shaped
  have h := rowsD_depth rcs
  have h1 := rowsD_lay f
  rw [Bool.and_eq_true]
  refine ⟨by simpa [PyData.canLay0] using h1, decide_eq_true ?_⟩
  simp only [PyData.depth]
  omega
theorem rowsD_eqv {rcs : List RowC} (f : ∀ r ∈ rsC rcs, RowFine r) : PyData.eqv (.tuple (rcs.map rowD)) (.tuple (rcs.map rowD)) = true := PySem.SeqAt.eqv_refl _ (by
  have h1 := rowsD_lay f
  simpa [PyData.canLay0] using h1)
abbrev sEq : Stmt := mth 2
theorem scEq : FnScope ["self", "other"] ["self", "other"] (defScope sEq) := ⟨rfl, rfl, rfl, by decide +kernel, rfl, by decide +kernel, by decide +kernel⟩
theorem insTy {K : PySem.W.Frag} {H : Hp} {C a fe dx : Addr} {fs : List (Str × V)} (B : DrC K C) (D : DrQ K C fe) (h : H a = some (.ins C dx fs)) : TyX K H (.ref a) (.ref C) := .base (.ins h B.cl D.cls D.spc D.tks D.mro)
section
variable {P : Program} {w : World} {K : PySem.W.Frag} {mg : Str → Option Value} {base : Heap}
theorem ok_eq {f C fe : Addr} {fd : FuncData} (F : Fun K "__eq__" "Draft.__eq__" sEq f fd) (T : Bi mg) (B : DrC K C) (D : DrQ K C fe) (gD : mg "Draft" = some (.ref C)) : FnOk P w K mg base CX0 1 f fd ["self", "other"] (spEq (RD K C)) := by
  refine F.ok scEq (fun vs H Q E h => ?_) (fun cdv A outer s H vs Q E hr h => ?_)
  · obtain ⟨a, b, rfl, _⟩ := h
    rfl
  · obtain ⟨a, b, rfl, ⟨rcs, ⟨ok, dx, p, q, d, o, ys, hx⟩, _, dx', p', q', d', o', ys', hx'⟩, want⟩ := h
    have hu64 := hr.units
    refine ⟨_, pss_one (ps_ret (pe_and (pe_callB call_isi (by rfl) T.isinstance (by decide +kernel) (pa_cons (pv 1) (pa_cons (pe_glob (v := .ref C) rfl gD rfl) pa_nil))) (pe_one (pe_cmpR (op_eqD hu64) (pe_fld (pv 0) rfl) (pe_fld (pv 1) rfl) (nomark _))))), ?_⟩
    refine ⟨_, rfl, .ref b, .ref C, _, _, _, rfl, .own C, insTy B D hx'.ins, D.kit, _, rfl, iteT ?_⟩
    refine ⟨_, rfl, a, C, dx, _, _, rfl, hx.ins, B.cl, B.n1, rfl, _, rfl, b, C, dx', _, _, rfl, hx'.ins, B.cl, B.n1, rfl, .tuple (rcs.map rowD), .tuple (rcs.map rowD), .tup hx.parts hx.dat, .tup hx'.parts hx'.dat, rowsD_shaped ok.fine, rowsD_shaped ok.fine, ?_⟩
    rw [rowsD_eqv ok.fine]
    exact want H (Ext.rfl')
end
/-- x != y of two such drafts -/
def rNeIns (C : Addr) (R : Addr → Addr → Hp → Prop) : R2 := fun x y H Q => ∃ a b dx dy fs gs, x = .ref a ∧ y = .ref b ∧ H a = some (.ins C dx fs) ∧ H b = some (.ins C dy gs) ∧ R a b H ∧ ∀ H', Ext H H' → Q (.bl false) H'
theorem op_neIns {X : Cx} {n : Nat} {CX : CXT} {C f : Addr} {fd : FuncData} {ps : List Str} {R : Addr → Addr → Hp → Prop} {E : XK} (F : FnOk X.prog X.w X.K X.mg X.base CX n f fd ps (spEq R)) (D : DrQ X.K C f) (hb : Binds X.K fd ps []) (hx : Passes CX X E) (hr : Room (n + 1) X.A) (hu : X.A.units + 1 < cLine) : OpR X (compareOp .NotEq) (rNeIns C R) := by
  intro pins s σ H x y v u Q I rx ry hq
  obtain ⟨a, b, dx, dy, fs, gs, rfl, rfl, ha, hb', hr', q⟩ := hq
  cases rx
  cases ry
  obtain ⟨mA, J, _⟩ := ins_get I.hok ha
  obtain ⟨mB, J', _⟩ := ins_get I.hok hb'
  obtain ⟨od, J, _⟩ := J.look
  obtain ⟨od', J', _⟩ := J'.look
  show wpAny (model X.prog X.w) X.A (richCompare .NotEq (.ref a) (.ref b)) (EP X pins σ Q) X.xe s
  refine ne_K I.kIn J J'.type D.ne D.mro D.eq D.fn hu ?_
  have hsp : spEq R [.ref a, .ref b] H (fun v H' => v = .bl true ∧ Ext H H') E := ⟨a, b, rfl, hr', fun H' e => ⟨rfl, e⟩⟩
  have e0 : Env0 X.prog X.w X.K X.mg X.base X.A.in1 X.stack s H := by
    have e := I.env0
    exact ⟨e.frames, e.mod, e.bs, e.bsz, e.funs, e.frf, e.hok, e.bare⟩
  have hl := F.len _ _ _ _ hsp
  have r2 : Vals [V.ref a, V.ref b] [Value.ref a, Value.ref b] := .cons rfl (.cons rfl .nil)
  refine wpAny_call (codeAny_mono (F.run X.A.in1 X.stack s H ⟨[.ref a, .ref b], []⟩ [.ref a, .ref b] [.ref a, .ref b] _ E hr.in1 e0 (by
    have := hb s [.ref a, .ref b] I.kIn (by simpa using hl)
    simpa using this) r2 hsp) fun r s' hq => ?_)
  cases r with
  | error e => exact hx pins σ H s e s' I hq
  | ok fl =>
    cases fl with
    | ret w =>
      obtain ⟨z, H', I', rz, ez, ex⟩ := I.after hq
      subst ez
      cases rz
      exact ⟨true, rfl, .bl false, H', I', rfl, q H' ex⟩
    | next => exact False.elim hq
    | brk => exact False.elim hq
    | cont => exact False.elim hq
/-! ### slices and sums of tuples -/
theorem cut_whole {xs : List V} {lo hi : Option Int} (h : HT.sIx xs.length 0 lo = 0 ∧ HT.sIx xs.length xs.length hi = xs.length) : cutV xs lo hi = xs := by
  unfold cutV
  rw [h.1, h.2]
  simp
theorem rd_slice {K : PySem.W.Frag} {H : Hp} {a : Addr} {xs : List V} {lo hi : Option Int} {Q : VK} (h : SqT K H a xs) (q : ∀ H' p, Same H H' → SqT K H' p (cutV xs lo hi) → Q (.ref p) H') : rSlA K (.ref a) lo hi H Q :=
  ⟨a, xs, rfl, h, fun hw => q H a (Same.refl H) (by rw [cut_whole hw]; exact h), fun _ p hp => q _ p (same_new hp) (SqT.of upd_same)⟩
theorem rd_catA {K : PySem.W.Frag} {H : Hp} {a b : Addr} {xs ys : List V} {Q : VK} (ha : SqT K H a xs) (hb : SqT K H b ys) (hz : xs.length + ys.length ≤ sizeLine) (q : ∀ H' p, Same H H' → SqT K H' p (xs ++ ys) → Q (.ref p) H') : rCatA K (.ref a) (.ref b) H Q :=
  ⟨a, b, xs, ys, rfl, rfl, ha, hb, hz, fun e => q H b (Same.refl H) (by rw [e]; exact hb), fun _ e => q H a (Same.refl H) (by rw [e, List.append_nil]; exact ha), fun _ _ p hp => q _ p (same_new hp) (SqT.of upd_same)⟩

/-! ### __init__ of the errors, where nothing and where something is handled -/
abbrev sIniB : Stmt := inClass (topS 3) 0
abbrev sIniA : Stmt := inClass (topS 7) 0
theorem scIniB : FnScope ["self", "index"] ["self", "index"] (defScope sIniB) := ⟨rfl, rfl, rfl, by decide +kernel, rfl, by decide +kernel, by decide +kernel⟩
theorem scIniA : FnScope ["self", "index"] ["self", "index"] (defScope sIniA) := ⟨rfl, rfl, rfl, by decide +kernel, rfl, by decide +kernel, by decide +kernel⟩
/-- such a class whose errors are raised in suites, too -/
structure ErrH (P : Program) (w : World) (K : PySem.W.Frag) (mg : Str → Option Value) (base : Heap) (x : Str) (C : Addr) (f : Str) : Prop where
  e : Err P w K mg base x C f
  hot : ∃ (fI : Addr) (fd : FuncData) (p2 : Str), PySem.W.findIn K (.ref C) "__init__" = some (some (.ref fI)) ∧ PySem.W.typeIn K (.ref fI) = some (.type "function") ∧ Binds K fd ["self", p2] [] ∧ L2H.FnH P w K mg base CX0 1 fI fd ["self", p2] (spErrInit K C f)
section
variable {P : Program} {w : World} {K : PySem.W.Frag} {mg : Str → Option Value} {base : Heap}
theorem ok_iniB {f C : Addr} {fd : FuncData} (F : Fun K "__init__" "BadDraft.__init__" sIniB f fd) (T : OexC K C) (no : PySem.W.findIn K (.ref C) "index" = some none) : FnOk P w K mg base CX0 1 f fd ["self", "index"] (spErrInit K C "index") := by
  refine F.ok scIniB (fun vs H Q E h => ?_) (fun cdv A outer s H vs Q E hr h => ?_)
  · obtain ⟨a, y, rfl, _⟩ := h
    rfl
  · obtain ⟨a, y, rfl, ha, q⟩ := h
    exact ⟨_, pss_one (ps_ost (pv 0) (pv 1)), _, rfl, _, rfl, a, C, rfl, T, no, .inl ⟨ha, q⟩⟩
theorem ok_iniA {f C : Addr} {fd : FuncData} (F : Fun K "__init__" "BadAt.__init__" sIniA f fd) (T : OexC K C) (no : PySem.W.findIn K (.ref C) "index" = some none) : FnOk P w K mg base CX0 1 f fd ["self", "index"] (spErrInit K C "index") := by
  refine F.ok scIniA (fun vs H Q E h => ?_) (fun cdv A outer s H vs Q E hr h => ?_)
  · obtain ⟨a, y, rfl, _⟩ := h
    rfl
  · obtain ⟨a, y, rfl, ha, q⟩ := h
    exact ⟨_, pss_one (ps_ost (pv 0) (pv 1)), _, rfl, _, rfl, a, C, rfl, T, no, .inl ⟨ha, q⟩⟩
theorem ok_iniBH {f C : Addr} {fd : FuncData} (F : Fun K "__init__" "BadDraft.__init__" sIniB f fd) (T : OexC K C) (no : PySem.W.findIn K (.ref C) "index" = some none) : L2H.FnH P w K mg base CX0 1 f fd ["self", "index"] (spErrInit K C "index") := by
  obtain ⟨oc, od, kV, doc, pm, an, cdv, ct, osl, rfl, lk, hcd⟩ := F.ex
  refine L2H.fn_ofH lk hcd scIniB (fun vs H Q E h => ?_) fun A outer s H vs Q E p hot hr h => ?_
  · obtain ⟨a, y, rfl, _⟩ := h
    rfl
  · obtain ⟨a, y, rfl, ha, q⟩ := h
    exact ⟨_, pss_one (ps_ost (pv 0) (pv 1)), _, rfl, _, rfl, a, C, rfl, T, no, .inl ⟨ha, q⟩⟩
end
theorem ps_errHN {K0 : PySem.W.Frag} {X : Cx} {W : WX} {x f : Str} {C : Addr} {e : Expr} {te : TE} {p pos pos2 cpos : Pos} {j k : Nat} (hot : L2H.HotC X) (tk : L2.Takes X W) (hK : X.K = K0) (T : ErrH X.prog X.w X.K X.mg X.base x C f) (hr : L2H.RoomH k X.A) (h2 : 2 ≤ k) (he : PE X e te) (hg : Gl X x := by rfl)
    (hdb : (x == ("__debug__" : Str)) = false := by decide) (hs : starEach (e :: []) X.env = (false, eval e X.env) :: starEach [] X.env := by rfl) (hpl : (backTo pos (starEach [] X.env)).any (·.1) = false := by rfl) :
    PS X (.Raise (some (.Call (.Name x p) [e] [] pos)) (some (.Constant .none j cpos)) pos2) (tRaise1 K0 C f te W) := by
  subst hK
  obtain ⟨fI, fd, p2, iC, tI, hb, F⟩ := T.hot
  exact L2H.ps_raiseHN (pos := pos2) hot tk (L2H.pmk5_oexH (p := p) (pos := pos) T.e.T iC tI F (hr.mono h2) hot hb pass0 hg T.e.g (pa_cons he pa_nil hs) hdb hs hpl)
/-! ### put -/
def rowsIn (rcs : List RowC) (k : Nat) (o : Option RowC) : List (Option RowC) := (rcs.take k).map some ++ [o] ++ (rcs.drop k).map some
def putC (rcs : List RowC) (k : Nat) (rc : RowC) : List RowC := rcs.take k ++ [rc] ++ rcs.drop k
theorem rowsIn_some (rcs : List RowC) (k : Nat) (rc : RowC) : rowsIn rcs k (some rc) = (putC rcs k rc).map some := by
  unfold rowsIn putC
  simp
theorem rowsIn_len (rcs : List RowC) (k : Nat) (o : Option RowC) (h : k ≤ rcs.length) : (rowsIn rcs k o).length = rcs.length + 1 := by
  unfold rowsIn
  simp only [List.length_append, List.length_map, List.length_take, List.length_drop, List.length_singleton]
  omega
theorem dps_app {K : PySem.W.Frag} {H : Hp} : ∀ {xs ys : List V} {ds es : List PyData}, DpAll K H xs ds → DpAll K H ys es → DpAll K H (xs ++ ys) (ds ++ es)
  | _, _, _, _, .nil, h => h
  | _, _, _, _, .cons x t, h => .cons x (dps_app t h)
theorem dps_take {K : PySem.W.Frag} {H : Hp} : ∀ {xs : List V} {ds : List PyData} (n : Nat), DpAll K H xs ds → DpAll K H (xs.take n) (ds.take n)
  | _, _, 0, _ => .nil
  | _, _, _ + 1, .nil => .nil
  | _, _, n + 1, .cons h t => .cons h (dps_take n t)
theorem dps_drop {K : PySem.W.Frag} {H : Hp} : ∀ {xs : List V} {ds : List PyData} (n : Nat), DpAll K H xs ds → DpAll K H (xs.drop n) (ds.drop n)
  | _, _, 0, h => h
  | _, _, _ + 1, .nil => .nil
  | _, _, n + 1, .cons h t => dps_drop n t
theorem in_red : ∀ {rcs : List RowC}, (∀ r ∈ rsC rcs, RowFine r) → Each2 InD (rcs.map rowD) (rcs.map some)
  | [], _ => .nil
  | rc :: rcs, f => .cons (.red (f _ (List.mem_cons_self ..))) (in_red fun r hr => f r (List.mem_cons_of_mem _ hr))
theorem fine_sub {rcs rcs' : List RowC} (h : ∀ r ∈ rsC rcs, RowFine r) (s : ∀ rc ∈ rcs', rc ∈ rcs) : ∀ r ∈ rsC rcs', RowFine r := fun r hr => by
  obtain ⟨rc, h1, rfl⟩ := List.mem_map.mp hr
  exact h _ (List.mem_map.mpr ⟨rc, s rc h1, rfl⟩)
/-- Draft(..) where it is made: C's __init__ -/
structure MkD (P : Program) (w : World) (K : PySem.W.Frag) (mg : Str → Option Value) (base : Heap) (C CB : Addr) : Prop where
  ex : ∃ (f : Addr) (fd : FuncData), _root_.L2.Mk K C f ∧ Binds K fd ["self", "rows"] [] ∧ FnOk P w K mg base (L2N.CX P w) 7 f fd ["self", "rows"] (spInit K C CB)
  g : mg "Draft" = some (.ref C)
def PutAt (K : PySem.W.Frag) (C CB CA : Addr) (rcs : List RowC) (v y : V) (d : PyData) (H : Hp) (E : XK) (Qd : Hp → Addr → List RowC → Prop) : Prop :=
  (okAt d (rcs.length : Nat) = false ∧ AtE CA v H E) ∨ ∃ (k : Nat) (dr : PyData) (o : Option RowC), d = .int (k : Int) ∧ k ≤ rcs.length ∧ Dp K H y dr ∧ InD dr o ∧ (¬ Good (rowsIn rcs k o) → AtE CB v H E) ∧
    ∀ rc, o = some rc → DrOk (rsC (putC rcs k rc)) → ∀ H' x', Same H H' → DraftV K H' C x' (putC rcs k rc) → Qd H' x' (putC rcs k rc)
def spPut (K : PySem.W.Frag) (C CB CA : Addr) : Sp := fun vs H Q E => ∃ (x : Addr) (v y : V) (d : PyData) (rcs : List RowC), vs = [.ref x, v, y] ∧ DraftV K H C x rcs ∧ rcs.length ≤ 800 ∧ Th K H v d ∧ PutAt K C CB CA rcs v y d H E (fun H' x' _ => Q (.ref x') H')
abbrev sPut : Stmt := mth 21
theorem scPut : FnScope ["self", "at", "row"] ["self", "at", "row"] (defScope sPut) := ⟨rfl, rfl, rfl, by decide +kernel, rfl, by decide +kernel, by decide +kernel⟩
section
variable {P : Program} {w : World} {K : PySem.W.Frag} {mg : Str → Option Value} {base : Heap}
def tryB : Stmt → List Stmt
  | .Try b _ _ _ _ => b
  | _ => []
def argE : Stmt → Expr
  | .Return (some (.Call _ (e :: _) _ _)) _ => e
  | _ => .Constant .none 0 ⟨0, 0, 0, 0⟩
abbrev putB : Stmt := (tryB ((defBody sPut).getD 1 (.Pass ⟨0, 0, 0, 0⟩))).getD 0 (.Pass ⟨0, 0, 0, 0⟩)
abbrev XP (P : Program) (w : World) (K : PySem.W.Frag) (mg : Str → Option Value) (base : Heap) (f : Addr) (cdv : Value) (A : Around) (outer : List Env) (s : Shared) (H : Hp) (E : XK) : Cx := cxOf (L2.CX P w) P w K mg base ["self", "at", "row"] "Draft.put" (defScope sPut) f cdv A outer s H E
abbrev rListOf (K : PySem.W.Frag) : List V → Hp → VK → Prop := fun xs H Q => ∃ p ys, xs = [.ref p] ∧ (SqL K H p ys ∨ SqT K H p ys) ∧ ∀ l, H l = none → Q (.ref l) (upd H l (.lst ys))
abbrev tArgP (K : PySem.W.Frag) : TE := tOp rCat (tOp rCat (tCB (rListOf K) (tCons (tSl (rSlA K) (tFld K (tVar 0) "parts") tNoPart (tPart (tVar 1))) tNil)) (tLst (tCons (tVar 2) tNil))) (tCB (rListOf K) (tCons (tSl (rSlA K) (tFld K (tVar 0) "parts") (tPart (tVar 1)) tNoPart) tNil))
theorem put_body {C CB f : Addr} {cdv : Value} {A : Around} {outer : List Env} {s : Shared} {H0 : Hp} {E : XK} (T : Bi mg) (B : DrC K C) (M : MkD P w K mg base C CB) (hr : Room 8 (XP P w K mg base f cdv A outer s H0 E).A) :
    (∀ (W : WX) (pn : List (Addr × Obj)) (xe : Value → Shared → Prop), L2N.Takes ((XP P w K mg base f cdv A outer s H0 E).tr pn xe) W → PS ((XP P w K mg base f cdv A outer s H0 E).tr pn xe) putB (tRet (tMakeS C (spInit K C CB) W (tCons (tArgP K) tNil)))) := by
  obtain ⟨fI, fdI, mk, bI, FI⟩ := M.ex
  intro W pn xe tkN
  have hArg : PE ((XP P w K mg base f cdv A outer s H0 E).tr pn xe) (argE putB) (tArgP K) := pe_op op_cat (pe_op op_cat (pe_callTy call_list_of (by rfl) T.list (by decide +kernel) (pa_cons (pe_slice sl_tupA (pe_fld (pv 0) rfl) po_none (po_some (pv 1))) pa_nil)) (pe_lst (pa_cons (pv 2) pa_nil))) (pe_callTy call_list_of (by rfl) T.list (by decide +kernel) (pa_cons (pe_slice sl_tupA (pe_fld (pv 0) rfl) (po_some (pv 1)) po_none) pa_nil))
  exact ps_ret (pe_makeS mk FI hr (by rfl) M.g bI (fun σ => L2N.passAt tkN σ) (pa_cons hArg pa_nil))
theorem put_read {C CB : Addr} (B : DrC K C) {W : WX} {D : Ends} {H : Hp} {x : Addr} {y : V} {rcs : List RowC} {k : Nat} {dr : PyData} {o : Option RowC} (hdr : DraftV K H C x rcs) (hl8 : rcs.length ≤ 800) (hk : k ≤ rcs.length) (hy : Dp K H y dr) (hi : InD dr o)
    (good : ∀ H' rc, o = some rc → DrOk (rsC (putC rcs k rc)) → ∀ x', Same H H' → DraftV K H' C x' (putC rcs k rc) → D.rt (.ref x') H')
    (bad : ¬ Good (rowsIn rcs k o) → ∀ (i : Int) H' dx, Same H H' → H' dx = none → W (.ref CB) (some dx) [some (.ref x), some (.int (k : Int)), some y] (upd H' dx (.xd [("index", .int i)]))) :
    tRet (tMakeS C (spInit K C CB) W (tCons (tArgP K) tNil)) D [some (.ref x), some (.int (k : Int)), some y] H := by
  obtain ⟨ok, dx, p, fq, d, oo, ys, hx⟩ := id hdr
  have yl : ys.length = rcs.length := by
    rw [rowsV_len hx.rows, List.length_map]
  have eT : cutV ys none (some (k : Int)) = ys.take k := cut_to (by omega)
  have eD : cutV ys (some (k : Int)) none = ys.drop k := cut_from (by omega)
  refine ⟨_, rfl, x, C, dx, _, _, rfl, hx.ins, B.cl, B.n1, rfl, _, rfl, (k : Int), rfl, rd_slice hx.parts fun H1 p1 s1 h1 => ?_⟩
  rw [eT] at h1
  refine ⟨p1, _, rfl, .inr h1, fun l1 hl1 => ?_⟩
  have s2 := s1.trans (same_new (o := .lst (ys.take k)) hl1)
  refine ⟨_, rfl, (by show 1 ≤ sizeLine; decide), fun l2 hl2 => ?_⟩
  have n12 : l1 ≠ l2 := ne_of_none upd_same hl2
  have s3 := s2.trans (same_new (o := .lst [y]) hl2)
  refine ⟨l1, l2, _, _, rfl, rfl, by rw [upd_ne n12]; exact upd_same, upd_same, ?_, fun l3 hl3 => ?_⟩
  · rw [List.length_take, List.length_singleton]
    have : min k ys.length + 1 ≤ 1000 := by omega
    exact Nat.le_trans this (by decide)
  have s4 := s3.trans (same_new (o := .lst (ys.take k ++ [y])) hl3)
  have hx4 := hx.same s4
  refine ⟨_, rfl, x, C, dx, _, _, rfl, hx4.ins, B.cl, B.n1, rfl, _, rfl, (k : Int), rfl, ?_⟩
  delta tNoPart
  refine rd_slice hx4.parts fun H5 p5 s5 h5 => ?_
  rw [eD] at h5
  refine ⟨p5, _, rfl, .inr h5, fun l6 hl6 => ?_⟩
  have s6 := s5.trans (same_new (o := .lst (ys.drop k)) hl6)
  have s06 := s4.trans s6
  have n36 : l3 ≠ l6 := ne_of_none (s5 _ _ upd_same) hl6
  refine ⟨l3, l6, _, _, rfl, rfl, s6 _ _ upd_same, upd_same, ?_, fun l7 hl7 => ?_⟩
  · rw [List.length_append, List.length_take, List.length_drop, List.length_singleton]
    have : min k ys.length + 1 + (ys.length - k) ≤ 1000 := by omega
    exact Nat.le_trans this (by decide)
  have s7 := s06.trans (same_new (o := .lst (ys.take k ++ [y] ++ ys.drop k)) hl7)
  generalize hH7 : upd (upd H5 l6 (.lst (ys.drop k))) l7 (.lst (ys.take k ++ [y] ++ ys.drop k)) = H7 at s7
  have hl7' : H7 l7 = some (.lst (ys.take k ++ [y] ++ ys.drop k)) := by rw [← hH7]; exact upd_same
  refine fun x9 dx9 hx9 hdx9 hne => ?_
  have s9 := (same_new (o := .own x9) hdx9).trans (same_new (o := .ins C dx9 []) (H := upd H7 dx9 (.own x9)) (by rw [upd_ne hne.symm]; exact hx9))
  have s79 := s7.trans s9
  refine ⟨x9, l7, dx9, ys.take k ++ [y] ++ ys.drop k, (rcs.map rowD).take k ++ [dr] ++ (rcs.map rowD).drop k, rowsIn rcs k o, rfl, upd_same, .inl (SqL.of (s9 _ _ hl7')), ?_, ?_, ?_, fun rcs' e okn H' kp hd => ⟨rfl, ?_⟩, fun ng i H' dd s hdd => bad ng i H' dd (s79.trans s) hdd⟩
  · have hd9 := dps_same s79 hx.dat
    exact dps_app (dps_app (dps_take k hd9) (.cons (dp_same s79 hy) .nil)) (dps_drop k hd9)
  · unfold rowsIn
    rw [← List.map_take, ← List.map_drop]
    exact ((in_red (fine_sub ok.fine fun rc h => List.mem_of_mem_take h)).app (.cons hi .nil)).app (in_red (fine_sub ok.fine fun rc h => List.mem_of_mem_drop h))
  · rw [rowsIn_len rcs k o hk]
    omega
  · obtain ⟨rc, rfl⟩ : ∃ rc, o = some rc := by
      cases o with
      | none =>
        have : (rowsIn rcs k none)[(rcs.take k).length]? = some none := by
          unfold rowsIn
          rw [List.append_assoc, List.getElem?_append_right (by rw [List.length_map]; exact Nat.le_refl _)]
          simp
        rw [e, List.getElem?_map] at this
        cases z : rcs'[(rcs.take k).length]? with
        | none => rw [z] at this; cases this
        | some q => rw [z] at this; cases Option.some.inj this
      | some rc => exact ⟨rc, rfl⟩
    rw [rowsIn_some] at e
    have e2 : rcs' = putC rcs k rc := ((List.map_inj_right fun a b h => Option.some.inj h).mp e).symm
    subst e2
    refine good H' rc rfl okn x9 (fun b u hb => ?_) hd
    have b9 : b ≠ x9 := ne_of_none (s7 _ _ hb) hx9
    exact kp b u b9 (s79 _ _ hb)
theorem ok_put {f C CB CA : Addr} {fd : FuncData} (F : Fun K "put" "Draft.put" sPut f fd) (T : Bi mg) (B : DrC K C) (SB : ErrH P w K mg base "BadDraft" CB "index") (G2 : HasM P w K mg base (L2.CX P w) 8 C "check_at" ["self", "at", "most"] (spCheckAt K CA)) (M : MkD P w K mg base C CB) : FnOk P w K mg base (L2.CX P w) 9 f fd ["self", "at", "row"] (spPut K C CB CA) := by
  refine F.okX scPut (fun vs H Q E h => ?_) (fun cdv A outer s H vs Q E hr h => ?_)
  · obtain ⟨x, v, y, d, rcs, rfl, _⟩ := h
    rfl
  · obtain ⟨x, v, y, d0, rcs, rfl, hdr, hl8, th, want⟩ := h
    obtain ⟨ok, dx, p, fq, d, o, ys, hx⟩ := id hdr
    have hbody := put_body (f := f) (cdv := cdv) (outer := outer) (s := s) (H0 := H) (E := E) T B M hr
    refine ⟨_, (pss_cons (ps_expr (pe_methH G2 (pv 0) hr (passes_call (W := fun cls d _ H => E cls d H) (takes_of rfl rfl rfl rfl) (fun _ _ _ _ h => h)) (pa_cons (pv 1) (pa_cons (pe_callB call_len_seq (by rfl) T.len (by decide +kernel) (pa_cons (pe_fld (pv 0) rfl) pa_nil)) pa_nil))))
      (pss_one (L2H.ps_try_onlyX (c := .ref CB) (Wout := fun cls d _ H => E cls d H) rfl rfl ⟨rfl, by decide, .inl SB.e.g⟩ (fun hd => L2H.passesAt_of rfl hd) (takes_of rfl rfl rfl rfl)
        (fun W pn xe tkN tkO pass => pss_one (hbody W pn xe tkN))
        (fun a oe cls d pn hz hf tkO hot => by exact pss_one (ps_errHN (K0 := K) hot tkO rfl SB (L2H.roomH_mark hr _) (by decide) (pv 1)))))), ?_⟩
    have yl : ys.length = rcs.length := by
      rw [rowsV_len hx.rows, List.length_map]
    refine ⟨_, rfl, x, dx, _, rfl, hx.ins, rfl, _, rfl, _, rfl, x, C, dx, _, _, rfl, hx.ins, B.cl, B.n1, rfl, p, ys, rfl, .inr hx.parts, ?_⟩
    rw [yl]
    refine ⟨x, v, d0, _, rfl, th, fun okk => ?_, fun no => ?_⟩
    · rcases want with ⟨no, _⟩ | ⟨k, dr, o9, rfl, hk, hy, hi, bad, good⟩
      · rw [no] at okk; cases okk
      obtain rfl : v = .int (k : Int) := by
        cases th with
        | dat h => cases h; rfl
      refine put_read B hdr hl8 hk hy hi (fun H' rc e okn x' s hd => good rc e okn H' x' s hd) (fun ng i H' dd s hdd => ?_)
      refine ⟨true, SB.e.te, fun _ ae hae => ?_, fun z => Bool.noConfusion z⟩
      refine ⟨_, rfl, err_go fun d9 hd9 => ?_⟩
      exact bad ng _ d9 (s.trans (same_new hdd)) hd9
    · rcases want with ⟨_, hE⟩ | ⟨k, dr, o9, rfl, hk, _⟩
      · exact hE
      · have : okAt (.int (k : Int)) (rcs.length : Nat) = true := by
          unfold okAt
          rw [Bool.and_eq_true]
          exact ⟨decide_eq_true (by omega), decide_eq_true (by omega)⟩
        rw [this] at no
        cases no
end

/-! ### without -/
def cutC (rcs : List RowC) (k : Nat) : List RowC := rcs.take k ++ rcs.drop (k + 1)
def spWithout (K : PySem.W.Frag) (C CA : Addr) : Sp := fun vs H Q E => ∃ (x : Addr) (v : V) (d : PyData) (rcs : List RowC), vs = [.ref x, v] ∧ DraftV K H C x rcs ∧ rcs.length ≤ 800 ∧ Th K H v d ∧
  ((okAt d ((rcs.length : Nat) - 1) = false ∧ AtE CA v H E) ∨ ∃ k : Nat, d = .int (k : Int) ∧ k < rcs.length ∧ DrOk (rsC (cutC rcs k)) ∧ ∀ H' x', Same H H' → DraftV K H' C x' (cutC rcs k) → Q (.ref x') H')
abbrev sWithout : Stmt := mth 22
theorem scWithout : FnScope ["self", "at"] ["self", "at"] (defScope sWithout) := ⟨rfl, rfl, rfl, by decide +kernel, rfl, by decide +kernel, by decide +kernel⟩
section
variable {P : Program} {w : World} {K : PySem.W.Frag} {mg : Str → Option Value} {base : Heap}
theorem ok_without {f C CB CA : Addr} {fd : FuncData} (F : Fun K "without" "Draft.without" sWithout f fd) (T : Bi mg) (B : DrC K C) (G2 : HasM P w K mg base (L2.CX P w) 8 C "check_at" ["self", "at", "most"] (spCheckAt K CA)) (M : MkD P w K mg base C CB) : FnOk P w K mg base (L2.CX P w) 9 f fd ["self", "at"] (spWithout K C CA) := by
  refine F.okX scWithout (fun vs H Q E h => ?_) (fun cdv A outer s H vs Q E hr h => ?_)
  · obtain ⟨x, v, d, rcs, rfl, _⟩ := h
    rfl
  · obtain ⟨x, v, d0, rcs, rfl, hdr, hl8, th, want⟩ := h
    obtain ⟨ok, dx, p, fq, d, o, ys, hx⟩ := id hdr
    obtain ⟨fI, fdI, mk, bI, FI⟩ := M.ex
    refine ⟨_, (pss_cons (ps_expr (pe_methH G2 (pv 0) hr (passes_call (W := fun cls d _ H => E cls d H) (takes_of rfl rfl rfl rfl) (fun _ _ _ _ h => h)) (pa_cons (pv 1) (pa_cons (pe_op op_sub (pe_callB call_len_seq (by rfl) T.len (by decide +kernel) (pa_cons (pe_fld (pv 0) rfl) pa_nil)) pe_int) pa_nil))))
      (pss_one (ps_ret (pe_make mk FI hr (by rfl) M.g bI .nil passF (pa_cons (pe_op op_catA (pe_slice sl_tupA (pe_fld (pv 0) rfl) po_none (po_some (pv 1))) (pe_slice sl_tupA (pe_fld (pv 0) rfl) (po_some (pe_op op_add (pv 1) pe_int)) po_none)) pa_nil))))), ?_⟩
    have yl : ys.length = rcs.length := by
      rw [rowsV_len hx.rows, List.length_map]
    refine ⟨_, rfl, x, dx, _, rfl, hx.ins, rfl, _, rfl, _, rfl, x, C, dx, _, _, rfl, hx.ins, B.cl, B.n1, rfl, p, ys, rfl, .inr hx.parts, _, _, rfl, rfl, ?_⟩
    rw [yl]
    refine ⟨x, v, d0, _, rfl, th, fun okk => ?_, fun no => ?_⟩
    · rcases want with ⟨no, _⟩ | ⟨k, rfl, hk, okc, good⟩
      · rw [no] at okk; cases okk
      obtain rfl : v = .int (k : Int) := by
        cases th with
        | dat h => cases h; rfl
      have eT : cutV ys none (some (k : Int)) = ys.take k := cut_to (by omega)
      have eD : cutV ys (some ((k : Int) + 1)) none = ys.drop (k + 1) := cut_from (r := k + 1) (by omega)
      refine ⟨_, rfl, x, C, dx, _, _, rfl, hx.ins, B.cl, B.n1, rfl, _, rfl, (k : Int), rfl, rd_slice hx.parts fun H1 p1 s1 h1 => ?_⟩
      rw [eT] at h1
      have hx1 := hx.same s1
      refine ⟨_, rfl, x, C, dx, _, _, rfl, hx1.ins, B.cl, B.n1, rfl, _, rfl, _, _, rfl, rfl, (k : Int) + 1, rfl, ?_⟩
      delta tNoPart
      refine rd_slice hx1.parts fun H2 p2 s2 h2 => ?_
      rw [eD] at h2
      have s12 := s1.trans s2
      refine rd_catA (sqT_same s2 h1) h2 ?_ fun H3 p3 s3 h3 => ?_
      · rw [List.length_take, List.length_drop]
        have : min k ys.length + (ys.length - (k + 1)) ≤ 1000 := by omega
        exact Nat.le_trans this (by decide)
      have s13 := s12.trans s3
      refine fun x9 dx9 hx9 hdx9 hne => ?_
      have s9 := (same_new (o := .own x9) hdx9).trans (same_new (o := .ins C dx9 []) (H := upd H3 dx9 (.own x9)) (by rw [upd_ne hne.symm]; exact hx9))
      have s79 := s13.trans s9
      refine ⟨x9, p3, dx9, ys.take k ++ ys.drop (k + 1), (rcs.map rowD).take k ++ (rcs.map rowD).drop (k + 1), (cutC rcs k).map some, rfl, upd_same, .inr (sqT_same s9 h3), ?_, ?_, ?_, fun rcs' e okn H' kp hd => ⟨rfl, ?_⟩, fun ng => absurd ⟨cutC rcs k, rfl, okc⟩ ng⟩
      · have hd9 := dps_same s79 hx.dat
        exact dps_app (dps_take k hd9) (dps_drop (k + 1) hd9)
      · unfold cutC
        rw [List.map_append, ← List.map_take, ← List.map_drop]
        exact (in_red (fine_sub ok.fine fun rc h => List.mem_of_mem_take h)).app (in_red (fine_sub ok.fine fun rc h => List.mem_of_mem_drop h))
      · rw [List.length_map]
        unfold cutC
        rw [List.length_append, List.length_take, List.length_drop]
        omega
      · have e2 : rcs' = cutC rcs k := ((List.map_inj_right fun a b h => Option.some.inj h).mp e).symm
        subst e2
        refine good H' x9 (fun b u hb => ?_) hd
        have b9 : b ≠ x9 := ne_of_none (s13 _ _ hb) hx9
        exact kp b u b9 (s79 _ _ hb)
    · rcases want with ⟨_, hE⟩ | ⟨k, rfl, hk, _⟩
      · exact hE
      · have : okAt (.int (k : Int)) ((rcs.length : Nat) - 1) = true := by
          unfold okAt
          rw [Bool.and_eq_true]
          exact ⟨decide_eq_true (by omega), decide_eq_true (by omega)⟩
        rw [this] at no
        cases no
end
/-! ### regrown -/
def mvI (k : Int) (g : List Int) : List Int := g.map fun i => if i < k then i else i + 1
def regF (k : Int) (gO gN : List Int) : List Int := gN.filter fun i => !decide (i ∈ mvI k gO) && !decide (i = k)
def regB (k : Int) (gO gN : List Int) : List Int := (mvI k gO).filter fun i => !decide (i ∈ gN)
def spRegrown (K : PySem.W.Frag) (C CB CA : Addr) : Sp := fun vs H Q E => ∃ (x : Addr) (v y : V) (d : PyData) (rcs : List RowC), vs = [.ref x, v, y] ∧ DraftV K H C x rcs ∧ rcs.length ≤ 200 ∧ Th K H v d ∧
  ((okAt d (rcs.length : Nat) = false ∧ AtE CA v H E) ∨ ∃ (k : Nat) (dr : PyData) (o : Option RowC), d = .int (k : Int) ∧ k ≤ rcs.length ∧ Dp K H y dr ∧ InD dr o ∧ (¬ Good (rowsIn rcs k o) → AtE CB v H E) ∧
    ∀ rc, o = some rc → DrOk (rsC (putC rcs k rc)) → ∀ H' p a b gO gN, Same H H' → Grown (rsC rcs) gO → Grown (rsC (putC rcs k rc)) gN → SqT K H' p [.ref a, .ref b] → SqT K H' a ((regF (k : Int) gO gN).map V.int) → SqT K H' b ((regB (k : Int) gO gN).map V.int) → Q (.ref p) H')
abbrev sRegrown : Stmt := mth 23
abbrev NRg : List Str := ["self", "at", "row", "newer", "elder", "far", "index"]
theorem scRegrown : FnScope NRg ["self", "at", "row"] (defScope sRegrown) := ⟨rfl, rfl, rfl, by decide +kernel, rfl, by decide +kernel, by decide +kernel⟩
theorem int_get {ns : List Int} {i : Nat} {x : V} (h : (ns.map V.int)[i]? = some x) : ∃ n, ns[i]? = some n ∧ x = .int n := by
  rw [List.getElem?_map] at h
  cases e : ns[i]? with
  | none => rw [e] at h; cases h
  | some n => rw [e] at h; exact ⟨n, rfl, (Option.some.inj h).symm⟩
theorem take_snoc {α : Type} {l : List α} {i : Nat} {a : α} (h : l[i]? = some a) : l.take (i + 1) = l.take i ++ [a] := by
  rw [List.take_add_one, h]
  rfl
section
variable {P : Program} {w : World} {K : PySem.W.Frag} {mg : Str → Option Value} {base : Heap}
theorem ok_regrown {f C CB CA : Addr} {fd : FuncData} (F : Fun K "regrown" "Draft.regrown" sRegrown f fd) (T : Bi mg) (B : DrC K C) (G1 : HasM P w K mg base (L2.CX P w) 9 C "put" ["self", "at", "row"] (spPut K C CB CA)) (G2 : HasM P w K mg base CX0 9 C "grown" ["self"] (spGrown K C)) : FnOk P w K mg base (L2.CX P w) 10 f fd ["self", "at", "row"] (spRegrown K C CB CA) := by
  refine F.okX scRegrown (fun vs H Q E h => ?_) (fun cdv A outer s H vs Q E hr h => ?_)
  · obtain ⟨x, v, y, d, rcs, rfl, _⟩ := h
    rfl
  · obtain ⟨x, v, y, d0, rcs, rfl, hdr, hl8, th, want⟩ := h
    refine ⟨_, (pss_cons (ps_set (i := 3) scRegrown.nd rfl (.inr rfl) (pe_methH0 G2 (pe_methH G1 (pv 0) hr (passes_call (W := fun cls d _ H => E cls d H) (takes_of rfl rfl rfl rfl) (fun _ _ _ _ h => h)) (pa_cons (pv 1) (pa_cons (pv 2) pa_nil))) hr pass0))
      (pss_cons (ps_set (i := 4) scRegrown.nd rfl (.inr rfl) (pe_lc (own := [("index", 6)]) (g := gName 6) (tt := tYes) rfl scRegrown.nd (pi_tup (pe_methH0 G2 (pv 0) hr pass0)) (blkOk_by (N := NRg) (sc := defScope sRegrown) (by decide +kernel)) (fun _ _ _ _ _ => pg_name (i := 6) scRegrown.nd rfl (.inl rfl)) (fun _ _ _ _ _ => pts_nil) (fun _ _ _ _ _ => pe_ifExp (pt_cmpR op_lt (pv 6) (pv 1) (nomark _)) (pv 6) (pe_op op_add (pv 6) pe_int))))
      (pss_cons (ps_set (i := 5) scRegrown.nd rfl (.inl rfl) (pe_callTy call_tuple_of (by rfl) T.tuple (by decide +kernel) (pa_cons (pe_lc (own := [("index", 6)]) (g := gName 6) (tt := tAnd (tTest (tOp (rIn K true) (tVar 6) (tVar 4))) (tTest (tOp rNe (tVar 6) (tVar 1)))) (te := tVar 6) rfl scRegrown.nd (pi_tup (pv 3)) (blkOk_by (N := NRg) (sc := defScope sRegrown) (by decide +kernel)) (fun _ _ _ _ _ => pg_name (i := 6) scRegrown.nd rfl (.inl rfl)) (fun _ _ _ _ _ => pts_one (PW.pt (pw_and (pt_cmpR op_notIn_seq (pv 6) (pv 4) (by rfl)) (pw_and1 (pt_cmpR op_ne (pv 6) (pv 1) (nomark _)))))) (fun _ _ _ _ _ => pv 6)) pa_nil)))
      (pss_one (ps_ret (pe_tup (pa_cons (pv 5) (pa_cons (pe_callTy call_tuple_of (by rfl) T.tuple (by decide +kernel) (pa_cons (pe_lc (own := [("index", 6)]) (g := gName 6) (tt := tTest (tOp (rIn K true) (tVar 6) (tVar 3))) (te := tVar 6) rfl scRegrown.nd (pi_list (pv 4)) (blkOk_by (N := NRg) (sc := defScope sRegrown) (by decide +kernel)) (fun _ _ _ _ _ => pg_name (i := 6) scRegrown.nd rfl (.inl rfl)) (fun _ _ _ _ _ => pts_one (pt_cmpR op_notIn_seq (pv 6) (pv 3) (by rfl))) (fun _ _ _ _ _ => pv 6)) pa_nil)) pa_nil)))))))), ?_⟩
    obtain ⟨ok, dx, p, fq, d, o, ys, hx⟩ := id hdr
    refine ⟨_, rfl, x, dx, _, rfl, hx.ins, rfl, _, rfl, _, rfl, x, v, y, d0, rcs, rfl, hdr, by omega, th, ?_⟩
    rcases want with ⟨no, hE⟩ | ⟨k, dr, o9, rfl, hk, hy, hi, bad, good⟩
    · exact .inl ⟨no, hE⟩
    refine .inr ⟨k, dr, o9, rfl, hk, hy, hi, bad, fun rc erc okp H1 x1 s1 hd1 => ?_⟩
    obtain rfl : v = .int (k : Int) := by
      cases th with
      | dat h => cases h; rfl
    obtain ⟨ok1, dx1, p1, fq1, d1, o1, ys1, hx1⟩ := id hd1
    refine ⟨x1, dx1, _, rfl, hx1.ins, rfl, x1, putC rcs k rc, rfl, hd1, fun H2 pN gN s2 hN grN => ?_⟩
    have s12 := s1.trans s2
    have hd2 := draftV_same s12 hdr
    obtain ⟨ok2, dx2, p2, fq2, d2, o2, ys2, hx2⟩ := id hd2
    refine ⟨_, rfl, x, dx2, _, rfl, hx2.ins, rfl, x, rcs, rfl, hd2, fun H3 pO gO s3 hO grO => ⟨pO, rfl, ⟨_, hO⟩, fun D hD => ?_⟩⟩
    have lenO : gO.length ≤ 400 := by
      have := grown_len grO
      rw [List.length_map] at this
      omega
    have lenN : gN.length ≤ 402 := by
      have := grown_len grN
      rw [List.length_map] at this
      unfold putC at this
      simp only [List.length_append, List.length_take, List.length_drop, List.length_singleton] at this
      omega
    have sk : ∀ {H4 : Hp}, (∀ b u, b ≠ D → H3 b = some u → H4 b = some u) → Same H3 H4 := fun kp b u e => kp b u (ne_of_none e hD) e
    refine lc_it walk_tup (fun i H4 => (∀ b u, b ≠ D → H3 b = some u → H4 b = some u) ∧ H4 D = some (.lst ((mvI (k : Int) (gO.take i)).map V.int))) ⟨fun b u hb e => by rw [upd_ne hb]; exact e, upd_same⟩ (fun i H4 _ ⟨kp, _⟩ => sqT_same (sk kp) hO) ?_ ?_
    · rintro i z H4 H4' hi ⟨kp, hD4⟩ ⟨rfl, hz⟩
      obtain ⟨n, hn, rfl⟩ := int_get hz
      have hi2 : i < gO.length := (List.getElem?_eq_some_iff.mp hn).1
      have app : ∀ q : Int, q = (if n < (k : Int) then n else n + 1) → ∃ acc, H4' D = some (.lst acc) ∧ acc.length < sizeLine ∧ ((∀ b u, b ≠ D → H3 b = some u → upd H4' D (.lst (acc ++ [V.int q])) b = some u) ∧ upd H4' D (.lst (acc ++ [V.int q])) D = some (.lst ((mvI (k : Int) (gO.take (i + 1))).map V.int))) := by
        intro q e
        refine ⟨_, hD4, ?_, fun b u hb e => by rw [upd_ne hb]; exact kp b u hb e, ?_⟩
        · unfold mvI
          rw [List.length_map, List.length_map, List.length_take]
          exact small1000 (by omega)
        · rw [upd_same, take_snoc hn, e]
          unfold mvI
          simp
      refine ⟨rfl, yes_go (iteT ⟨_, rfl, _, rfl, _, _, rfl, rfl, _, rfl, ?_⟩)⟩
      by_cases c : n < (k : Int)
      · rw [decide_eq_true c]
        exact iteT ⟨_, rfl, app n (by rw [if_pos c])⟩
      · rw [decide_eq_false c]
        exact iteF ⟨_, rfl, _, _, rfl, rfl, app (n + 1) (by rw [if_neg c])⟩
    · rintro H4 ⟨kp, hD4⟩
      rw [List.length_map, List.take_length] at hD4
      have s34 := sk kp
      have hN4 := sqT_same (s3.trans s34) hN
      refine ⟨_, rfl, pN, rfl, ⟨_, hN4⟩, fun D2 hD2 => ?_⟩
      have DD2 : D ≠ D2 := ne_of_none hD4 hD2
      have sk2 : ∀ {H5 : Hp}, (∀ b u, b ≠ D2 → H4 b = some u → H5 b = some u) → Same H4 H5 := fun kp b u e => kp b u (ne_of_none e hD2) e
      refine lc_it walk_tup (fun i H5 => (∀ b u, b ≠ D2 → H4 b = some u → H5 b = some u) ∧ H5 D2 = some (.lst (((gN.take i).filter fun i => !decide (i ∈ mvI (k : Int) gO) && !decide (i = (k : Int))).map V.int))) ⟨fun b u hb e => by rw [upd_ne hb]; exact e, upd_same⟩ (fun i H5 _ ⟨kp, _⟩ => sqT_same (sk2 kp) hN4) ?_ ?_
      · rintro i z H5 H5' hi ⟨kp5, hD5⟩ ⟨rfl, hz⟩
        obtain ⟨n, hn, rfl⟩ := int_get hz
        have s5 := sk2 kp5
        have hi2 : i < gN.length := (List.getElem?_eq_some_iff.mp hn).1
        have fl : ((gN.take i).filter fun i => !decide (i ∈ mvI (k : Int) gO) && !decide (i = (k : Int))).length ≤ i := by
          refine Nat.le_trans (List.length_filter_le _ _) ?_
          rw [List.length_take]
          omega
        refine ⟨rfl, _, rfl, _, rfl, D, _, rfl, .inl (SqL.of (s5 _ _ hD4)), rfl, flat_ints _, _, rfl, ?_⟩
        show if (!inV (.int n) ((mvI (k : Int) gO).map V.int)) = true then _ else _
        rw [inV_ints, take_snoc hn, List.filter_append]
        cases c1 : decide (n ∈ mvI (k : Int) gO) with
        | true =>
          refine iteF (iteF ⟨kp5, ?_⟩)
          have e : ([n].filter fun i => !decide (i ∈ mvI (k : Int) gO) && !decide (i = (k : Int))) = [] := by simp [List.filter, c1]
          rw [e, List.append_nil]
          exact hD5
        | false =>
          refine iteT ⟨_, rfl, _, rfl, rfl, _, rfl, ?_⟩
          rw [intEq]
          cases c2 : decide (n = (k : Int)) with
          | true =>
            refine iteF ⟨kp5, ?_⟩
            have e : ([n].filter fun i => !decide (i ∈ mvI (k : Int) gO) && !decide (i = (k : Int))) = [] := by simp [List.filter, c1, c2]
            rw [e, List.append_nil]
            exact hD5
          | false =>
            refine iteT ⟨_, rfl, _, hD5, ?_, fun b u hb e => by rw [upd_ne hb]; exact kp5 b u hb e, ?_⟩
            · rw [List.length_map]
              exact small1000 (by omega)
            · have e : ([n].filter fun i => !decide (i ∈ mvI (k : Int) gO) && !decide (i = (k : Int))) = [n] := by simp [List.filter, c1, c2]
              rw [upd_same, e, List.map_append]
              rfl
      · rintro H5 ⟨kp5, hD5⟩
        rw [List.length_map, List.take_length] at hD5
        have s5 := sk2 kp5
        refine ⟨D2, _, rfl, .inl ⟨SqL.of hD5, fun a ha => ?_⟩⟩
        have s6 := s5.trans (same_new (o := .tup ((regF (k : Int) gO gN).map V.int)) ha)
        have hD6 := s6 _ _ hD4
        have ha6 : (upd H5 a (.tup ((regF (k : Int) gO gN).map V.int))) a = some (.tup ((regF (k : Int) gO gN).map V.int)) := upd_same
        have goal6 : ∀ H6, H6 = upd H5 a (.tup ((regF (k : Int) gO gN).map V.int)) → H6 = upd H5 a (.tup ((gN.filter fun i => !decide (i ∈ mvI (k : Int) gO) && !decide (i = (k : Int))).map V.int)) := fun _ e => e
        generalize hH6 : upd H5 a (.tup ((gN.filter fun i => !decide (i ∈ mvI (k : Int) gO) && !decide (i = (k : Int))).map V.int)) = H6
        have e6 : upd H5 a (.tup ((regF (k : Int) gO gN).map V.int)) = H6 := hH6
        rw [e6] at s6 hD6 ha6
        have hN6 := sqT_same s6 hN4
        refine ⟨_, rfl, _, rfl, D, rfl, ⟨_, SqL.of hD6⟩, fun D3 hD3 => ?_⟩
        have sk3 : ∀ {H7 : Hp}, (∀ b u, b ≠ D3 → H6 b = some u → H7 b = some u) → Same H6 H7 := fun kp b u e => kp b u (ne_of_none e hD3) e
        refine lc_it walk_list (fun i H7 => (∀ b u, b ≠ D3 → H6 b = some u → H7 b = some u) ∧ H7 D3 = some (.lst ((((mvI (k : Int) gO).take i).filter fun i => !decide (i ∈ gN)).map V.int))) ⟨fun b u hb e => by rw [upd_ne hb]; exact e, upd_same⟩ (fun i H7 _ ⟨kp, _⟩ => SqL.of (sk3 kp _ _ hD6)) ?_ ?_
        · rintro i z H7 H7' hi ⟨kp7, hD7⟩ ⟨rfl, hz⟩
          obtain ⟨n, hn, rfl⟩ := int_get hz
          have s7 := sk3 kp7
          have ml : (mvI (k : Int) gO).length = gO.length := List.length_map ..
          have hi2 : i < (mvI (k : Int) gO).length := (List.getElem?_eq_some_iff.mp hn).1
          have fl : (((mvI (k : Int) gO).take i).filter fun i => !decide (i ∈ gN)).length ≤ i := by
            refine Nat.le_trans (List.length_filter_le _ _) ?_
            rw [List.length_take]
            omega
          refine ⟨rfl, _, rfl, _, rfl, pN, _, rfl, .inr (sqT_same s7 hN6), rfl, flat_ints _, _, rfl, ?_⟩
          show if (!inV (.int n) (gN.map V.int)) = true then _ else _
          rw [inV_ints, take_snoc hn, List.filter_append]
          cases c1 : decide (n ∈ gN) with
          | true =>
            refine iteF ⟨kp7, ?_⟩
            have e : ([n].filter fun i => !decide (i ∈ gN)) = [] := by simp [List.filter, c1]
            rw [e, List.append_nil]
            exact hD7
          | false =>
            refine iteT ⟨_, rfl, _, hD7, ?_, fun b u hb e => by rw [upd_ne hb]; exact kp7 b u hb e, ?_⟩
            · rw [List.length_map]
              exact small1000 (by omega)
            · have e : ([n].filter fun i => !decide (i ∈ gN)) = [n] := by simp [List.filter, c1]
              rw [upd_same, e, List.map_append]
              rfl
        · rintro H7 ⟨kp7, hD7⟩
          rw [List.length_map, List.take_length] at hD7
          have s7 := sk3 kp7
          refine ⟨D3, _, rfl, .inl ⟨SqL.of hD7, fun b hb => ⟨(by show 2 ≤ sizeLine; decide), fun q hq => ?_⟩⟩⟩
          have s8 := same_new (o := .tup ((regB (k : Int) gO gN).map V.int)) hb
          have s9 := same_new (o := .tup [V.ref a, V.ref b]) hq
          exact good rc erc okp _ q a b gO gN ((((((s12.trans s3).trans s34).trans s6).trans s7).trans s8).trans s9) grO grN (SqT.of upd_same) (SqT.of (s9 _ _ (s8 _ _ (s7 _ _ ha6)))) (SqT.of (s9 _ _ upd_same))
end

abbrev sLCell : Stmt := topS 40
abbrev sLRow : Stmt := topS 39
theorem scLCell : FnScope ["script", "k"] ["script", "k"] (defScope sLCell) := ⟨rfl, rfl, rfl, by decide +kernel, rfl, by decide +kernel, by decide +kernel⟩
theorem scLRow : FnScope ["cell", "sizes", "out", "size", "seed", "k", "mixed"] ["cell", "sizes"] (defScope sLRow) := ⟨rfl, rfl, rfl, by decide +kernel, rfl, by decide +kernel, by decide +kernel⟩
def spLCell (K : PySem.W.Frag) : Sp := fun vs H Q _ => ∃ (l : Addr) (ns : List Int) (j : Nat), vs = [.ref l, .int (j : Int)] ∧ SqL K H l (ns.map V.int) ∧ ∀ n : Int, Q (.int n) H
/-- drawn: one number below each of the sizes -/
def Drawn (sz out : List Int) : Prop := out.length = sz.length ∧ ∀ (i : Nat) (z : Int), sz[i]? = some z → ∃ d : Int, out[i]? = some d ∧ 0 ≤ d ∧ d < z
def SizesOk (sz : List Int) : Prop := sz.length ≤ 900 ∧ ∀ z ∈ sz, 0 < z ∧ z < 1000
def spLRow (K : PySem.W.Frag) : Sp := fun vs H Q _ => ∃ (n : Int) (l : Addr) (sz : List Int), vs = [.int n, .ref l] ∧ SqL K H l (sz.map V.int) ∧ SizesOk sz ∧ ∀ H' p out, Same H H' → H p = none → H' p = some (.lst (out.map V.int)) → Drawn sz out → Q (.ref p) H'
theorem drawn_step {sz out : List Int} {i : Nat} {z d : Int} (h : Drawn (sz.take i) out) (hz : sz[i]? = some z) (h0 : 0 ≤ d) (h1 : d < z) : Drawn (sz.take (i + 1)) (out ++ [d]) := by
  have hi : i < sz.length := (List.getElem?_eq_some_iff.mp hz).1
  have e : sz.take (i + 1) = sz.take i ++ [z] := by
    rw [List.take_add_one, hz]
    rfl
  rw [e]
  obtain ⟨h2, h3⟩ := h
  refine ⟨by rw [List.length_append, List.length_append, h2]; rfl, fun j y hy => ?_⟩
  by_cases c : j < (sz.take i).length
  · rw [List.getElem?_append_left c] at hy
    rw [List.getElem?_append_left (by omega)]
    exact h3 j y hy
  · rw [List.getElem?_append_right (by omega)] at hy
    rw [List.getElem?_append_right (by omega), h2]
    cases hj : j - (sz.take i).length with
    | zero =>
      rw [hj] at hy
      cases hy
      exact ⟨d, rfl, h0, h1⟩
    | succ m =>
      rw [hj] at hy
      cases hy
section
variable {P : Program} {w : World} {K : PySem.W.Frag} {mg : Str → Option Value} {base : Heap}
theorem ok_lcell {f : Addr} {fd : FuncData} (F : Fun K "_law_cell" "_law_cell" sLCell f fd) (T : Bi mg) : FnOk P w K mg base CX0 1 f fd ["script", "k"] (spLCell K) := by
  refine F.ok scLCell (fun vs H Q E h => ?_) (fun cdv A outer s H vs Q E hr h => ?_)
  · obtain ⟨l, ns, j, rfl, _⟩ := h
    rfl
  · obtain ⟨l, ns, j, rfl, hs, q⟩ := h
    refine ⟨_, (pss_one (ps_ret (pe_ifExp (pt_cmpR op_lt (pv 1) (pe_callB call_len_seq (by rfl) T.len (by decide +kernel) (pa_cons (pv 0) pa_nil)) (nomark _)) (pe_ix ix_list (pv 0) (pv 1) (fun _ _ => rfl)) pe_int))), ?_⟩
    refine ⟨_, rfl, _, rfl, l, _, rfl, .inl hs, _, _, rfl, rfl, _, rfl, ?_⟩
    by_cases hj : j < ns.length
    · have e : decide ((j : Int) < ((ns.map V.int).length : Int)) = true := by
        rw [List.length_map]
        exact decide_eq_true (by omega)
      rw [e]
      exact iteT ⟨_, rfl, _, rfl, l, _, _, .int ns[j], rfl, rfl, hs, at_of (by rw [List.getElem?_map, List.getElem?_eq_getElem hj]; rfl), q _⟩
    · have e : decide ((j : Int) < ((ns.map V.int).length : Int)) = false := by
        rw [List.length_map]
        exact decide_eq_false (by omega)
      rw [e]
      exact iteF (q 0)
theorem pw5 {b z : Int} (h0 : 0 ≤ b) (h1 : b < 2147483647) (h2 : 0 ≤ z) (h3 : z ≤ 100001) : CPow (b + 7919 * z + 104729) 5 := ⟨by decide, by decide, by omega⟩
theorem ok_lrow {f : Addr} {fd : FuncData} (F : Fun K "_law_row" "_law_row" sLRow f fd) (T : Bi mg) : FnOk P w K mg base CX0 1 f fd ["cell", "sizes"] (spLRow K) := by
  refine F.ok scLRow (fun vs H Q E h => ?_) (fun cdv A outer s H vs Q E hr h => ?_)
  · obtain ⟨n, l, sz, rfl, _⟩ := h
    rfl
  · obtain ⟨n, l, sz, rfl, hs, ⟨hl, hz⟩, q⟩ := h
    refine ⟨_, (pss_cons (ps_set (i := 2) scLRow.nd rfl (.inl rfl) (pe_lst pa_nil))
      (pss_cons (ps_if (pt_cmpR op_ge (pv 0) (pe_op op_pow pe_int pe_int) (nomark _)) (pss_cons (ps_for PassesOwn.never rfl (pi_list (pv 1)) (pg_name (i := 3) scLRow.nd rfl (.inl rfl)) (pss_cons (ps_expr (pe_bm PySem.F.plainAttrs_list PySem.F.slot_list_append PySem.F.type_list_append mt_append (pv 2) (pa_cons (pe_op op_mod (pe_callTy call_int1 (by rfl) T.int (by decide +kernel) (pa_cons (pv 0) pa_nil)) (pv 3)) pa_nil)))
        (pss_one (ps_set (i := 0) scLRow.nd rfl (.inl rfl) (pe_op op_fdivN (pv 0) (pv 3))))))
        (pss_one (ps_ret (pv 2)))) pss_nil)
      (pss_cons (ps_set (i := 4) scLRow.nd rfl (.inl rfl) (pe_op op_mod (pe_callTy call_int1 (by rfl) T.int (by decide +kernel) (pa_cons (pv 0) pa_nil)) pe_int))
      (pss_cons (ps_for PassesOwn.never rfl (pi_range1 (by rfl) T.range (pa_cons (pe_callB call_len_seq (by rfl) T.len (by decide +kernel) (pa_cons (pv 1) pa_nil)) pa_nil)) (pg_name (i := 5) scLRow.nd rfl (.inl rfl)) (pss_cons (ps_set (i := 6) scLRow.nd rfl (.inl rfl) (pe_op op_add (pe_op op_mod (pe_callTy call_int1 (by rfl) T.int (by decide +kernel) (pa_cons (pe_op op_pow (pe_op op_add (pe_op op_add (pv 4) (pe_op op_mul pe_int (pv 5))) pe_int) pe_int) pa_nil)) pe_int) (pv 5)))
        (pss_one (ps_expr (pe_bm PySem.F.plainAttrs_list PySem.F.slot_list_append PySem.F.type_list_append mt_append (pv 2) (pa_cons (pe_op op_mod (pe_callTy call_int1 (by rfl) T.int (by decide +kernel) (pa_cons (pe_op op_mod (pe_callTy call_int1 (by rfl) T.int (by decide +kernel) (pa_cons (pe_op op_mul (pv 6) pe_int) pa_nil)) pe_int) pa_nil)) (pe_ix ix_list (pv 1) (pv 5) (fun _ _ => rfl))) pa_nil))))))
      (pss_one (ps_ret (pv 2))))))), ?_⟩
    refine ⟨Nat.zero_le _, fun p hp => ?_⟩
    have s1 := same_new (o := .lst []) hp
    have hpl : p ≠ l ∨ True := .inr trivial
    refine ⟨_, rfl, _, _, rfl, rfl, ⟨by decide, by decide, by decide⟩, _, _, rfl, rfl, _, rfl, ?_⟩
    have szat : ∀ {i : Nat} {v : V}, (sz.map V.int)[i]? = some v → ∃ z, sz[i]? = some z ∧ v = .int z ∧ 0 < z ∧ z < 1000 := by
      intro i v hv
      rw [List.getElem?_map] at hv
      cases e : sz[i]? with
      | none => rw [e] at hv; cases hv
      | some z =>
        rw [e] at hv
        have := hz z (List.mem_of_getElem? e)
        exact ⟨z, rfl, (Option.some.inj hv).symm, this⟩
    have kpS : ∀ {H4 : Hp}, (∀ b o, b ≠ p → H b = some o → H4 b = some o) → Same H H4 := fun kp b o e => kp b o (ne_of_none e hp) e
    refine ite2 (fun c => ?_) (fun c => ?_)
    · refine ⟨_, rfl, l, rfl, ⟨_, sqL_same s1 hs⟩, ?_⟩
      refine for_it walk_list (fun i σ H4 => ∃ (n' : Int) (u : Option V) (out : List Int), σ = [some (.int n'), some (.ref l), some (.ref p), u, none, none, none] ∧ (∀ b o, b ≠ p → H b = some o → H4 b = some o) ∧ H4 p = some (.lst (out.map V.int)) ∧ Drawn (sz.take i) out)
        ⟨n, none, [], rfl, fun b o hb e => by rw [upd_ne hb]; exact e, upd_same, ⟨rfl, fun i z h => by simp at h⟩⟩ (fun i σ H4 _ ⟨_, _, _, _, kp, _⟩ => sqL_same (kpS kp) hs) ?_ ?_
      · rintro i y σ H4 H4' hi ⟨n', u, out, rfl, kp, h4, hd⟩ ⟨rfl, hy⟩
        obtain ⟨z, ez, rfl, z0, z1⟩ := szat hy
        have hlt : i < sz.length := (List.getElem?_eq_some_iff.mp ez).1
        have ol : out.length = i := by
          rw [hd.1, List.length_take]
          omega
        refine ⟨_, rfl, .inl ⟨rfl, _, SqL.of h4⟩, _, rfl, .inl ⟨_, rfl, _, rfl, _, _, rfl, rfl, z0, p, _, _, rfl, rfl, h4, ?_, ?_⟩⟩
        · rw [List.length_map]
          exact small1000 (by omega)
        refine ⟨_, rfl, _, rfl, _, _, rfl, rfl, ⟨by omega, by omega⟩, _, _, _, rfl, fun b o hb e => ?_, ?_, drawn_step (d := n' % z) hd ez (Int.emod_nonneg _ (by omega)) (Int.emod_lt_of_pos _ z0)⟩
        · rw [upd_ne hb]
          exact kp b o hb e
        · rw [upd_same, List.map_append]
          rfl
      · rintro σ H4 ⟨n', u, out, rfl, kp, h4, hd⟩
        rw [List.length_map, List.take_length] at hd
        exact ⟨_, rfl, q H4 p out (kpS kp) hp h4 hd⟩
    · refine ⟨_, rfl, .inl ⟨_, rfl, _, _, rfl, rfl, (by show (0 : Int) < 2147483647; decide), ?_⟩⟩
      refine ⟨_, rfl, l, _, rfl, .inl (sqL_same s1 hs), ?_⟩
      have es : ((sz.map V.int).length : Int).toNat = sz.length := by
        rw [List.length_map]
        exact Int.toNat_natCast _
      refine ⟨_, rfl, ?_, ?_, ?_⟩
      · omega
      · rw [List.length_map]
        omega
      rw [es]
      have m0 : 0 ≤ n % 2147483647 := Int.emod_nonneg _ (by decide)
      have m1 : n % 2147483647 < 2147483647 := Int.emod_lt_of_pos _ (by decide)
      refine for_it walk_range (fun i σ H4 => ∃ (u v : Option V) (out : List Int), σ = [some (.int n), some (.ref l), some (.ref p), none, some (.int (n % 2147483647)), u, v] ∧ (∀ b o, b ≠ p → H b = some o → H4 b = some o) ∧ H4 p = some (.lst (out.map V.int)) ∧ Drawn (sz.take i) out)
        ⟨none, none, [], rfl, fun b o hb e => by rw [upd_ne hb]; exact e, upd_same, ⟨rfl, fun i z h => by simp at h⟩⟩ (fun _ _ _ _ _ => trivial) ?_ ?_
      · rintro i y σ H4 H4' hi ⟨u, v, out, rfl, kp, h4, hd⟩ ⟨rfl, rfl⟩
        have hz1 : (sz.map V.int)[i]? = some (.int sz[i]) := by
          rw [List.getElem?_map, List.getElem?_eq_getElem hi]
          rfl
        obtain ⟨z0, z1⟩ := hz sz[i] (List.getElem_mem hi)
        have ol : out.length = i := by
          rw [hd.1, List.length_take]
          omega
        refine ⟨_, rfl, _, rfl, _, _, rfl, rfl, .inl ⟨by decide, by decide⟩, _, _, rfl, rfl, _, _, rfl, rfl, _, _, rfl, rfl, pw5 m0 m1 (by omega) (by omega), .inl ⟨_, rfl, _, _, rfl, rfl, (by show (0 : Int) < 2147483647; decide), _, rfl, _, _, rfl, rfl, ?_⟩⟩
        refine ⟨_, rfl, .inl ⟨rfl, _, SqL.of h4⟩, _, rfl, _, _, rfl, rfl, .inr ⟨by decide, by decide⟩, .inl ⟨_, rfl, _, _, rfl, rfl, (by show (0 : Int) < 2147483629; decide), .inl ⟨_, rfl, _, rfl, _, rfl, l, _, _, .int sz[i], rfl, congrArg V.int (Int.zero_add _), sqL_same (kpS kp) hs, at_of hz1, _, _, rfl, rfl, z0, p, _, _, rfl, rfl, h4, ?_, _, _, _, rfl, fun b o hb e => ?_, ?_, drawn_step (d := ((n % 2147483647 + 7919 * (0 + (i : Int)) + 104729) ^ (5 : Int).toNat % 2147483647 + (0 + (i : Int))) * 40692 % 2147483629 % sz[i]) hd (List.getElem?_eq_getElem hi) (Int.emod_nonneg _ (by omega)) (Int.emod_lt_of_pos _ z0)⟩⟩⟩
        · rw [List.length_map]
          exact small1000 (by omega)
        · rw [upd_ne hb]
          exact kp b o hb e
        · rw [upd_same, List.map_append]
          rfl
      · rintro σ H4 ⟨u, v, out, rfl, kp, h4, hd⟩
        rw [List.take_length] at hd
        exact ⟨_, rfl, q H4 p out (kpS kp) hp h4 hd⟩
end

/-! ### what drafts are drawn -/
def labs4 : List Str := ["la", "lb", "lc", "ld"]
def nmL : List Str := ["la", "lb", "lc", "ld", "away"]
def RowG : Row → Prop
  | .words n => n ≤ 255
  | .label s => s ∈ labs4
  | .even n => 1 ≤ n ∧ n ≤ 64
  | .branch c n m => c ∈ nearL ∧ n ∈ nmL ∧ (m ≠ 0 → n = "away")
structure DraftG (rs : List Row) : Prop where
  rows : ∀ r ∈ rs, RowG r
  nod : (rs.filterMap labR).Nodup
  len : rs.length ≤ 20
theorem labs4_nm : ∀ s ∈ labs4, isNmS s = true ∧ s.length ≤ 1000 ∧ s ≠ "away" := by decide +kernel
theorem nmL_nm : ∀ s ∈ nmL, isNmS s = true ∧ s.length ≤ 1000 := by decide +kernel
theorem labR_some {r : Row} {s : Str} (h : labR r = some s) : r = .label s := by
  cases r <;> cases h
  rfl
theorem labOf_some {rs : List Row} {i : Nat} {s : Str} (h : labOf rs i = some s) : rs[i]? = some (.label s) := by
  cases e : rs[i]? with
  | none =>
    unfold labOf at h
    rw [e] at h
    cases h
  | some r =>
    rw [labOf_at e] at h
    rw [labR_some h]
theorem G_ok {rs : List Row} (h : DraftG rs) : DrOk rs := by
  refine ⟨fun r hr => ?_, by have := h.len; omega, fun i s hi j hj hjs => ?_, fun k c n m hk hm j hj => ?_⟩
  · have g := h.rows r hr
    cases r with
    | words n => exact (by have g' : n ≤ 255 := g; show n ≤ 900; omega)
    | label s =>
      obtain ⟨a, b, _⟩ := labs4_nm s g
      exact ⟨a, b⟩
    | even n => exact g
    | branch c n m =>
      obtain ⟨a, b⟩ := nmL_nm n g.2.1
      exact ⟨g.1, a, b⟩
  · have h1 := labOf_some hi
    have h2 := labOf_some hjs
    have l1 : i < rs.length := (List.getElem?_eq_some_iff.mp h1).1
    have pw := List.pairwise_filterMap.mp h.nod
    have := List.pairwise_iff_getElem.mp pw j i (by omega) l1 hj
    have e1 : rs[i] = .label s := Option.some.inj (by rw [← List.getElem?_eq_getElem l1]; exact h1)
    have e2 : rs[j] = .label s := Option.some.inj (by rw [← List.getElem?_eq_getElem (by omega)]; exact h2)
    rw [e1, e2] at this
    exact this s rfl s rfl rfl
  · have g := h.rows _ (List.mem_of_getElem? hk)
    have e : n = "away" := g.2.2 hm
    have g2 := h.rows _ (List.mem_of_getElem? (labOf_some hj))
    exact (labs4_nm n g2).2.2 e
theorem G_ins {rs : List Row} {r : Row} (i : Nat) (h : DraftG rs) (hr : RowG r) (hl : rs.length < 20) (hn : ∀ s, labR r = some s → s ∉ rs.filterMap labR) : DraftG (rs.take i ++ [r] ++ rs.drop i) := by
  have pm : (rs.take i ++ [r] ++ rs.drop i).Perm (r :: rs) := by
    have : (rs.take i ++ [r] ++ rs.drop i).Perm ([r] ++ rs.take i ++ rs.drop i) := List.Perm.append_right _ List.perm_append_comm
    refine this.trans ?_
    rw [List.append_assoc, List.take_append_drop]
    exact List.Perm.refl _
  refine ⟨fun x hx => ?_, ?_, ?_⟩
  · rcases List.mem_cons.mp (pm.mem_iff.mp hx) with z | z
    · rw [z]; exact hr
    · exact h.rows x z
  · refine (pm.filterMap labR).nodup_iff.mpr ?_
    rw [List.filterMap_cons]
    cases e : labR r with
    | none => exact h.nod
    | some s => exact List.nodup_cons.mpr ⟨hn s e, h.nod⟩
  · rw [pm.length_eq, List.length_cons]
    omega
/-- which rows an inserted one stands among -/
theorem ins_perm {α : Type} (l : List α) (i : Nat) (x : α) : (l.take i ++ [x] ++ l.drop i).Perm (x :: l) := by
  have : (l.take i ++ [x] ++ l.drop i).Perm ([x] ++ l.take i ++ l.drop i) := List.Perm.append_right _ List.perm_append_comm
  refine this.trans ?_
  rw [List.append_assoc, List.take_append_drop]
  exact List.Perm.refl _
theorem dps_ins {K : PySem.W.Frag} {H : Hp} {xs : List V} {rcs : List RowC} {v : V} {rc : RowC} (i : Nat) (h : DpAll K H xs (rcs.map rowR)) (hv : Dp K H v (rowR rc)) : DpAll K H (xs.take i ++ [v] ++ xs.drop i) ((rcs.take i ++ [rc] ++ rcs.drop i).map rowR) := by
  rw [List.map_append, List.map_append, List.map_take, List.map_drop]
  exact dps_app (dps_app (dps_take i h) (.cons hv .nil)) (dps_drop i h)
theorem rsC_ins (rcs : List RowC) (i : Nat) (rc : RowC) : rsC (rcs.take i ++ [rc] ++ rcs.drop i) = (rsC rcs).take i ++ [rc.r] ++ (rsC rcs).drop i := by
  unfold rsC
  rw [List.map_append, List.map_append, List.map_take, List.map_drop]
  rfl
theorem dpR_rowV {K : PySem.W.Frag} {H : Hp} {v : V} {rc : RowC} (h : Dp K H v (rowR rc)) : RowV K H v rc.r := by
  cases rc with
  | words ks =>
    obtain ⟨a, y, rfl, h1, h2⟩ := dp_two h
    obtain ⟨b, xs, rfl, h3, h4⟩ := dp_lst h2
    exact ⟨a, b, rfl, h1, xs, .inl h3, by rw [dps_len h4, List.length_map]⟩
  | label s => exact dp_rowV (rc := .label s) h
  | even n => exact dp_rowV (rc := .even n) h
  | branch c n m => exact dp_rowV (rc := .branch c n m) h
theorem datR_rows {K : PySem.W.Frag} {H : Hp} : ∀ {xs : List V} {rcs : List RowC}, DpAll K H xs (rcs.map rowR) → RowsV K H xs (rsC rcs)
  | _, [], h => by cases h; exact .nil
  | _, rc :: rcs, h => by
    cases h with
    | cons h1 h2 => exact .cons (dpR_rowV h1) (datR_rows h2)
theorem atEv {d : Int} (h0 : 0 ≤ d) (h1 : d < 12) : ∃ n : Int, 1 ≤ n ∧ n ≤ 64 ∧ atI ([1, 2, 3, 4, 5, 8, 16, 32, 40, 64, 7, 63].map V.int) d = some (.int n) := by
  obtain ⟨n, rfl⟩ := Int.eq_ofNat_of_zero_le h0
  have hn : n < 12 := by omega
  have : ∀ n, n < 12 → ∃ w : Int, 1 ≤ w ∧ w ≤ 64 ∧ ([1, 2, 3, 4, 5, 8, 16, 32, 40, 64, 7, 63] : List Int)[n]? = some w := by
    intro n hn
    match n, hn with
    | 0, _ => exact ⟨1, by omega, by omega, rfl⟩
    | 1, _ => exact ⟨2, by omega, by omega, rfl⟩
    | 2, _ => exact ⟨3, by omega, by omega, rfl⟩
    | 3, _ => exact ⟨4, by omega, by omega, rfl⟩
    | 4, _ => exact ⟨5, by omega, by omega, rfl⟩
    | 5, _ => exact ⟨8, by omega, by omega, rfl⟩
    | 6, _ => exact ⟨16, by omega, by omega, rfl⟩
    | 7, _ => exact ⟨32, by omega, by omega, rfl⟩
    | 8, _ => exact ⟨40, by omega, by omega, rfl⟩
    | 9, _ => exact ⟨64, by omega, by omega, rfl⟩
    | 10, _ => exact ⟨7, by omega, by omega, rfl⟩
    | 11, _ => exact ⟨63, by omega, by omega, rfl⟩
  obtain ⟨w, h1, h2, e⟩ := this n hn
  exact ⟨w, h1, h2, at_of (by rw [List.getElem?_map, e]; rfl)⟩
/-! ### the sizes drawn -/
def szD : List Int := [8] ++ (List.replicate 10 [8, 12, 5, 3]).flatten ++ (List.replicate 4 [11]).flatten
theorem szD_ok : SizesOk szD := ⟨by decide, by decide⟩
theorem szD_at : ∀ k, k < 10 → szD[1 + 4 * k]? = some 8 ∧ szD[2 + 4 * k]? = some 12 ∧ szD[3 + 4 * k]? = some 5 ∧ szD[4 + 4 * k]? = some 3 := by decide
theorem szD_end : ∀ i, i < 4 → szD[41 + i]? = some 11 := by decide
theorem cut4 {out : List Int} {k : Nat} {a b c d : Int} (hl : out.length = 45) (hk : k < 10) (h1 : out[1 + 4 * k]? = some a) (h2 : out[2 + 4 * k]? = some b) (h3 : out[3 + 4 * k]? = some c) (h4 : out[4 + 4 * k]? = some d) :
    cutV (out.map V.int) (some (1 + 4 * (k : Int))) (some (5 + 4 * (k : Int))) = [.int a, .int b, .int c, .int d] := by
  have e1 : HT.sIx (out.map V.int).length 0 (some (1 + 4 * (k : Int))) = 1 + 4 * k := by
    rw [List.length_map, hl]
    unfold HT.sIx
    dsimp only
    rw [if_neg (by omega)]
    omega
  have e2 : HT.sIx (out.map V.int).length (out.map V.int).length (some (5 + 4 * (k : Int))) = 5 + 4 * k := by
    rw [List.length_map, hl]
    unfold HT.sIx
    dsimp only
    rw [if_neg (by omega)]
    omega
  unfold cutV
  rw [e1, e2]
  have e3 : 5 + 4 * k - (1 + 4 * k) = 4 := by omega
  rw [e3]
  apply List.ext_getElem?
  intro i
  rw [List.getElem?_take, List.getElem?_drop, List.getElem?_map]
  match i with
  | 0 => simp [h1]
  | 1 => rw [if_pos (by omega), show 1 + 4 * k + 1 = 2 + 4 * k by omega, h2]; rfl
  | 2 => rw [if_pos (by omega), show 1 + 4 * k + 2 = 3 + 4 * k by omega, h3]; rfl
  | 3 => rw [if_pos (by omega), show 1 + 4 * k + 3 = 4 + 4 * k by omega, h4]; rfl
  | i + 4 => rw [if_neg (by omega)]; rfl
theorem at12 {d : Int} (h0 : 0 ≤ d) (h1 : d < 12) : ∃ w : Nat, w ≤ 255 ∧ atI ([0, 1, 2, 3, 40, 120, 127, 128, 250, 253, 254, 255].map V.int) d = some (.int (w : Int)) := by
  obtain ⟨n, rfl⟩ := Int.eq_ofNat_of_zero_le h0
  have hn : n < 12 := by omega
  have : ∀ n, n < 12 → ∃ w : Nat, w ≤ 255 ∧ ([0, 1, 2, 3, 40, 120, 127, 128, 250, 253, 254, 255] : List Int)[n]? = some (w : Int) := by
    intro n hn
    match n, hn with
    | 0, _ => exact ⟨0, by omega, rfl⟩
    | 1, _ => exact ⟨1, by omega, rfl⟩
    | 2, _ => exact ⟨2, by omega, rfl⟩
    | 3, _ => exact ⟨3, by omega, rfl⟩
    | 4, _ => exact ⟨40, by omega, rfl⟩
    | 5, _ => exact ⟨120, by omega, rfl⟩
    | 6, _ => exact ⟨127, by omega, rfl⟩
    | 7, _ => exact ⟨128, by omega, rfl⟩
    | 8, _ => exact ⟨250, by omega, rfl⟩
    | 9, _ => exact ⟨253, by omega, rfl⟩
    | 10, _ => exact ⟨254, by omega, rfl⟩
    | 11, _ => exact ⟨255, by omega, rfl⟩
  obtain ⟨w, hw, e⟩ := this n hn
  exact ⟨w, hw, at_of (by rw [List.getElem?_map, e]; rfl)⟩
theorem atStr {ss : List Str} {d : Int} (h0 : 0 ≤ d) (h1 : d < (ss.length : Int)) : ∃ s ∈ ss, atI (ss.map V.str) d = some (.str s) := by
  obtain ⟨n, rfl⟩ := Int.eq_ofNat_of_zero_le h0
  have hn : n < ss.length := by omega
  exact ⟨ss[n], List.getElem_mem hn, at_of (by rw [List.getElem?_map, List.getElem?_eq_getElem hn]; rfl)⟩

def RowN (ev : Bool) : Row → Prop
  | .words n => n ≤ 255
  | .branch c n m => c ∈ nearL ∧ n ∈ nmL ∧ (m ≠ 0 → n = "away")
  | .even n => ev = true ∧ 1 ≤ n ∧ n ≤ 64
  | _ => False
theorem N_G {ev : Bool} {rs : List Row} (h : ∀ r ∈ rs, RowN ev r) (hl : rs.length ≤ 20) : DraftG rs ∧ rs.filterMap labR = [] ∧ (ev = false → noEven rs) := by
  have e : rs.filterMap labR = [] := by
    rw [List.filterMap_eq_nil_iff]
    intro r hr
    have := h r hr
    cases r with
    | words n => rfl
    | branch c n m => rfl
    | even n => rfl
    | label s => exact absurd this id
  refine ⟨⟨fun r hr => ?_, by rw [e]; exact List.nodup_nil, hl⟩, e, fun ee i => ?_⟩
  · have := h r hr
    cases r with
    | words n => exact this
    | branch c n m => exact this
    | even n => exact this.2
    | label s => exact absurd this id
  · unfold isEv
    split
    · rename_i n z
      have := (h _ (List.mem_of_getElem? z)).1
      rw [ee] at this
      cases this
    · rfl
def isEvR : Row → Bool
  | .even _ => true
  | _ => false
theorem noEven_iff {rs : List Row} : noEven rs ↔ ∀ r ∈ rs, isEvR r = false := by
  constructor
  · intro h r hr
    obtain ⟨i, hi⟩ := List.getElem?_of_mem hr
    have := h i
    unfold isEv at this
    rw [hi] at this
    cases r <;> first | rfl | cases this
  · intro h i
    unfold isEv
    split
    · rename_i n e
      have := h _ (List.mem_of_getElem? e)
      cases this
    · rfl
theorem els1 {b : Bool} {S A C : Prop} (c : C) (h : b = true → C → S) : if b = true then S else (if false = true then A else C) := by
  cases b with
  | true => exact h rfl c
  | false => exact c
abbrev sLDraft : Stmt := topS 42
abbrev NLD : List Str := ["cell", "most", "is_even", "draws", "rows", "wide", "k", "kind", "size", "name", "called", "more", "at", "label"]
theorem scLDraft : FnScope NLD ["cell", "most", "is_even"] (defScope sLDraft) := ⟨rfl, rfl, rfl, by decide +kernel, rfl, by decide +kernel, by decide +kernel⟩
def spLDraft (K : PySem.W.Frag) : Sp := fun vs H Q _ => ∃ (n : Int) (ev : Bool), vs = [.int n, .int 9, .bl ev] ∧ ∀ H' p xs rcs, Same H H' → H p = none → H' p = some (.lst xs) → DpAll K H' xs (rcs.map rowR) → DraftG (rsC rcs) → (ev = false → noEven (rsC rcs)) → (∀ z ∈ labs4, z ∈ (rsC rcs).filterMap labR) → rcs.length ≤ 13 → Q (.ref p) H'
theorem labs4_inj : ∀ i, i < 4 → ∀ j, j < i → labs4[j]? ≠ labs4[i]? := by decide +kernel
section
variable {P : Program} {w : World} {K : PySem.W.Frag} {mg : Str → Option Value} {base : Heap}
theorem ok_ldraft {f : Addr} {fd : FuncData} (F : Fun K "_law_draft" "_law_draft" sLDraft f fd) (T : Bi mg) (G : Has P w K mg base CX0 1 "_law_row" ["cell", "sizes"] (spLRow K)) : FnOk P w K mg base CX0 2 f fd ["cell", "most", "is_even"] (spLDraft K) := by
  refine F.ok scLDraft (fun vs H Q E h => ?_) (fun cdv A outer s H vs Q E hr h => ?_)
  · obtain ⟨n, ev, rfl, _⟩ := h
    rfl
  · obtain ⟨n, ev, rfl, q⟩ := h
    refine ⟨_, (pss_cons (ps_par3 rfl scLDraft.nd (i := 3) (j := 4) (l := 5) rfl rfl rfl (by decide) (by decide) (by decide) rfl rfl rfl (pa_cons (pe_callH G hr (by rfl) pass0 (pa_cons (pv 0) (pa_cons (pe_op op_cat (pe_op op_cat (pe_lst (pa_cons pe_int pa_nil)) (pe_op op_rep (pe_lst (pa_cons pe_int (pa_cons pe_int (pa_cons pe_int (pa_cons pe_int pa_nil))))) pe_int)) (pe_op op_rep (pe_lst (pa_cons pe_int pa_nil)) pe_int)) pa_nil))) (pa_cons (pe_lst pa_nil) (pa_cons pe_int pa_nil))) (by rfl))
      (pss_cons (ps_for PassesOwn.never rfl (pi_range1 (by rfl) T.range (pa_cons (pe_callB (call_min2 rfl) (by rfl) T.min (by decide +kernel) (pa_cons (pe_op op_add pe_int (pe_ix ix_list (pv 3) pe_int (fun _ _ => rfl))) (pa_cons (pv 1) pa_nil))) pa_nil)) (pg_name (i := 6) scLDraft.nd rfl (.inl rfl)) (pss_cons (ps_asg (pe_slice sl_list (pv 3) (po_some (pe_op op_add pe_int (pe_op op_mul pe_int (pv 6)))) (po_some (pe_op op_add pe_int (pe_op op_mul pe_int (pv 6))))) (pg_lst rfl (pgs_cons (pg_name (i := 7) scLDraft.nd rfl (.inl rfl)) (pgs_cons (pg_name (i := 8) scLDraft.nd rfl (.inl rfl)) (pgs_cons (pg_name (i := 9) scLDraft.nd rfl (.inl rfl)) (pgs_cons (pg_name (i := 10) scLDraft.nd rfl (.inl rfl)) pgs_nil))))))
        (pss_one (ps_if (PW.pt (pw_and (pt_cmpR op_lt (pv 7) pe_int (nomark _)) (pw_and1 (pt_cmpR op_lt (pv 5) pe_int (nomark _))))) (pss_cons (ps_set (i := 5) scLDraft.nd rfl (.inl rfl) (pe_op op_add (pv 5) pe_int))
          (pss_one (ps_expr (pe_bm PySem.F.plainAttrs_list PySem.F.slot_list_append PySem.F.type_list_append mt_append (pv 4) (pa_cons (pe_tup (pa_cons pe_str (pa_cons (pe_op op_rep (pe_lst (pa_cons (pv 6) pa_nil)) (pe_ix ix_list (pe_lst (pa_cons pe_int (pa_cons pe_int (pa_cons pe_int (pa_cons pe_int (pa_cons pe_int (pa_cons pe_int (pa_cons pe_int (pa_cons pe_int (pa_cons pe_int (pa_cons pe_int (pa_cons pe_int (pa_cons pe_int pa_nil))))))))))))) (pv 8) (fun _ _ => rfl))) pa_nil))) pa_nil))))) (pss_one (ps_if (PW.pt (pw_and (pt_cmpR op_eq (pv 7) pe_int (nomark _)) (pw_and1 (pt_val (pv 2))))) (pss_one (ps_expr (pe_bm PySem.F.plainAttrs_list PySem.F.slot_list_append PySem.F.type_list_append mt_append (pv 4) (pa_cons (pe_tup (pa_cons pe_str (pa_cons (pe_ix ix_list (pe_lst (pa_cons pe_int (pa_cons pe_int (pa_cons pe_int (pa_cons pe_int (pa_cons pe_int (pa_cons pe_int (pa_cons pe_int (pa_cons pe_int (pa_cons pe_int (pa_cons pe_int (pa_cons pe_int (pa_cons pe_int pa_nil))))))))))))) (pv 8) (fun _ _ => rfl)) pa_nil))) pa_nil)))) (pss_cons (ps_set (i := 11) scLDraft.nd rfl (.inl rfl) (pe_ifExp (pt_cmpR op_eq (pv 9) pe_int (nomark _)) (pe_ix ix_list (pe_lst (pa_cons pe_int (pa_cons pe_int (pa_cons (pe_un un_neg pe_int) pa_nil)))) (pv 10) (fun _ _ => rfl)) pe_int))
          (pss_one (ps_expr (pe_bm PySem.F.plainAttrs_list PySem.F.slot_list_append PySem.F.type_list_append mt_append (pv 4) (pa_cons (pe_tup (pa_cons pe_str (pa_cons (pe_ix ix_list (pe_lst (pa_cons pe_str (pa_cons pe_str (pa_cons pe_str pa_nil)))) (pv 10) (fun _ _ => rfl)) (pa_cons (pe_ix ix_list (pe_lst (pa_cons pe_str (pa_cons pe_str (pa_cons pe_str (pa_cons pe_str (pa_cons pe_str pa_nil)))))) (pv 9) (fun _ _ => rfl)) (pa_cons (pv 11) pa_nil))))) pa_nil)))))))))))
      (pss_cons (ps_for PassesOwn.never rfl (pi_zip (by rfl) T.zip (pa_cons (pe_slice sl_list (pv 3) (po_some pe_int) po_none) (pa_cons (pe_lst (pa_cons pe_str (pa_cons pe_str (pa_cons pe_str (pa_cons pe_str pa_nil))))) pa_nil))) (pg_tup rfl (pgs_cons (pg_name (i := 12) scLDraft.nd rfl (.inl rfl)) (pgs_cons (pg_name (i := 13) scLDraft.nd rfl (.inl rfl)) pgs_nil)))
        (pss_one (ps_expr (pe_bm PySem.F.plainAttrs_list PySem.F.slot_list_insert PySem.F.type_list_insert mt_insert (pv 4) (pa_cons (pe_op op_mod (pv 12) (pe_op op_add (pe_callB call_len_seq (by rfl) T.len (by decide +kernel) (pa_cons (pv 4) pa_nil)) pe_int)) (pa_cons (pe_tup (pa_cons pe_str (pa_cons (pv 13) pa_nil))) pa_nil))))))
      (pss_one (ps_ret (pv 4)))))), ?_⟩
    refine ⟨_, rfl, (by show 1 ≤ sizeLine; decide), fun p1 hp1 => ⟨(by show 4 ≤ sizeLine; decide), fun p2 hp2 => ?_⟩⟩
    have n12 : p1 ≠ p2 := ne_of_none upd_same hp2
    refine ⟨p2, 10, _, rfl, rfl, upd_same, by decide, by decide, (by show 4 * 10 ≤ sizeLine; decide), fun p3 hp3 => ?_⟩
    have n13 : p1 ≠ p3 := ne_of_none (by rw [upd_ne n12]; exact upd_same) hp3
    refine ⟨p1, p3, _, _, rfl, rfl, by rw [upd_ne n13, upd_ne n12]; exact upd_same, upd_same, (by show 41 ≤ sizeLine; decide), fun p4 hp4 => ⟨(by show 1 ≤ sizeLine; decide), fun p5 hp5 => ?_⟩⟩
    have n45 : p4 ≠ p5 := ne_of_none upd_same hp5
    refine ⟨p5, 4, _, rfl, rfl, upd_same, by decide, by decide, (by show 1 * 4 ≤ sizeLine; decide), fun p6 hp6 => ?_⟩
    have n46 : p4 ≠ p6 := ne_of_none (by rw [upd_ne n45]; exact upd_same) hp6
    refine ⟨p4, p6, _, _, rfl, rfl, by rw [upd_ne n46, upd_ne n45]; exact upd_same, upd_same, (by show 45 ≤ sizeLine; decide), fun p7 hp7 => ?_⟩
    have t1 := same_new (o := .lst [V.int 8]) hp1
    have t2 := t1.trans (same_new (o := .lst ([8, 12, 5, 3].map V.int)) hp2)
    have t3 := t2.trans (same_new (o := .lst (List.replicate 10 ([8, 12, 5, 3].map V.int)).flatten) hp3)
    have t4 := t3.trans (same_new (o := .lst ([V.int 8] ++ (List.replicate 10 ([8, 12, 5, 3].map V.int)).flatten)) hp4)
    have t5 := t4.trans (same_new (o := .lst [V.int 11]) hp5)
    have t6 := t5.trans (same_new (o := .lst (List.replicate 4 [V.int 11]).flatten) hp6)
    have t7 := t6.trans (same_new (o := .lst (szD.map V.int)) hp7)
    refine ⟨n, p7, szD, rfl, SqL.of (by rw [upd_same]; rfl), szD_ok, fun H1 D out s1 hDn hD1 dr => ⟨Nat.zero_le _, fun L hL => ⟨_, _, _, rfl, ?_⟩⟩⟩
    have t8 : Same H H1 := t7.trans s1
    have t9 := t8.trans (same_new (o := .lst []) hL)
    have hLn : H L = none := by
      cases e : H L with
      | none => rfl
      | some u => rw [t8 _ _ e] at hL; cases hL
    have nDL : D ≠ L := ne_of_none hD1 hL
    generalize hH0 : upd H1 L (.lst []) = H0 at t9
    have hD0 : H0 D = some (.lst (out.map V.int)) := by rw [← hH0, upd_ne nDL]; exact hD1
    have hL0 : H0 L = some (.lst []) := by rw [← hH0]; exact upd_same
    have ol : out.length = 45 := dr.1
    have at_out : ∀ {i : Nat} {z : Int}, szD[i]? = some z → ∃ d, out[i]? = some d ∧ 0 ≤ d ∧ d < z := fun {i z} h => dr.2 i z h
    obtain ⟨d0, e0, d0a, d0b⟩ := at_out (i := 0) (z := 8) rfl
    refine ⟨_, rfl, D, _, _, _, rfl, rfl, SqL.of hD0, at_of (i := 0) (by rw [List.getElem?_map, e0]; rfl), _, _, rfl, rfl, _, rfl, _, _, rfl, _, rfl, ?_⟩
    generalize hj : (if (9 : Int) < 2 + d0 then (9 : Int) else 2 + d0) = j
    have j1 : 0 ≤ j ∧ j ≤ 9 := by
      rw [← hj]
      split <;> omega
    refine ⟨by omega, by omega, ?_⟩
    obtain ⟨m, rfl⟩ := Int.eq_ofNat_of_zero_le j1.1
    rw [Int.toNat_natCast]
    have hm9 : m ≤ 9 := by omega
    refine for_it walk_range (fun i σ H4 => ∃ (w : Int) (a b c d e g : Option V) (xs : List V) (rcs : List RowC), σ = [some (.int n), some (.int 9), some (.bl ev), some (.ref D), some (.ref L), some (.int w), a, b, c, d, e, g, none, none] ∧ (∀ b o, b ≠ L → H0 b = some o → H4 b = some o) ∧ H4 L = some (.lst xs) ∧ DpAll K (del H4 L) xs (rcs.map rowR) ∧ rcs.length = i ∧ ∀ r ∈ rsC rcs, RowN ev r)
      ⟨0, none, none, none, none, none, none, [], [], rfl, fun _ _ _ h => h, hL0, .nil, rfl, fun r hr => by cases hr⟩ (fun _ _ _ _ _ => trivial) ?_ ?_
    · rintro i y σ H4 H4' hi ⟨wd, a, b, c, d, e, g, xs, rcs, rfl, kp, hL4, hrs, hlen, hN⟩ ⟨rfl, hy⟩
      have hy' : y = .int (i : Int) := by
        rw [hy]
        exact congrArg V.int (Int.zero_add _)
      subst hy'
      obtain ⟨z1, z2, z3, z4⟩ := szD_at i (by omega)
      obtain ⟨k1, o1, k1a, k1b⟩ := at_out z1
      obtain ⟨k2, o2, k2a, k2b⟩ := at_out z2
      obtain ⟨k3, o3, k3a, k3b⟩ := at_out z3
      obtain ⟨k4, o4, k4a, k4b⟩ := at_out z4
      have hD4 := kp _ _ nDL hD0
      have xl : xs.length = i := by
        rw [dps_len hrs, List.length_map]
        exact hlen
      refine ⟨_, rfl, _, rfl, _, _, rfl, rfl, .inl ⟨by decide, by decide⟩, _, _, rfl, rfl, _, rfl, _, rfl, _, _, rfl, rfl, .inl ⟨by decide, by decide⟩, _, _, rfl, rfl, _, rfl, D, _, rfl, SqL.of hD4, fun ps hps => ?_⟩
      rw [cut4 ol (by omega) o1 o2 o3 o4]
      refine ⟨ps, _, rfl, SqL.of upd_same, rfl, _, _, rfl, _, _, rfl, _, _, rfl, _, _, rfl, rfl, ?_⟩
      have s5 := same_new (o := .lst [V.int k1, V.int k2, V.int k3, V.int k4]) hps
      generalize hH5 : upd H4' ps (.lst [V.int k1, V.int k2, V.int k3, V.int k4]) = H5 at s5
      have hL5 := s5 _ _ hL4
      -- what an append comes to
      have fin : ∀ {H9 : Hp} {v : V} {rc : RowC}, Same H5 H9 → Dp K (del H9 L) v (rowR rc) → RowN ev rc.r → H9 L = some (.lst xs) ∧ xs.length < sizeLine ∧ ∀ (w : Int) (a b c d e g : Option V), (∃ (w' : Int) (a' b' c' d' e' g' : Option V) (xs' : List V) (rcs' : List RowC), ([some (.int n), some (.int 9), some (.bl ev), some (.ref D), some (.ref L), some (.int w), a, b, c, d, e, g, none, none] : L2.St) = [some (.int n), some (.int 9), some (.bl ev), some (.ref D), some (.ref L), some (.int w'), a', b', c', d', e', g', none, none] ∧ (∀ b o, b ≠ L → H0 b = some o → upd H9 L (.lst (xs ++ [v])) b = some o) ∧ upd H9 L (.lst (xs ++ [v])) L = some (.lst xs') ∧ DpAll K (del (upd H9 L (.lst (xs ++ [v]))) L) xs' (rcs'.map rowR) ∧ rcs'.length = i + 1 ∧ ∀ r ∈ rsC rcs', RowN ev r) := by
        intro H9 v rc s9 hr hn
        have s49 := s5.trans s9
        refine ⟨s9 _ _ hL5, small1000 (by omega), fun w a b c d e g => ⟨w, a, b, c, d, e, g, xs ++ [v], rcs ++ [rc], rfl, fun b o hb eb => ?_, upd_same, ?_, ?_, ?_⟩⟩
        · rw [upd_ne hb]
          exact s49 _ _ (kp b o hb eb)
        · rw [del_upd]
          rw [List.map_append]
          exact dps_app (dps_same (del_same_of s49) hrs) (.cons hr .nil)
        · rw [List.length_append, hlen]
          rfl
        · intro x hx
          obtain ⟨y9, hy9, rfl⟩ := List.mem_map.mp hx
          rcases List.mem_append.mp hy9 with h | h
          · exact hN _ (List.mem_map.mpr ⟨y9, h, rfl⟩)
          · rw [List.mem_singleton.mp h]
            exact hn
      refine ⟨_, rfl, _, _, rfl, rfl, _, rfl, els1 ?c fun b1 C => ⟨_, rfl, _, _, rfl, rfl, _, rfl, ?_⟩⟩
      rotate_left
      · cases b2 : decide (wd < 6) with
        | false => exact iteF C
        | true =>
        obtain ⟨ww, hww, eww⟩ := at12 k2a k2b
        refine iteT ⟨_, rfl, _, _, rfl, rfl, _, rfl, .inl ⟨rfl, _, SqL.of hL5⟩, _, rfl, (by show 1 ≤ sizeLine; decide), fun p1 hp1 => ⟨(by show 12 ≤ sizeLine; decide), fun p2 hp2 => ?_⟩⟩
        have n12 : p1 ≠ p2 := ne_of_none upd_same hp2
        refine ⟨_, rfl, p2, _, _, _, rfl, rfl, SqL.of upd_same, eww, p1, ww, _, rfl, rfl, by rw [upd_ne n12]; exact upd_same, by omega, by omega, ?_, fun p3 hp3 => ⟨(by show 2 ≤ sizeLine; decide), fun p4 hp4 => ?_⟩⟩
        · show 1 * (ww : Int).toNat ≤ sizeLine
          rw [Int.toNat_natCast]
          have : 1 * ww ≤ 1000 := by omega
          exact Nat.le_trans this (by decide)
        have s8 := ((same_new (o := .lst [V.int (i : Int)]) hp1).trans (same_new (o := .lst ([0, 1, 2, 3, 40, 120, 127, 128, 250, 253, 254, 255].map V.int)) hp2)).trans (same_new (o := .lst (List.replicate (ww : Int).toNat [V.int (i : Int)]).flatten) hp3)
        have s9 := s8.trans (same_new (o := .tup [V.str "words", V.ref p3]) hp4)
        have l4 : L ≠ p4 := ne_of_none (s8 _ _ hL5) hp4
        have l3 : L ≠ p3 := ne_of_none (((same_new (o := .lst [V.int (i : Int)]) hp1).trans (same_new (o := .lst ([0, 1, 2, 3, 40, 120, 127, 128, 250, 253, 254, 255].map V.int)) hp2)) _ _ hL5) hp3
        have n34 : p3 ≠ p4 := ne_of_none upd_same hp4
        obtain ⟨f1, f2, f3⟩ := fin (rc := .words (List.replicate ww (i : Int))) s9 (.tup (SqT.of (by rw [del_ne l4.symm]; exact upd_same)) (.cons (.str _) (.cons (.lst (SqL.of (by
          rw [del_ne l3.symm, upd_ne n34, upd_same, Int.toNat_natCast])) (by
          have e : (List.replicate ww [V.int (i : Int)]).flatten = (List.replicate ww (i : Int)).map V.int := by simp
          rw [e]
          exact dps_ints _)) .nil))) (by show (List.replicate ww (i : Int)).length ≤ 255; rw [List.length_replicate]; exact hww)
        exact ⟨L, xs, _, rfl, rfl, f1, f2, f3 _ _ _ _ _ _ _⟩
      · refine ⟨_, rfl, rfl, _, rfl, els1 ?c2 fun b1 C => ⟨_, rfl, _, rfl, ?ev⟩⟩
        rotate_left
        · cases ev with
          | false => exact iteF C
          | true =>
            obtain ⟨ww, hw1, hw2, eww⟩ := atEv k2a k2b
            refine iteT ⟨_, rfl, .inl ⟨rfl, _, SqL.of hL5⟩, (by show 12 ≤ sizeLine; decide), fun p2 hp2 => ⟨_, rfl, p2, _, _, _, rfl, rfl, SqL.of upd_same, eww, (by show 2 ≤ sizeLine; decide), fun p4 hp4 => ?_⟩⟩
            have s8 := same_new (o := .lst ([1, 2, 3, 4, 5, 8, 16, 32, 40, 64, 7, 63].map V.int)) hp2
            have s9 := s8.trans (same_new (o := .tup [V.str "even", V.int ww]) hp4)
            have l4 : L ≠ p4 := ne_of_none (s8 _ _ hL5) hp4
            obtain ⟨f1, f2, f3⟩ := fin (rc := .even ww) s9 (.tup (SqT.of (by rw [del_ne l4.symm]; exact upd_same)) (.cons (.str _) (.cons (.int _) .nil))) ⟨rfl, hw1, hw2⟩
            exact ⟨L, xs, _, rfl, rfl, f1, f2, f3 _ _ _ _ _ _ _⟩
        have hk4 : ∃ v : Int, atI [V.int 0, V.int 5, V.int (-3)] k4 = some (.int v) := by
          obtain ⟨t, rfl⟩ := Int.eq_ofNat_of_zero_le k4a
          match t, k4b with
          | 0, _ => exact ⟨0, rfl⟩
          | 1, _ => exact ⟨5, rfl⟩
          | 2, _ => exact ⟨-3, rfl⟩
          | t + 3, z => omega
        obtain ⟨mv, hmv⟩ := hk4
        obtain ⟨cs, hcs, ecs⟩ := atStr (ss := nearL) k4a k4b
        refine ⟨_, rfl, rfl, _, rfl, ?_⟩
        rw [intEq]
        cases c3 : decide (k3 = 4) with
        | true =>
          obtain rfl := of_decide_eq_true c3
          refine iteT ⟨_, rfl, (by show 3 ≤ sizeLine; decide), fun p1 hp1 => ⟨_, rfl, p1, _, _, _, rfl, rfl, SqL.of upd_same, hmv, ?_⟩⟩
          have s6 := same_new (o := .lst [V.int 0, V.int 5, V.int (-3)]) hp1
          generalize hH6 : upd H5 p1 (.lst [V.int 0, V.int 5, V.int (-3)]) = H6 at s6
          have hm : mv ≠ 0 → ("away" : Str) = "away" := fun _ => rfl
          have hnm : ("away" : Str) ∈ nmL := by decide +kernel
          have enm : atI (nmL.map V.str) 4 = some (.str "away") := at_of (i := 4) rfl
          refine ⟨_, rfl, .inl ⟨rfl, _, SqL.of (s6 _ _ hL5)⟩, (by show 3 ≤ sizeLine; decide), fun p2 hp2 => ⟨_, rfl, p2, _, _, _, rfl, rfl, SqL.of upd_same, ecs, (by show 5 ≤ sizeLine; decide), fun p3 hp3 => ⟨_, rfl, p3, _, _, _, rfl, rfl, SqL.of upd_same, enm, _, rfl, (by show 4 ≤ sizeLine; decide), fun p4 hp4 => ?_⟩⟩⟩
          have s9 := ((s6.trans (same_new (o := .lst (nearL.map V.str)) hp2)).trans (same_new (o := .lst (nmL.map V.str)) hp3)).trans (same_new (o := .tup [V.str "branch", V.str cs, V.str "away", V.int mv]) hp4)
          have l4 : L ≠ p4 := ne_of_none (((s6.trans (same_new (o := .lst (nearL.map V.str)) hp2)).trans (same_new (o := .lst (nmL.map V.str)) hp3)) _ _ hL5) hp4
          obtain ⟨f1, f2, f3⟩ := fin (rc := .branch cs "away" mv) s9 (.tup (SqT.of (by rw [del_ne l4.symm]; exact upd_same)) (.cons (.str _) (.cons (.str _) (.cons (.str _) (.cons (.int _) .nil))))) ⟨hcs, hnm, hm⟩
          exact ⟨L, xs, _, rfl, rfl, f1, f2, f3 _ _ _ _ _ _ _⟩
        | false =>
          obtain ⟨nm, hnm, enm⟩ := atStr (ss := nmL) k3a k3b
          refine iteF ?_
          have s6 := Same.refl H5
          have hm : (0 : Int) ≠ 0 → nm = "away" := fun z => absurd rfl z
          refine ⟨_, rfl, .inl ⟨rfl, _, SqL.of (s6 _ _ hL5)⟩, (by show 3 ≤ sizeLine; decide), fun p2 hp2 => ⟨_, rfl, p2, _, _, _, rfl, rfl, SqL.of upd_same, ecs, (by show 5 ≤ sizeLine; decide), fun p3 hp3 => ⟨_, rfl, p3, _, _, _, rfl, rfl, SqL.of upd_same, enm, _, rfl, (by show 4 ≤ sizeLine; decide), fun p4 hp4 => ?_⟩⟩⟩
          have s9 := ((s6.trans (same_new (o := .lst (nearL.map V.str)) hp2)).trans (same_new (o := .lst (nmL.map V.str)) hp3)).trans (same_new (o := .tup [V.str "branch", V.str cs, V.str nm, V.int 0]) hp4)
          have l4 : L ≠ p4 := ne_of_none (((s6.trans (same_new (o := .lst (nearL.map V.str)) hp2)).trans (same_new (o := .lst (nmL.map V.str)) hp3)) _ _ hL5) hp4
          obtain ⟨f1, f2, f3⟩ := fin (rc := .branch cs nm 0) s9 (.tup (SqT.of (by rw [del_ne l4.symm]; exact upd_same)) (.cons (.str _) (.cons (.str _) (.cons (.str _) (.cons (.int _) .nil))))) ⟨hcs, hnm, hm⟩
          exact ⟨L, xs, _, rfl, rfl, f1, f2, f3 _ _ _ _ _ _ _⟩
    · rintro σ H4 ⟨wd, a, b, c, d, e, g, xs, rcs, rfl, kp, hL4, hrs, hlen, hN⟩
      have hD4 := kp _ _ nDL hD0
      have ec : cutV (out.map V.int) (some 41) none = (out.map V.int).drop 41 := cut_from (r := 41) (by rw [List.length_map, ol]; omega)
      refine ⟨_, rfl, 41, rfl, D, _, rfl, SqL.of hD4, fun pa hpa => ?_⟩
      rw [ec]
      refine ⟨(by show 4 ≤ sizeLine; decide), fun pb hpb => ?_⟩
      have nab : pa ≠ pb := ne_of_none upd_same hpb
      have s6 := (same_new (o := .lst ((out.map V.int).drop 41)) hpa).trans (same_new (o := .lst [V.str "la", V.str "lb", V.str "lc", V.str "ld"]) hpb)
      have la : L ≠ pa := ne_of_none hL4 hpa
      have lb : L ≠ pb := ne_of_none ((same_new (o := .lst ((out.map V.int).drop 41)) hpa) _ _ hL4) hpb
      have ha6 : upd (upd H4 pa (.lst ((out.map V.int).drop 41))) pb (.lst [V.str "la", V.str "lb", V.str "lc", V.str "ld"]) pa = some (.lst ((out.map V.int).drop 41)) := by rw [upd_ne nab]; exact upd_same
      have hb6 : upd (upd H4 pa (.lst ((out.map V.int).drop 41))) pb (.lst [V.str "la", V.str "lb", V.str "lc", V.str "ld"]) pb = some (.lst (labs4.map V.str)) := upd_same
      refine ⟨pa, pb, _, _, rfl, SqL.of ha6, SqL.of hb6, ?_⟩
      have hL6 := s6 _ _ hL4
      have hrs6 : DpAll K (del (upd (upd H4 pa (.lst ((out.map V.int).drop 41))) pb (.lst [V.str "la", V.str "lb", V.str "lc", V.str "ld"])) L) xs (rcs.map rowR) := dps_same (del_same_of s6) hrs
      have kp6 : ∀ b o, b ≠ L → H0 b = some o → upd (upd H4 pa (.lst ((out.map V.int).drop 41))) pb (.lst [V.str "la", V.str "lb", V.str "lc", V.str "ld"]) b = some o := fun b o hb eb => s6 _ _ (kp b o hb eb)
      generalize hH6 : upd (upd H4 pa (.lst ((out.map V.int).drop 41))) pb (.lst [V.str "la", V.str "lb", V.str "lc", V.str "ld"]) = H6 at *
      obtain ⟨G0, F0, E0⟩ := N_G hN (by rw [List.length_map]; omega)
      refine for_it (walk_zip (n := 4) (xs := (out.map V.int).drop 41) (ys := labs4.map V.str) (by rw [List.length_drop, List.length_map, ol]; rfl))
        (fun i σ H5 => ∃ (u v : Option V) (xs : List V) (rcs : List RowC), σ = [some (.int n), some (.int 9), some (.bl ev), some (.ref D), some (.ref L), some (.int wd), a, b, c, d, e, g, u, v] ∧ (∀ b o, b ≠ L → H6 b = some o → H5 b = some o) ∧ H5 L = some (.lst xs) ∧ DpAll K (del H5 L) xs (rcs.map rowR) ∧ rcs.length = m + i ∧ DraftG (rsC rcs) ∧ (ev = false → noEven (rsC rcs)) ∧ (∀ s ∈ (rsC rcs).filterMap labR, ∃ j, j < i ∧ labs4[j]? = some s) ∧ ∀ j, j < i → ∀ z, labs4[j]? = some z → z ∈ (rsC rcs).filterMap labR)
        ⟨none, none, xs, rcs, rfl, fun _ _ _ h => h, hL6, hrs6, by omega, G0, E0, (fun s hs => by rw [F0] at hs; cases hs), fun j hj => absurd hj (Nat.not_lt_zero _)⟩ ?_ ?_ ?_
      · rintro i σ H5 _ ⟨u, v, xs, rcs, _, kp5, _⟩
        exact ⟨SqL.of (kp5 _ _ la.symm ha6), SqL.of (kp5 _ _ lb.symm hb6)⟩
      · rintro i y σ H5 H5' hi ⟨u, v, xs, rcs, rfl, kp5, hL5, hrs5, hlen5, hG5, hE5, hF5, hK5⟩ ⟨TT, x', y', rfl, hT, rfl, hx', hy'⟩
        have xl : xs.length = m + i := by
          rw [dps_len hrs5, List.length_map]
          exact hlen5
        obtain ⟨dv, od, dv0, dv1⟩ := at_out (szD_end i hi)
        have hx' : ((out.map V.int).drop 41)[i]? = some x' := hx'
        have hy' : (labs4.map V.str)[i]? = some y' := hy'
        obtain rfl : x' = .int dv := by
          rw [List.getElem?_drop, List.getElem?_map, od] at hx'
          exact (Option.some.inj hx').symm
        obtain ⟨sl, hsl, rfl⟩ : ∃ sl, labs4[i]? = some sl ∧ y' = .str sl := by
          rw [List.getElem?_map] at hy'
          cases es : labs4[i]? with
          | none => rw [es] at hy'; cases hy'
          | some sl =>
            rw [es] at hy'
            exact ⟨sl, rfl, (Option.some.inj hy').symm⟩
        have sT := same_new (o := .tup [V.int dv, V.str sl]) hT
        have hLT := sT _ _ hL5
        have pos : (0 : Int) < ((xs.length : Nat) : Int) + 1 := by omega
        refine ⟨TT, _, rfl, SqT.of upd_same, rfl, _, _, rfl, _, _, rfl, rfl, ?_⟩
        refine ⟨_, rfl, .inl ⟨rfl, _, SqL.of hLT⟩, _, rfl, _, rfl, L, _, rfl, .inl (SqL.of hLT), _, _, rfl, rfl, _, _, rfl, rfl, pos, _, rfl, (by show 2 ≤ sizeLine; decide), fun p4 hp4 => ?_⟩
        have s7 := sT.trans (same_new (o := .tup [V.str "label", V.str sl]) hp4)
        have l4 : L ≠ p4 := ne_of_none hLT hp4
        have i0 : 0 ≤ dv % (((xs.length : Nat) : Int) + 1) := Int.emod_nonneg _ (by omega)
        have i1 : dv % (((xs.length : Nat) : Int) + 1) < ((xs.length : Nat) : Int) + 1 := Int.emod_lt_of_pos _ pos
        refine ⟨L, xs, _, _, rfl, rfl, s7 _ _ hL5, small1000 (by omega), i0, by omega, ?_⟩
        generalize (dv % (((xs.length : Nat) : Int) + 1)).toNat = ix
        have pm := ins_perm (rsC rcs) ix (.label sl)
        have ri := rsC_ins rcs ix (.label sl)
        have fm := pm.filterMap labR
        refine ⟨_, _, _, rcs.take ix ++ [.label sl] ++ rcs.drop ix, rfl, fun b o hb eb => ?_, upd_same, ?_, ?_, ?_, ?_, ?_, ?_⟩
        · rw [upd_ne hb]
          exact s7 _ _ (kp5 b o hb eb)
        · rw [del_upd]
          exact dps_ins (rc := .label sl) ix (dps_same (del_same_of s7) hrs5) (.tup (SqT.of (by rw [del_ne l4.symm]; exact upd_same)) (.cons (.str _) (.cons (.str _) .nil)))
        · have e := (ins_perm rcs ix (.label sl)).length_eq
          rw [List.length_cons] at e
          omega
        · rw [ri]
          refine G_ins ix hG5 (List.mem_of_getElem? hsl) (by rw [List.length_map]; omega) fun s' hs' hm' => ?_
          cases hs'
          obtain ⟨j, hj, ej⟩ := hF5 _ hm'
          exact labs4_inj i hi j hj (ej.trans hsl.symm)
        · intro ee
          have hE5 := hE5 ee
          rw [ri]
          rw [noEven_iff] at hE5 ⊢
          intro r hr
          rcases List.mem_cons.mp (pm.mem_iff.mp hr) with z | z
          · rw [z]; rfl
          · exact hE5 r z
        · intro s' hs'
          rw [ri] at hs'
          have := fm.mem_iff.mp hs'
          rw [List.filterMap_cons] at this
          rcases List.mem_cons.mp this with z | z
          · exact ⟨i, by omega, by rw [z]; exact hsl⟩
          · obtain ⟨j, hj, ej⟩ := hF5 _ z
            exact ⟨j, by omega, ej⟩
        · intro j hj z hz
          rw [ri]
          refine fm.mem_iff.mpr ?_
          rw [List.filterMap_cons]
          by_cases c9 : j = i
          · rw [c9, hsl] at hz
            rw [Option.some.inj hz]
            exact List.mem_cons_self ..
          · exact List.mem_cons_of_mem _ (hK5 j (by omega) z hz)
      · rintro σ H5 ⟨u, v, xs, rcs, rfl, kp5, hL5, hrs5, hlen5, hG5, hE5, _, hK5⟩
        have hAll : ∀ z ∈ labs4, z ∈ (rsC rcs).filterMap labR := fun z hz => by
          obtain ⟨j, hj⟩ := List.getElem?_of_mem hz
          exact hK5 j (List.getElem?_eq_some_iff.mp hj).1 z hj
        refine ⟨_, rfl, q H5 L xs rcs (fun bb o eb => ?_) hLn hL5 (dps_same del_sub hrs5) hG5 hE5 hAll (by omega)⟩
        have nb : bb ≠ L := ne_of_none eb hLn
        exact kp5 bb o nb (kp6 bb o nb (t9 _ _ eb))
end

abbrev sLBr : Stmt := topS 43
abbrev sLSp : Stmt := topS 44
theorem scLBr : FnScope ["rows", "k", "row"] ["rows"] (defScope sLBr) := ⟨rfl, rfl, rfl, by decide +kernel, rfl, by decide +kernel, by decide +kernel⟩
theorem scLSp : FnScope ["rows", "k", "row"] ["rows"] (defScope sLSp) := ⟨rfl, rfl, rfl, by decide +kernel, rfl, by decide +kernel, by decide +kernel⟩
/-- the rows of a draft in a list -/
structure LRows (K : PySem.W.Frag) (H : Hp) (L : Addr) (xs : List V) (rs : List Row) : Prop where
  lst : SqL K H L xs
  rows : RowsV K H xs rs
  len : rs.length ≤ 900
theorem LRows.same {K : PySem.W.Frag} {H H' : Hp} {L : Addr} {xs : List V} {rs : List Row} (h : LRows K H L xs rs) (e : Same H H') : LRows K H' L xs rs := ⟨sqL_same e h.lst, rowsV_same e h.rows, h.len⟩
def spLBr (K : PySem.W.Frag) : Sp := fun vs H Q _ => ∃ (L : Addr) (xs : List V) (rs : List Row), vs = [.ref L] ∧ LRows K H L xs rs ∧ ∀ H' p, Same H H' → H p = none → H' p = some (.lst (nats (brs rs))) → Q (.ref p) H'
def spLSp (K : PySem.W.Frag) : Sp := fun vs H Q _ => ∃ (L : Addr) (xs : List V) (rs : List Row), vs = [.ref L] ∧ LRows K H L xs rs ∧ ∀ H' p, Same H H' → H p = none → H' p = some (.dK (spD rs rs.length)) → Q (.ref p) H'
theorem brsTo_s (rs : List Row) (i : Nat) : brsTo rs (i + 1) = brsTo rs i ++ (if isBr rs i = true then [i] else []) := by
  unfold brsTo
  rw [List.range_succ, List.filter_append]
  congr 1
  cases e : isBr rs i <;> simp [List.filter, e]
theorem isBr_k {rs : List Row} {i : Nat} {r : Row} (h : rs[i]? = some r) : isBr rs i = decide (kindOf r = ("branch" : Str)) := by
  unfold isBr
  rw [h, br_kind]
  cases r <;> rfl
def labK (rs : List Row) : Nat → List (Key × V)
  | 0 => []
  | i + 1 => labK rs i ++ (match labOf rs i with
    | some s => [(Sum.inr s, .int (i : Nat))]
    | none => [])
theorem merge_labK (rs : List Row) : ∀ i, mergeK [] (labK rs i) = spD rs i
  | 0 => rfl
  | i + 1 => by
    unfold labK spD mergeK
    rw [List.foldl_append]
    have := merge_labK rs i
    unfold mergeK at this
    rw [this]
    cases labOf rs i <;> rfl
theorem labK_len (rs : List Row) : ∀ i, (labK rs i).length ≤ i
  | 0 => Nat.le_refl _
  | i + 1 => by
    unfold labK
    have := labK_len rs i
    rw [List.length_append]
    cases labOf rs i <;> simp <;> omega
abbrev gE (K : PySem.W.Frag) (i j : Nat) : TG := gTup K 2 (gCons (gName i) (gCons (gName j) gNil))
section
variable {P : Program} {w : World} {K : PySem.W.Frag} {mg : Str → Option Value} {base : Heap}
theorem ok_lbr {f : Addr} {fd : FuncData} (F : Fun K "_law_branches" "_law_branches" sLBr f fd) (T : Bi mg) : FnOk P w K mg base CX0 1 f fd ["rows"] (spLBr K) := by
  refine F.ok scLBr (fun vs H Q E h => ?_) (fun cdv A outer s H vs Q E hr h => ?_)
  · obtain ⟨L, xs, rs, rfl, _⟩ := h
    rfl
  · obtain ⟨L, xs, rs, rfl, ⟨hL, hrs, hlen⟩, q⟩ := h
    refine ⟨_, (pss_one (ps_ret (pe_lc (own := [("k", 1), ("row", 2)]) (g := gE K 1 2) (tt := row0Is K 2 "branch") (te := tVar 1) rfl scLBr.nd (pi_enum (by rfl) T.enumerate (pa_cons (pv 0) pa_nil)) (blkOk_by (N := ["rows", "k", "row"]) (sc := defScope sLBr) (by decide +kernel)) (fun _ _ _ _ _ => (pg_tup rfl (pgs_cons (pg_name (i := 1) scLBr.nd rfl (.inl rfl) (.inr rfl)) (pgs_cons (pg_name (i := 2) scLBr.nd rfl (.inl rfl) (.inr rfl)) pgs_nil)))) (fun _ _ _ _ _ => pts_one (pt_cmpR op_eq (pe_ix ix_tup (pv 2) pe_int (fun _ _ => rfl)) pe_str (nomark _))) (fun _ _ _ _ _ => (pv 1))))), ?_⟩
    have lx := rowsV_len hrs
    refine ⟨_, rfl, L, xs, rfl, hL, fun D hD => ?_⟩
    refine lc_it walk_enum (fun i H4 => (∀ c o, c ≠ D → H c = some o → H4 c = some o) ∧ H4 D = some (.lst (nats (brsTo rs i)))) ⟨fun c o hc e => by rw [upd_ne hc]; exact e, upd_same⟩ (fun i H4 _ ⟨kp, _⟩ => sqL_same (fun c o e => kp c o (ne_of_none e hD) e) hL) ?_ ?_
    · rintro i x H4 H4' hi ⟨kp, hD4⟩ ⟨TT, x', y, rfl, hT, rfl, hx', hy⟩
      cases hx'
      have s4 : Same H H4 := fun c o e => kp c o (ne_of_none e hD) e
      have s5 : Same H4 (upd H4 TT (.tup [.int (i : Nat), y])) := same_new hT
      obtain ⟨r, hri, hrv⟩ := rowsV_get hrs hy
      obtain ⟨a, zs, rfl, ht, h0⟩ := rowV_tup (rowV_same (s4.trans s5) hrv)
      have eb := isBr_k hri
      refine ⟨TT, _, rfl, SqT.of upd_same, rfl, _, _, rfl, _, _, rfl, rfl, rfl, row0_is rfl ht h0 eb.symm ?_⟩
      have hD5 := s5 _ _ hD4
      have bl := brsTo_len rs i
      rw [brsTo_s]
      cases isBr rs i with
      | true =>
        refine iteT ⟨_, rfl, _, hD5, ?_, fun c o hc e => ?_, ?_⟩
        · rw [nats_len]
          exact small1000 (by omega)
        · rw [upd_ne hc]
          exact s5 _ _ (kp c o hc e)
        · rw [upd_same, if_pos rfl, nats_app]
          rfl
      | false =>
        refine iteF ⟨fun c o hc e => s5 _ _ (kp c o hc e), ?_⟩
        rw [if_neg (by decide), List.append_nil]
        exact hD5
    · rintro H4 ⟨kp, hD4⟩
      rw [lx] at hD4
      exact q H4 D (fun c o e => kp c o (ne_of_none e hD) e) hD hD4
theorem ok_lsp {f : Addr} {fd : FuncData} (F : Fun K "_law_spots" "_law_spots" sLSp f fd) (T : Bi mg) : FnOk P w K mg base CX0 1 f fd ["rows"] (spLSp K) := by
  refine F.ok scLSp (fun vs H Q E h => ?_) (fun cdv A outer s H vs Q E hr h => ?_)
  · obtain ⟨L, xs, rs, rfl, _⟩ := h
    rfl
  · obtain ⟨L, xs, rs, rfl, ⟨hL, hrs, hlen⟩, q⟩ := h
    refine ⟨_, (pss_one (ps_ret (pe_callTy (call_dictP rfl) (by rfl) T.dict (by decide +kernel) (pa_cons (pe_lc (own := [("k", 1), ("row", 2)]) (g := gE K 1 2) (tt := row0Is K 2 "label") (te := tTup (tCons (ixT K 2 1) (tCons (tVar 1) tNil))) rfl scLSp.nd (pi_enum (by rfl) T.enumerate (pa_cons (pv 0) pa_nil)) (blkOk_by (N := ["rows", "k", "row"]) (sc := defScope sLSp) (by decide +kernel)) (fun _ _ _ _ _ => (pg_tup rfl (pgs_cons (pg_name (i := 1) scLSp.nd rfl (.inl rfl) (.inr rfl)) (pgs_cons (pg_name (i := 2) scLSp.nd rfl (.inl rfl) (.inr rfl)) pgs_nil)))) (fun _ _ _ _ _ => pts_one (pt_cmpR op_eq (pe_ix ix_tup (pv 2) pe_int (fun _ _ => rfl)) pe_str (nomark _))) (fun _ _ _ _ _ => (pe_tup (pa_cons (pe_ix ix_tup (pv 2) pe_int (fun _ _ => rfl)) (pa_cons (pv 1) pa_nil))))) pa_nil)))), ?_⟩
    have lx := rowsV_len hrs
    refine ⟨_, rfl, L, xs, rfl, hL, fun D hD => ?_⟩
    refine lc_it walk_enum (fun i H4 => (∀ c o, c ≠ D → H c = some o → H4 c = some o) ∧ ∃ ps : List Addr, H4 D = some (.lst (ps.map V.ref)) ∧ Paired (fun p kv => SqT K H4 p [kV kv.1, kv.2]) ps (labK rs i)) ⟨fun c o hc e => by rw [upd_ne hc]; exact e, [], upd_same, .nil⟩ (fun i H4 _ ⟨kp, _⟩ => sqL_same (fun c o e => kp c o (ne_of_none e hD) e) hL) ?_ ?_
    · rintro i x H4 H4' hi ⟨kp, ps, hD4, hps⟩ ⟨TT, x', y, rfl, hT, rfl, hx', hy⟩
      cases hx'
      have s4 : Same H H4 := fun c o e => kp c o (ne_of_none e hD) e
      have s5 : Same H4 (upd H4 TT (.tup [.int (i : Nat), y])) := same_new hT
      obtain ⟨r, hri, hrv⟩ := rowsV_get hrs hy
      have hrv5 := rowV_same (s4.trans s5) hrv
      obtain ⟨a, zs, rfl, ht, h0⟩ := rowV_tup hrv5
      refine ⟨TT, _, rfl, SqT.of upd_same, rfl, _, _, rfl, _, _, rfl, rfl, rfl, row0_is rfl ht h0 (lab_kind r) ?_⟩
      have hD5 := s5 _ _ hD4
      have el := labOf_at hri
      have pl : ps.length ≤ i := by
        rw [hps.length]
        exact labK_len rs i
      have lk : labK rs (i + 1) = labK rs i ++ (match labR r with
        | some s => [(Sum.inr s, .int (i : Nat))]
        | none => []) := by
        rw [← el]
        rfl
      cases eR : labR r with
      | none =>
        rw [eR, List.append_nil] at lk
        refine iteF ⟨fun c o hc e => s5 _ _ (kp c o hc e), ps, hD5, ?_⟩
        rw [lk]
        exact hps.mono fun p kv h => sqT_same s5 h
      | some z =>
        rw [eR] at lk
        obtain rfl := labR_some eR
        obtain ⟨a', ea, h2⟩ := hrv5
        refine iteT ⟨_, rfl, a', _, _, _, ea, rfl, h2, at_of (i := 1) rfl, _, rfl, (by show 2 ≤ sizeLine; decide), fun p4 hp4 => ?_⟩
        have s6 := s5.trans (same_new (o := .tup [V.str z, V.int (i : Nat)]) hp4)
        have nD : p4 ≠ D := ne_of_none' hD5 hp4
        refine ⟨_, s6 _ _ hD4, ?_, fun c o hc e => ?_, ps ++ [p4], ?_, ?_⟩
        · rw [List.length_map]
          exact small1000 (by omega)
        · rw [upd_ne hc]
          exact s6 _ _ (kp c o hc e)
        · rw [upd_same, List.map_append]
          rfl
        · rw [lk]
          refine Paired.snoc (hps.mono fun p kv h => sqT_put (sqT_same s6 h) (s6 _ _ hD4) trivial) ?_
          exact sqT_put (SqT.of upd_same) (s6 _ _ hD4) trivial
    · rintro H4 ⟨kp, ps, hD4, hps⟩
      have s4 : Same H H4 := fun c o e => kp c o (ne_of_none e hD) e
      rw [lx] at hps
      refine ⟨D, ps, _, rfl, SqL.of hD4, hps, fun p hp => ?_⟩
      rw [merge_labK]
      have hpn : H p = none := by
        cases e : H p with
        | none => rfl
        | some u => rw [s4 _ _ e] at hp; cases hp
      exact q _ p (s4.trans (same_new hp)) hpn upd_same
end

abbrev sLOu : Stmt := topS 45
abbrev sLBe : Stmt := topS 46
theorem scLOu : FnScope ["rows", "spots", "k"] ["rows"] (defScope sLOu) := ⟨rfl, rfl, rfl, by decide +kernel, rfl, by decide +kernel, by decide +kernel⟩
theorem scLBe : FnScope ["rows", "far", "found", "k", "row", "size"] ["rows", "far"] (defScope sLBe) := ⟨rfl, rfl, rfl, by decide +kernel, rfl, by decide +kernel, by decide +kernel⟩
def spLOu (K : PySem.W.Frag) : Sp := fun vs H Q _ => ∃ (L : Addr) (xs : List V) (rs : List Row), vs = [.ref L] ∧ LRows K H L xs rs ∧ ∀ H' p, Same H H' → H p = none → H' p = some (.lst (nats (outs rs))) → Q (.ref p) H'
def spLBe (K : PySem.W.Frag) : Sp := fun vs H Q _ => ∃ (L l : Addr) (xs : List V) (rs : List Row) (ns : List Int), vs = [.ref L, .ref l] ∧ LRows K H L xs rs ∧ (∀ r ∈ rs, RowOk r) ∧ (SqL K H l (ns.map V.int) ∨ SqT K H l (ns.map V.int)) ∧ ∀ H' p, Same H H' → H p = none → H' p = some (.lst (offTo (mem ns) rs rs.length)) → Q (.ref p) H'
/-- a branch of the rows -/
theorem br_at {K : PySem.W.Frag} {H : Hp} {xs : List V} {rs : List Row} {k : Nat} (hrs : RowsV K H xs rs) (h : k ∈ brs rs) : ∃ (a : Addr) (c n : Str) (m : Int), xs[k]? = some (.ref a) ∧ SqT K H a [.str "branch", .str c, .str n, .int m] ∧ toOf rs k = some n ∧ k < rs.length := by
  obtain ⟨c, n, m, e⟩ := brs_mem h
  have hk : k < rs.length := (List.getElem?_eq_some_iff.mp e).1
  have lx := rowsV_len hrs
  have ex : xs[k]? = some xs[k] := List.getElem?_eq_getElem (by omega)
  obtain ⟨r, hr, hv⟩ := rowsV_get hrs ex
  rw [e] at hr
  cases hr
  obtain ⟨a, ea, ha⟩ := hv
  rw [ea] at ex
  refine ⟨a, c, n, m, ex, ha, ?_, hk⟩
  rw [toOf_at e]
theorem even_mod (n c : Int) : (n - c % n) % n = (-c) % n := by
  rw [Int.emod_def c n]
  have e : n - (c - n * (c / n)) = -c + n * (1 + c / n) := by
    rw [Int.mul_add, Int.mul_one]
    omega
  rw [e, Int.add_mul_emod_self_left]
section
variable {P : Program} {w : World} {K : PySem.W.Frag} {mg : Str → Option Value} {base : Heap}
theorem ok_lou {f : Addr} {fd : FuncData} (F : Fun K "_law_outs" "_law_outs" sLOu f fd) (T : Bi mg) (G1 : Has P w K mg base CX0 1 "_law_spots" ["rows"] (spLSp K)) (G2 : Has P w K mg base CX0 1 "_law_branches" ["rows"] (spLBr K)) : FnOk P w K mg base CX0 2 f fd ["rows"] (spLOu K) := by
  refine F.ok scLOu (fun vs H Q E h => ?_) (fun cdv A outer s H vs Q E hr h => ?_)
  · obtain ⟨L, xs, rs, rfl, _⟩ := h
    rfl
  · obtain ⟨L, xs, rs, rfl, hR, q⟩ := h
    have hu := hu_of hr
    refine ⟨_, (pss_cons (ps_set (i := 1) scLOu.nd rfl (.inr rfl) (pe_callH G1 hr (by rfl) pass0 (pa_cons (pv 0) pa_nil)))
      (pss_one (ps_ret (pe_lc (own := [("k", 2)]) (g := gName 2) (tt := tB (tDNotIn (tOp (rIxT K) (tOp (rIxL K) (tVar 0) (tVar 2)) (tC (.int 2))) (tVar 1))) (te := tVar 2) rfl scLOu.nd (pi_list (pe_callH G2 hr (by rfl) pass0 (pa_cons (pv 0) pa_nil))) (blkOk_by (N := ["rows", "spots", "k"]) (sc := defScope sLOu) (by decide +kernel)) (fun _ _ _ _ _ => pg_name (i := 2) scLOu.nd rfl (.inl rfl)) (fun _ _ _ _ _ => pts_one (pt_cmp (pc_dnotin hu (pe_ix ix_tup (pe_ix ix_list (pv 0) (pv 2) (fun _ _ => rfl)) pe_int (fun _ _ => rfl)) (pv 1)))) (fun _ _ _ _ _ => (pv 2)))))), ?_⟩
    refine ⟨_, rfl, L, xs, rs, rfl, hR, fun H1 d s1 hdn hd => ?_⟩
    refine ⟨_, rfl, L, xs, rs, rfl, hR.same s1, fun H2 B s2 hBn hB => ?_⟩
    have hR2 := hR.same (s1.trans s2)
    refine ⟨B, rfl, ⟨_, SqL.of hB⟩, fun D hD => ?_⟩
    have hd2 := s2 _ _ hd
    have sk : ∀ {H4 : Hp}, (∀ c o, c ≠ D → H2 c = some o → H4 c = some o) → Same H2 H4 := fun kp c o e => kp c o (ne_of_none e hD) e
    refine lc_it walk_list (fun i H4 => (∀ c o, c ≠ D → H2 c = some o → H4 c = some o) ∧ H4 D = some (.lst (nats (((brs rs).take i).filter fun k => (aim rs k).isNone)))) ⟨fun c o hc e => by rw [upd_ne hc]; exact e, upd_same⟩ (fun i H4 _ ⟨kp, _⟩ => SqL.of (sk kp _ _ hB)) ?_ ?_
    · rintro i x H4 H4' hi ⟨kp, hD4⟩ ⟨rfl, hx⟩
      have s4 := sk kp
      obtain ⟨k, hk, rfl⟩ := nats_get hx
      have hR4 := hR2.same s4
      obtain ⟨a, c, n, m, hxa, hta, hto, hkl⟩ := br_at hR4.rows (List.mem_of_getElem? hk)
      refine ⟨rfl, _, rfl, _, rfl, L, _, _, _, rfl, rfl, hR4.lst, at_of hxa, a, _, _, _, rfl, rfl, hta, at_of (i := 2) rfl, _, rfl, d, _, rfl, DGet.k (k := Sum.inr n) (s4 _ _ hd2), _, rfl, ?_⟩
      have ev : (!(valV (spD rs rs.length) (Sum.inr n)).isSome) = (aim rs k).isNone := by
        have : valV (spD rs rs.length) (Sum.inr n) = spV rs n := rfl
        rw [this, spot_spV, aim_of hto]
        cases spot rs n <;> rfl
      rw [ev]
      have tk : (brs rs).take (i + 1) = (brs rs).take i ++ [k] := by
        rw [List.take_add_one, hk]
        rfl
      have bl := brs_len rs
      have hl := hR.len
      rw [tk, List.filter_append]
      cases c9 : (aim rs k).isNone with
      | true =>
        refine iteT ⟨_, rfl, _, hD4, ?_, fun c o hc e => ?_, ?_⟩
        · rw [nats_len]
          have h1 : (((brs rs).take i).filter fun k => (aim rs k).isNone).length ≤ ((brs rs).take i).length := List.length_filter_le _ _
          have h2 : ((brs rs).take i).length ≤ (brs rs).length := by rw [List.length_take]; omega
          exact small1000 (by omega)
        · rw [upd_ne hc]
          exact kp c o hc e
        · rw [upd_same, nats_app]
          have : [k].filter (fun k => (aim rs k).isNone) = [k] := by simp [List.filter, c9]
          rw [this]
          rfl
      | false =>
        refine iteF ⟨kp, ?_⟩
        have : [k].filter (fun k => (aim rs k).isNone) = [] := by simp [List.filter, c9]
        rw [this, List.append_nil]
        exact hD4
    · rintro H4 ⟨kp, hD4⟩
      rw [nats_len, List.take_length] at hD4
      have s4 := (s1.trans s2).trans (sk kp)
      have hDn : H D = none := by
        cases e : H D with
        | none => rfl
        | some u => rw [(s1.trans s2) _ _ e] at hD; cases hD
      exact q H4 D s4 hDn hD4
theorem ok_lbe {f : Addr} {fd : FuncData} (F : Fun K "_law_begins" "_law_begins" sLBe f fd) (T : Bi mg) : FnOk P w K mg base CX0 1 f fd ["rows", "far"] (spLBe K) := by
  refine F.ok scLBe (fun vs H Q E h => ?_) (fun cdv A outer s H vs Q E hr h => ?_)
  · obtain ⟨L, l, xs, rs, ns, rfl, _⟩ := h
    rfl
  · obtain ⟨L, l, xs, rs, ns, rfl, hR, nE, hl, q⟩ := h
    refine ⟨_, (pss_cons (ps_set (i := 2) scLBe.nd rfl (.inl rfl) (pe_lst (pa_cons pe_int pa_nil)))
      (pss_cons (ps_for PassesOwn.never rfl (pi_enum (by rfl) T.enumerate (pa_cons (pv 0) pa_nil)) (pg_tup rfl (pgs_cons (pg_name (i := 3) scLBe.nd rfl (.inl rfl)) (pgs_cons (pg_name (i := 4) scLBe.nd rfl (.inl rfl)) pgs_nil))) (pss_cons (ps_set (i := 5) scLBe.nd rfl (.inl rfl) pe_int)
        (pss_cons (ps_if (pt_cmpR op_eq (pe_ix ix_tup (pv 4) pe_int (fun _ _ => rfl)) pe_str (nomark _)) (pss_one (ps_set (i := 5) scLBe.nd rfl (.inl rfl) (pe_callB call_len_seq (by rfl) T.len (by decide +kernel) (pa_cons (pe_ix ix_tup (pv 4) pe_int (fun _ _ => rfl)) pa_nil)))) (pss_one (ps_if (pt_cmpR op_eq (pe_ix ix_tup (pv 4) pe_int (fun _ _ => rfl)) pe_str (nomark _)) (pss_one (ps_set (i := 5) scLBe.nd rfl (.inl rfl) (pe_op op_mod (pe_op op_sub (pe_ix ix_tup (pv 4) pe_int (fun _ _ => rfl)) (pe_op op_mod (pe_ix ix_list (pv 2) (pe_un un_neg pe_int) (fun _ _ => rfl)) (pe_ix ix_tup (pv 4) pe_int (fun _ _ => rfl)))) (pe_ix ix_tup (pv 4) pe_int (fun _ _ => rfl))))) (pss_one (ps_if (pt_cmpR op_eq (pe_ix ix_tup (pv 4) pe_int (fun _ _ => rfl)) pe_str (nomark _)) (pss_one (ps_set (i := 5) scLBe.nd rfl (.inl rfl) (pe_op op_add pe_int (pe_callTy call_int1 (by rfl) T.int (by decide +kernel) (pa_cons (pe_cmpR op_in_seq (pv 3) (pv 1) (by rfl)) pa_nil))))) pss_nil)))))
        (pss_one (ps_expr (pe_bm PySem.F.plainAttrs_list PySem.F.slot_list_append PySem.F.type_list_append mt_append (pv 2) (pa_cons (pe_op op_add (pe_ix ix_list (pv 2) (pe_un un_neg pe_int) (fun _ _ => rfl)) (pv 5)) pa_nil)))))))
      (pss_one (ps_ret (pv 2))))), ?_⟩
    refine ⟨(by show 1 ≤ sizeLine; decide), fun p hp => ?_⟩
    refine ⟨_, rfl, L, xs, rfl, (hR.same (same_new hp)).lst, ?_⟩
    have lx := rowsV_len hR.rows
    have hlen := hR.len
    refine for_it walk_enum (fun i σ H4 => ∃ (a b c : Option V), σ = [some (.ref L), some (.ref l), some (.ref p), a, b, c] ∧ Same H H4 ∧ H4 p = some (.lst (offTo (mem ns) rs i))) ⟨none, none, none, rfl, same_new hp, upd_same⟩ (fun i σ H4 _ ⟨_, _, _, _, sm, _⟩ => (hR.same sm).lst) ?_ ?_
    · rintro i x σ H4 H4' hi ⟨a, b, c, rfl, sm, hp4⟩ ⟨TT, x', y, rfl, hT, rfl, hx', hy⟩
      cases hx'
      have sm5 : Same H4 (upd H4 TT (.tup [.int (i : Nat), y])) := same_new hT
      obtain ⟨r, hri, hrv⟩ := rowsV_get hR.rows hy
      have hrv5 := rowV_same (sm.trans sm5) hrv
      have hp5 := sm5 _ _ hp4
      have hi' : i < rs.length := by omega
      have s5 := sm.trans sm5
      refine ⟨TT, _, rfl, SqT.of upd_same, rfl, _, _, rfl, _, _, rfl, rfl, ?_⟩
      cases r with
      | words n =>
        obtain ⟨a, b, rfl, h2, zz, hz, hzl⟩ := hrv5
        refine ⟨_, rfl, a, _, _, _, rfl, rfl, h2, at_of (i := 0) rfl, rfl, _, rfl, kEq (by decide +kernel) ⟨_, rfl, a, _, _, _, rfl, rfl, h2, at_of (i := 1) rfl, b, zz, rfl, hz, ?_⟩⟩
        refine ⟨_, rfl, .inl ⟨rfl, _, SqL.of hp5⟩, _, rfl, _, rfl, p, _, _, _, rfl, rfl, SqL.of hp5, offTo_last _ _ _, _, rfl, _, _, rfl, rfl, p, _, _, rfl, rfl, hp5, ?_, _, _, _, rfl, same_upd s5 hp, ?_⟩
        · rw [offTo_len]
          exact small1000 (by omega)
        · rw [upd_same, offTo_succ, off_succ hri]
          rw [hzl]
          rfl
      | label z =>
        obtain ⟨a, rfl, h2⟩ := hrv5
        refine ⟨_, rfl, a, _, _, _, rfl, rfl, h2, at_of (i := 0) rfl, rfl, _, rfl, kNe (by decide +kernel) ⟨_, rfl, a, _, _, _, rfl, rfl, h2, at_of (i := 0) rfl, rfl, _, rfl, kNe (by decide +kernel) ⟨_, rfl, a, _, _, _, rfl, rfl, h2, at_of (i := 0) rfl, rfl, _, rfl, kNe (by decide +kernel) ?_⟩⟩⟩
        refine ⟨_, rfl, .inl ⟨rfl, _, SqL.of hp5⟩, _, rfl, _, rfl, p, _, _, _, rfl, rfl, SqL.of hp5, offTo_last _ _ _, _, rfl, _, _, rfl, rfl, p, _, _, rfl, rfl, hp5, ?_, _, _, _, rfl, same_upd s5 hp, ?_⟩
        · rw [offTo_len]
          exact small1000 (by omega)
        · rw [upd_same, offTo_succ, off_succ hri]
          rfl
      | even n =>
        obtain ⟨a, rfl, h2⟩ := hrv5
        have hpos : 0 < n := nE _ (List.mem_of_getElem? hri)
        refine ⟨_, rfl, a, _, _, _, rfl, rfl, h2, at_of (i := 0) rfl, rfl, _, rfl, kNe (by decide +kernel) ⟨_, rfl, a, _, _, _, rfl, rfl, h2, at_of (i := 0) rfl, rfl, _, rfl, kEq (by decide +kernel) ?_⟩⟩
        refine ⟨_, rfl, a, _, _, _, rfl, rfl, h2, at_of (i := 1) rfl, _, rfl, _, rfl, p, _, _, _, rfl, rfl, SqL.of hp5, offTo_last _ _ _, _, rfl, a, _, _, _, rfl, rfl, h2, at_of (i := 1) rfl, _, _, rfl, rfl, hpos, _, _, rfl, rfl, _, rfl, a, _, _, _, rfl, rfl, h2, at_of (i := 1) rfl, _, _, rfl, rfl, hpos, ?_⟩
        refine ⟨_, rfl, .inl ⟨rfl, _, SqL.of hp5⟩, _, rfl, _, rfl, p, _, _, _, rfl, rfl, SqL.of hp5, offTo_last _ _ _, _, rfl, _, _, rfl, rfl, p, _, _, rfl, rfl, hp5, ?_, _, _, _, rfl, same_upd s5 hp, ?_⟩
        · rw [offTo_len]
          exact small1000 (by omega)
        · rw [upd_same, offTo_succ, off_succ hri, even_mod]
          rfl
      | branch c n m =>
        obtain ⟨a, rfl, h2⟩ := hrv5
        refine ⟨_, rfl, a, _, _, _, rfl, rfl, h2, at_of (i := 0) rfl, rfl, _, rfl, kNe (by decide +kernel) ⟨_, rfl, a, _, _, _, rfl, rfl, h2, at_of (i := 0) rfl, rfl, _, rfl, kNe (by decide +kernel) ⟨_, rfl, a, _, _, _, rfl, rfl, h2, at_of (i := 0) rfl, rfl, _, rfl, kEq (by decide +kernel) ?_⟩⟩⟩
        refine ⟨_, rfl, _, rfl, l, _, rfl, hl.imp (sqL_same s5) (sqT_same s5), rfl, flat_ints ns, .inr ⟨_, rfl, _, _, rfl, rfl, ?_⟩⟩
        refine ⟨_, rfl, .inl ⟨rfl, _, SqL.of hp5⟩, _, rfl, _, rfl, p, _, _, _, rfl, rfl, SqL.of hp5, offTo_last _ _ _, _, rfl, _, _, rfl, rfl, p, _, _, rfl, rfl, hp5, ?_, _, _, _, rfl, same_upd s5 hp, ?_⟩
        · rw [offTo_len]
          exact small1000 (by omega)
        · rw [upd_same, offTo_succ, off_succ hri]
          have e : inV (.int (i : Nat)) (ns.map V.int) = mem ns (i : Nat) := inV_ints _ _
          have e2 : (if false = true then !inV (V.int (i : Nat)) (ns.map V.int) else inV (V.int (i : Nat)) (ns.map V.int)) = mem ns (i : Nat) := e
          rw [e2]
          cases mem ns (i : Nat) <;> rfl
    · rintro σ H4 ⟨a, b, c, rfl, sm, hp4⟩
      rw [lx] at hp4
      exact ⟨_, rfl, q H4 p sm hp hp4⟩
end

abbrev sLWa : Stmt := topS 47
abbrev sLLo : Stmt := topS 48
theorem scLWa : FnScope ["rows", "far", "begins", "spots", "inner", "k"] ["rows", "far"] (defScope sLWa) := ⟨rfl, rfl, rfl, by decide +kernel, rfl, by decide +kernel, by decide +kernel⟩
theorem scLLo : FnScope ["rows", "far", "gaps", "k"] ["rows", "far"] (defScope sLLo) := ⟨rfl, rfl, rfl, by decide +kernel, rfl, by decide +kernel, by decide +kernel⟩
def wayD (f : Int → Bool) (rs : List Row) : List (Key × V) := mapD (fun k => .int (way f rs k)) (inn rs)
def spLWa (K : PySem.W.Frag) : Sp := fun vs H Q _ => ∃ (L l : Addr) (xs : List V) (rs : List Row) (ns : List Int), vs = [.ref L, .ref l] ∧ LRows K H L xs rs ∧ (∀ r ∈ rs, RowOk r) ∧ (SqL K H l (ns.map V.int) ∨ SqT K H l (ns.map V.int)) ∧ ∀ H' p, Same H H' → H p = none → H' p = some (.dK (wayD (mem ns) rs)) → Q (.ref p) H'
def spLLo (K : PySem.W.Frag) : Sp := fun vs H Q _ => ∃ (L l : Addr) (xs : List V) (rs : List Row) (ns : List Int), vs = [.ref L, .ref l] ∧ LRows K H L xs rs ∧ (∀ r ∈ rs, RowOk r) ∧ SqL K H l (ns.map V.int) ∧ ∀ H' p, Same H H' → H p = none → H' p = some (.lst (nats (long (mem ns) rs))) → Q (.ref p) H'
theorem merge_mapD (g : Nat → V) : ∀ (ks js : List Nat), (js ++ ks).Nodup → mergeK (mapD g js) (mapD g ks) = mapD g (js ++ ks)
  | [], js, _ => by rw [List.append_nil]; rfl
  | k :: ks, js, nd => by
    have e : mergeK (mapD g js) (mapD g (k :: ks)) = mergeK (putK (mapD g js) (Sum.inl (k : Int)) (g k)) (mapD g ks) := rfl
    have hk : k ∉ js := fun z => by
      have := (List.nodup_append.mp nd).2.2 k z k (by simp)
      exact this rfl
    have ep : putK (mapD g js) (Sum.inl (k : Int)) (g k) = mapD g (js ++ [k]) := by
      have hv : valV (mapD g js) (Sum.inl (k : Int)) = none := by rw [mapD_val, if_neg hk]
      rw [putK_new _ hv]
      unfold mapD
      rw [List.map_append]
      rfl
    rw [e, ep, merge_mapD g ks (js ++ [k]) (by rw [List.append_assoc]; exact nd), List.append_assoc]
    rfl
theorem inn_at {K : PySem.W.Frag} {H : Hp} {xs : List V} {rs : List Row} {k : Nat} (hrs : RowsV K H xs rs) (h : k ∈ inn rs) : ∃ (a : Addr) (c n : Str) (m : Int) (j : Nat), xs[k]? = some (.ref a) ∧ SqT K H a [.str "branch", .str c, .str n, .int m] ∧ spV rs n = some (.int (j : Nat)) ∧ aim rs k = some j ∧ j < rs.length ∧ k < rs.length := by
  rw [← brs_inn] at h
  obtain ⟨h1, h2⟩ := List.mem_filter.mp h
  obtain ⟨a, c, n, m, e1, e2, e3, e4⟩ := br_at hrs h1
  obtain ⟨j, ej⟩ := Option.isSome_iff_exists.mp h2
  have es := spot_spV rs n
  rw [← aim_of e3, ej] at es
  exact ⟨a, c, n, m, j, e1, e2, es, ej, (aim_lt ej).1, e4⟩
section
variable {P : Program} {w : World} {K : PySem.W.Frag} {mg : Str → Option Value} {base : Heap}
theorem ok_lwa {f : Addr} {fd : FuncData} (F : Fun K "_law_ways" "_law_ways" sLWa f fd) (T : Bi mg) (G1 : Has P w K mg base CX0 1 "_law_begins" ["rows", "far"] (spLBe K)) (G2 : Has P w K mg base CX0 1 "_law_spots" ["rows"] (spLSp K)) (G3 : Has P w K mg base CX0 1 "_law_branches" ["rows"] (spLBr K)) : FnOk P w K mg base CX0 2 f fd ["rows", "far"] (spLWa K) := by
  refine F.ok scLWa (fun vs H Q E h => ?_) (fun cdv A outer s H vs Q E hr h => ?_)
  · obtain ⟨L, l, xs, rs, ns, rfl, _⟩ := h
    rfl
  · obtain ⟨L, l, xs, rs, ns, rfl, hR, nE, hl, q⟩ := h
    have hu := hu_of hr
    refine ⟨_, (pss_cons (ps_asg (pe_tup (pa_cons (pe_callH G1 hr (by rfl) pass0 (pa_cons (pv 0) (pa_cons (pv 1) pa_nil))) (pa_cons (pe_callH G2 hr (by rfl) pass0 (pa_cons (pv 0) pa_nil)) pa_nil))) (pg_tup rfl (pgs_cons (pg_name (i := 2) scLWa.nd rfl (.inr rfl)) (pgs_cons (pg_name (i := 3) scLWa.nd rfl (.inr rfl)) pgs_nil))))
      (pss_cons (ps_setLc (i := 4) (own := [("k", 5)]) (g := gName 5) (tt := tB (tDIn (tOp (rIxT K) (tOp (rIxL K) (tVar 0) (tVar 5)) (tC (.int 2))) (tVar 3))) (te := tVar 5) rfl scLWa.nd rfl rfl (sw_true rfl rfl rfl (by decide +kernel)) (pi_list (pe_callH G3 hr (by rfl) pass0 (pa_cons (pv 0) pa_nil))) (blkOk_by (N := ["rows", "far", "begins", "spots", "inner", "k"]) (sc := defScope sLWa) (by decide +kernel)) (fun _ _ _ _ _ => pg_name (i := 5) scLWa.nd rfl (.inl rfl)) (fun _ _ _ _ _ => pts_one (pt_cmp (pc_din hu (pe_ix ix_tup (pe_ix ix_list (pv 0) (pv 5) (fun _ _ => rfl)) pe_int (fun _ _ => rfl)) (pv 3)))) (fun _ _ _ _ _ => (pv 5)))
      (pss_one (ps_ret (pe_callTy (call_dictP rfl) (by rfl) T.dict (by decide +kernel) (pa_cons (pe_lc (own := [("k", 5)]) (g := gName 5) (tt := tYes) (te := tTup (tCons (tVar 5) (tCons (tOp (rI0 fun i j => .int (i - j)) (tOp (rIxL K) (tVar 2) (tDGet (tVar 3) (tOp (rIxT K) (tOp (rIxL K) (tVar 0) (tVar 5)) (tC (.int 2))))) (tOp (rIxL K) (tVar 2) (tVar 5))) tNil))) rfl scLWa.nd (pi_list (pv 4)) (blkOk_by (N := ["rows", "far", "begins", "spots", "inner", "k"]) (sc := defScope sLWa) (by decide +kernel)) (fun _ _ _ _ _ => pg_name (i := 5) scLWa.nd rfl (.inl rfl)) (fun _ _ _ _ _ => pts_nil) (fun _ _ _ _ _ => (pe_tup (pa_cons (pv 5) (pa_cons (pe_op op_sub (pe_ix ix_list (pv 2) (pe_dget hu (pv 3) (pe_ix ix_tup (pe_ix ix_list (pv 0) (pv 5) (fun _ _ => rfl)) pe_int (fun _ _ => rfl)) (fun _ _ => rfl)) (fun _ _ => rfl)) (pe_ix ix_list (pv 2) (pv 5) (fun _ _ => rfl))) pa_nil))))) pa_nil)))))), ?_⟩
    refine ⟨_, rfl, _, rfl, L, l, xs, rs, ns, rfl, hR, nE, hl, fun H1 O s1 _ hO => ?_⟩
    refine ⟨_, rfl, L, xs, rs, rfl, hR.same s1, fun H2 S s2 _ hS => ⟨(by show 2 ≤ sizeLine; decide), fun p hp => ?_⟩⟩
    refine ⟨p, _, rfl, SqT.of upd_same, rfl, _, _, rfl, _, _, rfl, rfl, ?_⟩
    have s3 := same_new (o := .tup [V.ref O, V.ref S]) hp
    have s03 := (s1.trans s2).trans s3
    have hO3 := s3 _ _ (s2 _ _ hO)
    have hS3 := s3 _ _ hS
    generalize hH3 : upd H2 p (.tup [V.ref O, V.ref S]) = H3 at s3 s03 hO3 hS3
    refine ⟨_, rfl, L, xs, rs, rfl, hR.same s03, fun H4 B s4 _ hB => ⟨B, rfl, ⟨_, SqL.of hB⟩, fun D hD => ?_⟩⟩
    have hO4 := s4 _ _ hO3
    have hS4 := s4 _ _ hS3
    have s04 := s03.trans s4
    have bl := brs_len rs
    have hl9 := hR.len
    have sk : ∀ {H5 : Hp}, (∀ c o, c ≠ D → H4 c = some o → H5 c = some o) → Same H4 H5 := fun kp c o e => kp c o (ne_of_none e hD) e
    have hDn : H D = none := by
      cases e : H D with
      | none => rfl
      | some u => rw [s04 _ _ e] at hD; cases hD
    refine lc_it walk_list (fun i H5 => (∀ c o, c ≠ D → H4 c = some o → H5 c = some o) ∧ H5 D = some (.lst (nats (((brs rs).take i).filter fun k => (aim rs k).isSome)))) ⟨fun c o hc e => by rw [upd_ne hc]; exact e, upd_same⟩ (fun i H5 _ ⟨kp, _⟩ => SqL.of (sk kp _ _ hB)) ?_ ?_
    · rintro i x H5 H5' hi ⟨kp, hD5⟩ ⟨rfl, hx⟩
      have s5 := sk kp
      obtain ⟨k, hk, rfl⟩ := nats_get hx
      have hR5 := hR.same (s04.trans s5)
      obtain ⟨a, c, n, m, hxa, hta, hto, hkl⟩ := br_at hR5.rows (List.mem_of_getElem? hk)
      refine ⟨rfl, _, rfl, _, rfl, L, _, _, _, rfl, rfl, hR5.lst, at_of hxa, a, _, _, _, rfl, rfl, hta, at_of (i := 2) rfl, _, rfl, S, _, rfl, DGet.k (k := Sum.inr n) (s5 _ _ hS4), _, rfl, ?_⟩
      have ev : (valV (spD rs rs.length) (Sum.inr n)).isSome = (aim rs k).isSome := by
        have : valV (spD rs rs.length) (Sum.inr n) = spV rs n := rfl
        rw [this, spot_spV, aim_of hto]
        cases spot rs n <;> rfl
      rw [ev]
      have tk : (brs rs).take (i + 1) = (brs rs).take i ++ [k] := by
        rw [List.take_add_one, hk]
        rfl
      rw [tk, List.filter_append]
      cases c9 : (aim rs k).isSome with
      | true =>
        refine iteT ⟨_, rfl, _, hD5, ?_, fun c o hc e => ?_, ?_⟩
        · rw [nats_len]
          have h1 : (((brs rs).take i).filter fun k => (aim rs k).isSome).length ≤ ((brs rs).take i).length := List.length_filter_le _ _
          have h2 : ((brs rs).take i).length ≤ (brs rs).length := by rw [List.length_take]; omega
          exact small1000 (by omega)
        · rw [upd_ne hc]
          exact kp c o hc e
        · rw [upd_same, nats_app]
          have : [k].filter (fun k => (aim rs k).isSome) = [k] := by simp [List.filter, c9]
          rw [this]
          rfl
      | false =>
        refine iteF ⟨kp, ?_⟩
        have : [k].filter (fun k => (aim rs k).isSome) = [] := by simp [List.filter, c9]
        rw [this, List.append_nil]
        exact hD5
    · rintro H5 ⟨kp, hD5⟩
      rw [nats_len, List.take_length, brs_inn] at hD5
      have s5 := sk kp
      have s05 := s04.trans s5
      have il := inn_len rs
      refine ⟨_, rfl, D, rfl, ⟨_, SqL.of hD5⟩, fun E2 hE2 => ?_⟩
      have sk2 : ∀ {H6 : Hp}, (∀ c o, c ≠ E2 → H5 c = some o → H6 c = some o) → Same H5 H6 := fun kp c o e => kp c o (ne_of_none e hE2) e
      refine lc_it walk_list (fun i H6 => (∀ c o, c ≠ E2 → H5 c = some o → H6 c = some o) ∧ ∃ ps : List Addr, H6 E2 = some (.lst (ps.map V.ref)) ∧ Paired (fun p kv => SqT K H6 p [kV kv.1, kv.2]) ps (mapD (fun k => .int (way (mem ns) rs k)) ((inn rs).take i))) ⟨fun c o hc e => by rw [upd_ne hc]; exact e, [], upd_same, .nil⟩ (fun i H6 _ ⟨kp, _⟩ => SqL.of (sk2 kp _ _ hD5)) ?_ ?_
      · rintro i x H6 H6' hi ⟨kp2, ps, hE6, hps⟩ ⟨rfl, hx⟩
        have s6 := sk2 kp2
        obtain ⟨k, hk, rfl⟩ := nats_get hx
        have hR6 := hR.same (s05.trans s6)
        obtain ⟨a, c, n, m, j, hxa, hta, hsp, hai, hjl, hkl⟩ := inn_at hR6.rows (List.mem_of_getElem? hk)
        have hO6 := s6 _ _ (s5 _ _ hO4)
        have hS6 := s6 _ _ (s5 _ _ hS4)
        have hg : DGet H6' S (.str n) (some (.int (j : Nat))) := by
          have := DGet.k (k := Sum.inr n) hS6
          rw [show valV (spD rs rs.length) (Sum.inr n) = some (.int (j : Nat)) from hsp] at this
          exact this
        have tk : (inn rs).take (i + 1) = (inn rs).take i ++ [k] := by
          rw [List.take_add_one, hk]
          rfl
        have pl : ps.length ≤ i := by
          rw [hps.length, mapD_len, List.length_take]
          omega
        have hi2 : i < (inn rs).length := (List.getElem?_eq_some_iff.mp hk).1
        refine ⟨rfl, yes_go (iteT ⟨_, rfl, _, rfl, _, rfl, _, rfl, _, rfl, L, _, _, _, rfl, rfl, hR6.lst, at_of hxa, a, _, _, _, rfl, rfl, hta, at_of (i := 2) rfl, S, _, rfl, hg, O, _, _, _, rfl, rfl, SqL.of hO6, offTo_at (by omega), _, rfl, _, rfl, O, _, _, _, rfl, rfl, SqL.of hO6, offTo_at (by omega), _, _, rfl, rfl, (by show 2 ≤ sizeLine; decide), fun p4 hp4 => ?_⟩)⟩
        have s7 := same_new (o := .tup [V.int (k : Nat), V.int (off (mem ns) rs j - off (mem ns) rs k)]) hp4
        refine ⟨_, s7 _ _ hE6, ?_, fun c o hc e => ?_, ps ++ [p4], ?_, ?_⟩
        · rw [List.length_map]
          exact small1000 (by omega)
        · rw [upd_ne hc]
          exact s7 _ _ (kp2 c o hc e)
        · rw [upd_same, List.map_append]
          rfl
        · rw [tk]
          have e9 : mapD (fun k => V.int (way (mem ns) rs k)) ((inn rs).take i ++ [k]) = mapD (fun k => V.int (way (mem ns) rs k)) ((inn rs).take i) ++ [(Sum.inl ((k : Nat) : Int), V.int (way (mem ns) rs k))] := by
            unfold mapD
            rw [List.map_append]
            rfl
          rw [e9]
          refine Paired.snoc (hps.mono fun p kv h => sqT_put (sqT_same s7 h) (s7 _ _ hE6) trivial) ?_
          have ew : way (mem ns) rs k = off (mem ns) rs j - off (mem ns) rs k := by
            unfold way
            rw [hai]
            rfl
          show SqT K _ p4 [V.int (k : Nat), V.int (way (mem ns) rs k)]
          rw [ew]
          exact sqT_put (SqT.of upd_same) (s7 _ _ hE6) trivial
      · rintro H6 ⟨kp2, ps, hE6, hps⟩
        have s6 := sk2 kp2
        rw [nats_len, List.take_length] at hps
        refine ⟨E2, ps, _, rfl, SqL.of hE6, hps, fun p9 hp9 => ?_⟩
        have em : mergeK [] (mapD (fun k => V.int (way (mem ns) rs k)) (inn rs)) = wayD (mem ns) rs := merge_mapD _ (inn rs) [] (by rw [List.nil_append]; exact inn_nodup rs)
        rw [em]
        have s06 := s05.trans s6
        have hpn : H p9 = none := by
          cases e : H p9 with
          | none => rfl
          | some u => rw [s06 _ _ e] at hp9; cases hp9
        exact q _ p9 (s06.trans (same_new hp9)) hpn upd_same
end

section
variable {P : Program} {w : World} {K : PySem.W.Frag} {mg : Str → Option Value} {base : Heap}
theorem ok_llo {f : Addr} {fd : FuncData} (F : Fun K "_law_long" "_law_long" sLLo f fd) (T : Bi mg) (G1 : Has P w K mg base CX0 2 "_law_ways" ["rows", "far"] (spLWa K)) : FnOk P w K mg base CX0 3 f fd ["rows", "far"] (spLLo K) := by
  refine F.ok scLLo (fun vs H Q E h => ?_) (fun cdv A outer s H vs Q E hr h => ?_)
  · obtain ⟨L, l, xs, rs, ns, rfl, _⟩ := h
    rfl
  · obtain ⟨L, l, xs, rs, ns, rfl, hR, nE, hl, q⟩ := h
    have hu := hu_of hr
    refine ⟨_, (pss_cons (ps_set (i := 2) scLLo.nd rfl (.inr rfl) (pe_callH G1 hr (by rfl) pass0 (pa_cons (pv 0) (pa_cons (pv 1) pa_nil))))
      (pss_one (ps_ret (pe_lock (pe_lc (own := [("k", 3)]) (g := gName 3) (tt := tAnd (tTest (tOp (rIn K true) (tVar 3) (tVar 1))) (tOr (tTest (tOp (rI0 fun i j => .bl (decide (i < j))) (tDGet (tVar 2) (tVar 3)) (tUn (rU fun i => .int (-i)) (tC (.int 256))))) (tTest (tOp (rI0 fun i j => .bl (decide (j < i))) (tDGet (tVar 2) (tVar 3)) (tC (.int 255)))))) (te := tVar 3) rfl scLLo.nd (pi_keys (pv 2)) (blkOk_by (N := ["rows", "far", "gaps", "k"]) (sc := defScope sLLo) (by decide +kernel)) (fun _ _ _ _ _ => pg_name (i := 3) scLLo.nd rfl (.inl rfl))
        (fun _ _ _ _ _ => pts_one (PW.pt (pw_and (pt_cmpR op_notIn_seq (pv 3) (pv 1) (by rfl)) (pw_and1 (PW.pt (pw_or (pt_cmpR op_lt (pe_dget hu (pv 2) (pv 3) (fun _ _ => rfl)) (pe_un un_neg pe_int) (nomark _)) (pw_or1 (pt_cmpR op_gt (pe_dget hu (pv 2) (pv 3) (fun _ _ => rfl)) pe_int (nomark _))))))))) (fun _ _ _ _ _ => (pv 3))))))), ?_⟩
    refine ⟨_, rfl, _, rfl, L, l, xs, rs, ns, rfl, hR, nE, .inl hl, fun H0 d s0 hdn hd => ?_⟩
    refine ⟨d, _, hd, trivial, fun od => ⟨_, rfl, d, od, rfl, .inl ⟨_, upd_same, fun D hD => ?_⟩⟩⟩
    have hDd : D ≠ d := by
      intro z
      rw [z, upd_same] at hD
      cases hD
    have hDn : H0 D = none := by
      rw [upd_ne hDd] at hD
      exact hD
    refine lc_it walk_keys (fun i H1 => (∀ b o, b ≠ D → upd H0 d (.frz od (.dK (wayD (mem ns) rs))) b = some o → H1 b = some o) ∧ H1 D = some (.lst (nats (((inn rs).take i).filter (isLong (mem ns) rs)))))
      ⟨fun b o hb e => by rw [upd_ne hb]; exact e, upd_same⟩ (fun i H1 _ ⟨kp, _⟩ => kp _ _ hDd.symm upd_same) ?_ ?_
    · rintro i x H1 H1' hi ⟨kp, hD1⟩ ⟨rfl, k, v, hk, rfl⟩
      obtain ⟨kk, hkk, hk2⟩ : ∃ kk, (inn rs)[i]? = some kk ∧ (k, v) = (Sum.inl (kk : Int), V.int (way (mem ns) rs kk)) := by
        unfold wayD mapD at hk
        rw [List.getElem?_map] at hk
        cases e : (inn rs)[i]? with
        | none => rw [e] at hk; cases hk
        | some kk =>
          rw [e] at hk
          exact ⟨kk, rfl, (Option.some.inj hk).symm⟩
      cases hk2
      have hmem := List.mem_of_getElem? hkk
      have hd1 : H1' d = some (.frz od (.dK (wayD (mem ns) rs))) := kp _ _ hDd.symm upd_same
      have hl1 : SqL K H1' l (ns.map V.int) := by
        rcases sqL_same s0 hl with hq | hq
        · rcases hq with hq | ⟨o, hq⟩
          · refine .inl (.inl (kp _ _ (ne_of_none hq hDn) ?_))
            rw [upd_ne (ne_of hq hd (by intro z; cases z))]
            exact hq
          · refine .inl (.inr ⟨o, kp _ _ (ne_of_none hq hDn) ?_⟩)
            rw [upd_ne (ne_of hq hd (by intro z; cases z))]
            exact hq
        · exact .inr hq
      have hg : DGet H1' d (.int (kk : Nat)) (some (.int (way (mem ns) rs kk))) := by
        refine .inl ⟨wayD (mem ns) rs, Sum.inl (kk : Int), .inr ⟨od, hd1⟩, rfl, ?_⟩
        unfold wayD
        rw [mapD_val, if_pos hmem]
      have tk : (inn rs).take (i + 1) = (inn rs).take i ++ [kk] := by
        rw [List.take_add_one, hkk]
        rfl
      have end1 : isLong (mem ns) rs kk = true → ∃ acc, H1' D = some (.lst acc) ∧ acc.length < sizeLine ∧ ((∀ b o, b ≠ D → upd H0 d (.frz od (.dK (wayD (mem ns) rs))) b = some o → upd H1' D (.lst (acc ++ [V.int (kk : Int)])) b = some o) ∧ upd H1' D (.lst (acc ++ [V.int (kk : Int)])) D = some (.lst (nats (((inn rs).take (i + 1)).filter (isLong (mem ns) rs))))) := by
        intro hlg
        refine ⟨_, hD1, ?_, fun b o hb e => ?_, ?_⟩
        · rw [nats_len]
          have h1 : (((inn rs).take i).filter (isLong (mem ns) rs)).length ≤ ((inn rs).take i).length := List.length_filter_le _ _
          have h2 : ((inn rs).take i).length ≤ (inn rs).length := by rw [List.length_take]; omega
          have h3 := inn_len rs
          have h4 := hR.len
          exact small1000 (by omega)
        · rw [upd_ne hb]
          exact kp b o hb e
        · rw [upd_same, tk, List.filter_append, nats_app]
          have z : [kk].filter (isLong (mem ns) rs) = [kk] := by simp [List.filter, hlg]
          rw [z]
          rfl
      have end0 : isLong (mem ns) rs kk = false → (∀ b o, b ≠ D → upd H0 d (.frz od (.dK (wayD (mem ns) rs))) b = some o → H1' b = some o) ∧ H1' D = some (.lst (nats (((inn rs).take (i + 1)).filter (isLong (mem ns) rs)))) := by
        intro hlg
        refine ⟨kp, ?_⟩
        rw [tk, List.filter_append]
        have z : [kk].filter (isLong (mem ns) rs) = [] := by simp [List.filter, hlg]
        rw [z, List.append_nil]
        exact hD1
      refine ⟨rfl, _, rfl, _, rfl, l, _, rfl, .inl hl1, rfl, flat_ints ns, _, rfl, ?_⟩
      show if (!inV (.int (kk : Int)) (ns.map V.int)) = true then _ else _
      rw [inV_ints]
      have em : decide ((kk : Int) ∈ ns) = mem ns (kk : Int) := rfl
      rw [em]
      unfold isLong tooL at end1 end0
      cases c : mem ns (kk : Int) with
      | true =>
        rw [c] at end0
        exact iteF (iteF (end0 rfl))
      | false =>
        rw [c] at end0 end1
        refine iteT ⟨_, rfl, _, rfl, d, _, rfl, hg, _, rfl, _, _, rfl, rfl, _, rfl, ?_⟩
        cases c2 : decide (way (mem ns) rs kk < -256) with
        | true =>
          rw [c2] at end1
          exact iteT (iteT ⟨_, rfl, end1 rfl⟩)
        | false =>
          rw [c2] at end0 end1
          refine iteF ⟨_, rfl, _, rfl, d, _, rfl, hg, _, _, rfl, rfl, _, rfl, ?_⟩
          cases c3 : decide (255 < way (mem ns) rs kk) with
          | true =>
            have c3' : decide (way (mem ns) rs kk > 255) = true := c3
            rw [c3'] at end1
            exact iteT ⟨_, rfl, end1 rfl⟩
          | false =>
            have c3' : decide (way (mem ns) rs kk > 255) = false := c3
            rw [c3'] at end0
            exact iteF (end0 rfl)
    · rintro H1 ⟨kp, hD1⟩
      have tl : (inn rs).take (wayD (mem ns) rs).length = inn rs := by
        unfold wayD
        rw [mapD_len]
        exact List.take_length
      rw [tl] at hD1
      have hd1 : H1 d = some (.frz od (.dK (wayD (mem ns) rs))) := kp _ _ hDd.symm upd_same
      refine ⟨hd1, q _ D (s0.trans (same_unlock hd hDn kp)) ?_ ?_⟩
      · cases e : H D with
        | none => rfl
        | some o => rw [s0 _ _ e] at hDn; cases hDn
      · rw [upd_ne hDd]
        exact hD1
end

abbrev sSame : Stmt := topS 41
theorem scSame : FnScope ["found", "due", "u", "v"] ["found", "due"] (defScope sSame) := ⟨rfl, rfl, rfl, by decide +kernel, rfl, by decide +kernel, by decide +kernel⟩
/-- two values that are held to be the same; d tells their kind -/
inductive SmR (K : PySem.W.Frag) (R : Hp → V → V → Prop) (H : Hp) : V → V → PyData → Prop
  | non : SmR K R H .non .non .none
  | int (i : Int) : SmR K R H (.int i) (.int i) (.int 0)
  | bl (b : Bool) : SmR K R H (.bl b) (.bl b) (.bool true)
  | str (z : Str) : SmR K R H (.str z) (.str z) (.str "a")
  | dct {a : Addr} : H a = some (.dK []) → SmR K R H (.ref a) (.ref a) (.dict [])
  | lst {a b : Addr} {xs ys : List V} : SqL K H a xs → SqL K H b ys → xs.length = ys.length → xs.length ≤ 900 → (∀ H', Same H H' → ∀ (i : Nat) x y, xs[i]? = some x → ys[i]? = some y → R H' x y) → SmR K R H (.ref a) (.ref b) (.list [])
  | tup {a b : Addr} {xs ys : List V} : SqT K H a xs → SqT K H b ys → xs.length = ys.length → xs.length ≤ 900 → (∀ H', Same H H' → ∀ (i : Nat) x y, xs[i]? = some x → ys[i]? = some y → R H' x y) → SmR K R H (.ref a) (.ref b) (.tuple [])
theorem SmR.same {K : PySem.W.Frag} {R : Hp → V → V → Prop} {H H' : Hp} {v u : V} {d : PyData} (e : Same H H') (h : SmR K R H v u d) : SmR K R H' v u d := by
  cases h with
  | non => exact .non
  | int i => exact .int i
  | bl b => exact .bl b
  | str z => exact .str z
  | dct h => exact .dct (e _ _ h)
  | lst h1 h2 h3 h4 h5 => exact .lst (sqL_same e h1) (sqL_same e h2) h3 h4 fun H2 e2 => h5 H2 (e.trans e2)
  | tup h1 h2 h3 h4 h5 => exact .tup (sqT_same e h1) (sqT_same e h2) h3 h4 fun H2 e2 => h5 H2 (e.trans e2)
theorem SmR.ty {K : PySem.W.Frag} {R : Hp → V → V → Prop} {H : Hp} {v u : V} {d : PyData} (h : SmR K R H v u d) : TyX K H v (.type (tyN d)) ∧ TyX K H u (.type (tyN d)) := by
  cases h with
  | non => exact ⟨.base .non, .base .non⟩
  | int i => exact ⟨.base (.int i), .base (.int i)⟩
  | bl b => exact ⟨.base (.bl b), .base (.bl b)⟩
  | str z => exact ⟨.base (.str z), .base (.str z)⟩
  | dct h => exact ⟨.base (.dK h), .base (.dK h)⟩
  | lst h1 h2 => exact ⟨ty_list h1, ty_list h2⟩
  | tup h1 h2 => exact ⟨ty_tup h1, ty_tup h2⟩
def SmRel (K : PySem.W.Frag) : Nat → Hp → V → V → Prop
  | 0 => fun _ _ _ => False
  | n + 1 => fun H v u => ∃ d, SmR K (SmRel K n) H v u d
def spSame (K : PySem.W.Frag) (n : Nat) : Sp := fun vs H Q _ => ∃ v u, vs = [v, u] ∧ SmRel K n H v u ∧ ∀ H', Same H H' → Q (.bl true) H'
abbrev gUV (K : PySem.W.Frag) : TG := gTup K 2 (gCons (gName 2) (gCons (gName 3) gNil))
section
variable {P : Program} {w : World} {K : PySem.W.Frag} {mg : Str → Option Value} {base : Heap}
theorem kit_list1 {K : PySem.W.Frag} (d : PyData) : PySem.W.kitOne K (.type (tyN d)) (.type "list") = some (tyN d == "list") := kit_ty (kb_list _ (tyN_mem d))
theorem kit_tup1 {K : PySem.W.Frag} (d : PyData) : PySem.W.kitOne K (.type (tyN d)) (.type "tuple") = some (tyN d == "tuple") := kit_ty (kb_tup _ (tyN_mem d))
theorem kit_lt {K : PySem.W.Frag} (d : PyData) : PySem.W.kitAny K (.type (tyN d)) [.type "int", .type "list", .type "tuple"] = some (isIB d || isR d) := by
  have h0 := kb_int _ (tyN_mem d)
  have h1 := kb_list _ (tyN_mem d)
  have h2 := kb_tup _ (tyN_mem d)
  refine kitAny_cons (kit_ty h0) (fun z0 => kitAny_cons (kit_ty h1) (fun z => kitAny_cons (kit_ty h2) (fun z2 => ?_) fun z2 => ?_) fun z => ?_) fun z0 => ?_
  all_goals
    try revert z0
    try revert z
    try revert z2
    cases d <;> simp [tyN, isR, isIB, kitAny_nil]
theorem same_core {J : It} {n m : Nat} {G : Hp → Prop} {xs ys : List V} {σ : L2.St} {H1 : Hp} {D : Addr} {Q : VK} {x0 x1 : Option V} (hσ : σ = [x0, x1, none, none])
    (wk : Walk J n G (YPair (fun i => xs[i]?) (fun i => ys[i]?))) (hn : n = xs.length) (hl : xs.length ≤ 900) (rel : ∀ H', Same H1 H' → ∀ (i : Nat) x y, xs[i]? = some x → ys[i]? = some y → SmRel K m H' x y) (hG : ∀ H4, (∀ b o, b ≠ D → H1 b = some o → H4 b = some o) → G H4) (hD : H1 D = none)
    (q : ∀ H' p, Same H1 H' → H' p = some (.lst ((List.replicate xs.length true).map V.bl)) → Q (.ref p) H') : LcW J (gUV K) tYes (tCall (spSame K m) [] E00 (tCons (tVar 2) (tCons (tVar 3) tNil))) [2, 3] σ H1 D (fun H' => Q (.ref D) H') := by
  subst hσ
  refine lc_it wk (fun i H4 => (∀ b o, b ≠ D → H1 b = some o → H4 b = some o) ∧ H4 D = some (.lst ((List.replicate i true).map V.bl))) ⟨fun b o hb e => by rw [upd_ne hb]; exact e, by rw [upd_same]; rfl⟩ (fun i H4 _ ⟨kp, _⟩ => hG H4 kp) ?_ ?_
  · rintro i x H4 H4' hi ⟨kp, hD4⟩ ⟨TT, x', y', rfl, hT, rfl, hx', hy'⟩
    have s4 : Same H1 H4 := fun b o e => kp b o (ne_of_none e hD) e
    have s5 := s4.trans (same_new (o := .tup [x', y']) hT)
    refine ⟨TT, _, rfl, SqT.of upd_same, rfl, _, _, rfl, _, _, rfl, rfl, rfl, ?_⟩
    refine yes_go (iteT ⟨_, rfl, _, rfl, x', y', rfl, rel _ s5 i x' y' hx' hy', fun H5 s6 => ⟨_, s6 _ _ ((same_new (o := .tup [x', y']) hT) _ _ hD4), ?_, fun b o hb e => ?_, ?_⟩⟩)
    · rw [List.length_map, List.length_replicate]
      exact small1000 (by omega)
    · rw [upd_ne hb]
      exact s6 _ _ ((same_new (o := .tup [x', y']) hT) _ _ (kp b o hb e))
    · rw [upd_same, List.replicate_succ', List.map_append]
      rfl
  · rintro H4 ⟨kp, hD4⟩
    rw [hn] at hD4
    exact q H4 D (fun b o e => kp b o (ne_of_none e hD) e) hD4
theorem rep_all (n : Nat) : (List.replicate n true).all id = true := by
  rw [List.all_eq_true]
  intro x hx
  rw [(List.mem_replicate.mp hx).2]
  rfl
theorem bb_ne {b : Bool} {A B : Prop} (h : B) : if (!decide (V.bl b = V.bl b)) = true then A else B := by
  rw [decide_eq_true rfl]
  exact h
theorem ok_same {f : Addr} {fd : FuncData} {n k : Nat} (F : Fun K "_law_same" "_law_same" sSame f fd) (T : Bi mg) (G : Has P w K mg base CX0 k "_law_same" ["found", "due"] (spSame K n)) : FnOk P w K mg base CX0 (k + 1) f fd ["found", "due"] (spSame K (n + 1)) := by
  refine F.ok scSame (fun vs H Q E h => ?_) (fun cdv A outer s H vs Q E hr h => ?_)
  · obtain ⟨v, u, rfl, _⟩ := h
    rfl
  · obtain ⟨v, u, rfl, ⟨d, sm⟩, q⟩ := h
    have huc : (A.deeper (envOfC "_law_same" (defScope sSame) s.heap.objs.size f cdv)).units < cLine := by
      have := hr.units
      omega
    have hu65' := hu65 hr
    refine ⟨_, (pss_cons (ps_if (pt_val (pe_callB call_isiT (by rfl) T.isinstance (by decide +kernel) (pa_cons (pv 1) (pa_cons (pe_tup (pa_cons (pe_bltn (v := .ty "list") (by rfl) T.list (by decide +kernel) rfl) (pa_cons (pe_bltn (v := .ty "tuple") (by rfl) T.tuple (by decide +kernel) rfl) pa_nil))) pa_nil)))) (pss_cons (ps_if (PW.pt (pw_or (pt_cmpR op_ne (pe_callB call_isi (by rfl) T.isinstance (by decide +kernel) (pa_cons (pv 0) (pa_cons (pe_bltn (v := .ty "list") (by rfl) T.list (by decide +kernel) rfl) pa_nil))) (pe_callB call_isi (by rfl) T.isinstance (by decide +kernel) (pa_cons (pv 1) (pa_cons (pe_bltn (v := .ty "list") (by rfl) T.list (by decide +kernel) rfl) pa_nil))) (nomark _)) (pw_or1 (pt_cmpR op_ne (pe_callB call_isi (by rfl) T.isinstance (by decide +kernel) (pa_cons (pv 0) (pa_cons (pe_bltn (v := .ty "tuple") (by rfl) T.tuple (by decide +kernel) rfl) pa_nil))) (pe_callB call_isi (by rfl) T.isinstance (by decide +kernel) (pa_cons (pv 1) (pa_cons (pe_bltn (v := .ty "tuple") (by rfl) T.tuple (by decide +kernel) rfl) pa_nil))) (nomark _))))) (pss_one (ps_ret pe_bl)) pss_nil)
      (pss_one (ps_ret (pe_and (pe_cmpR op_eq (pe_callB call_len_seq (by rfl) T.len (by decide +kernel) (pa_cons (pv 0) pa_nil)) (pe_callB call_len_seq (by rfl) T.len (by decide +kernel) (pa_cons (pv 1) pa_nil)) (nomark _)) (pe_one (pe_callB (cr_all rfl) (by rfl) T.all (by decide +kernel) (pa_cons (pe_lc (own := [("u", 2), ("v", 3)]) (g := gUV K) (tt := tYes) (te := tCall (spSame K n) [] E00 (tCons (tVar 2) (tCons (tVar 3) tNil))) rfl scSame.nd (RZ.pi_zipA (by rfl) T.zip (pa_cons (pv 0) (pa_cons (pv 1) pa_nil))) (blkOk_by (N := ["found", "due", "u", "v"]) (sc := defScope sSame) (by decide +kernel)) (fun _ _ _ _ _ => (pg_tup rfl (pgs_cons (pg_name (i := 2) scSame.nd rfl (.inl rfl) (.inr rfl)) (pgs_cons (pg_name (i := 3) scSame.nd rfl (.inl rfl) (.inr rfl)) pgs_nil)))) (fun _ _ _ _ _ => pts_nil) (fun _ _ _ _ _ => (pe_callH G hr (by rfl) pass0 (pa_cons (pv 2) (pa_cons (pv 3) pa_nil))))) pa_nil))))))) pss_nil)
      (pss_cons (ps_if (pt_val (pe_callB call_isi (by rfl) T.isinstance (by decide +kernel) (pa_cons (pv 1) (pa_cons (pe_bltn (v := .ty "int") (by rfl) T.int (by decide +kernel) rfl) pa_nil)))) (pss_one (ps_ret (pe_and (pe_callB call_isi (by rfl) T.isinstance (by decide +kernel) (pa_cons (pv 0) (pa_cons (pe_bltn (v := .ty "int") (by rfl) T.int (by decide +kernel) rfl) pa_nil))) (pe_and (pe_cmpR op_eq (pe_callB call_isi (by rfl) T.isinstance (by decide +kernel) (pa_cons (pv 0) (pa_cons (pe_bltn (v := .ty "bool") (by rfl) T.bool (by decide +kernel) rfl) pa_nil))) (pe_callB call_isi (by rfl) T.isinstance (by decide +kernel) (pa_cons (pv 1) (pa_cons (pe_bltn (v := .ty "bool") (by rfl) T.bool (by decide +kernel) rfl) pa_nil))) (nomark _)) (pe_one (pe_cmpR op_eq (pv 0) (pv 1) (nomark _))))))) pss_nil)
      (pss_one (ps_ret (pe_and (pe_cmpR op_isBl (pe_callB call_isiT (by rfl) T.isinstance (by decide +kernel) (pa_cons (pv 0) (pa_cons (pe_tup (pa_cons (pe_bltn (v := .ty "int") (by rfl) T.int (by decide +kernel) rfl) (pa_cons (pe_bltn (v := .ty "list") (by rfl) T.list (by decide +kernel) rfl) (pa_cons (pe_bltn (v := .ty "tuple") (by rfl) T.tuple (by decide +kernel) rfl) pa_nil)))) pa_nil))) pe_bl (nomark _)) (pe_one (pe_cmpR (op_eq.or (op_eq_dictA huc)) (pv 0) (pv 1) (nomark _)))))))), ?_⟩
    refine ⟨_, rfl, (by show 2 ≤ sizeLine; decide), fun p hp => ?_⟩
    have s1 := same_new (o := .tup [V.ty "list", V.ty "tuple"]) hp
    have sm1 := sm.same s1
    refine ⟨u, p, _, _, _, _, rfl, upd_same, .cons (.ty "list") (.cons (.ty "tuple") .nil), sm1.ty.2, kit_row d, _, rfl, ?_⟩
    generalize hH1 : upd H p (.tup [V.ty "list", V.ty "tuple"]) = H1 at s1 sm1
    have ways : (∃ (a b : Addr) (xs ys : List V), isR d = true ∧ v = .ref a ∧ u = .ref b ∧ ((SqL K H1 a xs ∧ SqL K H1 b ys) ∨ (SqT K H1 a xs ∧ SqT K H1 b ys)) ∧ xs.length = ys.length ∧ xs.length ≤ 900 ∧ (∀ H', Same H1 H' → ∀ (i : Nat) x y, xs[i]? = some x → ys[i]? = some y → SmRel K n H' x y)) ∨ isR d = false := by
      cases sm1 with
      | lst h1 h2 h3 h4 h5 => exact .inl ⟨_, _, _, _, rfl, rfl, rfl, .inl ⟨h1, h2⟩, h3, h4, h5⟩
      | tup h1 h2 h3 h4 h5 => exact .inl ⟨_, _, _, _, rfl, rfl, rfl, .inr ⟨h1, h2⟩, h3, h4, h5⟩
      | _ => exact .inr rfl
    rcases ways with ⟨a, b, xs, ys, hR, rfl, rfl, hs, hlen, l9, rel⟩ | hR
    · rw [hR]
      obtain ⟨tv, tu⟩ := sm1.ty
      refine iteT ⟨_, rfl, .ref a, _, _, _, _, rfl, .ty "list", tv, kit_list1 d, _, rfl, .ref b, _, _, _, _, rfl, .ty "list", tu, kit_list1 d, rfl, _, rfl, ?_⟩
      refine bb_ne ⟨_, rfl, .ref a, _, _, _, _, rfl, .ty "tuple", tv, kit_tup1 d, _, rfl, .ref b, _, _, _, _, rfl, .ty "tuple", tu, kit_tup1 d, rfl, _, rfl, ?_⟩
      refine bb_ne ⟨_, rfl, a, xs, rfl, hs.elim (fun h => .inl h.1) (fun h => .inr h.1), _, rfl, b, ys, rfl, hs.elim (fun h => .inl h.2) (fun h => .inr h.2), rfl, _, rfl, ?_⟩
      rw [hlen, decide_eq_true rfl]
      have fin : ∀ H' p, Same H1 H' → H' p = some (.lst ((List.replicate xs.length true).map V.bl)) → rAll K [.ref p] H' Q := fun H' p sm hp => by
        refine ⟨p, _, rfl, SqL.of hp, ?_⟩
        rw [rep_all]
        exact q H' (s1.trans sm)
      rcases hs with ⟨h1, h2⟩ | ⟨h1, h2⟩
      · refine iteT ⟨_, rfl, _, rfl, a, b, xs, ys, rfl, .inl ⟨h1, h2, fun D hD => ?_⟩⟩
        exact same_core (Q := fun v H' => rAll K [v] H' Q) rfl (walk_zip (n := xs.length) (by rw [hlen]; exact (Nat.min_self _).symm)) rfl l9 rel (fun H4 kp => ⟨sqL_same (fun b o e => kp b o (ne_of_none e hD) e) h1, sqL_same (fun b o e => kp b o (ne_of_none e hD) e) h2⟩) hD fin
      · refine iteT ⟨_, rfl, _, rfl, a, b, xs, ys, rfl, .inr ⟨h1, h2, fun D hD => ?_⟩⟩
        exact same_core (Q := fun v H' => rAll K [v] H' Q) rfl (walk_zipT (n := xs.length) (by rw [hlen]; exact (Nat.min_self _).symm)) rfl l9 rel (fun H4 kp => ⟨sqT_same (fun b o e => kp b o (ne_of_none e hD) e) h1, sqT_same (fun b o e => kp b o (ne_of_none e hD) e) h2⟩) hD fin
    cases sm1 with
    | lst h1 h2 h3 h4 h5 => cases hR
    | tup h1 h2 h3 h4 h5 => cases hR
    | int i =>
      refine iteF ⟨_, rfl, _, _, _, _, _, rfl, .ty "int", .base (.int i), kit_int (.int 0), _, rfl, ?_⟩
      refine iteT ⟨_, rfl, _, _, _, _, _, rfl, .ty "int", .base (.int i), kit_int (.int 0), _, rfl, ?_⟩
      refine iteT ⟨_, rfl, _, _, _, _, _, rfl, .ty "bool", .base (.int i), kit_bool (.int 0), _, rfl, _, _, _, _, _, rfl, .ty "bool", .base (.int i), kit_bool (.int 0), rfl, _, rfl, ?_⟩
      rw [decide_eq_true rfl]
      refine iteT ⟨_, rfl, _, rfl, rfl, ?_⟩
      rw [decide_eq_true rfl]
      exact q H1 s1
    | bl z =>
      refine iteF ⟨_, rfl, _, _, _, _, _, rfl, .ty "int", .base (.bl z), kit_int (.bool true), _, rfl, ?_⟩
      refine iteT ⟨_, rfl, _, _, _, _, _, rfl, .ty "int", .base (.bl z), kit_int (.bool true), _, rfl, ?_⟩
      refine iteT ⟨_, rfl, _, _, _, _, _, rfl, .ty "bool", .base (.bl z), kit_bool (.bool true), _, rfl, _, _, _, _, _, rfl, .ty "bool", .base (.bl z), kit_bool (.bool true), rfl, _, rfl, ?_⟩
      rw [decide_eq_true rfl]
      refine iteT ⟨_, rfl, _, rfl, rfl, ?_⟩
      rw [decide_eq_true rfl]
      exact q H1 s1
    | str z =>
      refine iteF ⟨_, rfl, _, _, _, _, _, rfl, .ty "int", .base (.str z), kit_int (.str "a"), _, rfl, ?_⟩
      refine iteF ⟨_, rfl, (by show 3 ≤ sizeLine; decide), fun p2 hp2 => ?_⟩
      have s2 := same_new (o := .tup [V.ty "int", V.ty "list", V.ty "tuple"]) hp2
      refine ⟨_, p2, _, _, _, _, rfl, upd_same, .cons (.ty "int") (.cons (.ty "list") (.cons (.ty "tuple") .nil)), .base (.str z), kit_lt (.str "a"), _, _, rfl, rfl, _, rfl, ?_⟩
      refine iteT ⟨_, rfl, _, rfl, .inl ⟨rfl, ?_⟩⟩
      rw [decide_eq_true rfl]
      exact q _ (s1.trans s2)
    | non =>
      refine iteF ⟨_, rfl, _, _, _, _, _, rfl, .ty "int", .base .non, kit_int .none, _, rfl, ?_⟩
      refine iteF ⟨_, rfl, (by show 3 ≤ sizeLine; decide), fun p2 hp2 => ?_⟩
      have s2 := same_new (o := .tup [V.ty "int", V.ty "list", V.ty "tuple"]) hp2
      refine ⟨_, p2, _, _, _, _, rfl, upd_same, .cons (.ty "int") (.cons (.ty "list") (.cons (.ty "tuple") .nil)), .base .non, kit_lt .none, _, _, rfl, rfl, _, rfl, ?_⟩
      refine iteT ⟨_, rfl, _, rfl, .inl ⟨rfl, ?_⟩⟩
      rw [decide_eq_true rfl]
      exact q _ (s1.trans s2)
    | dct h =>
      rename_i a
      refine iteF ⟨_, rfl, _, _, _, _, _, rfl, .ty "int", .base (.dK h), kit_int (.dict []), _, rfl, ?_⟩
      refine iteF ⟨_, rfl, (by show 3 ≤ sizeLine; decide), fun p2 hp2 => ?_⟩
      have s2 := same_new (o := .tup [V.ty "int", V.ty "list", V.ty "tuple"]) hp2
      have h2 := s2 _ _ h
      refine ⟨_, p2, _, _, _, _, rfl, upd_same, .cons (.ty "int") (.cons (.ty "list") (.cons (.ty "tuple") .nil)), .base (.dK h2), kit_lt (.dict []), _, _, rfl, rfl, _, rfl, ?_⟩
      refine iteT ⟨_, rfl, _, rfl, .inr ⟨a, a, [], [], rfl, rfl, h2, h2, rfl, (fun p hp => absurd hp (by simp)), ?_⟩⟩
      exact q _ (s1.trans s2)
theorem ok_same0 {f : Addr} {fd : FuncData} (F : Fun K "_law_same" "_law_same" sSame f fd) : FnOk P w K mg base CX0 1 f fd ["found", "due"] (spSame K 0) := by
  refine F.ok scSame (fun vs H Q E h => ?_) (fun cdv A outer s H vs Q E hr h => ?_)
  · obtain ⟨v, u, rfl, _⟩ := h
    rfl
  · obtain ⟨v, u, rfl, z, _⟩ := h
    exact absurd z id
end

theorem eqv_int (a b : Int) : PyData.eqv (.int a) (.int b) = decide (a = b) := by
  rw [PyData.eqv]
  by_cases h : a = b
  · subst h; simp
  · simp [h]
theorem eqv_ints : ∀ a b : List Int, PyData.eqv (.list (a.map .int)) (.list (b.map .int)) = decide (a = b)
  | [], [] => by simp [PyData.eqv, PyData.eqvAll]
  | [], _ :: _ => by simp [PyData.eqv, PyData.eqvAll]
  | _ :: _, [] => by simp [PyData.eqv, PyData.eqvAll]
  | x :: a, y :: b => by
    have ih := eqv_ints a b
    rw [PyData.eqv] at ih ⊢
    rw [List.map_cons, List.map_cons, PyData.eqvAll, ih, eqv_int]
    by_cases h : x = y
    · subst h; simp
    · simp [h]
theorem ints_lay : ∀ ks : List Int, PyData.canLayAll0 (ks.map .int) = true
  | [] => rfl
  | k :: ks => by
    rw [List.map_cons]
    simp [PyData.canLayAll0, PyData.canLay0, ints_lay ks]
theorem ints_depth : ∀ ks : List Int, PyData.depthAll (ks.map .int) ≤ 5
  | [] => by simp [PyData.depthAll]
  | k :: ks => by
    have h := ints_depth ks
    have h2 : (PyData.int k).depth ≤ 5 := by simp [PyData.depth]
    rw [List.map_cons]
    simp only [PyData.depthAll]
    omega
theorem ints_shaped (ks : List Int) : SeqAt.shaped (.list (ks.map .int)) = true := by
  unfold SeqAt.shaped
  have h := ints_depth ks
  have h1 := ints_lay ks
  rw [Bool.and_eq_true]
  refine ⟨by simpa [PyData.canLay0] using h1, decide_eq_true ?_⟩
  simp only [PyData.depth]
  omega
theorem dp_ints {K : PySem.W.Frag} {H : Hp} {a : Addr} {ks : List Int} (h : SqL K H a (ks.map V.int)) : Dp K H (.ref a) (.list (ks.map .int)) := .lst h (dps_ints ks)
/-! ### the law's grown -/
abbrev sLGr : Stmt := topS 49
theorem scLGr : FnScope ["rows", "far"] ["rows"] (defScope sLGr) := ⟨rfl, rfl, rfl, by decide +kernel, rfl, by decide +kernel, by decide +kernel⟩
def spLGr (K : PySem.W.Frag) : Sp := fun vs H Q _ => ∃ (L : Addr) (xs : List V) (rs : List Row), vs = [.ref L] ∧ LRows K H L xs rs ∧ rs.length ≤ 20 ∧ (∀ r ∈ rs, RowOk r) ∧ ∀ H' p g, Same H H' → SqT K H' p (g.map V.int) → Grown rs g → Q (.ref p) H'
section
variable {P : Program} {w : World} {K : PySem.W.Frag} {mg : Str → Option Value} {base : Heap}
theorem ok_lgr {f : Addr} {fd : FuncData} (F : Fun K "_law_grown" "_law_grown" sLGr f fd) (T : Bi mg) (G1 : Has P w K mg base CX0 3 "_law_outs" ["rows"] (spLOu K)) (G2 : Has P w K mg base CX0 3 "_law_long" ["rows", "far"] (spLLo K)) : FnOk P w K mg base CX0 4 f fd ["rows"] (spLGr K) := by
  refine F.ok scLGr (fun vs H Q E h => ?_) (fun cdv A outer s H vs Q E hr h => ?_)
  · obtain ⟨L, xs, rs, rfl, _⟩ := h
    rfl
  · obtain ⟨L, xs, rs, rfl, hR, hl20, nE, q⟩ := h
    have hu64 := hr.units
    refine ⟨_, (pss_cons (ps_set (i := 1) scLGr.nd rfl (.inl rfl) (pe_callH G1 hr (by rfl) pass0 (pa_cons (pv 0) pa_nil)))
      (pss_cons (ps_while PassesOwn.never (pt_cmpR (op_neD hu64) (pe_callH G2 hr (by rfl) pass0 (pa_cons (pv 0) (pa_cons (pv 1) pa_nil))) (pe_lst pa_nil) (nomark _)) (pss_one (ps_set (i := 1) scLGr.nd rfl (.inl rfl) (pe_callB cr_sortedQ (by rfl) T.sorted (by decide +kernel) (pa_cons (pe_op op_cat (pv 1) (pe_callH G2 hr (by rfl) pass0 (pa_cons (pv 0) (pa_cons (pv 1) pa_nil)))) pa_nil)))))
      (pss_one (ps_ret (pe_callTy call_tuple_of (by rfl) T.tuple (by decide +kernel) (pa_cons (pv 1) pa_nil)))))), ?_⟩
    refine ⟨_, rfl, L, xs, rs, rfl, hR, fun H1 O s1 _ hO => ?_⟩
    have il := inn_len rs
    have ol := outs_len rs
    refine ⟨fun m σ H4 => ∃ (a : Addr) (fs : List Int) (n : Nat), σ = [some (.ref L), some (.ref a)] ∧ Same H H4 ∧ H4 a = some (.lst (fs.map V.int)) ∧ fs.Perm (zs (outs rs ++ fars rs n)) ∧ fs.Pairwise (· ≤ ·) ∧ m = (rem rs (fars rs n)).length, ⟨_, O, zs (outs rs), 0, rfl, s1, by rw [hO, nats_zs], ?_, outs_sorted rs, rfl⟩, ?_⟩
    · show (zs (outs rs)).Perm (zs (outs rs ++ []))
      rw [List.append_nil]
    · rintro m σ H4 ⟨a, fs, n, rfl, s4, ha, pm, srt, rfl⟩
      refine ⟨_, rfl, _, rfl, L, a, xs, rs, fs, rfl, hR.same s4, nE, SqL.of ha, fun H5 p s5 _ hp => ⟨Nat.zero_le _, fun p2 hp2 => ?_⟩⟩
      have elg : long (mem fs) rs = long (fN (outs rs ++ fars rs n)) rs := by rw [mem_perm pm]; rfl
      rw [elg] at hp
      have s6 := s5.trans (same_new (o := .lst []) hp2)
      have hp6 := (same_new (o := .lst []) hp2) _ _ hp
      refine ⟨.list ((zs (long (fN (outs rs ++ fars rs n)) rs)).map .int), .list (([] : List Int).map .int), dp_ints (SqL.of (by rw [hp6, nats_zs])), .lst (SqL.of upd_same) .nil, ints_shaped _, ints_shaped [], _, rfl, ?_⟩
      rw [eqv_ints]
      have s46 := s4.trans s6
      have fl := fars_len rs n
      have ll : (long (fN (outs rs ++ fars rs n)) rs).length ≤ (inn rs).length := List.length_filter_le _ _
      have fsl : fs.length ≤ 40 := by
        rw [pm.length_eq, zs_len, List.length_append]
        omega
      by_cases hlg : zs (long (fN (outs rs ++ fars rs n)) rs) = []
      · rw [decide_eq_true hlg]
        have hlg' : long (fN (outs rs ++ fars rs n)) rs = [] := List.map_eq_nil_iff.mp hlg
        have ha6 := s6 _ _ ha
        exact iteF ⟨_, rfl, a, _, rfl, .inl ⟨SqL.of ha6, fun l hl => q _ l fs (s46.trans (same_new hl)) (SqT.of upd_same) ⟨n, pm, srt, hlg'⟩⟩⟩
      · rw [decide_eq_false hlg]
        refine iteT ⟨fun σ' H' => ∃ m', m' < (rem rs (fars rs n)).length ∧ ∃ (a : Addr) (fs : List Int) (n : Nat), σ' = [some (.ref L), some (.ref a)] ∧ Same H H' ∧ H' a = some (.lst (fs.map V.int)) ∧ fs.Perm (zs (outs rs ++ fars rs n)) ∧ fs.Pairwise (· ≤ ·) ∧ m' = (rem rs (fars rs n)).length, fun σ' H' h => h, ?_⟩
        refine ⟨_, rfl, _, rfl, _, rfl, L, a, xs, rs, fs, rfl, hR.same s46, nE, SqL.of (s6 _ _ ha), fun H7 p3 s7 _ hp3 => ?_⟩
        rw [elg] at hp3
        have ha7 := s7 _ _ (s6 _ _ ha)
        refine ⟨a, p3, _, _, rfl, rfl, ha7, hp3, ?_, fun p4 hp4 => ?_⟩
        · rw [nats_len, List.length_map]
          have : fs.length + (long (fN (outs rs ++ fars rs n)) rs).length ≤ 1000 := by omega
          exact Nat.le_trans this (by decide)
        refine ⟨p4, fs ++ zs (long (fN (outs rs ++ fars rs n)) rs), rfl, .inl (SqL.of (by rw [upd_same, nats_zs, List.map_append])), ?_, fun ns' p5 pm' srt' hp5 => ?_⟩
        · rw [List.length_append, zs_len]
          omega
        have nx := rem_next rs (fars rs n)
        have lpos : 0 < (long (fN (outs rs ++ fars rs n)) rs).length := by
          refine List.length_pos_iff.mpr fun z => hlg ?_
          rw [z]
          rfl
        refine ⟨(rem rs (fars rs (n + 1))).length, ?_, p5, ns', n + 1, rfl, ?_, upd_same, ?_, srt', rfl⟩
        · show (rem rs (fars rs n ++ long (fN (outs rs ++ fars rs n)) rs)).length < _
          omega
        · exact ((s46.trans s7).trans (same_new hp4)).trans (same_new hp5)
        · refine pm'.trans ((pm.append_right _).trans ?_)
          show (zs (outs rs ++ fars rs n) ++ zs (long (fN (outs rs ++ fars rs n)) rs)).Perm (zs (outs rs ++ (fars rs n ++ long (fN (outs rs ++ fars rs n)) rs)))
          unfold zs
          rw [← List.map_append, List.append_assoc]
end

/-! ### _law_moved -/
abbrev sLMv : Stmt := topS 52
theorem scLMv : FnScope ["ks", "at", "k"] ["ks", "at"] (defScope sLMv) := ⟨rfl, rfl, rfl, by decide +kernel, rfl, by decide +kernel, by decide +kernel⟩
def spLMv (K : PySem.W.Frag) : Sp := fun vs H Q _ => ∃ (p : Addr) (g : List Int) (a : Int), vs = [.ref p, .int a] ∧ (SqL K H p (g.map V.int) ∨ SqT K H p (g.map V.int)) ∧ g.length ≤ 900 ∧ ∀ H' q, Same H H' → H q = none → H' q = some (.lst ((mvI a g).map V.int)) → Q (.ref q) H'
section
variable {P : Program} {w : World} {K : PySem.W.Frag} {mg : Str → Option Value} {base : Heap}
theorem ok_lmv {f : Addr} {fd : FuncData} (F : Fun K "_law_moved" "_law_moved" sLMv f fd) (T : Bi mg) : FnOk P w K mg base CX0 1 f fd ["ks", "at"] (spLMv K) := by
  refine F.ok scLMv (fun vs H Q E h => ?_) (fun cdv A outer s H vs Q E hr h => ?_)
  · obtain ⟨p, g, a, rfl, _⟩ := h
    rfl
  · obtain ⟨p, g, a, rfl, hp, hl, q⟩ := h
    refine ⟨_, (pss_one (ps_ret (pe_lc (own := [("k", 2)]) (g := gName 2) (tt := tYes) rfl scLMv.nd (pi_seq (pv 0)) (blkOk_by (N := ["ks", "at", "k"]) (sc := defScope sLMv) (by decide +kernel)) (fun _ _ _ _ _ => pg_name (i := 2) scLMv.nd rfl (.inl rfl)) (fun _ _ _ _ _ => pts_nil) (fun _ _ _ _ _ => (pe_op op_add (pv 2) (pe_callTy call_int1 (by rfl) T.int (by decide +kernel) (pa_cons (pe_cmpR op_ge (pv 2) (pv 1) (nomark _)) pa_nil))))))), ?_⟩
    refine ⟨_, rfl, p, g.map V.int, rfl, hp, fun J G wk st D hD => ?_⟩
    have sk : ∀ {H4 : Hp}, (∀ b u, b ≠ D → H b = some u → H4 b = some u) → Same H H4 := fun kp b u e => kp b u (ne_of_none e hD) e
    refine lc_it wk (fun i H4 => (∀ b u, b ≠ D → H b = some u → H4 b = some u) ∧ H4 D = some (.lst ((mvI a (g.take i)).map V.int))) ⟨fun b u hb e => by rw [upd_ne hb]; exact e, upd_same⟩ (fun i H4 _ ⟨kp, _⟩ => st H4 (sqL_same (sk kp)) (sqT_same (sk kp))) ?_ ?_
    · rintro i z H4 H4' hi ⟨kp, hD4⟩ ⟨rfl, hz⟩
      obtain ⟨n, hn, rfl⟩ := int_get hz
      have hi2 : i < g.length := (List.getElem?_eq_some_iff.mp hn).1
      refine ⟨rfl, yes_go (iteT ⟨_, rfl, _, rfl, _, rfl, _, _, rfl, rfl, .inr ⟨_, rfl, _, _, rfl, rfl, _, hD4, ?_, fun b u hb e => by rw [upd_ne hb]; exact kp b u hb e, ?_⟩⟩)⟩
      · unfold mvI
        rw [List.length_map, List.length_map, List.length_take]
        exact small1000 (by omega)
      · rw [upd_same, take_snoc hn]
        unfold mvI
        rw [List.map_append, List.map_append]
        congr 3
        by_cases c : n < a
        · have c2 : ¬ n ≥ a := by omega
          simp [c, c2]
        · have c2 : n ≥ a := by omega
          simp [c, c2]
    · rintro H4 ⟨kp, hD4⟩
      rw [List.length_map, List.take_length] at hD4
      exact q H4 D (sk kp) hD hD4
end
/-! ### _law_room -/
abbrev sLRm : Stmt := topS 51
abbrev NLRm : List Str := ["rows", "at", "grown", "gaps", "spots", "some", "k", "to"]
theorem scLRm : FnScope NLRm ["rows", "at"] (defScope sLRm) := ⟨rfl, rfl, rfl, by decide +kernel, rfl, by decide +kernel, by decide +kernel⟩
abbrev lrB (j : Nat) : Stmt := (forB ((defBody sLRm).getD 2 (.Pass ⟨0, 0, 0, 0⟩))).getD j (.Pass ⟨0, 0, 0, 0⟩)
abbrev XLR (P : Program) (w : World) (K : PySem.W.Frag) (mg : Str → Option Value) (base : Heap) (f : Addr) (cdv : Value) (A : Around) (outer : List Env) (s : Shared) (H : Hp) (E : XK) : Cx := (cxOf CX0 P w K mg base NLRm "_law_room" (defScope sLRm) f cdv A outer s H E).nox
def spLRm (K : PySem.W.Frag) : Sp := fun vs H Q _ => ∃ (L : Addr) (xs : List V) (rs : List Row) (a : Int), vs = [.ref L, .int a] ∧ LRows K H L xs rs ∧ rs.length ≤ 20 ∧ (∀ r ∈ rs, RowOk r) ∧ ∀ H' g, Same H H' → Grown rs g → Q (minO (leftL (mem g) rs a (inn rs))) H'
theorem cross_far {f : Int → Bool} {rs : List Row} {a : Int} {k : Nat} (h : f (k : Nat) = true) : crossL f rs a k = [] := by
  unfold crossL
  rw [if_neg (fun z => by rw [h] at z; cases z.1), if_neg (fun z => by rw [h] at z; cases z.1)]
  rfl
theorem left_filter (f : Int → Bool) (rs : List Row) (a : Int) : ∀ ks : List Nat, leftL f rs a (ks.filter fun k => !f (k : Nat)) = leftL f rs a ks
  | [] => rfl
  | k :: ks => by
    have ih := left_filter f rs a ks
    unfold leftL at ih ⊢
    cases c : f (k : Nat) with
    | true =>
      have e : (k :: ks).filter (fun k => !f (k : Nat)) = ks.filter fun k => !f (k : Nat) := by simp [List.filter, c]
      rw [e, List.flatMap_cons, cross_far c, ih]
      rfl
    | false =>
      have e : (k :: ks).filter (fun k => !f (k : Nat)) = k :: ks.filter fun k => !f (k : Nat) := by simp [List.filter, c]
      rw [e, List.flatMap_cons, List.flatMap_cons, ih]
theorem foldl_min_spec : ∀ (ns : List Int) (n : Int), (ns.foldl min n = n ∨ ns.foldl min n ∈ ns) ∧ ns.foldl min n ≤ n ∧ ∀ y ∈ ns, ns.foldl min n ≤ y
  | [], n => ⟨.inl rfl, Int.le_refl _, fun y hy => by cases hy⟩
  | m :: ns, n => by
    obtain ⟨h1, h2, h3⟩ := foldl_min_spec ns (min n m)
    show (ns.foldl min (min n m) = n ∨ ns.foldl min (min n m) ∈ m :: ns) ∧ ns.foldl min (min n m) ≤ n ∧ ∀ y ∈ m :: ns, ns.foldl min (min n m) ≤ y
    have l1 : min n m ≤ n := Int.min_le_left ..
    have l2 : min n m ≤ m := Int.min_le_right ..
    refine ⟨?_, Int.le_trans h2 l1, fun y hy => ?_⟩
    · rcases h1 with h1 | h1
      · rcases Int.le_total n m with c | c
        · left; rw [h1]; exact Int.min_eq_left c
        · right; rw [h1, Int.min_eq_right c]; exact List.mem_cons_self ..
      · right; exact List.mem_cons_of_mem _ h1
    · rcases List.mem_cons.mp hy with e | e
      · rw [e]; exact Int.le_trans h2 l2
      · exact h3 y e
theorem min_is {ns : List Int} {m : Int} (h1 : m ∈ ns) (h2 : ∀ y ∈ ns, m ≤ y) : minO ns = .int m := by
  cases ns with
  | nil => cases h1
  | cons n ns =>
    obtain ⟨a1, a2, a3⟩ := foldl_min_spec ns n
    show V.int (ns.foldl min n) = V.int m
    have l1 : m ≤ ns.foldl min n := by
      rcases a1 with e | e
      · rw [e]; exact h2 n (List.mem_cons_self ..)
      · exact h2 _ (List.mem_cons_of_mem _ e)
    have l2 : ns.foldl min n ≤ m := by
      rcases List.mem_cons.mp h1 with e | e
      · rw [e]; exact a2
      · exact a3 m e
    rw [Int.le_antisymm l2 l1]
section
variable {P : Program} {w : World} {K : PySem.W.Frag} {mg : Str → Option Value} {base : Heap} {f : Addr} {cdv : Value} {A : Around} {outer : List Env} {s : Shared} {H0 : Hp} {E : XK}
/-- what stands while the branches are walked -/
structure LrH (d L : Addr) (f : Int → Bool) (rs : List Row) (acc : List Int) (H : Hp) : Prop where
  dic : H d = some (.dK (wayD f rs))
  lst : H L = some (.lst (acc.map V.int))
theorem lr_get {d L : Addr} {f : Int → Bool} {rs : List Row} {acc : List Int} {H : Hp} {kk : Nat} (h : LrH d L f rs acc H) (hmem : kk ∈ inn rs) : DGet H d (.int (kk : Nat)) (some (.int (way f rs kk))) := by
  have g := DGet.k (k := Sum.inl (kk : Int)) h.dic
  have e : valV (wayD f rs) (Sum.inl (kk : Int)) = some (.int (way f rs kk)) := by
    unfold wayD
    rw [mapD_val, if_pos hmem]
  rw [e] at g
  exact g
abbrev lrS (sc : Addr) (k : Int) (pg d S L : V) (kk j : Nat) : L2.St := [some (.ref sc), some (.int k), some pg, some d, some S, some L, some (.int (kk : Int)), some (.int (j : Int))]
theorem lr_if1 (hr : Room 5 (XLR P w K mg base f cdv A outer s H0 E).A) : ∃ t, PS (XLR P w K mg base f cdv A outer s H0 E) (lrB 1) t ∧
    ∀ (sc pg d S L : Addr) (D : Ends) (H : Hp) (fm : Int → Bool) (rs : List Row) (acc : List Int) (k : Int) (kk j : Nat), LrH d L fm rs acc H → kk ∈ inn rs → acc.length ≤ 1900 →
      (∀ H', (∀ c u, c ≠ L → H c = some u → H' c = some u) → LrH d L fm rs (acc ++ (if (kk : Int) < k ∧ k ≤ (j : Int) then [255 - way fm rs kk] else [])) H' → D.nx (lrS sc k (.ref pg) (.ref d) (.ref S) (.ref L) kk j) H') →
      t D (lrS sc k (.ref pg) (.ref d) (.ref S) (.ref L) kk j) H := by
  have hu := hu_of hr
  refine ⟨_, (ps_if (pt_chain op_lt op_le (pv 6) (pv 1) (pv 7)) (pss_one (ps_expr (pe_bm PySem.F.plainAttrs_list PySem.F.slot_list_append PySem.F.type_list_append mt_append (pv 5) (pa_cons (pe_op op_sub pe_int (pe_dget hu (pv 3) (pv 6) (fun _ _ => rfl))) pa_nil)))) pss_nil), ?_⟩
  intro sc pg d S L D H fm rs acc k kk j h hmem ha q
  have dL : d ≠ L := ne_of h.dic h.lst (by intro z; cases z)
  have stay : ¬ ((kk : Int) < k ∧ k ≤ (j : Int)) → D.nx (lrS sc k (.ref pg) (.ref d) (.ref S) (.ref L) kk j) H := fun no => by
    refine q H (fun _ _ _ e => e) ?_
    rw [if_neg no, List.append_nil]
    exact h
  refine ⟨_, rfl, _, rfl, _, _, rfl, rfl, _, rfl, ?_⟩
  by_cases c1 : (kk : Int) < k
  · rw [decide_eq_true c1]
    refine iteT ⟨_, rfl, _, _, rfl, rfl, _, rfl, ?_⟩
    by_cases c2 : k ≤ (j : Int)
    · rw [decide_eq_true c2]
      refine iteT ⟨_, rfl, .inl ⟨rfl, _, SqL.of h.lst⟩, _, rfl, _, rfl, d, _, rfl, lr_get h hmem, _, _, rfl, rfl, L, _, _, rfl, rfl, h.lst, ?_, ?_⟩
      · rw [List.length_map]
        exact Nat.lt_of_le_of_lt ha (by decide)
      · have e : (acc.map V.int ++ [V.int (255 - way fm rs kk)]) = (acc ++ [255 - way fm rs kk]).map V.int := by
          rw [List.map_append]
          rfl
        rw [e]
        refine q _ (fun c u hc e => by rw [upd_ne hc]; exact e) ?_
        rw [if_pos ⟨c1, c2⟩]
        exact ⟨by rw [upd_ne dL]; exact h.dic, upd_same⟩
    · rw [decide_eq_false c2]
      exact iteF (stay fun z => c2 z.2)
  · rw [decide_eq_false c1]
    exact iteF ⟨_, rfl, iteF (stay fun z => c1 z.1)⟩
theorem lr_if2 (hr : Room 5 (XLR P w K mg base f cdv A outer s H0 E).A) : ∃ t, PS (XLR P w K mg base f cdv A outer s H0 E) (lrB 2) t ∧
    ∀ (sc pg d S L : Addr) (D : Ends) (H : Hp) (fm : Int → Bool) (rs : List Row) (acc : List Int) (k : Int) (kk j : Nat), LrH d L fm rs acc H → kk ∈ inn rs → acc.length ≤ 1901 →
      (∀ H', (∀ c u, c ≠ L → H c = some u → H' c = some u) → LrH d L fm rs (acc ++ (if (j : Int) < k ∧ k ≤ (kk : Int) then [way fm rs kk - (-256)] else [])) H' → D.nx (lrS sc k (.ref pg) (.ref d) (.ref S) (.ref L) kk j) H') →
      t D (lrS sc k (.ref pg) (.ref d) (.ref S) (.ref L) kk j) H := by
  have hu := hu_of hr
  refine ⟨_, (ps_if (pt_chain op_lt op_le (pv 7) (pv 1) (pv 6)) (pss_one (ps_expr (pe_bm PySem.F.plainAttrs_list PySem.F.slot_list_append PySem.F.type_list_append mt_append (pv 5) (pa_cons (pe_op op_add (pe_dget hu (pv 3) (pv 6) (fun _ _ => rfl)) pe_int) pa_nil)))) pss_nil), ?_⟩
  intro sc pg d S L D H fm rs acc k kk j h hmem ha q
  have dL : d ≠ L := ne_of h.dic h.lst (by intro z; cases z)
  have stay : ¬ ((j : Int) < k ∧ k ≤ (kk : Int)) → D.nx (lrS sc k (.ref pg) (.ref d) (.ref S) (.ref L) kk j) H := fun no => by
    refine q H (fun _ _ _ e => e) ?_
    rw [if_neg no, List.append_nil]
    exact h
  refine ⟨_, rfl, _, rfl, _, _, rfl, rfl, _, rfl, ?_⟩
  by_cases c1 : (j : Int) < k
  · rw [decide_eq_true c1]
    refine iteT ⟨_, rfl, _, _, rfl, rfl, _, rfl, ?_⟩
    by_cases c2 : k ≤ (kk : Int)
    · rw [decide_eq_true c2]
      refine iteT ⟨_, rfl, .inl ⟨rfl, _, SqL.of h.lst⟩, _, rfl, _, rfl, d, _, rfl, lr_get h hmem, _, _, rfl, rfl, L, _, _, rfl, rfl, h.lst, ?_, ?_⟩
      · rw [List.length_map]
        exact Nat.lt_of_le_of_lt ha (by decide)
      · have e0 : way fm rs kk + 256 = way fm rs kk - (-256) := by omega
        have e : (acc.map V.int ++ [V.int (way fm rs kk + 256)]) = (acc ++ [way fm rs kk - (-256)]).map V.int := by
          rw [List.map_append, e0]
          rfl
        rw [e]
        refine q _ (fun c u hc e => by rw [upd_ne hc]; exact e) ?_
        rw [if_pos ⟨c1, c2⟩]
        exact ⟨by rw [upd_ne dL]; exact h.dic, upd_same⟩
    · rw [decide_eq_false c2]
      exact iteF (stay fun z => c2 z.2)
  · rw [decide_eq_false c1]
    exact iteF ⟨_, rfl, iteF (stay fun z => c1 z.1)⟩
theorem ok_lrm {fd : FuncData} (F : Fun K "_law_room" "_law_room" sLRm f fd) (T : Bi mg) (G1 : Has P w K mg base CX0 5 "_law_grown" ["rows"] (spLGr K)) (G2 : Has P w K mg base CX0 5 "_law_ways" ["rows", "far"] (spLWa K)) (G3 : Has P w K mg base CX0 5 "_law_spots" ["rows"] (spLSp K)) : FnOk P w K mg base CX0 6 f fd ["rows", "at"] (spLRm K) := by
  refine F.ok scLRm (fun vs H Q E h => ?_) (fun cdv A outer s H vs Q E hr h => ?_)
  · obtain ⟨L, xs, rs, a, rfl, _⟩ := h
    rfl
  · obtain ⟨R, xs, rs, a, rfl, hR, h20, hok, q⟩ := h
    have hu := hu_of hr
    have hu64 := hr.units
    obtain ⟨tA, p1, r1⟩ := lr_if1 (w := w) (P := P) (K := K) (mg := mg) (base := base) (f := f) (cdv := cdv) (outer := outer) (s := s) (H0 := H) (E := E) hr
    obtain ⟨tB, p2, r2⟩ := lr_if2 (w := w) (P := P) (K := K) (mg := mg) (base := base) (f := f) (cdv := cdv) (outer := outer) (s := s) (H0 := H) (E := E) hr
    refine ⟨_, (pss_cons (ps_set (i := 2) scLRm.nd rfl (.inr rfl) (pe_callH G1 hr (by rfl) pass0 (pa_cons (pv 0) pa_nil)))
      (pss_cons (ps_par3 rfl scLRm.nd (i := 3) (j := 4) (l := 5) rfl rfl rfl (by decide) (by decide) (by decide) rfl rfl rfl (pa_cons (pe_callH G2 hr (by rfl) pass0 (pa_cons (pv 0) (pa_cons (pv 2) pa_nil))) (pa_cons (pe_callH G3 hr (by rfl) pass0 (pa_cons (pv 0) pa_nil)) (pa_cons (pe_lst pa_nil) pa_nil))) (by rfl))
      (pss_cons (ps_for PassesOwn.never rfl (pi_list (pe_lock (pe_lc (own := [("k", 6)]) (g := gName 6) (tt := tTest (tOp (rIn K true) (tVar 6) (tVar 2))) (te := tVar 6) rfl scLRm.nd (pi_keys (pv 3)) (blkOk_by (N := NLRm) (sc := defScope sLRm) (by decide +kernel)) (fun _ _ _ _ _ => pg_name (i := 6) scLRm.nd rfl (.inl rfl)) (fun _ _ _ _ _ => pts_one (pt_cmpR op_notIn_seq (pv 6) (pv 2) (by rfl))) (fun _ _ _ _ _ => (pv 6))))) (pg_name (i := 6) scLRm.nd rfl (.inl rfl)) (pss_cons (ps_set (i := 7) scLRm.nd rfl (.inl rfl) (pe_dget hu (pv 4) (pe_ix ix_tup (pe_ix ix_list (pv 0) (pv 6) (fun _ _ => rfl)) pe_int (fun _ _ => rfl)) (fun _ _ => rfl)))
        (pss_cons p1 (pss_one p2))))
      (pss_one (ps_ret (pe_ifExp (pt_cmpR (op_neD hu64) (pv 5) (pe_lst pa_nil) (nomark _)) (pe_callB (cr_min rfl) (by rfl) T.min (by decide +kernel) (pa_cons (pv 5) pa_nil)) pe_non)))))), ?_⟩
    refine ⟨_, rfl, R, xs, rs, rfl, hR, h20, hok, fun H1 pg g s1 hg gr => ?_⟩
    refine ⟨_, rfl, _, rfl, R, pg, xs, rs, g, rfl, hR.same s1, hok, .inr hg, fun H2 d s2 _ hd => ?_⟩
    have s12 := s1.trans s2
    refine ⟨_, rfl, R, xs, rs, rfl, hR.same s12, fun H3 S s3 _ hS => ⟨Nat.zero_le _, fun L hL => ⟨_, _, _, rfl, ?_⟩⟩⟩
    have s4 := s3.trans (same_new (o := .lst []) hL)
    have s04 := s12.trans s4
    have hd4 := s4 _ _ hd
    have hS4 := (same_new (o := .lst []) hL) _ _ hS
    have hg4 := sqT_same (s2.trans s4) hg
    have hR4 := hR.same s04
    have hL4 : (upd H3 L (.lst [])) L = some (.lst []) := upd_same
    generalize hH4 : upd H3 L (.lst []) = H4 at *
    refine ⟨d, _, hd4, trivial, fun od => ⟨_, rfl, d, od, rfl, .inl ⟨_, upd_same, fun D hD => ?_⟩⟩⟩
    have hDd : D ≠ d := by
      intro z
      rw [z, upd_same] at hD
      cases hD
    have hDn : H4 D = none := by
      rw [upd_ne hDd] at hD
      exact hD
    have dL : d ≠ L := ne_of hd4 hL4 (by intro z; cases z)
    have lenW : (wayD (mem g) rs).length = (inn rs).length := mapD_len _ _
    have il := inn_len rs
    refine lc_it walk_keys (fun i H5 => (∀ b o, b ≠ D → upd H4 d (.frz od (.dK (wayD (mem g) rs))) b = some o → H5 b = some o) ∧ H5 D = some (.lst (nats (((inn rs).take i).filter fun k => !mem g (k : Nat)))))
      ⟨fun b o hb e => by rw [upd_ne hb]; exact e, upd_same⟩ (fun i H5 _ ⟨kp, _⟩ => kp _ _ hDd.symm upd_same) ?_ ?_
    · rintro i x H5 H5' hi ⟨kp, hD5⟩ ⟨rfl, k, v, hk, rfl⟩
      obtain ⟨kk, hkk, hk2⟩ : ∃ kk, (inn rs)[i]? = some kk ∧ (k, v) = (Sum.inl (kk : Int), V.int (way (mem g) rs kk)) := by
        unfold wayD mapD at hk
        rw [List.getElem?_map] at hk
        cases e : (inn rs)[i]? with
        | none => rw [e] at hk; cases hk
        | some kk =>
          rw [e] at hk
          exact ⟨kk, rfl, (Option.some.inj hk).symm⟩
      cases hk2
      have hg5 : SqT K H5' pg (g.map V.int) := by
        have h1 : SqT K (upd H4 d (.frz od (.dK (wayD (mem g) rs)))) pg (g.map V.int) := sqT_put hg4 hd4 trivial
        rcases h1 with (h | ⟨u, h⟩) | h
        · exact .inl (.inl (kp _ _ (ne_of_none h hD) h))
        · exact .inl (.inr ⟨u, kp _ _ (ne_of_none h hD) h⟩)
        · exact .inr h
      refine ⟨rfl, _, rfl, _, rfl, pg, _, rfl, .inr hg5, rfl, flat_ints g, _, rfl, ?_⟩
      show if (!inV (.int (kk : Int)) (g.map V.int)) = true then _ else _
      rw [inV_ints]
      have em : decide ((kk : Int) ∈ g) = mem g (kk : Int) := rfl
      rw [em, take_snoc hkk, List.filter_append]
      cases c : mem g (kk : Int) with
      | true =>
        refine iteF ⟨kp, ?_⟩
        have e : ([kk].filter fun k => !mem g (k : Nat)) = [] := by simp [List.filter, c]
        rw [e, List.append_nil]
        exact hD5
      | false =>
        refine iteT ⟨_, rfl, _, hD5, ?_, fun b o hb e => by rw [upd_ne hb]; exact kp b o hb e, ?_⟩
        · rw [nats_len]
          have h1 : (((inn rs).take i).filter fun k => !mem g (k : Nat)).length ≤ ((inn rs).take i).length := List.length_filter_le _ _
          rw [List.length_take] at h1
          exact small1000 (by omega)
        · have e : ([kk].filter fun k => !mem g (k : Nat)) = [kk] := by simp [List.filter, c]
          rw [upd_same, e, nats_app]
          rfl
    · rintro H5 ⟨kp, hD5⟩
      have tl : (inn rs).take (wayD (mem g) rs).length = inn rs := by
        rw [lenW]
        exact List.take_length
      rw [tl] at hD5
      have hd5 : H5 d = some (.frz od (.dK (wayD (mem g) rs))) := kp _ _ hDd.symm upd_same
      refine ⟨hd5, D, rfl, ⟨_, SqL.of (by rw [upd_ne hDd]; exact hD5)⟩, ?_⟩
      have s5 : Same H4 (upd H5 d (.dK (wayD (mem g) rs))) := same_unlock hd4 hDn kp
      have hD6 : (upd H5 d (.dK (wayD (mem g) rs))) D = some (.lst (nats ((inn rs).filter fun k => !mem g (k : Nat)))) := by
        rw [upd_ne hDd]
        exact hD5
      generalize hH6 : upd H5 d (.dK (wayD (mem g) rs)) = H6 at s5 hD6
      have DL : D ≠ L := by
        intro z
        rw [z, hL4] at hDn
        cases hDn
      generalize hks : (inn rs).filter (fun k => !mem g (k : Nat)) = ks at hD6
      have ksi : ∀ k ∈ ks, k ∈ inn rs ∧ mem g (k : Nat) = false := fun k hk => by
        rw [← hks] at hk
        obtain ⟨h1, h2⟩ := List.mem_filter.mp hk
        exact ⟨h1, by simpa using h2⟩
      have ksl : ks.length ≤ 20 := by
        rw [← hks]
        refine Nat.le_trans (List.length_filter_le _ _) ?_
        omega
      refine for_it walk_list (fun i σ H7 => ∃ (a1 a2 : Option V), σ = [some (.ref R), some (.int a), some (.ref pg), some (.ref d), some (.ref S), some (.ref L), a1, a2] ∧ (∀ c u, c ≠ L → H6 c = some u → H7 c = some u) ∧ LrH d L (mem g) rs (leftL (mem g) rs a (ks.take i)) H7)
        ⟨none, none, rfl, fun c u _ e => e, ⟨s5 _ _ hd4, s5 _ _ hL4⟩⟩ (fun i σ H7 _ ⟨_, _, _, kp7, _⟩ => SqL.of (kp7 _ _ DL hD6)) ?_ ?_
      · rintro i z σ H7 H7' hi ⟨a1, a2, rfl, kp7, rm⟩ ⟨rfl, hz⟩
        obtain ⟨kk, hkk, rfl⟩ := nats_get hz
        obtain ⟨hmem, hnf⟩ := ksi kk (List.mem_of_getElem? hkk)
        have SL : S ≠ L := ne_of hS4 hL4 (by intro z; cases z)
        have s67 : Same H6 H7' ∨ True := .inr trivial
        have hR7 : LRows K H7' R xs rs := by
          have hR6 := hR4.same s5
          have hL6 := s5 _ _ hL4
          obtain ⟨hs1, hs2, hs3⟩ := hR
          have e7 : Same H H7' := fun c u e => by
            have cL : c ≠ L := ne_of_none ((s12.trans s3) _ _ e) hL
            exact kp7 c u cL (s5 _ _ (s04 _ _ e))
          exact ⟨sqL_same e7 hs1, rowsV_same e7 hs2, hs3⟩
        obtain ⟨ta, c, n, m, j, hxa, hta, hsp, hai, hjl, hkl⟩ := inn_at hR7.rows hmem
        have hS7 := kp7 _ _ SL (s5 _ _ hS4)
        have hg : DGet H7' S (.str n) (some (.int (j : Nat))) := by
          have := DGet.k (k := Sum.inr n) hS7
          rw [show valV (spD rs rs.length) (Sum.inr n) = some (.int (j : Nat)) from hsp] at this
          exact this
        refine ⟨_, rfl, _, rfl, _, rfl, R, _, _, _, rfl, rfl, hR7.lst, at_of hxa, ta, _, _, _, rfl, rfl, hta, at_of (i := 2) rfl, S, _, rfl, hg, ?_⟩
        have ll := left_len (mem g) rs a (ks.take i)
        have tl2 : (ks.take i).length ≤ ks.length := by
          rw [List.length_take]
          omega
        refine r1 R pg d S L _ H7' (mem g) rs _ a kk j rm hmem (by omega) fun H8 k8 rm8 => ?_
        refine r2 R pg d S L _ H8 (mem g) rs _ a kk j rm8 hmem ?_ fun H9 k9 rm9 => ?_
        · rw [List.length_append]
          split
          · simp only [List.length_singleton]; omega
          · simp only [List.length_nil]; omega
        · refine ⟨_, _, rfl, fun c u hc e => k9 c u hc (k8 c u hc (kp7 c u hc e)), ?_⟩
          rw [take_snoc hkk, left_snoc]
          unfold crossL
          rw [hai]
          have e1 : (if mem g (kk : Nat) = false ∧ (kk : Int) < a ∧ a ≤ (((some j).getD 0 : Nat) : Int) then [255 - way (mem g) rs kk] else []) = (if (kk : Int) < a ∧ a ≤ (j : Int) then [255 - way (mem g) rs kk] else []) := by
            by_cases c : (kk : Int) < a ∧ a ≤ (j : Int)
            · rw [if_pos c, if_pos ⟨hnf, c⟩]
            · rw [if_neg c, if_neg fun z => c z.2]
          have e2 : (if mem g (kk : Nat) = false ∧ (((some j).getD 0 : Nat) : Int) < a ∧ a ≤ (kk : Int) then [way (mem g) rs kk - (-256)] else []) = (if (j : Int) < a ∧ a ≤ (kk : Int) then [way (mem g) rs kk - (-256)] else []) := by
            by_cases c : (j : Int) < a ∧ a ≤ (kk : Int)
            · rw [if_pos c, if_pos ⟨hnf, c⟩]
            · rw [if_neg c, if_neg fun z => c z.2]
          rw [e1, e2, ← List.append_assoc]
          exact rm9
      · rintro σ H7 ⟨a1, a2, rfl, kp7, rm⟩
        rw [nats_len, List.take_length, ← hks, left_filter] at rm
        have s07 : Same H H7 := fun c u e => by
          have cL : c ≠ L := ne_of_none ((s12.trans s3) _ _ e) hL
          exact kp7 c u cL (s5 _ _ (s04 _ _ e))
        refine ⟨_, rfl, Nat.zero_le _, fun p3 hp3 => ?_⟩
        have s8 := same_new (o := .lst []) hp3
        have hL8 := s8 _ _ rm.lst
        refine ⟨.list ((leftL (mem g) rs a (inn rs)).map .int), .list (([] : List Int).map .int), dp_ints (SqL.of hL8), .lst (SqL.of upd_same) .nil, ints_shaped _, ints_shaped [], _, rfl, ?_⟩
        rw [eqv_ints]
        have fin := q _ g (s07.trans s8) gr
        by_cases c : leftL (mem g) rs a (inn rs) = []
        · rw [decide_eq_true c]
          rw [c] at fin
          exact iteF fin
        · rw [decide_eq_false c]
          refine iteT ⟨_, rfl, L, _, rfl, SqL.of hL8, List.length_pos_iff.mpr c, fun m h1 h2 => ?_⟩
          rw [min_is h1 h2] at fin
          exact fin
end

/-! ### one row more: the mathematics -/
def sh (a k : Nat) : Nat := if k < a then k else k + 1
def insR (rs : List Row) (a : Nat) (r : Row) : List Row := rs.take a ++ [r] ++ rs.drop a
theorem insR_len (rs : List Row) {a : Nat} (h : a ≤ rs.length) (r : Row) : (insR rs a r).length = rs.length + 1 := by
  unfold insR
  rw [List.length_append, List.length_append, List.length_take, List.length_drop, List.length_singleton]
  omega
theorem insR_lt {rs : List Row} {a : Nat} (h : a ≤ rs.length) {r : Row} {k : Nat} (hk : k < a) : (insR rs a r)[k]? = rs[k]? := by
  unfold insR
  rw [List.getElem?_append_left (by rw [List.length_append, List.length_take]; omega), List.getElem?_append_left (by rw [List.length_take]; omega), List.getElem?_take, if_pos hk]
theorem insR_at {rs : List Row} {a : Nat} (h : a ≤ rs.length) {r : Row} : (insR rs a r)[a]? = some r := by
  unfold insR
  have l : (rs.take a).length = a := by rw [List.length_take]; omega
  rw [List.getElem?_append_left (by rw [List.length_append, l, List.length_singleton]; omega), List.getElem?_append_right (by omega), l, Nat.sub_self]
  rfl
theorem insR_gt {rs : List Row} {a : Nat} (h : a ≤ rs.length) {r : Row} {k : Nat} (hk : a ≤ k) : (insR rs a r)[k + 1]? = rs[k]? := by
  unfold insR
  have l : (rs.take a ++ [r]).length = a + 1 := by rw [List.length_append, List.length_take, List.length_singleton]; omega
  rw [List.getElem?_append_right (by omega), l, List.getElem?_drop]
  congr 1
  omega
theorem insR_sh {rs : List Row} {a : Nat} (h : a ≤ rs.length) {r : Row} (k : Nat) : (insR rs a r)[sh a k]? = rs[k]? := by
  unfold sh
  by_cases c : k < a
  · rw [if_pos c]; exact insR_lt h c
  · rw [if_neg c]; exact insR_gt h (by omega)
theorem sh_ne (a k : Nat) : sh a k ≠ a := by
  unfold sh
  split <;> omega
theorem sh_inj {a j k : Nat} (h : sh a j = sh a k) : j = k := by
  unfold sh at h
  split at h <;> split at h <;> omega
theorem sh_cases (a k : Nat) : k = a ∨ ∃ j, k = sh a j := by
  by_cases c : k < a
  · exact .inr ⟨k, by unfold sh; rw [if_pos c]⟩
  · by_cases c2 : k = a
    · exact .inl c2
    · exact .inr ⟨k - 1, by unfold sh; rw [if_neg (by omega)]; omega⟩
theorem sh_lt {a n k : Nat} (h : a ≤ n) : sh a k < n + 1 ↔ k < n := by
  unfold sh
  split <;> omega
theorem toOf_eqi {rs : List Row} {i : Nat} {rs' : List Row} {j : Nat} (h : rs'[j]? = rs[i]?) : toOf rs' j = toOf rs i := by
  unfold toOf
  rw [h]
theorem labOf_eq {rs : List Row} {i : Nat} {rs' : List Row} {j : Nat} (h : rs'[j]? = rs[i]?) : labOf rs' j = labOf rs i := by
  unfold labOf
  rw [h]
theorem isBr_eq {rs : List Row} {i : Nat} {rs' : List Row} {j : Nat} (h : rs'[j]? = rs[i]?) : isBr rs' j = isBr rs i := by
  unfold isBr
  rw [h]
/-- where a label stands among the first i rows -/
def spotTo (rs : List Row) (n : Str) : Nat → Option Nat
  | 0 => none
  | i + 1 => if labOf rs i = some n then some i else spotTo rs n i
theorem spD_to (rs : List Row) (n : Str) : ∀ i, valV (spD rs i) (Sum.inr n) = (spotTo rs n i).map fun j => V.int (j : Nat)
  | 0 => rfl
  | i + 1 => by
    have ih := spD_to rs n i
    unfold spD spotTo
    cases e : labOf rs i with
    | none =>
      dsimp only
      rw [if_neg (by intro z; cases z)]
      exact ih
    | some s =>
      dsimp only
      rw [valV_put]
      by_cases c : s = n
      · subst c
        rw [if_pos rfl, if_pos rfl]
        rfl
      · rw [if_neg fun z => c (Sum.inr.inj z).symm, if_neg fun z => c (Option.some.inj z)]
        exact ih
theorem spot_to (rs : List Row) (n : Str) : spot rs n = spotTo rs n rs.length := by
  unfold spot spV
  rw [spD_to]
  cases spotTo rs n rs.length with
  | none => rfl
  | some j => simp
section
variable {rs : List Row} {a : Nat} {r : Row}
theorem spotTo_low (h : a ≤ rs.length) (n : Str) : ∀ i, i ≤ a → spotTo (insR rs a r) n i = (spotTo rs n i).map (sh a)
  | 0, _ => rfl
  | i + 1, hi => by
    have ih := spotTo_low h n i (by omega)
    unfold spotTo
    rw [labOf_eq (insR_lt h (by omega : i < a)), ih]
    split
    · show some i = some (sh a i)
      unfold sh
      rw [if_pos (by omega)]
    · rfl
theorem spotTo_high (h : a ≤ rs.length) (hl : labR r = none) (n : Str) : ∀ d, spotTo (insR rs a r) n (a + d + 1) = (spotTo rs n (a + d)).map (sh a)
  | 0 => by
    show (if labOf (insR rs a r) a = some n then some a else spotTo (insR rs a r) n a) = (spotTo rs n a).map (sh a)
    rw [labOf_at (insR_at h), hl, if_neg (by intro z; cases z)]
    exact spotTo_low h n a (Nat.le_refl _)
  | d + 1 => by
    have ih := spotTo_high h hl n d
    show (if labOf (insR rs a r) (a + d + 1) = some n then some (a + d + 1) else spotTo (insR rs a r) n (a + d + 1)) = (if labOf rs (a + d) = some n then some (a + d) else spotTo rs n (a + d)).map (sh a)
    rw [labOf_eq (insR_gt h (by omega : a ≤ a + d)), ih]
    split
    · show some (a + d + 1) = some (sh a (a + d))
      unfold sh
      rw [if_neg (by omega)]
    · rfl
theorem spot_ins (h : a ≤ rs.length) (hl : labR r = none) (n : Str) : spot (insR rs a r) n = (spot rs n).map (sh a) := by
  rw [spot_to, spot_to, insR_len rs h]
  have := spotTo_high h hl n (rs.length - a)
  rw [show a + (rs.length - a) = rs.length by omega] at this
  exact this
theorem aim_ins (h : a ≤ rs.length) (hl : labR r = none) (k : Nat) : aim (insR rs a r) (sh a k) = (aim rs k).map (sh a) := by
  unfold aim
  rw [toOf_eqi (insR_sh h k)]
  cases toOf rs k with
  | none => rfl
  | some n => exact spot_ins h hl n
theorem inn_iff {rs : List Row} {k : Nat} : k ∈ inn rs ↔ (aim rs k).isSome = true := by
  unfold inn innTo
  rw [List.mem_filter, List.mem_range]
  refine ⟨fun h => h.2, fun h => ⟨?_, h⟩⟩
  obtain ⟨j, hj⟩ := Option.isSome_iff_exists.mp h
  exact (aim_lt hj).2
theorem br_lt {rs : List Row} {k : Nat} (h : isBr rs k = true) : k < rs.length := by
  unfold isBr at h
  cases e : rs[k]? with
  | none => rw [e] at h; cases h
  | some r => exact (List.getElem?_eq_some_iff.mp e).1
theorem brs_iff {rs : List Row} {k : Nat} : k ∈ brs rs ↔ isBr rs k = true := by
  unfold brs brsTo
  rw [List.mem_filter, List.mem_range]
  exact ⟨fun h => h.2, fun h => ⟨br_lt h, h⟩⟩
theorem outs_iff {rs : List Row} {k : Nat} : k ∈ outs rs ↔ isBr rs k = true ∧ (aim rs k).isNone = true := by
  unfold outs
  rw [List.mem_filter, brs_iff]
theorem inn_ins (h : a ≤ rs.length) (hl : labR r = none) (k : Nat) : sh a k ∈ inn (insR rs a r) ↔ k ∈ inn rs := by
  rw [inn_iff, inn_iff, aim_ins h hl, Option.isSome_map]
theorem outs_ins (h : a ≤ rs.length) (hl : labR r = none) (k : Nat) : sh a k ∈ outs (insR rs a r) ↔ k ∈ outs rs := by
  rw [outs_iff, outs_iff, aim_ins h hl, Option.isNone_map, isBr_eq (insR_sh h k)]
theorem brs_ins (h : a ≤ rs.length) (k : Nat) : sh a k ∈ brs (insR rs a r) ↔ k ∈ brs rs := by
  rw [brs_iff, brs_iff, isBr_eq (insR_sh h k)]
end
/-! ### offsets -/
theorem off_sc (f : Int → Bool) {rs : List Row} {i : Nat} {r : Row} (h : rs[i]? = some r) : off f rs (i + 1) = off f rs i + rsize r (off f rs i) (f (i : Nat)) := by
  show off f rs i + (match rs[i]? with | some r => rsize r (off f rs i) (f (i : Nat)) | none => 0) = _
  rw [h]
theorem off_nn (f : Int → Bool) {rs : List Row} {i : Nat} (h : rs[i]? = none) : off f rs (i + 1) = off f rs i := by
  show off f rs i + (match rs[i]? with | some r => rsize r (off f rs i) (f (i : Nat)) | none => 0) = _
  rw [h]
  exact Int.add_zero _
theorem rsize_ev {r : Row} {b : Bool} {c c' : Int} (h : ∀ n, r ≠ .even n) : rsize r c b = rsize r c' b := by
  cases r with
  | even n => exact absurd rfl (h n)
  | words n => rfl
  | label s => rfl
  | branch c n m => rfl
theorem noEven_at {rs : List Row} (h : noEven rs) {i : Nat} {r : Row} (e : rs[i]? = some r) : ∀ n, r ≠ .even n := by
  rintro n rfl
  have := h i
  rw [isEv_at e] at this
  cases this
section
variable {rs : List Row} {a N : Nat} {f f' : Int → Bool}
theorem off_low (h : a ≤ rs.length) {r : Row} (hf : ∀ k : Nat, f' (sh a k : Nat) = f (k : Nat)) : ∀ i, i ≤ a → off f' (insR rs a r) i = off f rs i
  | 0, _ => rfl
  | i + 1, hi => by
    have ih := off_low h (r := r) hf i (by omega)
    have e := insR_lt h (r := r) (by omega : i < a)
    have ef : f' (i : Nat) = f (i : Nat) := by
      have := hf i
      unfold sh at this
      rw [if_pos (by omega)] at this
      exact this
    cases e2 : rs[i]? with
    | none => rw [off_nn f e2, off_nn f' (e.trans e2), ih]
    | some r => rw [off_sc f e2, off_sc f' (e.trans e2), ih, ef]
theorem off_high (h : a ≤ rs.length) (ne : noEven rs) (hf : ∀ k : Nat, f' (sh a k : Nat) = f (k : Nat)) : ∀ d, off f' (insR rs a (.words N)) (a + d + 1) = off f rs (a + d) + N
  | 0 => by
    show off f' (insR rs a (.words N)) (a + 1) = off f rs a + N
    rw [off_sc f' (insR_at h), off_low h hf a (Nat.le_refl _)]
    rfl
  | d + 1 => by
    have ih := off_high h ne hf d
    have e := insR_gt h (r := .words N) (by omega : a ≤ a + d)
    have ef : f' ((a + d + 1 : Nat) : Int) = f ((a + d : Nat) : Int) := by
      have := hf (a + d)
      unfold sh at this
      rw [if_neg (by omega)] at this
      exact this
    show off f' (insR rs a (.words N)) (a + d + 1 + 1) = off f rs (a + d + 1) + N
    cases e2 : rs[a + d]? with
    | none => rw [off_nn f e2, off_nn f' (e.trans e2), ih]
    | some r =>
      rw [off_sc f e2, off_sc f' (e.trans e2), ih, ef, rsize_ev (noEven_at ne e2) (c' := off f rs (a + d))]
      omega
/-- what stands at the place of a row: the first behind the words that are put in -/
theorem off_sh (h : a ≤ rs.length) (ne : noEven rs) (hf : ∀ k : Nat, f' (sh a k : Nat) = f (k : Nat)) (k : Nat) : off f' (insR rs a (.words N)) (sh a k) = off f rs k + (if k < a then (0 : Int) else N) := by
  unfold sh
  by_cases c : k < a
  · rw [if_pos c, if_pos c, off_low h hf k (by omega)]
    omega
  · rw [if_neg c, if_neg c]
    obtain ⟨d, rfl⟩ := Nat.exists_eq_add_of_le (by omega : a ≤ k)
    exact off_high h ne hf d
theorem way_sh (h : a ≤ rs.length) (ne : noEven rs) (hf : ∀ k : Nat, f' (sh a k : Nat) = f (k : Nat)) {k j : Nat} (hj : aim rs k = some j) : way f' (insR rs a (.words N)) (sh a k) = way f rs k + ((if j < a then (0 : Int) else N) - (if k < a then (0 : Int) else N)) := by
  unfold way
  rw [aim_ins h rfl, hj]
  show off f' (insR rs a (.words N)) (sh a j) - off f' (insR rs a (.words N)) (sh a k) = off f rs j - off f rs k + _
  rw [off_sh h ne hf, off_sh h ne hf]
  omega
end
/-! ### more that is far leads no branch nearer -/
theorem off_step {f F : Int → Bool} {rs : List Row} (ne : noEven rs) (hF : ∀ k, f k = true → F k = true) (i : Nat) : 0 ≤ off f rs (i + 1) - off f rs i ∧ off f rs (i + 1) - off f rs i ≤ off F rs (i + 1) - off F rs i := by
  cases e : rs[i]? with
  | none => rw [off_nn f e, off_nn F e]; omega
  | some r =>
    rw [off_sc f e, off_sc F e]
    have hne := noEven_at ne e
    cases r with
    | even n => exact absurd rfl (hne n)
    | words n => simp only [rsize]; omega
    | label s => simp only [rsize]; omega
    | branch c n m =>
      simp only [rsize]
      cases e1 : f (i : Nat) with
      | true => rw [hF _ e1]; simp only [if_true]; omega
      | false =>
        have l : (if false = true then (2 : Int) else 1) = 1 := rfl
        rw [l]
        split <;> omega
theorem off_le {f F : Int → Bool} {rs : List Row} (ne : noEven rs) (hF : ∀ k, f k = true → F k = true) (i : Nat) : ∀ d, 0 ≤ off f rs (i + d) - off f rs i ∧ off f rs (i + d) - off f rs i ≤ off F rs (i + d) - off F rs i
  | 0 => by rw [Nat.add_zero]; omega
  | d + 1 => by
    have h1 := off_le ne hF i d
    have h2 := off_step ne hF (i + d)
    rw [show i + (d + 1) = i + d + 1 by omega]
    omega
theorem way_mono {f F : Int → Bool} {rs : List Row} (ne : noEven rs) (hF : ∀ k, f k = true → F k = true) {k j : Nat} (hj : aim rs k = some j) : (k ≤ j → 0 ≤ way f rs k ∧ way f rs k ≤ way F rs k) ∧ (j ≤ k → way f rs k ≤ 0 ∧ way F rs k ≤ way f rs k) := by
  unfold way
  rw [hj]
  show (k ≤ j → 0 ≤ off f rs j - off f rs k ∧ off f rs j - off f rs k ≤ off F rs j - off F rs k) ∧ (j ≤ k → off f rs j - off f rs k ≤ 0 ∧ off F rs j - off F rs k ≤ off f rs j - off f rs k)
  refine ⟨fun h => ?_, fun h => ?_⟩
  · obtain ⟨d, rfl⟩ := Nat.exists_eq_add_of_le h
    exact off_le ne hF k d
  · obtain ⟨d, rfl⟩ := Nat.exists_eq_add_of_le h
    have := off_le ne hF j d
    omega
theorem tooL_iff {w : Int} : tooL w = true ↔ w < -256 ∨ 255 < w := by
  unfold tooL
  rw [Bool.or_eq_true, decide_eq_true_iff, decide_eq_true_iff]
/-! ### what is grown is the least that is closed -/
def closed (f : Int → Bool) (rs : List Row) : Prop := ∀ k ∈ inn rs, f (k : Nat) = false → tooL (way f rs k) = false
theorem closed_long {f : Int → Bool} {rs : List Row} : closed f rs ↔ long f rs = [] := by
  unfold closed long
  rw [List.filter_eq_nil_iff]
  refine forall_congr' fun k => forall_congr' fun _ => ?_
  unfold isLong
  cases f (k : Nat) <;> cases tooL (way f rs k) <;> simp
structure GrownM (rs : List Row) (g : List Int) : Prop where
  outs : ∀ k ∈ outs rs, (k : Int) ∈ g
  closed : closed (mem g) rs
  sub : ∀ y ∈ g, ∃ k : Nat, y = (k : Int) ∧ k ∈ brs rs
  sorted : g.Pairwise (· < ·)
theorem inn_br {rs : List Row} {k : Nat} (h : k ∈ inn rs) : k ∈ brs rs := by
  rw [← brs_inn] at h
  exact (List.mem_filter.mp h).1
theorem grown_nodup {rs : List Row} (n : Nat) : (zs (outs rs ++ fars rs n)).Nodup := by
  unfold zs
  unfold List.Nodup
  rw [List.pairwise_map]
  refine List.Pairwise.imp (R := (· ≠ ·)) (fun h z => h (Int.ofNat.inj z)) ?_
  refine List.nodup_append.mpr ⟨?_, fars_nodup rs n, fun x hx y hy e => inn_not_outs (fars_inn rs n y hy) (e ▸ hx)⟩
  unfold outs
  exact List.Nodup.sublist (List.filter_sublist ..) (brs_nodup rs)
theorem grown_m {rs : List Row} {g : List Int} (h : Grown rs g) : GrownM rs g := by
  obtain ⟨n, pm, srt, lg⟩ := h
  have em : mem g = fN (outs rs ++ fars rs n) := mem_perm pm
  refine ⟨fun k hk => ?_, ?_, fun y hy => ?_, ?_⟩
  · exact pm.mem_iff.mpr (mem_zs.mpr ⟨k, List.mem_append_left _ hk, rfl⟩)
  · rw [em]
    exact closed_long.mpr lg
  · obtain ⟨k, hk, e⟩ := mem_zs.mp (pm.mem_iff.mp hy)
    refine ⟨k, e.symm, ?_⟩
    rcases List.mem_append.mp hk with z | z
    · exact (List.mem_filter.mp z).1
    · exact inn_br (fars_inn rs n k z)
  · have nd : g.Nodup := pm.nodup_iff.mpr (grown_nodup n)
    exact (List.Pairwise.and srt nd).imp fun ⟨h1, h2⟩ => by omega
theorem grown_least {rs : List Row} (ne : noEven rs) {g : List Int} (h : Grown rs g) {F : Int → Bool} (hO : ∀ k ∈ outs rs, F (k : Nat) = true) (hC : closed F rs) : ∀ k : Nat, (k : Int) ∈ g → F (k : Nat) = true := by
  obtain ⟨n, pm, _, _⟩ := h
  have key : ∀ n, ∀ k ∈ fars rs n, F (k : Nat) = true := by
    intro n
    induction n with
    | zero => intro k hk; cases hk
    | succ n ih =>
      intro k hk
      rcases List.mem_append.mp hk with z | z
      · exact ih k z
      · obtain ⟨h1, h2, h3⟩ := long_sub z
        cases e : F (k : Nat) with
        | true => rfl
        | false =>
          have hc := hC k h1 e
          obtain ⟨j, hj⟩ := Option.isSome_iff_exists.mp (inn_iff.mp h1)
          have hF : ∀ y, fN (outs rs ++ fars rs n) y = true → F y = true := by
            intro y hy
            have hy2 : y ∈ zs (outs rs ++ fars rs n) := of_decide_eq_true hy
            obtain ⟨i, hi, rfl⟩ := mem_zs.mp hy2
            rcases List.mem_append.mp hi with z | z
            · exact hO i z
            · exact ih i z
          have wm := way_mono ne hF hj
          rw [tooL_iff] at h3
          have hc2 : ¬ (way F rs k < -256 ∨ 255 < way F rs k) := fun z => by
            rw [tooL_iff.mpr z] at hc
            cases hc
          rcases Nat.le_total k j with c | c
          · have := wm.1 c; omega
          · have := wm.2 c; omega
  intro k hk
  obtain ⟨i, hi, e⟩ := mem_zs.mp (pm.mem_iff.mp hk)
  obtain rfl : i = k := by omega
  rcases List.mem_append.mp hi with z | z
  · exact hO i z
  · exact key n i z
/-! ### words put in -/
theorem mv_sh (a k : Nat) : (if (k : Int) < (a : Nat) then (k : Int) else (k : Int) + 1) = ((sh a k : Nat) : Int) := by
  unfold sh
  by_cases c : k < a
  · rw [if_pos c, if_pos (by omega)]
  · rw [if_neg c, if_neg (by omega)]
    omega
theorem mv_mem {a : Nat} {g : List Int} (hg : ∀ y ∈ g, ∃ k : Nat, y = (k : Int)) {y : Int} : y ∈ mvI (a : Nat) g ↔ ∃ k : Nat, (k : Int) ∈ g ∧ y = ((sh a k : Nat) : Int) := by
  unfold mvI
  rw [List.mem_map]
  constructor
  · rintro ⟨z, hz, rfl⟩
    obtain ⟨k, rfl⟩ := hg z hz
    exact ⟨k, hz, mv_sh a k⟩
  · rintro ⟨k, hk, rfl⟩
    exact ⟨k, hk, mv_sh a k⟩
theorem mv_sorted {a : Int} {g : List Int} (h : g.Pairwise (· < ·)) : (mvI a g).Pairwise (· < ·) := by
  unfold mvI
  rw [List.pairwise_map]
  refine h.imp fun {x y} hxy => ?_
  split <;> split <;> omega
theorem lt_ext {a b : List Int} (ha : a.Pairwise (· < ·)) (hb : b.Pairwise (· < ·)) (h : ∀ y, y ∈ a ↔ y ∈ b) : a = b := by
  have na : a.Nodup := ha.imp fun h => by omega
  have nb : b.Nodup := hb.imp fun h => by omega
  exact sorted_perm ((List.perm_ext_iff_of_nodup na nb).mpr h) (ha.imp fun h => by omega) (hb.imp fun h => by omega)
section
variable {rs : List Row} {a N : Nat} {g g' : List Int}
theorem noEven_ins (h : a ≤ rs.length) (ne : noEven rs) {r : Row} (hr : ∀ n, r ≠ .even n) : noEven (insR rs a r) := by
  intro i
  rcases sh_cases a i with rfl | ⟨j, rfl⟩
  · rw [isEv_at (insR_at h)]
    cases r with
    | even n => exact absurd rfl (hr n)
    | _ => rfl
  · have := ne j
    unfold isEv at this ⊢
    rw [insR_sh h]
    exact this
/-- what was far stays so when words are put in -/
theorem early_late (h : a ≤ rs.length) (ne : noEven rs) (hg : Grown rs g) (hg' : Grown (insR rs a (.words N)) g') : ∀ y ∈ mvI (a : Nat) g, y ∈ g' := by
  have m := grown_m hg
  have m' := grown_m hg'
  intro y hy
  obtain ⟨k, hk, rfl⟩ := (mv_mem fun y hy => by obtain ⟨k, e, _⟩ := m.sub y hy; exact ⟨k, e⟩).mp hy
  refine of_decide_eq_true (grown_least ne hg (F := fun y => decide (((sh a y.toNat : Nat) : Int) ∈ g')) (fun i hi => ?_) (fun i hi hf => ?_) k hk)
  · exact decide_eq_true (m'.outs _ ((outs_ins h rfl i).mpr hi))
  · have hni : ((sh a i : Nat) : Int) ∉ g' := of_decide_eq_false hf
    have hc := m'.closed (sh a i) ((inn_ins h rfl i).mpr hi) (decide_eq_false hni)
    obtain ⟨j, hj⟩ := Option.isSome_iff_exists.mp (inn_iff.mp hi)
    have wm := (way_mono ne (fun _ h => h) hj : (i ≤ j → 0 ≤ way (fun y : Int => decide (((sh a y.toNat : Nat) : Int) ∈ g')) rs i ∧ _) ∧ _)
    rw [way_sh h ne (f := fun y => decide (((sh a y.toNat : Nat) : Int) ∈ g')) (fun k => rfl) hj] at hc
    have hc2 : ¬ _ := fun z => (Bool.eq_false_iff.mp hc) (tooL_iff.mpr z)
    cases e : tooL (way (fun y : Int => decide (((sh a y.toNat : Nat) : Int) ∈ g')) rs i) with
    | false => rfl
    | true =>
      rw [tooL_iff] at e
      exfalso
      rcases Nat.le_total i j with c | c
      · have w1 := wm.1 c
        split at hc2 <;> split at hc2 <;> omega
      · have w1 := wm.2 c
        split at hc2 <;> split at hc2 <;> omega
/-- what becomes far when words are put in: nothing just where what was far is closed -/
theorem closed_iff (h : a ≤ rs.length) (ne : noEven rs) (hg : Grown rs g) : closed (mem (mvI (a : Nat) g)) (insR rs a (.words N)) ↔ ∀ y ∈ leftL (mem g) rs (a : Nat) (inn rs), (N : Int) ≤ y := by
  have m := grown_m hg
  have gn : ∀ y ∈ g, ∃ k : Nat, y = (k : Int) := fun y hy => by obtain ⟨k, e, _⟩ := m.sub y hy; exact ⟨k, e⟩
  have hf : ∀ k : Nat, mem (mvI (a : Nat) g) (sh a k : Nat) = mem g (k : Nat) := by
    intro k
    unfold mem
    by_cases c : (k : Int) ∈ g
    · rw [decide_eq_true c, decide_eq_true ((mv_mem gn).mpr ⟨k, c, rfl⟩)]
    · rw [decide_eq_false c, decide_eq_false fun z => ?_]
      obtain ⟨i, hi, e⟩ := (mv_mem gn).mp z
      obtain rfl : k = i := sh_inj (a := a) (by omega)
      exact c hi
  have one : ∀ k ∈ inn rs, ((mem (mvI (a : Nat) g) (sh a k : Nat) = false → tooL (way (mem (mvI (a : Nat) g)) (insR rs a (.words N)) (sh a k)) = false) ↔ ∀ y ∈ crossL (mem g) rs (a : Nat) k, (N : Int) ≤ y) := by
    intro k hk
    obtain ⟨j, hj⟩ := Option.isSome_iff_exists.mp (inn_iff.mp hk)
    rw [way_sh h ne hf hj, hf k]
    unfold crossL
    rw [hj]
    cases e : mem g (k : Nat) with
    | true =>
      have no : ∀ p : Prop, ¬ (true = false ∧ p) := fun p z => by cases z.1
      rw [if_neg (no _), if_neg (no _)]
      exact ⟨fun _ y hy => (by cases hy), fun _ z => (by cases z)⟩
    | false =>
      have cl := m.closed k hk e
      have cl2 : ¬ (way (mem g) rs k < -256 ∨ 255 < way (mem g) rs k) := fun z => by
        rw [tooL_iff.mpr z] at cl
        cases cl
      have wm := (way_mono ne (fun _ h => h) hj : (k ≤ j → 0 ≤ way (mem g) rs k ∧ way (mem g) rs k ≤ way (mem g) rs k) ∧ _)
      show (false = false → _) ↔ ∀ y ∈ (if false = false ∧ (k : Int) < (a : Nat) ∧ ((a : Nat) : Int) ≤ ((j : Nat) : Int) then [255 - way (mem g) rs k] else []) ++ (if false = false ∧ ((j : Nat) : Int) < (a : Nat) ∧ ((a : Nat) : Int) ≤ (k : Int) then [way (mem g) rs k - (-256)] else []), (N : Int) ≤ y
      generalize way (mem g) rs k = W at *
      have tl : ∀ z : Int, (false = false → tooL z = false) ↔ ¬ (z < -256 ∨ 255 < z) := fun z => by
        rw [← tooL_iff]
        cases tooL z <;> simp
      rw [tl]
      by_cases c1 : k < a
      · rw [if_pos c1]
        by_cases c2 : j < a
        · have q1 : ¬ (false = false ∧ (k : Int) < (a : Nat) ∧ ((a : Nat) : Int) ≤ ((j : Nat) : Int)) := fun z => by have := z.2.2; omega
          have q2 : ¬ (false = false ∧ ((j : Nat) : Int) < (a : Nat) ∧ ((a : Nat) : Int) ≤ (k : Int)) := fun z => by have := z.2.2; omega
          rw [if_pos c2, if_neg q1, if_neg q2]
          refine ⟨fun _ y hy => (by cases hy), fun _ z => ?_⟩
          omega
        · have q1 : (false = false ∧ (k : Int) < (a : Nat) ∧ ((a : Nat) : Int) ≤ ((j : Nat) : Int)) := ⟨rfl, by omega, by omega⟩
          have q2 : ¬ (false = false ∧ ((j : Nat) : Int) < (a : Nat) ∧ ((a : Nat) : Int) ≤ (k : Int)) := fun z => by have := z.2.2; omega
          rw [if_neg c2, if_pos q1, if_neg q2, List.append_nil]
          have w1 := wm.1 (by omega)
          refine ⟨fun z y hy => ?_, fun z => ?_⟩
          · rw [List.mem_singleton.mp hy]
            omega
          · have := z _ (List.mem_singleton.mpr rfl)
            omega
      · rw [if_neg c1]
        by_cases c2 : j < a
        · have q1 : ¬ (false = false ∧ (k : Int) < (a : Nat) ∧ ((a : Nat) : Int) ≤ ((j : Nat) : Int)) := fun z => by have := z.2.1; omega
          have q2 : (false = false ∧ ((j : Nat) : Int) < (a : Nat) ∧ ((a : Nat) : Int) ≤ (k : Int)) := ⟨rfl, by omega, by omega⟩
          rw [if_pos c2, if_neg q1, if_pos q2, List.nil_append]
          have w1 := wm.2 (by omega)
          refine ⟨fun z y hy => ?_, fun z => ?_⟩
          · rw [List.mem_singleton.mp hy]
            omega
          · have := z _ (List.mem_singleton.mpr rfl)
            omega
        · have q1 : ¬ (false = false ∧ (k : Int) < (a : Nat) ∧ ((a : Nat) : Int) ≤ ((j : Nat) : Int)) := fun z => by have := z.2.1; omega
          have q2 : ¬ (false = false ∧ ((j : Nat) : Int) < (a : Nat) ∧ ((a : Nat) : Int) ≤ (k : Int)) := fun z => by have := z.2.1; omega
          rw [if_neg c2, if_neg q1, if_neg q2]
          refine ⟨fun _ y hy => (by cases hy), fun _ z => ?_⟩
          omega
  unfold closed leftL
  constructor
  · intro z y hy
    obtain ⟨k, hk, hy⟩ := List.mem_flatMap.mp hy
    exact (one k hk).mp (z (sh a k) ((inn_ins h rfl k).mpr hk)) y hy
  · intro z k hk
    rcases sh_cases a k with rfl | ⟨i, rfl⟩
    · exfalso
      have := inn_br hk
      rw [brs_iff] at this
      unfold isBr at this
      rw [insR_at h] at this
      cases this
    · have hi := (inn_ins h rfl i).mp hk
      exact (one i hi).mpr fun y hy => z y (List.mem_flatMap.mpr ⟨i, hi, hy⟩)
theorem room_iff (h : a ≤ rs.length) (ne : noEven rs) (hg : Grown rs g) (hg' : Grown (insR rs a (.words N)) g') : g' = mvI (a : Nat) g ↔ ∀ y ∈ leftL (mem g) rs (a : Nat) (inn rs), (N : Int) ≤ y := by
  have m := grown_m hg
  have m' := grown_m hg'
  have gn : ∀ y ∈ g, ∃ k : Nat, y = (k : Int) := fun y hy => by obtain ⟨k, e, _⟩ := m.sub y hy; exact ⟨k, e⟩
  rw [← closed_iff h ne hg]
  constructor
  · intro e
    rw [← e]
    exact m'.closed
  · intro cl
    refine lt_ext m'.sorted (mv_sorted m.sorted) fun y => ⟨fun hy => ?_, early_late h ne hg hg' y⟩
    obtain ⟨k, rfl, hk⟩ := m'.sub y hy
    refine of_decide_eq_true (grown_least (noEven_ins h ne (by intro n z; cases z)) hg' (F := mem (mvI (a : Nat) g)) (fun i hi => ?_) cl k hy)
    rcases sh_cases a i with rfl | ⟨j, rfl⟩
    · exfalso
      have := (outs_iff.mp hi).1
      unfold isBr at this
      rw [insR_at h] at this
      cases this
    · exact decide_eq_true ((mv_mem gn).mpr ⟨j, m.outs j ((outs_ins h rfl j).mp hi), rfl⟩)
end
/-! ### one row put in: what becomes far, and near -/
theorem own_iff {rs : List Row} {a : Nat} {r : Row} (h : a ≤ rs.length) {k : Nat} (hk : k ∈ brs (insR rs a r)) : (k : Int) ∈ mvI (a : Nat) (zs (brs rs)) ↔ (k : Int) ≠ (a : Nat) := by
  have gn : ∀ y ∈ zs (brs rs), ∃ k : Nat, y = (k : Int) := fun y hy => by obtain ⟨k, _, e⟩ := mem_zs.mp hy; exact ⟨k, e.symm⟩
  rw [mv_mem gn]
  constructor
  · rintro ⟨i, _, e⟩ z
    exact sh_ne a i (by omega)
  · intro z
    rcases sh_cases a k with rfl | ⟨j, rfl⟩
    · exact absurd rfl z
    · exact ⟨j, mem_zs.mpr ⟨j, (brs_ins h j).mp hk, rfl⟩, rfl⟩
theorem regF_own {rs : List Row} {a : Nat} {r : Row} (h : a ≤ rs.length) {gO g' : List Int} (hg' : Grown (insR rs a r) g') : regF (a : Nat) gO g' = g'.filter fun i => decide (i ∈ mvI (a : Nat) (zs (brs rs))) && !decide (i ∈ mvI (a : Nat) gO) := by
  unfold regF
  refine List.filter_congr fun y hy => ?_
  obtain ⟨k, rfl, hk⟩ := (grown_m hg').sub y hy
  have o := own_iff h hk
  by_cases c : (k : Int) = (a : Nat)
  · rw [decide_eq_true c, decide_eq_false fun z => o.mp z c, Bool.not_true, Bool.and_false, Bool.false_and]
  · rw [decide_eq_false c, decide_eq_true (o.mpr c), Bool.not_false, Bool.and_true, Bool.true_and]

/-! ### a row put into a list of rows -/
def insV (xs : List V) (a : Nat) (v : V) : List V := xs.take a ++ [v] ++ xs.drop a
theorem insV_len {xs : List V} {a : Nat} (h : a ≤ xs.length) (v : V) : (insV xs a v).length = xs.length + 1 := by
  unfold insV
  rw [List.length_append, List.length_append, List.length_take, List.length_drop, List.length_singleton]
  omega
theorem rowsV_app {K : PySem.W.Frag} {H : Hp} : ∀ {xs ys : List V} {rs ss : List Row}, RowsV K H xs rs → RowsV K H ys ss → RowsV K H (xs ++ ys) (rs ++ ss)
  | _, _, _, _, .nil, h => h
  | _, _, _, _, .cons x t, h => .cons x (rowsV_app t h)
theorem rowsV_take {K : PySem.W.Frag} {H : Hp} : ∀ {xs : List V} {rs : List Row} (n : Nat), RowsV K H xs rs → RowsV K H (xs.take n) (rs.take n)
  | _, _, 0, _ => .nil
  | _, _, _ + 1, .nil => .nil
  | _, _, n + 1, .cons h t => .cons h (rowsV_take n t)
theorem rowsV_drop {K : PySem.W.Frag} {H : Hp} : ∀ {xs : List V} {rs : List Row} (n : Nat), RowsV K H xs rs → RowsV K H (xs.drop n) (rs.drop n)
  | _, _, 0, h => h
  | _, _, _ + 1, .nil => .nil
  | _, _, n + 1, .cons h t => rowsV_drop n t
theorem rowsV_ins {K : PySem.W.Frag} {H : Hp} {xs : List V} {rs : List Row} {v : V} {r : Row} (a : Nat) (h : RowsV K H xs rs) (hv : RowV K H v r) : RowsV K H (insV xs a v) (insR rs a r) :=
  rowsV_app (rowsV_app (rowsV_take a h) (.cons hv .nil)) (rowsV_drop a h)
abbrev tIns (K : PySem.W.Frag) (i j : Nat) (te : TE) : TE := tOp rCat (tOp rCat (tSl (rSlL K) (tVar i) tNoPart (tPart (tVar j))) (tLst (tCons te tNil))) (tSl (rSlL K) (tVar i) (tPart (tVar j)) tNoPart)
theorem cat_ins {K : PySem.W.Frag} {i j : Nat} {te : TE} {σ : L2.St} {H : Hp} {Q : VK} {l : Addr} {xs : List V} {a : Nat} (hi : σ[i]? = some (some (.ref l))) (hj : σ[j]? = some (some (.int (a : Int)))) (ha : a ≤ xs.length) (hl : SqL K H l xs) (h9 : xs.length ≤ 900)
    (k : ∀ H1 (Qc : VK), Same H H1 → (∀ v H2, Same H1 H2 → (∀ H3 p, Same H2 H3 → H3 p = some (.lst (insV xs a v)) → Q (.ref p) H3) → Qc v H2) → te σ H1 Qc) : tIns K i j te σ H Q := by
  have eT : cutV xs none (some (a : Int)) = xs.take a := cut_to ha
  have eD : cutV xs (some (a : Int)) none = xs.drop a := cut_from ha
  refine ⟨_, hi, _, hj, _, rfl, l, xs, rfl, hl, fun p1 h1 => ?_⟩
  rw [eT]
  have s1 := same_new (o := .lst (xs.take a)) h1
  refine k _ _ s1 fun v H2 s2 fin => ⟨(by show 1 ≤ sizeLine; decide), fun p2 h2 => ?_⟩
  have s3 := same_new (o := .lst [v]) h2
  have e1 := s3 _ _ (s2 _ _ (upd_same (H := H) (a := p1) (o := .lst (xs.take a))))
  refine ⟨p1, p2, _, _, rfl, rfl, e1, upd_same, ?_, fun p3 h3 => ?_⟩
  · rw [List.length_take, List.length_singleton]
    have : min a xs.length + 1 ≤ 1000 := by omega
    exact Nat.le_trans this (by decide)
  have s4 := same_new (o := .lst (xs.take a ++ [v])) h3
  have s04 := ((s1.trans s2).trans s3).trans s4
  delta tNoPart
  refine ⟨_, hi, _, hj, _, rfl, l, xs, rfl, sqL_same s04 hl, fun p4 h4 => ?_⟩
  rw [eD]
  have s5 := same_new (o := .lst (xs.drop a)) h4
  refine ⟨p3, p4, _, _, rfl, rfl, s5 _ _ upd_same, upd_same, ?_, fun p5 h5 => fin _ p5 (((s3.trans s4).trans s5).trans (same_new h5)) upd_same⟩
  rw [List.length_append, List.length_take, List.length_drop, List.length_singleton]
  have : min a xs.length + 1 + (xs.length - a) ≤ 1000 := by omega
  exact Nat.le_trans this (by decide)
/-! ### the room -/
theorem left_bounds {rs : List Row} {g : List Int} (hg : Grown rs g) (a : Int) : ∀ y ∈ leftL (mem g) rs a (inn rs), 0 ≤ y ∧ y ≤ 511 := by
  intro y hy
  have m := grown_m hg
  obtain ⟨k, hk, hy⟩ := List.mem_flatMap.mp hy
  unfold crossL at hy
  have near : mem g (k : Nat) = false → -256 ≤ way (mem g) rs k ∧ way (mem g) rs k ≤ 255 := fun e => by
    have := m.closed k hk e
    unfold tooL at this
    rw [Bool.or_eq_false_iff] at this
    have h1 := of_decide_eq_false this.1
    have h2 := of_decide_eq_false this.2
    omega
  rcases List.mem_append.mp hy with z | z
  · split at z
    · rename_i c
      have := near c.1
      rw [List.mem_singleton.mp z]
      omega
    · cases z
  · split at z
    · rename_i c
      have := near c.1
      rw [List.mem_singleton.mp z]
      omega
    · cases z
theorem minO_cases {ns : List Int} (hb : ∀ y ∈ ns, 0 ≤ y ∧ y ≤ 511) : (ns = [] ∧ minO ns = .non) ∨ ∃ m : Nat, minO ns = .int (m : Int) ∧ m ≤ 511 ∧ ∀ N : Nat, (∀ y ∈ ns, (N : Int) ≤ y) ↔ N ≤ m := by
  cases ns with
  | nil => exact .inl ⟨rfl, rfl⟩
  | cons n ns =>
    obtain ⟨a1, a2, a3⟩ := foldl_min_spec ns n
    have hm : ns.foldl min n ∈ n :: ns := by
      rcases a1 with e | e
      · rw [e]; exact List.mem_cons_self ..
      · exact List.mem_cons_of_mem _ e
    have b := hb _ hm
    refine .inr ⟨(ns.foldl min n).toNat, ?_, by omega, fun N => ⟨fun z => by have := z _ hm; omega, fun z y hy => ?_⟩⟩
    · show V.int _ = V.int _
      rw [Int.toNat_of_nonneg b.1]
    · have l : ns.foldl min n ≤ y := by
        rcases List.mem_cons.mp hy with e | e
        · rw [e]; exact a2
        · exact a3 y e
      omega
theorem passC {X : Cx} : Passes (L2.CX X.prog X.w) X (fun _ _ _ => False) := fun pins σ H s e s' I c => by
  obtain ⟨a, B, H', cls, d, e1, fl, hok, ub, na, os, ag, hE⟩ := c
  exact hE.elim
abbrev sLRr : Stmt := topS 53
abbrev NLRr : List Str := ["made", "rows", "at", "room", "early", "many", "late", "k"]
theorem scLRr : FnScope NLRr ["made", "rows", "at"] (defScope sLRr) := ⟨rfl, rfl, rfl, by decide +kernel, rfl, by decide +kernel, by decide +kernel⟩
abbrev rrB (j : Nat) : Stmt := (forB ((defBody sLRr).getD 2 (.Pass ⟨0, 0, 0, 0⟩))).getD j (.Pass ⟨0, 0, 0, 0⟩)
abbrev XRR (P : Program) (w : World) (K : PySem.W.Frag) (mg : Str → Option Value) (base : Heap) (f : Addr) (cdv : Value) (A : Around) (outer : List Env) (s : Shared) (H : Hp) (E : XK) : Cx := (cxOf CX0 P w K mg base NLRr "_law_room_right" (defScope sLRr) f cdv A outer s H E).nox
def spLRr (K : PySem.W.Frag) (C : Addr) : Sp := fun vs H Q _ => ∃ (x L : Addr) (rcs : List RowC) (xs : List V) (a : Nat), vs = [.ref x, .ref L, .int (a : Int)] ∧ DraftV K H C x rcs ∧ LRows K H L xs (rsC rcs) ∧ rcs.length ≤ 19 ∧ (∀ r ∈ rsC rcs, RowOk r) ∧ noEven (rsC rcs) ∧ a ≤ rcs.length ∧ ∀ H', Same H H' → Q (.bl true) H'
theorem ok_insR {rs : List Row} {a : Nat} {r : Row} (h : ∀ r ∈ rs, RowOk r) (hr : RowOk r) : ∀ x ∈ insR rs a r, RowOk x := fun x hx => by
  unfold insR at hx
  rcases List.mem_append.mp hx with z | z
  · rcases List.mem_append.mp z with z | z
    · exact h x (List.mem_of_mem_take z)
    · rw [List.mem_singleton.mp z]; exact hr
  · exact h x (List.mem_of_mem_drop z)
theorem rr_pick {σ : L2.St} {H : Hp} {Q : VK} {v3 : V} (h3 : σ[3]? = some (some v3)) (cs : v3 = .non ∨ ∃ m : Nat, v3 = .int (m : Int) ∧ m ≤ 511) (k : ∀ p (ks : List Nat) H', Same H H' → H' p = some (.lst (nats ks)) → (∀ N ∈ ks, N ≤ 900) → Q (.ref p) H') :
    tIf (tTest (tOp rIsN (tVar 3) (tC .non))) (tLst (tCons (tC (.int 0)) (tCons (tC (.int 1)) (tCons (tC (.int 255)) tNil)))) (tLst (tCons (tC (.int 0)) (tCons (tVar 3) (tCons (tOp (rI0 fun i j => .int (i + j)) (tVar 3) (tC (.int 1))) tNil)))) σ H Q := by
  refine ⟨_, h3, rfl, _, rfl, ?_⟩
  rcases cs with rfl | ⟨m, rfl, hm⟩
  · refine iteT ⟨(by show 3 ≤ sizeLine; decide), fun p hp => k p [0, 1, 255] _ (same_new hp) upd_same ?_⟩
    intro N hN
    simp at hN
    omega
  · refine iteF ⟨_, h3, _, h3, _, _, rfl, rfl, (by show 3 ≤ sizeLine; decide), fun p hp => k p [0, m, m + 1] _ (same_new hp) upd_same ?_⟩
    intro N hN
    simp at hN
    omega
theorem rr_or {σ : L2.St} {H : Hp} {Q : VK} {v3 : V} {g g' : List Int} {N : Nat} (h3 : σ[3]? = some (some v3)) (h5 : σ[5]? = some (some (.int (N : Int)))) (cs : (v3 = .non ∧ g' = g) ∨ ∃ m : Nat, v3 = .int (m : Int) ∧ (g' = g ↔ N ≤ m)) (q : Q (.bl (decide (g' = g))) H) :
    tOrV (tOp rIsN (tVar 3) (tC .non)) (tOp (rI0 fun i j => .bl (decide (i ≤ j))) (tVar 5) (tVar 3)) σ H Q := by
  refine ⟨_, h3, rfl, _, rfl, ?_⟩
  rcases cs with ⟨rfl, e⟩ | ⟨m, rfl, e⟩
  · rw [decide_eq_true e] at q
    exact iteT q
  · refine iteF ⟨_, h5, _, h3, _, _, rfl, rfl, ?_⟩
    have : decide ((N : Int) ≤ (m : Int)) = decide (g' = g) := decide_eq_decide.mpr ⟨fun z => e.mpr (by omega), fun z => by have := e.mp z; omega⟩
    show Q (.bl (decide ((N : Int) ≤ (m : Int)))) H
    rw [this]
    exact q
section
variable {P : Program} {w : World} {K : PySem.W.Frag} {mg : Str → Option Value} {base : Heap} {f : Addr} {cdv : Value} {A : Around} {outer : List Env} {s : Shared} {H0 : Hp} {E : XK}
theorem rr_late (T : Bi mg) (G : Has P w K mg base CX0 7 "_law_grown" ["rows"] (spLGr K)) (hr : Room 7 (XRR P w K mg base f cdv A outer s H0 E).A) : ∃ t, PS (XRR P w K mg base f cdv A outer s H0 E) (rrB 0) t ∧
    ∀ (v0 v3 v4 : V) (v6 v7 : Option V) (L : Addr) (xs : List V) (rs : List Row) (a N : Nat) (D : Ends) (H : Hp), LRows K H L xs rs → rs.length ≤ 19 → (∀ r ∈ rs, RowOk r) → a ≤ rs.length → N ≤ 900 →
      (∀ H' q g', Same H H' → H' q = some (.lst (g'.map V.int)) → Grown (insR rs a (.words N)) g' → D.nx [some v0, some (.ref L), some (.int (a : Int)), some v3, some v4, some (.int (N : Int)), some (.ref q), v7] H') →
      t D [some v0, some (.ref L), some (.int (a : Int)), some v3, some v4, some (.int (N : Int)), v6, v7] H := by
  refine ⟨_, ps_set (i := 6) scLRr.nd rfl (.inr rfl) (pe_callTy call_list_of (by rfl) T.list (by decide +kernel) (pa_cons (pe_callH G hr (by rfl) pass0 (pa_cons (pe_op op_cat (pe_op op_cat (pe_slice sl_list (pv 1) po_none (po_some (pv 2))) (pe_lst (pa_cons (pe_tup (pa_cons pe_str (pa_cons (pe_op op_rep (pe_lst (pa_cons pe_int pa_nil)) (pv 5)) pa_nil))) pa_nil))) (pe_slice sl_list (pv 1) (po_some (pv 2)) po_none)) pa_nil)) pa_nil)), ?_⟩
  intro v0 v3 v4 v6 v7 L xs rs a N D H hR h19 hok ha hN q
  have xl := rowsV_len hR.rows
  refine cat_ins (i := 1) (j := 2) rfl rfl (by omega) hR.lst (by omega) fun H1 Qc s1 fin => ?_
  refine ⟨(by show 1 ≤ sizeLine; decide), fun p hp => ⟨_, rfl, p, (N : Int), [.int 0], rfl, rfl, upd_same, by omega, by omega, ?_, fun p2 hp2 => ⟨(by show 2 ≤ sizeLine; decide), fun p3 hp3 => ?_⟩⟩⟩
  · have : 1 * N ≤ 1000 := by omega
    refine Nat.le_trans ?_ (Nat.le_trans this (by decide))
    simp
  have s2 := same_new (o := .lst [V.int 0]) hp
  have s3 := same_new (o := .lst (List.replicate (N : Int).toNat [V.int 0]).flatten) hp2
  have s4 := same_new (o := .tup [V.str "words", V.ref p2]) hp3
  have e2 := s4 _ _ (upd_same (H := upd H1 p (.lst [V.int 0])) (a := p2) (o := .lst (List.replicate (N : Int).toNat [V.int 0]).flatten))
  have s24 := (s2.trans s3).trans s4
  have eT : (upd (upd (upd H1 p (.lst [V.int 0])) p2 (.lst (List.replicate (N : Int).toNat [V.int 0]).flatten)) p3 (.tup [V.str "words", V.ref p2])) p3 = some (.tup [V.str "words", V.ref p2]) := upd_same
  generalize hH4 : upd (upd (upd H1 p (.lst [V.int 0])) p2 (.lst (List.replicate (N : Int).toNat [V.int 0]).flatten)) p3 (.tup [V.str "words", V.ref p2]) = H4 at *
  refine fin _ _ s24 fun H5 p5 s5 h5 => ?_
  have s05 := (s1.trans s24).trans s5
  have hv : RowV K H5 (.ref p3) (.words N) := ⟨p3, p2, rfl, SqT.of (s5 _ _ eT), _, .inl (SqL.of (s5 _ _ e2)), by simp⟩
  have hR5 : LRows K H5 p5 (insV xs a (.ref p3)) (insR rs a (.words N)) := ⟨SqL.of h5, rowsV_ins a (hR.same s05).rows hv, by rw [insR_len rs ha]; omega⟩
  refine ⟨p5, _, _, rfl, hR5, by rw [insR_len rs ha]; omega, ok_insR hok trivial, fun H6 p6 g s6 h6 gr => ?_⟩
  exact ⟨p6, _, rfl, .inr h6, fun l hl => q _ l g ((s05.trans s6).trans (same_new hl)) upd_same gr⟩
theorem rr_if (T : Bi mg) (hr : Room 7 (XRR P w K mg base f cdv A outer s H0 E).A) : ∃ t, PS (XRR P w K mg base f cdv A outer s H0 E) (rrB 1) t ∧
    ∀ (v0 v1 v2 v3 : V) (v7 : Option V) (e q : Addr) (g g' : List Int) (N : Nat) (D : Ends) (H : Hp), SqL K H e (g.map V.int) → SqL K H q (g'.map V.int) → g.length ≤ 900 → (∀ y ∈ g, y ∈ g') → ((v3 = .non ∧ g' = g) ∨ ∃ m : Nat, v3 = .int (m : Int) ∧ (g' = g ↔ N ≤ m)) →
      (∀ H' v7', Same H H' → D.nx [some v0, some v1, some v2, some v3, some (.ref e), some (.int (N : Int)), some (.ref q), v7'] H') →
      t D [some v0, some v1, some v2, some v3, some (.ref e), some (.int (N : Int)), some (.ref q), v7] H := by
  have hu64 := hr.units
  refine ⟨_, ps_if (PW.pt (pw_or (pt_cmpR op_ne (pe_cmpR (op_eqD hu64) (pv 6) (pv 4) (nomark _)) (pe_or (pe_cmpR op_isN1 (pv 3) pe_non (nomark _)) (pe_one (pe_cmpR op_le (pv 5) (pv 3) (nomark _)))) (nomark _)) (pw_or1 (pt_not (pt_val (pe_callB (cr_all rfl) (by rfl) T.all (by decide +kernel) (pa_cons (pe_lc (own := [("k", 7)]) (g := gName 7) (tt := tYes) (te := tOp (rIn K false) (tVar 7) (tVar 6)) rfl scLRr.nd (pi_list (pv 4)) (blkOk_by (N := NLRr) (sc := defScope sLRr) (by decide +kernel)) (fun _ _ _ _ _ => pg_name (i := 7) scLRr.nd rfl (.inl rfl)) (fun _ _ _ _ _ => pts_nil) (fun _ _ _ _ _ => (pe_cmpR op_in_seq (pv 7) (pv 6) (by rfl)))) pa_nil))))))) (pss_one (ps_ret pe_bl)) pss_nil, ?_⟩
  intro v0 v1 v2 v3 v7 e q g g' N D H he hq hl sub cs nx
  refine ⟨_, rfl, _, rfl, .list (g'.map .int), .list (g.map .int), dp_ints hq, dp_ints he, ints_shaped _, ints_shaped _, ?_⟩
  refine rr_or (v3 := v3) (N := N) rfl rfl cs ⟨rfl, _, rfl, ?_⟩
  have ne1 : ∀ b : Bool, (!decide (V.bl b = V.bl b)) = false := fun b => by rw [decide_eq_true rfl]; rfl
  rw [eqv_ints, ne1]
  refine iteF ⟨_, rfl, e, rfl, ⟨_, he⟩, fun D1 hD => ?_⟩
  have sk : ∀ {H4 : Hp}, (∀ b u, b ≠ D1 → H b = some u → H4 b = some u) → Same H H4 := fun kp b u z => kp b u (ne_of_none z hD) z
  refine lc_it walk_list (fun i H4 => (∀ b u, b ≠ D1 → H b = some u → H4 b = some u) ∧ H4 D1 = some (.lst ((List.replicate i true).map V.bl))) ⟨fun b u hb z => by rw [upd_ne hb]; exact z, upd_same⟩ (fun i H4 _ ⟨kp, _⟩ => sqL_same (sk kp) he) ?_ ?_
  · rintro i z H4 H4' hi ⟨kp, hD4⟩ ⟨rfl, hz⟩
    obtain ⟨n, hn, rfl⟩ := int_get hz
    have hi2 : i < g.length := (List.getElem?_eq_some_iff.mp hn).1
    have ev : inV (.int n) (g'.map V.int) = true := by
      rw [inV_ints]
      exact decide_eq_true (sub n (List.mem_of_getElem? hn))
    refine ⟨rfl, yes_go (iteT ⟨_, rfl, _, rfl, q, _, rfl, .inl (sqL_same (sk kp) hq), rfl, flat_ints _, _, hD4, ?_, fun b u hb z => by rw [upd_ne hb]; exact kp b u hb z, ?_⟩)⟩
    · rw [List.length_map, List.length_replicate]
      exact small1000 (by omega)
    · rw [upd_same]
      show some (HO.lst ((List.replicate i true).map V.bl ++ [V.bl (inV (.int n) (g'.map V.int))])) = _
      rw [ev, List.replicate_succ', List.map_append]
      rfl
  · rintro H4 ⟨kp, hD4⟩
    refine ⟨D1, _, rfl, SqL.of hD4, ?_⟩
    rw [rep_all]
    exact ⟨_, rfl, iteF (nx H4 _ (sk kp))⟩
theorem ok_lrr {C CA : Addr} {fd : FuncData} (F : Fun K "_law_room_right" "_law_room_right" sLRr f fd) (T : Bi mg) (M : HasM P w K mg base (L2.CX P w) 7 C "room" ["self", "at"] (spRoom K C CA)) (G1 : Has P w K mg base CX0 7 "_law_grown" ["rows"] (spLGr K)) (G2 : Has P w K mg base CX0 7 "_law_moved" ["ks", "at"] (spLMv K)) (G3 : Has P w K mg base CX0 7 "_law_same" ["found", "due"] (spSame K 1)) (G4 : Has P w K mg base CX0 7 "_law_room" ["rows", "at"] (spLRm K)) : FnOk P w K mg base CX0 8 f fd ["made", "rows", "at"] (spLRr K C) := by
  refine F.ok scLRr (fun vs H Q E h => ?_) (fun cdv A outer s H vs Q E hr h => ?_)
  · obtain ⟨x, L, rcs, xs, a, rfl, _⟩ := h
    rfl
  · obtain ⟨x, L, rcs, xs, a, rfl, hdr, hL, h19, hok, nE, ha, q⟩ := h
    obtain ⟨tA, p1, r1⟩ := rr_late (w := w) (P := P) (K := K) (mg := mg) (base := base) (f := f) (cdv := cdv) (outer := outer) (s := s) (H0 := H) (E := E) T G1 hr
    obtain ⟨tB, p2, r2⟩ := rr_if (w := w) (P := P) (K := K) (mg := mg) (base := base) (f := f) (cdv := cdv) (outer := outer) (s := s) (H0 := H) (E := E) T hr
    obtain ⟨ok, dx, p, fq, d, o, ys, hx⟩ := id hdr
    have lr : (rsC rcs).length = rcs.length := List.length_map ..
    refine ⟨_, (pss_cons (ps_par rfl scLRr.nd (i := 3) (j := 4) rfl rfl (by decide) rfl rfl (pa_cons (pe_methH M (pv 0) hr passC (pa_cons (pv 2) pa_nil)) (pa_cons (pe_callH G2 hr (by rfl) pass0 (pa_cons (pe_callH G1 hr (by rfl) pass0 (pa_cons (pv 1) pa_nil)) (pa_cons (pv 2) pa_nil))) pa_nil)) (by rfl))
      (pss_cons (ps_if (pt_not (pt_val (pe_callH G3 hr (by rfl) pass0 (pa_cons (pv 3) (pa_cons (pe_callH G4 hr (by rfl) pass0 (pa_cons (pv 1) (pa_cons (pv 2) pa_nil))) pa_nil))))) (pss_one (ps_ret pe_bl)) pss_nil)
      (pss_cons (ps_for PassesOwn.never rfl (pi_list (pe_ifExp (pt_cmpR op_isN1 (pv 3) pe_non (nomark _)) (pe_lst (pa_cons pe_int (pa_cons pe_int (pa_cons pe_int pa_nil)))) (pe_lst (pa_cons pe_int (pa_cons (pv 3) (pa_cons (pe_op op_add (pv 3) pe_int) pa_nil)))))) (pg_name (i := 5) scLRr.nd rfl (.inl rfl)) (pss_cons p1 (pss_one p2)))
      (pss_one (ps_ret pe_bl))))), ?_⟩
    refine ⟨_, rfl, x, dx, _, rfl, hx.ins, rfl, _, rfl, x, .int (a : Int), .int (a : Int), rcs, rfl, hdr, nE, .dat (.int _), fun k e okk H1 g s1 gr => ?_, fun no => ?_⟩
    rotate_left
    · exfalso
      have : okAt (.int (a : Int)) (rcs.length : Nat) = true := by
        unfold okAt
        rw [Bool.and_eq_true]
        exact ⟨decide_eq_true (by omega), decide_eq_true (by omega)⟩
      rw [this] at no
      cases no
    obtain rfl : (a : Int) = k := by cases e; rfl
    have gl := grown_len gr
    refine ⟨_, rfl, L, xs, rsC rcs, rfl, hL.same s1, by omega, hok, fun H2 p2 g2 s2 hp2 gr2 => ?_⟩
    obtain rfl := grown_one gr gr2
    refine ⟨_, rfl, p2, g, (a : Int), rfl, .inr hp2, by omega, fun H3 q3 s3 _ hq3 => ⟨_, _, rfl, ?_⟩⟩
    have s03 := (s1.trans s2).trans s3
    refine ⟨_, rfl, _, rfl, _, rfl, L, xs, rsC rcs, (a : Int), rfl, hL.same s03, by omega, hok, fun H4 g4 s4 gr4 => ?_⟩
    obtain rfl := grown_one gr gr4
    have s04 := s03.trans s4
    generalize hns : leftL (mem g) (rsC rcs) (a : Int) (inn (rsC rcs)) = ns
    have cases := minO_cases (ns := ns) (by rw [← hns]; exact left_bounds gr _)
    generalize hv3 : minO ns = v3 at *
    have sm : SmRel K 1 H4 v3 v3 := by
      rcases cases with ⟨_, rfl⟩ | ⟨m, rfl, _⟩
      · exact ⟨_, .non⟩
      · exact ⟨_, .int _⟩
    refine ⟨_, _, rfl, sm, fun H5 s5 => ⟨_, rfl, iteF ?_⟩⟩
    have s05 := s04.trans s5
    refine rr_pick (v3 := v3) rfl (cases.imp (fun z => z.2) fun ⟨m, z1, z2, _⟩ => ⟨m, z1, z2⟩) fun p6 ks H6 s6 h6 hk => ⟨p6, rfl, ⟨_, SqL.of h6⟩, ?_⟩
    have s06 := s05.trans s6
    have hq6 := s6 _ _ (s5 _ _ (s4 _ _ hq3))
    refine for_it walk_list (fun i σ H7 => ∃ (a5 a6 a7 : Option V), σ = [some (.ref x), some (.ref L), some (.int (a : Int)), some v3, some (.ref q3), a5, a6, a7] ∧ Same H6 H7) ⟨_, _, _, rfl, Same.refl H6⟩ (fun i σ H7 _ ⟨_, _, _, _, s7⟩ => SqL.of (s7 _ _ h6)) ?_ ?_
    · rintro i z σ H7 H7' hi ⟨a5, a6, a7, rfl, s7⟩ ⟨rfl, hz⟩
      obtain ⟨N, hN, rfl⟩ := nats_get hz
      have s07 := s06.trans s7
      refine r1 _ _ _ _ _ L xs (rsC rcs) a N _ H7' (hL.same s07) (by omega) hok (by omega) (hk N (List.mem_of_getElem? hN)) fun H8 q8 g8 s8 h8 gr8 => ?_
      have hq8 := s8 _ _ (s7 _ _ hq6)
      refine r2 _ _ _ v3 _ q3 q8 (mvI (a : Int) g) g8 N _ H8 (SqL.of hq8) (SqL.of h8) ?_ (early_late (by omega) nE gr gr8) ?_ fun H9 v7 s9 => ⟨_, _, _, rfl, (s7.trans s8).trans s9⟩
      · unfold mvI
        rw [List.length_map]
        omega
      · have ri := room_iff (by omega) nE gr gr8
        rcases cases with ⟨e1, e2⟩ | ⟨m, e1, e2, e3⟩
        · refine .inl ⟨e2, ri.mpr fun y hy => ?_⟩
          rw [hns, e1] at hy
          cases hy
        · refine .inr ⟨m, e1, ?_⟩
          rw [ri, hns]
          exact e3 N
    · rintro σ H7 ⟨a5, a6, a7, rfl, s7⟩
      exact q H7 (s06.trans s7)
end

/-! ### _law_regrown -/
abbrev sLRe : Stmt := topS 54
abbrev NLRe : List Str := ["rows", "at", "row", "early", "late", "own", "k"]
theorem scLRe : FnScope NLRe ["rows", "at", "row"] (defScope sLRe) := ⟨rfl, rfl, rfl, by decide +kernel, rfl, by decide +kernel, by decide +kernel⟩
def spLRe (K : PySem.W.Frag) : Sp := fun vs H Q _ => ∃ (L : Addr) (xs : List V) (rs : List Row) (a : Nat) (v : V) (r : Row), vs = [.ref L, .int (a : Int), v] ∧ LRows K H L xs rs ∧ rs.length ≤ 19 ∧ (∀ r ∈ rs, RowOk r) ∧ RowV K H v r ∧ RowOk r ∧ a ≤ rs.length ∧
  ∀ H' p b c gO gN, Same H H' → Grown rs gO → Grown (insR rs a r) gN → SqT K H' p [.ref b, .ref c] → SqT K H' b ((regF (a : Int) gO gN).map V.int) → SqT K H' c ((regB (a : Int) gO gN).map V.int) → Q (.ref p) H'
section
variable {P : Program} {w : World} {K : PySem.W.Frag} {mg : Str → Option Value} {base : Heap}
theorem ok_lre {f : Addr} {fd : FuncData} (F : Fun K "_law_regrown" "_law_regrown" sLRe f fd) (T : Bi mg) (G1 : Has P w K mg base CX0 7 "_law_grown" ["rows"] (spLGr K)) (G2 : Has P w K mg base CX0 7 "_law_moved" ["ks", "at"] (spLMv K)) (G3 : Has P w K mg base CX0 7 "_law_branches" ["rows"] (spLBr K)) : FnOk P w K mg base CX0 8 f fd ["rows", "at", "row"] (spLRe K) := by
  refine F.ok scLRe (fun vs H Q E h => ?_) (fun cdv A outer s H vs Q E hr h => ?_)
  · obtain ⟨L, xs, rs, a, v, r, rfl, _⟩ := h
    rfl
  · obtain ⟨L, xs, rs, a, v, r, rfl, hR, h19, hok, hv, hro, ha, q⟩ := h
    refine ⟨_, (pss_cons (ps_asg (pe_tup (pa_cons (pe_callH G2 hr (by rfl) pass0 (pa_cons (pe_callH G1 hr (by rfl) pass0 (pa_cons (pv 0) pa_nil)) (pa_cons (pv 1) pa_nil))) (pa_cons (pe_callH G1 hr (by rfl) pass0 (pa_cons (pe_op op_cat (pe_op op_cat (pe_slice sl_list (pv 0) po_none (po_some (pv 1))) (pe_lst (pa_cons (pv 2) pa_nil))) (pe_slice sl_list (pv 0) (po_some (pv 1)) po_none)) pa_nil)) pa_nil))) (pg_tup rfl (pgs_cons (pg_name (i := 3) scLRe.nd rfl (.inr rfl)) (pgs_cons (pg_name (i := 4) scLRe.nd rfl (.inr rfl)) pgs_nil))))
      (pss_cons (ps_set (i := 5) scLRe.nd rfl (.inr rfl) (pe_callH G2 hr (by rfl) pass0 (pa_cons (pe_callH G3 hr (by rfl) pass0 (pa_cons (pv 0) pa_nil)) (pa_cons (pv 1) pa_nil))))
      (pss_one (ps_ret (pe_tup (pa_cons (pe_callTy call_tuple_of (by rfl) T.tuple (by decide +kernel) (pa_cons (pe_lc (own := [("k", 6)]) (g := gName 6) (tt := tAnd (tTest (tOp (rIn K false) (tVar 6) (tVar 5))) (tTest (tOp (rIn K true) (tVar 6) (tVar 3)))) (te := tVar 6) rfl scLRe.nd (pi_tup (pv 4)) (blkOk_by (N := NLRe) (sc := defScope sLRe) (by decide +kernel)) (fun _ _ _ _ _ => pg_name (i := 6) scLRe.nd rfl (.inl rfl)) (fun _ _ _ _ _ => pts_one (PW.pt (pw_and (pt_cmpR op_in_seq (pv 6) (pv 5) (by rfl)) (pw_and1 (pt_cmpR op_notIn_seq (pv 6) (pv 3) (by rfl)))))) (fun _ _ _ _ _ => (pv 6))) pa_nil)) (pa_cons (pe_callTy call_tuple_of (by rfl) T.tuple (by decide +kernel) (pa_cons (pe_lc (own := [("k", 6)]) (g := gName 6) (tt := tTest (tOp (rIn K true) (tVar 6) (tVar 4))) (te := tVar 6) rfl scLRe.nd (pi_list (pv 3)) (blkOk_by (N := NLRe) (sc := defScope sLRe) (by decide +kernel)) (fun _ _ _ _ _ => pg_name (i := 6) scLRe.nd rfl (.inl rfl)) (fun _ _ _ _ _ => pts_one (pt_cmpR op_notIn_seq (pv 6) (pv 4) (by rfl))) (fun _ _ _ _ _ => (pv 6))) pa_nil)) pa_nil))))))), ?_⟩
    have xl := rowsV_len hR.rows
    refine ⟨_, rfl, L, xs, rs, rfl, hR, by omega, hok, fun H1 p1 gO s1 h1 grO => ?_⟩
    have lenO : gO.length ≤ 38 := by
      have := grown_len grO
      omega
    refine ⟨_, rfl, p1, gO, (a : Int), rfl, .inr h1, by omega, fun H2 q2 s2 _ hq2 => ?_⟩
    have s02 := s1.trans s2
    refine cat_ins (i := 0) (j := 1) rfl rfl (by omega) (hR.same s02).lst (by omega) fun H3 Qc s3 fin => ?_
    refine ⟨_, rfl, fin v H3 (Same.refl H3) fun H4 p4 s4 h4 => ?_⟩
    have s04 := (s02.trans s3).trans s4
    have hR4 : LRows K H4 p4 (insV xs a v) (insR rs a r) := ⟨SqL.of h4, rowsV_ins a (hR.same s04).rows (rowV_same s04 hv), by rw [insR_len rs ha]; omega⟩
    refine ⟨p4, _, _, rfl, hR4, by rw [insR_len rs ha]; omega, ok_insR hok hro, fun H5 p5 gN s5 h5 grN => ⟨(by show 2 ≤ sizeLine; decide), fun pt hpt => ?_⟩⟩
    have lenN : gN.length ≤ 40 := by
      have := grown_len grN
      rw [insR_len rs ha] at this
      omega
    refine ⟨pt, _, rfl, SqT.of upd_same, rfl, _, _, rfl, _, _, rfl, rfl, ?_⟩
    have s6 := same_new (o := .tup [V.ref q2, V.ref p5]) hpt
    have s06 := (s04.trans s5).trans s6
    have hq6 := s6 _ _ (s5 _ _ (s4 _ _ (s3 _ _ hq2)))
    have h56 := sqT_same s6 h5
    generalize hH6 : upd H5 pt (.tup [V.ref q2, V.ref p5]) = H6 at s6 s06 hq6 h56
    refine ⟨_, rfl, L, xs, rs, rfl, hR.same s06, fun H7 p7 s7 _ h7 => ?_⟩
    have bl := brs_len rs
    refine ⟨_, rfl, p7, zs (brs rs), (a : Int), rfl, .inl (SqL.of (by rw [h7, nats_zs])), by rw [zs_len]; omega, fun H8 q8 s8 _ hq8 => ?_⟩
    have s78 := s7.trans s8
    have s08 := s06.trans s78
    have hq2' := s78 _ _ hq6
    have h58 := sqT_same s78 h56
    refine ⟨_, rfl, p5, rfl, ⟨_, h58⟩, fun D2 hD2 => ?_⟩
    have sk2 : ∀ {H5 : Hp}, (∀ b u, b ≠ D2 → H8 b = some u → H5 b = some u) → Same H8 H5 := fun kp b u e => kp b u (ne_of_none e hD2) e
    refine lc_it walk_tup (fun i H5 => (∀ b u, b ≠ D2 → H8 b = some u → H5 b = some u) ∧ H5 D2 = some (.lst (((gN.take i).filter fun i => decide (i ∈ mvI (a : Int) (zs (brs rs))) && !decide (i ∈ mvI (a : Int) gO)).map V.int))) ⟨fun b u hb e => by rw [upd_ne hb]; exact e, upd_same⟩ (fun i H5 _ ⟨kp, _⟩ => sqT_same (sk2 kp) h58) ?_ ?_
    · rintro i z H9 H9' hi ⟨kp9, hD9⟩ ⟨rfl, hz⟩
      obtain ⟨n, hn, rfl⟩ := int_get hz
      have s9 := sk2 kp9
      have hi2 : i < gN.length := (List.getElem?_eq_some_iff.mp hn).1
      have fl : ((gN.take i).filter fun i => decide (i ∈ mvI (a : Int) (zs (brs rs))) && !decide (i ∈ mvI (a : Int) gO)).length ≤ i := by
        refine Nat.le_trans (List.length_filter_le _ _) ?_
        rw [List.length_take]
        omega
      refine ⟨rfl, _, rfl, _, rfl, q8, _, rfl, .inl (SqL.of (s9 _ _ hq8)), rfl, flat_ints _, _, rfl, ?_⟩
      show if inV (.int n) ((mvI (a : Int) (zs (brs rs))).map V.int) = true then _ else _
      rw [inV_ints, take_snoc hn, List.filter_append]
      cases c1 : decide (n ∈ mvI (a : Int) (zs (brs rs))) with
      | false =>
        refine iteF (iteF ⟨kp9, ?_⟩)
        have e : ([n].filter fun i => decide (i ∈ mvI (a : Int) (zs (brs rs))) && !decide (i ∈ mvI (a : Int) gO)) = [] := by simp [List.filter, c1]
        rw [e, List.append_nil]
        exact hD9
      | true =>
        refine iteT ⟨_, rfl, _, rfl, q2, _, rfl, .inl (SqL.of (s9 _ _ hq2')), rfl, flat_ints _, _, rfl, ?_⟩
        show if (!inV (.int n) ((mvI (a : Int) gO).map V.int)) = true then _ else _
        rw [inV_ints]
        cases c2 : decide (n ∈ mvI (a : Int) gO) with
        | true =>
          refine iteF ⟨kp9, ?_⟩
          have e : ([n].filter fun i => decide (i ∈ mvI (a : Int) (zs (brs rs))) && !decide (i ∈ mvI (a : Int) gO)) = [] := by simp [List.filter, c1, c2]
          rw [e, List.append_nil]
          exact hD9
        | false =>
          refine iteT ⟨_, rfl, _, hD9, ?_, fun b u hb e => by rw [upd_ne hb]; exact kp9 b u hb e, ?_⟩
          · rw [List.length_map]
            exact small1000 (by omega)
          · have e : ([n].filter fun i => decide (i ∈ mvI (a : Int) (zs (brs rs))) && !decide (i ∈ mvI (a : Int) gO)) = [n] := by simp [List.filter, c1, c2]
            rw [upd_same, e, List.map_append]
            rfl
    · rintro H9 ⟨kp9, hD9⟩
      rw [List.length_map, List.take_length, ← regF_own ha grN] at hD9
      have s9 := sk2 kp9
      refine ⟨D2, _, rfl, .inl ⟨SqL.of hD9, fun b hb => ?_⟩⟩
      have s10 := same_new (o := .tup ((regF (a : Int) gO gN).map V.int)) hb
      have hb10 : (upd H9 b (.tup ((regF (a : Int) gO gN).map V.int))) b = some (.tup ((regF (a : Int) gO gN).map V.int)) := upd_same
      generalize hH10 : upd H9 b (.tup ((regF (a : Int) gO gN).map V.int)) = H10 at s10 hb10
      have s810 := s9.trans s10
      have hq10 := s810 _ _ hq2'
      have h510 := sqT_same s810 h58
      refine ⟨_, rfl, q2, rfl, ⟨_, SqL.of hq10⟩, fun D3 hD3 => ?_⟩
      have sk3 : ∀ {H7 : Hp}, (∀ b u, b ≠ D3 → H10 b = some u → H7 b = some u) → Same H10 H7 := fun kp b u e => kp b u (ne_of_none e hD3) e
      refine lc_it walk_list (fun i H7 => (∀ b u, b ≠ D3 → H10 b = some u → H7 b = some u) ∧ H7 D3 = some (.lst ((((mvI (a : Int) gO).take i).filter fun i => !decide (i ∈ gN)).map V.int))) ⟨fun b u hb e => by rw [upd_ne hb]; exact e, upd_same⟩ (fun i H7 _ ⟨kp, _⟩ => SqL.of (sk3 kp _ _ hq10)) ?_ ?_
      · rintro i z H11 H11' hi ⟨kp, hD⟩ ⟨rfl, hz⟩
        obtain ⟨n, hn, rfl⟩ := int_get hz
        have s11 := sk3 kp
        have ml : (mvI (a : Int) gO).length = gO.length := List.length_map ..
        have hi2 : i < (mvI (a : Int) gO).length := (List.getElem?_eq_some_iff.mp hn).1
        have fl : (((mvI (a : Int) gO).take i).filter fun i => !decide (i ∈ gN)).length ≤ i := by
          refine Nat.le_trans (List.length_filter_le _ _) ?_
          rw [List.length_take]
          omega
        refine ⟨rfl, _, rfl, _, rfl, p5, _, rfl, .inr (sqT_same s11 h510), rfl, flat_ints _, _, rfl, ?_⟩
        show if (!inV (.int n) (gN.map V.int)) = true then _ else _
        rw [inV_ints, take_snoc hn, List.filter_append]
        cases c1 : decide (n ∈ gN) with
        | true =>
          refine iteF ⟨kp, ?_⟩
          have e : ([n].filter fun i => !decide (i ∈ gN)) = [] := by simp [List.filter, c1]
          rw [e, List.append_nil]
          exact hD
        | false =>
          refine iteT ⟨_, rfl, _, hD, ?_, fun b u hb e => by rw [upd_ne hb]; exact kp b u hb e, ?_⟩
          · rw [List.length_map]
            exact small1000 (by omega)
          · have e : ([n].filter fun i => !decide (i ∈ gN)) = [n] := by simp [List.filter, c1]
            rw [upd_same, e, List.map_append]
            rfl
      · rintro H11 ⟨kp, hD⟩
        rw [List.length_map, List.take_length] at hD
        have s11 := sk3 kp
        refine ⟨D3, _, rfl, .inl ⟨SqL.of hD, fun c hc => ⟨(by show 2 ≤ sizeLine; decide), fun p hp => ?_⟩⟩⟩
        have s12 := same_new (o := .tup ((regB (a : Int) gO gN).map V.int)) hc
        have s13 := same_new (o := .tup [V.ref b, V.ref c]) hp
        exact q _ p b c gO gN ((((s08.trans s9).trans s10).trans s11).trans (s12.trans s13)) grO grN (SqT.of upd_same) (SqT.of (s13 _ _ (s12 _ _ (s11 _ _ hb10)))) (SqT.of (s13 _ _ upd_same))
end

/-! ### lambdas that are kept -/
/-- the function that a lambda made stands at f, its code at c' -/
def LamO (f c' : Addr) (q : Str) (params : Arguments) (body : Expr) (scope : Scope) (cl : List (Str × Addr)) : HO := .ext fun h => ∃ pm ctv : Value, h.get? f = some (PySem.W.kla_obj "<lambda>" q params body scope cl pm c' ctv)
theorem lamO_kind {f c' : Addr} {q : Str} {params : Arguments} {body : Expr} {scope : Scope} {cl : List (Str × Addr)} : ∃ φ, LamO f c' q params body scope cl = .ext φ := ⟨_, rfl⟩
theorem lamO_ok {prog : Program} {w : World} {H : Hp} {h : Heap} {f c' : Addr} {q : Str} {params : Arguments} {body : Expr} {scope : Scope} {cl : List (Str × Addr)} {pm ctv : Value} (e : h.get? f = some (PySem.W.kla_obj "<lambda>" q params body scope cl pm c' ctv)) : ObjOk prog w H h f (LamO f c' q params body scope cl) :=
  ⟨⟨pm, ctv, e⟩, ⟨_, e⟩, fun h1 h2 ⟨a, b, z⟩ st => ⟨a, b, st _ z⟩⟩
section
variable {X : Cx} {pins : List (Addr × Obj)} {σ : L2.St} {H : Hp} {s : Shared}
theorem lam_keep {T : List (Addr × Str)} {c P : Addr} {params : Arguments} {body : Expr} {scope : Scope} {pos : Pos} {E : Value → Shared → Prop} {Q : Value → Shared → Prop} (I : Inv X pins σ H s) (TB : LamX.TabB X.base X.mg c P) (hcode : X.env.code = .ref c)
    (hm : (P, X.env.qual ++ "<lambda>") ∈ T) (hu : ∀ p ∈ T, p.1 = P → p.2 = X.env.qual ++ "<lambda>") (tabs : LamX.Tabs T H) (hdef : defaultsOf params X.env = ([], [])) (hfree : ∀ y ∈ scope.names, y.2 = .free → ∃ c, X.env.cells.lookup y.1 = some c)
    (go : ∀ (f c' : Addr) (H1 : Hp) (s' : Shared), LamX.ExtN H H1 → LamX.Tabs T H1 → H1 f = none → H1 c' = some (LamX.CodeO c' (X.env.qual ++ "<lambda>")) →
      Inv X pins σ (upd H1 f (LamO f c' (X.env.qual ++ "<lambda>") params body scope (cloFrom X.env.cells scope.names []))) s' → Q (.ref f) s') :
    wpAny (model X.prog X.w) X.A (eval (.Lambda params body scope pos) X.env) Q E s := by
  obtain ⟨tb, eP, okT, told⟩ := tabs _ hm
  have gP : s.heap.get? P = some { cls := .none, data := .fields tb } := I.hok P _ eP
  refine PySem.W.kla_eval hdef ?_
  rcases hcd : codeAmong pos tb.toList with _ | cv
  · refine PySem.W.kla_makeFunction (P := P) (c := c) (ps := tb) (mg := X.mg) (closure_ok hfree) I.ok.glob (I.mod.glob.keeps I.bk) hcode (TB.code.keeps I.bk) gP okT hcd TB.gP (TB.bm.keeps I.bk) fun c' ctv hN tk grow above below rec atP => ?_
    obtain ⟨_, oc, vs, t, ec, goc, dc, vc⟩ := rec
    cases ec
    have free' : H c' = none := I.hok.fresh above
    have J := LamX.inv_table (q := X.env.qual ++ "<lambda>") (h' := hN) (t' := tk) (more := #[rawInt pos.line, rawInt pos.col, .ref c']) I eP grow atP above ⟨oc, vs, t, goc, dc, vc⟩
    have fresh : upd (upd H P (.tbl (tb ++ #[rawInt pos.line, rawInt pos.col, .ref c']))) c' (LamX.CodeO c' (X.env.qual ++ "<lambda>")) hN.objs.size = none := J.hok.fresh (Nat.le_refl _)
    have J2 := J.laid (t' := tk) (o := LamO hN.objs.size c' (X.env.qual ++ "<lambda>") params body scope (cloFrom X.env.cells scope.names [])) (fun b u e => Heap.get?_push_of_some (PySem.W.kla_obj "<lambda>" (X.env.qual ++ "<lambda>") params body scope (cloFrom X.env.cells scope.names []) ((X.mg "__name__").getD .none) c' ctv) e) (Nat.le_refl _) (lamO_ok (Heap.get?_push_size _ rfl))
    have keepN : LamX.ExtN H (upd (upd H P (.tbl (tb ++ #[rawInt pos.line, rawInt pos.col, .ref c']))) c' (LamX.CodeO c' (X.env.qual ++ "<lambda>"))) := fun b o e notT => by
      have bP : b ≠ P := fun z => by
        rw [z, eP] at e
        exact notT tb (Option.some.inj e).symm
      rw [upd_ne (ne_of_none e free'), upd_ne bP]
      exact e
    refine go _ c' _ _ keepN (fun p hp => ?_) fresh upd_same J2
    by_cases isP : p.1 = P
    · rw [hu p hp isP, isP]
      have eL : (tb ++ #[rawInt pos.line, rawInt pos.col, .ref c']).toList = tb.toList ++ [rawInt pos.line, rawInt pos.col, .ref c'] := by simp
      refine ⟨tb ++ #[rawInt pos.line, rawInt pos.col, .ref c'], ?_, ?_, fun p' cv' q' => ?_⟩
      · rw [upd_ne (ne_of_none eP free')]
        exact upd_same
      · rw [eL]
        exact PySem.TriplesOk_snoc _ _ _ _ okT
      · rw [eL] at q'
        rcases LamX.among_app _ okT q' with old | new
        · obtain ⟨c0, z1, z2⟩ := told p' cv' old
          exact ⟨c0, z1, keepN _ _ z2 LamX.codeO_ne⟩
        · exact ⟨c', new, upd_same⟩
    · obtain ⟨ps2, a1, a2, a3⟩ := tabs p hp
      refine ⟨ps2, ?_, a2, fun p' cv' q' => ?_⟩
      · rw [upd_ne (ne_of_none a1 free'), upd_ne isP]
        exact a1
      · obtain ⟨c0, z1, z2⟩ := a3 p' cv' q'
        exact ⟨c0, z1, keepN _ _ z2 LamX.codeO_ne⟩
  · obtain ⟨c', ecv, hco⟩ := told pos cv hcd
    subst ecv
    refine PySem.W.kla_makeFunctionHit (P := P) (c := c) (ps := tb) (mg := X.mg) (closure_ok hfree) I.ok.glob (I.mod.glob.keeps I.bk) hcode (TB.code.keeps I.bk) gP okT hcd (TB.bm.keeps I.bk) fun ctv hN tk grow big => ?_
    have J := I.laid (t' := tk) (a := hN.objs.size) (o := LamO hN.objs.size c' (X.env.qual ++ "<lambda>") params body scope (cloFrom X.env.cells scope.names [])) (h' := hN.push (PySem.W.kla_obj "<lambda>" (X.env.qual ++ "<lambda>") params body scope (cloFrom X.env.cells scope.names []) ((X.mg "__name__").getD .none) c' ctv))
      (fun b u e => Heap.get?_push_of_some _ (grow b u e)) big (lamO_ok (Heap.get?_push_size _ rfl))
    exact go _ c' H _ (LamX.ExtN.refl H) tabs (I.hok.fresh big) hco J
end
/-- a lambda as a value that is kept -/
def tLamV (T : List (Addr × Str)) (q : Str) (params : Arguments) (body : Expr) (scope : Scope) (cl : List (Str × Addr)) : TE := fun _ H Q => LamX.Tabs T H ∧ ∀ f c' H1, LamX.ExtN H H1 → LamX.Tabs T H1 → H1 f = none → H1 c' = some (LamX.CodeO c' q) → Q (.ref f) (upd H1 f (LamO f c' q params body scope cl))
theorem pe_lamV {X : Cx} {T : List (Addr × Str)} {c P : Addr} {params : Arguments} {body : Expr} {scope : Scope} {pos : Pos} (TB : LamX.TabB X.base X.mg c P) (hcode : X.env.code = .ref c) (hm : (P, X.env.qual ++ "<lambda>") ∈ T) (hu : ∀ p ∈ T, p.1 = P → p.2 = X.env.qual ++ "<lambda>")
    (L : LamX.LamS X.env.scope scope) (hdef : defaultsOf params X.env = ([], [])) : PE X (.Lambda params body scope pos) (tLamV T (X.env.qual ++ "<lambda>") params body scope (cloFrom X.env.cells scope.names [])) := by
  refine ⟨fun pins s σ H Q I h => ?_⟩
  exact lam_keep I TB hcode hm hu h.1 hdef (L.has I.ok) fun f c' H1 s' e t fn hc J => ⟨.ref f, _, J, rfl, h.2 f c' H1 e t fn hc⟩
/-- what is known of one thing is forgotten -/
theorem inv_forget {X : Cx} {pins : List (Addr × Obj)} {σ : L2.St} {H : Hp} {s : Shared} {f : Addr} {φ : Heap → Prop} (I : Inv X pins σ H s) (hf : H f = some (.ext φ)) : Inv X pins σ (del H f) s := by
  have ne : ∀ b o, H b = some o → (∀ ψ, o ≠ .ext ψ) → b ≠ f := fun b o e n z => by
    rw [z, hf] at e
    exact n φ (Option.some.inj e).symm
  have nn : ∀ b, H b = none → del H f b = none := fun b e => by
    unfold del
    split
    · rfl
    · exact e
  refine I.step (h' := s.heap) (g' := s.gens) (d' := s.drawn) (t' := s.toks) (ch := []) (fun b hb => absurd hb (by simp)) (fun b o _ _ _ e _ => e) (fun b o _ _ _ e _ => ⟨o.slots, e⟩) (fun b o _ _ e => nn b e) (fun b o _ e => ⟨o, e⟩) (fun b xs e => ?_) (fun b o u e => ?_) (fun b ps e => ⟨#[], ?_⟩) (fun m z => z) (fun b u e => ?_) I.bare
  · rw [del_ne (ne b _ e (fun ψ z => by cases z))]
    exact e
  · rw [del_ne (ne b _ e (fun ψ z => by cases z))]
    exact e
  · rw [del_ne (ne b _ e (fun ψ z => by cases z)), e]
    simp
  · by_cases bf : b = f
    · rw [bf, del_same] at e
      cases e
    · rw [del_ne bf] at e
      refine (I.hok b u e).stay (fun d v _ z => z) (fun d z => ?_) fun d xs z => ?_
      · rw [del_ne (ne d _ z (fun ψ y => by cases y))]
        exact z
      · rw [del_ne (ne d _ z (fun ψ y => by cases y))]
        exact z

/-! ### a comprehension whose element is told of the def's own names -/
theorem pe_lcS {X : Cx} {elt tg iter : Expr} {scope : Scope} {own : List (Str × Nat)} {pos : Pos} {wi : TI} {g : TG} {te : L2.St → TE} (calm : X.calm = true) (nd : X.N.Nodup) (hi : PI X tg iter wi) (ok : BlkOk X.N X.env.scope scope own)
    (hg : ∀ s H C cl fp, PG (X.blk s H scope (compEnvC scope cl C X.env) fp) tg g)
    (he : ∀ pins σ s H C cl fp, Inv X pins σ H s → (∀ b ∈ fp, FpOk X pins H b) → PE (X.blk s H scope (compEnvC scope cl C X.env) fp) elt (te σ)) (hs : ∀ x, foldedSetIterable iter X.env x = pure x := by intro _; rfl) :
    PE X (.ListComp elt [⟨tg, iter, [], 0⟩] scope pos) (fun σ H Q => tLc wi g tYes (te σ) (own.map (·.2)) σ H Q) := by
  refine ⟨fun pins s σ H Q I hq => ?_⟩
  have toCell : ∀ y ∈ scope.names, y.2 = .free → ∃ c, X.env.cells.lookup y.1 = some c := fun y hy e => I.ok.has _ (ok.free y hy e)
  rw [eval_ListComp]
  refine wpAny_comprehension_free (use := none) rfl hs (closure_ok toCell) ok.kind (fun y hy e => by rw [ok.uniq y hy, e]) (thn (hi.run pins s σ H _ I hq) fun itx sA hA => thn hA fun itr sB hB => ?_)
  obtain ⟨it, fp, tn, J, HB, eIt, IB, tr, at0, clear, rest⟩ := hB
  subst eIt
  refine wpAny_newObj_type (newEnv_comp ?_) (by show 0 ≤ sizeLine; decide)
  generalize dD : sB.heap.objs.size = dst
  have dN : HB dst = none := IB.hok.fresh (Nat.le_of_eq dD)
  obtain ⟨W, ⟨n0, start⟩, turns⟩ := rest dst dN
  generalize dC : ({ sB with heap := sB.heap.push { cls := .type "list", data := .seq ([] : List Value).toArray } } : Shared) = sC
  have heapC : sC.heap = sB.heap.push { cls := .type "list", data := .seq ([] : List Value).toArray } := by rw [← dC]
  have IC : Inv X pins σ (upd HB dst (.lst [])) sC := by
    have at' : (sB.heap.push { cls := .type "list", data := .seq ([] : List Value).toArray }).get? dst = some { cls := .type "list", data := .seq ([] : List Value).toArray } := by
      rw [← dD]
      exact Heap.get?_push_size _ rfl
    rw [← dC]
    exact IB.laid (o := .lst []) (t' := sB.toks) (fun b u e => Heap.get?_push_of_some _ e) (Nat.le_of_eq dD) ⟨Nat.zero_le _, [], 0, .nil, at'⟩
  have below : ∀ b ∈ fp, b < sB.heap.objs.size := fun b hb => (tr.obj _ _ at0 b hb).elim fun o z => Heap.lt_size z.1
  have clearC : ∀ b ∈ fp, FpOk X pins (upd HB dst (.lst [])) b := fun b hb => by
    have ne : b ≠ dst := by
      rw [← dD]
      exact Nat.ne_of_lt (below b hb)
    exact ⟨by rw [upd_ne ne]; exact (clear b hb).1, (clear b hb).2⟩
  have belowC : ∀ b ∈ fp, b < sC.heap.objs.size := fun b hb => by
    rw [heapC, Heap.size_push]
    exact Nat.lt_succ_of_lt (below b hb)
  have atC : tn 0 sC.heap := tr.keep _ _ _ at0 fun b _ o e => by
    rw [heapC]
    exact Heap.get?_push_of_some _ e
  generalize dH : upd HB dst (.lst []) = HC at IC clearC start
  have elem := he pins σ sC HC sC.heap.objs.size (cellsFrom (sC.heap.objs.size + 1) scope.names (cloFrom X.env.cells scope.names [])) fp IC clearC
  have targ := hg sC HC sC.heap.objs.size (cellsFrom (sC.heap.objs.size + 1) scope.names (cloFrom X.env.cells scope.names [])) fp
  have IE := block_start (fp := fp) IC ok nd fun b hb => ⟨clearC b hb, belowC b hb⟩
  show codeAny _ _ (.compStart (.ListComp elt [⟨tg, iter, [], 0⟩] scope pos) 0 (.ref it) (.ref dst) (compEnvC scope (cellsFrom (sC.heap.objs.size + 1) scope.names (cloFrom X.env.cells scope.names [])) sC.heap.objs.size X.env)) (compPost (model X.prog X.w) X.A X.xe none _ (.ref dst) sC.heap.objs.size) { sC with heap := pushCells (sC.heap.push { cls := .type "dict", data := .dict #[] }) scope.names }
  generalize dE : compEnvC scope (cellsFrom (sC.heap.objs.size + 1) scope.names (cloFrom X.env.cells scope.names [])) sC.heap.objs.size X.env = en at IE elem targ ⊢
  have locE : en.locals = sC.heap.objs.size := by rw [← dE]; rfl
  generalize dS : ({ sC with heap := pushCells (sC.heap.push { cls := .type "dict", data := .dict #[] }) scope.names } : Shared) = sE at IE ⊢
  have atE : tn 0 sE.heap := tr.keep _ _ _ atC fun b _ o e => by
    rw [← dS]
    exact pushCells_keeps _ _ _ _ (Heap.get?_push_of_some _ e)
  have still : ∀ {σ' : L2.St} {H' : Hp} {s' : Shared} {pn : List (Addr × Obj)}, Inv (X.blk sC HC scope en fp) pn σ' H' s' → (∀ b ∈ fp, H' b = none) → ∀ b ∈ fp, FpOk (X.blk sC HC scope en fp) [] H' b := fun IF hn b hb =>
    ⟨hn b hb, (IF.ok.exf b hb).1, IF.ok.exfs b hb, .inl hb, fun y c e => (IF.ok.exf b hb).2 y c e, fun p hp => nomatch (show p ∈ ([] : List (Addr × Obj)) from hp)⟩
  have loop : codeAny (model X.prog X.w) X.A (.compLoop (.ListComp elt [⟨tg, iter, [], 0⟩] scope pos) 0 (.ref it) (.ref dst) en) (compPost (model X.prog X.w) X.A X.xe none (EP X pins σ Q) (.ref dst) sC.heap.objs.size) sE := by
    refine compLoop_any (fun n s' => ∃ i H', Inv (X.blk sC HC scope en fp) [] (wipe σ (own.map fun p => p.2)) H' s' ∧ (∀ b ∈ fp, H' b = none) ∧ tn i s'.heap ∧ W i n H') (fun n s5 z => ?_) n0 ⟨0, HC, IE, fun b hb => (clearC b hb).1, atE, start⟩
    obtain ⟨i, H5, I5, no5, at5, w5⟩ := z
    rcases turns i n H5 w5 with ⟨halt, fin⟩ | ⟨onw, Nx, less, each⟩
    · refine thnF (tr.done (X.blk sC HC scope en fp) rfl rfl rfl calm i [] s5 _ H5 (fun _ _ => False) I5 (still I5 no5) at5 halt) fun r s6 ⟨rN, I6⟩ => ?_
      subst rN
      have back : Inv X pins σ H5 s6 := IC.call' (ch := fp) I6.os I6.base I6.hok I6.bare fun b hb => ⟨(clearC b hb).2.2.2.1, (clearC b hb).2.1, (clearC b hb).2.2.2.2.1, (clearC b hb).2.2.2.2.2⟩
      obtain ⟨m, own', _⟩ := I6.loc
      have own6 : s6.heap.Ns en.locals m := own'
      have gone : H5 en.locals = none := I6.free
      rw [locE] at own6 gone
      refine ⟨m, own6, fun h7 sb => ?_⟩
      obtain ⟨k0, k1, _, k3, k4, k5⟩ := IC.fpOk (Nat.le_refl _) gone
      exact ⟨.ref dst, H5, back.turned (t' := s6.toks) (fun b o ne e => (sb.2 b ne).trans e) k0 k1 k3 k4 k5, rfl, fin⟩
    · refine thnF (tr.item (X.blk sC HC scope en fp) rfl rfl rfl calm i [] s5 _ H5 (fun _ _ => False) I5 (still I5 no5) at5 onw) fun r s6 ⟨u, rS, z6⟩ => ?_
      subst rS
      refine thnF z6 fun _ s7 ⟨x, H7, I7, r7, y7, at7, no7⟩ => ?_
      have P7 := I7.pinned (still I7 no7) (tr.obj _ _ at7)
      refine thnF (targ.run _ s7 _ H7 x u _ P7 r7 (each x H7 y7)) fun _ s8 ⟨σ8, H8, I8, wp, q8⟩ => ?_
      have tests := (pts_nil (X := X.blk sC HC scope en fp)).run _ s8 σ8 H8 _ I8 q8
      refine thnF tests fun b s9 ⟨H9, I9, q9⟩ => ?_
      have next : ∀ {s' : Shared} {H' : Hp}, Nx H' → Inv (X.blk sC HC scope en fp) ([] ++ pinsAt fp s7.heap) σ8 H' s' → ∃ m, m < n ∧ ∃ i H', Inv (X.blk sC HC scope en fp) [] (wipe σ (own.map fun p => p.2)) H' s' ∧ (∀ b ∈ fp, H' b = none) ∧ tn i s'.heap ∧ W i m H' := fun {s' H'} nx IF => by
        obtain ⟨m, lt, wm⟩ := less H' nx
        have pinned : ∀ b ∈ fp, ∀ o, s7.heap.get? b = some o → s'.heap.get? b = some o ∧ H' b = none := fun b hb o e => by
          have z := IF.pin (b, o) (List.mem_append_right _ (List.mem_append_right _ (mem_pinsAt hb e)))
          exact ⟨z.1, z.2.1⟩
        have len8 : (wipe σ (own.map fun p => p.2)).length = σ8.length := by
          rw [← wp]
          exact wipe_length ..
        have weak : ∀ (j : Nat) v, (wipe σ (own.map fun p => p.2))[j]? = some (some v) → σ8[j]? = some (some v) := fun j v e => by
          rw [← wp] at e
          exact (wipe_some e).1
        refine ⟨m, lt, i + 1, H', (IF.unpinned (pins := [])).weak len8 weak, fun b hb => ?_, tr.keep _ _ _ at7 fun b hb o e => (pinned b hb o e).1, wm⟩
        obtain ⟨o, e, _⟩ := tr.obj _ _ at7 b hb
        exact (pinned b hb o e).2
      cases b with
      | false => exact next q9 I9
      | true =>
        show wpAny _ _ _ _ _ _
        refine thnF (elem.run _ s9 σ8 H9 _ I9 q9) fun y s10 ⟨yv, H10, I10, ry, acc, atD, small, nx⟩ => ?_
        exact app_ok (X := X.blk sC HC scope en fp) I10 atD small ry fun s11 I11 => next nx I11
  exact codeAny_compStart_list loop (tr.self X.A 0 _ _ _ atE loop)

/-! ### try with several clauses that name the error -/
abbrev Suite := Addr → Value → Option Addr → TS
def wAll (K : PySem.W.Frag) (out : WX) (D : Ends) : List (Value × Nat × Suite) → WX
  | [] => out
  | (c, i, ts) :: more => fun cls d σ H => ∃ yes, PySem.W.exmOne K cls c = some yes ∧
      (yes = true → ∀ e, H e = none → ts e cls d ⟨fun σ1 H1 => D.nx (σ1.set i none) H1, D.rt, fun σ1 H1 => D.bk (σ1.set i none) H1, fun σ1 H1 => D.ct (σ1.set i none) H1⟩ (σ.set i (some (.ref e))) H) ∧ (yes = false → wAll K out D more cls d σ H)
inductive Clauses (X : Cx) : List ExceptHandler → List (Value × Nat × Suite) → Prop
  | none : Clauses X [] []
  | more {x nm : Str} {c : Value} {i : Nat} {ts : Suite} {st : Stmt} {sts : List Stmt} {q1 q2 : Pos} {hds : List ExceptHandler} {l : List (Value × Nat × Suite)} (hi : X.N[i]? = some nm) (hl : X.env.kindOf nm = some .local) (hc : Names X x c)
      (hs : ∀ (e : Addr) (oe : Obj) (cls : Value) (d : Option Addr) (pn : List (Addr × Obj)), Zc cls d oe → (∃ fs, oe.data = .fields fs) → PSs (X.suite e ((e, oe) :: pn)) (st :: sts) (ts e cls d)) (rest : Clauses X hds l) :
      Clauses X (.ExceptHandler (some (.Name x q1)) (some nm) (st :: sts) q2 :: hds) ((c, i, ts) :: l)
theorem ps_tryN {X : Cx} {body : List Stmt} {h0 : ExceptHandler} {hds : List ExceptHandler} {l : List (Value × Nat × Suite)} {pos : Pos} {tb : WX → TS} {out : WX} (e1 : X.stack = X.env :: X.outer) (e2 : X.env.frame = some X.env.locals) (nd : X.N.Nodup) (tk : Takes X out)
    (hb : ∀ (W : WX) (pn : List (Addr × Obj)) (xe : Value → Shared → Prop), Takes (X.tr pn xe) W → PassesOwn (model X.prog X.w) X.A X.env xe → PSs (X.tr pn xe) body (tb W))
    (hh : Clauses X (h0 :: hds) l) : PS X (.Try body (h0 :: hds) [] [] pos) (fun D σ H => tb (wAll X.K out D l) D σ H) := by
  constructor
  intro pins s σ H D I h
  have okX := I.ok
  have fr : X.A.frames = some (X.env :: X.outer) := okX.frames.trans (by rw [e1])
  refine wpAny_Try_except (wpAny_mono ((hb (wAll X.K out D l) (X.pn ++ pins) (fun ev s₁ => wpAny (model X.prog X.w) X.A (noteFrame ev X.env) (fun _ s₂ => wpAny (model X.prog X.w) X.A (setFlight ev none) (fun _ s₃ =>
      wpAny (model X.prog X.w) X.A (handleBy ev X.env (h0 :: hds)) (SP X pins D) X.xe s₃) X.xe s₂) X.xe s₁) ?caught PassesOwn.looking).run [] s σ H D (I.toTry _) h) ?through fun _ _ z => z)
  case through =>
    intro fl s1 hsp
    cases fl with
    | next => exact let ⟨σ1, H1, J, q⟩ := hsp; wpAny_execs_nil ⟨σ1, H1, J.ofTry okX, q⟩
    | brk => exact let ⟨σ1, H1, J, q⟩ := hsp; ⟨σ1, H1, J.ofTry okX, q⟩
    | cont => exact let ⟨σ1, H1, J, q⟩ := hsp; ⟨σ1, H1, J.ofTry okX, q⟩
    | ret u => exact let ⟨v, σ1, H1, J, r, q⟩ := hsp; ⟨v, σ1, H1, J.ofTry okX, r, q⟩
  case caught =>
    intro u s1 flying
    obtain ⟨a, B, sI, pins1, σ1, H1, cls, d, rfl, J0, nb, up, sky, na, os, ag, wish⟩ := flying
    have J : Inv X pins σ1 H1 sI := J0.ofTry okX
    refine Sky.land (A := X.A) (env := X.env) (outer := X.outer) (L := X.env.locals) Zc.steady fr e2 (by rw [← e1]; exact sky) fun h3 fl3 up3 => ?_
    have J3 : Inv X pins σ1 H1 { s1 with heap := h3 } := J.landed nb fl3.1 (up.trans up3) os ag
    obtain ⟨o3, w3, g3, z3, d3⟩ := fl3.there
    have out_of : a ∉ frs (X.env :: X.outer) := fun hm => by
      obtain ⟨_, ob, g, notf⟩ := fl3.2.2.1.mem hm
      have same : o3 = ob := Option.some.inj (g3.symm.trans g)
      rw [same] at d3
      exact notf _ d3
    have nL : a ≠ X.env.locals := fun z => out_of (List.mem_filterMap.mpr ⟨X.env, .head _, e2.trans (by rw [z])⟩)
    have nF : a ∉ X.fs := fun hm => let ⟨e, he, q⟩ := List.mem_filterMap.mp hm; out_of (List.mem_filterMap.mpr ⟨e, .tail _ he, q⟩)
    have S3 := J3.suite g3 d3 na nL nF
    have each : ∀ {hs' : List ExceptHandler} {l' : List (Value × Nat × Suite)}, Clauses X hs' l' → wAll X.K out D l' cls d σ1 H1 → wpAny (model X.prog X.w) X.A (handleBy (.ref a) X.env hs') (SP X pins D) X.xe { s1 with heap := h3 } := by
      intro hs' l' C
      induction C with
      | none =>
        intro wo
        obtain ⟨k1, k2, k3, oe, vs, TB, oT, ts', he, hz, hd, ht, hr⟩ := id fl3
        have thrown : wpAny (model X.prog X.w) X.A (setFlight (.ref a) X.env.frame) (fun _ s4 => wpAny (model X.prog X.w) X.A (throw (.ref a) : Sem Flow) (SP X pins D) X.xe s4) X.xe { s1 with heap := h3 } := by
          rw [e2]
          refine HandSPX.setFlight_upZ fl3 fun h4 held up4 => wpAny_throw (tk _ _ ⟨a, B, sI, pins, σ1, H1, cls, d, rfl, J, nb, (up.trans up3).trans up4, .inr (.inr ?_), na, os, ag, wo⟩)
          rw [e1]
          exact held
        refine wpAny_handleBy_nil ?_
        unfold PySem.passOn
        refine wpAny_bind (wpAny_field he hd ht ?_)
        rw [if_neg (by simp : ¬ ((Value.ref TB == Value.none) = true))]
        first | exact wpAny_bind (wpAny_pure (wpAny_bind thrown)) | exact wpAny_bind thrown
      | @more x nm c i ts st sts q1 q2 hds2 l2 hi hl hc hs rest ih =>
        intro wo
        obtain ⟨yes, hy, on, off⟩ := wo
        have LM := PySem.W.exm_one (M := model X.prog X.w) J3.kIn (fun A Q E s k q => wpAny_typeOf_ref (k _ _ g3) (by rw [z3.1]; exact q)) hy
        have named : ∀ {Q : Value → Shared → Prop} {E : Value → Shared → Prop}, Q c { s1 with heap := h3 } → wpAny (model X.prog X.w) (X.A.mark (some (.ref a))) (eval (.Name x q1) X.env) Q E { s1 with heap := h3 } := fun {Q E} q => by
          obtain ⟨gl, dbg, m1 | ⟨m1, m2, m3⟩⟩ := hc
          · exact ld_glob (X := X.suite a ((a, o3) :: (X.pn ++ pins))) S3 gl m1 q dbg
          · exact ld_blt (X := X.suite a ((a, o3) :: (X.pn ++ pins))) S3 gl m1 m2 q m3 dbg
        refine wpAny_handleBy_cons (codeAny_handlers_test (named (LM.here ?_))) (by intro q; cases q)
        cases yes with
        | false => exact ih (off rfl)
        | true =>
          refine codeAny_handlers_suite_as (HandSPX.lands_againZ fl3 fun h4 fl4 up4 => ?_)
          obtain ⟨o4, w4, g4, z4, d4⟩ := fl4.there
          have J4 : Inv X pins σ1 H1 { s1 with heap := h4 } := J.landed nb fl4.1 ((up.trans up3).trans up4) os ag
          refine store_ok (X := X.suite a ((a, o4) :: (X.pn ++ pins))) (v := .ref a) (J4.suite g4 d4 na nL nF) nd hi (.inl hl) rfl (fun s5 S5 => ?_) (.inr hl)
          refine wpAny_mono ((hs a o4 cls d (X.pn ++ pins) z4 ⟨_, d4⟩).run [] s5 _ H1 _ S5 (on rfl a na)) (fun fl s6 hsp => ?_) fun _ _ z => z.elim
          have gone : ∀ {σ6 : L2.St} {H6 : Hp} {Q : Shared → Prop}, Inv (X.suite a ((a, o4) :: (X.pn ++ pins))) [] σ6 H6 s6 → (∀ s7, Inv X pins (σ6.set i Option.none) H6 s7 → Q s7) →
              wpAny (model X.prog X.w) X.A (do bindName X.env nm .none; unbindBehindTheSuite X.env nm q2) (fun _ s7 => Q s7) X.xe s6 := fun S6 k => gone_ok (S6.unsuite okX) nd hi hl k
          cases fl with
          | next => exact let ⟨_, _, S6, q6⟩ := hsp; gone S6 fun s7 J7 => ⟨_, _, J7, q6⟩
          | brk => exact let ⟨_, _, S6, q6⟩ := hsp; gone S6 fun s7 J7 => ⟨_, _, J7, q6⟩
          | cont => exact let ⟨_, _, S6, q6⟩ := hsp; gone S6 fun s7 J7 => ⟨_, _, J7, q6⟩
          | ret u => exact let ⟨_, _, _, S6, r6, q6⟩ := hsp; gone S6 fun s7 J7 => ⟨_, _, _, J7, r6, q6⟩
    exact each hh wish
/-! ### _law_met -/
abbrev sMet : Stmt := topS 50
theorem scMet : FnScope ["ask", "e"] ["ask"] (defScope sMet) := ⟨rfl, rfl, rfl, by decide +kernel, rfl, by decide +kernel, by decide +kernel⟩
/-- what an error of the class at C with the field f comes to -/
def CaughtAs (C : Addr) (f told : Str) (Q : VK) (cls : Value) (d : Option Addr) (H : Hp) : Prop := ∃ (dd : Addr) (v : V), cls = .ref C ∧ d = some dd ∧ H dd = some (.xd [(f, v)]) ∧ ∀ p, H p = none → Q (.ref p) (upd H p (.tup [.str told, v]))
def MetE (CA CB : Addr) (Q : VK) : XK := fun cls d H => CaughtAs CA "index" "at" Q cls d H ∨ CaughtAs CB "index" "draft" Q cls d H
def TMet (CA CB : Addr) : (XK → Hp → VK → Prop) → Hp → VK → Prop := fun tl H Q => tl (MetE CA CB Q) H fun v H1 => 2 ≤ sizeLine ∧ ∀ p, H1 p = none → Q (.ref p) (upd H1 p (.tup [.str "told", v]))
theorem takes_len {X : Cx} {W W' : WX} (tk : Takes X W) (h : ∀ cls d σ H, σ.length = X.N.length → W' cls d σ H → W cls d σ H) : Takes X W' := fun u s' x => by
  obtain ⟨a, B, sI, pins, σ, H, cls, d, e, I, r1, r2, r3, r4, r5, r6, w⟩ := x
  exact tk u s' ⟨a, B, sI, pins, σ, H, cls, d, e, I, r1, r2, r3, r4, r5, r6, h cls d σ H I.len w⟩
theorem set_one {σ : L2.St} {v : V} (h : σ.length = 2) : (σ.set 1 (some v))[1]? = some (some v) := by
  rw [List.getElem?_set_self (by omega)]
/-- such an error's class -/
structure ErC (K : PySem.W.Frag) (C : Addr) : Prop where
  tF : PySem.W.exmOne K (.ref C) (.ref C) = some true
  xF : XfC K C
  nF : PySem.W.findIn K (.ref C) "index" = some none
theorem met_gives {X : Cx} {g CA CB : Addr} {cdg : Value} {q : Str} (mA : X.mg "BadAt" = some (.ref CA)) (mB : X.mg "BadDraft" = some (.ref CB)) (eA : ErC X.K CA) (eB : ErC X.K CB) (off : PySem.W.exmOne X.K (.ref CB) (.ref CA) = some false) :
    LamX.GivesTo X ["ask", "e"] "_law_met" (defScope sMet) g cdg (defBody sMet) "ask" q (TMet CA CB) := by
  intro f c' s H Q tl act hc h
  refine ⟨_, pss_one (ps_tryN (X := (cxOf CX0 X.prog X.w X.K X.mg X.base ["ask", "e"] "_law_met" (defScope sMet) g cdg X.A X.stack s H E0).nox) (out := fun _ _ _ _ => False)
      (tb := fun W D σ H => ∃ Ech : XK, (∀ cls d σ' H', σ'.length = 2 → Ech cls d H' → W cls d σ' H') ∧ σ[0]? = some (some (.ref f)) ∧ H c' = some (LamX.CodeO c' q) ∧ tl Ech H fun v H1 => 2 ≤ sizeLine ∧ ∀ p, H1 p = none → D.rt (.ref p) (upd H1 p (.tup [.str "told", v])))
      rfl rfl scMet.nd LamX.takes0 (fun W pn xe tk _ => ?_)
      (.more (i := 1) (c := .ref CA) rfl rfl ⟨rfl, by decide, .inl mA⟩ (fun e oe cls d pn hz hf => pss_one (ps_ret (pe_tup (pa_cons pe_str (pa_cons (by exact pe_xf eA.xF eA.nF hz hf (pv 1)) pa_nil)))))
        (.more (i := 1) (c := .ref CB) rfl rfl ⟨rfl, by decide, .inl mB⟩ (fun e oe cls d pn hz hf => pss_one (ps_ret (pe_tup (pa_cons pe_str (pa_cons (by exact pe_xf eB.xF eB.nF hz hf (pv 1)) pa_nil))))) .none))), ?_⟩
  · refine ⟨fun pins s' σ H' D I h' => ?_⟩
    obtain ⟨Ech, hW, h1, h2, h3⟩ := h'
    exact (pss_one (ps_ret (pe_tup (pa_cons pe_str (pa_cons (act (fun cls d _ H => Ech cls d H) pn xe Ech _ _ (takes_len tk fun cls d σ H hl h => hW cls d σ H hl h) (fun _ _ _ _ h => h)) pa_nil))))).run pins s' σ H' D I ⟨h1, h2, h3⟩
  · refine ⟨MetE CA CB Q, fun cls d σ' H' hl hm => ?_, rfl, hc, h⟩
    rcases hm with hm | hm
    · obtain ⟨dd, v, rfl, rfl, hd, k⟩ := hm
      refine ⟨true, eA.tF, fun _ e he => ?_, fun z => Bool.noConfusion z⟩
      exact ⟨_, set_one hl, rfl, rfl, dd, _, v, rfl, hd, by simp [List.lookup], (by show 2 ≤ sizeLine; decide), k⟩
    · obtain ⟨dd, v, rfl, rfl, hd, k⟩ := hm
      refine ⟨false, off, fun z => Bool.noConfusion z, fun _ => ⟨true, eB.tF, fun _ e he => ?_, fun z => Bool.noConfusion z⟩⟩
      exact ⟨_, set_one hl, rfl, rfl, dd, _, v, rfl, hd, by simp [List.lookup], (by show 2 ≤ sizeLine; decide), k⟩
/-- a def whose code object is known to stand at c -/
structure FunC (K : PySem.W.Frag) (x : Str) (st : Stmt) (c f : Addr) (fd : FuncData) : Prop where
  ex : ∃ (oc : Value) (od : Option Addr) (kV doc pm : Value) (an : Option Addr) (ct : Value) (osl : Array (Option Value)),
    fd = PySem.W.fnOf x x (defArgs st) (defBody st) (defScope st) .none kV doc pm an (.ref c) ct ∧ K.lookup f = some ⟨oc, od, .func fd, osl⟩ ∧ PySem.W.codeIn K (.ref c) x = true
  kp : PySem.W.keepIn K (.ref f) = true
theorem FunC.fn {K : PySem.W.Frag} {x : Str} {st : Stmt} {c f : Addr} {fd : FuncData} (F : FunC K x st c f fd) : Fun K x x st f fd := by
  obtain ⟨oc, od, kV, doc, pm, an, ct, osl, e, lk, hc⟩ := F.ex
  exact ⟨⟨oc, od, kV, doc, pm, an, _, ct, osl, e, lk, hc⟩, F.kp⟩
theorem FunC.okX {P : Program} {w : World} {K : PySem.W.Frag} {mg : Str → Option Value} {base : Heap} {x : Str} {st : Stmt} {c f : Addr} {fd : FuncData} {N ps : List Str} {k : Nat} {sp : Sp} (F : FunC K x st c f fd) (S : FnScope N ps (defScope st)) (len : ∀ vs H Q E, sp vs H Q E → vs.length = ps.length)
    (hbody : ∀ (A : Around) (outer : List Env) (s : Shared) (H : Hp) (vs : List V) (Q : VK) (E : XK), Room k (A.deeper (envOfC x (defScope st) s.heap.objs.size f (.ref c))) → sp vs H Q E →
      ∃ t, PSs (cxOf (L2.CX P w) P w K mg base N x (defScope st) f (.ref c) A outer s H E) (defBody st) t ∧ t { nx := fun _ H' => Q .non H', rt := Q } (start N vs) H) : FnOk P w K mg base (L2.CX P w) (k + 1) f fd ps sp := by
  obtain ⟨oc, od, kV, doc, pm, an, ct, osl, rfl, lk, hcd⟩ := F.ex
  exact fn_of lk hcd S len fun A outer s H vs Q E hr hsp => hbody A outer s H vs Q E hr hsp
/-- what is known of _law_met and the errors -/
structure Met (K : PySem.W.Frag) (mg : Str → Option Value) (CA CB : Addr) : Prop where
  ex : ∃ (g : Addr) (fd : FuncData), mg "_law_met" = some (.ref g) ∧ Fun K "_law_met" "_law_met" sMet g fd
  mA : mg "BadAt" = some (.ref CA)
  mB : mg "BadDraft" = some (.ref CB)
  eA : ErC K CA
  eB : ErC K CB
  off : PySem.W.exmOne K (.ref CB) (.ref CA) = some false
theorem pe_met {X : Cx} {T : List (Addr × Str)} {CA CB c P : Addr} {k : Nat} {params : Arguments} {body : Expr} {scope : Scope} {t : XK → TE} {p lpos pos : Pos} (M : Met X.K X.mg CA CB) (hg : Gl X "_law_met")
    (TB : LamX.TabB X.base X.mg c P) (hcode : X.env.code = .ref c) (hmT : (P, X.env.qual ++ "<lambda>") ∈ T) (hu : ∀ p ∈ T, p.1 = P → p.2 = X.env.qual ++ "<lambda>") (hr : Room (k + 2) X.A) (L : LamX.LamS X.env.scope scope) (hdef : defaultsOf params X.env = ([], []))
    (hbind : ∀ (q : Str) (cl : List (Str × Addr)) (pm cv ctv : Value), bindArgs (PySem.W.kla_fn "<lambda>" q params body scope cl pm cv ctv) ⟨[], []⟩ = pure [])
    (hbody : ∀ (A : Around) (outer : List Env) (s : Shared) (H : Hp) (E : XK) (f c' : Addr), Room k (A.deeper (LamX.lamEnv X scope s.heap.objs.size f c')) → PE (LamX.lamCx X A outer s H E scope f c') body (t E)) :
    PE X (.Call (.Name "_law_met" p) [.Lambda params body scope lpos] [] pos) (LamX.tLam T (TMet CA CB) t) := by
  obtain ⟨g, fd, hm, F⟩ := M.ex
  have hb := F.binds (ps := ["ask"]) fun _ _ _ _ _ _ us hl => match us, hl with | [_], _ => rfl
  obtain ⟨oc, od, kV, doc, pm, an, cdv, ct, osl, rfl, lk, hcd⟩ := F.ex
  exact LamX.pe_lamcall hg hm F.kp lk hcd hb scMet rfl (.inl rfl) (met_gives M.mA M.mB M.eA M.eB M.off) TB hcode hmT hu hr L hdef hbind hbody
/-- a lambda's text and what is asked of its body -/
structure LamP where
  params : Arguments
  body : Expr
  scope : Scope
  t : XK → TE
/-- _law_met of a kept lambda -/
def tMetK (q : Str) (cells : List (Str × Addr)) (CA CB : Addr) (ls : List LamP) (i : Nat) (σ0 : L2.St) : TE := fun σ H Q => ∃ l ∈ ls, ∃ f c', σ[i]? = some (some (.ref f)) ∧ H f = some (LamO f c' q l.params l.body l.scope (cloFrom cells l.scope.names [])) ∧ c' ≠ f ∧ H c' = some (LamX.CodeO c' q) ∧
  TMet CA CB (fun E H' Q' => l.t E σ0 H' Q') (del H f) Q
structure LamOk (X : Cx) (k : Nat) (l : LamP) : Prop where
  sc : LamX.LamS X.env.scope l.scope
  bind : ∀ (q : Str) (cl : List (Str × Addr)) (pm cv ctv : Value), bindArgs (PySem.W.kla_fn "<lambda>" q l.params l.body l.scope cl pm cv ctv) ⟨[], []⟩ = pure []
  body : ∀ (A : Around) (outer : List Env) (s : Shared) (H : Hp) (E : XK) (f c' : Addr), Room k (A.deeper (LamX.lamEnv X l.scope s.heap.objs.size f c')) → PE (LamX.lamCx X A outer s H E l.scope f c') l.body (l.t E)
theorem pe_metk {X : Cx} {CA CB : Addr} {k i : Nat} {ls : List LamP} {scopeC : Scope} {cl : List (Str × Addr)} {C : Addr} {fp : List Addr} {pins : List (Addr × Obj)} {σ : L2.St} {s : Shared} {H : Hp} {p p2 pos : Pos} (M : Met X.K X.mg CA CB) (I : Inv X pins σ H s) (hfp : ∀ b ∈ fp, FpOk X pins H b) (hr : Room (k + 2) X.A)
    (hL : ∀ l ∈ ls, LamOk X k l) (hN : X.N[i]? = some "ask") (hg : Gl (X.blk s H scopeC (compEnvC scopeC cl C X.env) fp) "_law_met") (hv : Vis (X.blk s H scopeC (compEnvC scopeC cl C X.env) fp).env.scope "ask") :
    PE (X.blk s H scopeC (compEnvC scopeC cl C X.env) fp) (.Call (.Name "_law_met" p) [.Name "ask" p2] [] pos) (tMetK (X.env.qual ++ "<lambda>") X.env.cells CA CB ls i σ) := by
  refine ⟨fun pn sB σB HB Q IB h => ?_⟩
  obtain ⟨l, hl, f, c', hs, hf, hcf, hc, h⟩ := h
  obtain ⟨Lsc, Lbind, Lbody⟩ := hL l hl
  obtain ⟨g, fd, hm, F⟩ := M.ex
  have hb := F.binds (ps := ["ask"]) fun _ _ _ _ _ _ us hl => match us, hl with | [_], _ => rfl
  obtain ⟨oc, od, kV, doc, pm, an, cdv, ct, osl, rfl, lk, hcd⟩ := F.ex
  refine wpAny_Call_Name_kw (ld_glob IB hg hm ?_ (by decide))
  refine PySem.W.callWith_K (h₀ := X.base) IB.ok.mod.kin F.kp ?_ (by rfl) (by rfl)
  show wpAny _ _ (spliced ((false, eval (.Name "ask" p2) (compEnvC scopeC cl C X.env)) :: backTo pos (starEach [] (compEnvC scopeC cl C X.env)))) _ _ sB
  refine Calls.spliced_cons (thn ((pe_var (X := X.blk s H scopeC (compEnvC scopeC cl C X.env) fp) (pos := p2) (i := i) hN hv (by decide) (by decide)).run pn sB σB HB (fun v H1 => v = .ref f ∧ H1 = HB) IB ⟨.ref f, hs, rfl, rfl⟩) fun u s1 ⟨v, H1, I1, r1, q1⟩ => ?_)
  obtain ⟨ev, eH⟩ := q1
  subst ev
  rw [eH] at I1
  obtain rfl : u = Value.ref f := r1
  refine Calls.spliced_nil ⟨I1.kIn, ?_⟩
  obtain ⟨⟨pm', ctv, hobj⟩, _, _⟩ := I1.hok f _ hf
  have I2 := inv_forget I1 hf
  have J : Inv X pins σ (del HB f) s1 := I.call' (ch := fp) I2.os I2.base I2.hok I2.bare fun b hb => ⟨(hfp b hb).2.2.2.1, (hfp b hb).2.1, (hfp b hb).2.2.2.2.1, (hfp b hb).2.2.2.2.2⟩
  have nfr : f ∉ frs X.stack := fun z => by
    have := J.stkFree f z
    have z2 := I1.stkFree f z
    rw [hf] at z2
    cases z2
  have hc2 : del HB f c' = some (LamX.CodeO c' (X.env.qual ++ "<lambda>")) := by
    rw [del_ne hcf]
    exact hc
  have rc : codeAny (model X.prog X.w) X.A (.call (.ref g) ⟨[.ref f], []⟩) (CR CX0 X.stack X.prog X.w (del HB f) s1 Q E0) s1 := by
    refine LamX.run_ofS (N := ["ask", "e"]) (ps := ["ask"]) (us := [.ref f]) (vs := [.ref f]) lk hcd scMet hr J.env0 (hb s1 [.ref f] J.kIn rfl) (.cons rfl .nil) rfl fun hr' => ?_
    obtain ⟨t', ht', hq'⟩ := met_gives (X := X) (g := g) (cdg := cdv) (q := X.env.qual ++ "<lambda>") M.mA M.mB M.eA M.eB M.off f c' s1 (del HB f) Q (fun E H' Q' => l.t E σ H' Q') (fun W pn xe E p1 p2 tk hW => LamX.pe_act (i := 0) J Lsc hobj del_same nfr (Lbind _ _ _ _ _) tk hW hr' (fun A outer s H hr2 => Lbody A outer s H E f c' hr2) rfl (.inl rfl)) hc2 h
    exact ⟨t', ht'.nox, hq'⟩
  refine wpAny_call (codeAny_mono rc fun r s2 hq => ?_)
  cases r with
  | error e => exact (show False from hq).elim
  | ok fl =>
    cases fl with
    | ret u => exact I2.after hq
    | next => exact False.elim hq
    | brk => exact False.elim hq
    | cont => exact False.elim hq
theorem sqL_ext {K : PySem.W.Frag} {H H' : Hp} {a : Addr} {xs : List V} (e : LamX.ExtN H H') (h : SqL K H a xs) : SqL K H' a xs :=
  h.imp (fun h => h.imp (fun h => e _ _ h (by intro x z; cases z)) (fun ⟨o, h⟩ => ⟨o, e _ _ h (by intro x z; cases z)⟩)) id

/-! ### the drafts of the law: the mathematics -/
theorem drOk_of {rs : List Row} (fine : ∀ r ∈ rs, RowFine r) (len : rs.length ≤ 900) (nod : (rs.filterMap labR).Nodup) (zero : ∀ c n m, Row.branch c n m ∈ rs → m ≠ 0 → n ∉ rs.filterMap labR) : DrOk rs := by
  refine ⟨fine, len, fun i s hi j hj hjs => ?_, fun k c n m hk hm j hj => ?_⟩
  · have h1 := labOf_some hi
    have h2 := labOf_some hjs
    have l1 : i < rs.length := (List.getElem?_eq_some_iff.mp h1).1
    have pw := List.pairwise_filterMap.mp nod
    have := List.pairwise_iff_getElem.mp pw j i (by omega) l1 hj
    have e1 : rs[i] = .label s := Option.some.inj (by rw [← List.getElem?_eq_getElem l1]; exact h1)
    have e2 : rs[j] = .label s := Option.some.inj (by rw [← List.getElem?_eq_getElem (by omega)]; exact h2)
    rw [e1, e2] at this
    exact this s rfl s rfl rfl
  · exact zero c n m (List.mem_of_getElem? hk) hm (List.mem_filterMap.mpr ⟨_, List.mem_of_getElem? (labOf_some hj), rfl⟩)
theorem rowG_fine {r : Row} (h : RowG r) : RowFine r := by
  cases r with
  | words n => exact (by have h' : n ≤ 255 := h; show n ≤ 900; omega)
  | label s =>
    obtain ⟨a, b, _⟩ := labs4_nm s h
    exact ⟨a, b⟩
  | even n => exact h
  | branch c n m =>
    obtain ⟨a, b⟩ := nmL_nm n h.2.1
    exact ⟨h.1, a, b⟩
theorem G_labs {rs : List Row} (h : DraftG rs) : ∀ s ∈ rs.filterMap labR, s ∈ labs4 := fun s hs => by
  obtain ⟨r, hr, e⟩ := List.mem_filterMap.mp hs
  have g := h.rows r hr
  rw [labR_some e] at g
  exact g
theorem cut_G {rs : List Row} (k : Nat) (h : DraftG rs) : DraftG (rs.take k ++ rs.drop (k + 1)) := by
  have sub : (rs.take k ++ rs.drop (k + 1)).Sublist rs := by
    have : (rs.take k ++ rs.drop (k + 1)).Sublist (rs.take k ++ rs.drop k) := List.Sublist.append (List.Sublist.refl _) (by rw [show rs.drop (k + 1) = (rs.drop k).drop 1 by rw [List.drop_drop]]; exact List.drop_sublist ..)
    rw [List.take_append_drop] at this
    exact this
  exact ⟨fun r hr => h.rows r (sub.subset hr), List.Nodup.sublist (sub.filterMap labR) h.nod, Nat.le_trans sub.length_le h.len⟩
theorem drOk_ins {rs : List Row} {r : Row} (a : Nat) (h : DraftG rs) (hf : RowFine r) (hl : ∀ s, labR r = some s → s ∉ labs4) (hb : ∀ c n m, r = .branch c n m → m ≠ 0 → n ∉ labs4) (hz : ∀ c n m, Row.branch c n m ∈ rs → m ≠ 0 → labR r ≠ some n) : DrOk (insR rs a r) := by
  have pm := ins_perm rs a r
  have fm := pm.filterMap labR
  have lb := G_labs h
  refine drOk_of (fun x hx => ?_) ?_ ?_ fun c n m hm h0 hn => ?_
  · rcases List.mem_cons.mp (pm.mem_iff.mp hx) with z | z
    · rw [z]; exact hf
    · exact rowG_fine (h.rows x z)
  · have := pm.length_eq
    have l := h.len
    rw [List.length_cons] at this
    unfold insR
    omega
  · unfold insR
    refine fm.nodup_iff.mpr ?_
    rw [List.filterMap_cons]
    cases e : labR r with
    | none => exact h.nod
    | some s => exact List.nodup_cons.mpr ⟨fun z => hl s e (lb s z), h.nod⟩
  · have hn2 : n ∈ (r :: rs).filterMap labR := fm.mem_iff.mp hn
    have cases : n ∈ rs.filterMap labR ∨ labR r = some n := by
      rw [List.filterMap_cons] at hn2
      cases e : labR r with
      | none => rw [e] at hn2; exact .inl hn2
      | some s =>
        rw [e] at hn2
        rcases List.mem_cons.mp hn2 with z | z
        · exact .inr (by rw [z])
        · exact .inl z
    rcases List.mem_cons.mp (pm.mem_iff.mp hm) with z | z
    · rcases cases with y | y
      · exact hb c n m z.symm h0 (lb n y)
      · rw [← z] at y
        cases y
    · rcases cases with y | y
      · have g := h.rows _ z
        have e : n = "away" := g.2.2 h0
        have := lb n y
        rw [e] at this
        exact absurd this (by decide +kernel)
      · exact hz c n m z h0 y
theorem cut_put (rcs : List RowC) {k : Nat} (hk : k ≤ rcs.length) (rc : RowC) : cutC (putC rcs k rc) k = rcs := by
  unfold cutC putC
  have l : (rcs.take k).length = k := by rw [List.length_take]; omega
  have e1 : (rcs.take k ++ [rc] ++ rcs.drop k).take k = rcs.take k := by
    rw [List.append_assoc]
    exact List.take_left' l
  have e2 : (rcs.take k ++ [rc] ++ rcs.drop k).drop (k + 1) = rcs.drop k := List.drop_left' (by rw [List.length_append, l, List.length_singleton])
  rw [e1, e2, List.take_append_drop]
theorem rsC_put (rcs : List RowC) (k : Nat) (rc : RowC) : rsC (putC rcs k rc) = insR (rsC rcs) k rc.r := rsC_ins rcs k rc
theorem rsC_cut (rcs : List RowC) (k : Nat) : rsC (cutC rcs k) = (rsC rcs).take k ++ (rsC rcs).drop (k + 1) := by
  unfold cutC rsC
  rw [List.map_append, List.map_take, List.map_drop]
theorem in_raw : ∀ {rcs : List RowC}, (∀ r ∈ rsC rcs, RowFine r) → Each2 InD (rcs.map rowR) (rcs.map some)
  | [], _ => .nil
  | rc :: rcs, f => .cons (.raw (f _ (List.mem_cons_self ..))) (in_raw fun r hr => f r (List.mem_cons_of_mem _ hr))
/-- Draft(..) of right rows -/
theorem mk_tail {K : PySem.W.Frag} {C CB : Addr} {H : Hp} {Q : Addr → Hp → Prop} {rcs : List RowC} {L : Addr} {xs : List V} (ok : DrOk (rsC rcs)) (hL : SqL K H L xs) (hd : DpAll K H xs (rcs.map rowR)) (q : ∀ H2 x, Same H H2 → DraftV K H2 C x rcs → Q x H2) :
    ∀ x dx, H x = none → H dx = none → dx ≠ x → spInit K C CB (.ref x :: ([.ref L] ++ [])) (upd (upd H dx (.own x)) x (.ins C dx [])) (fun v H2 => v = .non ∧ Q x H2) (fun _ _ _ => False) := by
  intro x dx hx hdx hne
  have s9 := (same_new (o := .own x) hdx).trans (same_new (o := .ins C dx []) (H := upd H dx (.own x)) (by rw [upd_ne hne.symm]; exact hx))
  refine ⟨x, L, dx, xs, rcs.map rowR, rcs.map some, rfl, upd_same, .inl (sqL_same s9 hL), dps_same s9 hd, in_raw ok.fine, ?_, fun rcs' e okn H' kp hd9 => ⟨rfl, ?_⟩, fun ng => absurd ⟨rcs, rfl, ok⟩ ng⟩
  · have := ok.len
    rw [List.length_map] at this
    rw [List.length_map]
    exact this
  · have e2 : rcs' = rcs := ((List.map_inj_right fun a b h => Option.some.inj h).mp e).symm
    subst e2
    exact q H' x (fun b u hb => kp b u (ne_of_none hb hx) (s9 _ _ hb)) hd9
theorem pe_makeD {X : Cx} {C CB : Addr} {p pos : Pos} {e : Expr} {es : List Expr} {t : TA} (M : MkD X.prog X.w X.K X.mg X.base C CB) (hr : Room 8 X.A) (hg : Gl X "Draft") (ha : PA X (e :: es) t)
    (he : starEach (e :: es) X.env = (false, eval e X.env) :: starEach es X.env := by rfl) (hpl : (backTo pos (starEach es X.env)).any (·.1) = false := by rfl) : PE X (.Call (.Name "Draft" p) (e :: es) [] pos) (tMake C (spInit X.K C CB) [] (fun _ _ _ => False) t) := by
  obtain ⟨f, fd, mk, b, F⟩ := M.ex
  exact pe_make mk F hr hg M.g b .nil passF ha (by decide) he hpl
/-! ### the law -/
abbrev sLaw : Stmt := topS 55
abbrev NL : List Str := ["script", "rows", "at", "spot", "label", "some", "barred", "found", "later", "asks", "draws", "made", "mixed", "odd", "other", "row", "one", "ask"]
theorem scLaw : FnScope NL ["script"] (defScope sLaw) := ⟨rfl, rfl, rfl, by decide +kernel, rfl, by decide +kernel, by decide +kernel⟩
abbrev lb (i : Nat) : Stmt := (defBody sLaw).getD i (.Pass ⟨0, 0, 0, 0⟩)
abbrev qLaw : Str := (envOfC "law" (defScope sLaw) 0 0 .none).qual ++ "<lambda>"
/-- what the law calls -/
structure TL (P : Program) (w : World) (K : PySem.W.Frag) (mg : Str → Option Value) (base : Heap) (C CA CB fe : Addr) : Prop where
  bi : Bi mg
  cell : Has P w K mg base CX0 1 "_law_cell" ["script", "k"] (spLCell K)
  row : Has P w K mg base CX0 1 "_law_row" ["cell", "sizes"] (spLRow K)
  draft : Has P w K mg base CX0 2 "_law_draft" ["cell", "most", "is_even"] (spLDraft K)
  right : Has P w K mg base CX0 8 "_law_room_right" ["made", "rows", "at"] (spLRr K C)
  regr : Has P w K mg base CX0 8 "_law_regrown" ["rows", "at", "row"] (spLRe K)
  same3 : Has P w K mg base CX0 4 "_law_same" ["found", "due"] (spSame K 3)
  same4 : Has P w K mg base CX0 5 "_law_same" ["found", "due"] (spSame K 4)
  met : Met K mg CA CB
  drc : DrC K C
  drq : DrQ K C fe
  mkd : MkD P w K mg base C CB
  room : HasM P w K mg base (L2.CX P w) 6 C "room" ["self", "at"] (spRoom K C CA)
  put : HasM P w K mg base (L2.CX P w) 9 C "put" ["self", "at", "row"] (spPut K C CB CA)
  without : HasM P w K mg base (L2.CX P w) 9 C "without" ["self", "at"] (spWithout K C CA)
  regrown : HasM P w K mg base (L2.CX P w) 10 C "regrown" ["self", "at", "row"] (spRegrown K C CB CA)
  eq : ∃ fd : FuncData, FnOk P w K mg base CX0 1 fe fd ["self", "other"] (spEq (RD K C)) ∧ Binds K fd ["self", "other"] []
abbrev XL (P : Program) (w : World) (K : PySem.W.Frag) (mg : Str → Option Value) (base : Heap) (f c : Addr) (A : Around) (outer : List Env) (s : Shared) (H : Hp) (E : XK) : Cx := cxOf (L2.CX P w) P w K mg base NL "law" (defScope sLaw) f (.ref c) A outer s H E
abbrev sg (sc : Addr) (o1 o2 o3 o4 o5 o6 o7 o8 o9 o10 o11 o12 o13 o14 o15 : Option V) : L2.St := [some (.ref sc), o1, o2, o3, o4, o5, o6, o7, o8, o9, o10, o11, o12, o13, o14, o15, none, none]
def szK : List Int := [14, 8, 10, 12, 14]
theorem szK_ok : SizesOk szK := ⟨by decide, by decide⟩
theorem drawn_at {sz out : List Int} (h : Drawn sz out) {i : Nat} {z : Int} (hz : sz[i]? = some z) : ∃ d : Int, (out.map V.int)[i]? = some (.int d) ∧ 0 ≤ d ∧ d < z := by
  obtain ⟨d, h1, h2, h3⟩ := h.2 i z hz
  exact ⟨d, by rw [List.getElem?_map, h1]; rfl, h2, h3⟩
/-- drawn rows in a list -/
structure RowsIn (K : PySem.W.Frag) (H : Hp) (l : Addr) (xs : List V) (rcs : List RowC) : Prop where
  lst : H l = some (.lst xs)
  dat : DpAll K H xs (rcs.map rowR)
theorem RowsIn.same {K : PySem.W.Frag} {H H' : Hp} {l : Addr} {xs : List V} {rcs : List RowC} (h : RowsIn K H l xs rcs) (e : Same H H') : RowsIn K H' l xs rcs := ⟨e _ _ h.lst, dps_same e h.dat⟩
theorem RowsIn.len {K : PySem.W.Frag} {H : Hp} {l : Addr} {xs : List V} {rcs : List RowC} (h : RowsIn K H l xs rcs) : xs.length = rcs.length := by
  rw [dps_len h.dat, List.length_map]
theorem RowsIn.rows {K : PySem.W.Frag} {H : Hp} {l : Addr} {xs : List V} {rcs : List RowC} (h : RowsIn K H l xs rcs) (hl : rcs.length ≤ 900) : LRows K H l xs (rsC rcs) := ⟨SqL.of h.lst, datR_rows h.dat, by rw [List.length_map]; exact hl⟩
/-- what is known of the drawn rows and the draft -/
structure DrW (rcs : List RowC) : Prop where
  G : DraftG (rsC rcs)
  len : rcs.length ≤ 13
  labs : ∀ z ∈ labs4, z ∈ (rsC rcs).filterMap labR
theorem DrW.ok {rcs : List RowC} (h : DrW rcs) : ∀ r ∈ rsC rcs, RowOk r := fun r hr => fine_ok (rowG_fine (h.G.rows r hr))
section
variable {P : Program} {w : World} {K : PySem.W.Frag} {mg : Str → Option Value} {base : Heap} {C CA CB fe f c : Addr} {A : Around} {outer : List Env} {s : Shared} {H0 : Hp} {E : XK}
theorem st0 (L : TL P w K mg base C CA CB fe) (hr : Room 13 (XL P w K mg base f c A outer s H0 E).A) : ∃ t, PS (XL P w K mg base f c A outer s H0 E) (lb 0) t ∧
    ∀ (D : Ends) (H : Hp) (sc : Addr) (ns : List Int) (o1 o2 o3 o4 o5 o6 o7 o8 o9 o10 o11 o12 o13 o14 o15 : Option V), SqL K H sc (ns.map V.int) →
      (∀ H' d out, Same H H' → H' d = some (.lst (out.map V.int)) → Drawn szK out → D.nx (sg sc o1 o2 o3 o4 o5 o6 o7 o8 o9 (some (.ref d)) o11 o12 o13 o14 o15) H') →
      t D (sg sc o1 o2 o3 o4 o5 o6 o7 o8 o9 o10 o11 o12 o13 o14 o15) H := by
  refine ⟨_, ps_set (i := 10) scLaw.nd rfl (.inr rfl) (pe_callH L.row (hr.mono (by decide)) (by rfl) pass0 (pa_cons (pe_callH L.cell (hr.mono (by decide)) (by rfl) pass0 (pa_cons (pv 0) (pa_cons pe_int pa_nil))) (pa_cons (pe_lst (pa_cons pe_int (pa_cons pe_int (pa_cons pe_int (pa_cons pe_int (pa_cons pe_int pa_nil)))))) pa_nil))), ?_⟩
  intro D H sc ns o1 o2 o3 o4 o5 o6 o7 o8 o9 o10 o11 o12 o13 o14 o15 hs q
  exact ⟨_, rfl, sc, ns, 1, rfl, hs, fun n => ⟨(by show 5 ≤ sizeLine; decide), fun p hp => ⟨n, p, szK, rfl, SqL.of (by rw [upd_same]; rfl), szK_ok, fun H' d out s1 _ hd dr => q H' d out ((same_new hp).trans s1) hd dr⟩⟩⟩
theorem st1 (L : TL P w K mg base C CA CB fe) (hr : Room 13 (XL P w K mg base f c A outer s H0 E).A) : ∃ t, PS (XL P w K mg base f c A outer s H0 E) (lb 1) t ∧
    ∀ (D : Ends) (H : Hp) (sc : Addr) (ns : List Int) (o1 o2 o3 o4 o5 o6 o7 o8 o9 o10 o11 o12 o13 o14 o15 : Option V), SqL K H sc (ns.map V.int) →
      (∀ H' l xs rcs, Same H H' → RowsIn K H' l xs rcs → DrW rcs → noEven (rsC rcs) → D.nx (sg sc (some (.ref l)) o2 o3 o4 o5 o6 o7 o8 o9 o10 o11 o12 o13 o14 o15) H') →
      t D (sg sc o1 o2 o3 o4 o5 o6 o7 o8 o9 o10 o11 o12 o13 o14 o15) H := by
  refine ⟨_, ps_set (i := 1) scLaw.nd rfl (.inr rfl) (pe_callH L.draft (hr.mono (by decide)) (by rfl) pass0 (pa_cons (pe_callH L.cell (hr.mono (by decide)) (by rfl) pass0 (pa_cons (pv 0) (pa_cons pe_int pa_nil))) (pa_cons pe_int (pa_cons pe_bl pa_nil)))), ?_⟩
  intro D H sc ns o1 o2 o3 o4 o5 o6 o7 o8 o9 o10 o11 o12 o13 o14 o15 hs q
  exact ⟨_, rfl, sc, ns, 0, rfl, hs, fun n => ⟨n, false, rfl, fun H' p xs rcs s1 _ h1 h2 h3 h4 h5 h6 => q H' p xs rcs s1 ⟨h1, h2⟩ ⟨h3, h6, h5⟩ (h4 rfl)⟩⟩
theorem st2 (L : TL P w K mg base C CA CB fe) (hr : Room 13 (XL P w K mg base f c A outer s H0 E).A) : ∃ t, PS (XL P w K mg base f c A outer s H0 E) (lb 2) t ∧
    ∀ (D : Ends) (H : Hp) (sc l d : Addr) (xs : List V) (rcs : List RowC) (out : List Int) (o2 o3 o4 o5 o6 o7 o8 o9 o11 o12 o13 o14 o15 : Option V), RowsIn K H l xs rcs → DrW rcs → H d = some (.lst (out.map V.int)) → Drawn szK out →
      (∀ H' x (a : Nat), Same H H' → DraftV K H' C x rcs → a ≤ rcs.length → D.nx (sg sc (some (.ref l)) (some (.int (a : Int))) o3 o4 o5 o6 o7 o8 o9 (some (.ref d)) (some (.ref x)) o12 o13 o14 o15) H') →
      t D (sg sc (some (.ref l)) o2 o3 o4 o5 o6 o7 o8 o9 (some (.ref d)) o11 o12 o13 o14 o15) H := by
  have T := L.bi
  refine ⟨_, ps_asg (pe_tup (pa_cons (pe_makeD L.mkd (hr.mono (by decide)) (by rfl) (pa_cons (pv 1) pa_nil)) (pa_cons (pe_op op_mod (pe_ix ix_list (pv 10) pe_int (fun _ _ => rfl)) (pe_op op_add (pe_callB call_len_seq (by rfl) T.len (by decide +kernel) (pa_cons (pv 1) pa_nil)) pe_int)) pa_nil))) (pg_tup rfl (pgs_cons (pg_name (i := 11) scLaw.nd rfl (.inr rfl)) (pgs_cons (pg_name (i := 2) scLaw.nd rfl (.inl rfl)) pgs_nil))), ?_⟩
  intro D H sc l d xs rcs out o2 o3 o4 o5 o6 o7 o8 o9 o11 o12 o13 o14 o15 hR hW hd dr q
  have xl := hR.len
  obtain ⟨d0, h0, h00, h01⟩ := drawn_at dr (i := 0) (z := 14) rfl
  refine ⟨_, rfl, mk_tail (G_ok hW.G) (SqL.of hR.lst) hR.dat fun H2 x s2 hx => ?_⟩
  refine ⟨_, rfl, d, _, _, _, rfl, rfl, SqL.of (s2 _ _ hd), at_of h0, _, rfl, l, xs, rfl, .inl (SqL.of (s2 _ _ hR.lst)), _, _, rfl, rfl, _, _, rfl, rfl, by omega, (by show 2 ≤ sizeLine; decide), fun p hp => ?_⟩
  have s3 := same_new (o := .tup [V.ref x, V.int (d0 % (((xs.length : Nat) : Int) + 1))]) hp
  have e0 : 0 ≤ d0 % (((xs.length : Nat) : Int) + 1) := Int.emod_nonneg _ (by omega)
  have e1 : d0 % (((xs.length : Nat) : Int) + 1) < ((xs.length : Nat) : Int) + 1 := Int.emod_lt_of_pos _ (by omega)
  refine ⟨p, _, rfl, SqT.of upd_same, rfl, _, _, rfl, _, _, rfl, rfl, ?_⟩
  have fin := q _ x (d0 % (((xs.length : Nat) : Int) + 1)).toNat (s2.trans s3) (draftV_same s3 hx) (by omega)
  rw [Int.toNat_of_nonneg e0] at fin
  exact fin
end

section
variable {P : Program} {w : World} {K : PySem.W.Frag} {mg : Str → Option Value} {base : Heap} {C CA CB fe f c : Addr} {A : Around} {outer : List Env} {s : Shared} {H0 : Hp} {E : XK}
theorem st3 (L : TL P w K mg base C CA CB fe) (hr : Room 13 (XL P w K mg base f c A outer s H0 E).A) : ∃ t, PS (XL P w K mg base f c A outer s H0 E) (lb 3) t ∧
    ∀ (D : Ends) (H : Hp) (sc l x : Addr) (xs : List V) (rcs : List RowC) (a : Nat) (o4 o5 o6 o7 o8 o9 o10 o12 o13 o14 o15 : Option V), RowsIn K H l xs rcs → DrW rcs → noEven (rsC rcs) → DraftV K H C x rcs → a ≤ rcs.length →
      (∀ H', Same H H' → D.nx (sg sc (some (.ref l)) (some (.int (a : Int))) none o4 o5 o6 o7 o8 o9 o10 (some (.ref x)) o12 o13 o14 o15) H') →
      t D (sg sc (some (.ref l)) (some (.int (a : Int))) none o4 o5 o6 o7 o8 o9 o10 (some (.ref x)) o12 o13 o14 o15) H := by
  have T := L.bi
  refine ⟨_, ps_if (pt_not (pt_val (pe_callB (cr_all rfl) (by rfl) T.all (by decide +kernel) (pa_cons (pe_lc (own := [("spot", 3)]) (g := gName 3) (tt := tYes) (te := tCall (spLRr K C) [] E00 (tCons (tVar 11) (tCons (tVar 1) (tCons (tVar 3) tNil)))) rfl scLaw.nd (pi_tup (pe_tup (pa_cons (pv 2) (pa_cons pe_int (pa_cons (pe_callB call_len_seq (by rfl) T.len (by decide +kernel) (pa_cons (pv 1) pa_nil)) pa_nil))))) (blkOk_by (N := NL) (sc := defScope sLaw) (by decide +kernel)) (fun _ _ _ _ _ => pg_name (i := 3) scLaw.nd rfl (.inl rfl)) (fun _ _ _ _ _ => pts_nil) (fun _ _ _ _ _ => pe_callH L.right (hr.mono (by decide)) (by rfl) pass0 (pa_cons (pv 11) (pa_cons (pv 1) (pa_cons (pv 3) pa_nil))))) pa_nil)))) (pss_one (ps_ret pe_bl)) pss_nil, ?_⟩
  intro D H sc l x xs rcs a o4 o5 o6 o7 o8 o9 o10 o12 o13 o14 o15 hR hW nE hx ha q
  have xl := hR.len
  have l13 := hW.len
  refine ⟨_, rfl, _, rfl, l, xs, rfl, .inl (SqL.of hR.lst), (by show 3 ≤ sizeLine; decide), fun p hp => ⟨p, rfl, ⟨_, SqT.of upd_same⟩, fun D1 hD => ?_⟩⟩
  have s1 := same_new (o := .tup [V.int (a : Int), V.int 0, V.int (xs.length : Nat)]) hp
  have hp1 : (upd H p (.tup [V.int (a : Int), V.int 0, V.int (xs.length : Nat)])) p = some (.tup [V.int (a : Int), V.int 0, V.int (xs.length : Nat)]) := upd_same
  generalize hH1 : upd H p (.tup [V.int (a : Int), V.int 0, V.int (xs.length : Nat)]) = H1 at s1 hp1 hD
  have sk : ∀ {H4 : Hp}, (∀ b u, b ≠ D1 → H1 b = some u → H4 b = some u) → Same H1 H4 := fun kp b u z => kp b u (ne_of_none z hD) z
  have pick : ∀ (i : Nat) (z : V), [V.int (a : Int), V.int 0, V.int (xs.length : Nat)][i]? = some z → ∃ k : Nat, z = .int (k : Int) ∧ k ≤ rcs.length := fun i z hz => by
    match i, hz with
    | 0, hz => exact ⟨a, (Option.some.inj hz).symm, ha⟩
    | 1, hz => exact ⟨0, (Option.some.inj hz).symm, Nat.zero_le _⟩
    | 2, hz => exact ⟨xs.length, (Option.some.inj hz).symm, by omega⟩
    | i + 3, hz => exact absurd hz (by simp)
  refine lc_it walk_tup (fun i H4 => (∀ b u, b ≠ D1 → H1 b = some u → H4 b = some u) ∧ H4 D1 = some (.lst ((List.replicate i true).map V.bl))) ⟨fun b u hb z => by rw [upd_ne hb]; exact z, upd_same⟩ (fun i H4 _ ⟨kp, _⟩ => SqT.of (sk kp _ _ hp1)) ?_ ?_
  · rintro i z H4 H4' hi ⟨kp, hD4⟩ ⟨rfl, hz⟩
    obtain ⟨k, rfl, hk⟩ := pick i z hz
    have s4 := s1.trans (sk kp)
    have hi3 : i < 3 := hi
    refine ⟨rfl, yes_go (iteT ⟨_, rfl, _, rfl, _, rfl, x, l, rcs, xs, k, rfl, draftV_same s4 hx, (hR.same s4).rows (by omega), by omega, hW.ok, nE, hk, fun H5 s5 => ⟨_, s5 _ _ hD4, ?_, fun b u hb e => ?_, ?_⟩⟩)⟩
    · rw [List.length_map, List.length_replicate]
      exact small1000 (by omega)
    · rw [upd_ne hb]
      exact s5 _ _ (kp b u hb e)
    · rw [upd_same, List.replicate_succ', List.map_append]
      rfl
  · rintro H4 ⟨kp, hD4⟩
    refine ⟨D1, _, rfl, SqL.of hD4, ?_⟩
    rw [rep_all]
    exact ⟨_, rfl, iteF (q H4 (s1.trans (sk kp)))⟩
theorem st4 (L : TL P w K mg base C CA CB fe) (hr : Room 13 (XL P w K mg base f c A outer s H0 E).A) : ∃ t, PS (XL P w K mg base f c A outer s H0 E) (lb 4) t ∧
    ∀ (D : Ends) (H : Hp) (sc : Addr) (ns : List Int) (o1 o2 o3 o4 o5 o6 o7 o8 o9 o10 o11 o12 o13 o14 o15 : Option V), SqL K H sc (ns.map V.int) →
      (∀ H' l xs rcs, Same H H' → RowsIn K H' l xs rcs → DrW rcs → D.nx (sg sc o1 o2 o3 o4 o5 o6 o7 o8 o9 o10 o11 (some (.ref l)) o13 o14 o15) H') →
      t D (sg sc o1 o2 o3 o4 o5 o6 o7 o8 o9 o10 o11 o12 o13 o14 o15) H := by
  refine ⟨_, ps_set (i := 12) scLaw.nd rfl (.inr rfl) (pe_callH L.draft (hr.mono (by decide)) (by rfl) pass0 (pa_cons (pe_callH L.cell (hr.mono (by decide)) (by rfl) pass0 (pa_cons (pv 0) (pa_cons pe_int pa_nil))) (pa_cons pe_int (pa_cons pe_bl pa_nil)))), ?_⟩
  intro D H sc ns o1 o2 o3 o4 o5 o6 o7 o8 o9 o10 o11 o12 o13 o14 o15 hs q
  exact ⟨_, rfl, sc, ns, 2, rfl, hs, fun n => ⟨n, true, rfl, fun H' p xs rcs s1 _ h1 h2 h3 h4 h5 h6 => q H' p xs rcs s1 ⟨h1, h2⟩ ⟨h3, h6, h5⟩⟩⟩
theorem st5 (L : TL P w K mg base C CA CB fe) (hr : Room 13 (XL P w K mg base f c A outer s H0 E).A) : ∃ t, PS (XL P w K mg base f c A outer s H0 E) (lb 5) t ∧
    ∀ (D : Ends) (H : Hp) (sc l d : Addr) (xs : List V) (rcs : List RowC) (out : List Int) (o1 o2 o3 o4 o5 o6 o7 o8 o9 o11 o13 o14 o15 : Option V), RowsIn K H l xs rcs → DrW rcs → H d = some (.lst (out.map V.int)) → Drawn szK out →
      (∀ H' x (a : Nat), Same H H' → DraftV K H' C x rcs → a ≤ rcs.length → D.nx (sg sc o1 o2 (some (.int (a : Int))) o4 o5 o6 o7 o8 o9 (some (.ref d)) o11 (some (.ref l)) o13 (some (.ref x)) o15) H') →
      t D (sg sc o1 o2 o3 o4 o5 o6 o7 o8 o9 (some (.ref d)) o11 (some (.ref l)) o13 o14 o15) H := by
  have T := L.bi
  refine ⟨_, ps_asg (pe_tup (pa_cons (pe_makeD L.mkd (hr.mono (by decide)) (by rfl) (pa_cons (pv 12) pa_nil)) (pa_cons (pe_op op_mod (pe_ix ix_list (pv 10) pe_int (fun _ _ => rfl)) (pe_op op_add (pe_callB call_len_seq (by rfl) T.len (by decide +kernel) (pa_cons (pv 12) pa_nil)) pe_int)) pa_nil))) (pg_tup rfl (pgs_cons (pg_name (i := 14) scLaw.nd rfl (.inr rfl)) (pgs_cons (pg_name (i := 3) scLaw.nd rfl (.inr rfl)) pgs_nil))), ?_⟩
  intro D H sc l d xs rcs out o1 o2 o3 o4 o5 o6 o7 o8 o9 o11 o13 o14 o15 hR hW hd dr q
  have xl := hR.len
  obtain ⟨d0, h0, h00, h01⟩ := drawn_at dr (i := 4) (z := 14) rfl
  refine ⟨_, rfl, mk_tail (G_ok hW.G) (SqL.of hR.lst) hR.dat fun H2 x s2 hx => ?_⟩
  refine ⟨_, rfl, d, _, _, _, rfl, rfl, SqL.of (s2 _ _ hd), at_of h0, _, rfl, l, xs, rfl, .inl (SqL.of (s2 _ _ hR.lst)), _, _, rfl, rfl, _, _, rfl, rfl, by omega, (by show 2 ≤ sizeLine; decide), fun p hp => ?_⟩
  have s3 := same_new (o := .tup [V.ref x, V.int (d0 % (((xs.length : Nat) : Int) + 1))]) hp
  have e0 : 0 ≤ d0 % (((xs.length : Nat) : Int) + 1) := Int.emod_nonneg _ (by omega)
  have e1 : d0 % (((xs.length : Nat) : Int) + 1) < ((xs.length : Nat) : Int) + 1 := Int.emod_lt_of_pos _ (by omega)
  refine ⟨p, _, rfl, SqT.of upd_same, rfl, _, _, rfl, _, _, rfl, rfl, ?_⟩
  have fin := q _ x (d0 % (((xs.length : Nat) : Int) + 1)).toNat (s2.trans s3) (draftV_same s3 hx) (by omega)
  rw [Int.toNat_of_nonneg e0] at fin
  exact fin
theorem st6 (L : TL P w K mg base C CA CB fe) (hr : Room 13 (XL P w K mg base f c A outer s H0 E).A) : ∃ t, PS (XL P w K mg base f c A outer s H0 E) (lb 6) t ∧
    ∀ (D : Ends) (H : Hp) (sc d : Addr) (out : List Int) (o1 o2 o3 o4 o5 o6 o7 o8 o9 o11 o12 o13 o14 o15 : Option V), H d = some (.lst (out.map V.int)) → Drawn szK out →
      (∀ H' p (z : Str), Same H H' → H' p = some (.tup [.str "label", .str z]) → (z = "le" ∨ z = "away") → D.nx (sg sc o1 o2 o3 (some (.ref p)) o5 o6 o7 o8 o9 (some (.ref d)) o11 o12 o13 o14 o15) H') →
      t D (sg sc o1 o2 o3 o4 o5 o6 o7 o8 o9 (some (.ref d)) o11 o12 o13 o14 o15) H := by
  refine ⟨_, ps_set (i := 4) scLaw.nd rfl (.inl rfl) (pe_tup (pa_cons pe_str (pa_cons (pe_ix ix_list (pe_lst (pa_cons pe_str (pa_cons pe_str pa_nil))) (pe_op op_mod (pe_ix ix_list (pv 10) pe_int (fun _ _ => rfl)) pe_int) (fun _ _ => rfl)) pa_nil))), ?_⟩
  intro D H sc d out o1 o2 o3 o4 o5 o6 o7 o8 o9 o11 o12 o13 o14 o15 hd dr q
  obtain ⟨d0, h0, h00, h01⟩ := drawn_at dr (i := 3) (z := 12) rfl
  have e0 : 0 ≤ d0 % 2 := Int.emod_nonneg _ (by omega)
  have e1 : d0 % 2 < 2 := Int.emod_lt_of_pos _ (by omega)
  refine ⟨(by show 2 ≤ sizeLine; decide), fun p1 hp1 => ?_⟩
  have s1 := same_new (o := .lst [V.str "le", V.str "away"]) hp1
  obtain ⟨z, hz, hat⟩ : ∃ z : Str, (z = "le" ∨ z = "away") ∧ atI [V.str "le", V.str "away"] (d0 % 2) = some (.str z) := by
    have cs : d0 % 2 = 0 ∨ d0 % 2 = 1 := by omega
    rcases cs with e | e
    · rw [e]; exact ⟨_, .inl rfl, rfl⟩
    · rw [e]; exact ⟨_, .inr rfl, rfl⟩
  refine ⟨_, rfl, d, _, _, _, rfl, rfl, SqL.of (s1 _ _ hd), at_of h0, _, _, rfl, rfl, by omega, p1, _, _, _, rfl, rfl, SqL.of upd_same, hat, (by show 2 ≤ sizeLine; decide), fun p2 hp2 => ?_⟩
  exact q _ p2 z (s1.trans (same_new hp2)) upd_same hz
end

/-! ### the row that is put in -/
def someL (n : Nat) (z : Str) : List RowC := [.words (List.replicate n 1), .words (List.replicate 250 2), .label z, .even 16, .branch "go" "la" 0]
def moreL (z : Str) : List RowC := [.label z, .branch "call" "away" 3, .branch "ask" "ld" 0]
theorem rep_ints (n : Nat) (x : Int) : (List.replicate n [V.int x]).flatten = (List.replicate n x).map V.int := by
  induction n with
  | zero => rfl
  | succ n ih => rw [List.replicate_succ, List.flatten_cons, ih, List.replicate_succ, List.map_cons]; rfl
theorem le_out : ("le" : Str) ∉ labs4 ∧ ("away" : Str) ∉ labs4 := by decide +kernel
theorem nm_le : isNmS "le" = true ∧ ("le" : Str).length ≤ 1000 := by decide +kernel
theorem nm_away : isNmS "away" = true ∧ ("away" : Str).length ≤ 1000 := by decide +kernel
theorem nm_la : isNmS "la" = true ∧ ("la" : Str).length ≤ 1000 := by decide +kernel
theorem nm_ld : isNmS "ld" = true ∧ ("ld" : Str).length ≤ 1000 := by decide +kernel
theorem near3 : ("go" : Str) ∈ nearL ∧ ("call" : Str) ∈ nearL ∧ ("ask" : Str) ∈ nearL := by decide +kernel
/-- what is right about the row -/
structure Pick (z : Str) (rc : RowC) : Prop where
  fine : RowFine rc.r
  lab : ∀ s, labR rc.r = some s → s = z
  out : ∀ c n m, rc.r = .branch c n m → m ≠ 0 → n ∉ labs4
theorem pick_ok {n : Nat} {z : Str} (hn : n ≤ 11) (hz : z = "le" ∨ z = "away") {rc : RowC} (h : rc ∈ someL n z ++ moreL z) : Pick z rc := by
  have fz : isNmS z = true ∧ z.length ≤ 1000 := by
    rcases hz with e | e
    · rw [e]; exact nm_le
    · rw [e]; exact nm_away
  simp only [someL, moreL, List.cons_append, List.nil_append, List.mem_cons, List.mem_nil_iff, or_false] at h
  rcases h with e | e | e | e | e | e | e | e <;> subst e
  · exact ⟨(by show (List.replicate n (1 : Int)).length ≤ 900; rw [List.length_replicate]; omega), fun s e => (by cases e), fun _ _ _ e => (by cases e)⟩
  · exact ⟨(by show (List.replicate 250 (2 : Int)).length ≤ 900; rw [List.length_replicate]; omega), fun s e => (by cases e), fun _ _ _ e => (by cases e)⟩
  · exact ⟨fz, fun s e => (Option.some.inj e).symm, fun _ _ _ e => (by cases e)⟩
  · exact ⟨⟨by omega, by omega⟩, fun s e => (by cases e), fun _ _ _ e => (by cases e)⟩
  · exact ⟨⟨near3.1, nm_la⟩, fun s e => (by cases e), fun _ _ m e h0 => (by cases e; exact absurd rfl h0)⟩
  · exact ⟨fz, fun s e => (Option.some.inj e).symm, fun _ _ _ e => (by cases e)⟩
  · exact ⟨⟨near3.2.1, nm_away⟩, fun s e => (by cases e), fun _ _ m e h0 => (by cases e; exact le_out.2)⟩
  · exact ⟨⟨near3.2.2, nm_ld⟩, fun s e => (by cases e), fun _ _ m e h0 => (by cases e; exact absurd rfl h0)⟩
section
variable {P : Program} {w : World} {K : PySem.W.Frag} {mg : Str → Option Value} {base : Heap} {C CA CB fe f c : Addr} {A : Around} {outer : List Env} {s : Shared} {H0 : Hp} {E : XK}
theorem st7 (L : TL P w K mg base C CA CB fe) (hr : Room 13 (XL P w K mg base f c A outer s H0 E).A) : ∃ t, PS (XL P w K mg base f c A outer s H0 E) (lb 7) t ∧
    ∀ (D : Ends) (H : Hp) (sc d p : Addr) (z : Str) (out : List Int) (o1 o2 o3 o5 o6 o7 o8 o9 o11 o12 o13 o14 o15 : Option V), H p = some (.tup [.str "label", .str z]) → H d = some (.lst (out.map V.int)) → Drawn szK out →
      (∀ H' l ys n, Same H H' → H' l = some (.lst ys) → DpAll K H' ys ((someL n z).map rowR) → n ≤ 11 → D.nx (sg sc o1 o2 o3 (some (.ref p)) (some (.ref l)) o6 o7 o8 o9 (some (.ref d)) o11 o12 o13 o14 o15) H') →
      t D (sg sc o1 o2 o3 (some (.ref p)) o5 o6 o7 o8 o9 (some (.ref d)) o11 o12 o13 o14 o15) H := by
  refine ⟨_, ps_set (i := 5) scLaw.nd rfl (.inl rfl) (pe_lst (pa_cons (pe_tup (pa_cons pe_str (pa_cons (pe_op op_rep (pe_lst (pa_cons pe_int pa_nil)) (pe_ix ix_list (pv 10) pe_int (fun _ _ => rfl))) pa_nil))) (pa_cons (pe_tup (pa_cons pe_str (pa_cons (pe_op op_rep (pe_lst (pa_cons pe_int pa_nil)) pe_int) pa_nil))) (pa_cons (pv 4) (pa_cons (pe_tup (pa_cons pe_str (pa_cons pe_int pa_nil))) (pa_cons (pe_tup (pa_cons pe_str (pa_cons pe_str (pa_cons pe_str (pa_cons pe_int pa_nil))))) pa_nil)))))), ?_⟩
  intro D H sc d p z out o1 o2 o3 o5 o6 o7 o8 o9 o11 o12 o13 o14 o15 hp hd dr q
  obtain ⟨d0, h0, h00, h01⟩ := drawn_at dr (i := 3) (z := 12) rfl
  refine ⟨(by show 1 ≤ sizeLine; decide), fun p1 hp1 => ?_⟩
  have s1 := same_new (o := .lst [V.int 1]) hp1
  have e1 : upd H p1 (.lst [V.int 1]) p1 = some (.lst [V.int 1]) := upd_same
  generalize upd H p1 (.lst [V.int 1]) = H1 at s1 e1
  refine ⟨_, rfl, d, _, _, _, rfl, rfl, SqL.of (s1 _ _ hd), at_of h0, p1, d0, [.int 1], rfl, rfl, e1, by omega, by omega, ?_, fun p2 hp2 => ⟨(by show 2 ≤ sizeLine; decide), fun p3 hp3 => ?_⟩⟩
  · have : 1 * d0.toNat ≤ 1000 := by omega
    exact Nat.le_trans this (by decide)
  rw [rep_ints] at *
  have s2 := same_new (o := .lst ((List.replicate d0.toNat 1).map V.int)) hp2
  have s3 := same_new (o := .tup [V.str "words", V.ref p2]) hp3
  have e2 := s3 _ _ (upd_same (H := H1) (a := p2) (o := .lst ((List.replicate d0.toNat 1).map V.int)))
  have e3 : upd (upd H1 p2 (.lst ((List.replicate d0.toNat 1).map V.int))) p3 (.tup [V.str "words", V.ref p2]) p3 = some (.tup [V.str "words", V.ref p2]) := upd_same
  generalize upd (upd H1 p2 (.lst ((List.replicate d0.toNat 1).map V.int))) p3 (.tup [V.str "words", V.ref p2]) = H3 at s3 e2 e3
  refine ⟨(by show 1 ≤ sizeLine; decide), fun p4 hp4 => ?_⟩
  have s4 := same_new (o := .lst [V.int 2]) hp4
  have e4 : upd H3 p4 (.lst [V.int 2]) p4 = some (.lst [V.int 2]) := upd_same
  generalize upd H3 p4 (.lst [V.int 2]) = H4 at s4 e4
  refine ⟨p4, 250, [.int 2], rfl, rfl, e4, by omega, by omega, ?_, fun p5 hp5 => ⟨(by show 2 ≤ sizeLine; decide), fun p6 hp6 => ?_⟩⟩
  · have : 1 * 250 ≤ 1000 := by omega
    exact Nat.le_trans this (by decide)
  rw [rep_ints] at *
  have s5 := same_new (o := .lst ((List.replicate (250 : Int).toNat 2).map V.int)) hp5
  have s6 := same_new (o := .tup [V.str "words", V.ref p5]) hp6
  have e5 := s6 _ _ (upd_same (H := H4) (a := p5) (o := .lst ((List.replicate (250 : Int).toNat 2).map V.int)))
  have e6 : upd (upd H4 p5 (.lst ((List.replicate (250 : Int).toNat 2).map V.int))) p6 (.tup [V.str "words", V.ref p5]) p6 = some (.tup [V.str "words", V.ref p5]) := upd_same
  generalize upd (upd H4 p5 (.lst ((List.replicate (250 : Int).toNat 2).map V.int))) p6 (.tup [V.str "words", V.ref p5]) = H6 at s6 e5 e6
  refine ⟨_, rfl, (by show 2 ≤ sizeLine; decide), fun p7 hp7 => ⟨(by show 4 ≤ sizeLine; decide), fun p8 hp8 => ⟨(by show 5 ≤ sizeLine; decide), fun p9 hp9 => ?_⟩⟩⟩
  have s7 := same_new (o := .tup [V.str "even", V.int 16]) hp7
  have s8 := same_new (o := .tup [V.str "branch", V.str "go", V.str "la", V.int 0]) hp8
  have s9 := same_new (o := .lst [V.ref p3, V.ref p6, V.ref p, V.ref p7, V.ref p8]) hp9
  have s36 := (s4.trans s5).trans s6
  have s69 := (s7.trans s8).trans s9
  have sAll := (((s1.trans s2).trans s3).trans s36).trans s69
  refine q _ p9 _ d0.toNat sAll upd_same (.cons ?_ (.cons ?_ (.cons ?_ (.cons ?_ (.cons ?_ .nil))))) (by omega)
  · exact .tup (SqT.of (s69 _ _ (s36 _ _ e3))) (.cons (.str _) (.cons (.lst (SqL.of (s69 _ _ (s36 _ _ e2))) (dps_ints _)) .nil))
  · exact .tup (SqT.of (s69 _ _ e6)) (.cons (.str _) (.cons (.lst (SqL.of (s69 _ _ e5)) (dps_ints _)) .nil))
  · exact .tup (SqT.of (sAll _ _ hp)) (.cons (.str _) (.cons (.str _) .nil))
  · exact .tup (SqT.of (s9 _ _ (s8 _ _ upd_same))) (.cons (.str _) (.cons (.int _) .nil))
  · exact .tup (SqT.of (s9 _ _ upd_same)) (.cons (.str _) (.cons (.str _) (.cons (.str _) (.cons (.int _) .nil))))
theorem st8 (L : TL P w K mg base C CA CB fe) (hr : Room 13 (XL P w K mg base f c A outer s H0 E).A) : ∃ t, PS (XL P w K mg base f c A outer s H0 E) (lb 8) t ∧
    ∀ (D : Ends) (H : Hp) (sc d p l : Addr) (z : Str) (n : Nat) (ys : List V) (out : List Int) (o1 o2 o3 o6 o7 o8 o9 o11 o12 o13 o14 o15 : Option V), H p = some (.tup [.str "label", .str z]) → H l = some (.lst ys) → DpAll K H ys ((someL n z).map rowR) → H d = some (.lst (out.map V.int)) → Drawn szK out →
      (∀ H' v rc, Same H H' → rc ∈ someL n z ++ moreL z → Dp K H' v (rowR rc) → D.nx (sg sc o1 o2 o3 (some (.ref p)) (some (.ref l)) o6 o7 o8 o9 (some (.ref d)) o11 o12 o13 o14 (some v)) H') →
      t D (sg sc o1 o2 o3 (some (.ref p)) (some (.ref l)) o6 o7 o8 o9 (some (.ref d)) o11 o12 o13 o14 o15) H := by
  refine ⟨_, ps_set (i := 15) scLaw.nd rfl (.inr rfl) (pe_ix ix_list (pe_op op_cat (pv 5) (pe_lst (pa_cons (pv 4) (pa_cons (pe_tup (pa_cons pe_str (pa_cons pe_str (pa_cons pe_str (pa_cons pe_int pa_nil))))) (pa_cons (pe_tup (pa_cons pe_str (pa_cons pe_str (pa_cons pe_str (pa_cons pe_int pa_nil))))) pa_nil))))) (pe_ix ix_list (pv 10) pe_int (fun _ _ => rfl)) (fun _ _ => rfl)), ?_⟩
  intro D H sc d p l z n ys out o1 o2 o3 o6 o7 o8 o9 o11 o12 o13 o14 o15 hp hl hys hd dr q
  obtain ⟨d0, h0, h00, h01⟩ := drawn_at dr (i := 1) (z := 8) rfl
  have yl : ys.length = 5 := by
    rw [dps_len hys]
    rfl
  refine ⟨_, rfl, _, rfl, (by show 4 ≤ sizeLine; decide), fun p1 hp1 => ⟨(by show 4 ≤ sizeLine; decide), fun p2 hp2 => ⟨(by show 3 ≤ sizeLine; decide), fun p3 hp3 => ?_⟩⟩⟩
  have s1 := same_new (o := .tup [V.str "branch", V.str "call", V.str "away", V.int 3]) hp1
  have s2 := same_new (o := .tup [V.str "branch", V.str "ask", V.str "ld", V.int 0]) hp2
  have s3 := same_new (o := .lst [V.ref p, V.ref p1, V.ref p2]) hp3
  have s13 := (s1.trans s2).trans s3
  refine ⟨l, p3, _, _, rfl, rfl, s13 _ _ hl, upd_same, ?_, fun p4 hp4 => ?_⟩
  · rw [yl]
    show 8 ≤ sizeLine
    decide
  have s4 := same_new (o := .lst (ys ++ [V.ref p, V.ref p1, V.ref p2])) hp4
  have s14 := s13.trans s4
  have all : DpAll K (upd (upd (upd (upd H p1 (.tup [V.str "branch", V.str "call", V.str "away", V.int 3])) p2 (.tup [V.str "branch", V.str "ask", V.str "ld", V.int 0])) p3 (.lst [V.ref p, V.ref p1, V.ref p2])) p4 (.lst (ys ++ [V.ref p, V.ref p1, V.ref p2]))) (ys ++ [V.ref p, V.ref p1, V.ref p2]) ((someL n z).map rowR ++ (moreL z).map rowR) := by
    refine dps_app (dps_same s14 hys) (.cons ?_ (.cons ?_ (.cons ?_ .nil)))
    · exact .tup (SqT.of (s14 _ _ hp)) (.cons (.str _) (.cons (.str _) .nil))
    · exact .tup (SqT.of (s4 _ _ (s3 _ _ (s2 _ _ upd_same)))) (.cons (.str _) (.cons (.str _) (.cons (.str _) (.cons (.int _) .nil))))
    · exact .tup (SqT.of (s4 _ _ (s3 _ _ upd_same))) (.cons (.str _) (.cons (.str _) (.cons (.str _) (.cons (.int _) .nil))))
  obtain ⟨k, rfl⟩ := Int.eq_ofNat_of_zero_le h00
  have k8 : k < (ys ++ [V.ref p, V.ref p1, V.ref p2]).length := by
    rw [List.length_append, yl]
    show k < 5 + 3
    omega
  have hv : (ys ++ [V.ref p, V.ref p1, V.ref p2])[k]? = some (ys ++ [V.ref p, V.ref p1, V.ref p2])[k] := List.getElem?_eq_getElem k8
  generalize (ys ++ [V.ref p, V.ref p1, V.ref p2])[k] = v at hv
  obtain ⟨dd, hdd, hvd⟩ := dps_get all hv
  rw [← List.map_append, List.getElem?_map] at hdd
  cases hrc : (someL n z ++ moreL z)[k]? with
  | none => rw [hrc] at hdd; cases hdd
  | some rc =>
    rw [hrc] at hdd
    cases hdd
    exact ⟨_, rfl, d, _, _, _, rfl, rfl, SqL.of (s14 _ _ hd), at_of h0, p4, _, _, _, rfl, rfl, SqL.of upd_same, at_of hv, q _ v rc s14 (List.mem_of_getElem? hrc) hvd⟩
end

/-! ### branches that bar a label -/
def barC : RowC → Bool
  | .branch _ n m => decide (n = "away") && !decide (m = 0)
  | _ => false
theorem rowR_lay {rc : RowC} (f : RowFine rc.r) : (rowR rc).canLay0 = true := by
  cases rc with
  | words ks =>
    have h := ints_lay ks
    simp [rowR, PyData.canLay0, PyData.canLayAll0, h, str_words]
  | label s => exact rowD_lay (rc := .label s) f
  | even n => exact rowD_lay (rc := .even n) f
  | branch c n m => exact rowD_lay (rc := .branch c n m) f
theorem rowR_depth (rc : RowC) : (rowR rc).depth ≤ 9 := by
  cases rc with
  | words ks =>
    have h := ints_depth ks
    simp only [rowR, PyData.depth, PyData.depthAll]
    omega
  | label s => exact rowD_depth (.label s)
  | even n => exact rowD_depth (.even n)
  | branch c n m => exact rowD_depth (.branch c n m)
theorem rowR_shaped {rc : RowC} (f : RowFine rc.r) : SeqAt.shaped (rowR rc) = true := by
  have h := rowR_depth rc
  unfold SeqAt.shaped
  rw [Bool.and_eq_true]
  exact ⟨rowR_lay f, decide_eq_true (by omega)⟩
theorem rowsL_shaped {rcs : List RowC} (f : ∀ r ∈ rsC rcs, RowFine r) : SeqAt.shaped (.list (rcs.map rowD)) = true := by
  have h := rowsD_depth rcs
  have h1 := rowsD_lay f
  unfold SeqAt.shaped
  rw [Bool.and_eq_true]
  refine ⟨by simpa [PyData.canLay0] using h1, decide_eq_true ?_⟩
  simp only [PyData.depth]
  omega
theorem eqv_lab (rc : RowC) : PyData.eqv (rowR rc) (.tuple [.str "label", .str "away"]) = decide (labR rc.r = some ("away" : Str)) := by
  cases rc with
  | words ks => simp [rowR, PyData.eqv, PyData.eqvAll, labR, RowC.r]
  | label s =>
    by_cases h : s = "away"
    · subst h; simp [rowR, rowD, PyData.eqv, PyData.eqvAll, labR, RowC.r]
    · simp [rowR, rowD, PyData.eqv, PyData.eqvAll, labR, RowC.r, h]
  | even n => simp [rowR, rowD, PyData.eqv, PyData.eqvAll, labR, RowC.r]
  | branch c n m => simp [rowR, rowD, PyData.eqv, PyData.eqvAll, labR, RowC.r]
theorem eqv_nil (ds : List PyData) : PyData.eqv (.list ds) (.list []) = decide (ds = []) := by
  cases ds with
  | nil => simp [PyData.eqv, PyData.eqvAll]
  | cons d ds => simp [PyData.eqv, PyData.eqvAll]
theorem lab_shaped : SeqAt.shaped (.tuple [.str "label", .str "away"]) = true := by
  have := rowR_shaped (rc := .label "away") nm_away
  exact this
theorem nil_shaped : SeqAt.shaped (.list []) = true := rowsL_shaped (rcs := []) fun r hr => by cases hr
section
variable {P : Program} {w : World} {K : PySem.W.Frag} {mg : Str → Option Value} {base : Heap} {C CA CB fe f c : Addr} {A : Around} {outer : List Env} {s : Shared} {H0 : Hp} {E : XK}
theorem st9 (L : TL P w K mg base C CA CB fe) (hr : Room 13 (XL P w K mg base f c A outer s H0 E).A) : ∃ t, PS (XL P w K mg base f c A outer s H0 E) (lb 9) t ∧
    ∀ (D : Ends) (H : Hp) (sc l : Addr) (xs : List V) (rcs : List RowC) (o1 o2 o3 o4 o5 o6 o7 o8 o9 o10 o11 o13 o14 o15 : Option V), RowsIn K H l xs rcs → DrW rcs →
      (∀ H' b ys, Same H H' → H' b = some (.lst ys) → DpAll K H' ys ((rcs.filter barC).map rowD) → D.nx (sg sc o1 o2 o3 o4 o5 (some (.ref b)) o7 o8 o9 o10 o11 (some (.ref l)) o13 o14 o15) H') →
      t D (sg sc o1 o2 o3 o4 o5 o6 o7 o8 o9 o10 o11 (some (.ref l)) o13 o14 o15) H := by
  refine ⟨_, ps_setLc (i := 6) (own := [("one", 16)]) (g := gName 16) (tt := tAnd (tTest (tOp rEq (tOp (rIxT K) (tVar 16) (tC (.int 0))) (tC (.str "branch")))) (tAnd (tTest (tOp rEq (tOp (rIxT K) (tVar 16) (tC (.int 2))) (tC (.str "away")))) (tTest (tOp rNe (tOp (rIxT K) (tVar 16) (tC (.int 3))) (tC (.int 0)))))) (te := tVar 16) rfl scLaw.nd rfl rfl (sw_true rfl rfl rfl (by decide +kernel)) (pi_list (pv 12)) (blkOk_by (N := NL) (sc := defScope sLaw) (by decide +kernel)) (fun _ _ _ _ _ => pg_name (i := 16) scLaw.nd rfl (.inl rfl)) (fun _ _ _ _ _ => pts_one (PW.pt (pw_and (pt_cmpR op_eq (pe_ix ix_tup (pv 16) pe_int (fun _ _ => rfl)) pe_str (nomark _)) (pw_and (pt_cmpR op_eq (pe_ix ix_tup (pv 16) pe_int (fun _ _ => rfl)) pe_str (nomark _)) (pw_and1 (pt_cmpR op_ne (pe_ix ix_tup (pv 16) pe_int (fun _ _ => rfl)) pe_int (nomark _))))))) (fun _ _ _ _ _ => pv 16), ?_⟩
  intro D H sc l xs rcs o1 o2 o3 o4 o5 o6 o7 o8 o9 o10 o11 o13 o14 o15 hR hW q
  have xl := hR.len
  have l13 := hW.len
  refine ⟨_, rfl, l, rfl, ⟨_, SqL.of hR.lst⟩, fun D1 hD => ?_⟩
  have sk : ∀ {H4 : Hp}, (∀ b u, b ≠ D1 → H b = some u → H4 b = some u) → Same H H4 := fun kp b u z => kp b u (ne_of_none z hD) z
  refine lc_it walk_list (fun i H4 => (∀ b u, b ≠ D1 → H b = some u → H4 b = some u) ∧ ∃ ys, H4 D1 = some (.lst ys) ∧ DpAll K H ys (((rcs.take i).filter barC).map rowD) ∧ ys.length ≤ i) ⟨fun b u hb z => by rw [upd_ne hb]; exact z, [], upd_same, .nil, Nat.le_refl _⟩ (fun i H4 _ ⟨kp, _⟩ => SqL.of (sk kp _ _ hR.lst)) ?_ ?_
  · rintro i z H4 H4' hi ⟨kp, ys, hD4, hys, hyl⟩ ⟨rfl, hz⟩
    have s4 := sk kp
    obtain ⟨dd, hdd, hvd⟩ := dps_get hR.dat hz
    rw [List.getElem?_map] at hdd
    cases hrc : rcs[i]? with
    | none => rw [hrc] at hdd; cases hdd
    | some rc =>
      rw [hrc] at hdd
      cases hdd
      have hrv := dpR_rowV (dp_same s4 hvd)
      obtain ⟨ta, txs, rfl, hta, hk⟩ := rowV_tup hrv
      have no : barC rc = false → DpAll K H ys (((rcs.take (i + 1)).filter barC).map rowD) := fun e => by
        have e1 : [rc].filter barC = [] := by simp [List.filter, e]
        rw [take_snoc hrc, List.filter_append, e1, List.append_nil]
        exact hys
      refine ⟨rfl, _, rfl, ta, _, _, _, rfl, rfl, hta, at_of hk, rfl, _, rfl, ?_⟩
      cases rc with
      | words ks => exact kNe (show decide (("words" : Str) = "branch") = false by decide +kernel) (iteF ⟨kp, ys, hD4, no rfl, by omega⟩)
      | label z => exact kNe (show decide (("label" : Str) = "branch") = false by decide +kernel) (iteF ⟨kp, ys, hD4, no rfl, by omega⟩)
      | even n => exact kNe (show decide (("even" : Str) = "branch") = false by decide +kernel) (iteF ⟨kp, ys, hD4, no rfl, by omega⟩)
      | branch cc n m =>
        obtain ⟨tb, etb, htb⟩ := hrv
        cases etb
        refine kEq (show decide (("branch" : Str) = "branch") = true by decide +kernel) ⟨_, rfl, ta, _, _, _, rfl, rfl, htb, at_of (i := 2) rfl, rfl, _, rfl, ?_⟩
        by_cases c1 : n = "away"
        · refine kEq (decide_eq_true c1) ⟨_, rfl, ta, _, _, _, rfl, rfl, htb, at_of (i := 3) rfl, rfl, _, rfl, ?_⟩
          rw [intEq]
          by_cases c2 : m = 0
          · rw [decide_eq_true c2]
            exact iteF ⟨kp, ys, hD4, no (by show (decide (n = "away") && !decide (m = 0)) = false; rw [decide_eq_true c2, Bool.not_true, Bool.and_false]), by omega⟩
          · rw [decide_eq_false c2]
            refine iteT ⟨_, rfl, ys, hD4, small1000 (by omega), fun b u hb z => by rw [upd_ne hb]; exact kp b u hb z, ys ++ [.ref ta], upd_same, ?_, by rw [List.length_append, List.length_singleton]; omega⟩
            have yes : barC (.branch cc n m) = true := by show (decide (n = "away") && !decide (m = 0)) = true; rw [decide_eq_true c1, decide_eq_false c2]; rfl
            have e1 : [RowC.branch cc n m].filter barC = [.branch cc n m] := by simp [List.filter, yes]
            rw [take_snoc hrc, List.filter_append, e1, List.map_append]
            exact dps_app hys (.cons hvd .nil)
        · exact kNe (decide_eq_false c1) (iteF ⟨kp, ys, hD4, no (by show (decide (n = "away") && !decide (m = 0)) = false; rw [decide_eq_false c1]; rfl), by omega⟩)
  · rintro H4 ⟨kp, ys, hD4, hys, hyl⟩
    have tl : rcs.take xs.length = rcs := by rw [xl]; exact List.take_length
    rw [tl] at hys
    exact q H4 D1 ys (sk kp) hD4 (dps_same (sk kp) hys)
end

/-! ### a label that is barred -/
theorem sqT_ext {K : PySem.W.Frag} {H H' : Hp} {a : Addr} {xs : List V} (e : LamX.ExtN H H') (h : SqT K H a xs) : SqT K H' a xs :=
  h.imp (fun h => h.imp (fun h => e _ _ h (by intro x z; cases z)) (fun ⟨o, h⟩ => ⟨o, e _ _ h (by intro x z; cases z)⟩)) id
mutual
theorem dp_ext {K : PySem.W.Frag} {H H' : Hp} (e : LamX.ExtN H H') : ∀ {v : V} {d : PyData}, Dp K H v d → Dp K H' v d
  | _, _, .non => .non
  | _, _, .bl b => .bl b
  | _, _, .int i => .int i
  | _, _, .str x => .str x
  | _, _, .lst h t => .lst (sqL_ext e h) (dps_ext e t)
  | _, _, .tup h t => .tup (sqT_ext e h) (dps_ext e t)
theorem dps_ext {K : PySem.W.Frag} {H H' : Hp} (e : LamX.ExtN H H') : ∀ {vs : List V} {ds : List PyData}, DpAll K H vs ds → DpAll K H' vs ds
  | _, _, .nil => .nil
  | _, _, .cons h t => .cons (dp_ext e h) (dps_ext e t)
end
theorem draft_ext {K : PySem.W.Frag} {H H' : Hp} {C x : Addr} {rcs : List RowC} (e : LamX.ExtN H H') (h : DraftV K H C x rcs) : DraftV K H' C x rcs := by
  obtain ⟨ok, a1, a2, a3, a4, a5, a6, h⟩ := h
  exact ⟨ok, a1, a2, a3, a4, a5, a6, ⟨e _ _ h.ins (by intro x z; cases z), sqT_ext e h.parts, dps_ext e h.dat, sqT_ext e h.forks, e _ _ h.aims (by intro x z; cases z), sqT_ext e h.outs⟩⟩
/-- what an error of the two kinds comes to behind _law_met -/
theorem met_at {CA CB : Addr} {v : V} {Q : VK} {T : List (Addr × Str)} {H H1 : Hp} (e1 : LamX.ExtN H H1) (t1 : LamX.Tabs T H1) (q : ∀ p H', LamX.ExtN H H' → LamX.Tabs T H' → H' p = some (.tup [.str "at", v]) → Q (.ref p) H') : AtE CA v H1 (MetE CA CB Q) := fun H' dx s hdx => by
  refine .inl ⟨dx, v, rfl, rfl, upd_same, fun p hp => ?_⟩
  have s2 := (s.trans (same_new (o := .xd [("index", v)]) hdx)).trans (same_new (o := .tup [.str "at", v]) hp)
  exact q _ _ (e1.trans (LamX.ExtN.of s2)) (t1.ext s2) upd_same
theorem met_draft {CA CB : Addr} {v : V} {Q : VK} {T : List (Addr × Str)} {H H1 : Hp} (e1 : LamX.ExtN H H1) (t1 : LamX.Tabs T H1) (q : ∀ p H', LamX.ExtN H H' → LamX.Tabs T H' → H' p = some (.tup [.str "draft", v]) → Q (.ref p) H') : AtE CB v H1 (MetE CA CB Q) := fun H' dx s hdx => by
  refine .inr ⟨dx, v, rfl, rfl, upd_same, fun p hp => ?_⟩
  have s2 := (s.trans (same_new (o := .xd [("index", v)]) hdx)).trans (same_new (o := .tup [.str "draft", v]) hp)
  exact q _ _ (e1.trans (LamX.ExtN.of s2)) (t1.ext s2) upd_same
theorem not_good {rcs : List RowC} {k : Nat} {rc : RowC} (hk : k ≤ rcs.length) (h : ¬ DrOk (insR (rsC rcs) k rc.r)) : ¬ Good (rowsIn rcs k (some rc)) := by
  rintro ⟨rcs', e, ok⟩
  rw [rowsIn_some] at e
  have e2 : putC rcs k rc = rcs' := (List.map_inj_right fun a b h => Option.some.inj h).mp e
  refine h ?_
  rw [← rsC_put, e2]
  exact ok
theorem barred_no {rcs : List RowC} {k : Nat} {rc : RowC} (hk : k ≤ rcs.length) (hl : labR rc.r = some ("away" : Str)) (hb : rcs.filter barC ≠ []) : ¬ DrOk (insR (rsC rcs) k rc.r) := fun ok => by
  obtain ⟨b, hb1⟩ := List.exists_mem_of_ne_nil _ hb
  obtain ⟨h1, h2⟩ := List.mem_filter.mp hb1
  have kl : k ≤ (rsC rcs).length := by rw [List.length_map]; exact hk
  cases b with
  | branch c n m =>
    have h2' : (decide (n = "away") && !decide (m = 0)) = true := h2
    rw [Bool.and_eq_true] at h2'
    have en : n = "away" := of_decide_eq_true h2'.1
    have em : m ≠ 0 := by
      have := h2'.2
      simpa using this
    have mem : Row.branch c n m ∈ insR (rsC rcs) k rc.r := (ins_perm (rsC rcs) k rc.r).mem_iff.mpr (List.mem_cons_of_mem _ (List.mem_map.mpr ⟨_, h1, rfl⟩))
    obtain ⟨i, hi⟩ := List.getElem?_of_mem mem
    refine ok.zero i c n m hi em k ?_
    rw [labOf_at (insR_at kl), hl, en]
  | words ks => cases h2
  | label s => cases h2
  | even n => cases h2
theorem bar_none {rcs : List RowC} (h : rcs.filter barC = []) : ∀ c n m, Row.branch c n m ∈ rsC rcs → m ≠ 0 → n ≠ "away" := fun c n m hm h0 e => by
  obtain ⟨rc, h1, h2⟩ := List.mem_map.mp hm
  have : rc ∈ rcs.filter barC := by
    refine List.mem_filter.mpr ⟨h1, ?_⟩
    cases rc with
    | branch c' n' m' =>
      cases h2
      show (decide (n = "away") && !decide (m = 0)) = true
      rw [decide_eq_true e, decide_eq_false h0]
      rfl
    | words ks => cases h2
    | label s => cases h2
    | even n => cases h2
  rw [h] at this
  cases this
/-- the row may be put in -/
theorem put_ok {rcs : List RowC} {z : Str} {rc : RowC} (k : Nat) (hW : DrW rcs) (hz : z = "le" ∨ z = "away") (hp : Pick z rc) (hb : labR rc.r = some ("away" : Str) → rcs.filter barC = []) : DrOk (rsC (putC rcs k rc)) := by
  rw [rsC_put]
  refine drOk_ins k hW.G hp.fine (fun s hs => ?_) hp.out fun c n m hm h0 hl => ?_
  · rw [hp.lab s hs]
    rcases hz with e | e
    · rw [e]; exact le_out.1
    · rw [e]; exact le_out.2
  · have g := hW.G.rows _ hm
    have e : n = "away" := g.2.2 h0
    rw [e] at hl
    exact bar_none (hb hl) c n m hm h0 e
theorem sm_pair {K : PySem.W.Frag} {H : Hp} {p p' : Addr} {t : Str} {v : V} {n : Nat} (h1 : H p = some (.tup [.str t, v])) (h2 : H p' = some (.tup [.str t, v])) (hv : ∀ H', Same H H' → SmRel K (n + 1) H' v v) : SmRel K (n + 2) H (.ref p) (.ref p') :=
  ⟨_, .tup (SqT.of h1) (SqT.of h2) rfl (by show 2 ≤ 900; decide) fun H' e i x y hx hy => by
    match i, hx, hy with
    | 0, hx, hy =>
      cases hx
      cases hy
      exact ⟨_, .str t⟩
    | 1, hx, hy =>
      cases hx
      cases hy
      exact hv H' e
    | i + 2, hx, _ => exact absurd hx (by simp)⟩
abbrev ifB : Stmt → List Stmt
  | .If _ b _ _ => b
  | _ => []
abbrev lc (i j : Nat) : Stmt := (ifB (lb i)).getD j (.Pass ⟨0, 0, 0, 0⟩)
section
variable {P : Program} {w : World} {K : PySem.W.Frag} {mg : Str → Option Value} {base : Heap} {C CA CB fe f c tb : Addr} {T' : List (Addr × Str)} {A : Around} {outer : List Env} {s : Shared} {H0 : Hp} {E : XK}
theorem st10a (L : TL P w K mg base C CA CB fe) (TB : LamX.TabB base mg c tb) (hmT : (tb, qLaw) ∈ T') (hu : ∀ p ∈ T', p.1 = tb → p.2 = qLaw) (hr : Room 13 (XL P w K mg base f c A outer s H0 E).A) : ∃ t, PS (XL P w K mg base f c A outer s H0 E) (lc 10 0) t ∧
    ∀ (D : Ends) (H : Hp) (sc x : Addr) (a : Nat) (v : V) (rcs : List RowC) (rc : RowC) (o1 o2 o4 o5 o6 o7 o8 o9 o10 o11 o12 o13 : Option V), LamX.Tabs T' H → DraftV K H C x rcs → rcs.length ≤ 13 → a ≤ rcs.length → Dp K H v (rowR rc) → RowFine rc.r → ¬ DrOk (insR (rsC rcs) a rc.r) →
      (∀ H' r p, LamX.ExtN H H' → LamX.Tabs T' H' → H' r = some (.lst [.ref p]) → H' p = some (.tup [.str "draft", .int (a : Int)]) → D.nx (sg sc o1 o2 (some (.int (a : Int))) o4 o5 o6 (some (.ref r)) o8 o9 o10 o11 o12 o13 (some (.ref x)) (some v)) H') →
      t D (sg sc o1 o2 (some (.int (a : Int))) o4 o5 o6 o7 o8 o9 o10 o11 o12 o13 (some (.ref x)) (some v)) H := by
  refine ⟨_, (ps_set (i := 7) scLaw.nd rfl (.inl rfl) (pe_lst (pa_cons (pe_met (k := 10) L.met (by rfl) TB rfl hmT hu (hr.mono (by decide)) (LamX.lamS_by (show LamX.lamSB (defScope sLaw) _ = true by decide +kernel)) rfl (fun _ _ _ _ _ => rfl) fun A outer s H E f c' hr => (pe_methH L.put (pv 14) (hr.mono (by decide)) (passes_call (W := fun cls d _ H => E cls d H) (takes_of rfl rfl rfl rfl) (fun _ _ _ _ h => h)) (pa_cons (pv 3) (pa_cons (pv 15) pa_nil)))) pa_nil))), ?_⟩
  intro D H sc x a v rcs rc o1 o2 o4 o5 o6 o7 o8 o9 o10 o11 o12 o13 hT hx h13 ha hv hf bad q
  refine ⟨hT, fun H1 e1 t1 => ?_⟩
  have hx1 := draft_ext e1 hx
  obtain ⟨ok, a1, a2, a3, a4, a5, a6, h⟩ := id hx1
  refine ⟨_, rfl, x, a1, _, rfl, h.ins, rfl, _, rfl, _, rfl, x, .int (a : Int), v, .int (a : Int), rcs, rfl, hx1, by omega, .dat (.int _), .inr ⟨a, rowR rc, some rc, rfl, ha, dp_ext e1 hv, .raw hf, fun _ => met_draft e1 t1 fun p H2 e2 t2 h2 => ⟨(by show 1 ≤ sizeLine; decide), fun r hr => ?_⟩, fun rc' e okp => ?_⟩⟩
  · have s3 := same_new (o := .lst [V.ref p]) hr
    exact q _ r p (e2.trans (LamX.ExtN.of s3)) (t2.ext s3) upd_same (s3 _ _ h2)
  · cases e
    rw [rsC_put] at okp
    exact absurd okp bad
theorem st10b (L : TL P w K mg base C CA CB fe) (TB : LamX.TabB base mg c tb) (hmT : (tb, qLaw) ∈ T') (hu : ∀ p ∈ T', p.1 = tb → p.2 = qLaw) (hr : Room 13 (XL P w K mg base f c A outer s H0 E).A) : ∃ t, PS (XL P w K mg base f c A outer s H0 E) (lc 10 1) t ∧
    ∀ (D : Ends) (H : Hp) (sc x r p : Addr) (a : Nat) (v : V) (rcs : List RowC) (rc : RowC) (o1 o2 o4 o5 o6 o8 o9 o10 o11 o12 o13 : Option V), LamX.Tabs T' H → DraftV K H C x rcs → rcs.length ≤ 13 → a ≤ rcs.length → Dp K H v (rowR rc) → RowFine rc.r → ¬ DrOk (insR (rsC rcs) a rc.r) → H r = some (.lst [.ref p]) → H p = some (.tup [.str "draft", .int (a : Int)]) →
      (∀ H' p', H' r = some (.lst [.ref p, .ref p']) → H' p = some (.tup [.str "draft", .int (a : Int)]) → H' p' = some (.tup [.str "draft", .int (a : Int)]) → D.nx (sg sc o1 o2 (some (.int (a : Int))) o4 o5 o6 (some (.ref r)) o8 o9 o10 o11 o12 o13 (some (.ref x)) (some v)) H') →
      t D (sg sc o1 o2 (some (.int (a : Int))) o4 o5 o6 (some (.ref r)) o8 o9 o10 o11 o12 o13 (some (.ref x)) (some v)) H := by
  refine ⟨_, (ps_expr (pe_bm PySem.F.plainAttrs_list PySem.F.slot_list_append PySem.F.type_list_append mt_append (pv 7) (pa_cons (pe_met (k := 10) L.met (by rfl) TB rfl hmT hu (hr.mono (by decide)) (LamX.lamS_by (show LamX.lamSB (defScope sLaw) _ = true by decide +kernel)) rfl (fun _ _ _ _ _ => rfl) fun A outer s H E f c' hr => (pe_methH L.regrown (pv 14) (hr.mono (by decide)) (passes_call (W := fun cls d _ H => E cls d H) (takes_of rfl rfl rfl rfl) (fun _ _ _ _ h => h)) (pa_cons (pv 3) (pa_cons (pv 15) pa_nil)))) pa_nil))), ?_⟩
  intro D H sc x r p a v rcs rc o1 o2 o4 o5 o6 o8 o9 o10 o11 o12 o13 hT hx h13 ha hv hf bad hr hp q
  refine ⟨_, rfl, .inl ⟨rfl, _, SqL.of hr⟩, hT, fun H1 e1 t1 => ?_⟩
  have hx1 := draft_ext e1 hx
  obtain ⟨ok, a1, a2, a3, a4, a5, a6, h⟩ := id hx1
  refine ⟨_, rfl, x, a1, _, rfl, h.ins, rfl, _, rfl, _, rfl, x, .int (a : Int), v, .int (a : Int), rcs, rfl, hx1, by omega, .dat (.int _), .inr ⟨a, rowR rc, some rc, rfl, ha, dp_ext e1 hv, .raw hf, fun _ => met_draft e1 t1 fun p2 H2 e2 t2 h2 => ?_, fun rc' e okp => ?_⟩⟩
  · have hr2 := e2 _ _ hr (by intro x z; cases z)
    have hp2 := e2 _ _ hp (by intro x z; cases z)
    have n1 : p ≠ r := fun z => by rw [z, hr2] at hp2; cases hp2
    have n2 : p2 ≠ r := fun z => by rw [z, hr2] at h2; cases h2
    exact ⟨r, _, _, rfl, rfl, hr2, (by show 1 < sizeLine; decide), q _ p2 upd_same (by rw [upd_ne n1]; exact hp2) (by rw [upd_ne n2]; exact h2)⟩
  · cases e
    rw [rsC_put] at okp
    exact absurd okp bad
theorem st10c (L : TL P w K mg base C CA CB fe) (hr : Room 13 (XL P w K mg base f c A outer s H0 E).A) : ∃ t, PS (XL P w K mg base f c A outer s H0 E) (lc 10 2) t ∧
    ∀ (D : Ends) (H : Hp) (sc r p p' : Addr) (a : Nat) (o1 o2 o4 o5 o6 o8 o9 o10 o11 o12 o13 o14 o15 : Option V), H r = some (.lst [.ref p, .ref p']) → H p = some (.tup [.str "draft", .int (a : Int)]) → H p' = some (.tup [.str "draft", .int (a : Int)]) →
      (∀ H', D.rt (.bl true) H') →
      t D (sg sc o1 o2 (some (.int (a : Int))) o4 o5 o6 (some (.ref r)) o8 o9 o10 o11 o12 o13 o14 o15) H := by
  refine ⟨_, (ps_ret (pe_callH L.same3 (hr.mono (by decide)) (by rfl) pass0 (pa_cons (pv 7) (pa_cons (pe_op op_rep (pe_lst (pa_cons (pe_tup (pa_cons pe_str (pa_cons (pv 3) pa_nil))) pa_nil)) pe_int) pa_nil)))), ?_⟩
  intro D H sc r p p' a o1 o2 o4 o5 o6 o8 o9 o10 o11 o12 o13 o14 o15 hr hp hp' q
  refine ⟨_, rfl, _, rfl, (by show 2 ≤ sizeLine; decide), fun p1 hp1 => ⟨(by show 1 ≤ sizeLine; decide), fun p2 hp2 => ?_⟩⟩
  refine ⟨p2, 2, _, rfl, rfl, upd_same, by decide, by decide, (by show 1 * 2 ≤ sizeLine; decide), fun p3 hp3 => ?_⟩
  have u1 := same_new (o := .tup [V.str "draft", V.int (a : Nat)]) hp1
  have u2 := same_new (o := .lst [V.ref p1]) hp2
  have u3 := same_new (o := .lst (List.replicate (2 : Int).toNat [V.ref p1]).flatten) hp3
  have u := (u1.trans u2).trans u3
  have e1 := (u2.trans u3) _ _ (upd_same (H := H) (a := p1) (o := .tup [V.str "draft", V.int (a : Nat)]))
  have iv : ∀ {Hx : Hp}, SmRel K 1 Hx (.int (a : Int)) (.int (a : Int)) := ⟨_, .int _⟩
  refine ⟨.ref r, .ref p3, rfl, ⟨_, .lst (SqL.of (u _ _ hr)) (SqL.of upd_same) rfl (by show 2 ≤ 900; decide) fun H' e i y z hy hz => ?_⟩, fun H' _ => q H'⟩
  match i, hy, hz with
  | 0, hy, hz =>
    cases hy
    cases hz
    exact sm_pair (e _ _ (u _ _ hp)) (e _ _ e1) fun _ _ => iv
  | 1, hy, hz =>
    cases hy
    cases hz
    exact sm_pair (e _ _ (u _ _ hp')) (e _ _ e1) fun _ _ => iv
  | i + 2, hy, _ => exact absurd hy (by simp)
theorem st10 (L : TL P w K mg base C CA CB fe) (TB : LamX.TabB base mg c tb) (hmT : (tb, qLaw) ∈ T') (hu : ∀ p ∈ T', p.1 = tb → p.2 = qLaw) (hr : Room 13 (XL P w K mg base f c A outer s H0 E).A) : ∃ t, PS (XL P w K mg base f c A outer s H0 E) (lb 10) t ∧
    ∀ (D : Ends) (H : Hp) (sc x b : Addr) (a : Nat) (v : V) (z : Str) (rcs : List RowC) (rc : RowC) (ys : List V) (o1 o2 o4 o5 o7 o8 o9 o10 o11 o12 o13 : Option V), LamX.Tabs T' H → DraftV K H C x rcs → DrW rcs → a ≤ rcs.length → Dp K H v (rowR rc) → Pick z rc → H b = some (.lst ys) → DpAll K H ys ((rcs.filter barC).map rowD) →
      (∀ H', D.rt (.bl true) H') → (∀ H', Same H H' → (labR rc.r = some ("away" : Str) → rcs.filter barC = []) → D.nx (sg sc o1 o2 (some (.int (a : Int))) o4 o5 (some (.ref b)) o7 o8 o9 o10 o11 o12 o13 (some (.ref x)) (some v)) H') →
      t D (sg sc o1 o2 (some (.int (a : Int))) o4 o5 (some (.ref b)) o7 o8 o9 o10 o11 o12 o13 (some (.ref x)) (some v)) H := by
  have hu64 := hr.units
  obtain ⟨tA, pA, rA⟩ := st10a (E := E) (A := A) (outer := outer) (s := s) (H0 := H0) (f := f) (c := c) L TB hmT hu hr
  obtain ⟨tB, pB, rB⟩ := st10b (E := E) (A := A) (outer := outer) (s := s) (H0 := H0) (f := f) (c := c) L TB hmT hu hr
  obtain ⟨tC, pC, rC⟩ := st10c (E := E) (A := A) (outer := outer) (s := s) (H0 := H0) (f := f) (c := c) L hr
  refine ⟨_, ps_if (PW.pt (pw_and (pt_cmpR (op_eqD hu64) (pv 15) (pe_tup (pa_cons pe_str (pa_cons pe_str pa_nil))) (nomark _)) (pw_and1 (pt_cmpR (op_neD hu64) (pv 6) (pe_lst pa_nil) (nomark _))))) (pss_cons pA (pss_cons pB (pss_one pC))) pss_nil, ?_⟩
  intro D H sc x b a v z rcs rc ys o1 o2 o4 o5 o7 o8 o9 o10 o11 o12 o13 hT hx hW ha hv hp hb hys stop go
  have h13 := hW.len
  refine ⟨_, rfl, (by show 2 ≤ sizeLine; decide), fun p1 hp1 => ?_⟩
  have s1 := same_new (o := .tup [V.str "label", V.str "away"]) hp1
  refine ⟨rowR rc, .tuple [.str "label", .str "away"], dp_same s1 hv, .tup (SqT.of upd_same) (.cons (.str _) (.cons (.str _) .nil)), rowR_shaped hp.fine, lab_shaped, _, rfl, ?_⟩
  rw [eqv_lab]
  by_cases hl : labR rc.r = some ("away" : Str)
  · rw [decide_eq_true hl]
    refine iteT ⟨_, rfl, Nat.zero_le _, fun p2 hp2 => ?_⟩
    have s2 := same_new (o := .lst []) hp2
    have s12 := s1.trans s2
    have fineB : ∀ r ∈ rsC (rcs.filter barC), RowFine r := fun r hr => by
      obtain ⟨rc', h1, rfl⟩ := List.mem_map.mp hr
      exact rowG_fine (hW.G.rows _ (List.mem_map.mpr ⟨rc', (List.mem_filter.mp h1).1, rfl⟩))
    refine ⟨.list ((rcs.filter barC).map rowD), .list [], .lst (SqL.of (s12 _ _ hb)) (dps_same s12 hys), .lst (SqL.of upd_same) .nil, rowsL_shaped fineB, nil_shaped, _, rfl, ?_⟩
    rw [eqv_nil]
    by_cases hn : rcs.filter barC = []
    · rw [hn]
      exact iteF (go _ s12 fun _ => hn)
    · have : (!decide ((rcs.filter barC).map rowD = [])) = true := by
        rw [decide_eq_false fun z => hn (List.map_eq_nil_iff.mp z)]
        rfl
      rw [this]
      have bad := barred_no ha hl hn
      refine iteT (rA _ _ sc x a v rcs rc _ _ _ _ _ _ _ _ _ _ _ _ (hT.ext s12) (draftV_same s12 hx) h13 ha (dp_same s12 hv) hp.fine bad fun H3 r p e3 t3 hr3 hp3 => ?_)
      exact rB _ _ sc x r p a v rcs rc _ _ _ _ _ _ _ _ _ _ _ t3 (draft_ext e3 (draftV_same s12 hx)) h13 ha (dp_ext e3 (dp_same s12 hv)) hp.fine bad hr3 hp3 fun H4 p' h1 h2 h3 => rC _ _ sc r p p' a _ _ _ _ _ _ _ _ _ _ _ _ _ h1 h2 h3 stop
  · rw [decide_eq_false hl]
    exact iteF (iteF (go _ s1 fun z => absurd z hl))
end

/-! ### what is odd as a place -/
inductive OddV (H : Hp) : V → PyData → Prop
  | non : OddV H .non .none
  | int (i : Int) : (i < 0 ∨ 13 < i) → OddV H (.int i) (.int i)
  | str (z : Str) : OddV H (.str z) (.str z)
  | bl (b : Bool) : OddV H (.bl b) (.bool b)
  | lst {a : Addr} : H a = some (.lst [.int 0]) → OddV H (.ref a) (.list [.int 0])
  | dct {a : Addr} : H a = some (.dK []) → OddV H (.ref a) (.dict [])
  | tup {a : Addr} : H a = some (.tup []) → OddV H (.ref a) (.tuple [])
theorem OddV.ext {H H' : Hp} {v : V} {d : PyData} (e : LamX.ExtN H H') (h : OddV H v d) : OddV H' v d := by
  cases h with
  | non => exact .non
  | int i h => exact .int i h
  | str z => exact .str z
  | bl b => exact .bl b
  | lst h => exact .lst (e _ _ h (by intro x z; cases z))
  | dct h => exact .dct (e _ _ h (by intro x z; cases z))
  | tup h => exact .tup (e _ _ h (by intro x z; cases z))
theorem OddV.same {H H' : Hp} {v : V} {d : PyData} (e : Same H H') (h : OddV H v d) : OddV H' v d := h.ext (LamX.ExtN.of e)
theorem OddV.th {K : PySem.W.Frag} {H : Hp} {v : V} {d : PyData} (h : OddV H v d) : Th K H v d := by
  cases h with
  | non => exact .dat .non
  | int i h => exact .dat (.int i)
  | str z => exact .dat (.str z)
  | bl b => exact .dat (.bl b)
  | lst h => exact .dat (.lst (SqL.of h) (.cons (.int 0) .nil))
  | dct h => exact .dct h
  | tup h => exact .dat (.tup (SqT.of h) .nil)
theorem OddV.bad {H : Hp} {v : V} {d : PyData} (h : OddV H v d) {m : Int} (hm : m ≤ 13) : okAt d m = false := by
  cases h with
  | int i h =>
    show (decide (0 ≤ i) && decide (i ≤ m)) = false
    rcases h with h | h
    · rw [decide_eq_false (by omega), Bool.false_and]
    · rw [Bool.and_comm, decide_eq_false (by omega), Bool.false_and]
  | _ => rfl
theorem OddV.sm {K : PySem.W.Frag} {H : Hp} {v : V} {d : PyData} (h : OddV H v d) : SmRel K 2 H v v := by
  cases h with
  | non => exact ⟨_, .non⟩
  | int i h => exact ⟨_, .int i⟩
  | str z => exact ⟨_, .str z⟩
  | bl b => exact ⟨_, .bl b⟩
  | lst h =>
    refine ⟨_, .lst (SqL.of h) (SqL.of h) rfl (by show 1 ≤ 900; decide) fun H' e i x y hx hy => ?_⟩
    match i, hx, hy with
    | 0, hx, hy =>
      cases hx
      cases hy
      exact ⟨_, .int 0⟩
    | i + 1, hx, _ => exact absurd hx (by simp)
  | dct h => exact ⟨_, .dct h⟩
  | tup h => exact ⟨_, .tup (SqT.of h) (SqT.of h) rfl (by show 0 ≤ 900; decide) fun H' e i x y hx hy => absurd hx (by simp)⟩
/-- two such drafts are held to be the same -/
theorem ne_draft {K : PySem.W.Frag} {C a b : Addr} {rcs : List RowC} {H : Hp} {Q : VK} (ha : DraftV K H C a rcs) (hb : DraftV K H C b rcs) (q : ∀ H', Same H H' → Q (.bl false) H') : rNeIns C (RD K C) (.ref a) (.ref b) H Q := by
  obtain ⟨ok, dx, p, fq, d, o, ys, hx⟩ := id ha
  obtain ⟨ok', dx', p', fq', d', o', ys', hx'⟩ := id hb
  exact ⟨a, b, dx, dx', _, _, rfl, rfl, hx.ins, hx'.ins, ⟨rcs, ha, hb⟩, fun H' e => q H' e⟩
theorem dat_put {K : PySem.W.Frag} {H : Hp} {l : Addr} {xs : List V} {rcs : List RowC} {v : V} {rc : RowC} (a : Nat) (h : RowsIn K H l xs rcs) (hv : Dp K H v (rowR rc)) : DpAll K H (insV xs a v) ((putC rcs a rc).map rowR) := dps_ins a h.dat hv
theorem dat_cut {K : PySem.W.Frag} {H : Hp} {l : Addr} {xs : List V} {rcs : List RowC} (a : Nat) (h : RowsIn K H l xs rcs) : DpAll K H (xs.take a ++ xs.drop (a + 1)) ((cutC rcs a).map rowR) := by
  unfold cutC
  rw [List.map_append, List.map_take, List.map_drop]
  exact dps_app (dps_take a h.dat) (dps_drop (a + 1) h.dat)
section
variable {P : Program} {w : World} {K : PySem.W.Frag} {mg : Str → Option Value} {base : Heap} {C CA CB fe f c : Addr} {A : Around} {outer : List Env} {s : Shared} {H0 : Hp} {E : XK}
theorem st11 (L : TL P w K mg base C CA CB fe) (hr : Room 13 (XL P w K mg base f c A outer s H0 E).A) : ∃ t, PS (XL P w K mg base f c A outer s H0 E) (lb 11) t ∧
    ∀ (D : Ends) (H : Hp) (sc x : Addr) (a : Nat) (v : V) (rcs : List RowC) (rc : RowC) (o1 o2 o4 o5 o6 o7 o8 o9 o10 o11 o12 o13 : Option V), DraftV K H C x rcs → rcs.length ≤ 13 → a ≤ rcs.length → Dp K H v (rowR rc) → RowFine rc.r → DrOk (rsC (putC rcs a rc)) →
      (∀ H' x', Same H H' → DraftV K H' C x' (putC rcs a rc) → D.nx (sg sc o1 o2 (some (.int (a : Int))) o4 o5 o6 o7 (some (.ref x')) o9 o10 o11 o12 o13 (some (.ref x)) (some v)) H') →
      t D (sg sc o1 o2 (some (.int (a : Int))) o4 o5 o6 o7 o8 o9 o10 o11 o12 o13 (some (.ref x)) (some v)) H := by
  refine ⟨_, ps_set (i := 8) scLaw.nd rfl (.inl rfl) (pe_methH L.put (pv 14) (hr.mono (by decide)) passC (pa_cons (pv 3) (pa_cons (pv 15) pa_nil))), ?_⟩
  intro D H sc x a v rcs rc o1 o2 o4 o5 o6 o7 o8 o9 o10 o11 o12 o13 hx h13 ha hv hf okp q
  obtain ⟨ok, a1, a2, a3, a4, a5, a6, h⟩ := id hx
  refine ⟨_, rfl, x, a1, _, rfl, h.ins, rfl, _, rfl, _, rfl, x, .int (a : Int), v, .int (a : Int), rcs, rfl, hx, by omega, .dat (.int _), .inr ⟨a, rowR rc, some rc, rfl, ha, hv, .raw hf, fun ng => absurd ⟨_, rowsIn_some rcs a rc, okp⟩ ng, fun rc' e okp' H' x' s' hx' => ?_⟩⟩
  cases e
  exact q H' x' s' hx'
theorem st12 (L : TL P w K mg base C CA CB fe) (hr : Room 13 (XL P w K mg base f c A outer s H0 E).A) : ∃ t, PS (XL P w K mg base f c A outer s H0 E) (lb 12) t ∧
    ∀ (D : Ends) (H : Hp) (sc l x x' : Addr) (a : Nat) (v : V) (xs : List V) (rcs : List RowC) (rc : RowC) (o1 o2 o4 o5 o6 o7 o9 o10 o11 o13 : Option V), RowsIn K H l xs rcs → DrW rcs → DraftV K H C x rcs → a ≤ rcs.length → Dp K H v (rowR rc) → DrOk (rsC (putC rcs a rc)) → DraftV K H C x' (putC rcs a rc) →
      (∀ H', Same H H' → D.nx (sg sc o1 o2 (some (.int (a : Int))) o4 o5 o6 o7 (some (.ref x')) o9 o10 o11 (some (.ref l)) o13 (some (.ref x)) (some v)) H') →
      t D (sg sc o1 o2 (some (.int (a : Int))) o4 o5 o6 o7 (some (.ref x')) o9 o10 o11 (some (.ref l)) o13 (some (.ref x)) (some v)) H := by
  obtain ⟨fdq, Fq, bq⟩ := L.eq
  have hu1 : (XL P w K mg base f c A outer s H0 E).A.units + 1 < cLine := by have := hr.units; omega
  have opN : OpR (XL P w K mg base f c A outer s H0 E) (compareOp .NotEq) (rNeIns C (RD K C)) := op_neIns (n := 1) Fq L.drq bq pass0 (hr.mono (by decide)) hu1
  refine ⟨_, ps_if (PW.pt (pw_or (pt_cmpR opN (pv 8) (pe_makeD L.mkd (hr.mono (by decide)) (by rfl) (pa_cons (pe_op op_cat (pe_op op_cat (pe_slice sl_list (pv 12) po_none (po_some (pv 3))) (pe_lst (pa_cons (pv 15) pa_nil))) (pe_slice sl_list (pv 12) (po_some (pv 3)) po_none)) pa_nil)) (nomark _)) (pw_or (pt_cmpR opN (pe_methH L.without (pv 8) (hr.mono (by decide)) passC (pa_cons (pv 3) pa_nil)) (pv 14) (nomark _)) (pw_or1 (pt_cmpR opN (pv 14) (pe_makeD L.mkd (hr.mono (by decide)) (by rfl) (pa_cons (pv 12) pa_nil)) (nomark _)))))) (pss_one (ps_ret pe_bl)) pss_nil, ?_⟩
  intro D H sc l x x' a v xs rcs rc o1 o2 o4 o5 o6 o7 o9 o10 o11 o13 hR hW hx ha hv okp hx' q
  have xl := hR.len
  have l13 := hW.len
  have pl : (putC rcs a rc).length = rcs.length + 1 := by
    have := (rowsIn_len rcs a (some rc) ha)
    rw [rowsIn_some, List.length_map] at this
    exact this
  refine ⟨_, rfl, ?_⟩
  refine cat_ins (i := 12) (j := 3) rfl rfl (by omega) (SqL.of hR.lst) (by omega) fun H1 Qc s1 fin => ⟨_, rfl, fin v H1 (Same.refl H1) fun H2 p s2 hp => ?_⟩
  have s02 := s1.trans s2
  refine mk_tail okp (SqL.of hp) (dat_put a (hR.same s02) (dp_same s02 hv)) fun H3 x3 s3 hx3 => ?_
  have s03 := s02.trans s3
  refine ne_draft (draftV_same s03 hx') hx3 fun H4 s4 => ⟨_, rfl, iteF ?_⟩
  have s04 := s03.trans s4
  have hx4 := draftV_same s04 hx'
  obtain ⟨ok, a1, a2, a3, a4, a5, a6, h⟩ := id hx4
  refine ⟨_, rfl, x', a1, _, rfl, h.ins, rfl, _, rfl, x', .int (a : Int), .int (a : Int), putC rcs a rc, rfl, hx4, by omega, .dat (.int _), .inr ⟨a, rfl, by omega, by rw [cut_put rcs ha rc]; exact G_ok hW.G, fun H5 x5 s5 hx5 => ?_⟩⟩
  rw [cut_put rcs ha rc] at hx5
  have s05 := s04.trans s5
  refine ⟨_, rfl, ne_draft hx5 (draftV_same s05 hx) fun H6 s6 => ⟨_, rfl, iteF ?_⟩⟩
  have s06 := s05.trans s6
  refine ⟨_, rfl, _, rfl, mk_tail (G_ok hW.G) (SqL.of (s06 _ _ hR.lst)) (hR.same s06).dat fun H7 x7 s7 hx7 => ?_⟩
  have s07 := s06.trans s7
  exact ne_draft (draftV_same s07 hx) hx7 fun H8 s8 => ⟨_, rfl, iteF (q H8 (s07.trans s8))⟩
theorem st13 (L : TL P w K mg base C CA CB fe) (hr : Room 13 (XL P w K mg base f c A outer s H0 E).A) : ∃ t, PS (XL P w K mg base f c A outer s H0 E) (lb 13) t ∧
    ∀ (D : Ends) (H : Hp) (sc l x : Addr) (a : Nat) (v : V) (xs : List V) (rcs : List RowC) (rc : RowC) (o1 o2 o4 o5 o6 o7 o8 o9 o10 o11 o13 : Option V), RowsIn K H l xs rcs → DrW rcs → DraftV K H C x rcs → a ≤ rcs.length → Dp K H v (rowR rc) → RowFine rc.r → DrOk (rsC (putC rcs a rc)) →
      (∀ H', Same H H' → D.nx (sg sc o1 o2 (some (.int (a : Int))) o4 o5 o6 o7 o8 o9 o10 o11 (some (.ref l)) o13 (some (.ref x)) (some v)) H') →
      t D (sg sc o1 o2 (some (.int (a : Int))) o4 o5 o6 o7 o8 o9 o10 o11 (some (.ref l)) o13 (some (.ref x)) (some v)) H := by
  refine ⟨_, ps_if (pt_not (pt_val (pe_callH L.same3 (hr.mono (by decide)) (by rfl) pass0 (pa_cons (pe_methH L.regrown (pv 14) (hr.mono (by decide)) passC (pa_cons (pv 3) (pa_cons (pv 15) pa_nil))) (pa_cons (pe_callH L.regr (hr.mono (by decide)) (by rfl) pass0 (pa_cons (pv 12) (pa_cons (pv 3) (pa_cons (pv 15) pa_nil)))) pa_nil))))) (pss_one (ps_ret pe_bl)) pss_nil, ?_⟩
  intro D H sc l x a v xs rcs rc o1 o2 o4 o5 o6 o7 o8 o9 o10 o11 o13 hR hW hx ha hv hf okp q
  have l13 := hW.len
  have ll : (rsC rcs).length = rcs.length := List.length_map ..
  obtain ⟨ok, a1, a2, a3, a4, a5, a6, h⟩ := id hx
  refine ⟨_, rfl, x, a1, _, rfl, h.ins, rfl, _, rfl, _, rfl, x, .int (a : Int), v, .int (a : Int), rcs, rfl, hx, by omega, .dat (.int _), .inr ⟨a, rowR rc, some rc, rfl, ha, hv, .raw hf, fun ng => absurd ⟨_, rowsIn_some rcs a rc, okp⟩ ng, fun rc' e okp' H1 p b cc gO gN s1 grO grN hp hb hc => ?_⟩⟩
  cases e
  rw [rsC_put] at grN
  refine ⟨_, rfl, _, rfl, _, rfl, l, xs, rsC rcs, a, v, rc.r, rfl, (hR.same s1).rows (by omega), by omega, hW.ok, dpR_rowV (dp_same s1 hv), fine_ok hf, by omega, fun H2 p2 b2 c2 gO2 gN2 s2 grO2 grN2 hp2 hb2 hc2 => ?_⟩
  obtain rfl := grown_one grO grO2
  obtain rfl := grown_one grN grN2
  have smI : ∀ {Hx : Hp} {u u' : Addr} {ks : List Int}, SqT K Hx u (ks.map V.int) → SqT K Hx u' (ks.map V.int) → ks.length ≤ 900 → SmRel K 2 Hx (.ref u) (.ref u') := fun h1 h2 hl => ⟨_, .tup h1 h2 rfl (by rw [List.length_map]; exact hl) fun H' e i y z hy hz => by
    obtain ⟨n, _, rfl⟩ := int_get hy
    have : V.int n = z := Option.some.inj (hy.symm.trans hz)
    subst this
    exact ⟨_, .int n⟩⟩
  have lF : (regF (a : Int) gO gN).length ≤ 900 := by
    have g1 := grown_len grN
    rw [insR_len (rsC rcs) (by omega)] at g1
    exact Nat.le_trans (List.length_filter_le _ _) (by omega)
  have lB : (regB (a : Int) gO gN).length ≤ 900 := by
    have g1 := grown_len grO
    refine Nat.le_trans (List.length_filter_le _ _) ?_
    unfold mvI
    rw [List.length_map]
    omega
  refine ⟨_, _, rfl, ⟨_, .tup (sqT_same s2 hp) hp2 rfl (by show 2 ≤ 900; decide) fun H' e i y z hy hz => ?_⟩, fun H3 s3 => ⟨_, rfl, iteF (q H3 ((s1.trans s2).trans s3))⟩⟩
  match i, hy, hz with
  | 0, hy, hz =>
    cases hy
    cases hz
    exact smI (sqT_same e (sqT_same s2 hb)) (sqT_same e hb2) lF
  | 1, hy, hz =>
    cases hy
    cases hz
    exact smI (sqT_same e (sqT_same s2 hc)) (sqT_same e hc2) lB
  | i + 2, hy, _ => exact absurd hy (by simp)
end

section
variable {P : Program} {w : World} {K : PySem.W.Frag} {mg : Str → Option Value} {base : Heap} {C CA CB fe f c : Addr} {A : Around} {outer : List Env} {s : Shared} {H0 : Hp} {E : XK}
theorem st14 (L : TL P w K mg base C CA CB fe) (hr : Room 13 (XL P w K mg base f c A outer s H0 E).A) : ∃ t, PS (XL P w K mg base f c A outer s H0 E) (lb 14) t ∧
    ∀ (D : Ends) (H : Hp) (sc l x : Addr) (a : Nat) (xs : List V) (rcs : List RowC) (o1 o2 o4 o5 o6 o7 o8 o9 o10 o11 o13 o15 : Option V), RowsIn K H l xs rcs → DrW rcs → DraftV K H C x rcs → a ≤ rcs.length →
      (∀ H', Same H H' → D.nx (sg sc o1 o2 (some (.int (a : Int))) o4 o5 o6 o7 o8 o9 o10 o11 (some (.ref l)) o13 (some (.ref x)) o15) H') →
      t D (sg sc o1 o2 (some (.int (a : Int))) o4 o5 o6 o7 o8 o9 o10 o11 (some (.ref l)) o13 (some (.ref x)) o15) H := by
  have T := L.bi
  obtain ⟨fdq, Fq, bq⟩ := L.eq
  have hu1 : (XL P w K mg base f c A outer s H0 E).A.units + 1 < cLine := by have := hr.units; omega
  have opN : OpR (XL P w K mg base f c A outer s H0 E) (compareOp .NotEq) (rNeIns C (RD K C)) := op_neIns (n := 1) Fq L.drq bq pass0 (hr.mono (by decide)) hu1
  refine ⟨_, ps_if (PW.pt (pw_and (pt_cmpR op_lt (pv 3) (pe_callB call_len_seq (by rfl) T.len (by decide +kernel) (pa_cons (pv 12) pa_nil)) (nomark _)) (pw_and1 (pt_cmpR opN (pe_methH L.without (pv 14) (hr.mono (by decide)) passC (pa_cons (pv 3) pa_nil)) (pe_makeD L.mkd (hr.mono (by decide)) (by rfl) (pa_cons (pe_op op_cat (pe_slice sl_list (pv 12) po_none (po_some (pv 3))) (pe_slice sl_list (pv 12) (po_some (pe_op op_add (pv 3) pe_int)) po_none)) pa_nil)) (nomark _))))) (pss_one (ps_ret pe_bl)) pss_nil, ?_⟩
  intro D H sc l x a xs rcs o1 o2 o4 o5 o6 o7 o8 o9 o10 o11 o13 o15 hR hW hx ha q
  have xl := hR.len
  have l13 := hW.len
  refine ⟨_, rfl, _, rfl, l, xs, rfl, .inl (SqL.of hR.lst), _, _, rfl, rfl, _, rfl, ?_⟩
  by_cases c1 : (a : Int) < ((xs.length : Nat) : Int)
  · rw [decide_eq_true c1]
    have okc : DrOk (rsC (cutC rcs a)) := by
      rw [rsC_cut]
      exact G_ok (cut_G a hW.G)
    obtain ⟨ok, a1, a2, a3, a4, a5, a6, h⟩ := id hx
    refine iteT ⟨_, rfl, x, a1, _, rfl, h.ins, rfl, _, rfl, x, .int (a : Int), .int (a : Int), rcs, rfl, hx, by omega, .dat (.int _), .inr ⟨a, rfl, by omega, okc, fun H1 x1 s1 hx1 => ?_⟩⟩
    have eT : cutV xs none (some (a : Int)) = xs.take a := cut_to (by omega)
    have eD : cutV xs (some ((a : Int) + 1)) none = xs.drop (a + 1) := cut_from (r := a + 1) (by omega)
    refine ⟨_, rfl, _, rfl, _, rfl, l, xs, rfl, SqL.of (s1 _ _ hR.lst), fun p1 hp1 => ?_⟩
    rw [eT]
    have s2 := same_new (o := .lst (xs.take a)) hp1
    have s02 := s1.trans s2
    delta tNoPart
    refine ⟨_, rfl, _, rfl, _, _, rfl, rfl, _, rfl, l, xs, rfl, SqL.of (s02 _ _ hR.lst), fun p2 hp2 => ?_⟩
    rw [eD]
    have s3 := same_new (o := .lst (xs.drop (a + 1))) hp2
    have n12 : p1 ≠ p2 := ne_of_none upd_same hp2
    refine ⟨p1, p2, _, _, rfl, rfl, by rw [upd_ne n12]; exact upd_same, upd_same, ?_, fun p3 hp3 => ?_⟩
    · rw [List.length_take, List.length_drop]
      have : min a xs.length + (xs.length - (a + 1)) ≤ 1000 := by omega
      exact Nat.le_trans this (by decide)
    have s4 := same_new (o := .lst (xs.take a ++ xs.drop (a + 1))) hp3
    have s04 := (s02.trans s3).trans s4
    refine mk_tail okc (SqL.of upd_same) (dat_cut a (hR.same s04)) fun H5 x5 s5 hx5 => ?_
    exact ne_draft (draftV_same ((((s2.trans s3).trans s4).trans s5)) hx1) hx5 fun H6 s6 => ⟨_, rfl, iteF (q H6 ((s04.trans s5).trans s6))⟩
  · rw [decide_eq_false c1]
    exact iteF (iteF (q H (Same.refl H)))
theorem st15 (L : TL P w K mg base C CA CB fe) (hr : Room 13 (XL P w K mg base f c A outer s H0 E).A) : ∃ t, PS (XL P w K mg base f c A outer s H0 E) (lb 15) t ∧
    ∀ (D : Ends) (H : Hp) (sc d : Addr) (out : List Int) (o1 o2 o3 o4 o5 o6 o7 o8 o9 o11 o12 o13 o14 o15 : Option V), H d = some (.lst (out.map V.int)) → Drawn szK out →
      (∀ H' v dd, Same H H' → OddV H' v dd → D.nx (sg sc o1 o2 o3 o4 o5 o6 o7 o8 o9 (some (.ref d)) o11 o12 (some v) o14 o15) H') →
      t D (sg sc o1 o2 o3 o4 o5 o6 o7 o8 o9 (some (.ref d)) o11 o12 o13 o14 o15) H := by
  refine ⟨_, ps_set (i := 13) scLaw.nd rfl (.inr rfl) (pe_ix ix_list (pe_lst (pa_cons pe_non (pa_cons (pe_un un_neg pe_int) (pa_cons pe_str (pa_cons pe_bl (pa_cons (pe_lst (pa_cons pe_int pa_nil)) (pa_cons pe_dnewK (pa_cons (pe_op op_pow pe_int pe_int) (pa_cons pe_bl (pa_cons (pe_tup pa_nil) (pa_cons pe_str pa_nil))))))))))) (pe_ix ix_list (pv 10) pe_int (fun _ _ => rfl)) (fun _ _ => rfl)), ?_⟩
  intro D H sc d out o1 o2 o3 o4 o5 o6 o7 o8 o9 o11 o12 o13 o14 o15 hd dr q
  obtain ⟨d0, h0, h00, h01⟩ := drawn_at dr (i := 2) (z := 10) rfl
  refine ⟨_, rfl, (by show 1 ≤ sizeLine; decide), fun p1 hp1 => ?_⟩
  have s1 := same_new (o := .lst [V.int 0]) hp1
  have e1 : upd H p1 (.lst [V.int 0]) p1 = some (.lst [V.int 0]) := upd_same
  generalize upd H p1 (.lst [V.int 0]) = H1 at s1 e1
  refine fun p2 hp2 => ?_
  have s2 := same_new (o := .dK []) hp2
  have e2 : upd H1 p2 (.dK []) p2 = some (.dK []) := upd_same
  generalize upd H1 p2 (.dK []) = H2 at s2 e2
  refine ⟨_, _, rfl, rfl, ⟨by decide, by decide, by decide⟩, (by show 0 ≤ sizeLine; decide), fun p3 hp3 => ?_⟩
  have s3 := same_new (o := .tup []) hp3
  have e3 : upd H2 p3 (.tup []) p3 = some (.tup []) := upd_same
  generalize upd H2 p3 (.tup []) = H3 at s3 e3
  refine ⟨(by show 10 ≤ sizeLine; decide), fun p4 hp4 => ?_⟩
  have s4 := same_new (o := .lst [V.non, V.int (-1), V.str "0", V.bl true, V.ref p1, V.ref p2, V.int (10 ^ (9 : Int).toNat), V.bl false, V.ref p3, V.str ""]) hp4
  have s04 := ((s1.trans s2).trans s3).trans s4
  obtain ⟨v, dd, hat, hv⟩ : ∃ v dd, atI [V.non, V.int (-1), V.str "0", V.bl true, V.ref p1, V.ref p2, V.int (10 ^ (9 : Int).toNat), V.bl false, V.ref p3, V.str ""] d0 = some v ∧ OddV (upd H3 p4 (.lst [V.non, V.int (-1), V.str "0", V.bl true, V.ref p1, V.ref p2, V.int (10 ^ (9 : Int).toNat), V.bl false, V.ref p3, V.str ""])) v dd := by
    have cs : d0 = 0 ∨ d0 = 1 ∨ d0 = 2 ∨ d0 = 3 ∨ d0 = 4 ∨ d0 = 5 ∨ d0 = 6 ∨ d0 = 7 ∨ d0 = 8 ∨ d0 = 9 := by omega
    rcases cs with e | e | e | e | e | e | e | e | e | e <;> subst e
    · exact ⟨_, _, rfl, .non⟩
    · exact ⟨_, _, rfl, .int _ (.inl (by decide))⟩
    · exact ⟨_, _, rfl, .str _⟩
    · exact ⟨_, _, rfl, .bl _⟩
    · exact ⟨_, _, rfl, .lst (s4 _ _ (s3 _ _ (s2 _ _ e1)))⟩
    · exact ⟨_, _, rfl, .dct (s4 _ _ (s3 _ _ e2))⟩
    · exact ⟨_, _, rfl, .int _ (.inr (by decide))⟩
    · exact ⟨_, _, rfl, .bl _⟩
    · exact ⟨_, _, rfl, .tup (s4 _ _ e3)⟩
    · exact ⟨_, _, rfl, .str _⟩
  exact ⟨_, rfl, d, _, _, _, rfl, rfl, SqL.of (s04 _ _ hd), at_of h0, p4, _, _, _, rfl, rfl, SqL.of upd_same, hat, q _ v dd s04 hv⟩
end

/-! ### what stays while tables grow and single things are forgotten -/
def ExtX (H H' : Hp) : Prop := ∀ b o, H b = some o → (∀ ps, o ≠ .tbl ps) → (∀ φ, o ≠ .ext φ) → H' b = some o
theorem ExtX.of {H H' : Hp} (e : LamX.ExtN H H') : ExtX H H' := fun b o h n _ => e b o h n
theorem ExtX.same {H H' : Hp} (e : Same H H') : ExtX H H' := fun b o h _ _ => e b o h
theorem ExtX.trans {H H1 H2 : Hp} (a : ExtX H H1) (b : ExtX H1 H2) : ExtX H H2 := fun c o h n m => b c o (a c o h n m) n m
theorem ExtX.del {H : Hp} {f : Addr} {φ : Heap → Prop} (h : H f = some (.ext φ)) : ExtX H (del H f) := fun b o hb _ m => by
  rw [del_ne (fun z => by
    rw [z, h] at hb
    exact m φ (Option.some.inj hb).symm)]
  exact hb
theorem sqL_x {K : PySem.W.Frag} {H H' : Hp} {a : Addr} {xs : List V} (e : ExtX H H') (h : SqL K H a xs) : SqL K H' a xs :=
  h.imp (fun h => h.imp (fun h => e _ _ h (by intro x z; cases z) (by intro x z; cases z)) (fun ⟨o, h⟩ => ⟨o, e _ _ h (by intro x z; cases z) (by intro x z; cases z)⟩)) id
theorem sqT_x {K : PySem.W.Frag} {H H' : Hp} {a : Addr} {xs : List V} (e : ExtX H H') (h : SqT K H a xs) : SqT K H' a xs :=
  h.imp (fun h => h.imp (fun h => e _ _ h (by intro x z; cases z) (by intro x z; cases z)) (fun ⟨o, h⟩ => ⟨o, e _ _ h (by intro x z; cases z) (by intro x z; cases z)⟩)) id
mutual
theorem dp_x {K : PySem.W.Frag} {H H' : Hp} (e : ExtX H H') : ∀ {v : V} {d : PyData}, Dp K H v d → Dp K H' v d
  | _, _, .non => .non
  | _, _, .bl b => .bl b
  | _, _, .int i => .int i
  | _, _, .str x => .str x
  | _, _, .lst h t => .lst (sqL_x e h) (dps_x e t)
  | _, _, .tup h t => .tup (sqT_x e h) (dps_x e t)
theorem dps_x {K : PySem.W.Frag} {H H' : Hp} (e : ExtX H H') : ∀ {vs : List V} {ds : List PyData}, DpAll K H vs ds → DpAll K H' vs ds
  | _, _, .nil => .nil
  | _, _, .cons h t => .cons (dp_x e h) (dps_x e t)
end
theorem draft_x {K : PySem.W.Frag} {H H' : Hp} {C x : Addr} {rcs : List RowC} (e : ExtX H H') (h : DraftV K H C x rcs) : DraftV K H' C x rcs := by
  obtain ⟨ok, a1, a2, a3, a4, a5, a6, h⟩ := h
  exact ⟨ok, a1, a2, a3, a4, a5, a6, ⟨e _ _ h.ins (by intro x z; cases z) (by intro x z; cases z), sqT_x e h.parts, dps_x e h.dat, sqT_x e h.forks, e _ _ h.aims (by intro x z; cases z) (by intro x z; cases z), sqT_x e h.outs⟩⟩
theorem OddV.x {H H' : Hp} {v : V} {d : PyData} (e : ExtX H H') (h : OddV H v d) : OddV H' v d := by
  cases h with
  | non => exact .non
  | int i h => exact .int i h
  | str z => exact .str z
  | bl b => exact .bl b
  | lst h => exact .lst (e _ _ h (by intro x z; cases z) (by intro x z; cases z))
  | dct h => exact .dct (e _ _ h (by intro x z; cases z) (by intro x z; cases z))
  | tup h => exact .tup (e _ _ h (by intro x z; cases z) (by intro x z; cases z))
theorem heap_size (n : Nat) : ∃ h : Heap, h.objs.size = n := by
  induction n with
  | zero => exact ⟨{ objs := #[] }, rfl⟩
  | succ n ih =>
    obtain ⟨h, e⟩ := ih
    exact ⟨h.push { cls := .none, data := .fields #[] }, by rw [Heap.size_push, e]⟩
theorem lamO_ne {f c' a : Addr} {q q' : Str} {params : Arguments} {body : Expr} {scope : Scope} {cl : List (Str × Addr)} : LamO a c' q params body scope cl ≠ LamX.CodeO a q' := fun z => by
  obtain ⟨h, e⟩ := heap_size a
  have z2 := HO.ext.inj z
  have at' : (h.push (PySem.W.kla_obj "<lambda>" q params body scope cl .none c' .none)).get? a = some (PySem.W.kla_obj "<lambda>" q params body scope cl .none c' .none) := by
    rw [← e]
    exact Heap.get?_push_size _ rfl
  have z3 := congrFun z2 (h.push (PySem.W.kla_obj "<lambda>" q params body scope cl .none c' .none))
  have z4 : ∃ pm ctv : Value, (h.push (PySem.W.kla_obj "<lambda>" q params body scope cl .none c' .none)).get? a = some (PySem.W.kla_obj "<lambda>" q params body scope cl pm c' ctv) := ⟨_, _, at'⟩
  rw [show (∃ pm ctv : Value, (h.push (PySem.W.kla_obj "<lambda>" q params body scope cl .none c' .none)).get? a = some (PySem.W.kla_obj "<lambda>" q params body scope cl pm c' ctv)) = _ from z3] at z4
  obtain ⟨oc, vs, t, h1, h2, h3⟩ := z4
  rw [at'] at h1
  cases h1
  cases h2
theorem tabs_del {T : List (Addr × Str)} {H : Hp} {f c' : Addr} {q : Str} {params : Arguments} {body : Expr} {scope : Scope} {cl : List (Str × Addr)} (hT : LamX.Tabs T H) (hf : H f = some (LamO f c' q params body scope cl)) : LamX.Tabs T (del H f) := fun p hp => by
  obtain ⟨ps, h1, h2, h3⟩ := hT p hp
  refine ⟨ps, ?_, h2, fun pos cv hc => ?_⟩
  · rw [del_ne (fun z => by
      rw [z, hf] at h1
      cases h1)]
    exact h1
  · obtain ⟨c, e1, e2⟩ := h3 pos cv hc
    refine ⟨c, e1, ?_⟩
    rw [del_ne (fun z => by
      rw [z, hf] at e2
      exact lamO_ne (f := f) (Option.some.inj e2))]
    exact e2
theorem tabs_put {T : List (Addr × Str)} {H : Hp} {r : Addr} {fs gs : List V} (hT : LamX.Tabs T H) (hr : H r = some (.lst fs)) : LamX.Tabs T (upd H r (.lst gs)) := fun p hp => by
  obtain ⟨ps, h1, h2, h3⟩ := hT p hp
  refine ⟨ps, ?_, h2, fun pos cv hc => ?_⟩
  · rw [upd_ne (ne_of h1 hr (by intro z; cases z))]
    exact h1
  · obtain ⟨c, e1, e2⟩ := h3 pos cv hc
    refine ⟨c, e1, ?_⟩
    rw [upd_ne (ne_of e2 hr (by intro z; cases z))]
    exact e2
/-! ### the asks -/
abbrev lamPs : Expr → Arguments
  | .Lambda a _ _ _ => a
  | _ => default
abbrev lamBody : Expr → Expr
  | .Lambda _ b _ _ => b
  | e => e
abbrev lamScope : Expr → Scope
  | .Lambda _ _ s _ => s
  | _ => defScope sLaw
abbrev valE : Stmt → Expr
  | .Assign _ e _ => e
  | .Expr e _ => e
  | _ => .Constant .none 0 ⟨0, 0, 0, 0⟩
abbrev eltE : Expr → Expr
  | .List (e :: _) _ => e
  | .Call _ (e :: _) _ _ => e
  | e => e
abbrev lamEx (i : Nat) : Expr := eltE (valE (lb i))
/-- the lambda of the statement i stands at f -/
def Kept (cells : List (Str × Addr)) (i : Nat) (H : Hp) (f : Addr) : Prop := ∃ c', c' ≠ f ∧ H f = some (LamO f c' qLaw (lamPs (lamEx i)) (lamBody (lamEx i)) (lamScope (lamEx i)) (cloFrom cells (lamScope (lamEx i)).names [])) ∧ H c' = some (LamX.CodeO c' qLaw)
theorem Kept.ext {cells : List (Str × Addr)} {i : Nat} {H H' : Hp} {f : Addr} (h : Kept cells i H f) (e : LamX.ExtN H H') : Kept cells i H' f := by
  obtain ⟨c', n, h1, h2⟩ := h
  exact ⟨c', n, e _ _ h1 (by intro ps z; cases z), e _ _ h2 LamX.codeO_ne⟩
theorem Kept.put {cells : List (Str × Addr)} {i : Nat} {H : Hp} {f r : Addr} {fs gs : List V} (h : Kept cells i H f) (hr : H r = some (.lst fs)) : Kept cells i (upd H r (.lst gs)) f := by
  obtain ⟨c', n, h1, h2⟩ := h
  refine ⟨c', n, ?_, ?_⟩
  · rw [upd_ne (ne_of h1 hr (by intro z; cases z))]
    exact h1
  · rw [upd_ne (ne_of h2 hr (by intro z; cases z))]
    exact h2
theorem Kept.del {cells : List (Str × Addr)} {i j : Nat} {H : Hp} {f g : Addr} (h : Kept cells i H f) (hg : Kept cells j H g) (n : f ≠ g) : Kept cells i (del H g) f := by
  obtain ⟨c', n1, h1, h2⟩ := h
  obtain ⟨c2, n2, h3, h4⟩ := hg
  refine ⟨c', n1, ?_, ?_⟩
  · rw [del_ne n]
    exact h1
  · rw [del_ne (fun z => by
      rw [z, h3] at h2
      exact lamO_ne (f := g) (Option.some.inj h2))]
    exact h2
/-- the list of the asks: those ahead of m are forgotten -/
structure Asks (cells : List (Str × Addr)) (H : Hp) (r : Addr) (fs : List Addr) (m : Nat) : Prop where
  lst : H r = some (.lst (fs.map V.ref))
  nod : fs.Nodup
  kept : ∀ j f, fs[j]? = some f → m ≤ j → Kept cells (16 + j) H f
theorem Asks.ext {cells : List (Str × Addr)} {H H' : Hp} {r : Addr} {fs : List Addr} {m : Nat} (h : Asks cells H r fs m) (e : LamX.ExtN H H') : Asks cells H' r fs m :=
  ⟨e _ _ h.lst (by intro x z; cases z), h.nod, fun j f hj hm => (h.kept j f hj hm).ext e⟩
theorem Asks.same {cells : List (Str × Addr)} {H H' : Hp} {r : Addr} {fs : List Addr} {m : Nat} (h : Asks cells H r fs m) (e : Same H H') : Asks cells H' r fs m := h.ext (LamX.ExtN.of e)
theorem Asks.snoc {cells : List (Str × Addr)} {H : Hp} {r g : Addr} {fs : List Addr} (h : Asks cells H r fs 0) (hk : Kept cells (16 + fs.length) H g) (n : g ∉ fs) : Asks cells (upd H r (.lst (fs.map V.ref ++ [.ref g]))) r (fs ++ [g]) 0 := by
  refine ⟨by rw [upd_same, List.map_append]; rfl, List.nodup_append.mpr ⟨h.nod, List.nodup_cons.mpr ⟨by simp, List.nodup_nil⟩, fun a ha b hb => by
    rw [List.mem_singleton] at hb
    intro z
    exact n (by rw [← hb, ← z]; exact ha)⟩, fun j f hj _ => ?_⟩
  by_cases hl : j < fs.length
  · rw [List.getElem?_append_left hl] at hj
    exact (h.kept j f hj (Nat.zero_le _)).put h.lst
  · rw [List.getElem?_append_right (by omega)] at hj
    have e : j = fs.length := by
      by_cases z : j - fs.length = 0
      · omega
      · obtain ⟨k, hk⟩ := Nat.exists_eq_succ_of_ne_zero z
        rw [hk] at hj
        simp at hj
    subst e
    rw [Nat.sub_self] at hj
    cases hj
    exact hk.put h.lst
theorem Asks.del {cells : List (Str × Addr)} {H : Hp} {r g : Addr} {fs : List Addr} {m : Nat} (h : Asks cells H r fs m) (hg : fs[m]? = some g) : Asks cells (del H g) r fs (m + 1) := by
  have kg := h.kept m g hg (Nat.le_refl _)
  obtain ⟨c2, n2, h3, h4⟩ := id kg
  refine ⟨?_, h.nod, fun j f hj hm => (h.kept j f hj (by omega)).del kg fun z => ?_⟩
  · rw [del_ne (ne_of h.lst h3 (by intro z; cases z))]
    exact h.lst
  · subst z
    have l1 := (List.getElem?_eq_some_iff.mp hj)
    have l2 := (List.getElem?_eq_some_iff.mp hg)
    obtain ⟨b1, e1⟩ := l1
    obtain ⟨b2, e2⟩ := l2
    have pw := List.pairwise_iff_getElem.mp h.nod
    rcases Nat.lt_or_gt_of_ne (show j ≠ m by omega) with l | l
    · exact absurd (e1.trans e2.symm) (pw j m b1 b2 l)
    · exact absurd (e2.trans e1.symm) (pw m j b2 b1 l)
/-- all but r stays -/
def ExtF (r : Addr) (H H' : Hp) : Prop := ∀ b o, H b = some o → (∀ ps, o ≠ .tbl ps) → (∀ φ, o ≠ .ext φ) → b ≠ r → H' b = some o
/-- r is new to H -/
def NewTo (H : Hp) (r : Addr) : Prop := ∀ b o, H b = some o → (∀ ps, o ≠ .tbl ps) → b ≠ r
theorem ExtX.putr {H H1 H2 : Hp} {r : Addr} (a : ExtX H H1) (n : NewTo H r) (b : ExtF r H1 H2) : ExtX H H2 := fun d o h n1 n2 => b d o (a d o h n1 n2) n1 n2 (n d o h n1)
theorem ExtF.of {r : Addr} {H H1 : Hp} {o : HO} (e : LamX.ExtN H H1) : ExtF r H (upd H1 r o) := fun b o h n1 _ ne => by
  rw [upd_ne ne]
  exact e b o h n1
section
variable {P : Program} {w : World} {K : PySem.W.Frag} {mg : Str → Option Value} {base : Heap} {C CA CB fe f c tb : Addr} {T' : List (Addr × Str)} {A : Around} {outer : List Env} {s : Shared} {H0 : Hp} {E : XK}
theorem st16 (L : TL P w K mg base C CA CB fe) (TB : LamX.TabB base mg c tb) (hmT : (tb, qLaw) ∈ T') (hu : ∀ p ∈ T', p.1 = tb → p.2 = qLaw) : ∃ t, PS (XL P w K mg base f c A outer s H0 E) (lb 16) t ∧
    ∀ (D : Ends) (H : Hp) (sc : Addr) (o1 o2 o3 o4 o5 o6 o7 o8 o9 o10 o11 o12 o13 o14 o15 : Option V), LamX.Tabs T' H →
      (∀ H' r g, ExtX H H' → LamX.Tabs T' H' → NewTo H r → Asks (XL P w K mg base f c A outer s H0 E).env.cells H' r [g] 0 → D.nx (sg sc o1 o2 o3 o4 o5 o6 o7 o8 (some (.ref r)) o10 o11 o12 o13 o14 o15) H') →
      t D (sg sc o1 o2 o3 o4 o5 o6 o7 o8 o9 o10 o11 o12 o13 o14 o15) H := by
  refine ⟨_, ps_set (i := 9) scLaw.nd rfl (.inl rfl) (pe_lst (pa_cons (pe_lamV TB rfl hmT hu (LamX.lamS_by (show LamX.lamSB (defScope sLaw) _ = true by decide +kernel)) rfl) pa_nil)), ?_⟩
  intro D H sc o1 o2 o3 o4 o5 o6 o7 o8 o9 o10 o11 o12 o13 o14 o15 hT q
  refine ⟨hT, fun g c' H1 e1 t1 hg hc => ⟨(by show 1 ≤ sizeLine; decide), fun r hr => ?_⟩⟩
  have s2 := same_new (o := LamO g c' qLaw (lamPs (lamEx 16)) (lamBody (lamEx 16)) (lamScope (lamEx 16)) (cloFrom (XL P w K mg base f c A outer s H0 E).env.cells (lamScope (lamEx 16)).names [])) hg
  have kg : Kept (XL P w K mg base f c A outer s H0 E).env.cells 16 (upd H1 g (LamO g c' qLaw (lamPs (lamEx 16)) (lamBody (lamEx 16)) (lamScope (lamEx 16)) (cloFrom (XL P w K mg base f c A outer s H0 E).env.cells (lamScope (lamEx 16)).names []))) g :=
    ⟨c', ne_of_none hc hg, upd_same, s2 _ _ hc⟩
  have s3 := same_new (o := .lst [V.ref g]) hr
  refine q _ r g (ExtX.of (e1.trans (LamX.ExtN.of (s2.trans s3)))) ((t1.ext s2).ext s3) (fun b o hb n => ?_) ⟨upd_same, by simp, fun j x hj _ => ?_⟩
  · exact ne_of_none (s2 _ _ (e1 _ _ hb n)) hr
  · match j, hj with
    | 0, hj =>
      cases hj
      exact kg.ext (LamX.ExtN.of s3)
    | j + 1, hj => exact absurd hj (by simp)
theorem st17 (L : TL P w K mg base C CA CB fe) (TB : LamX.TabB base mg c tb) (hmT : (tb, qLaw) ∈ T') (hu : ∀ p ∈ T', p.1 = tb → p.2 = qLaw) : ∃ t, PS (XL P w K mg base f c A outer s H0 E) (lb 17) t ∧
    ∀ (D : Ends) (H : Hp) (sc r : Addr) (fs : List Addr) (o1 o2 o3 o4 o5 o6 o7 o8 o10 o11 o12 o13 o14 o15 : Option V), LamX.Tabs T' H → fs.length = 1 → Asks (XL P w K mg base f c A outer s H0 E).env.cells H r fs 0 →
      (∀ H' g, ExtF r H H' → LamX.Tabs T' H' → Asks (XL P w K mg base f c A outer s H0 E).env.cells H' r (fs ++ [g]) 0 → D.nx (sg sc o1 o2 o3 o4 o5 o6 o7 o8 (some (.ref r)) o10 o11 o12 o13 o14 o15) H') →
      t D (sg sc o1 o2 o3 o4 o5 o6 o7 o8 (some (.ref r)) o10 o11 o12 o13 o14 o15) H := by
  refine ⟨_, ps_expr (pe_bm PySem.F.plainAttrs_list PySem.F.slot_list_append PySem.F.type_list_append mt_append (pv 9) (pa_cons (pe_lamV TB rfl hmT hu (LamX.lamS_by (show LamX.lamSB (defScope sLaw) _ = true by decide +kernel)) rfl) pa_nil)), ?_⟩
  intro D H sc r fs o1 o2 o3 o4 o5 o6 o7 o8 o10 o11 o12 o13 o14 o15 hT hl hA q
  refine ⟨_, rfl, .inl ⟨rfl, _, SqL.of hA.lst⟩, hT, fun g c' H1 e1 t1 hg hc => ?_⟩
  have s2 := same_new (o := LamO g c' qLaw (lamPs (lamEx 17)) (lamBody (lamEx 17)) (lamScope (lamEx 17)) (cloFrom (XL P w K mg base f c A outer s H0 E).env.cells (lamScope (lamEx 17)).names [])) hg
  have kg : Kept (XL P w K mg base f c A outer s H0 E).env.cells 17 (upd H1 g (LamO g c' qLaw (lamPs (lamEx 17)) (lamBody (lamEx 17)) (lamScope (lamEx 17)) (cloFrom (XL P w K mg base f c A outer s H0 E).env.cells (lamScope (lamEx 17)).names []))) g :=
    ⟨c', ne_of_none hc hg, upd_same, s2 _ _ hc⟩
  have e2 := e1.trans (LamX.ExtN.of s2)
  have hA1 := hA.ext e1
  have new : g ∉ fs := fun z => by
    obtain ⟨j, hj⟩ := List.getElem?_of_mem z
    obtain ⟨c2, _, h3, _⟩ := hA1.kept j g hj (Nat.zero_le _)
    rw [hg] at h3
    cases h3
  have hA2 := hA1.same s2
  have hA3 := hA2.snoc (g := g) (by rw [hl]; exact kg) new
  exact ⟨r, _, _, rfl, rfl, hA2.lst, (by rw [List.length_map, hl]; show 1 < sizeLine; decide), q _ g (ExtF.of e2) (tabs_put (t1.ext s2) hA2.lst) hA3⟩
theorem st18 (L : TL P w K mg base C CA CB fe) (TB : LamX.TabB base mg c tb) (hmT : (tb, qLaw) ∈ T') (hu : ∀ p ∈ T', p.1 = tb → p.2 = qLaw) : ∃ t, PS (XL P w K mg base f c A outer s H0 E) (lb 18) t ∧
    ∀ (D : Ends) (H : Hp) (sc r : Addr) (fs : List Addr) (o1 o2 o3 o4 o5 o6 o7 o8 o10 o11 o12 o13 o14 o15 : Option V), LamX.Tabs T' H → fs.length = 2 → Asks (XL P w K mg base f c A outer s H0 E).env.cells H r fs 0 →
      (∀ H' g, ExtF r H H' → LamX.Tabs T' H' → Asks (XL P w K mg base f c A outer s H0 E).env.cells H' r (fs ++ [g]) 0 → D.nx (sg sc o1 o2 o3 o4 o5 o6 o7 o8 (some (.ref r)) o10 o11 o12 o13 o14 o15) H') →
      t D (sg sc o1 o2 o3 o4 o5 o6 o7 o8 (some (.ref r)) o10 o11 o12 o13 o14 o15) H := by
  refine ⟨_, ps_expr (pe_bm PySem.F.plainAttrs_list PySem.F.slot_list_append PySem.F.type_list_append mt_append (pv 9) (pa_cons (pe_lamV TB rfl hmT hu (LamX.lamS_by (show LamX.lamSB (defScope sLaw) _ = true by decide +kernel)) rfl) pa_nil)), ?_⟩
  intro D H sc r fs o1 o2 o3 o4 o5 o6 o7 o8 o10 o11 o12 o13 o14 o15 hT hl hA q
  refine ⟨_, rfl, .inl ⟨rfl, _, SqL.of hA.lst⟩, hT, fun g c' H1 e1 t1 hg hc => ?_⟩
  have s2 := same_new (o := LamO g c' qLaw (lamPs (lamEx 18)) (lamBody (lamEx 18)) (lamScope (lamEx 18)) (cloFrom (XL P w K mg base f c A outer s H0 E).env.cells (lamScope (lamEx 18)).names [])) hg
  have kg : Kept (XL P w K mg base f c A outer s H0 E).env.cells 18 (upd H1 g (LamO g c' qLaw (lamPs (lamEx 18)) (lamBody (lamEx 18)) (lamScope (lamEx 18)) (cloFrom (XL P w K mg base f c A outer s H0 E).env.cells (lamScope (lamEx 18)).names []))) g :=
    ⟨c', ne_of_none hc hg, upd_same, s2 _ _ hc⟩
  have e2 := e1.trans (LamX.ExtN.of s2)
  have hA1 := hA.ext e1
  have new : g ∉ fs := fun z => by
    obtain ⟨j, hj⟩ := List.getElem?_of_mem z
    obtain ⟨c2, _, h3, _⟩ := hA1.kept j g hj (Nat.zero_le _)
    rw [hg] at h3
    cases h3
  have hA2 := hA1.same s2
  have hA3 := hA2.snoc (g := g) (by rw [hl]; exact kg) new
  exact ⟨r, _, _, rfl, rfl, hA2.lst, (by rw [List.length_map, hl]; show 2 < sizeLine; decide), q _ g (ExtF.of e2) (tabs_put (t1.ext s2) hA2.lst) hA3⟩
theorem st19 (L : TL P w K mg base C CA CB fe) (TB : LamX.TabB base mg c tb) (hmT : (tb, qLaw) ∈ T') (hu : ∀ p ∈ T', p.1 = tb → p.2 = qLaw) : ∃ t, PS (XL P w K mg base f c A outer s H0 E) (lb 19) t ∧
    ∀ (D : Ends) (H : Hp) (sc r : Addr) (fs : List Addr) (o1 o2 o3 o4 o5 o6 o7 o8 o10 o11 o12 o13 o14 o15 : Option V), LamX.Tabs T' H → fs.length = 3 → Asks (XL P w K mg base f c A outer s H0 E).env.cells H r fs 0 →
      (∀ H' g, ExtF r H H' → LamX.Tabs T' H' → Asks (XL P w K mg base f c A outer s H0 E).env.cells H' r (fs ++ [g]) 0 → D.nx (sg sc o1 o2 o3 o4 o5 o6 o7 o8 (some (.ref r)) o10 o11 o12 o13 o14 o15) H') →
      t D (sg sc o1 o2 o3 o4 o5 o6 o7 o8 (some (.ref r)) o10 o11 o12 o13 o14 o15) H := by
  refine ⟨_, ps_expr (pe_bm PySem.F.plainAttrs_list PySem.F.slot_list_append PySem.F.type_list_append mt_append (pv 9) (pa_cons (pe_lamV TB rfl hmT hu (LamX.lamS_by (show LamX.lamSB (defScope sLaw) _ = true by decide +kernel)) rfl) pa_nil)), ?_⟩
  intro D H sc r fs o1 o2 o3 o4 o5 o6 o7 o8 o10 o11 o12 o13 o14 o15 hT hl hA q
  refine ⟨_, rfl, .inl ⟨rfl, _, SqL.of hA.lst⟩, hT, fun g c' H1 e1 t1 hg hc => ?_⟩
  have s2 := same_new (o := LamO g c' qLaw (lamPs (lamEx 19)) (lamBody (lamEx 19)) (lamScope (lamEx 19)) (cloFrom (XL P w K mg base f c A outer s H0 E).env.cells (lamScope (lamEx 19)).names [])) hg
  have kg : Kept (XL P w K mg base f c A outer s H0 E).env.cells 19 (upd H1 g (LamO g c' qLaw (lamPs (lamEx 19)) (lamBody (lamEx 19)) (lamScope (lamEx 19)) (cloFrom (XL P w K mg base f c A outer s H0 E).env.cells (lamScope (lamEx 19)).names []))) g :=
    ⟨c', ne_of_none hc hg, upd_same, s2 _ _ hc⟩
  have e2 := e1.trans (LamX.ExtN.of s2)
  have hA1 := hA.ext e1
  have new : g ∉ fs := fun z => by
    obtain ⟨j, hj⟩ := List.getElem?_of_mem z
    obtain ⟨c2, _, h3, _⟩ := hA1.kept j g hj (Nat.zero_le _)
    rw [hg] at h3
    cases h3
  have hA2 := hA1.same s2
  have hA3 := hA2.snoc (g := g) (by rw [hl]; exact kg) new
  exact ⟨r, _, _, rfl, rfl, hA2.lst, (by rw [List.length_map, hl]; show 3 < sizeLine; decide), q _ g (ExtF.of e2) (tabs_put (t1.ext s2) hA2.lst) hA3⟩
end

theorem RowsIn.x {K : PySem.W.Frag} {H H' : Hp} {l : Addr} {xs : List V} {rcs : List RowC} (h : RowsIn K H l xs rcs) (e : ExtX H H') : RowsIn K H' l xs rcs := ⟨e _ _ h.lst (by intro x z; cases z) (by intro x z; cases z), dps_x e h.dat⟩
theorem ExtX.put0 {H H1 H2 : Hp} {r : Addr} {o : HO} (a : ExtX H H2) (b : ExtX H H1) (hr : H1 r = none) : ExtX H (upd H2 r o) := fun d u h n1 n2 => by
  rw [upd_ne (ne_of_none (b d u h n1 n2) hr)]
  exact a d u h n1 n2
abbrev rLenV (K : PySem.W.Frag) : List V → Hp → VK → Prop := fun xs H Q => ∃ p ys, xs = [.ref p] ∧ (SqL K H p ys ∨ SqT K H p ys) ∧ Q (.int ys.length) H
abbrev rModQ : R2 := rI (fun _ j => 0 < j) fun i j => .int (i % j)
/-! ### the asks' lambdas -/
abbrev lpOf (i : Nat) (t : XK → TE) : LamP := ⟨lamPs (lamEx i), lamBody (lamEx i), lamScope (lamEx i), t⟩
abbrev lp16 (K : PySem.W.Frag) (C CA : Addr) : LamP := lpOf 16 fun E => tMeth C "room" (spRoom K C CA) [] E (tVar 11) (tCons (tVar 13) tNil)
abbrev lp17 (K : PySem.W.Frag) (C CA CB : Addr) : LamP := lpOf 17 fun E => tMeth C "put" (spPut K C CB CA) [] E (tVar 14) (tCons (tVar 13) (tCons (tC .non) tNil))
abbrev lp18 (K : PySem.W.Frag) (C CA : Addr) : LamP := lpOf 18 fun E => tMeth C "without" (spWithout K C CA) [] E (tVar 14) (tCons (tVar 13) tNil)
abbrev lp19 (K : PySem.W.Frag) (C CA CB : Addr) : LamP := lpOf 19 fun E => tMeth C "regrown" (spRegrown K C CB CA) [] E (tVar 14) (tCons (tVar 13) (tCons (tC .non) tNil))
abbrev lps (K : PySem.W.Frag) (C CA CB : Addr) : List LamP := [lp16 K C CA, lp17 K C CA CB, lp18 K C CA, lp19 K C CA CB]
section
variable {P : Program} {w : World} {K : PySem.W.Frag} {mg : Str → Option Value} {base : Heap} {C CA CB fe f c tb : Addr} {T' : List (Addr × Str)} {A : Around} {outer : List Env} {s : Shared} {H0 : Hp} {E : XK}
theorem lps_ok (L : TL P w K mg base C CA CB fe) : ∀ l ∈ lps K C CA CB, LamOk (XL P w K mg base f c A outer s H0 E) 10 l := fun l hl => by
  simp only [lps, List.mem_cons, List.mem_nil_iff, or_false] at hl
  rcases hl with e | e | e | e <;> subst e
  · exact ⟨LamX.lamS_by (show LamX.lamSB (defScope sLaw) (lamScope (lamEx 16)) = true by decide +kernel), fun _ _ _ _ _ => rfl, fun A outer s H E f c' hr => pe_methH L.room (pv 11) (hr.mono (by decide)) (passes_call (W := fun cls d _ H => E cls d H) (takes_of rfl rfl rfl rfl) (fun _ _ _ _ h => h)) (pa_cons (pv 13) pa_nil)⟩
  · exact ⟨LamX.lamS_by (show LamX.lamSB (defScope sLaw) (lamScope (lamEx 17)) = true by decide +kernel), fun _ _ _ _ _ => rfl, fun A outer s H E f c' hr => pe_methH L.put (pv 14) (hr.mono (by decide)) (passes_call (W := fun cls d _ H => E cls d H) (takes_of rfl rfl rfl rfl) (fun _ _ _ _ h => h)) (pa_cons (pv 13) (pa_cons pe_non pa_nil))⟩
  · exact ⟨LamX.lamS_by (show LamX.lamSB (defScope sLaw) (lamScope (lamEx 18)) = true by decide +kernel), fun _ _ _ _ _ => rfl, fun A outer s H E f c' hr => pe_methH L.without (pv 14) (hr.mono (by decide)) (passes_call (W := fun cls d _ H => E cls d H) (takes_of rfl rfl rfl rfl) (fun _ _ _ _ h => h)) (pa_cons (pv 13) pa_nil)⟩
  · exact ⟨LamX.lamS_by (show LamX.lamSB (defScope sLaw) (lamScope (lamEx 19)) = true by decide +kernel), fun _ _ _ _ _ => rfl, fun A outer s H E f c' hr => pe_methH L.regrown (pv 14) (hr.mono (by decide)) (passes_call (W := fun cls d _ H => E cls d H) (takes_of rfl rfl rfl rfl) (fun _ _ _ _ h => h)) (pa_cons (pv 13) (pa_cons pe_non pa_nil))⟩
theorem Asks.put {cells : List (Str × Addr)} {H : Hp} {r D1 : Addr} {fs : List Addr} {ys zs : List V} {m : Nat} (h : Asks cells H r fs m) (hD : H D1 = some (.lst ys)) (n : r ≠ D1) : Asks cells (upd H D1 (.lst zs)) r fs m :=
  ⟨by rw [upd_ne n]; exact h.lst, h.nod, fun j f hj hm => (h.kept j f hj hm).put hD⟩
/-- the answers told so far -/
def AtsV (H : Hp) (v : V) (ps : List Addr) : Prop := ∀ p ∈ ps, H p = some (.tup [.str "at", v])
theorem AtsV.x {H H' : Hp} {v : V} {ps : List Addr} (h : AtsV H v ps) (e : ExtX H H') : AtsV H' v ps := fun p hp => e _ _ (h p hp) (by intro x z; cases z) (by intro x z; cases z)
theorem AtsV.put {H : Hp} {v : V} {ps : List Addr} {D1 : Addr} {ys zs : List V} (h : AtsV H v ps) (hD : H D1 = some (.lst ys)) : AtsV (upd H D1 (.lst zs)) v ps := fun p hp => by
  rw [upd_ne (ne_of (h p hp) hD (by intro z; cases z))]
  exact h p hp
/-- r is new to all that stays in H -/
def NewX (H : Hp) (r : Addr) : Prop := ∀ b o, H b = some o → (∀ ps, o ≠ .tbl ps) → (∀ φ, o ≠ .ext φ) → b ≠ r
theorem ExtX.new {H H1 : Hp} {r : Addr} (a : ExtX H H1) (hr : H1 r = none) : NewX H r := fun b o h n1 n2 => ne_of_none (a b o h n1 n2) hr
theorem ExtX.upd {H H1 : Hp} {r : Addr} {o : HO} (a : ExtX H H1) (n : NewX H r) : ExtX H (upd H1 r o) := fun b u h n1 n2 => by
  rw [upd_ne (n b u h n1 n2)]
  exact a b u h n1 n2
theorem ask_get {fs : List Addr} {i : Nat} {z : V} (h : (fs.map V.ref)[i]? = some z) : ∃ g, fs[i]? = some g ∧ z = .ref g := by
  rw [List.getElem?_map] at h
  cases e : fs[i]? with
  | none => rw [e] at h; cases h
  | some g =>
    rw [e] at h
    exact ⟨g, rfl, (Option.some.inj h).symm⟩
theorem st20 (L : TL P w K mg base C CA CB fe) (TB : LamX.TabB base mg c tb) (hmT : (tb, qLaw) ∈ T') (hu : ∀ p ∈ T', p.1 = tb → p.2 = qLaw) (hr : Room 13 (XL P w K mg base f c A outer s H0 E).A) : ∃ t, PS (XL P w K mg base f c A outer s H0 E) (lb 20) t ∧
    ∀ (D : Ends) (H : Hp) (sc l x m r : Addr) (fs : List Addr) (v : V) (dd : PyData) (xs : List V) (rcs rcsM : List RowC) (o1 o2 o3 o4 o5 o6 o7 o8 o10 o15 : Option V), LamX.Tabs T' H → Asks (XL P w K mg base f c A outer s H0 E).env.cells H r fs 0 → fs.length = 4 →
      DraftV K H C m rcsM → noEven (rsC rcsM) → rcsM.length ≤ 13 → DraftV K H C x rcs → RowsIn K H l xs rcs → DrW rcs → OddV H v dd →
      (∀ H' rr ps p5, ExtX H H' → LamX.Tabs T' H' → NewX H rr → ps.length = 4 → H' rr = some (.lst (ps.map V.ref ++ [.ref p5])) → AtsV H' v ps → H' p5 = some (.tup [.str "at", .int ((xs.length : Nat) : Int)]) → D.nx (sg sc o1 o2 o3 o4 o5 o6 (some (.ref rr)) o8 (some (.ref r)) o10 (some (.ref m)) (some (.ref l)) (some v) (some (.ref x)) o15) H') →
      t D (sg sc o1 o2 o3 o4 o5 o6 o7 o8 (some (.ref r)) o10 (some (.ref m)) (some (.ref l)) (some v) (some (.ref x)) o15) H := by
  have T := L.bi
  refine ⟨_, ps_set (i := 7) scLaw.nd rfl (.inl rfl) (pe_op op_cat (pe_lcS (own := [("ask", 17)]) (g := gName 17) (te := fun σ => tMetK qLaw (XL P w K mg base f c A outer s H0 E).env.cells CA CB (lps K C CA CB) 17 σ) rfl scLaw.nd (pi_list (pv 9)) (blkOk_by (N := NL) (sc := defScope sLaw) (by decide +kernel)) (fun _ _ _ _ _ => pg_name (i := 17) scLaw.nd rfl (.inl rfl)) (fun _ _ _ _ _ _ _ I hfp => pe_metk L.met I hfp (hr.mono (by decide)) (lps_ok L) rfl (by rfl) (.inl rfl)))
    (pe_lst (pa_cons (pe_met (k := 10) (t := fun E => tMeth C "without" (spWithout K C CA) [] E (tVar 14) (tCons (tCB (rLenV K) (tCons (tVar 12) tNil)) tNil)) L.met (by rfl) TB rfl hmT hu (hr.mono (by decide)) (LamX.lamS_by (show LamX.lamSB (defScope sLaw) _ = true by decide +kernel)) rfl (fun _ _ _ _ _ => rfl) fun A outer s H E f c' hr => (pe_methH L.without (pv 14) (hr.mono (by decide)) (passes_call (W := fun cls d _ H => E cls d H) (takes_of rfl rfl rfl rfl) (fun _ _ _ _ h => h)) (pa_cons (pe_callB call_len_seq (by rfl) T.len (by decide +kernel) (pa_cons (pv 12) pa_nil)) pa_nil))) pa_nil))), ?_⟩
  intro D H sc l x m r fs v dd xs rcs rcsM o1 o2 o3 o4 o5 o6 o7 o8 o10 o15 hT hA hl hm nE m13 hx hR hW hv q
  have xl := hR.len
  have l13 := hW.len
  refine ⟨_, rfl, r, rfl, ⟨_, SqL.of hA.lst⟩, fun D1 hD => ?_⟩
  have nrD : r ≠ D1 := ne_of_none hA.lst hD
  refine lc_it walk_list (fun i H4 => LamX.Tabs T' H4 ∧ ExtX H H4 ∧ Asks (XL P w K mg base f c A outer s H0 E).env.cells H4 r fs i ∧ ∃ ps : List Addr, ps.length = i ∧ H4 D1 = some (.lst (ps.map V.ref)) ∧ AtsV H4 v ps) ⟨hT.ext (same_new hD), ExtX.same (same_new hD), hA.same (same_new hD), [], rfl, upd_same, fun p hp => absurd hp (by simp)⟩ (fun i H4 _ h => SqL.of h.2.2.1.lst) ?_ ?_
  · rintro i z Hx H4 hi ⟨t4, e4, a4, ps, pl, hD4, hps⟩ ⟨rfl, hz⟩
    obtain ⟨g, hg, rfl⟩ := ask_get hz
    have kg := a4.kept i g hg (Nat.le_refl _)
    obtain ⟨c', ncg, hgo, hco⟩ := id kg
    have eD : ExtX H4 (del H4 g) := ExtX.del hgo
    have tD := tabs_del t4 hgo
    have aD := a4.del hg
    have i4 : i < 4 := by rw [List.length_map, hl] at hi; exact hi
    have hDD := eD _ _ hD4 (by intro x z; cases z) (by intro x z; cases z)
    have e04 := e4.trans eD
    have hmD := draft_x e04 hm
    have hxD := draft_x e04 hx
    have hvD := (hv.x e04)
    have done : AtE CA v (del H4 g) (MetE CA CB fun y H5 => ∃ acc, H5 D1 = some (.lst acc) ∧ acc.length < sizeLine ∧ (LamX.Tabs T' (upd H5 D1 (.lst (acc ++ [y]))) ∧ ExtX H (upd H5 D1 (.lst (acc ++ [y]))) ∧ Asks (XL P w K mg base f c A outer s H0 E).env.cells (upd H5 D1 (.lst (acc ++ [y]))) r fs (i + 1) ∧ ∃ ps : List Addr, ps.length = i + 1 ∧ upd H5 D1 (.lst (acc ++ [y])) D1 = some (.lst (ps.map V.ref)) ∧ AtsV (upd H5 D1 (.lst (acc ++ [y]))) v ps)) := by
      refine met_at (LamX.ExtN.refl _) tD fun p H6 e6 t6 h6 => ?_
      have hD6 := e6 _ _ hDD (by intro x z; cases z)
      refine ⟨_, hD6, ?_, tabs_put t6 hD6, ExtX.upd (e04.trans (ExtX.of e6)) (ExtX.new (ExtX.same fun _ _ h => h) hD), (aD.ext e6).put hD6 nrD, ps ++ [p], by rw [List.length_append, pl]; rfl, by rw [upd_same, List.map_append]; rfl, AtsV.put (fun y hy => ?_) hD6⟩
      · rw [List.length_map, pl]
        exact small1000 (by omega)
      · rcases List.mem_append.mp hy with hy | hy
        · exact (hps.x (eD.trans (ExtX.of e6))) y hy
        · rw [List.mem_singleton] at hy
          rw [hy]
          exact h6
    obtain ⟨okm, b1, b2, b3, b4, b5, b6, hm'⟩ := id hmD
    obtain ⟨okx, d1, d2, d3, d4, d5, d6, hx'⟩ := id hxD
    refine ⟨rfl, yes_go (iteT ?_)⟩
    match i, hi, i4, kg, hgo, done with
    | 0, _, _, _, hgo, done => exact ⟨lp16 K C CA, by simp, g, c', rfl, hgo, ncg, hco, _, rfl, m, b1, _, rfl, hm'.ins, rfl, _, rfl, m, v, dd, rcsM, rfl, hmD, nE, hvD.th, fun k e ok => absurd ok (by rw [hvD.bad (by omega)]; simp), fun _ => done⟩
    | 1, _, _, _, hgo, done => exact ⟨lp17 K C CA CB, by simp, g, c', rfl, hgo, ncg, hco, _, rfl, x, d1, _, rfl, hx'.ins, rfl, _, rfl, x, v, .non, dd, rcs, rfl, hxD, by omega, hvD.th, .inl ⟨hvD.bad (by omega), done⟩⟩
    | 2, _, _, _, hgo, done => exact ⟨lp18 K C CA, by simp, g, c', rfl, hgo, ncg, hco, _, rfl, x, d1, _, rfl, hx'.ins, rfl, _, rfl, x, v, dd, rcs, rfl, hxD, by omega, hvD.th, .inl ⟨hvD.bad (by omega), done⟩⟩
    | 3, _, _, _, hgo, done => exact ⟨lp19 K C CA CB, by simp, g, c', rfl, hgo, ncg, hco, _, rfl, x, d1, _, rfl, hx'.ins, rfl, _, rfl, x, v, .non, dd, rcs, rfl, hxD, by omega, hvD.th, .inl ⟨hvD.bad (by omega), done⟩⟩
    | i + 4, _, h, _, _, _ => exact absurd h (by omega)
  · rintro H4 ⟨t4, e4, a4, ps, pl, hD4, hps⟩
    rw [List.length_map, hl] at pl
    refine ⟨t4, fun H5 e5 t5 => ?_⟩
    have e05 := e4.trans (ExtX.of e5)
    have hx5 := draft_x e05 hx
    have hR5 := hR.x e05
    obtain ⟨okx, d1, d2, d3, d4, d5, d6, hx'⟩ := id hx5
    refine ⟨_, rfl, x, d1, _, rfl, hx'.ins, rfl, _, rfl, l, xs, rfl, .inl (SqL.of hR5.lst), x, .int ((xs.length : Nat) : Int), .int ((xs.length : Nat) : Int), rcs, rfl, hx5, by omega, .dat (.int _), .inl ⟨?_, met_at (LamX.ExtN.refl _) t5 fun p H6 e6 t6 h6 => ⟨(by show 1 ≤ sizeLine; decide), fun r2 hr2 => ?_⟩⟩⟩
    · show (decide (0 ≤ ((xs.length : Nat) : Int)) && decide (((xs.length : Nat) : Int) ≤ ((rcs.length : Nat) : Int) - 1)) = false
      rw [decide_eq_false (p := ((xs.length : Nat) : Int) ≤ ((rcs.length : Nat) : Int) - 1) (by omega), Bool.and_false]
    have s7 := same_new (o := .lst [V.ref p]) hr2
    have e06 := e05.trans (ExtX.of e6)
    have e07 := e06.trans (ExtX.same s7)
    have hD7 := s7 _ _ (e6 _ _ (e5 _ _ hD4 (by intro x z; cases z)) (by intro x z; cases z))
    have h7 := s7 _ _ h6
    have hps7 := hps.x ((ExtX.of e5).trans ((ExtX.of e6).trans (ExtX.same s7)))
    refine ⟨D1, r2, _, _, rfl, rfl, hD7, upd_same, ?_, fun r3 hr3 => ?_⟩
    · rw [List.length_map, pl]
      show 5 ≤ sizeLine
      decide
    have s8 := same_new (o := .lst (ps.map V.ref ++ [V.ref p])) hr3
    exact q _ r3 ps p (e07.trans (ExtX.same s8)) ((t6.ext s7).ext s8) (ExtX.new e07 hr3) pl upd_same (hps7.x (ExtX.same s8)) (s8 _ _ h7)
end

/-! ### the last draft asked for -/
theorem twice_no {rs : List Row} {a : Nat} {z : Str} (ha : a ≤ rs.length) (hz : z ∈ rs.filterMap labR) : ¬ DrOk (insR rs a (.label z)) := fun ok => by
  obtain ⟨r, hr, e⟩ := List.mem_filterMap.mp hz
  obtain ⟨k, hk⟩ := List.getElem?_of_mem hr
  have h1 : labOf (insR rs a (.label z)) a = some z := by
    rw [labOf_at (insR_at ha)]
    rfl
  have h2 : labOf (insR rs a (.label z)) (sh a k) = some z := by
    rw [labOf_at (rs := insR rs a (.label z)) (i := sh a k) (r := r) (by rw [insR_sh ha]; exact hk), e]
  have ne : sh a k ≠ a := by
    unfold sh
    split <;> omega
  rcases Nat.lt_or_gt_of_ne ne with l | l
  · exact ok.uniq a z h1 _ l h2
  · exact ok.uniq _ z h2 _ l h1
section
variable {P : Program} {w : World} {K : PySem.W.Frag} {mg : Str → Option Value} {base : Heap} {C CA CB fe f c tb : Addr} {T' : List (Addr × Str)} {A : Around} {outer : List Env} {s : Shared} {H0 : Hp} {E : XK}
theorem st21 (L : TL P w K mg base C CA CB fe) (TB : LamX.TabB base mg c tb) (hmT : (tb, qLaw) ∈ T') (hu : ∀ p ∈ T', p.1 = tb → p.2 = qLaw) (hr : Room 13 (XL P w K mg base f c A outer s H0 E).A) : ∃ t, PS (XL P w K mg base f c A outer s H0 E) (lb 21) t ∧
    ∀ (D : Ends) (H : Hp) (sc x r d : Addr) (a : Nat) (ys : List V) (out : List Int) (rcs : List RowC) (o1 o2 o4 o5 o6 o8 o9 o11 o12 o13 o15 : Option V), LamX.Tabs T' H → DraftV K H C x rcs → DrW rcs → a ≤ rcs.length → H d = some (.lst (out.map V.int)) → Drawn szK out → H r = some (.lst ys) → ys.length = 5 →
      (∀ H' p, ExtF r H H' → H' r = some (.lst (ys ++ [.ref p])) → H' p = some (.tup [.str "draft", .int (a : Int)]) → D.nx (sg sc o1 o2 (some (.int (a : Int))) o4 o5 o6 (some (.ref r)) o8 o9 (some (.ref d)) o11 o12 o13 (some (.ref x)) o15) H') →
      t D (sg sc o1 o2 (some (.int (a : Int))) o4 o5 o6 (some (.ref r)) o8 o9 (some (.ref d)) o11 o12 o13 (some (.ref x)) o15) H := by
  refine ⟨_, (ps_expr (pe_bm PySem.F.plainAttrs_list PySem.F.slot_list_append PySem.F.type_list_append mt_append (pv 7) (pa_cons (pe_met (k := 10) (t := fun E => tMeth C "put" (spPut K C CB CA) [] E (tVar 14) (tCons (tVar 3) (tCons (tOp (rIxL K) (tLst (tCons (tC .non) (tCons (tTup (tCons (tC (.str "label")) (tCons (tC (.str "la")) tNil))) (tCons (tTup (tCons (tC (.str "even")) (tCons (tC (.int 0)) tNil))) (tCons (tC (.int 5)) tNil))))) (tOp rModQ (tOp (rIxL K) (tVar 10) (tC (.int 1))) (tC (.int 4)))) tNil))) L.met (by rfl) TB rfl hmT hu (hr.mono (by decide)) (LamX.lamS_by (show LamX.lamSB (defScope sLaw) _ = true by decide +kernel)) rfl (fun _ _ _ _ _ => rfl) fun A outer s H E f c' hr => (pe_methH L.put (pv 14) (hr.mono (by decide)) (passes_call (W := fun cls d _ H => E cls d H) (takes_of rfl rfl rfl rfl) (fun _ _ _ _ h => h)) (pa_cons (pv 3) (pa_cons (pe_ix ix_list (pe_lst (pa_cons pe_non (pa_cons (pe_tup (pa_cons pe_str (pa_cons pe_str pa_nil))) (pa_cons (pe_tup (pa_cons pe_str (pa_cons pe_int pa_nil))) (pa_cons pe_int pa_nil))))) (pe_op op_mod (pe_ix ix_list (pv 10) pe_int (fun _ _ => rfl)) pe_int) (fun _ _ => rfl)) pa_nil)))) pa_nil))), ?_⟩
  intro D H sc x r d a ys out rcs o1 o2 o4 o5 o6 o8 o9 o11 o12 o13 o15 hT hx hW ha hd dr hr yl q
  have l13 := hW.len
  obtain ⟨d0, h0, h00, h01⟩ := drawn_at dr (i := 1) (z := 8) rfl
  refine ⟨_, rfl, .inl ⟨rfl, _, SqL.of hr⟩, hT, fun H1 e1 t1 => ?_⟩
  have hx1 := draft_ext e1 hx
  have hd1 := e1 _ _ hd (by intro x z; cases z)
  have hr1 := e1 _ _ hr (by intro x z; cases z)
  obtain ⟨ok, a1, a2, a3, a4, a5, a6, h⟩ := id hx1
  refine ⟨_, rfl, x, a1, _, rfl, h.ins, rfl, _, rfl, (by show 2 ≤ sizeLine; decide), fun p1 hp1 => ⟨(by show 2 ≤ sizeLine; decide), fun p2 hp2 => ⟨(by show 4 ≤ sizeLine; decide), fun p3 hp3 => ?_⟩⟩⟩
  have u1 := same_new (o := .tup [V.str "label", V.str "la"]) hp1
  have u2 := same_new (o := .tup [V.str "even", V.int 0]) hp2
  have u3 := same_new (o := .lst [V.non, V.ref p1, V.ref p2, V.int 5]) hp3
  have u := (u1.trans u2).trans u3
  have g1 := (u2.trans u3) _ _ (upd_same (H := H1) (a := p1) (o := .tup [V.str "label", V.str "la"]))
  have g2 := u3 _ _ (upd_same (H := upd H1 p1 (.tup [V.str "label", V.str "la"])) (a := p2) (o := .tup [V.str "even", V.int 0]))
  have g3 : upd (upd (upd H1 p1 (.tup [V.str "label", V.str "la"])) p2 (.tup [V.str "even", V.int 0])) p3 (.lst [V.non, V.ref p1, V.ref p2, V.int 5]) p3 = some (.lst [V.non, V.ref p1, V.ref p2, V.int 5]) := upd_same
  generalize upd (upd (upd H1 p1 (.tup [V.str "label", V.str "la"])) p2 (.tup [V.str "even", V.int 0])) p3 (.lst [V.non, V.ref p1, V.ref p2, V.int 5]) = H2 at u g1 g2 g3
  have kl : a ≤ (rsC rcs).length := by rw [List.length_map]; exact ha
  obtain ⟨v, dv, o, hat, hv, hi, bad⟩ : ∃ v dv o, atI [V.non, V.ref p1, V.ref p2, V.int 5] (d0 % 4) = some v ∧ Dp K H2 v dv ∧ InD dv o ∧ ∀ rc, o = some rc → ¬ DrOk (rsC (putC rcs a rc)) := by
    have cs : d0 % 4 = 0 ∨ d0 % 4 = 1 ∨ d0 % 4 = 2 ∨ d0 % 4 = 3 := by omega
    rcases cs with e | e | e | e <;> rw [e]
    · exact ⟨_, _, _, rfl, .non, .non, fun rc e => nomatch e⟩
    · refine ⟨_, rowR (.label "la"), _, rfl, .tup (SqT.of g1) (.cons (.str _) (.cons (.str _) .nil)), .raw (rc := .label "la") nm_la, fun rc e => ?_⟩
      cases e
      rw [rsC_put]
      exact twice_no kl (hW.labs "la" (by simp [labs4]))
    · exact ⟨_, _, _, rfl, .tup (SqT.of g2) (.cons (.str _) (.cons (.int _) .nil)), .even0, fun rc e => nomatch e⟩
    · exact ⟨_, _, _, rfl, .int _, .five, fun rc e => nomatch e⟩
  have e2 := e1.trans (LamX.ExtN.of u)
  have t2 := t1.ext u
  refine ⟨_, rfl, d, _, _, _, rfl, rfl, SqL.of (u _ _ hd1), at_of h0, _, _, rfl, rfl, by omega, p3, _, _, _, rfl, rfl, SqL.of g3, hat, x, .int (a : Int), v, .int (a : Int), rcs, rfl, draftV_same u hx1, by omega, .dat (.int _), .inr ⟨a, dv, o, rfl, ha, hv, hi, fun _ => met_draft (LamX.ExtN.refl _) t2 fun p H3 e3 t3 h3 => ?_, fun rc e okp => absurd okp (bad rc e)⟩⟩
  have hr3 := e3 _ _ (u _ _ hr1) (by intro x z; cases z)
  have n3 : p ≠ r := ne_of h3 hr3 (by intro z; cases z)
  exact ⟨r, _, _, rfl, rfl, hr3, (by rw [yl]; show 5 < sizeLine; decide), q _ p (ExtF.of (e2.trans e3)) upd_same (by rw [upd_ne n3]; exact h3)⟩
theorem st22 (L : TL P w K mg base C CA CB fe) (hr : Room 13 (XL P w K mg base f c A outer s H0 E).A) : ∃ t, PS (XL P w K mg base f c A outer s H0 E) (lb 22) t ∧
    ∀ (D : Ends) (H : Hp) (sc l r p5 p6 : Addr) (a : Nat) (ps : List Addr) (v : V) (dd : PyData) (xs : List V) (o1 o2 o4 o5 o6 o8 o9 o10 o11 o14 o15 : Option V), ps.length = 4 → xs.length ≤ 13 → SqL K H l xs → OddV H v dd → H r = some (.lst (ps.map V.ref ++ [.ref p5] ++ [.ref p6])) → AtsV H v ps → H p5 = some (.tup [.str "at", .int ((xs.length : Nat) : Int)]) → H p6 = some (.tup [.str "draft", .int (a : Int)]) →
      (∀ H', D.rt (.bl true) H') →
      t D (sg sc o1 o2 (some (.int (a : Int))) o4 o5 o6 (some (.ref r)) o8 o9 o10 o11 (some (.ref l)) (some v) o14 o15) H := by
  have T := L.bi
  refine ⟨_, (ps_ret (pe_callH L.same4 (hr.mono (by decide)) (by rfl) pass0 (pa_cons (pv 7) (pa_cons (pe_op op_cat (pe_op op_rep (pe_lst (pa_cons (pe_tup (pa_cons pe_str (pa_cons (pv 13) pa_nil))) pa_nil)) pe_int) (pe_lst (pa_cons (pe_tup (pa_cons pe_str (pa_cons (pe_callB call_len_seq (by rfl) T.len (by decide +kernel) (pa_cons (pv 12) pa_nil)) pa_nil))) (pa_cons (pe_tup (pa_cons pe_str (pa_cons (pv 3) pa_nil))) pa_nil)))) pa_nil)))), ?_⟩
  intro D H sc l r p5 p6 a ps v dd xs o1 o2 o4 o5 o6 o8 o9 o10 o11 o14 o15 pl x13 hl hv hr hps h5 h6 q
  refine ⟨_, rfl, _, rfl, (by show 2 ≤ sizeLine; decide), fun p1 hp1 => ⟨(by show 1 ≤ sizeLine; decide), fun p2 hp2 => ⟨p2, 4, _, rfl, rfl, upd_same, by decide, by decide, (by show 1 * 4 ≤ sizeLine; decide), fun p3 hp3 => ?_⟩⟩⟩
  have u1 := same_new (o := .tup [V.str "at", v]) hp1
  have u2 := same_new (o := .lst [V.ref p1]) hp2
  have u3 := same_new (o := .lst (List.replicate (4 : Int).toNat [V.ref p1]).flatten) hp3
  have u13 := (u1.trans u2).trans u3
  have g1 := (u2.trans u3) _ _ (upd_same (H := H) (a := p1) (o := .tup [V.str "at", v]))
  have g3 : upd (upd (upd H p1 (.tup [V.str "at", v])) p2 (.lst [V.ref p1])) p3 (.lst (List.replicate (4 : Int).toNat [V.ref p1]).flatten) p3 = some (.lst (List.replicate (4 : Int).toNat [V.ref p1]).flatten) := upd_same
  generalize upd (upd (upd H p1 (.tup [V.str "at", v])) p2 (.lst [V.ref p1])) p3 (.lst (List.replicate (4 : Int).toNat [V.ref p1]).flatten) = H3 at u13 g1 g3
  refine ⟨_, rfl, l, xs, rfl, .inl (sqL_same u13 hl), (by show 2 ≤ sizeLine; decide), fun p4 hp4 => ⟨_, rfl, (by show 2 ≤ sizeLine; decide), fun p7 hp7 => ⟨(by show 2 ≤ sizeLine; decide), fun p8 hp8 => ?_⟩⟩⟩
  have u4 := same_new (o := .tup [V.str "at", V.int ((xs.length : Nat) : Int)]) hp4
  have u5 := same_new (o := .tup [V.str "draft", V.int (a : Int)]) hp7
  have u6 := same_new (o := .lst [V.ref p4, V.ref p7]) hp8
  have u46 := (u4.trans u5).trans u6
  have g4 := (u5.trans u6) _ _ (upd_same (H := H3) (a := p4) (o := .tup [V.str "at", V.int ((xs.length : Nat) : Int)]))
  have g7 := u6 _ _ (upd_same (H := upd H3 p4 (.tup [V.str "at", V.int ((xs.length : Nat) : Int)])) (a := p7) (o := .tup [V.str "draft", V.int (a : Int)]))
  refine ⟨p3, p8, _, _, rfl, rfl, u46 _ _ g3, upd_same, (by show 6 ≤ sizeLine; decide), fun p9 hp9 => ?_⟩
  have u7 := same_new (o := .lst ((List.replicate (4 : Int).toNat [V.ref p1]).flatten ++ [V.ref p4, V.ref p7])) hp9
  have k1 := u7 _ _ (u46 _ _ g1)
  have k4 := u7 _ _ g4
  have k7 := u7 _ _ g7
  have uA := (u13.trans u46).trans u7
  have k9 := upd_same (H := upd (upd (upd H3 p4 (.tup [V.str "at", V.int ((xs.length : Nat) : Int)])) p7 (.tup [V.str "draft", V.int (a : Int)])) p8 (.lst [V.ref p4, V.ref p7])) (a := p9) (o := .lst ((List.replicate (4 : Int).toNat [V.ref p1]).flatten ++ [V.ref p4, V.ref p7]))
  generalize upd (upd (upd (upd H3 p4 (.tup [V.str "at", V.int ((xs.length : Nat) : Int)])) p7 (.tup [V.str "draft", V.int (a : Int)])) p8 (.lst [V.ref p4, V.ref p7])) p9 (.lst ((List.replicate (4 : Int).toNat [V.ref p1]).flatten ++ [V.ref p4, V.ref p7])) = H9 at k1 k4 k7 uA k9
  have iv : ∀ {Hx : Hp} {n : Int}, SmRel K 2 Hx (.int n) (.int n) := ⟨_, .int _⟩
  have hps9 := hps.x (ExtX.same uA)
  have hv9 := hv.same uA
  match ps, pl with
  | [b0, b1, b2, b3], _ =>
    refine ⟨.ref r, .ref p9, rfl, ⟨_, .lst (SqL.of (uA _ _ hr)) (SqL.of k9) rfl (by show 6 ≤ 900; decide) fun H' e i y z hy hz => ?_⟩, fun H' _ => q H'⟩
    match i, hy, hz with
    | 0, hy, hz =>
      cases hy
      cases hz
      exact sm_pair (e _ _ (hps9 b0 (by simp))) (e _ _ k1) fun H'' e2 => ((hv9.same e).same e2).sm
    | 1, hy, hz =>
      cases hy
      cases hz
      exact sm_pair (e _ _ (hps9 b1 (by simp))) (e _ _ k1) fun H'' e2 => ((hv9.same e).same e2).sm
    | 2, hy, hz =>
      cases hy
      cases hz
      exact sm_pair (e _ _ (hps9 b2 (by simp))) (e _ _ k1) fun H'' e2 => ((hv9.same e).same e2).sm
    | 3, hy, hz =>
      cases hy
      cases hz
      exact sm_pair (e _ _ (hps9 b3 (by simp))) (e _ _ k1) fun H'' e2 => ((hv9.same e).same e2).sm
    | 4, hy, hz =>
      cases hy
      cases hz
      exact sm_pair (e _ _ (uA _ _ h5)) (e _ _ k4) fun _ _ => iv
    | 5, hy, hz =>
      cases hy
      cases hz
      exact sm_pair (e _ _ (uA _ _ h6)) (e _ _ k7) fun _ _ => iv
    | i + 6, hy, _ => exact absurd hy (by simp)
end

/-! ### the law -/
theorem NewTo.x {H : Hp} {r : Addr} (n : NewTo H r) : NewX H r := fun b o h n1 _ => n b o h n1
theorem ExtX.putX {H H1 H2 : Hp} {r : Addr} (a : ExtX H H1) (n : NewX H r) (b : ExtF r H1 H2) : ExtX H H2 := fun d o h n1 n2 => b d o (a d o h n1 n2) n1 n2 (n d o h n1 n2)
def spLaw (K : PySem.W.Frag) (T : List (Addr × Str)) : Sp := fun vs H Q _ => ∃ (sc : Addr) (ns : List Int), vs = [.ref sc] ∧ SqL K H sc (ns.map V.int) ∧ LamX.Tabs T H ∧ ∀ H', Q (.bl true) H'
theorem ok_law {P : Program} {w : World} {K : PySem.W.Frag} {mg : Str → Option Value} {base : Heap} {C CA CB fe f c tb : Addr} {fd : FuncData} {T' : List (Addr × Str)} (F : FunC K "law" sLaw c f fd) (L : TL P w K mg base C CA CB fe) (TB : LamX.TabB base mg c tb) (hmT : (tb, qLaw) ∈ T') (hu : ∀ p ∈ T', p.1 = tb → p.2 = qLaw) :
    FnOk P w K mg base (L2.CX P w) 14 f fd ["script"] (spLaw K T') := by
  refine F.okX scLaw (fun vs H Q E h => ?_) (fun A outer s H vs Q E hr h => ?_)
  · obtain ⟨sc, ns, rfl, _⟩ := h
    rfl
  · obtain ⟨sc, ns, rfl, hs, hT, q⟩ := h
    obtain ⟨t0, h0, q0⟩ := st0 (E := E) (A := A) (outer := outer) (s := s) (H0 := H) (f := f) (c := c) L hr
    obtain ⟨t1, h1, q1⟩ := st1 (E := E) (A := A) (outer := outer) (s := s) (H0 := H) (f := f) (c := c) L hr
    obtain ⟨t2, h2, q2⟩ := st2 (E := E) (A := A) (outer := outer) (s := s) (H0 := H) (f := f) (c := c) L hr
    obtain ⟨t3, h3, q3⟩ := st3 (E := E) (A := A) (outer := outer) (s := s) (H0 := H) (f := f) (c := c) L hr
    obtain ⟨t4, h4, q4⟩ := st4 (E := E) (A := A) (outer := outer) (s := s) (H0 := H) (f := f) (c := c) L hr
    obtain ⟨t5, h5, q5⟩ := st5 (E := E) (A := A) (outer := outer) (s := s) (H0 := H) (f := f) (c := c) L hr
    obtain ⟨t6, h6, q6⟩ := st6 (E := E) (A := A) (outer := outer) (s := s) (H0 := H) (f := f) (c := c) L hr
    obtain ⟨t7, h7, q7⟩ := st7 (E := E) (A := A) (outer := outer) (s := s) (H0 := H) (f := f) (c := c) L hr
    obtain ⟨t8, h8, q8⟩ := st8 (E := E) (A := A) (outer := outer) (s := s) (H0 := H) (f := f) (c := c) L hr
    obtain ⟨t9, h9, q9⟩ := st9 (E := E) (A := A) (outer := outer) (s := s) (H0 := H) (f := f) (c := c) L hr
    obtain ⟨t10, h10, q10⟩ := st10 (E := E) (A := A) (outer := outer) (s := s) (H0 := H) (f := f) (c := c) L TB hmT hu hr
    obtain ⟨t11, h11, q11⟩ := st11 (E := E) (A := A) (outer := outer) (s := s) (H0 := H) (f := f) (c := c) L hr
    obtain ⟨t12, h12, q12⟩ := st12 (E := E) (A := A) (outer := outer) (s := s) (H0 := H) (f := f) (c := c) L hr
    obtain ⟨t13, h13, q13⟩ := st13 (E := E) (A := A) (outer := outer) (s := s) (H0 := H) (f := f) (c := c) L hr
    obtain ⟨t14, h14, q14⟩ := st14 (E := E) (A := A) (outer := outer) (s := s) (H0 := H) (f := f) (c := c) L hr
    obtain ⟨t15, h15, q15⟩ := st15 (E := E) (A := A) (outer := outer) (s := s) (H0 := H) (f := f) (c := c) L hr
    obtain ⟨t16, h16, q16⟩ := st16 (E := E) (A := A) (outer := outer) (s := s) (H0 := H) (f := f) (c := c) L TB hmT hu
    obtain ⟨t17, h17, q17⟩ := st17 (E := E) (A := A) (outer := outer) (s := s) (H0 := H) (f := f) (c := c) L TB hmT hu
    obtain ⟨t18, h18, q18⟩ := st18 (E := E) (A := A) (outer := outer) (s := s) (H0 := H) (f := f) (c := c) L TB hmT hu
    obtain ⟨t19, h19, q19⟩ := st19 (E := E) (A := A) (outer := outer) (s := s) (H0 := H) (f := f) (c := c) L TB hmT hu
    obtain ⟨t20, h20, q20⟩ := st20 (E := E) (A := A) (outer := outer) (s := s) (H0 := H) (f := f) (c := c) L TB hmT hu hr
    obtain ⟨t21, h21, q21⟩ := st21 (E := E) (A := A) (outer := outer) (s := s) (H0 := H) (f := f) (c := c) L TB hmT hu hr
    obtain ⟨t22, h22, q22⟩ := st22 (E := E) (A := A) (outer := outer) (s := s) (H0 := H) (f := f) (c := c) L hr
    refine ⟨_, pss_cons h0 (pss_cons h1 (pss_cons h2 (pss_cons h3 (pss_cons h4 (pss_cons h5 (pss_cons h6 (pss_cons h7 (pss_cons h8 (pss_cons h9 (pss_cons h10 (pss_cons h11 (pss_cons h12 (pss_cons h13 (pss_cons h14 (pss_cons h15 (pss_cons h16 (pss_cons h17 (pss_cons h18 (pss_cons h19 (pss_cons h20 (pss_cons h21 (pss_one h22)))))))))))))))))))))), ?_⟩
    refine q0 _ H sc ns _ _ _ _ _ _ _ _ _ _ _ _ _ _ _ hs fun H1 d out s1 hd dr => ?_
    refine q1 _ H1 sc ns _ _ _ _ _ _ _ _ _ _ _ _ _ _ _ (sqL_same s1 hs) fun H2 l xs rcs s2 hR hW nE => ?_
    have l13 := hW.len
    refine q2 _ H2 sc l d xs rcs out _ _ _ _ _ _ _ _ _ _ _ _ _ hR hW (s2 _ _ hd) dr fun H3 m a s3 hm ha => ?_
    refine q3 _ H3 sc l m xs rcs a _ _ _ _ _ _ _ _ _ _ _ (hR.same s3) hW nE hm ha fun H4 s4 => ?_
    have s14 := (s2.trans s3).trans s4
    refine q4 _ H4 sc ns _ _ _ _ _ _ _ _ _ _ _ _ _ _ _ (sqL_same (s1.trans s14) hs) fun H5 l2 ys rcs2 s5 hR2 hW2 => ?_
    have l213 := hW2.len
    have yl := hR2.len
    have s15 := s14.trans s5
    refine q5 _ H5 sc l2 d ys rcs2 out _ _ _ _ _ _ _ _ _ _ _ _ _ hR2 hW2 (s15 _ _ hd) dr fun H6 x b s6 hx hb => ?_
    have s16 := s15.trans s6
    refine q6 _ H6 sc d out _ _ _ _ _ _ _ _ _ _ _ _ _ _ (s16 _ _ hd) dr fun H7 p z s7 hp hz => ?_
    have s17 := s16.trans s7
    refine q7 _ H7 sc d p z out _ _ _ _ _ _ _ _ _ _ _ _ _ hp (s17 _ _ hd) dr fun H8 l5 ws n s8 hl5 hws hn => ?_
    have s18 := s17.trans s8
    refine q8 _ H8 sc d p l5 z n ws out _ _ _ _ _ _ _ _ _ _ _ _ (s8 _ _ hp) hl5 hws (s18 _ _ hd) dr fun H9 v rc s9 hrc hv => ?_
    have pk := pick_ok hn hz hrc
    have s69 := (s7.trans s8).trans s9
    have s59 := s6.trans s69
    refine q9 _ H9 sc l2 ys rcs2 _ _ _ _ _ _ _ _ _ _ _ _ _ _ (hR2.same s59) hW2 fun H10 b2 bs s10 hb2 hbs => ?_
    have s1A := (s18.trans s9).trans s10
    have s6A := s69.trans s10
    have s5A := s59.trans s10
    have sA := s1.trans s1A
    have hxA := draftV_same s6A hx
    have hvA := dp_same s10 hv
    refine q10 _ H10 sc x b2 b v z rcs2 rc bs _ _ _ _ _ _ _ _ _ _ _ (hT.ext sA) hxA hW2 hb hvA pk hb2 hbs (fun H' => q H') fun H11 s11 hbar => ?_
    have okp := put_ok b hW2 hz pk hbar
    refine q11 _ H11 sc x b v rcs2 rc _ _ _ _ _ _ _ _ _ _ _ _ (draftV_same s11 hxA) l213 hb (dp_same s11 hvA) pk.fine okp fun H12 x' s12 hx' => ?_
    have sAC := s11.trans s12
    have s5C := s5A.trans sAC
    refine q12 _ H12 sc l2 x x' b v ys rcs2 rc _ _ _ _ _ _ _ _ _ _ (hR2.same s5C) hW2 (draftV_same sAC hxA) hb (dp_same sAC hvA) okp hx' fun H13 s13 => ?_
    have sAD := sAC.trans s13
    have s5D := s5C.trans s13
    refine q13 _ H13 sc l2 x b v ys rcs2 rc _ _ _ _ _ _ _ _ _ _ _ (hR2.same s5D) hW2 (draftV_same sAD hxA) hb (dp_same sAD hvA) pk.fine okp fun H14 s14' => ?_
    have sAE := sAD.trans s14'
    have s5E := s5D.trans s14'
    refine q14 _ H14 sc l2 x b ys rcs2 _ _ _ _ _ _ _ _ _ _ _ _ (hR2.same s5E) hW2 (draftV_same sAE hxA) hb fun H15 s15' => ?_
    have sAF := sAE.trans s15'
    have s5F := s5E.trans s15'
    have s1F := s1A.trans sAF
    refine q15 _ H15 sc d out _ _ _ _ _ _ _ _ _ _ _ _ _ _ (s1F _ _ hd) dr fun H16 v2 dd s16' hv2 => ?_
    have sAG := sAF.trans s16'
    have s5G := s5F.trans s16'
    have s1G := s1F.trans s16'
    have hmG := draftV_same ((s4.trans s5).trans s5G) hm
    have hxG := draftV_same sAG hxA
    have hRG := hR2.same s5G
    have hdG := s1G _ _ hd
    refine q16 _ H16 sc _ _ _ _ _ _ _ _ _ _ _ _ _ _ _ (hT.ext (s1.trans s1G)) fun H17 r g1 e17 t17 n17 a17 => ?_
    refine q17 _ H17 sc r [g1] _ _ _ _ _ _ _ _ _ _ _ _ _ _ t17 rfl a17 fun H18 g2 f18 t18 a18 => ?_
    have e18 := e17.putr n17 f18
    refine q18 _ H18 sc r [g1, g2] _ _ _ _ _ _ _ _ _ _ _ _ _ _ t18 rfl a18 fun H19 g3 f19 t19 a19 => ?_
    have e19 := e18.putr n17 f19
    refine q19 _ H19 sc r [g1, g2, g3] _ _ _ _ _ _ _ _ _ _ _ _ _ _ t19 rfl a19 fun H20 g4 f20 t20 a20 => ?_
    have e20 := e19.putr n17 f20
    have hx20 := draft_x e20 hxG
    have hv20 := hv2.x e20
    have hR20 := hRG.x e20
    have hd20 := e20 _ _ hdG (by intro x z; cases z) (by intro x z; cases z)
    refine q20 _ H20 sc l2 x m r [g1, g2, g3, g4] v2 dd ys rcs2 rcs _ _ _ _ _ _ _ _ _ _ t20 a20 rfl (draft_x e20 hmG) nE l13 hx20 hR20 hW2 hv20 fun H21 rr ps p5 e21 t21 n21 pl hrr hps hp5 => ?_
    refine q21 _ H21 sc x rr d b _ out rcs2 _ _ _ _ _ _ _ _ _ _ _ t21 (draft_x e21 hx20) hW2 hb (e21 _ _ hd20 (by intro x z; cases z) (by intro x z; cases z)) dr hrr (by rw [List.length_append, List.length_map, pl]; rfl) fun H22 p6 f22 hr22 hp6 => ?_
    have e22 := e21.putX n21 f22
    refine q22 _ H22 sc l2 rr p5 p6 b ps v2 dd ys _ _ _ _ _ _ _ _ _ _ _ pl (by omega) (SqL.of (hR20.x e22).lst) (hv20.x e22) hr22 (fun y hy => ?_) ?_ hp6 fun H' => q H'
    · exact f22 _ _ (hps y hy) (by intro x z; cases z) (by intro x z; cases z) (ne_of (hps y hy) hrr (by intro z; cases z))
    · exact f22 _ _ hp5 (by intro x z; cases z) (by intro x z; cases z) (ne_of hp5 hrr (by intro z; cases z))

/-! ### the head: what the top leaves -/
def dd (x : Str) (i : Nat) : He.DefD := ⟨(x, none), x, x, defArgs (topS i), defBody (topS i), defScope (topS i), [], []⟩
def fns : List He.DefD := [dd "is_integer" 10, dd "is_row" 11, dd "is_row_of" 12, dd "is_name" 13, dd "one_form" 18, dd "read_sum" 19, dd "read_words" 24, dd "read_branch" 25, dd "read_row" 26, dd "read_rows" 27, dd "length_of" 28, dd "measured" 29, dd "labels_in" 30, dd "is_too_long" 31, dd "grown_from" 33, dd "way_in" 34, dd "too_long_ones" 35, dd "_law_row" 39, dd "_law_cell" 40, dd "_law_same" 41, dd "_law_draft" 42, dd "_law_branches" 43, dd "_law_spots" 44, dd "_law_outs" 45, dd "_law_begins" 46, dd "_law_ways" 47, dd "_law_long" 48, dd "_law_grown" 49, dd "_law_met" 50, dd "_law_room" 51, dd "_law_moved" 52, dd "_law_room_right" 53, dd "_law_regrown" 54, dd "law" 55, ⟨("BadDraft", some "__init__"), "__init__", "BadDraft.__init__", defArgs sIniB, defBody sIniB, defScope sIniB, [], []⟩, ⟨("BadAt", some "__init__"), "__init__", "BadAt.__init__", defArgs sIniA, defBody sIniA, defScope sIniA, [], []⟩, ⟨("Draft", some "__init__"), "__init__", "Draft.__init__", defArgs sInit, defBody sInit, defScope sInit, [], []⟩, ⟨("Draft", some "__eq__"), "__eq__", "Draft.__eq__", defArgs sEq, defBody sEq, defScope sEq, [], []⟩, ⟨("Draft", some "grown"), "grown", "Draft.grown", defArgs sGrown, defBody sGrown, defScope sGrown, [], []⟩, ⟨("Draft", some "check_even"), "check_even", "Draft.check_even", defArgs sCheckEven, defBody sCheckEven, defScope sCheckEven, [], []⟩, ⟨("Draft", some "check_at"), "check_at", "Draft.check_at", defArgs sCheckAt, defBody sCheckAt, defScope sCheckAt, [], []⟩, ⟨("Draft", some "room"), "room", "Draft.room", defArgs sRoom, defBody sRoom, defScope sRoom, [], []⟩, ⟨("Draft", some "put"), "put", "Draft.put", defArgs sPut, defBody sPut, defScope sPut, [], []⟩, ⟨("Draft", some "without"), "without", "Draft.without", defArgs sWithout, defBody sWithout, defScope sWithout, [], []⟩, ⟨("Draft", some "regrown"), "regrown", "Draft.regrown", defArgs sRegrown, defBody sRegrown, defScope sRegrown, [], []⟩]
def fas : List He.Fa := [.glo "is_integer", .glo "is_row", .glo "is_row_of", .glo "is_name", .glo "one_form", .glo "read_sum", .glo "read_words", .glo "read_branch", .glo "read_row", .glo "read_rows", .glo "length_of", .glo "measured", .glo "labels_in", .glo "is_too_long", .glo "grown_from", .glo "way_in", .glo "too_long_ones", .glo "_law_row", .glo "_law_cell", .glo "_law_same", .glo "_law_draft", .glo "_law_branches", .glo "_law_spots", .glo "_law_outs", .glo "_law_begins", .glo "_law_ways", .glo "_law_long", .glo "_law_grown", .glo "_law_met", .glo "_law_room", .glo "_law_moved", .glo "_law_room_right", .glo "_law_regrown", .glo "law", .glo "BadDraft", .glo "BadAt", .glo "Draft", .glo "NEAR_CODES", .glo "order_of", .free "len", .free "int", .free "str", .free "bool", .free "list", .free "tuple", .free "isinstance", .free "all", .free "sorted", .free "range", .free "enumerate", .free "zip", .free "dict", .free "min", .free "set", .str "LETTERS" lettersS, .int "LOWEST" (-256), .int "HIGHEST" 255, .exm "BadDraft" "BadDraft" true, .noat "BadDraft" "index", .meth "BadDraft" "__init__", .exm "BadAt" "BadAt" true, .noat "BadAt" "index", .meth "BadAt" "__init__", .exm "BadDraft" "BadAt" false, .meth "Draft" "__init__", .meth "Draft" "__eq__", .meth "Draft" "grown", .meth "Draft" "check_even", .meth "Draft" "check_at", .meth "Draft" "room", .meth "Draft" "put", .meth "Draft" "without", .meth "Draft" "regrown", .noat "Draft" "parts", .noat "Draft" "forks", .noat "Draft" "aims", .noat "Draft" "outs", .cls "Draft", .mkr "Draft"]
def tabs : List He.Tab := [(fun K => He.ga K "NEAR_CODES", ["ask", "go", "call"])]
def tfs : List He.Defn := [("law", none)]
/-- an own error class over ValueError -/
def oexB (K : PySem.W.Frag) (C : Addr) : Bool := (match K.lookup C with
  | some ⟨.type c, _, .cls z, sl⟩ => decide (c = "type") && (match z.mro, sl.toList with
    | .ref C1 :: m1, [_, _, _, _, some (.builtin b1), _] => decide (C1 = C) && (decide (b1 = "ValueError.__new__") && (!z.hasDel && (z.hasDict && PySem.HandSPX.refsVE m1)))
    | _, _ => false)
  | _ => false) && (He.eqO (PySem.W.findIn K (.ref C) "__setattr__") (some (some (.builtin "object.__setattr__"))) && (decide (PySem.W.subIn K (.ref C) (.type "BaseException") = some true) && (decide (PySem.W.typeIn K (.ref C) = some (.type "type")) && PySem.W.keepIn K (.ref C))))
def nearV : List (Str × He.Dv) := [("ask", .int 3), ("go", .int 5), ("call", .int 14)]
/-- what == of two drafts asks of their class -/
def drqB (K : PySem.W.Frag) (C : Addr) : Bool := He.eqO (PySem.W.findIn K (.ref C) "__class__") (some (some (.builtin "object.__class__"))) && (He.eqO (PySem.W.specialIn K (.builtin "object.__class__") "__get__") (some (some (.builtin "getset_descriptor.__get__"))) && (decide (PySem.W.takesIn K (.builtin "object.__class__") = some true) && (decide (PySem.W.mroIn K C (.type "object") = some true) && (decide (PySem.W.kitOne K (.ref C) (.ref C) = some true) && He.eqO (PySem.W.findIn K (.ref C) "__ne__") (some (some (.builtin "object.__ne__")))))))
def exs (K : PySem.W.Frag) : Bool := oexB K (He.ga K "BadDraft") && (xfB K (He.ga K "BadDraft") && (oexB K (He.ga K "BadAt") && (xfB K (He.ga K "BadAt") && (drqB K (He.ga K "Draft") && He.valsB K (He.ga K "NEAR_CODES") nearV))))
abbrev RR : PySem.W.OpenRow := PySem.W.OpenLaw.row PySem.Challenge.rw_loadanywhere_k57_one_row_more
abbrev hkk : PySem.W.Hook := He.hookX 5 fas fns tabs tfs exs
def obb (s : PySem.W.SharedT) : He.AlX := He.obsX 5 fas fns tabs tfs exs (HandSHeadRun.getT s)
theorem obb_eq (s : PySem.W.SharedT) : obb s = hkk.obs s.abs := He.obsX_eq (HandSHeadRun.getT_eq s)
abbrev loosL : List Str := (["_wall", "WordError", "BadDraft", "BadChoice", "NoBranch", "HasEven", "BadAt", "LETTERS", "is_integer", "is_row", "is_row_of", "is_name", "RANKS", "read_unknown", "order_of", "one_form", "read_sum", "NEAR_CODES", "LOWEST", "HIGHEST", "read_words", "read_branch", "read_row", "read_rows", "length_of", "measured", "labels_in", "is_too_long", "grown_from", "way_in"] : List Str) ++ (["too_long_ones", "is_ascending", "Draft", "_law_row", "_law_cell", "_law_same", "_law_draft", "_law_branches", "_law_spots", "_law_outs", "_law_begins", "_law_ways", "_law_long", "_law_grown", "_law_met", "_law_room", "_law_moved", "_law_room_right", "_law_regrown"] : List Str)
theorem run_false (w : World) : HandSHeadRun.RunEq RR (PySem.W.view RR.prog [55]) hkk obb 6000 loosL (w.withFollow "special-get-raises" false) := by
  intro os
  kernel_rfl
theorem run_true (w : World) : HandSHeadRun.RunEq RR (PySem.W.view RR.prog [55]) hkk obb 6000 loosL (w.withFollow "special-get-raises" true) := by
  intro os
  kernel_rfl
theorem runL (w : World) : HandSHeadRun.RunEq RR (PySem.W.view RR.prog [55]) hkk obb 6000 loosL w :=
  PySem.W.byRow2 "special-get-raises" (P := fun w => HandSHeadRun.RunEq RR (PySem.W.view RR.prog [55]) hkk obb 6000 loosL w) run_false run_true w

/-! ### the facts -/
theorem bb {a b : Bool} (h : (a && b) = true) : a = true ∧ b = true := by simpa using h
theorem oexB_ok {K : PySem.W.Frag} {C : Addr} (h : oexB K C = true) : OexC K C := by
  unfold oexB at h
  obtain ⟨h1, h⟩ := bb h
  obtain ⟨h2, h⟩ := bb h
  obtain ⟨h3, h⟩ := bb h
  obtain ⟨h4, h5⟩ := bb h
  refine ⟨?_, He.eqO_ok h2, of_decide_eq_true h3, of_decide_eq_true h4, h5⟩
  split at h1
  · rename_i cn od z sl hl
    obtain ⟨h6, h7⟩ := bb h1
    obtain rfl := of_decide_eq_true h6
    split at h7
    · rename_i C1 m1 k0 k1 k2 k3 b1 k5 hm hs
      obtain ⟨h8, h7⟩ := bb h7
      obtain ⟨h9, h7⟩ := bb h7
      obtain ⟨ha, h7⟩ := bb h7
      obtain ⟨hb, hc⟩ := bb h7
      obtain rfl := of_decide_eq_true h8
      obtain rfl := of_decide_eq_true h9
      obtain ⟨z1, z2, z3, z4, z5, z6, z7, z8, z9, za, zb⟩ := z
      dsimp only at hm ha hb
      subst hm
      have ha2 : zb = false := by simpa using ha
      subst ha2
      subst hb
      have hsl : sl = #[k0, k1, k2, k3, some (.builtin "ValueError.__new__"), k5] := by
        obtain ⟨l⟩ := sl
        simp only at hs
        rw [hs]
      rw [hsl] at hl
      exact ⟨_, _, _, _, _, _, _, _, _, _, _, _, _, _, _, hl, hc⟩
    · cases h7
  · cases h1
theorem fun_of {K : PySem.W.Frag} {x q : Str} {st : Stmt} {f : Addr} {fd : FuncData} (F : FunD K x q (defArgs st) (defBody st) (defScope st) [] [] f fd) : Fun K x q st f fd := by
  obtain ⟨oc, od, dV, kV, doc, pm, an, cdv, ct, osl, e, lk, hc, hD, hK⟩ := F.ex
  rcases hD with ⟨_, rfl⟩ | ⟨z, _⟩
  · exact ⟨⟨oc, od, kV, doc, pm, an, cdv, ct, osl, e, lk, hc⟩, F.kp⟩
  · exact absurd rfl z
theorem funC_of {K : PySem.W.Frag} {x : Str} {st : Stmt} {p : Str × Option Str} {fd : FuncData} (F : FunD K x x (defArgs st) (defBody st) (defScope st) [] [] (He.fAd K p) fd) : FunC K x st (He.cT K p).1 (He.fAd K p) fd := by
  obtain ⟨oc, od, dV, kV, doc, pm, an, cdv, ct, osl, e, lk, hc, hD, hK⟩ := F.ex
  rcases hD with ⟨_, rfl⟩ | ⟨z, _⟩
  · obtain ⟨c, rfl⟩ := He.codeIn_ref hc
    have ec : (He.cT K p).1 = c := He.codeOf_eq lk (by rw [e])
    rw [ec]
    exact ⟨⟨oc, od, kV, doc, pm, an, ct, osl, e, lk, hc⟩, F.kp⟩
  · exact absurd rfl z
theorem has_of {P : Program} {w : World} {K : PySem.W.Frag} {mg : Str → Option Value} {base : Heap} {CX : CXT} {k : Nat} {x : Str} {ps : List Str} {sp : Sp} {f : Addr} {fd : FuncData} (g : mg x = some (.ref f)) (kp : PySem.W.keepIn K (.ref f) = true) (b : Binds K fd ps []) (o : FnOk P w K mg base CX k f fd ps sp) : Has P w K mg base CX k x ps sp :=
  ⟨⟨f, fd, g, kp, b, o⟩⟩
section
variable {w : World} {K : PySem.W.Frag} {mg : Str → Option Value} {h : Heap}
theorem near_of (X : K.In h) (G : h.Ns mainGlobals mg) (c : He.SaysX fas fns tabs tfs exs w h K) (v : He.valsB K (He.ga K "NEAR_CODES") nearV = true) : Near K w mg (He.ga K "NEAR_CODES") := by
  have e : tabs.map (fun t => He.dicW K (t.1 K)) = tabs.map fun t => some (He.keysIn w.params t.2) := congrArg (fun z : He.AlT => z.2) c.t
  have e2 : He.dicW K (He.ga K "NEAR_CODES") = some (He.keysIn w.params ["ask", "go", "call"]) := by
    have z : [He.dicW K (He.ga K "NEAR_CODES")] = [some (He.keysIn w.params ["ask", "go", "call"])] := e
    injection z
  refine ⟨He.glo_ok X G (c.t.d.fact 37 (f := .glo "NEAR_CODES") rfl), He.dicW_ok e2, fun z hz => ?_⟩
  have hz' : z = "ask" ∨ z = "go" ∨ z = "call" := by
    rcases List.mem_cons.mp hz with h | h
    · exact .inl h
    · rcases List.mem_cons.mp h with h | h
      · exact .inr (.inl h)
      · exact .inr (.inr (List.mem_singleton.mp h))
  rcases hz' with rfl | rfl | rfl
  · obtain ⟨u, h1, _⟩ := He.valsB_ok v (q := ("ask", .int 3)) (by unfold nearV; exact List.mem_cons_self ..)
    exact ⟨u, h1⟩
  · obtain ⟨u, h1, _⟩ := He.valsB_ok v (q := ("go", .int 5)) (by unfold nearV; exact List.mem_cons_of_mem _ (List.mem_cons_self ..))
    exact ⟨u, h1⟩
  · obtain ⟨u, h1, _⟩ := He.valsB_ok v (q := ("call", .int 14)) (by unfold nearV; exact List.mem_cons_of_mem _ (List.mem_cons_of_mem _ (List.mem_cons_self ..)))
    exact ⟨u, h1⟩
theorem bi_of (X : K.In h) (G : h.Ns mainGlobals mg) (c : He.SaysD fas fns K) : Bi mg :=
  ⟨He.free_ok X G (c.fact 39 (f := .free "len") rfl), He.free_ok X G (c.fact 40 (f := .free "int") rfl), He.free_ok X G (c.fact 41 (f := .free "str") rfl), He.free_ok X G (c.fact 42 (f := .free "bool") rfl), He.free_ok X G (c.fact 43 (f := .free "list") rfl), He.free_ok X G (c.fact 44 (f := .free "tuple") rfl), He.free_ok X G (c.fact 45 (f := .free "isinstance") rfl), He.free_ok X G (c.fact 46 (f := .free "all") rfl), He.free_ok X G (c.fact 47 (f := .free "sorted") rfl), He.free_ok X G (c.fact 48 (f := .free "range") rfl), He.free_ok X G (c.fact 49 (f := .free "enumerate") rfl), He.free_ok X G (c.fact 50 (f := .free "zip") rfl), He.free_ok X G (c.fact 51 (f := .free "dict") rfl), He.free_ok X G (c.fact 52 (f := .free "min") rfl), He.free_ok X G (c.fact 53 (f := .free "set") rfl)⟩
theorem drqB_ok {C fe : Addr} (h : drqB K C = true) (e : PySem.W.findIn K (.ref C) "__eq__" = some (some (.ref fe))) (n : PySem.W.isFn K (.ref fe) = true) : DrQ K C fe := by
  unfold drqB at h
  obtain ⟨h1, h⟩ := bb h
  obtain ⟨h2, h⟩ := bb h
  obtain ⟨h3, h⟩ := bb h
  obtain ⟨h4, h⟩ := bb h
  obtain ⟨h5, h6⟩ := bb h
  exact ⟨He.eqO_ok h1, He.eqO_ok h2, of_decide_eq_true h3, of_decide_eq_true h4, of_decide_eq_true h5, He.eqO_ok h6, e, n⟩
end
abbrev cL (K : PySem.W.Frag) : Addr × Addr := He.cT K ("law", none)
abbrev TT (K : PySem.W.Frag) : List (Addr × Str) := [((cL K).2, qLaw)]
theorem facts {P : Program} {w : World} {K : PySem.W.Frag} {mg : Str → Option Value} {h : Heap} (X : K.In h) (G : h.Ns mainGlobals mg) (c : He.SaysX fas fns tabs tfs exs w h K) :
    ∃ fd : FuncData, (∀ (s : Shared) (u : Value), BindsTo s fd ⟨[u], []⟩ [("script", u)]) ∧ ∀ base : Heap, K.In base → base.Ns mainGlobals mg → LamX.TabB base mg (cL K).1 (cL K).2 →
      FnOk P w K mg base (L2.CX P w) 14 (He.ga K "law") fd ["script"] (spLaw K (TT K)) := by
  obtain ⟨x1, hx⟩ := bb c.more
  obtain ⟨x2, hx⟩ := bb hx
  obtain ⟨x3, hx⟩ := bb hx
  obtain ⟨x4, hx⟩ := bb hx
  obtain ⟨x5, x6⟩ := bb hx
  have T := bi_of X G c.t.d
  have N := near_of X G c x6
  obtain ⟨tLet, gLet⟩ := He.str_ok X G (c.t.d.fact 54 (f := .str "LETTERS" lettersS) rfl)
  obtain ⟨tLow, gLow⟩ := He.int_ok X G (c.t.d.fact 55 (f := .int "LOWEST" (-256)) rfl)
  obtain ⟨tHi, gHi⟩ := He.int_ok X G (c.t.d.fact 56 (f := .int "HIGHEST" 255) rfl)
  have gB : mg "BadDraft" = some (.ref (He.ga K "BadDraft")) := He.glo_ok X G (c.t.d.fact 34 (f := .glo "BadDraft") rfl)
  have gA : mg "BadAt" = some (.ref (He.ga K "BadAt")) := He.glo_ok X G (c.t.d.fact 35 (f := .glo "BadAt") rfl)
  have gD : mg "Draft" = some (.ref (He.ga K "Draft")) := He.glo_ok X G (c.t.d.fact 36 (f := .glo "Draft") rfl)
  have gO : mg "order_of" = some (.ref (He.ga K "order_of")) := He.glo_ok X G (c.t.d.fact 38 (f := .glo "order_of") rfl)
  have eB := He.exm_ok (c.t.d.fact 57 (f := .exm "BadDraft" "BadDraft" true) rfl)
  have nB := He.noat_ok (c.t.d.fact 58 (f := .noat "BadDraft" "index") rfl)
  have mB := He.meth_ok (c.t.d.fact 59 (f := .meth "BadDraft" "__init__") rfl)
  have eA := He.exm_ok (c.t.d.fact 60 (f := .exm "BadAt" "BadAt" true) rfl)
  have nA := He.noat_ok (c.t.d.fact 61 (f := .noat "BadAt" "index") rfl)
  have mA := He.meth_ok (c.t.d.fact 62 (f := .meth "BadAt" "__init__") rfl)
  have off := He.exm_ok (c.t.d.fact 63 (f := .exm "BadDraft" "BadAt" false) rfl)
  have OB := oexB_ok x1
  have XB := xfB_ok x2
  have OA := oexB_ok x3
  have XA := xfB_ok x4
  have CD := He.cls_ok (c.t.d.fact 77 (f := .cls "Draft") rfl)
  have KD := He.mkr_ok (c.t.d.fact 78 (f := .mkr "Draft") rfl)
  have B : DrC K (He.ga K "Draft") := ⟨CD, He.noat_ok (c.t.d.fact 73 (f := .noat "Draft" "parts") rfl), He.noat_ok (c.t.d.fact 74 (f := .noat "Draft" "forks") rfl), He.noat_ok (c.t.d.fact 75 (f := .noat "Draft" "aims") rfl), He.noat_ok (c.t.d.fact 76 (f := .noat "Draft" "outs") rfl)⟩
  obtain ⟨d0, D0⟩ := c.t.d.def_ 0 (d := dd "is_integer" 10) rfl
  have F0 : Fun K "is_integer" "is_integer" sIsInt (He.ga K "is_integer") d0 := fun_of D0
  have g0 : mg "is_integer" = some (.ref (He.ga K "is_integer")) := He.glo_ok X G (c.t.d.fact 0 (f := .glo "is_integer") rfl)
  have b0 : Binds K d0 ["thing"] [] := F0.binds fun _ _ _ _ _ _ us hl => match us, hl with | [_], _ => rfl
  obtain ⟨d1, D1⟩ := c.t.d.def_ 1 (d := dd "is_row" 11) rfl
  have F1 : Fun K "is_row" "is_row" sIsRow (He.ga K "is_row") d1 := fun_of D1
  have g1 : mg "is_row" = some (.ref (He.ga K "is_row")) := He.glo_ok X G (c.t.d.fact 1 (f := .glo "is_row") rfl)
  have b1 : Binds K d1 ["thing"] [] := F1.binds fun _ _ _ _ _ _ us hl => match us, hl with | [_], _ => rfl
  obtain ⟨d2, D2⟩ := c.t.d.def_ 2 (d := dd "is_row_of" 12) rfl
  have F2 : Fun K "is_row_of" "is_row_of" sIsRowOf (He.ga K "is_row_of") d2 := fun_of D2
  have g2 : mg "is_row_of" = some (.ref (He.ga K "is_row_of")) := He.glo_ok X G (c.t.d.fact 2 (f := .glo "is_row_of") rfl)
  have b2 : Binds K d2 ["thing", "many"] [] := F2.binds fun _ _ _ _ _ _ us hl => match us, hl with | [_, _], _ => rfl
  obtain ⟨d3, D3⟩ := c.t.d.def_ 3 (d := dd "is_name" 13) rfl
  have F3 : Fun K "is_name" "is_name" sIsName (He.ga K "is_name") d3 := fun_of D3
  have g3 : mg "is_name" = some (.ref (He.ga K "is_name")) := He.glo_ok X G (c.t.d.fact 3 (f := .glo "is_name") rfl)
  have b3 : Binds K d3 ["thing"] [] := F3.binds fun _ _ _ _ _ _ us hl => match us, hl with | [_], _ => rfl
  obtain ⟨d4, D4⟩ := c.t.d.def_ 4 (d := dd "one_form" 18) rfl
  have F4 : Fun K "one_form" "one_form" sOneForm (He.ga K "one_form") d4 := fun_of D4
  have g4 : mg "one_form" = some (.ref (He.ga K "one_form")) := He.glo_ok X G (c.t.d.fact 4 (f := .glo "one_form") rfl)
  have b4 : Binds K d4 ["number", "multiples"] [] := F4.binds fun _ _ _ _ _ _ us hl => match us, hl with | [_, _], _ => rfl
  obtain ⟨d5, D5⟩ := c.t.d.def_ 5 (d := dd "read_sum" 19) rfl
  have F5 : Fun K "read_sum" "read_sum" sReadSum (He.ga K "read_sum") d5 := fun_of D5
  have g5 : mg "read_sum" = some (.ref (He.ga K "read_sum")) := He.glo_ok X G (c.t.d.fact 5 (f := .glo "read_sum") rfl)
  have b5 : Binds K d5 ["thing"] [] := F5.binds fun _ _ _ _ _ _ us hl => match us, hl with | [_], _ => rfl
  obtain ⟨d6, D6⟩ := c.t.d.def_ 6 (d := dd "read_words" 24) rfl
  have F6 : Fun K "read_words" "read_words" sReadWords (He.ga K "read_words") d6 := fun_of D6
  have g6 : mg "read_words" = some (.ref (He.ga K "read_words")) := He.glo_ok X G (c.t.d.fact 6 (f := .glo "read_words") rfl)
  have b6 : Binds K d6 ["thing"] [] := F6.binds fun _ _ _ _ _ _ us hl => match us, hl with | [_], _ => rfl
  obtain ⟨d7, D7⟩ := c.t.d.def_ 7 (d := dd "read_branch" 25) rfl
  have F7 : Fun K "read_branch" "read_branch" sReadBranch (He.ga K "read_branch") d7 := fun_of D7
  have g7 : mg "read_branch" = some (.ref (He.ga K "read_branch")) := He.glo_ok X G (c.t.d.fact 7 (f := .glo "read_branch") rfl)
  have b7 : Binds K d7 ["called", "n", "more"] [] := F7.binds fun _ _ _ _ _ _ us hl => match us, hl with | [_, _, _], _ => rfl
  obtain ⟨d8, D8⟩ := c.t.d.def_ 8 (d := dd "read_row" 26) rfl
  have F8 : Fun K "read_row" "read_row" sReadRow (He.ga K "read_row") d8 := fun_of D8
  have g8 : mg "read_row" = some (.ref (He.ga K "read_row")) := He.glo_ok X G (c.t.d.fact 8 (f := .glo "read_row") rfl)
  have b8 : Binds K d8 ["thing"] [] := F8.binds fun _ _ _ _ _ _ us hl => match us, hl with | [_], _ => rfl
  obtain ⟨d9, D9⟩ := c.t.d.def_ 9 (d := dd "read_rows" 27) rfl
  have F9 : Fun K "read_rows" "read_rows" sReadRows (He.ga K "read_rows") d9 := fun_of D9
  have g9 : mg "read_rows" = some (.ref (He.ga K "read_rows")) := He.glo_ok X G (c.t.d.fact 9 (f := .glo "read_rows") rfl)
  have b9 : Binds K d9 ["rows"] [] := F9.binds fun _ _ _ _ _ _ us hl => match us, hl with | [_], _ => rfl
  obtain ⟨d10, D10⟩ := c.t.d.def_ 10 (d := dd "length_of" 28) rfl
  have F10 : Fun K "length_of" "length_of" sLengthOf (He.ga K "length_of") d10 := fun_of D10
  have g10 : mg "length_of" = some (.ref (He.ga K "length_of")) := He.glo_ok X G (c.t.d.fact 10 (f := .glo "length_of") rfl)
  have b10 : Binds K d10 ["row", "begin", "is_far"] [] := F10.binds fun _ _ _ _ _ _ us hl => match us, hl with | [_, _, _], _ => rfl
  obtain ⟨d11, D11⟩ := c.t.d.def_ 11 (d := dd "measured" 29) rfl
  have F11 : Fun K "measured" "measured" sMeasured (He.ga K "measured") d11 := fun_of D11
  have g11 : mg "measured" = some (.ref (He.ga K "measured")) := He.glo_ok X G (c.t.d.fact 11 (f := .glo "measured") rfl)
  have b11 : Binds K d11 ["rows", "far"] [] := F11.binds fun _ _ _ _ _ _ us hl => match us, hl with | [_, _], _ => rfl
  obtain ⟨d12, D12⟩ := c.t.d.def_ 12 (d := dd "labels_in" 30) rfl
  have F12 : Fun K "labels_in" "labels_in" sLabelsIn (He.ga K "labels_in") d12 := fun_of D12
  have g12 : mg "labels_in" = some (.ref (He.ga K "labels_in")) := He.glo_ok X G (c.t.d.fact 12 (f := .glo "labels_in") rfl)
  have b12 : Binds K d12 ["rows"] [] := F12.binds fun _ _ _ _ _ _ us hl => match us, hl with | [_], _ => rfl
  obtain ⟨d13, D13⟩ := c.t.d.def_ 13 (d := dd "is_too_long" 31) rfl
  have F13 : Fun K "is_too_long" "is_too_long" sIsTooLong (He.ga K "is_too_long") d13 := fun_of D13
  have g13 : mg "is_too_long" = some (.ref (He.ga K "is_too_long")) := He.glo_ok X G (c.t.d.fact 13 (f := .glo "is_too_long") rfl)
  have b13 : Binds K d13 ["way"] [] := F13.binds fun _ _ _ _ _ _ us hl => match us, hl with | [_], _ => rfl
  obtain ⟨d14, D14⟩ := c.t.d.def_ 14 (d := dd "grown_from" 33) rfl
  have F14 : Fun K "grown_from" "grown_from" sGrownFrom (He.ga K "grown_from") d14 := fun_of D14
  have g14 : mg "grown_from" = some (.ref (He.ga K "grown_from")) := He.glo_ok X G (c.t.d.fact 14 (f := .glo "grown_from") rfl)
  have b14 : Binds K d14 ["parts", "aims", "far"] [] := F14.binds fun _ _ _ _ _ _ us hl => match us, hl with | [_, _, _], _ => rfl
  obtain ⟨d15, D15⟩ := c.t.d.def_ 15 (d := dd "way_in" 34) rfl
  have F15 : Fun K "way_in" "way_in" sWayIn (He.ga K "way_in") d15 := fun_of D15
  have g15 : mg "way_in" = some (.ref (He.ga K "way_in")) := He.glo_ok X G (c.t.d.fact 15 (f := .glo "way_in") rfl)
  have b15 : Binds K d15 ["aims", "offsets", "index"] [] := F15.binds fun _ _ _ _ _ _ us hl => match us, hl with | [_, _, _], _ => rfl
  obtain ⟨d16, D16⟩ := c.t.d.def_ 16 (d := dd "too_long_ones" 35) rfl
  have F16 : Fun K "too_long_ones" "too_long_ones" sTooLong (He.ga K "too_long_ones") d16 := fun_of D16
  have g16 : mg "too_long_ones" = some (.ref (He.ga K "too_long_ones")) := He.glo_ok X G (c.t.d.fact 16 (f := .glo "too_long_ones") rfl)
  have b16 : Binds K d16 ["parts", "aims", "far"] [] := F16.binds fun _ _ _ _ _ _ us hl => match us, hl with | [_, _, _], _ => rfl
  obtain ⟨d17, D17⟩ := c.t.d.def_ 17 (d := dd "_law_row" 39) rfl
  have F17 : Fun K "_law_row" "_law_row" sLRow (He.ga K "_law_row") d17 := fun_of D17
  have g17 : mg "_law_row" = some (.ref (He.ga K "_law_row")) := He.glo_ok X G (c.t.d.fact 17 (f := .glo "_law_row") rfl)
  have b17 : Binds K d17 ["cell", "sizes"] [] := F17.binds fun _ _ _ _ _ _ us hl => match us, hl with | [_, _], _ => rfl
  obtain ⟨d18, D18⟩ := c.t.d.def_ 18 (d := dd "_law_cell" 40) rfl
  have F18 : Fun K "_law_cell" "_law_cell" sLCell (He.ga K "_law_cell") d18 := fun_of D18
  have g18 : mg "_law_cell" = some (.ref (He.ga K "_law_cell")) := He.glo_ok X G (c.t.d.fact 18 (f := .glo "_law_cell") rfl)
  have b18 : Binds K d18 ["script", "k"] [] := F18.binds fun _ _ _ _ _ _ us hl => match us, hl with | [_, _], _ => rfl
  obtain ⟨d19, D19⟩ := c.t.d.def_ 19 (d := dd "_law_same" 41) rfl
  have F19 : Fun K "_law_same" "_law_same" sSame (He.ga K "_law_same") d19 := fun_of D19
  have g19 : mg "_law_same" = some (.ref (He.ga K "_law_same")) := He.glo_ok X G (c.t.d.fact 19 (f := .glo "_law_same") rfl)
  have b19 : Binds K d19 ["found", "due"] [] := F19.binds fun _ _ _ _ _ _ us hl => match us, hl with | [_, _], _ => rfl
  obtain ⟨d20, D20⟩ := c.t.d.def_ 20 (d := dd "_law_draft" 42) rfl
  have F20 : Fun K "_law_draft" "_law_draft" sLDraft (He.ga K "_law_draft") d20 := fun_of D20
  have g20 : mg "_law_draft" = some (.ref (He.ga K "_law_draft")) := He.glo_ok X G (c.t.d.fact 20 (f := .glo "_law_draft") rfl)
  have b20 : Binds K d20 ["cell", "most", "is_even"] [] := F20.binds fun _ _ _ _ _ _ us hl => match us, hl with | [_, _, _], _ => rfl
  obtain ⟨d21, D21⟩ := c.t.d.def_ 21 (d := dd "_law_branches" 43) rfl
  have F21 : Fun K "_law_branches" "_law_branches" sLBr (He.ga K "_law_branches") d21 := fun_of D21
  have g21 : mg "_law_branches" = some (.ref (He.ga K "_law_branches")) := He.glo_ok X G (c.t.d.fact 21 (f := .glo "_law_branches") rfl)
  have b21 : Binds K d21 ["rows"] [] := F21.binds fun _ _ _ _ _ _ us hl => match us, hl with | [_], _ => rfl
  obtain ⟨d22, D22⟩ := c.t.d.def_ 22 (d := dd "_law_spots" 44) rfl
  have F22 : Fun K "_law_spots" "_law_spots" sLSp (He.ga K "_law_spots") d22 := fun_of D22
  have g22 : mg "_law_spots" = some (.ref (He.ga K "_law_spots")) := He.glo_ok X G (c.t.d.fact 22 (f := .glo "_law_spots") rfl)
  have b22 : Binds K d22 ["rows"] [] := F22.binds fun _ _ _ _ _ _ us hl => match us, hl with | [_], _ => rfl
  obtain ⟨d23, D23⟩ := c.t.d.def_ 23 (d := dd "_law_outs" 45) rfl
  have F23 : Fun K "_law_outs" "_law_outs" sLOu (He.ga K "_law_outs") d23 := fun_of D23
  have g23 : mg "_law_outs" = some (.ref (He.ga K "_law_outs")) := He.glo_ok X G (c.t.d.fact 23 (f := .glo "_law_outs") rfl)
  have b23 : Binds K d23 ["rows"] [] := F23.binds fun _ _ _ _ _ _ us hl => match us, hl with | [_], _ => rfl
  obtain ⟨d24, D24⟩ := c.t.d.def_ 24 (d := dd "_law_begins" 46) rfl
  have F24 : Fun K "_law_begins" "_law_begins" sLBe (He.ga K "_law_begins") d24 := fun_of D24
  have g24 : mg "_law_begins" = some (.ref (He.ga K "_law_begins")) := He.glo_ok X G (c.t.d.fact 24 (f := .glo "_law_begins") rfl)
  have b24 : Binds K d24 ["rows", "far"] [] := F24.binds fun _ _ _ _ _ _ us hl => match us, hl with | [_, _], _ => rfl
  obtain ⟨d25, D25⟩ := c.t.d.def_ 25 (d := dd "_law_ways" 47) rfl
  have F25 : Fun K "_law_ways" "_law_ways" sLWa (He.ga K "_law_ways") d25 := fun_of D25
  have g25 : mg "_law_ways" = some (.ref (He.ga K "_law_ways")) := He.glo_ok X G (c.t.d.fact 25 (f := .glo "_law_ways") rfl)
  have b25 : Binds K d25 ["rows", "far"] [] := F25.binds fun _ _ _ _ _ _ us hl => match us, hl with | [_, _], _ => rfl
  obtain ⟨d26, D26⟩ := c.t.d.def_ 26 (d := dd "_law_long" 48) rfl
  have F26 : Fun K "_law_long" "_law_long" sLLo (He.ga K "_law_long") d26 := fun_of D26
  have g26 : mg "_law_long" = some (.ref (He.ga K "_law_long")) := He.glo_ok X G (c.t.d.fact 26 (f := .glo "_law_long") rfl)
  have b26 : Binds K d26 ["rows", "far"] [] := F26.binds fun _ _ _ _ _ _ us hl => match us, hl with | [_, _], _ => rfl
  obtain ⟨d27, D27⟩ := c.t.d.def_ 27 (d := dd "_law_grown" 49) rfl
  have F27 : Fun K "_law_grown" "_law_grown" sLGr (He.ga K "_law_grown") d27 := fun_of D27
  have g27 : mg "_law_grown" = some (.ref (He.ga K "_law_grown")) := He.glo_ok X G (c.t.d.fact 27 (f := .glo "_law_grown") rfl)
  have b27 : Binds K d27 ["rows"] [] := F27.binds fun _ _ _ _ _ _ us hl => match us, hl with | [_], _ => rfl
  obtain ⟨d28, D28⟩ := c.t.d.def_ 28 (d := dd "_law_met" 50) rfl
  have F28 : Fun K "_law_met" "_law_met" sMet (He.ga K "_law_met") d28 := fun_of D28
  have g28 : mg "_law_met" = some (.ref (He.ga K "_law_met")) := He.glo_ok X G (c.t.d.fact 28 (f := .glo "_law_met") rfl)
  have b28 : Binds K d28 ["ask"] [] := F28.binds fun _ _ _ _ _ _ us hl => match us, hl with | [_], _ => rfl
  obtain ⟨d29, D29⟩ := c.t.d.def_ 29 (d := dd "_law_room" 51) rfl
  have F29 : Fun K "_law_room" "_law_room" sLRm (He.ga K "_law_room") d29 := fun_of D29
  have g29 : mg "_law_room" = some (.ref (He.ga K "_law_room")) := He.glo_ok X G (c.t.d.fact 29 (f := .glo "_law_room") rfl)
  have b29 : Binds K d29 ["rows", "at"] [] := F29.binds fun _ _ _ _ _ _ us hl => match us, hl with | [_, _], _ => rfl
  obtain ⟨d30, D30⟩ := c.t.d.def_ 30 (d := dd "_law_moved" 52) rfl
  have F30 : Fun K "_law_moved" "_law_moved" sLMv (He.ga K "_law_moved") d30 := fun_of D30
  have g30 : mg "_law_moved" = some (.ref (He.ga K "_law_moved")) := He.glo_ok X G (c.t.d.fact 30 (f := .glo "_law_moved") rfl)
  have b30 : Binds K d30 ["ks", "at"] [] := F30.binds fun _ _ _ _ _ _ us hl => match us, hl with | [_, _], _ => rfl
  obtain ⟨d31, D31⟩ := c.t.d.def_ 31 (d := dd "_law_room_right" 53) rfl
  have F31 : Fun K "_law_room_right" "_law_room_right" sLRr (He.ga K "_law_room_right") d31 := fun_of D31
  have g31 : mg "_law_room_right" = some (.ref (He.ga K "_law_room_right")) := He.glo_ok X G (c.t.d.fact 31 (f := .glo "_law_room_right") rfl)
  have b31 : Binds K d31 ["made", "rows", "at"] [] := F31.binds fun _ _ _ _ _ _ us hl => match us, hl with | [_, _, _], _ => rfl
  obtain ⟨d32, D32⟩ := c.t.d.def_ 32 (d := dd "_law_regrown" 54) rfl
  have F32 : Fun K "_law_regrown" "_law_regrown" sLRe (He.ga K "_law_regrown") d32 := fun_of D32
  have g32 : mg "_law_regrown" = some (.ref (He.ga K "_law_regrown")) := He.glo_ok X G (c.t.d.fact 32 (f := .glo "_law_regrown") rfl)
  have b32 : Binds K d32 ["rows", "at", "row"] [] := F32.binds fun _ _ _ _ _ _ us hl => match us, hl with | [_, _, _], _ => rfl
  obtain ⟨d33, D33⟩ := c.t.d.def_ 33 (d := dd "law" 55) rfl
  have F33 : Fun K "law" "law" sLaw (He.ga K "law") d33 := fun_of D33
  have g33 : mg "law" = some (.ref (He.ga K "law")) := He.glo_ok X G (c.t.d.fact 33 (f := .glo "law") rfl)
  have b33 : Binds K d33 ["script"] [] := F33.binds fun _ _ _ _ _ _ us hl => match us, hl with | [_], _ => rfl
  obtain ⟨dB, DB⟩ := c.t.d.def_ 34 (d := ⟨("BadDraft", some "__init__"), "__init__", "BadDraft.__init__", defArgs sIniB, defBody sIniB, defScope sIniB, [], []⟩) rfl
  have FB : Fun K "__init__" "BadDraft.__init__" sIniB (He.ma K (He.ga K "BadDraft") "__init__") dB := fun_of DB
  have bB : Binds K dB ["self", "index"] [] := FB.binds fun _ _ _ _ _ _ us hl => match us, hl with | [_, _], _ => rfl
  obtain ⟨dA, DA⟩ := c.t.d.def_ 35 (d := ⟨("BadAt", some "__init__"), "__init__", "BadAt.__init__", defArgs sIniA, defBody sIniA, defScope sIniA, [], []⟩) rfl
  have FA : Fun K "__init__" "BadAt.__init__" sIniA (He.ma K (He.ga K "BadAt") "__init__") dA := fun_of DA
  have bA : Binds K dA ["self", "index"] [] := FA.binds fun _ _ _ _ _ _ us hl => match us, hl with | [_, _], _ => rfl
  obtain ⟨e0, E0⟩ := c.t.d.def_ 36 (d := ⟨("Draft", some "__init__"), "__init__", "Draft.__init__", defArgs sInit, defBody sInit, defScope sInit, [], []⟩) rfl
  have M0 : Fun K "__init__" "Draft.__init__" sInit (He.ma K (He.ga K "Draft") "__init__") e0 := fun_of E0
  have q0 : Binds K e0 ["self", "rows"] [] := M0.binds fun _ _ _ _ _ _ us hl => match us, hl with | [_, _], _ => rfl
  have a0 := He.meth_ok (c.t.d.fact 64 (f := .meth "Draft" "__init__") rfl)
  obtain ⟨e1, E1⟩ := c.t.d.def_ 37 (d := ⟨("Draft", some "__eq__"), "__eq__", "Draft.__eq__", defArgs sEq, defBody sEq, defScope sEq, [], []⟩) rfl
  have M1 : Fun K "__eq__" "Draft.__eq__" sEq (He.ma K (He.ga K "Draft") "__eq__") e1 := fun_of E1
  have q1 : Binds K e1 ["self", "other"] [] := M1.binds fun _ _ _ _ _ _ us hl => match us, hl with | [_, _], _ => rfl
  have a1 := He.meth_ok (c.t.d.fact 65 (f := .meth "Draft" "__eq__") rfl)
  obtain ⟨e2, E2⟩ := c.t.d.def_ 38 (d := ⟨("Draft", some "grown"), "grown", "Draft.grown", defArgs sGrown, defBody sGrown, defScope sGrown, [], []⟩) rfl
  have M2 : Fun K "grown" "Draft.grown" sGrown (He.ma K (He.ga K "Draft") "grown") e2 := fun_of E2
  have q2 : Binds K e2 ["self"] [] := M2.binds fun _ _ _ _ _ _ us hl => match us, hl with | [_], _ => rfl
  have a2 := He.meth_ok (c.t.d.fact 66 (f := .meth "Draft" "grown") rfl)
  obtain ⟨e3, E3⟩ := c.t.d.def_ 39 (d := ⟨("Draft", some "check_even"), "check_even", "Draft.check_even", defArgs sCheckEven, defBody sCheckEven, defScope sCheckEven, [], []⟩) rfl
  have M3 : Fun K "check_even" "Draft.check_even" sCheckEven (He.ma K (He.ga K "Draft") "check_even") e3 := fun_of E3
  have q3 : Binds K e3 ["self"] [] := M3.binds fun _ _ _ _ _ _ us hl => match us, hl with | [_], _ => rfl
  have a3 := He.meth_ok (c.t.d.fact 67 (f := .meth "Draft" "check_even") rfl)
  obtain ⟨e4, E4⟩ := c.t.d.def_ 40 (d := ⟨("Draft", some "check_at"), "check_at", "Draft.check_at", defArgs sCheckAt, defBody sCheckAt, defScope sCheckAt, [], []⟩) rfl
  have M4 : Fun K "check_at" "Draft.check_at" sCheckAt (He.ma K (He.ga K "Draft") "check_at") e4 := fun_of E4
  have q4 : Binds K e4 ["self", "at", "most"] [] := M4.binds fun _ _ _ _ _ _ us hl => match us, hl with | [_, _, _], _ => rfl
  have a4 := He.meth_ok (c.t.d.fact 68 (f := .meth "Draft" "check_at") rfl)
  obtain ⟨e5, E5⟩ := c.t.d.def_ 41 (d := ⟨("Draft", some "room"), "room", "Draft.room", defArgs sRoom, defBody sRoom, defScope sRoom, [], []⟩) rfl
  have M5 : Fun K "room" "Draft.room" sRoom (He.ma K (He.ga K "Draft") "room") e5 := fun_of E5
  have q5 : Binds K e5 ["self", "at"] [] := M5.binds fun _ _ _ _ _ _ us hl => match us, hl with | [_, _], _ => rfl
  have a5 := He.meth_ok (c.t.d.fact 69 (f := .meth "Draft" "room") rfl)
  obtain ⟨e6, E6⟩ := c.t.d.def_ 42 (d := ⟨("Draft", some "put"), "put", "Draft.put", defArgs sPut, defBody sPut, defScope sPut, [], []⟩) rfl
  have M6 : Fun K "put" "Draft.put" sPut (He.ma K (He.ga K "Draft") "put") e6 := fun_of E6
  have q6 : Binds K e6 ["self", "at", "row"] [] := M6.binds fun _ _ _ _ _ _ us hl => match us, hl with | [_, _, _], _ => rfl
  have a6 := He.meth_ok (c.t.d.fact 70 (f := .meth "Draft" "put") rfl)
  obtain ⟨e7, E7⟩ := c.t.d.def_ 43 (d := ⟨("Draft", some "without"), "without", "Draft.without", defArgs sWithout, defBody sWithout, defScope sWithout, [], []⟩) rfl
  have M7 : Fun K "without" "Draft.without" sWithout (He.ma K (He.ga K "Draft") "without") e7 := fun_of E7
  have q7 : Binds K e7 ["self", "at"] [] := M7.binds fun _ _ _ _ _ _ us hl => match us, hl with | [_, _], _ => rfl
  have a7 := He.meth_ok (c.t.d.fact 71 (f := .meth "Draft" "without") rfl)
  obtain ⟨e8, E8⟩ := c.t.d.def_ 44 (d := ⟨("Draft", some "regrown"), "regrown", "Draft.regrown", defArgs sRegrown, defBody sRegrown, defScope sRegrown, [], []⟩) rfl
  have M8 : Fun K "regrown" "Draft.regrown" sRegrown (He.ma K (He.ga K "Draft") "regrown") e8 := fun_of E8
  have q8 : Binds K e8 ["self", "at", "row"] [] := M8.binds fun _ _ _ _ _ _ us hl => match us, hl with | [_, _, _], _ => rfl
  have a8 := He.meth_ok (c.t.d.fact 72 (f := .meth "Draft" "regrown") rfl)
  have CF : FunC K "law" sLaw (cL K).1 (He.ga K "law") d33 := funC_of (p := ("law", none)) D33
  refine ⟨d33, fun s u => ?_, fun base Xb Gb TL1 => ?_⟩
  · exact FunD.bindsA (ps := ["script"]) D33 (fun _ _ _ _ _ _ us hl => match us, hl with | [_], _ => rfl) s [u] rfl
  have EB : Err P w K mg base "BadDraft" (He.ga K "BadDraft") "index" := ⟨gB, OB, nB, XB, eB, ⟨_, dB, "index", mB.at_, eq_of_beq mB.fn, bB, ok_iniB FB OB nB⟩⟩
  have EH : ErrH P w K mg base "BadDraft" (He.ga K "BadDraft") "index" := ⟨EB, ⟨_, dB, "index", mB.at_, eq_of_beq mB.fn, bB, ok_iniBH FB OB nB⟩⟩
  have EA : Err P w K mg base "BadAt" (He.ga K "BadAt") "index" := ⟨gA, OA, nA, XA, eA, ⟨_, dA, "index", mA.at_, eq_of_beq mA.fn, bA, ok_iniA FA OA nA⟩⟩
  have H0 := has_of (base := base) (P := P) (w := w) g0 D0.kp b0 (ok_isInt F0 T)
  have H1 := has_of (base := base) (P := P) (w := w) g1 D1.kp b1 (ok_isRow F1 T)
  have H2 := has_of (base := base) (P := P) (w := w) g2 D2.kp b2 (ok_isRowOf F2 T (H1.mono (by decide)))
  have H3 := has_of (base := base) (P := P) (w := w) g3 D3.kp b3 (ok_isName F3 T gLet)
  have H4 := has_of (base := base) (P := P) (w := w) g4 D4.kp b4 (ok_oneForm0 F4 T gO)
  have H5 := has_of (base := base) (P := P) (w := w) g5 D5.kp b5 (ok_readSum2 F5 (H0.mono (by decide)) (H2.mono (by decide)) (H1.mono (by decide)) (H4.mono (by decide)))
  have H6 := has_of (base := base) (P := P) (w := w) g6 D6.kp b6 (ok_readWords2 F6 T (H1.mono (by decide)) (H5.mono (by decide)))
  have H7 := has_of (base := base) (P := P) (w := w) g7 D7.kp b7 (ok_readBranch2 F7 T N (H3.mono (by decide)) (H0.mono (by decide)))
  have H8 := has_of (base := base) (P := P) (w := w) g8 D8.kp b8 (ok_readRow2 F8 T (H1.mono (by decide)) (H3.mono (by decide)) (H0.mono (by decide)) (H7.mono (by decide)) (H6.mono (by decide)))
  have HR := has_of (base := base) (P := P) (w := w) g1 D1.kp b1 (ok_isRowR F1 T)
  have H9 := has_of (base := base) (P := P) (w := w) g9 D9.kp b9 (ok_readRows2 F9 T EB (HR.mono (by decide)) (H8.mono (by decide)))
  have H10 := has_of (base := base) (P := P) (w := w) g10 D10.kp b10 (ok_lengthOf F10 T)
  have H11 := has_of (base := base) (P := P) (w := w) g11 D11.kp b11 (ok_measured F11 T (H10.mono (by decide)))
  have H12 := has_of (base := base) (P := P) (w := w) g12 D12.kp b12 (ok_labelsIn F12 T)
  have H13 := has_of (base := base) (P := P) (w := w) g13 D13.kp b13 (ok_isTooLong F13 gLow gHi)
  have H15 := has_of (base := base) (P := P) (w := w) g15 D15.kp b15 (ok_wayIn F15)
  have H16 := has_of (base := base) (P := P) (w := w) g16 D16.kp b16 (ok_tooLong F16 (H11.mono (by decide)) (H13.mono (by decide)) (H15.mono (by decide)))
  have H14 := has_of (base := base) (P := P) (w := w) g14 D14.kp b14 (ok_grownFrom F14 T (H16.mono (by decide)))
  have H17 := has_of (base := base) (P := P) (w := w) g17 D17.kp b17 (ok_lrow F17 T)
  have H18 := has_of (base := base) (P := P) (w := w) g18 D18.kp b18 (ok_lcell F18 T)
  have H20 := has_of (base := base) (P := P) (w := w) g20 D20.kp b20 (ok_ldraft F20 T (H17.mono (by decide)))
  have H21 := has_of (base := base) (P := P) (w := w) g21 D21.kp b21 (ok_lbr F21 T)
  have H22 := has_of (base := base) (P := P) (w := w) g22 D22.kp b22 (ok_lsp F22 T)
  have H23 := has_of (base := base) (P := P) (w := w) g23 D23.kp b23 (ok_lou F23 T (H22.mono (by decide)) (H21.mono (by decide)))
  have H24 := has_of (base := base) (P := P) (w := w) g24 D24.kp b24 (ok_lbe F24 T)
  have H25 := has_of (base := base) (P := P) (w := w) g25 D25.kp b25 (ok_lwa F25 T (H24.mono (by decide)) (H22.mono (by decide)) (H21.mono (by decide)))
  have H26 := has_of (base := base) (P := P) (w := w) g26 D26.kp b26 (ok_llo F26 T (H25.mono (by decide)))
  have H27 := has_of (base := base) (P := P) (w := w) g27 D27.kp b27 (ok_lgr F27 T (H23.mono (by decide)) (H26.mono (by decide)))
  have H30 := has_of (base := base) (P := P) (w := w) g30 D30.kp b30 (ok_lmv F30 T)
  have H29 := has_of (base := base) (P := P) (w := w) g29 D29.kp b29 (ok_lrm F29 T (H27.mono (by decide)) (H25.mono (by decide)) (H22.mono (by decide)))
  have S0 := has_of (base := base) (P := P) (w := w) g19 D19.kp b19 (ok_same0 F19)
  have S1 := has_of (base := base) (P := P) (w := w) g19 D19.kp b19 (ok_same F19 T S0)
  have S2 := has_of (base := base) (P := P) (w := w) g19 D19.kp b19 (ok_same F19 T S1)
  have S3 := has_of (base := base) (P := P) (w := w) g19 D19.kp b19 (ok_same F19 T S2)
  have S4 := has_of (base := base) (P := P) (w := w) g19 D19.kp b19 (ok_same F19 T S3)
  have KM : MkD P w K mg base (He.ga K "Draft") (He.ga K "BadDraft") := ⟨⟨_, e0, KD, q0, ok_init M0 T B (H9.mono (by decide)) (H12.mono (by decide))⟩, gD⟩
  have YG : HasM P w K mg base CX0 5 (He.ga K "Draft") "grown" ["self"] (spGrown K (He.ga K "Draft")) := ⟨⟨_, e2, a2, q2, ok_grown M2 B (H14.mono (by decide))⟩, CD⟩
  have YE : HasM P w K mg base CX0 1 (He.ga K "Draft") "check_even" ["self"] (spCheckEven K (He.ga K "Draft")) := ⟨⟨_, e3, a3, q3, ok_checkEven M3 T B⟩, CD⟩
  have YA : HasM P w K mg base (L2.CX P w) 3 (He.ga K "Draft") "check_at" ["self", "at", "most"] (spCheckAt K (He.ga K "BadAt")) := ⟨⟨_, e4, a4, q4, ok_checkAt M4 EA (H0.mono (by decide))⟩, CD⟩
  have YR : HasM P w K mg base (L2.CX P w) 6 (He.ga K "Draft") "room" ["self", "at"] (spRoom K (He.ga K "Draft") (He.ga K "BadAt")) := ⟨⟨_, e5, a5, q5, ok_room M5 T B gLow gHi (YE.mono (by decide)) (YA.mono (by decide)) YG (H11.mono (by decide)) (H15.mono (by decide))⟩, CD⟩
  have YP : HasM P w K mg base (L2.CX P w) 9 (He.ga K "Draft") "put" ["self", "at", "row"] (spPut K (He.ga K "Draft") (He.ga K "BadDraft") (He.ga K "BadAt")) := ⟨⟨_, e6, a6, q6, ok_put M6 T B EH (YA.mono (by decide)) KM⟩, CD⟩
  have YW : HasM P w K mg base (L2.CX P w) 9 (He.ga K "Draft") "without" ["self", "at"] (spWithout K (He.ga K "Draft") (He.ga K "BadAt")) := ⟨⟨_, e7, a7, q7, ok_without M7 T B (YA.mono (by decide)) KM⟩, CD⟩
  have YN : HasM P w K mg base (L2.CX P w) 10 (He.ga K "Draft") "regrown" ["self", "at", "row"] (spRegrown K (He.ga K "Draft") (He.ga K "BadDraft") (He.ga K "BadAt")) := ⟨⟨_, e8, a8, q8, ok_regrown M8 T B YP (YG.mono (by decide))⟩, CD⟩
  have DQ : DrQ K (He.ga K "Draft") (He.ma K (He.ga K "Draft") "__eq__") := drqB_ok x5 a1.at_ a1.fn
  have FQ : FnOk P w K mg base CX0 1 (He.ma K (He.ga K "Draft") "__eq__") e1 ["self", "other"] (spEq (RD K (He.ga K "Draft"))) := ok_eq M1 T B DQ gD
  have MM : Met K mg (He.ga K "BadAt") (He.ga K "BadDraft") := ⟨⟨_, d28, g28, F28⟩, gA, gB, ⟨eA, XA, nA⟩, ⟨eB, XB, nB⟩, off⟩
  have H31 := has_of (base := base) (P := P) (w := w) g31 D31.kp b31 (ok_lrr F31 T (YR.mono (by decide)) (H27.mono (by decide)) (H30.mono (by decide)) (S1.mono (by decide)) (H29.mono (by decide)))
  have H32 := has_of (base := base) (P := P) (w := w) g32 D32.kp b32 (ok_lre F32 T (H27.mono (by decide)) (H30.mono (by decide)) (H21.mono (by decide)))
  have LL : TL P w K mg base (He.ga K "Draft") (He.ga K "BadAt") (He.ga K "BadDraft") (He.ma K (He.ga K "Draft") "__eq__") := ⟨T, H18, H17, H20, H31, H32, S3, S4, MM, B, DQ, KM, YR, YP, YW, YN, ⟨e1, FQ, q1⟩⟩
  exact ok_law CF LL TL1 (List.mem_cons_self ..) fun p hp _ => by rw [List.mem_singleton.mp hp]

end DR
open PySem PySem.W PySem.Calls PyProof.Rows
theorem PySem.Challenge.cw_loadanywhere_k57_one_row_more_holds : PySem.Challenge.rw_loadanywhere_k57_one_row_more.Holds := by
  w_on; o_law
  refine HandSHeadRun.head_any (r := DR.RR) (q := view DR.RR.prog [55]) (H := DR.hkk) (ob := DR.obb) (M := 6000) (loose := DR.loosL) (d := HandSHeadRun.topDef DR.RR.prog 55) (kwd := []) DR.obb_eq
    (by kernel_rfl) (fun s => by kernel_rfl) DR.runL (by kernel_rfl) (by kernel_rfl) (by kernel_rfl) (by rfl) (by first | assumption | decide +kernel) (by decide +kernel) ⟨rfl, rfl, rfl, rfl, rfl, by decide +kernel⟩ ?hw ?hc
  case hw => w_witness2
  case hc =>
    refine LamX.walk_ofTsE (l := PySem.Challenge.rw_loadanywhere_k57_one_row_more) (n := 63) (k := 14) (x := "script") (CX := fun w => L2.CX PySem.Challenge.rw_loadanywhere_k57_one_row_more.prog w) rfl (by decide) (by kernel_rfl) ⟨rfl, by decide, by decide⟩ ?F (fun _ _ _ _ _ z => by
      obtain ⟨_, _, _, _, _, _, _, _, _, _, _, _, y⟩ := z
      exact y.elim)
    intro w mg fa h Y G hmg0
    obtain ⟨K, KX, c⟩ := Y
    have hmg : mg ("law" : PySem.Str) = some (.ref fa) := by
      have e : (HandSHeadRun.topDef DR.RR.prog 55).name = ("law" : PySem.Str) := by kernel_rfl
      rw [← e]
      exact hmg0
    have gL := He.glo_ok KX G (c.t.d.fact 33 (f := .glo "law") rfl)
    have efa := hmg.symm.trans gL
    cases efa
    obtain ⟨fd, hb, hF⟩ := DR.facts (P := PySem.Challenge.rw_loadanywhere_k57_one_row_more.prog) (w := w) KX G c
    refine ⟨K, KX, fd, [DR.cL K], DR.spLaw K (DR.TT K), ?_, ?_, ?_, hb, ?_, ?_⟩
    · intro p hp
      obtain rfl := List.mem_singleton.mp hp
      exact c.empty ("law", none) (List.mem_cons_self ..)
    · intro p hp
      obtain rfl := List.mem_singleton.mp hp
      exact c.out ("law", none) (List.mem_cons_self ..)
    · intro p hp
      obtain rfl := List.mem_singleton.mp hp
      exact codeHd_of_K KX (c.hd ("law", none) (List.mem_cons_self ..))
    · intro H a ns _ _ hT hS
      refine ⟨a, ns, rfl, hS, fun p hp => ?_, fun _ => rfl⟩
      obtain rfl := List.mem_singleton.mp hp
      exact LamX.TabS.nil (hT (DR.cL K) (List.mem_cons_self ..))
    · intro base Xb Gb hT
      exact hF base Xb Gb (hT _ (List.mem_cons_self ..))
